/- HeadChains, walked whole. -/
import Derived.Test.YtmjdcpcndggflaaDoorHeadChains
import Derived.Deep.QuietTactic
import Derived.BigQuiet
set_option linter.unusedVariables false
set_option linter.unusedSimpArgs false
namespace Go.Proofs.YtmjdcpcndggflaaDoor
namespace Hed
open Go.RowKit Go.Maps Arn

theorem ChS.lay {w W0 w4 : World} {b i m g4 : Nat} {E : List Ent} {A : Ar} {M : Mem} {next s n : Int} {pre : List (Int × Ent)} {hv : Value} (S : ChS w b E (i + 1) m A M next pre hv W0) (hl : E.length ≤ 200) (hn : W64 n) (hb : entB s n next = true) (h4 : Frm.Turn [] W0 w4) (hg : W0.heap.size ≤ g4) (hw : WordsAt w4 (.slice (some ⟨g4, 0, none⟩) 3 3) [s, n, next]) :
    Calls Tryd.prog 25 #[.pointer (some ⟨b, 0, none⟩), .slice (some ⟨g4, 0, none⟩) 3 3] w4 fun e w' => e = .returned (.tuple #[.int .u64 (layH A), .int .i64 0]) ∧ After w b M (A.lay [s, n, next]).1 (m + 1) w4 w' := by
  have hsum := S.sum
  have h1 := (S.chd.lay (by omega) hn hb).1
  obtain ⟨_, s0, s1, _⟩ := entB_parts hb
  refine (sin_lay (S.sin.step h4) (by omega) hw (fun _ k hk hk' => ?_) (fun v hv => ?_)).mono ?_
  · simp [Value.ownBlock] at hk
    have := S.sin.lt hk'
    omega
  · simp at hv
    rcases hv with rfl | rfl | rfl
    · exact ⟨by omega, by omega⟩
    · exact hn
    · exact S.chd.n64
  · rintro e w' ⟨rfl, hA⟩
    rw [h1]
    exact ⟨rfl, hA⟩
set_option maxRecDepth 100000 in
set_option maxHeartbeats 8000000 in
theorem chains_far (a0 : Option Addr) (len cap : Nat) (w : World) (hk : Ops.Kn w) (hl : 200 < len) :
    Calls Tryd.prog 7 #[.slice a0 len cap] w fun e w' => e = .returned (.bool true) ∧ Frm.Turn [] w w' := by
  have HF := Lib.hid (first_any w hk)
  have i0 : (200 : Int) < (len : Int) := by omega
  clear hl hk
  go_enter Tryd.func7, Tryd.ntmps7
  go_wp2_with (go_at_call 8; (with_reducible refine (HF.out).mono ?_); rintro e w1 ⟨rfl, hT⟩; have WT := Lib.hid hT; clear hT)
  go_ret
  exact ⟨rfl, WT.out⟩
set_option maxRecDepth 100000 in
set_option maxHeartbeats 8000000 in
theorem chains_any (a0 : Option Addr) (E : List Ent) (cap : Nat) (w : World) (hk : Ops.Kn w) (hE : EntsAt w a0 E) (h64 : ∀ e, e ∈ E → W64 e.2.1) (hl : E.length ≤ 200) :
    Calls Tryd.prog 7 #[.slice a0 E.length cap] w fun e w' => e = .returned (.bool true) ∧ Frm.Turn [] w w' := by
  obtain ⟨u0, hu0, uz0, uz1, uz2⟩ := info_parts info_u64
  have HF := Lib.hid (first_any w hk)
  have HN : Hid (∀ W, Calls Tryd.prog 24 #[.int .i64 60000] W fun e w' => ∃ b M, e = .returned (.tuple #[.pointer (some ⟨b, 0, none⟩), .int .i64 0]) ∧ Sin W b M (Ar.new 60000) 0 w') := Lib.hid (fun W => sin_new 60000 W (Nat.le_refl _))
  have HK := Lib.hid hk
  have HE := Lib.hid hE
  have H64 := Lib.hid h64
  have HLE := Lib.hid hl
  obtain ⟨len, HLN⟩ : ∃ len, Hid (len = E.length) := ⟨_, Lib.hid rfl⟩
  rw [← HLN.out] at hl ⊢
  clear hk hE h64
  go_enter Tryd.func7, Tryd.ntmps7
  go_wp2_with (first
    | (go_at_call 8; (with_reducible refine (HF.out).mono ?_); rintro e w1 ⟨rfl, hT⟩; have WT := Lib.hid hT; clear hT)
    | (go_at_call 24; (with_reducible refine (HN.out _).mono ?_); rintro e w2 ⟨b, M0, rfl, hs⟩; have HS0 := Lib.hid (ChS.start (E := E) (sin_from hs WT.out)); clear hs))
  go_loopw [5, 6, 7] (fun nv hv iv wr => ∃ (i m : Nat) (z next : Int) (A : Ar) (M : Mem) (pre : List (Int × Ent)), nv = .int .u64 next ∧ iv = .int .i64 z ∧ Hid (z = (i : Int) - 1) ∧ ChS w b E i m A M next pre hv wr) (fun _ _ iv _ => (intOf iv + 1).toNat)
  case atStart => exact ⟨E.length, 0, _, 0, Ar.new 60000, M0, [], rfl, rfl, Lib.hid (by rw [HLN.out]), HS0.out⟩
  case round =>
    obtain ⟨i, m, z, next, A, M, pre, rfl, rfl, HZ, hS⟩ := hrel
    obtain ⟨ao, ac, rfl⟩ := Frm.row_form hS.row
    cases i with
    | succ i =>
      have hz : z = (i : Int) := by rw [HZ.out]; omega
      subst hz
      have hsum := hS.sum
      have hil : i < E.length := by omega
      obtain ⟨s, n, x, he⟩ : ∃ s n x, E[i]? = some (s, n, x) := ⟨_, _, _, List.getElem?_eq_getElem hil⟩
      obtain ⟨g, o, rfl, hcs⟩ := HE.out (by omega)
      obtain ⟨c0, c1, c2⟩ := hcs i s n x he
      have hn64 : W64 n := H64.out (s, n, x) (List.mem_of_getElem? he)
      have hTw := hS.sin.turn
      replace c0 := hTw.cell c0 (by simp)
      replace c1 := hTw.cell c1 (by simp)
      replace c2 := hTw.cell c2 (by simp)
      have i1 : (i : Int) < (len : Int) := by rw [HLN.out]; omega
      have i0 : (0 : Int) ≤ (i : Int) := by omega
      have hwsz := hTw.size
      have HIN := Lib.hid he
      have HN64 := Lib.hid hn64
      have HX64 := Lib.hid hS.chd.n64
      have HS := Lib.hid hS
      have HWR := Lib.hid hTw
      have hm200 : m ≤ 200 := by have := HLE.out; omega
      clear hS hcs he hsum hil hn64 hTw
      cases hb : entB s n next with
      | false =>
        have HEW := Lib.hid (fun W (hT : Frm.Turn [] wr W) => EntryWords_no s n next W (HK.out.turn (HWR.out.trans hT (by simp))) HN64.out HX64.out hb)
        clear hb
        go_wp2_with (go_at_call 11; (with_reducible refine (HEW.out _ ((Frm.Turn.refl [] wr).alloc _)).mono ?_); rintro e w4 ⟨rfl, hT⟩; have T4 := Lib.hid (((Frm.Turn.refl [] wr).alloc _).trans hT (by simp)); clear hT)
        go_ret
        exact ⟨rfl, HWR.out.trans T4.out (by simp)⟩
      | true =>
        have HB := Lib.hid hb
        have HEW := Lib.hid (fun W (hT : Frm.Turn [] wr W) => EntryWords_yes s n next W (HK.out.turn (HWR.out.trans hT (by simp))) HN64.out HX64.out hb)
        clear hb
        go_wp2_with (first
          | (go_at_call 11; (with_reducible refine (HEW.out _ ((Frm.Turn.refl [] wr).alloc _)).mono ?_); rintro e w4 ⟨g4, rfl, hw, hge, hT⟩; have T4 := Lib.hid (((Frm.Turn.refl [] wr).alloc _).trans hT (by simp)); have HLy := Lib.hid (ChS.lay HS.out HLE.out HN64.out HB.out T4.out (by simp at hge; omega) hw); clear hT hw hge)
          | (go_at_call 25; (with_reducible refine (HLy.out).mono ?_); rintro e w5 ⟨rfl, hA⟩; have HA5 := Lib.hid hA; have hb5 := (hA.choose_spec.1).turn.size; clear hA)
          | (at_builtin; go_must (refine Frm.wpList_append_rows _ rfl _ _ 28 rfl w.heap.size 22 u0 (.int .u64 0) 1 8 under_u64s hu0 uz0 uz1 uz2 rfl (by decide) (.slice (some ⟨w5.heap.size, 0, none⟩) 1 1) 1 [.int .u64 (layH A)] rfl (own_one w5 _ _ _ hb5) (.slice ao m ac) rfl m w.heap.size (u64s (hands pre)) (ChS.row5 HS.out T4.out HA5.out) (by intro u hu; simp [u64s] at hu; obtain ⟨q, _, rfl⟩ := hu; rfl) (by unfold maxLen; omega) (by omega) (by simp; omega) ?_); intro v6 w6 ho hg hd; obtain ⟨a6, c6, rfl⟩ := Frm.row_form ho; obtain ⟨M', hS'⟩ := ChS.more HS.out HLE.out HIN.out HN64.out HB.out T4.out HA5.out ho hg hd; have HS' := Lib.hid hS'; clear hS' ho hg hd))
        refine ⟨⟨i, m + 1, _, layH A, _, M', _, rfl, rfl, Lib.hid rfl, HS'.out⟩, ?_⟩
        simp [intOf] <;> omega
    | zero =>
      have hz : z = -1 := by rw [HZ.out]; omega
      subst hz
      have hm : m = len := by have := hS.sum; rw [HLN.out]; omega
      subst hm
      have HS := Lib.hid hS
      have HWR := Lib.hid hS.sin.turn
      have HLi := Lib.hid (chain_list hS.sin (HK.out.turn hS.sin.turn) hS.chd (by omega))
      clear hS
      go_wp2_with (first
        | (go_at_call 20; (with_reducible refine (HLi.out).mono ?_); rintro e w7 ⟨v7, rfl, ho, hT⟩; obtain ⟨a7, c7, rfl⟩ := Frm.row_form ho; have HO7 := Lib.hid ho; have T7 := Lib.hid hT; have HHa := Lib.hid (chain_hands (HS.out.sin.step hT) (HK.out.turn (HWR.out.trans hT (by simp))) HS.out.chd (by omega)); clear ho hT)
        | (go_at_call 21; (with_reducible refine (HHa.out).mono ?_); rintro e w8 ⟨v8, rfl, ho, hT⟩; obtain ⟨a8, c8, rfl⟩ := Frm.row_form ho; have T8 := Lib.hid (T7.out.trans hT (by simp)); have HO7 := Lib.hid (Frm.owns_turn HO7.out hT (by simp)); have HWd := Lib.hid (Words_same (words_of_row ho) (words_of_row (Frm.owns_turn HS.out.row T8.out (by simp))) (by have := HS.out.chd.len; simp [hands]; omega)); clear ho hT)
        | (go_at_call 13; (with_reducible refine (HWd.out).mono ?_); rintro e w9 ⟨rfl, hT⟩; have T9 := Lib.hid (T8.out.trans hT (by simp)); have HO7 := Lib.hid (Frm.owns_turn HO7.out hT (by simp)); clear hT))
      go_loopw [88] (fun i wq => ∃ j : Nat, j ≤ m ∧ i = .int .i64 (j : Int) ∧ Frm.Turn [] w9 wq) (fun i _ => m - (intOf i).toNat)
      case atStart => exact ⟨0, Nat.zero_le _, rfl, Frm.Turn.refl [] _⟩
      case round =>
        obtain ⟨j, hj, rfl, hT⟩ := hrel
        by_cases hlt : j < m
        · have hjl : j < E.length := by rw [← HLN.out]; exact hlt
          obtain ⟨s, n, x, he⟩ : ∃ s n x, E[j]? = some (s, n, x) := ⟨_, _, _, List.getElem?_eq_getElem hjl⟩
          obtain ⟨g, o, rfl, hcs⟩ := HE.out (by omega)
          obtain ⟨c0, c1, _⟩ := hcs j s n x he
          have hT0 := (HWR.out.trans T9.out (by simp)).trans hT (by simp)
          replace c0 := hT0.cell c0 (by simp)
          replace c1 := hT0.cell c1 (by simp)
          obtain ⟨h, y, hp⟩ := HS.out.fits j (s, n, x) (by rw [Nat.zero_add]; exact he)
          obtain ⟨e0, e1⟩ := entCells_at hp
          have hrow := Frm.owns_turn HO7.out hT (by simp)
          obtain ⟨g7, hg7, d0, d1⟩ : ∃ g7, a7 = some ⟨g7, 0, none⟩ ∧ wr.cell? ⟨g7, j * 3, none⟩ = some (.int .i64 s) ∧ wr.cell? ⟨g7, j * 3 + 1, none⟩ = some (.int .u64 n) := by
            rcases hrow.2 with ⟨_, e2⟩ | ⟨g7, c', cur, e2, _⟩
            · omega
            · simp only [Value.slice.injEq] at e2
              obtain ⟨rfl, _, rfl⟩ := e2
              refine ⟨g7, rfl, ?_, ?_⟩
              · have := World.ownsRow.cells hrow rfl _ _ e0
                rwa [Addr.add_mid, Nat.zero_add] at this
              · have := World.ownsRow.cells hrow rfl _ _ e1
                rwa [Addr.add_mid, Nat.zero_add] at this
          subst hg7
          have i1 : (j : Int) < (m : Int) := by omega
          have i0 : (0 : Int) ≤ (j : Int) := by omega
          have HT := Lib.hid hT
          clear hT hcs he hT0 hp e0 e1 hrow hjl
          go_wp2_with fail
          go_quiet (fail)
          go_wp2
          refine ⟨⟨j + 1, by omega, by simp, by repeat (first | exact HT.out | apply Frm.Turn.drewN | apply Frm.Turn.drew)⟩, ?_⟩
          simp [intOf]; omega
        · obtain rfl : j = m := by omega
          have HT := Lib.hid ((HWR.out.trans T9.out (by simp)).trans hT (by simp))
          clear hT
          go_wp2
          go_ret
          exact ⟨rfl, HT.out⟩
end Hed
end Go.Proofs.YtmjdcpcndggflaaDoor
