/- The walk of AtticBack. -/
import Derived.Test.YtlghinjggkgfmaaGreatAttFirst
import Derived.Test.YtlghinjggkgfmaaGreatHoldLaw
set_option linter.unusedVariables false
set_option linter.unusedSimpArgs false
namespace Go.Proofs.YtlghinjggkgfmaaGreat
namespace Att
open Go.RowKit Go.Maps Arn Pac Clm Cnt Sta Hld

variable {w W W' : World} {b k n m r s base ar : Nat} {V : Nat → Value} {lg : Value} {L : Nat → List Int} {z : Nat → Int} {sl : Nat → Nat}
/-- What stands in the lists behind j puts. -/
def Lp (z : Nat → Int) (sl : Nat → Nat) : Nat → Nat → List Int
  | 0, _ => []
  | j + 1, s => if sl j = s then Lp z sl j s ++ [z j] else Lp z sl j s
theorem Lp_len : ∀ j s, (Lp z sl j s).length ≤ j
  | 0, s => Nat.le_refl _
  | j + 1, s => by
    have := Lp_len j s
    unfold Lp
    split
    · simp; omega
    · omega
theorem Lp_at (j : Nat) : Lp z sl (j + 1) (sl j) = Lp z sl j (sl j) ++ [z j] := by
  conv => lhs; unfold Lp
  rw [if_pos rfl]
theorem Lp_ne {j s : Nat} (h : sl j ≠ s) : Lp z sl (j + 1) s = Lp z sl j s := by
  conv => lhs; unfold Lp
  rw [if_neg h]
theorem Lp_put {j : Nat} : upA (Lp z sl j) (sl j) (Lp z sl j (sl j) ++ [z j]) = Lp z sl (j + 1) := by
  funext s
  by_cases e : s = sl j
  · subst e; rw [upA_at, Lp_at]
  · rw [upA_ne _ _ e, Lp_ne (fun h => e h.symm)]
structure BS (w : World) (ar : Nat) (L : Nat → List Int) (W : World) : Prop where
  ls : ∃ V, Lists W w.heap.size ar L V (.slice none 0 0)
  turn : Frm.Turn [] w W
  low : w.heap.size ≤ ar
theorem BS.lists_low (h : BS w ar L W) {V : Nat → Value} (hl : Lists W w.heap.size ar L V (.slice none 0 0)) (hs : s < 255) {W' : World} (hT : Frm.Turn (ar :: (V s).ownBlock.toList) W W') : Frm.Turn [] w W' :=
  h.turn.trans hT (fun q hq => .inr (by
    rcases List.mem_cons.1 hq with rfl | hq
    · exact h.low
    · exact ((hl.row s hs).lt q (by simpa using hq)).1))
/-- One is put: there may be no such slot. -/
theorem bs_put {x : Int} (h : BS w ar (Lp z sl n) W) (hs : sl n < 256) (hn : n ≤ 1000) (hx : x = z n) :
    Calls Tryz.prog 11 #[.pointer (some ⟨ar, 0, none⟩), .int .i64 (sl n), .slice (some ⟨W.heap.size, 0, none⟩) 1 1] (W.alloc (.cells #[.int .u64 x] 25)) fun e w' => e = .returned (.tuple #[]) ∧ ∃ L', BS w ar L' w' ∧ ∀ s, s < 255 → L' s = Lp z sl (n + 1) s := by
  subst hx
  have hT0 : Frm.Turn [] W (W.alloc (.cells #[.int .u64 (z n)] 25)) := (Frm.Turn.refl [] W).alloc _
  obtain ⟨V, hl⟩ := h.ls
  by_cases hs2 : sl n < 255
  · have hlen := Lp_len (z := z) (sl := sl) n (sl n)
    refine (put_some (l := [z n]) (a := ⟨W.heap.size, 0, none⟩) (c := 1) (hl.still hT0) hs2 (fun j u hu => ?_) (by simp; omega) (by have := h.turn.size; have := hT0.size; omega)).mono ?_
    · rw [Addr.add_mid, Nat.zero_add, Frm.cell_row _ _ _ _ _ _ (World.alloc_heap_new _ _)]
      simpa [u64s] using hu
    · rintro e w' ⟨he, v', h1, h2, h3⟩
      rw [Lp_put] at h1
      refine ⟨he, _, ⟨⟨_, h1⟩, ?_, h.low⟩, fun s hs => rfl⟩
      exact BS.lists_low ⟨⟨V, hl.still hT0⟩, h.turn.trans hT0 (by simp), h.low⟩ (hl.still hT0) hs2 h2
  · have e255 : sl n = 255 := by omega
    refine (put_out (sl n : Int) _ _ (.inr (by omega))).mono ?_
    rintro e w' ⟨he, rfl⟩
    exact ⟨he, _, ⟨⟨V, hl.still hT0⟩, h.turn.trans hT0 (by simp), h.low⟩, fun s hs => (Lp_ne (by omega)).symm⟩
theorem Lists.congr {L' : Nat → List Int} (h : Lists W base r L V lg) (he : ∀ s, s < 255 → L' s = L s) : Lists W base r L' V lg :=
  ⟨h.body, fun i hi => by rw [he i hi]; exact h.row i hi, h.apart, h.vr⟩
theorem BS.congr {L' : Nat → List Int} (h : BS w ar L W) (he : ∀ s, s < 255 → L' s = L s) : BS w ar L' W := by
  obtain ⟨V, hl⟩ := h.ls
  exact ⟨⟨V, hl.congr he⟩, h.turn, h.low⟩
/-- One is taken again. -/
theorem bs_take {x : Int} (h : BS w ar L W) (hp : ∀ s, s < 255 → (L s).Perm (Lp z sl (n + 1) s)) (hs : sl n < 256) (hn : n ≤ 1000) (hx : x = z n) :
    Calls Tryz.prog 14 #[.pointer (some ⟨ar, 0, none⟩), .int .i64 (sl n), .int .u64 x] W fun e w' => e = .returned (.bool (decide (sl n ≠ 255))) ∧ ∃ L', BS w ar L' w' ∧ ∀ s, s < 255 → (L' s).Perm (Lp z sl n s) := by
  subst hx
  obtain ⟨V, hl⟩ := h.ls
  by_cases hs2 : sl n < 255
  · have hp1 := hp (sl n) hs2
    rw [Lp_at] at hp1
    have hlen := Lp_len (z := z) (sl := sl) (n + 1) (sl n)
    have hl2 := (hp (sl n) hs2).length_eq
    have hm : z n ∈ L (sl n) := hp1.mem_iff.2 (by simp)
    rw [decide_eq_true (show sl n ≠ 255 by omega)]
    refine (take_any hl hs2 (z n) (by omega)).mono ?_
    rintro e w' ⟨he, V', h1, h2, h3⟩
    rw [decide_eq_true hm] at he
    refine ⟨he, _, ⟨⟨_, h1⟩, h.lists_low hl hs2 h2, h.low⟩, fun s hs => ?_⟩
    by_cases e : s = sl n
    · subst e
      rw [upA_at]
      refine (hp1.erase (z n)).trans ?_
      have h5 : ((Lp z sl n (sl n) ++ [z n]).erase (z n)).Perm (Lp z sl n (sl n)) := by
        have h6 : (Lp z sl n (sl n) ++ [z n]).Perm (z n :: Lp z sl n (sl n)) := List.perm_append_singleton _ _
        have h7 := h6.erase (z n)
        rwa [List.erase_cons_head] at h7
      exact h5
    · rw [upA_ne _ _ e]
      have := hp s hs
      rwa [Lp_ne (fun h => e h.symm)] at this
  · have e255 : sl n = 255 := by omega
    rw [decide_eq_false (show ¬ sl n ≠ 255 by omega)]
    refine (take_out (sl n : Int) (z n) _ (.inr (by omega))).mono ?_
    rintro e w' ⟨he, rfl⟩
    refine ⟨he, _, h, fun s hs => ?_⟩
    have := hp s hs
    rwa [Lp_ne (by omega)] at this
theorem allW_nil : ∀ {n : Nat}, (∀ s, s < n → L s = []) → allW L n = [] := by
  intro n
  induction n with
  | zero => intro _; rfl
  | succ n ih =>
    intro h
    show allW L n ++ L n = []
    rw [ih (fun s hs => h s (by omega)), h n (by omega)]
    rfl
theorem rem_run (j m : Nat) (hm : m ≠ 0) (hj : j ≤ 1000) (w : World) : (binOp BinOp.rem 3 (.int .i64 (j : Int)) (.int .i64 (m : Int))).run Tryz.prog w = .ok (.int .i64 ((j % m : Nat) : Int)) w := by
  have h1 : ¬ (m : Int) = 0 := by omega
  have md0 : (j : Int) % (m : Int) = ((j % m : Nat) : Int) := by omega
  have md1 : (j : Int).tmod (m : Int) = ((j % m : Nat) : Int) := by rw [Int.tmod_eq_emod_of_nonneg (by omega)]; exact md0
  have hle := Nat.mod_le j m
  have h3 : IntKind.i64.wrap ((j % m : Nat) : Int) = ((j % m : Nat) : Int) := by rw [IntKind.wrap_i64]; omega
  simp [binOp, go_sem, h1, md1, h3, hm]
set_option maxRecDepth 100000 in
set_option maxHeartbeats 8000000 in
theorem back_any (lv sv : Value) (z y : Nat → Int) (n m : Nat) (w : World) (hz : KindC .u64 w lv z n) (hy : KindC .u8 w sv y m) (hy8 : ∀ i, i < m → 0 ≤ y i ∧ y i < 256) (hn : n ≤ maxLen) (hm : m ≤ maxLen) :
    Calls Tryz.prog 6 #[lv, sv] w fun e w' => e = .returned (.bool true) ∧ Frm.Turn [] w w' := by
  have HF := Lib.hid (first15 w)
  obtain ⟨⟨ao, ac, rfl⟩, hz2⟩ := hz
  obtain ⟨⟨so, sc, rfl⟩, hy2⟩ := hy
  have HZ := Lib.hid hz2
  have HY := Lib.hid hy2
  have HY8 := Lib.hid hy8
  have hn9 : n ≤ 9223372036854775807 := by simpa [maxLen] using hn
  have hm9 : m ≤ 9223372036854775807 := by simpa [maxLen] using hm
  clear hz2 hy2 hy8 hn hm
  by_cases hbig : 100 < n
  · have hbig' : (100 : Int) < (n : Int) := by omega
    go_enter Tryz.func6, Tryz.ntmps6
    go_wp2_with (first
      | (go_at_call 8; (with_reducible refine (HF.out).mono ?_); rintro e w1 ⟨rfl, hT⟩; have HT1 := Lib.hid hT; clear hT))
    go_ret
    exact ⟨rfl, HT1.out⟩
  have hbig' : ¬ (100 : Int) < (n : Int) := by omega
  by_cases hm0 : m = 0
  · have hm1 : ((m : Int) == 0) = true := by subst hm0; rfl
    have hm2 : (m : Int) = 0 := by omega
    go_enter Tryz.func6, Tryz.ntmps6
    go_wp2_with (first
      | (go_at_call 8; (with_reducible refine (HF.out).mono ?_); rintro e w1 ⟨rfl, hT⟩; have HT1 := Lib.hid hT; clear hT))
    go_ret
    exact ⟨rfl, HT1.out⟩
  have hm1 : ((m : Int) == 0) = false := by simpa using (by omega : ¬ (m : Int) = 0)
  have hm2 : ¬ (m : Int) = 0 := by omega
  obtain ⟨sl, HSL⟩ : ∃ sl : Nat → Nat, Hid (∀ i, (sl i : Int) = y (i % m) ∧ sl i < 256) := ⟨fun i => (y (i % m)).toNat, Lib.hid (fun i => by
    obtain ⟨q1, q2⟩ := HY8.out (i % m) (Nat.mod_lt _ (by omega))
    dsimp only
    constructor <;> omega)⟩
  have HM0 := Lib.hid hm0
  have HNB : Hid (n ≤ 100) := Lib.hid (by omega)
  have HCY : Hid (∀ i wr, Frm.Turn [] w wr → ∃ ga, so = some ga ∧ wr.cell? (ga.add (i % m)) = some (.int .u8 (y (i % m)))) := Lib.hid (fun i wr hT => by
    rcases HY.out with e | ⟨ga, c, e, hc⟩
    · exact absurd e HM0.out
    · cases e
      exact ⟨ga, rfl, hT.cell (hc _ (Nat.mod_lt _ (by have := HM0.out; omega))) (by simp)⟩)
  have HCZ : Hid (∀ i wr, i < n → Frm.Turn [] w wr → ∃ ga, ao = some ga ∧ wr.cell? (ga.add i) = some (.int .u64 (z i))) := Lib.hid (fun i wr hi hT => by
    rcases HZ.out with e | ⟨ga, c, e, hc⟩
    · omega
    · cases e
      exact ⟨ga, rfl, hT.cell (hc _ hi) (by simp)⟩)
  clear hm0 hbig
  go_enter Tryz.func6, Tryz.ntmps6
  go_wp2_with (first
    | (go_at_call 8; (with_reducible refine (HF.out).mono ?_); rintro e w1 ⟨rfl, hT⟩; have HT1 := Lib.hid hT; have HNW := Lib.hid (new_any (base := w.heap.size) w1); clear hT)
    | (go_at_call 9; (with_reducible refine (HNW.out).mono ?_); rintro e w2 ⟨rfl, hl, hT, hlt⟩; have HB2 : Hid (BS w w1.heap.size (Lp z sl 0) w2) := Lib.hid ⟨⟨_, hl⟩, HT1.out.trans hT (by simp), HT1.out.size⟩; clear hl hT hlt))
  clear HF HNW
  generalize w1.heap.size = ar at HB2 ⊢
  go_loopw [24] (fun i wr => ∃ j : Nat, j ≤ n ∧ i = .int .i64 j ∧ BS w ar (Lp z sl j) wr) (fun i _ => n - (intOf i).toNat)
  case atStart => exact ⟨0, Nat.zero_le _, rfl, HB2.out⟩
  case round =>
    obtain ⟨j, hj, rfl, hB⟩ := hrel
    clear HB2
    have j0 : (0 : Int) ≤ (j : Int) := by omega
    by_cases hlt : j < n
    · have hj1 : (j : Int) < (n : Int) := by omega
      have j1 : (j : Int) ≤ 100 := by have := HNB.out; omega
      obtain ⟨ga, rfl, c0⟩ := HCZ.out j wr hlt hB.turn
      obtain ⟨sa, rfl, c1⟩ := HCY.out j wr hB.turn
      obtain ⟨s1, s2⟩ := HSL.out j
      have hrem := rem_run j m HM0.out (by omega)
      have md2 : j % m < m := Nat.mod_lt _ (by have := HM0.out; omega)
      have md3 : (0 : Int) ≤ ((j % m : Nat) : Int) := by omega
      have md4 : ((j % m : Nat) : Int) < (m : Int) := by omega
      rw [← s1] at c1
      have s3 : (0 : Int) ≤ (sl j : Int) := by omega
      have s4 : (sl j : Int) < 256 := by omega
      clear s1
      have HPU := Lib.hid (bs_put hB s2 (by omega) (x := z j) rfl)
      have HJ := Lib.hid hlt
      clear hB hlt hj HCZ HCY
      generalize z j = x at c0 HPU
      go_upto_region 11 with (go_at_call 11; (with_reducible refine (HPU.out).mono ?_); rintro e w3 ⟨rfl, L', hB, hL⟩; have HB3 := Lib.hid (hB.congr (fun s hs => (hL s hs).symm)); clear hB hL)
      have HTO := Lib.hid (fun h => take_out (r := ar) (sl j : Int) x w3 h)
      by_cases e255 : sl j = 255
      · have e1 : (sl j : Int) = 255 := by omega
        have HTO2 := Lib.hid (HTO.out (.inr (by omega)))
        rw [e1] at HTO2
        clear s3 s4 HTO
        go_wp2_with (go_at_call 14; (with_reducible refine (HTO2.out).mono ?_); rintro e w4 ⟨rfl, rfl⟩)
        exact ⟨⟨j + 1, by have := HJ.out; omega, by simp, HB3.out⟩, by simp [intOf]; have := HJ.out; omega⟩
      · have e1 : ((sl j : Int) == 255) = false := by simpa using (by omega : ¬ (sl j : Int) = 255)
        have e2 : ¬ (sl j : Int) = 255 := by omega
        clear HTO
        go_wp2_with fail
        exact ⟨⟨j + 1, by have := HJ.out; omega, by simp, HB3.out⟩, by simp [intOf]; have := HJ.out; omega⟩
    · obtain rfl : j = n := by omega
      have hjj : ¬ (j : Int) < (j : Int) := by omega
      have HB3 := Lib.hid hB
      have j1 : (j : Int) ≤ 100 := by have := HNB.out; omega
      clear hB hlt hj
      go_wp2_with fail
      go_loopw [9] (fun i wr => ∃ (t : Nat) (L : Nat → List Int), t ≤ j ∧ i = .int .i64 ((t : Int) - 1) ∧ BS w ar L wr ∧ ∀ s, s < 255 → (L s).Perm (Lp z sl t s)) (fun i _ => ((intOf i) + 1).toNat)
      case atStart => exact ⟨j, _, Nat.le_refl _, by simp, HB3.out, fun s hs => List.Perm.refl _⟩
      case round =>
        obtain ⟨t, L, ht, rfl, hB, hp⟩ := hrel
        clear HB3
        cases t with
        | zero =>
          have t0 : ¬ (0 : Int) ≤ ((0 : Nat) : Int) - 1 := by omega
          have hnil : ∀ s, s < 255 → L s = [] := fun s hs => List.perm_nil.1 (hp s hs)
          have hall := allW_nil hnil
          obtain ⟨V, hl⟩ := hB.ls
          have hq1 := len_any hl (by rw [hall]; decide)
          have hq2 := all_any hl (by rw [hall]; decide)
          rw [hall] at hq1 hq2
          have HQ1 := Lib.hid hq1
          have HQ2 := Lib.hid hq2
          have HT := Lib.hid hB.turn
          have e0 : (([] : List Int).length : Int) = 0 := rfl
          rw [e0] at HQ1
          have e00 : ([] : List Int).length = 0 := rfl
          rw [e00] at HQ2
          have e01 : ((0 : Nat) : Int) = 0 := rfl
          clear hnil hall hl hq1 hq2 hB hp ht e0 e00
          go_wp2_with (first
            | (go_at_call 17; (with_reducible refine (HQ1.out).mono ?_); rintro e wn ⟨rfl, rfl⟩)
            | (go_at_call 19; (with_reducible refine (HQ2.out).mono ?_); rintro e wn ⟨ao2, c2, rfl, ho, hT2⟩; have HT3 := Lib.hid (HT.out.trans hT2 (by simp)); clear ho hT2))
          go_ret
          exact ⟨rfl, HT3.out⟩
        | succ t =>
          have e1 : (((t + 1 : Nat) : Int) - 1) = (t : Int) := by omega
          rw [e1]
          have t0 : (0 : Int) ≤ (t : Int) := by omega
          have hlt : t < j := by omega
          have t1 : (t : Int) < (j : Int) := by omega
          have t2 : (t : Int) ≤ 100 := by omega
          obtain ⟨ga, rfl, c0⟩ := HCZ.out t wr hlt hB.turn
          obtain ⟨sa, rfl, c1⟩ := HCY.out t wr hB.turn
          obtain ⟨s1, s2⟩ := HSL.out t
          have hrem := rem_run t m HM0.out (by omega)
          have md2 : t % m < m := Nat.mod_lt _ (by have := HM0.out; omega)
          have md3 : (0 : Int) ≤ ((t % m : Nat) : Int) := by omega
          have md4 : ((t % m : Nat) : Int) < (m : Int) := by omega
          rw [← s1] at c1
          clear s1
          have htk := bs_take hB hp s2 (by have := HNB.out; omega) (x := z t) rfl
          have hne : decide (sl t ≠ 255) = ((sl t : Int) != 255) := by
            by_cases e : sl t = 255
            · simp [e]
            · have : ¬ (sl t : Int) = 255 := by omega
              simp [e, this]
          have hw : IntKind.i64.wrap ((t : Int) - 1) = (t : Int) - 1 := by rw [IntKind.wrap_i64]; omega
          have hw2 : wrap64 ((t : Int) - 1) = (t : Int) - 1 := by unfold wrap64; omega
          have s3 : (0 : Int) ≤ (sl t : Int) := by omega
          have s4 : (sl t : Int) < 256 := by omega
          have HTL : Hid (t ≤ j) := Lib.hid (by omega)
          obtain ⟨bz, hbz⟩ : ∃ bz, bz = decide (sl t ≠ 255) := ⟨_, rfl⟩
          rw [← hbz] at htk hne
          have HTK := Lib.hid htk
          clear hB hp htk HCZ HCY ht e1 hlt hbz
          generalize z t = x at c0 HTK
          by_cases e255 : sl t = 255
          · have e2 : (sl t : Int) = 255 := by omega
            have e3 : bz = false := by rw [hne, e2]; rfl
            subst e3
            rw [e2] at HTK c1
            clear s3 s4 hne e2
            go_wp2_with (go_at_call 14; (with_reducible refine (HTK.out).mono ?_); rintro e w4 ⟨rfl, L4, hB, hp⟩; have HB4 := Lib.hid (And.intro hB hp); clear hB hp)
            exact ⟨⟨t, L4, HTL.out, rfl, HB4.out.1, HB4.out.2⟩, by simp [intOf]⟩
          · have e2 : ¬ (sl t : Int) = 255 := by omega
            have e4 : ((sl t : Int) != 255) = true := by simpa using e2
            have e3 : bz = true := by rw [hne, e4]
            subst e3
            clear hne
            go_wp2_with (go_at_call 14; (with_reducible refine (HTK.out).mono ?_); rintro e w4 ⟨rfl, L4, hB, hp⟩; have HB4 := Lib.hid (And.intro hB hp); clear hB hp)
            exact ⟨⟨t, L4, HTL.out, rfl, HB4.out.1, HB4.out.2⟩, by simp [intOf]⟩
end Att
end Go.Proofs.YtlghinjggkgfmaaGreat
