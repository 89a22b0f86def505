/- As many steps as accesses: one of three machines, whichever. -/
import Derived.Test.YtkjcccjkfjebaaaPaceCountsWalk
import Derived.Deep.DeepCutAuto
set_option linter.unusedVariables false
set_option linter.unusedSimpArgs false
namespace Go.Proofs.Ytkjcccjkfjebaaa
namespace Pac
open Go.RowKit Go.Maps Arn

theorem Mach.imp {w W : World} {b n : Nat} {K : List Nat} {A : Ar} {P P' : List Nat → World → Prop} (h : Mach w b K A n P W) (hi : ∀ F, P F W → P' F W) : Mach w b K A n P' W := by
  obtain ⟨M, F, hs, hp, r⟩ := h
  exact ⟨M, F, hs, hi F hp, r⟩
theorem Mach.ex {α : Type} {w W : World} {b n : Nat} {K : List Nat} {A : Ar} {P : α → List Nat → World → Prop} (h : Mach w b K A n (fun F W => ∃ x, P x F W) W) : ∃ x, Mach w b K A n (P x) W := by
  obtain ⟨M, F, hs, ⟨x, hp⟩, r⟩ := h
  exact ⟨x, M, F, hs, hp, r⟩
theorem Mach.fact {w W : World} {b n : Nat} {K : List Nat} {A : Ar} {P : List Nat → World → Prop} {C : Prop} (h : Mach w b K A n P W) (hi : ∀ F, P F W → C) : C := by
  obtain ⟨M, F, hs, hp, r⟩ := h
  exact hi F hp
theorem mach_clone {w W : World} {b n : Nat} {K : List Nat} {A : Ar} {P : List Nat → World → Prop} (h : Mach w b K A n P W) :
    Calls Try.prog 27 #[.pointer (some ⟨b, 0, none⟩)] W fun e w' => ∃ c Mc, e = .returned (.pointer (some ⟨c, 0, none⟩)) ∧ ArAt w' c Mc A ∧ Frm.Turn [] W w' := by
  obtain ⟨M, F, hs, r⟩ := h
  exact (Arn.aclone_any hs.at_).mono fun e w' ⟨c, Mc, he, hm, _, hT⟩ => ⟨c, Mc, he, hm, hT⟩
theorem mach_same {w W : World} {b n c : Nat} {K : List Nat} {A : Ar} {P : List Nat → World → Prop} {Mc : Mem} (h : Mach w b K A n P W) (hc : ArAt W c Mc A) (hr : sameAr A A = true) :
    Calls Try.prog 28 #[.pointer (some ⟨b, 0, none⟩), .pointer (some ⟨c, 0, none⟩)] W fun e w' => e = .returned (.bool true) ∧ Frm.Turn [] W w' := by
  obtain ⟨M, F, hs, r⟩ := h
  have := same_any hs.at_ hc
  rw [hr] at this
  exact this

abbrev mv (q1 q2 q3 : Option Addr) : Value := .agg #[.pointer q1, .pointer q2, .pointer q3]
theorem sameAr_self (A : Ar) : sameAr A A = true := by
  unfold sameAr sameSet
  simp only [beq_self_eq_true, decide_true, Bool.true_and, List.all_eq_true]
  intro x hx
  unfold sameAs
  simp only [List.any_eq_true]
  exact ⟨x, hx, by simp⟩
/-- What the walk asks of a machine: St i f: behind i steps; f: it has ended ahead of its time. -/
structure Kit (w : World) (b : Nat) (q1 q2 q3 : Option Addr) (n : Nat) (kk : Int) (St : Nat → Bool → List Nat → World → Prop) : Prop where
  stays : ∀ i f, Stays (St i f)
  done : ∀ i f K A m W, i ≤ n → Mach w b K A m (St i f) W → Calls Try.prog 49 #[mv q1 q2 q3] W fun e w' => e = .returned (.bool (decide (n ≤ i) || f)) ∧ Frm.Turn [] W w'
  step : ∀ i K A m W, i < n → m ≤ 5000000 → Mach w b K A m (St i false) W → Calls Try.prog 52 #[mv q1 q2 q3] W fun e w' => e = .returned (.tuple #[]) ∧ ∃ A' f, Mach w b K A' (m + 1) (St (i + 1) f) w' ∧ Aside w K W w'
  last : ∀ i f K A m W, (n ≤ i ∨ f = true) → i ≤ n → Mach w b K A m (St i f) W → Calls Try.prog 52 #[mv q1 q2 q3] W fun e w' => e = .returned (.tuple #[]) ∧ Frm.Turn [] W w'
  two : ∀ i F W, St i true F W → kk = 2 ∧ 1 ≤ i
  err : ∀ i K A m W, Mach w b K A m (St i true) W → Calls Try.prog 50 #[.pointer q3] W fun e w' => ∃ x : Int, (x == 0) = false ∧ e = .returned (.int .i64 x) ∧ W = w'
  handles : ∀ i K A m W, i ≤ n → Mach w b K A m (St i true) W → Calls Try.prog 51 #[.pointer q3] W fun e w' => ∃ ao c, e = .returned (.slice ao (i - 1) c) ∧ Frm.Turn [] W w'
def nOf (kk : Int) (nx nh np : Nat) : Nat := if kk = 0 then nx else if kk = 1 then nh else np

set_option maxRecDepth 100000 in
set_option maxHeartbeats 8000000 in
theorem counts_gen (wv : Value) (ap : Option Addr) (np cp : Nat) (R Q : List RowV) (kind : Int) (ax ah : Option Addr) (nx cx nh ch : Nat) (w : World) (hw : RowsAt w wv R) (hp : RowsAt w (.slice ap np cp) Q) (hs : heft R + (10 + nx + nh) + heft Q ≤ 1000000000) (hg : ¬ 2000 < heft R + (10 + nx + nh) + heft Q)
    (h64 : ∀ x, x ∈ R → (∀ z, z ∈ x.2 → W64 z) ∧ x.2.length ≤ 9223372036854775807) (kk : Int) (hkk : kk = 0 ∨ kk = 1 ∨ kk = 2) (hk : kindOf kind = kk) (n : Nat) (hn : n = nOf kk nx nh np) (hnl : n ≤ 2000)
    (hM : ∀ W b, Frm.Turn [] w W → Calls Try.prog 48 #[.pointer (some ⟨b, 0, none⟩), .agg #[.int .i64 kind, .slice ax nx cx, .slice ah nh ch, .slice ap np cp]] W fun e w' => ∃ q1 q2 q3 St F, e = .returned (mv q1 q2 q3) ∧ (∀ w0, Kit w0 b q1 q2 q3 n kk St) ∧ St 0 false F w' ∧ (∀ k, k ∈ F → W.heap.size ≤ k ∧ k < w'.heap.size) ∧ Frm.Turn [] W w') :
    Calls Try.prog 7 #[wv, .agg #[.int .i64 kind, .slice ax nx cx, .slice ah nh ch, .slice ap np cp]] w fun e w' => e = .returned (.bool true) ∧ Frm.Turn [] w w' := by
  have HG := Lib.hid (fun W (hT : Frm.Turn [] w W) g (c0 : W.cell? ⟨g, 0, none⟩ = some (.int .i64 kind)) (c1 : W.cell? ⟨g, 1, none⟩ = some (.slice ax nx cx)) (c2 : W.cell? ⟨g, 2, none⟩ = some (.slice ah nh ch)) (c3 : W.cell? ⟨g, 3, none⟩ = some (.slice ap np cp)) =>
    great_any wv (.slice ap np cp) R Q g kind ax ah nx cx nh ch W (hw.turn hT (by simp) (by simp)) (hp.turn hT (by simp) (by simp)) c0 c1 c2 c3 hs)
  rw [show decide (2000 < heft R + (10 + nx + nh) + heft Q) = false from by simpa using hg] at HG
  have HT0 := Lib.hid (fun cs => (Frm.Turn.refl [] w).alloc (.cells cs 86))
  have HB0 : Hid (Prog4 (w.alloc (.cells #[.int .i64 kind, .slice ax nx cx, .slice ah nh ch, .slice ap np cp] 86)) w.heap.size kind ax ah nx cx nh ch (.slice ap np cp)) := Lib.hid ⟨World.alloc_heap_new w _⟩
  have hRl := heft_len R
  have HLD := Lib.hid (fun W (hT : Frm.Turn [] w W) => laid_any wv R W (hw.turn hT (by simp) (by simp)) (by omega) h64)
  have HMD := Lib.hid (fun b W (hT : Frm.Turn [] w W) => hM W b hT)
  have HRL : Hid (R.length ≤ 200) := Lib.hid (by omega)
  have HN := Lib.hid hn
  have HKK := Lib.hid hkk
  have HKi := Lib.hid hk
  unfold kindOf at hk
  clear hw hp h64 hM hn hkk hk hRl hg hs
  go_enter Try.func7, Try.ntmps7
  go_upto_region 3 with (first
    | (go_at_call 38; (with_reducible refine (pfirst_any _).mono ?_); rintro e w1 ⟨rfl, hT⟩; have HT1 := Lib.hid ((HT0.out _).trans hT (by simp)); have HB1 := Lib.hid (HB0.out.turn hT (by simp)); clear hT))
  obtain ⟨d0, d1, d2, d3⟩ := HB1.out.cells
  obtain ⟨bp, HBP⟩ : ∃ bp, Hid (bp = w.heap.size) := ⟨_, Lib.hid rfl⟩
  rw [← HBP.out] at d0 d1 d2 d3 HB1 ⊢
  have HTA := Lib.hid (HT1.out.alloc (.cells #[.int .i64 kind, .slice ax nx cx, .slice ah nh ch, .slice ap np cp] 86))
  have HC := Lib.hid (HG.out _ HTA.out w1.heap.size (by rw [Frm.cell_row _ _ _ _ _ _ (World.alloc_heap_new w1 _)]; rfl) (by rw [Frm.cell_row _ _ _ _ _ _ (World.alloc_heap_new w1 _)]; rfl) (by rw [Frm.cell_row _ _ _ _ _ _ (World.alloc_heap_new w1 _)]; rfl) (by rw [Frm.cell_row _ _ _ _ _ _ (World.alloc_heap_new w1 _)]; rfl))
  have HB1A := Lib.hid (HB1.out.turn ((Frm.Turn.refl [] w1).alloc (.cells #[.int .i64 kind, .slice ax nx cx, .slice ah nh ch, .slice ap np cp] 86)) (by simp))
  clear HG HT0 HB0
  go_upto_region 5 with (first
    | (go_at_call 46; (with_reducible refine (HC.out).mono ?_); rintro e w2 ⟨rfl, hT⟩; have HT2 := Lib.hid (HTA.out.trans hT (by simp)); have HB2 := Lib.hid (HB1A.out.turn hT (by simp)); clear hT))
  clear d0 d1 d2 d3 HC HTA HB1A HB1 HT1
  go_upto_region 6 with (first
    | (go_at_call 47; (with_reducible refine (HLD.out _ HT2.out).mono ?_); rintro e w3 ⟨b, u, A, rfl, h20, hone, hm⟩; have H20 := Lib.hid h20; have HONE := Lib.hid hone; have HM3 := Lib.hid hm; clear h20 hone hm)
    | (refine wpList_store_row rfl 54 (.tmp 6) (.tmp 21) rfl w3.heap.size u rfl rfl 54 zero20 (World.alloc_heap_new w3 _) (by rw [H20.out]; exact info_refA) (by rw [H20.out]; rfl) HONE.out ?_))
  simp only [Act.put]
  have hT4 : Frm.Turn [] w3 ((w3.alloc (.cells zero20 54)).setRow w3.heap.size u) := setRow_turn ((Frm.Turn.refl [] w3).alloc _) (.inr (Nat.le_refl _)) u
  unfold zero20 at hT4
  generalize (w3.alloc _).setRow w3.heap.size u = W4 at hT4 ⊢
  have HM4 := Lib.hid (HM3.out.step bare_stays hT4)
  have HP4 := Lib.hid ((HB2.out.turn HM3.out.turn (by simp)).turn hT4 (by simp))
  have HTW4 := Lib.hid (HT2.out.trans HM4.out.turn (by simp))
  clear hT4 HM3 HLD
  obtain ⟨d0, d1, d2, d3⟩ := HP4.out.cells
  go_upto_region 7 with (first
    | (go_at_call 48; (with_reducible refine (HMD.out b _ HTW4.out).mono ?_); rintro e w5 ⟨q1, q2, q3, St, F, rfl, hK, hp5, hF5, hT5⟩; have HKit := Lib.hid hK; have HM5 := Lib.hid (mach_new HM4.out hp5 hF5 hT5); clear hp5 hF5 hT5 hK))
  generalize hW6 : World.alloc w5 _ = W6
  obtain ⟨bm, HBM⟩ : ∃ bm, Hid (bm = w5.heap.size) := ⟨_, Lib.hid rfl⟩
  have HBm : Hid (W6.heap[bm]? = some (.cells #[.pointer q1, .pointer q2, .pointer q3] 94 (0, 0))) := Lib.hid (by rw [← hW6, HBM.out]; exact World.alloc_heap_new w5 _)
  have HT6 : Hid (Frm.Turn [] w5 W6) := Lib.hid (by rw [← hW6]; exact (Frm.Turn.refl _ _).alloc _)
  clear hW6
  rw [← HBM.out]
  have HM6 : Hid (Mach w2 b [bm] A R.length (St 0 false) W6) := Lib.hid (HM5.out.own ((HKit.out w2).stays 0 false) HT6.out (by simp) (fun k hk => by
    simp at hk; subst hk
    exact ⟨Or.inr (by rw [HBM.out]; exact Nat.le_refl _), (Array.getElem?_eq_some_iff.1 HBm.out).1⟩))
  have HBW : Hid (∀ W, Frm.Turn [] w2 W → Prog4 W bp kind ax ah nx cx nh ch (.slice ap np cp)) := Lib.hid (fun W hT => HB2.out.turn hT (by simp))
  clear HM5 HP4 HMD d0 d1 d2 d3
  obtain ⟨d0, d1, d2, d3⟩ := (HBW.out _ HM6.out.turn).cells
  go_cut [8] (fun s8 W => s8 = .int .i64 (n : Nat) ∧ Frm.Turn [] W6 W)
  case first =>
    have hki := HKi.out
    unfold kindOf at hki
    have d0' : (W6.alloc (.cells #[.int .i64 nx, .int .i64 nh, .int .i64 np] 3)).cell? ⟨bp, 0, none⟩ = some (.int .i64 kind) := ((Frm.Turn.refl [] W6).alloc _).cell d0 (by simp)
    rcases HKK.out with e | e | e
    · rw [e] at hki
      go_wp2
      go_meet
      case rel => exact ⟨by rw [HN.out, e]; rfl, (Frm.Turn.refl _ _).alloc _⟩
    · rw [e] at hki
      go_wp2
      go_meet
      case rel => exact ⟨by rw [HN.out, e]; rfl, (Frm.Turn.refl _ _).alloc _⟩
    · rw [e] at hki
      go_wp2
      go_meet
      case rel => exact ⟨by rw [HN.out, e]; rfl, (Frm.Turn.refl _ _).alloc _⟩
  case rest =>
    obtain ⟨rfl, hT⟩ := hcut
    obtain ⟨W7, rfl⟩ : ∃ W7 : World, W7 = wc := ⟨_, rfl⟩
    have HM7 := Lib.hid (HM6.out.step ((HKit.out w2).stays 0 false) hT)
    have HBm7 := Lib.hid (hT.keep HBm.out (by simp))
    clear hT d0 d1 d2 d3
    go_wp2_with fail
    go_loopw [9, 42] (fun _ i wr => ∃ k : Nat, k ≤ n ∧ i = .int .i64 k ∧ ∃ A m f, Mach w2 b [bm] A m (St k f) wr ∧ m ≤ R.length + k ∧ wr.heap[bm]? = some (.cells #[.pointer q1, .pointer q2, .pointer q3] 94 (0, 0))) (fun _ i _ => n - (intOf i).toNat)
    case atStart => exact ⟨0, Nat.zero_le _, rfl, A, _, false, HM7.out, by omega, HBm7.out⟩
    case round =>
      obtain ⟨k, hk, rfl, A, m, f, hM, hm, hb⟩ := hrel
      have HMk := Lib.hid hM
      have HBk := Lib.hid hb
      have hsl : bm < wr.heap.size := (Array.getElem?_eq_some_iff.1 hb).1
      have HC3 : Hid (∀ W, Frm.Turn [] wr W → W.cell? ⟨bm, 0, none⟩ = some (.pointer q1) ∧ W.cell? ⟨bm, 1, none⟩ = some (.pointer q2) ∧ W.cell? ⟨bm, 2, none⟩ = some (.pointer q3)) := Lib.hid (fun W hT => by
        have h := hT.keep HBk.out (by simp)
        exact ⟨(Frm.cell_row _ _ 0 _ _ _ h).trans rfl, (Frm.cell_row _ _ 1 _ _ _ h).trans rfl, (Frm.cell_row _ _ 2 _ _ _ h).trans rfl⟩)
      obtain ⟨c0, c1, c2⟩ := HC3.out _ (Frm.Turn.refl _ _)
      clear hM hb
      by_cases hlt : k < n
      · have HDn := Lib.hid ((HKit.out w2).done k f _ A m wr (by omega) HMk.out)
        cases f with
        | false =>
          rw [show (decide (n ≤ k) || false) = false by simp; omega] at HDn
          go_wp2_with fail
          refine HDn.out.mono ?_
          rintro e wd ⟨rfl, hT⟩
          have HMd := Lib.hid (HMk.out.step ((HKit.out w2).stays k false) hT)
          have HBd := Lib.hid (hT.keep HBk.out (by simp))
          obtain ⟨c0, c1, c2⟩ := HC3.out _ hT
          clear hT
          go_wp2_with fail
          refine ((HKit.out w2).step k _ A m wd hlt (by have := HRL.out; omega) HMd.out).mono ?_
          rintro e we ⟨rfl, A2, f2, hM2, F2, hT2, hK2, _⟩
          have HM2 := Lib.hid hM2
          have HBe := Lib.hid (hT2.keep HBd.out (hK2 bm (by simp)))
          clear hM2 hT2 hK2
          go_wp2_with fail
          go_roundw
          case rel => exact ⟨k + 1, by omega, by go_num, A2, m + 1, f2, HM2.out, by omega, HBe.out⟩
          case measure => simp [intOf]; omega
        | true =>
          rw [show (decide (n ≤ k) || true) = true by simp] at HDn
          obtain ⟨hk2, hk1⟩ := HMk.out.fact (fun F hp => (HKit.out w2).two k F wr hp)
          have hki := HKi.out
          unfold kindOf at hki
          rw [hk2] at hki
          have e2 : ((IntKind.u64.wrap kind).tmod 3 == 2) = true := by rw [hki]; rfl
          obtain ⟨j, rfl⟩ : ∃ j, k = j + 1 := ⟨k - 1, by omega⟩
          have HE := Lib.hid (fun W (hT : Frm.Turn [] wr W) => (HKit.out w2).err (j + 1) _ A m W (HMk.out.step ((HKit.out w2).stays (j + 1) true) hT))
          have HH := Lib.hid (fun W (hT : Frm.Turn [] wr W) => (HKit.out w2).handles (j + 1) _ A m W hk (HMk.out.step ((HKit.out w2).stays (j + 1) true) hT))
          clear hk1 hk2
          go_wp2_with fail
          refine HDn.out.mono ?_
          rintro e wd ⟨rfl, hT⟩
          have HTd := Lib.hid hT
          have HTw := Lib.hid (HMk.out.turn.trans hT (by simp))
          obtain ⟨c0, c1, c2⟩ := HC3.out _ hT
          obtain ⟨d0, d1, d2, d3⟩ := (HBW.out _ HTw.out).cells
          clear hT
          go_wp2_with fail
          refine (HE.out _ HTd.out).mono ?_
          rintro e wf ⟨x, hx, rfl, rfl⟩
          have hx2 : (x != 0) = true := by simp only [bne, hx]; rfl
          have hx3 : ¬ x = 0 := by simpa using hx
          go_wp2_with fail
          refine (HH.out _ HTd.out).mono ?_
          rintro e wg ⟨ao, cc, rfl, hT⟩
          have HTg := Lib.hid (HT2.out.trans (HTw.out.trans hT (by simp)) (by simp))
          have hj : ((j : Int) == ((j + 1 : Nat) : Int) - 1) = true := by simp
          have hj2 : j + 1 - 1 = j := rfl
          clear hT
          go_wp2_with fail
          go_ret
          exact ⟨rfl, HTg.out⟩
      · obtain rfl : k = n := by omega
        have HAA : Hid (sameAr A A = true) := Lib.hid (sameAr_self A)
        go_wp2_with fail
        refine (mach_clone HMk.out).mono ?_
        rintro e wd ⟨c, Mc, rfl, hMc, hT⟩
        have HMc := Lib.hid hMc
        have HMd := Lib.hid (HMk.out.step ((HKit.out w2).stays k f) hT)
        have HBd := Lib.hid (hT.keep HBk.out (by simp))
        obtain ⟨c0', c1', c2'⟩ := HC3.out _ hT
        clear hMc c0 c1 c2
        go_wp2_with fail
        refine ((HKit.out w2).last k f _ A m wd (Or.inl (Nat.le_refl _)) (Nat.le_refl _) HMd.out).mono ?_
        rintro e we ⟨rfl, hT2⟩
        have HTe := Lib.hid (hT.trans hT2 (by simp))
        have HMe := Lib.hid (HMd.out.step ((HKit.out w2).stays k f) hT2)
        have HMce := Lib.hid (HMc.out.step hT2)
        clear c0' c1' c2' hT hT2
        obtain ⟨c0, c1, c2⟩ := HC3.out _ HTe.out
        have HDn := Lib.hid ((HKit.out w2).done k f _ A m we (Nat.le_refl _) HMe.out)
        rw [show (decide (k ≤ k) || f) = true by simp] at HDn
        go_wp2_with fail
        refine HDn.out.mono ?_
        rintro e wf ⟨rfl, hT⟩
        have HMf := Lib.hid (HMe.out.step ((HKit.out w2).stays k f) hT)
        have HSf := Lib.hid (mach_same HMf.out (HMce.out.step hT) HAA.out)
        clear hT
        go_wp2_with fail
        refine HSf.out.mono ?_
        rintro e wg ⟨rfl, hT⟩
        have HTg := Lib.hid (HT2.out.trans (HMf.out.turn.trans hT (by simp)) (by simp))
        clear hT
        go_wp2_with fail
        go_ret
        exact ⟨rfl, HTg.out⟩

theorem Aside.behind {w W W' w' : World} {K : List Nat} (hT : Frm.Turn [] W W') (h : Aside w K W' w') : Aside w K W w' := by
  obtain ⟨F, h1, h2, h3⟩ := h
  exact ⟨F, (hT.mono (by simp)).trans h1 (fun k hk => Or.inl hk), h2, h3⟩
theorem drop_one {α : Type} {l : List α} {i : Nat} (h : i < l.length) : l.drop i = l[i] :: l.drop (i + 1) := List.drop_eq_getElem_cons h
theorem done_eq (n i : Nat) : decide (n - i = 0) = (decide (n ≤ i) || false) := by
  rw [Bool.eq_iff_iff]; simp; omega

/-! ### reads -/
def StR (r b : Nat) (L : List (Int × Int)) (i : Nat) (f : Bool) (F : List Nat) (W : World) : Prop := f = false ∧ ∃ Wd : List Int, Wd.length = i ∧ RdP r b (L.drop i) Wd F W
theorem kit_R (r b : Nat) (L : List (Int × Int)) (hL : L.length ≤ 60000) (h64 : ∀ x, x ∈ L → W64 x.1 ∧ (Lit.int .i64 x.2).wf = true) (w : World) : Kit w b (some ⟨r, 0, none⟩) none none L.length 0 (StR r b L) where
  stays i f := by
    rintro F G W W' ⟨hf, Wd, hl, hp⟩ ht hn
    exact ⟨hf, Wd, hl, rd_stays r b _ _ _ _ _ _ hp ht hn⟩
  done i f K A m W hi hM := by
    obtain ⟨M, F, hs, ⟨rfl, Wd, hl, hp⟩, rr⟩ := hM
    have hM' : Mach w b K A m (RdP r b (L.drop i) Wd) W := ⟨M, F, hs, hp, rr⟩
    rw [← done_eq, ← List.length_drop]
    exact mc_done_R r W _ (fun W' hT => rd_done_is (hM'.step (rd_stays r b _ _) hT))
  step i K A m W hi hm hM := by
    obtain ⟨M, F, hs, ⟨_, Wd, hl, hp⟩, rr⟩ := hM
    have hM' : Mach w b K A m (RdP r b (L.drop i) Wd) W := ⟨M, F, hs, hp, rr⟩
    have hx := h64 L[i] (List.getElem_mem hi)
    rw [drop_one hi] at hM'
    refine mc_step_R r W _ (fun W' hT => ?_)
    refine (rd_step (blk := L[i].1) (i := L[i].2) (hM'.step (rd_stays r b _ _) hT) (by omega) (by omega) (by simp; omega) hx.1 hx.2).mono ?_
    rintro e w' ⟨rfl, h1, h2⟩
    exact ⟨rfl, _, false, h1.imp (fun F hp => ⟨rfl, _, by simp [hl], hp⟩), h2.behind hT⟩
  last i f K A m W hi hi2 hM := by
    obtain ⟨M, F, hs, ⟨rfl, Wd, hl, hp⟩, rr⟩ := hM
    have hM' : Mach w b K A m (RdP r b (L.drop i) Wd) W := ⟨M, F, hs, hp, rr⟩
    have hd : L.drop i = [] := List.drop_eq_nil_of_le (by rcases hi with h | h; exact h; cases h)
    rw [hd] at hM'
    refine mc_step_R r W _ (fun W' hT => ?_)
    refine (rd_none (hM'.step (rd_stays r b _ _) hT)).mono ?_
    rintro e w' ⟨rfl, rfl⟩
    exact ⟨rfl, hT⟩
  two i F W h := by cases h.1
  err i K A m W hM := by
    obtain ⟨M, F, hs, ⟨h, _⟩, rr⟩ := hM
    cases h
  handles i K A m W _ hM := by
    obtain ⟨M, F, hs, ⟨h, _⟩, rr⟩ := hM
    cases h

/-! ### frees -/
def StF (r b : Nat) (L : List Int) (i : Nat) (f : Bool) (F : List Nat) (W : World) : Prop := f = false ∧ FrP r b (L.drop i) F W
theorem kit_F (r b : Nat) (L : List Int) (hL : L.length ≤ 60000) (h64 : ∀ x, x ∈ L → W64 x) (w : World) : Kit w b none (some ⟨r, 0, none⟩) none L.length 1 (StF r b L) where
  stays i f := by
    rintro F G W W' ⟨hf, hp⟩ ht hn
    exact ⟨hf, fr_stays r b _ _ _ _ _ hp ht hn⟩
  done i f K A m W hi hM := by
    obtain ⟨M, F, hs, ⟨rfl, hp⟩, rr⟩ := hM
    have hM' : Mach w b K A m (FrP r b (L.drop i)) W := ⟨M, F, hs, hp, rr⟩
    rw [← done_eq, ← List.length_drop]
    exact mc_done_F r W _ (fun W' hT => fr_done_is (hM'.step (fr_stays r b _) hT))
  step i K A m W hi hm hM := by
    obtain ⟨M, F, hs, ⟨_, hp⟩, rr⟩ := hM
    have hM' : Mach w b K A m (FrP r b (L.drop i)) W := ⟨M, F, hs, hp, rr⟩
    have hx := h64 L[i] (List.getElem_mem hi)
    rw [drop_one hi] at hM'
    refine mc_step_F r W _ (fun W' hT => ?_)
    refine (fr_step (hM'.step (fr_stays r b _) hT) (by omega) (by simp; omega) hx).mono ?_
    rintro e w' ⟨rfl, h1, h2⟩
    exact ⟨rfl, _, false, h1.imp (fun F hp => ⟨rfl, hp⟩), h2.behind hT⟩
  last i f K A m W hi hi2 hM := by
    obtain ⟨M, F, hs, ⟨rfl, hp⟩, rr⟩ := hM
    have hM' : Mach w b K A m (FrP r b (L.drop i)) W := ⟨M, F, hs, hp, rr⟩
    have hd : L.drop i = [] := List.drop_eq_nil_of_le (by rcases hi with h | h; exact h; cases h)
    rw [hd] at hM'
    refine mc_step_F r W _ (fun W' hT => ?_)
    refine (fr_none (hM'.step (fr_stays r b _) hT)).mono ?_
    rintro e w' ⟨rfl, rfl⟩
    exact ⟨rfl, hT⟩
  two i F W h := by cases h.1
  err i K A m W hM := by
    obtain ⟨M, F, hs, ⟨h, _⟩, rr⟩ := hM
    cases h
  handles i K A m W _ hM := by
    obtain ⟨M, F, hs, ⟨h, _⟩, rr⟩ := hM
    cases h

/-! ### lays -/
def StL (r b : Nat) (Q : List (List Int)) (i : Nat) (f : Bool) (F : List Nat) (W : World) : Prop :=
  (f = false ∧ ∃ H : List Int, H.length = i ∧ LyP r b (Q.drop i) H 0 F W) ∨ (f = true ∧ 1 ≤ i ∧ ∃ (H : List Int) (e : Int), H.length = i - 1 ∧ (e == 0) = false ∧ LyP r b [] H e F W)
theorem kit_L (r b : Nat) (Q : List (List Int)) (hQ : Q.length ≤ 60000) (h64 : ∀ ws, ws ∈ Q → ∀ x, x ∈ ws → W64 x) (w : World) : Kit w b none none (some ⟨r, 0, none⟩) Q.length 2 (StL r b Q) where
  stays i f := by
    rintro F G W W' h ht hn
    rcases h with ⟨hf, H, hl, hp⟩ | ⟨hf, h1, H, e, hl, he, hp⟩
    · exact .inl ⟨hf, H, hl, ly_stays r b _ _ _ _ _ _ _ hp ht hn⟩
    · exact .inr ⟨hf, h1, H, e, hl, he, ly_stays r b _ _ _ _ _ _ _ hp ht hn⟩
  done i f K A m W hi hM := by
    obtain ⟨M, F, hs, hp, rr⟩ := hM
    rcases hp with ⟨rfl, H, hl, hp⟩ | ⟨rfl, h1, H, e, hl, he, hp⟩
    · have hM' : Mach w b K A m (LyP r b (Q.drop i) H 0) W := ⟨M, F, hs, hp, rr⟩
      rw [← done_eq, ← List.length_drop]
      exact mc_done_L r W _ (fun W' hT => ly_done_is (hM'.step (ly_stays r b _ _ _) hT))
    · have hM' : Mach w b K A m (LyP r b [] H e) W := ⟨M, F, hs, hp, rr⟩
      rw [show (decide (Q.length ≤ i) || true) = decide (([] : List (List Int)).length = 0) by simp]
      exact mc_done_L r W _ (fun W' hT => ly_done_is (hM'.step (ly_stays r b _ _ _) hT))
  step i K A m W hi hm hM := by
    obtain ⟨M, F, hs, hp, rr⟩ := hM
    rcases hp with ⟨_, H, hl, hp⟩ | ⟨h, _⟩
    · have hM' : Mach w b K A m (LyP r b (Q.drop i) H 0) W := ⟨M, F, hs, hp, rr⟩
      have hx := h64 Q[i] (List.getElem_mem hi)
      rw [drop_one hi] at hM'
      refine mc_step_L r W _ (fun W' hT => ?_)
      refine (ly_step (hM'.step (ly_stays r b _ _ _) hT) (by omega) (by omega) (by simp; omega) hx).mono ?_
      rintro e w' ⟨rfl, h1, h2⟩
      by_cases hz : (A.lay Q[i]).2.2 = 0
      · refine ⟨rfl, _, false, h1.imp (fun F hp => ?_), h2.behind hT⟩
        refine .inl ⟨rfl, H ++ [(A.lay Q[i]).2.1], by simp [hl], ?_⟩
        unfold lyQ lyH at hp
        rw [if_pos hz, if_pos hz, hz] at hp
        exact hp
      · refine ⟨rfl, _, true, h1.imp (fun F hp => ?_), h2.behind hT⟩
        refine .inr ⟨rfl, by omega, H, (A.lay Q[i]).2.2, by omega, by simpa using hz, ?_⟩
        unfold lyQ lyH at hp
        rw [if_neg hz, if_neg hz] at hp
        exact hp
    · cases h
  last i f K A m W hi hi2 hM := by
    obtain ⟨M, F, hs, hp, rr⟩ := hM
    obtain ⟨H, e, hp⟩ : ∃ H e, LyP r b [] H e F W := by
      rcases hp with ⟨rfl, H, hl, hp⟩ | ⟨rfl, h1, H, e, hl, he, hp⟩
      · have hd : Q.drop i = [] := List.drop_eq_nil_of_le (by rcases hi with h | h; exact h; cases h)
        rw [hd] at hp
        exact ⟨H, 0, hp⟩
      · exact ⟨H, e, hp⟩
    have hM' : Mach w b K A m (LyP r b [] H e) W := ⟨M, F, hs, hp, rr⟩
    refine mc_step_L r W _ (fun W' hT => ?_)
    refine (ly_none (hM'.step (ly_stays r b _ _ _) hT)).mono ?_
    rintro e w' ⟨rfl, rfl⟩
    exact ⟨rfl, hT⟩
  two i F W h := by
    rcases h with ⟨h, _⟩ | ⟨_, h1, _⟩
    · cases h
    · exact ⟨rfl, h1⟩
  err i K A m W hM := by
    obtain ⟨M, F, hs, hp, rr⟩ := hM
    rcases hp with ⟨h, _⟩ | ⟨_, h1, H, e, hl, he, hp⟩
    · cases h
    · have hM' : Mach w b K A m (LyP r b [] H e) W := ⟨M, F, hs, hp, rr⟩
      exact (ly_err_is hM').mono fun _ _ ⟨a, c⟩ => ⟨e, he, a, c⟩
  handles i K A m W hi hM := by
    obtain ⟨M, F, hs, hp, rr⟩ := hM
    rcases hp with ⟨h, _⟩ | ⟨_, h1, H, e, hl, he, hp⟩
    · cases h
    · have hM' : Mach w b K A m (LyP r b [] H e) W := ⟨M, F, hs, hp, rr⟩
      refine (ly_handles_is hM' (by omega)).mono ?_
      rintro e w' h
      obtain ⟨ao, c, rfl, _, _, hT⟩ := h
      exact ⟨ao, c, by rw [hl], hT⟩

/-! ### the law, for programs of each kind -/
theorem kind_of (kind : Int) : kindOf kind = 0 ∨ kindOf kind = 1 ∨ kindOf kind = 2 := by
  unfold kindOf
  have h : 0 ≤ IntKind.u64.wrap kind := by simp [IntKind.wrap, IntKind.bits, IntKind.signed]; omega
  rw [Int.tmod_eq_emod_of_nonneg h]
  omega
theorem counts_any (wv : Value) (ap : Option Addr) (cp : Nat) (R Q : List RowV) (kind : Int) (ax ah : Option Addr) (LX : List (Int × Int)) (LH : List Int) (cx ch : Nat) (w : World) (hw : RowsAt w wv R) (hp : RowsAt w (.slice ap Q.length cp) Q) (hx : AddrsAt w (.slice ax LX.length cx) LX) (hh : WordsAt w (.slice ah LH.length ch) LH)
    (hs : heft R + (10 + LX.length + LH.length) + heft Q ≤ 1000000000) (h64 : ∀ x, x ∈ R → (∀ z, z ∈ x.2 → W64 z) ∧ x.2.length ≤ 9223372036854775807) (q64 : ∀ x, x ∈ Q → ∀ z, z ∈ x.2 → W64 z) (x64 : ∀ x, x ∈ LX → W64 x.1 ∧ (Lit.int .i64 x.2).wf = true) (h64' : ∀ x, x ∈ LH → W64 x) :
    Calls Try.prog 7 #[wv, .agg #[.int .i64 kind, .slice ax LX.length cx, .slice ah LH.length ch, .slice ap Q.length cp]] w fun e w' => e = .returned (.bool true) ∧ Frm.Turn [] w w' := by
  by_cases hg : 2000 < heft R + (10 + LX.length + LH.length) + heft Q
  · exact counts_great wv _ R Q kind ax ah _ cx _ ch w hw hp hs hg
  · have hql := heft_len Q
    have hqw : ∀ x, x ∈ Q → x.2.length ≤ 2000 := fun x hx => by
      obtain ⟨j, hj⟩ := List.getElem?_of_mem hx
      have := heft_take hj
      have := heft_le Q (j + 1)
      omega
    rcases kind_of kind with hk | hk | hk
    · refine counts_gen wv ap Q.length cp R Q kind ax ah _ cx _ ch w hw hp hs hg h64 0 (Or.inl rfl) hk LX.length rfl (by omega) (fun W b hT => ?_)
      refine (made_R (.pointer (some ⟨b, 0, none⟩)) (.slice ax LX.length cx) (.slice ah LH.length ch) (.slice ap Q.length cp) kind W (fun r => RdP r b LX []) (fun r => rd_stays r b LX []) hk
        (fun W' hT' => (newReads_any b (.slice ax LX.length cx) LX W' ((hx.turn hT (by simp)).turn hT' (by simp)) (by omega)).mono fun e w' ⟨r, lv, he, hr, hF, hT2⟩ => ⟨r, _, he, ⟨lv, _, hr, rfl⟩, hF, hT2⟩)).mono ?_
      rintro e w' ⟨r, F, rfl, hp, hF, hT2⟩
      exact ⟨_, _, _, StR r b LX, F, rfl, fun w0 => kit_R r b LX (by omega) x64 w0, ⟨rfl, [], rfl, hp⟩, hF, hT2⟩
    · refine counts_gen wv ap Q.length cp R Q kind ax ah _ cx _ ch w hw hp hs hg h64 1 (Or.inr (Or.inl rfl)) hk LH.length rfl (by omega) (fun W b hT => ?_)
      refine (made_F (.pointer (some ⟨b, 0, none⟩)) (.slice ax LX.length cx) (.slice ah LH.length ch) (.slice ap Q.length cp) kind W (fun r => FrP r b LH) (fun r => fr_stays r b LH) hk
        (fun W' hT' => (newFrees_any b (.slice ah LH.length ch) LH W' ((hh.turn hT (by simp)).turn hT' (by simp)) (by omega)).mono fun e w' ⟨r, lv, he, hr, hF, hT2⟩ => ⟨r, _, he, ⟨lv, hr, rfl⟩, hF, hT2⟩)).mono ?_
      rintro e w' ⟨r, F, rfl, hp, hF, hT2⟩
      exact ⟨_, _, _, StF r b LH, F, rfl, fun w0 => kit_F r b LH (by omega) h64' w0, ⟨rfl, hp⟩, hF, hT2⟩
    · refine counts_gen wv ap Q.length cp R Q kind ax ah _ cx _ ch w hw hp hs hg h64 2 (Or.inr (Or.inr rfl)) hk Q.length rfl (by omega) (fun W b hT => ?_)
      refine (made_L (.pointer (some ⟨b, 0, none⟩)) (.slice ax LX.length cx) (.slice ah LH.length ch) (.slice ap Q.length cp) kind W (fun r => LyP r b (Q.map Prod.snd) [] 0) (fun r => ly_stays r b _ _ _) hk
        (fun W' hT' => (newLays_any b (.slice ap Q.length cp) Q W' ((hp.turn hT (by simp) (by simp)).turn hT' (by simp) (by simp)) (by omega) (fun x hx => by have := hqw x hx; omega)).mono fun e w' ⟨r, lv, R', he, hq, hr, hF, hT2⟩ => ⟨r, _, he, ⟨lv, _, R', hr, hq, rfl⟩, hF, hT2⟩)).mono ?_
      rintro e w' ⟨r, F, rfl, hp, hF, hT2⟩
      have hn : (Q.map Prod.snd).length = Q.length := List.length_map ..
      exact ⟨_, _, _, StL r b (Q.map Prod.snd), F, rfl, fun w0 => hn ▸ kit_L r b (Q.map Prod.snd) (by rw [hn]; omega) (fun ws hws x hx => by
        obtain ⟨y, hy, rfl⟩ := List.mem_map.1 hws
        exact q64 y hy x hx) w0, .inl ⟨rfl, [], rfl, hp⟩, hF, hT2⟩
end Pac
end Go.Proofs.Ytkjcccjkfjebaaa
