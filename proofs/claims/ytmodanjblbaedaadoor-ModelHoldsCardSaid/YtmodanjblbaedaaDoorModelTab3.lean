/- A table's calls that write what is there: swap, acquire, release. -/
import Derived.Test.YtmodanjblbaedaaDoorModelTab2
set_option linter.unusedVariables false
set_option linter.unusedSimpArgs false
namespace Go.Proofs.YtmodanjblbaedaaDoor
namespace Mdl
open Go.RowKit Go.Maps

/-- A table's call is over: its response, its table, what has turned. -/
def TEnd (w : World) (p : Option Nat) (z : Tb × Rs) (e : Ending) (w' : World) : Prop := e = .returned (rv z.2) ∧ TAt w' p z.1 ∧ Frm.Turn p.toList w w'
/-- Behind the result's being told. -/
theorem tend_told {w w2 : World} {p : Option Nat} {f : Tb} {v : Value} (hA : TAt w2 p f) (hT : Frm.Turn p.toList w w2) (hlt : ∀ b, p = some b → b < w.heap.size) {r : Rs} (x y : Value) (hv : v = rv r) : TEnd w p (f, r) (.returned v) ((w2.setCell ⟨w.heap.size, 0, none⟩ x).setCell ⟨w.heap.size, 1, none⟩ y) := by
  have hT3 : Frm.Turn [w.heap.size] w2 ((w2.setCell ⟨w.heap.size, 0, none⟩ x).setCell ⟨w.heap.size, 1, none⟩ y) := ((Frm.Turn.refl _ _).setCell (Or.inl (by simp)) _).setCell (Or.inl (by simp)) _
  exact ⟨by rw [hv], hA.turn hT3 (fun b hb => by simp; have := hlt b hb; omega), (hT.setCell (Or.inr (Nat.le_refl _)) _).setCell (Or.inr (Nat.le_refl _)) _⟩

set_option maxHeartbeats 2000000 in
theorem swap_any {w : World} {p : Option Nat} {f : Tb} (h : TAt w p f) {k a b : Int} (ho : OpOk k a b) :
    Calls Tryd.prog 48 #[.map p, .int .i64 k, .int .i64 a, .int .i64 b] w (TEnd w p (swapT f k a b)) := by
  have hI : I64 k := by have := ho.k; omega
  have HI := Lib.hid hI
  have HA := Lib.hid (fun W (hT : Frm.Turn [] w W) => h.step hT)
  have HO := Lib.hid ho
  have HT := Lib.hid (fun o => (Frm.Turn.refl [] w).alloc o)
  have HB := Lib.hid (res_new w)
  have HL := Lib.hid h.lt
  have H := Lib.hid h
  clear h hI ho
  cases e : f k with
  | none =>
    have HE := Lib.hid e
    have HR : Hid (swapT f k a b = (f, (1, 0))) := Lib.hid (by unfold swapT; rw [e])
    clear e
    go_enter Tryd.func48, Tryd.ntmps48
    go_wp2_with (first
      | (at_lookup; refine wpList_look _ rfl _ _ rfl (HA.out _ (HT.out _)) HI.out 0 false (by rw [HE.out]; rfl) (by rw [HE.out]; rfl) rfl rfl ?_)
      | (go_at_call 29; (with_reducible refine (none_any _).mono ?_); rintro e w1 ⟨rfl, hT⟩; have hk := hT.keep HB.out (by simp); obtain ⟨⟨c0, c1⟩, f0, f1⟩ := blk2 hk; have HB1 := Lib.hid hk; clear hk; have HT1 := Lib.hid ((HT.out _).trans hT (by simp)); clear hT))
    have r := blk2 (told_blk HB1.out (.int .i64 1) (.int .i64 0))
    exact bodyPost_ret (v := rv (1, 0)) (by simp [results, Tryd.results48, go_sem, r.1.1, r.1.2]) rfl (by rw [HR.out]; exact tend_told (HA.out _ HT1.out) (HT1.out.mono (by simp)) HL.out _ _ rfl)
  | some v =>
    have hdom := H.out.ok.dom k v e
    have HE := Lib.hid e
    obtain ⟨q, rfl⟩ := H.out.some_of e
    clear e
    by_cases hv : v = a
    · subst hv
      have HR : Hid (swapT f k v b = (upd f k (some b), (0, v))) := Lib.hid (by unfold swapT; rw [HE.out]; simp)
      have hne : (v != v) = false := by simp
      clear hdom
      go_enter Tryd.func48, Tryd.ntmps48
      go_wp2_with (first
        | (at_lookup; refine wpList_look _ rfl _ _ rfl (HA.out _ (HT.out _)) HI.out v true (by rw [HE.out]; rfl) (by rw [HE.out]; rfl) rfl rfl ?_)
        | (at_mapUpdate; refine wpList_store _ rfl _ _ _ rfl (HA.out _ (HT.out _)) HO.out.k HO.out.b rfl rfl rfl ?_; intro w2 hA2 hT2; have hk2 := hT2.keep HB.out (by simp; have := HL.out q rfl; omega); have HB2 := Lib.hid hk2; clear hk2; have HA2 := Lib.hid hA2; have HT2 := Lib.hid (((HT.out _).mono (by simp)).trans hT2 (fun k hk => Or.inl hk)); clear hA2 hT2)
        | (go_at_call 44; (with_reducible refine (done_any _ _).mono ?_); rintro e w1 ⟨rfl, hT⟩; have hk := hT.keep HB2.out (by simp); obtain ⟨⟨c0, c1⟩, f0, f1⟩ := blk2 hk; have HB1 := Lib.hid hk; clear hk; have HA1 := Lib.hid (HA2.out.step hT); have HT1 := Lib.hid (HT2.out.trans hT (by simp)); clear hT))
      have r := blk2 (told_blk HB1.out (.int .i64 0) (.int .i64 v))
      exact bodyPost_ret (v := rv (0, v)) (by simp [results, Tryd.results48, go_sem, r.1.1, r.1.2]) rfl (by rw [HR.out]; exact tend_told HA1.out HT1.out HL.out _ _ rfl)
    · have HR : Hid (swapT f k a b = (f, (4, v))) := Lib.hid (by unfold swapT; rw [HE.out]; simp [hv])
      have hne : (v != a) = true := by simpa using hv
      have hne2 : (v == a) = false := by simpa using hv
      clear hdom hv
      go_enter Tryd.func48, Tryd.ntmps48
      go_wp2_with (first
        | (at_lookup; refine wpList_look _ rfl _ _ rfl (HA.out _ (HT.out _)) HI.out v true (by rw [HE.out]; rfl) (by rw [HE.out]; rfl) rfl rfl ?_))
      exact bodyPost_ret (v := rv (4, v)) (by simp [results, Tryd.results48, go_sem]) rfl (by rw [HR.out]; exact ⟨rfl, HA.out _ (HT.out _), (HT.out _).mono (by simp)⟩)

set_option maxHeartbeats 2000000 in
theorem acquire_any {w : World} {p : Option Nat} {f : Tb} (h : TAt w p f) {k : Int} (hk : 0 ≤ k ∧ k ≤ 255) :
    Calls Tryd.prog 50 #[.map p, .int .i64 k] w (TEnd w p (acqT f k)) := by
  have hI : I64 k := by omega
  have HI := Lib.hid hI
  have HA := Lib.hid (fun W (hT : Frm.Turn [] w W) => h.step hT)
  have HK := Lib.hid hk
  have HT := Lib.hid (fun o => (Frm.Turn.refl [] w).alloc o)
  have HB := Lib.hid (res_new w)
  have HL := Lib.hid h.lt
  have H := Lib.hid h
  clear h hI hk
  cases e : f k with
  | none =>
    have HE := Lib.hid e
    have HR : Hid (acqT f k = (f, (1, 0))) := Lib.hid (by unfold acqT; rw [e])
    clear e
    go_enter Tryd.func50, Tryd.ntmps50
    go_wp2_with (first
      | (at_lookup; refine wpList_look _ rfl _ _ rfl (HA.out _ (HT.out _)) HI.out 0 false (by rw [HE.out]; rfl) (by rw [HE.out]; rfl) rfl rfl ?_)
      | (go_at_call 29; (with_reducible refine (none_any _).mono ?_); rintro e w1 ⟨rfl, hT⟩; have hk := hT.keep HB.out (by simp); obtain ⟨⟨c0, c1⟩, f0, f1⟩ := blk2 hk; have HB1 := Lib.hid hk; clear hk; have HT1 := Lib.hid ((HT.out _).trans hT (by simp)); clear hT))
    have r := blk2 (told_blk HB1.out (.int .i64 1) (.int .i64 0))
    exact bodyPost_ret (v := rv (1, 0)) (by simp [results, Tryd.results50, go_sem, r.1.1, r.1.2]) rfl (by rw [HR.out]; exact tend_told (HA.out _ HT1.out) (HT1.out.mono (by simp)) HL.out _ _ rfl)
  | some v =>
    obtain ⟨_, _, v0, v1⟩ := H.out.ok.dom k v e
    have HE := Lib.hid e
    obtain ⟨q, rfl⟩ := H.out.some_of e
    clear e
    by_cases hv : v = 0
    · subst hv
      have HR : Hid (acqT f k = (f, (3, 0))) := Lib.hid (by unfold acqT; rw [HE.out]; simp)
      clear v0 v1
      go_enter Tryd.func50, Tryd.ntmps50
      go_wp2_with (first
        | (at_lookup; refine wpList_look _ rfl _ _ rfl (HA.out _ (HT.out _)) HI.out 0 true (by rw [HE.out]; rfl) (by rw [HE.out]; rfl) rfl rfl ?_))
      exact bodyPost_ret (v := rv (3, 0)) (by simp [results, Tryd.results50, go_sem]) rfl (by rw [HR.out]; exact ⟨rfl, HA.out _ (HT.out _), (HT.out _).mono (by simp)⟩)
    · have HR : Hid (acqT f k = (upd f k (some (v - 1)), (0, v - 1))) := Lib.hid (by unfold acqT; rw [HE.out]; simp [hv])
      have hne2 : (v == 0) = false := by simpa using hv
      have HV := Lib.hid (show 0 ≤ v - 1 ∧ v - 1 ≤ 1023 by omega)
      have hw : IntKind.i64.wrap (v - 1) = v - 1 := by
        have : 0 ≤ v - 1 ∧ v - 1 ≤ 1023 := HV.out
        simp [IntKind.wrap, IntKind.bits, IntKind.signed]; omega
      clear hv
      go_enter Tryd.func50, Tryd.ntmps50
      go_wp2_with (first
        | (at_lookup; refine wpList_look _ rfl _ _ rfl (HA.out _ (HT.out _)) HI.out v true (by rw [HE.out]; rfl) (by rw [HE.out]; rfl) rfl rfl ?_)
        | (at_mapUpdate; refine wpList_store _ rfl _ _ _ rfl (HA.out _ (HT.out _)) HK.out HV.out rfl rfl rfl ?_; intro w2 hA2 hT2; have hk2 := hT2.keep HB.out (by simp; have := HL.out q rfl; omega); have HB2 := Lib.hid hk2; clear hk2; have HA2 := Lib.hid hA2; have HT2 := Lib.hid (((HT.out _).mono (by simp)).trans hT2 (fun k hk => Or.inl hk)); clear hA2 hT2)
        | (go_at_call 44; (with_reducible refine (done_any _ _).mono ?_); rintro e w1 ⟨rfl, hT⟩; have hk := hT.keep HB2.out (by simp); obtain ⟨⟨c0, c1⟩, f0, f1⟩ := blk2 hk; have HB1 := Lib.hid hk; clear hk; have HA1 := Lib.hid (HA2.out.step hT); have HT1 := Lib.hid (HT2.out.trans hT (by simp)); clear hT))
      have r := blk2 (told_blk HB1.out (.int .i64 0) (.int .i64 (v - 1)))
      exact bodyPost_ret (v := rv (0, v - 1)) (by simp [results, Tryd.results50, go_sem, r.1.1, r.1.2]) rfl (by rw [HR.out]; exact tend_told HA1.out HT1.out HL.out _ _ rfl)

set_option maxHeartbeats 2000000 in
theorem release_any {w : World} {p : Option Nat} {f : Tb} (h : TAt w p f) {k : Int} (hk : 0 ≤ k ∧ k ≤ 255) :
    Calls Tryd.prog 51 #[.map p, .int .i64 k] w (TEnd w p (relT f k)) := by
  have hI : I64 k := by omega
  have HI := Lib.hid hI
  have HA := Lib.hid (fun W (hT : Frm.Turn [] w W) => h.step hT)
  have HK := Lib.hid hk
  have HT := Lib.hid (fun o => (Frm.Turn.refl [] w).alloc o)
  have HB := Lib.hid (res_new w)
  have HL := Lib.hid h.lt
  have H := Lib.hid h
  clear h hI hk
  cases e : f k with
  | none =>
    have HE := Lib.hid e
    have HR : Hid (relT f k = (f, (1, 0))) := Lib.hid (by unfold relT; rw [e])
    clear e
    go_enter Tryd.func51, Tryd.ntmps51
    go_wp2_with (first
      | (at_lookup; refine wpList_look _ rfl _ _ rfl (HA.out _ (HT.out _)) HI.out 0 false (by rw [HE.out]; rfl) (by rw [HE.out]; rfl) rfl rfl ?_)
      | (go_at_call 29; (with_reducible refine (none_any _).mono ?_); rintro e w1 ⟨rfl, hT⟩; have hk := hT.keep HB.out (by simp); obtain ⟨⟨c0, c1⟩, f0, f1⟩ := blk2 hk; have HB1 := Lib.hid hk; clear hk; have HT1 := Lib.hid ((HT.out _).trans hT (by simp)); clear hT))
    have r := blk2 (told_blk HB1.out (.int .i64 1) (.int .i64 0))
    exact bodyPost_ret (v := rv (1, 0)) (by simp [results, Tryd.results51, go_sem, r.1.1, r.1.2]) rfl (by rw [HR.out]; exact tend_told (HA.out _ HT1.out) (HT1.out.mono (by simp)) HL.out _ _ rfl)
  | some v =>
    obtain ⟨_, _, v0, v1⟩ := H.out.ok.dom k v e
    have HE := Lib.hid e
    obtain ⟨q, rfl⟩ := H.out.some_of e
    clear e
    by_cases hv : v = 1023
    · subst hv
      have HR : Hid (relT f k = (f, (2, 0))) := Lib.hid (by unfold relT; rw [HE.out]; simp)
      clear v0 v1
      go_enter Tryd.func51, Tryd.ntmps51
      go_wp2_with (first
        | (at_lookup; refine wpList_look _ rfl _ _ rfl (HA.out _ (HT.out _)) HI.out 1023 true (by rw [HE.out]; rfl) (by rw [HE.out]; rfl) rfl rfl ?_))
      exact bodyPost_ret (v := rv (2, 0)) (by simp [results, Tryd.results51, go_sem]) rfl (by rw [HR.out]; exact ⟨rfl, HA.out _ (HT.out _), (HT.out _).mono (by simp)⟩)
    · have HR : Hid (relT f k = (upd f k (some (v + 1)), (0, v + 1))) := Lib.hid (by unfold relT; rw [HE.out]; simp [hv])
      have hne2 : (v == 1023) = false := by simpa using hv
      have HV := Lib.hid (show 0 ≤ v + 1 ∧ v + 1 ≤ 1023 by omega)
      have hw : IntKind.i64.wrap (v + 1) = v + 1 := by
        have : 0 ≤ v + 1 ∧ v + 1 ≤ 1023 := HV.out
        simp [IntKind.wrap, IntKind.bits, IntKind.signed]; omega
      clear hv
      go_enter Tryd.func51, Tryd.ntmps51
      go_wp2_with (first
        | (at_lookup; refine wpList_look _ rfl _ _ rfl (HA.out _ (HT.out _)) HI.out v true (by rw [HE.out]; rfl) (by rw [HE.out]; rfl) rfl rfl ?_)
        | (at_mapUpdate; refine wpList_store _ rfl _ _ _ rfl (HA.out _ (HT.out _)) HK.out HV.out rfl rfl rfl ?_; intro w2 hA2 hT2; have hk2 := hT2.keep HB.out (by simp; have := HL.out q rfl; omega); have HB2 := Lib.hid hk2; clear hk2; have HA2 := Lib.hid hA2; have HT2 := Lib.hid (((HT.out _).mono (by simp)).trans hT2 (fun k hk => Or.inl hk)); clear hA2 hT2)
        | (go_at_call 44; (with_reducible refine (done_any _ _).mono ?_); rintro e w1 ⟨rfl, hT⟩; have hk := hT.keep HB2.out (by simp); obtain ⟨⟨c0, c1⟩, f0, f1⟩ := blk2 hk; have HB1 := Lib.hid hk; clear hk; have HA1 := Lib.hid (HA2.out.step hT); have HT1 := Lib.hid (HT2.out.trans hT (by simp)); clear hT))
      have r := blk2 (told_blk HB1.out (.int .i64 0) (.int .i64 (v + 1)))
      exact bodyPost_ret (v := rv (0, v + 1)) (by simp [results, Tryd.results51, go_sem, r.1.1, r.1.2]) rfl (by rw [HR.out]; exact tend_told HA1.out HT1.out HL.out _ _ rfl)
end Mdl
end Go.Proofs.YtmodanjblbaedaaDoor
