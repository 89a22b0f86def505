/- What the laws of layer 6 say of an operation, plainly: right responses, small changes, what is asked alone. -/
import Derived.Test.YtmodanjblbaedaaDoorModelGreat
set_option linter.unusedVariables false
set_option linter.unusedSimpArgs false
namespace Go.Proofs.YtmodanjblbaedaaDoor
namespace Mdl

structure RGood (r : Rs) : Prop where
  kind : 0 ≤ r.1 ∧ r.1 ≤ 4
  val : 0 ≤ r.2 ∧ r.2 ≤ 268435455
  form : r.2 = 0 ∨ r.1 = 0 ∨ r.1 = 4
theorem rgood_none : RGood (1, 0) := ⟨by simp, by simp, by simp⟩
theorem get_good {f : Tb} (h : TOk f) (k : Int) : RGood (get f k) := by
  rcases get_vals h k with ⟨h1, h2, h3⟩ | h1
  · exact ⟨by omega, by omega, Or.inr (Or.inl h1)⟩
  · rw [h1]; exact rgood_none
theorem floor_good {f : Tb} (h : TOk f) (n : Nat) (hn : n ≤ 256) : RGood (floorUp f n) := by
  induction n with
  | zero => exact rgood_none
  | succ n ih =>
    unfold floorUp
    split
    · rename_i v e
      have := h.dom _ v e
      exact ⟨by simp, by simp; omega, by simp⟩
    · exact ih (by omega)
theorem queT_good {q : List Int} (h : q.length ≤ 256) (hv : ∀ x, x ∈ q → 0 ≤ x ∧ x ≤ 1023) (c a : Int) : RGood (queT q c a).2 := by
  unfold queT
  split
  · split
    · exact ⟨by simp, by simp, by simp⟩
    · exact ⟨by simp, by simp; omega, by simp⟩
  · split
    · split
      · exact rgood_none
      · rename_i x r
        have := hv x (by simp)
        exact ⟨by simp, by simp; omega, by simp⟩
    · exact ⟨by simp, by simp; omega, by simp⟩
theorem swap_good {f : Tb} (h : TOk f) {k a b : Int} (ho : OpOk k a b) : RGood (swapT f k a b).2 := by
  unfold swapT
  split
  · exact rgood_none
  · rename_i v e
    have := h.dom k v e
    have := ho.a
    split
    · exact ⟨by simp, by simp; omega, by simp⟩
    · exact ⟨by simp, by simp; omega, by simp⟩
theorem mapT_good {f : Tb} (h : TOk f) (c : Int) {k a b : Int} (ho : OpOk k a b) : RGood (mapT f c k a b).2 := by
  unfold mapT
  split
  · exact get_good h k
  · split
    · exact get_good h k
    · split
      · exact get_good h k
      · split
        · exact swap_good h ho
        · split
          · exact floor_good h _ (by have := ho.k; omega)
          · have := cnt_le f
            exact ⟨by simp, by simp; omega, by simp⟩
theorem semT_good {f : Tb} (h : TOk f) (c a : Int) {k : Int} : RGood (semT f c k a).2 := by
  unfold semT acqT relT
  split
  · exact get_good h k
  · split
    · split
      · exact rgood_none
      · rename_i v e
        have := h.dom k v e
        split
        · exact ⟨by simp, by simp, by simp⟩
        · exact ⟨by simp, by simp; omega, by simp⟩
    · split
      · split
        · exact rgood_none
        · rename_i v e
          have := h.dom k v e
          split
          · exact ⟨by simp, by simp, by simp⟩
          · exact ⟨by simp, by simp; omega, by simp⟩
      · split
        · exact get_good h k
        · exact get_good h k
theorem app_good {m : Mo} (h : MOk m) (c k a b : Int) : RGood (appOp m c k a b).2 := by
  unfold appOp app
  split
  · exact rgood_none
  · rename_i hn
    have hr : Ops.opT.rightB c k a b = true := by
      cases e : Ops.opT.rightB c k a b with
      | true => rfl
      | false => exact absurd (Or.inl e) hn
    have ho := (op_ok hr).1
    split
    · exact queT_good h.few h.vals c a
    · split
      · exact mapT_good h.d c ho
      · exact semT_good h.s c a
theorem good_right {r : Rs} (h : RGood r) : Ops.respT.rightB r.1 r.2 0 0 = true := by
  obtain ⟨k, v⟩ := r
  obtain ⟨⟨h0, h1⟩, h2, h3⟩ := h
  simp only at h0 h1 h2 h3 ⊢
  obtain ⟨n, rfl⟩ : ∃ n : Nat, k = n := ⟨k.toNat, by omega⟩
  rw [Ops.resp_near n v (by omega) h2]
  simp only [decide_eq_true_eq]
  omega

theorem cnt_near (f : Tb) {k : Int} (x : Option Int) (hk : 0 ≤ k ∧ k ≤ 255) : cnt (upd f k x) ≤ cnt f + 1 ∧ cnt f ≤ cnt (upd f k x) + 1 := by
  have := cnt_upd f x hk
  split at this <;> split at this <;> omega
theorem swap_near (f : Tb) {k a b : Int} (hk : 0 ≤ k ∧ k ≤ 255) : cnt (swapT f k a b).1 ≤ cnt f + 1 ∧ cnt f ≤ cnt (swapT f k a b).1 + 1 := by
  unfold swapT
  split
  · exact ⟨by simp, by simp⟩
  · split
    · exact cnt_near f _ hk
    · exact ⟨by simp, by simp⟩
theorem mapT_near (f : Tb) (c : Int) {k a b : Int} (hk : 0 ≤ k ∧ k ≤ 255) : cnt (mapT f c k a b).1 ≤ cnt f + 1 ∧ cnt f ≤ cnt (mapT f c k a b).1 + 1 := by
  unfold mapT
  repeat' split
  all_goals first
    | exact cnt_near f _ hk
    | exact swap_near f hk
    | exact ⟨by simp, by simp⟩
theorem semT_near (f : Tb) (c a : Int) {k : Int} (hk : 0 ≤ k ∧ k ≤ 255) : cnt (semT f c k a).1 ≤ cnt f + 1 ∧ cnt f ≤ cnt (semT f c k a).1 + 1 := by
  unfold semT acqT relT
  repeat' split
  all_goals first
    | exact cnt_near f _ hk
    | exact ⟨by simp, by simp⟩
theorem queT_near (q : List Int) (c a : Int) : (queT q c a).1.length ≤ q.length + 1 ∧ q.length ≤ (queT q c a).1.length + 1 := by
  unfold queT
  repeat' split
  all_goals (constructor <;> simp <;> omega)
theorem app_near (m : Mo) (c k a b : Int) : (appOp m c k a b).1.size ≤ m.size + 1 ∧ m.size ≤ (appOp m c k a b).1.size + 1 := by
  unfold appOp app
  split
  · exact ⟨by simp, by simp⟩
  · rename_i hn
    have hr : Ops.opT.rightB c k a b = true := by
      cases e : Ops.opT.rightB c k a b with
      | true => rfl
      | false => exact absurd (Or.inl e) hn
    have hk := (op_ok hr).1.k
    split
    · have := queT_near m.q c a
      simp only [Mo.size]; omega
    · split
      · have := mapT_near m.d c (a := a) (b := b) hk
        simp only [Mo.size]; omega
      · have := semT_near m.s c a hk
        simp only [Mo.size]; omega
theorem size_le {m : Mo} (h : MOk m) : m.size ≤ 768 := by
  have h0 := h.few
  have h1 := cnt_le m.d
  have h2 := cnt_le m.s
  unfold Mo.size; omega
/-- What is asked alone. -/
theorem app_asks (m : Mo) (k a b : Int) : ∀ c, c = 3 ∨ c = 4 ∨ c = 8 ∨ c = 9 ∨ c = 13 → (appOp m c k a b).1 = m := by
  intro c hc
  unfold appOp app
  split
  · rfl
  · rcases hc with rfl | rfl | rfl | rfl | rfl
    · simp [queT]
    · simp [mapT]
    · simp [mapT]
    · simp [mapT]
    · simp [semT]
end Mdl
end Go.Proofs.YtmodanjblbaedaaDoor
