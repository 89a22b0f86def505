/- Upon which part of a model an operation works; unlike parts don't touch one another, plainly; the law's call that tells the part. -/
import Derived.Test.YtmodanjblbaedaaDoorModelHolds
set_option linter.unusedVariables false
set_option linter.unusedSimpArgs false
namespace Go.Proofs.YtmodanjblbaedaaDoor
namespace Mdl
open Go.RowKit Go.Maps Go.Shelf Go.Lib Go.Sort

def partN (c k a b : Int) : Int := if Ops.opT.rightB c k a b = false ∨ c = 0 ∨ c = 8 ∨ c = 9 then 0 else if c ≤ 3 then 1 else if c ≤ 9 then 2 + k else 1000 + k
def getO (x : Option Int) : Rs := match x with
  | some v => (0, v)
  | none => (1, 0)
theorem get_o (f : Tb) (k : Int) : get f k = getO (f k) := rfl
def mloc (c a b : Int) (x : Option Int) : Option Int × Rs :=
  if c = 4 then (x, getO x) else if c = 5 then (some a, getO x) else if c = 6 then (none, getO x)
  else match x with
    | none => (none, (1, 0))
    | some v => if v = a then (some b, (0, a)) else (some v, (4, v))
def sloc (c a : Int) (x : Option Int) : Option Int × Rs :=
  if c = 10 then (some a, getO x) else if c = 11 then (match x with
    | none => (none, (1, 0))
    | some v => if v = 0 then (some v, (3, 0)) else (some (v - 1), (0, v - 1)))
  else if c = 12 then (match x with
    | none => (none, (1, 0))
    | some v => if v = 1023 then (some v, (2, 0)) else (some (v + 1), (0, v + 1)))
  else if c = 14 then (none, getO x) else (x, getO x)
theorem upd_at {f : Tb} {k : Int} {x : Option Int} (h : f k = x) : upd f k x = f := by subst h; exact upd_id
theorem mapT_loc (f : Tb) (c k a b : Int) (hc : c = 4 ∨ c = 5 ∨ c = 6 ∨ c = 7) : mapT f c k a b = (upd f k (mloc c a b (f k)).1, (mloc c a b (f k)).2) := by
  rcases hc with rfl | rfl | rfl | rfl
  · simp [mapT, mloc, get_o, upd_id]
  · simp [mapT, mloc, get_o]
  · simp [mapT, mloc, get_o]
  · simp only [mapT, mloc, swapT]
    cases e : f k with
    | none => simp [upd_at e]
    | some v =>
      by_cases h : v = a
      · simp [h]
      · simp [h, upd_at e]
theorem semT_loc (f : Tb) (c k a : Int) (hc : 10 ≤ c ∧ c ≤ 14) : semT f c k a = (upd f k (sloc c a (f k)).1, (sloc c a (f k)).2) := by
  have : c = 10 ∨ c = 11 ∨ c = 12 ∨ c = 13 ∨ c = 14 := by omega
  rcases this with rfl | rfl | rfl | rfl | rfl
  · simp [semT, sloc, get_o]
  · simp only [semT, sloc, acqT]
    cases e : f k with
    | none => simp [upd_at e]
    | some v =>
      by_cases h : v = 0
      · simp [h]; subst h; exact (upd_at e).symm
      · simp [h]
  · simp only [semT, sloc, relT]
    cases e : f k with
    | none => simp [upd_at e]
    | some v =>
      by_cases h : v = 1023
      · simp [h]; subst h; exact (upd_at e).symm
      · simp [h]
  · simp [semT, sloc, get_o, upd_id]
  · simp [semT, sloc, get_o]
/-- Either order. -/
def Either (m : Mo) (o p : Opn) : Prop :=
  (appOp m o.c o.k o.a o.b).2 = (appOp (appOp m p.c p.k p.a p.b).1 o.c o.k o.a o.b).2 ∧ (appOp m p.c p.k p.a p.b).2 = (appOp (appOp m o.c o.k o.a o.b).1 p.c p.k p.a p.b).2 ∧
  (appOp (appOp m o.c o.k o.a o.b).1 p.c p.k p.a p.b).1 = (appOp (appOp m p.c p.k p.a p.b).1 o.c o.k o.a o.b).1
inductive Kd (c k : Int) : Int → Prop where
  | q (h : 1 ≤ c ∧ c ≤ 3) : Kd c k 1
  | d (h : 4 ≤ c ∧ c ≤ 9) (h' : c = 4 ∨ c = 5 ∨ c = 6 ∨ c = 7) : Kd c k (2 + k)
  | s (h : 10 ≤ c ∧ c ≤ 14) : Kd c k (1000 + k)
theorem part_kd {c k a b : Int} (h : partN c k a b ≠ 0) : Ops.opT.rightB c k a b = true ∧ Kd c k (partN c k a b) := by
  unfold partN at h ⊢
  by_cases h1 : Ops.opT.rightB c k a b = false ∨ c = 0 ∨ c = 8 ∨ c = 9
  · rw [if_pos h1] at h; exact absurd rfl h
  · rw [if_neg h1]
    have hr : Ops.opT.rightB c k a b = true := by
      cases e : Ops.opT.rightB c k a b with
      | true => rfl
      | false => exact absurd (Or.inl e) h1
    obtain ⟨_, c0, c1⟩ := op_ok hr
    refine ⟨hr, ?_⟩
    split
    · exact .q (by omega)
    · split
      · exact .d (by omega) (by omega)
      · exact .s (by omega)
theorem either_of {m : Mo} {o p : Opn} (h1 : partN o.c o.k o.a o.b ≠ 0) (h2 : partN p.c p.k p.a p.b ≠ 0) (h3 : partN o.c o.k o.a o.b ≠ partN p.c p.k p.a p.b) : Either m o p := by
  obtain ⟨r1, k1⟩ := part_kd h1
  obtain ⟨r2, k2⟩ := part_kd h2
  have ho := (op_ok r1).1
  have hp := (op_ok r2).1
  generalize partN o.c o.k o.a o.b = x at k1 h3
  generalize partN p.c p.k p.a p.b = y at k2 h3
  unfold Either
  cases k1 with
  | q c1 =>
    cases k2 with
    | q c2 => exact absurd rfl h3
    | d c2 c2' => simp only [app_q r1 c1, app_d r2 c2, and_self]
    | s c2 => simp only [app_q r1 c1, app_s r2 c2, and_self]
  | d c1 c1' =>
    cases k2 with
    | q c2 => simp only [app_d r1 c1, app_q r2 c2, and_self]
    | d c2 c2' =>
      have hk : o.k ≠ p.k := fun e => h3 (by rw [e])
      simp only [app_d r1 c1, app_d r2 c2, mapT_loc _ _ _ _ _ c1', mapT_loc _ _ _ _ _ c2', upd_other _ _ hk, upd_other _ _ (Ne.symm hk)]
      exact ⟨trivial, trivial, by rw [upd_comm _ _ _ (Ne.symm hk)]⟩
    | s c2 => simp only [app_d r1 c1, app_s r2 c2, and_self]
  | s c1 =>
    cases k2 with
    | q c2 => simp only [app_s r1 c1, app_q r2 c2, and_self]
    | d c2 c2' => simp only [app_s r1 c1, app_d r2 c2, and_self]
    | s c2 =>
      have hk : o.k ≠ p.k := fun e => h3 (by rw [e])
      simp only [app_s r1 c1, app_s r2 c2, semT_loc _ _ _ _ c1, semT_loc _ _ _ _ c2, upd_other _ _ hk, upd_other _ _ (Ne.symm hk)]
      exact ⟨trivial, trivial, by rw [upd_comm _ _ _ (Ne.symm hk)]⟩

set_option maxRecDepth 10000 in
set_option maxHeartbeats 2000000 in
theorem part_any (c k a b : Int) (w : World) :
    Calls Tryd.prog 20 #[.agg #[.int .i64 c, .int .i64 k, .int .i64 a, .int .i64 b]] w fun e w' => e = .returned (.int .i64 (partN c k a b)) ∧ Frm.Turn [] w w' := by
  have HT := Lib.hid ((Frm.Turn.refl [] w).alloc (opC c k a b))
  have HO : Hid ((w.alloc (opC c k a b)).heap[w.heap.size]? = some (.cells #[.int .i64 c, .int .i64 k, .int .i64 a, .int .i64 b] 35 (0, 0))) := Lib.hid (World.alloc_heap_new w _)
  cases hr : Ops.opT.rightB c k a b with
  | false =>
    have HG : Hid (∀ W, Calls Tryd.prog 24 #[.agg #[.int .i64 c, .int .i64 k, .int .i64 a, .int .i64 b]] W fun e w' => e = .returned (.bool false) ∧ Frm.Turn [] W w') := Lib.hid (fun W => by rw [← hr]; exact Ops.refRight_any c k a b W)
    have HP : Hid (partN c k a b = 0) := Lib.hid (by unfold partN; rw [if_pos (Or.inl hr)])
    clear hr
    go_enter Tryd.func20, Tryd.ntmps20
    go_wp2_with (go_at_call 24; (with_reducible refine (HG.out _).mono ?_); rintro e w1 ⟨rfl, hT⟩; have HT1 := Lib.hid (HT.out.trans hT (by simp)); clear hT)
    go_ret
    exact ⟨by rw [HP.out]; rfl, HT1.out⟩
  | true =>
    have HG : Hid (∀ W, Calls Tryd.prog 24 #[.agg #[.int .i64 c, .int .i64 k, .int .i64 a, .int .i64 b]] W fun e w' => e = .returned (.bool true) ∧ Frm.Turn [] W w') := Lib.hid (fun W => by rw [← hr]; exact Ops.refRight_any c k a b W)
    obtain ⟨hoo, c0, c1⟩ := op_ok hr
    obtain ⟨k0, k1⟩ := hoo.k
    have HP : Hid (partN c k a b = if c = 0 ∨ c = 8 ∨ c = 9 then 0 else if c ≤ 3 then 1 else if c ≤ 9 then 2 + k else 1000 + k) := Lib.hid (by unfold partN; simp [hr])
    clear hr hoo
    have hc : c = 0 ∨ c = 8 ∨ c = 9 ∨ c = 1 ∨ c = 2 ∨ c = 3 ∨ c = 4 ∨ c = 5 ∨ c = 6 ∨ c = 7 ∨ c = 10 ∨ c = 11 ∨ c = 12 ∨ c = 13 ∨ c = 14 := by omega
    clear c0 c1
    rcases hc with rfl | rfl | rfl | rfl | rfl | rfl | rfl | rfl | rfl | rfl | rfl | rfl | rfl | rfl | rfl
    all_goals
      go_enter Tryd.func20, Tryd.ntmps20
      go_wp2_with (go_at_call 24; (with_reducible refine (HG.out _).mono ?_); rintro e w1 ⟨rfl, hT⟩; obtain ⟨⟨d0, d1, d2, d3⟩, _⟩ := Ops.blk4 (hT.keep HO.out (by simp)); have HT1 := Lib.hid (HT.out.trans hT (by simp)); clear hT)
      go_ret
      exact ⟨by rw [HP.out]; rfl, HT1.out⟩
end Mdl
end Go.Proofs.YtmodanjblbaedaaDoor
