/- A model, plainly: its queue, its two tables, what an operation does; no program is spoken of here. -/
import Derived.Test.YtmodanjblbaedaaDoorLeastFrame
set_option linter.unusedVariables false
set_option linter.unusedSimpArgs false
namespace Go.Proofs.YtmodanjblbaedaaDoor
namespace Mdl

abbrev Tb := Int → Option Int
def upd (f : Tb) (k : Int) (x : Option Int) : Tb := fun j => if j = k then x else f j
def cnt (f : Tb) : Nat := (List.range 256).countP (fun i : Nat => (f (i : Int)).isSome)
structure TOk (f : Tb) : Prop where
  dom : ∀ k v, f k = some v → 0 ≤ k ∧ k ≤ 255 ∧ 0 ≤ v ∧ v ≤ 1023
theorem upd_same (f : Tb) (k : Int) (x : Option Int) : upd f k x k = x := by simp [upd]
theorem upd_other (f : Tb) {k j : Int} (x : Option Int) (h : j ≠ k) : upd f k x j = f j := by simp [upd, h]
theorem upd_id {f : Tb} {k : Int} : upd f k (f k) = f := by
  funext j
  unfold upd
  split
  · rename_i h; rw [h]
  · rfl
theorem upd_comm (f : Tb) {k j : Int} (x y : Option Int) (h : j ≠ k) : upd (upd f k x) j y = upd (upd f j y) k x := by
  funext i
  simp only [upd]
  by_cases h1 : i = k
  · subst h1; simp [Ne.symm h]
  · simp [h1]
theorem TOk.upd {f : Tb} (h : TOk f) {k : Int} {x : Option Int} (hk : 0 ≤ k ∧ k ≤ 255) (hx : ∀ v, x = some v → 0 ≤ v ∧ v ≤ 1023) : TOk (upd f k x) := by
  refine ⟨fun j v hj => ?_⟩
  unfold Mdl.upd at hj
  split at hj
  · rename_i e; subst e; exact ⟨hk.1, hk.2, hx v hj⟩
  · exact h.dom j v hj
theorem tok_none : TOk (fun _ => none) := ⟨fun k v h => by cases h⟩

theorem countP_one {p q : Nat → Bool} {k : Nat} (h : ∀ i, i ≠ k → p i = q i) : ∀ l : List Nat, l.Nodup → k ∈ l → l.countP p + (if q k then 1 else 0) = l.countP q + (if p k then 1 else 0)
  | [], _, hk => by cases hk
  | a :: r, hn, hk => by
    rw [List.nodup_cons] at hn
    by_cases e : a = k
    · subst e
      have hr : r.countP p = r.countP q := by
        apply List.countP_congr
        intro i hi
        have : i ≠ a := fun e => by subst e; exact hn.1 hi
        rw [h i this]
      rw [List.countP_cons, List.countP_cons, hr]
      omega
    · have hk' : k ∈ r := by simpa [Ne.symm e] using hk
      have := countP_one h r hn.2 hk'
      rw [List.countP_cons, List.countP_cons, h a e]
      omega
theorem cnt_upd (f : Tb) {k : Int} (x : Option Int) (hk : 0 ≤ k ∧ k ≤ 255) : cnt (upd f k x) + (if (f k).isSome then 1 else 0) = cnt f + (if x.isSome then 1 else 0) := by
  obtain ⟨n, rfl⟩ : ∃ n : Nat, k = n := ⟨k.toNat, by omega⟩
  have := countP_one (p := fun i => (upd f n x (i : Int)).isSome) (q := fun i => (f (i : Int)).isSome) (k := n) (fun i hi => by
    have : ((i : Nat) : Int) ≠ n := by omega
    simp only [upd_other f x this]) (List.range 256) List.nodup_range (by rw [List.mem_range]; omega)
  simpa [cnt, upd_same] using this
theorem cnt_le (f : Tb) : cnt f ≤ 256 := by
  have := List.countP_le_length (p := fun i : Nat => (f (i : Int)).isSome) (l := List.range 256)
  simpa [cnt] using this
theorem cnt_none : cnt (fun _ => none) = 0 := by simp [cnt]
theorem cnt_zero {f : Tb} (hf : TOk f) (h : cnt f = 0) : f = fun _ => none := by
  funext k
  cases hk : f k with
  | none => rfl
  | some v =>
    obtain ⟨h0, h1, _⟩ := hf.dom k v hk
    obtain ⟨n, rfl⟩ : ∃ n : Nat, k = n := ⟨k.toNat, by omega⟩
    have hp : 0 < cnt f := List.countP_pos_iff.2 ⟨n, by rw [List.mem_range]; omega, by simp [hk]⟩
    omega
theorem cnt_mono {f g : Tb} (h : ∀ k, (f k).isSome = true → (g k).isSome = true) : cnt f ≤ cnt g := List.countP_mono_left (fun i _ hi => h i hi)
/-- Are two tables the same? -/
def sameT (f g : Tb) : Bool := (List.range 256).all (fun i : Nat => f (i : Int) == g (i : Int))
theorem sameT_iff {f g : Tb} (hf : TOk f) (hg : TOk g) : sameT f g = true ↔ f = g := by
  constructor
  · intro h
    funext k
    by_cases hk : 0 ≤ k ∧ k ≤ 255
    · obtain ⟨n, rfl⟩ : ∃ n : Nat, k = n := ⟨k.toNat, by omega⟩
      have := List.all_eq_true.1 h n (by rw [List.mem_range]; omega)
      simpa using this
    · have n1 : f k = none := by
        cases e : f k with
        | none => rfl
        | some v => exact absurd ⟨(hf.dom k v e).1, (hf.dom k v e).2.1⟩ hk
      have n2 : g k = none := by
        cases e : g k with
        | none => rfl
        | some v => exact absurd ⟨(hg.dom k v e).1, (hg.dom k v e).2.1⟩ hk
      rw [n1, n2]
  · rintro rfl
    simp [sameT]
/-- As many keys, and each of the one with its value in the other: the same. -/
theorem same_of_part {f g : Tb} (hf : TOk f) (hc : cnt f = cnt g) (h : ∀ k v, f k = some v → g k = some v) (hg : TOk g) : f = g := by
  funext k
  cases e : f k with
  | some v => exact (h k v e).symm
  | none =>
    cases e2 : g k with
    | none => rfl
    | some v =>
      obtain ⟨h0, h1, _⟩ := hg.dom k v e2
      have h3 := cnt_upd f (some v) ⟨h0, h1⟩
      rw [e] at h3
      simp at h3
      have h4 : cnt (upd f k (some v)) ≤ cnt g := cnt_mono (fun j hj => by
        unfold upd at hj
        split at hj
        · rename_i ej; subst ej; rw [e2]; rfl
        · cases ef : f j with
          | none => rw [ef] at hj; cases hj
          | some x => rw [h j x ef]; rfl)
      omega

structure Mo where
  q : List Int
  d : Tb
  s : Tb
structure MOk (m : Mo) : Prop where
  few : m.q.length ≤ 256
  vals : ∀ x, x ∈ m.q → 0 ≤ x ∧ x ≤ 1023
  d : TOk m.d
  s : TOk m.s
def Mo.new : Mo := ⟨[], fun _ => none, fun _ => none⟩
theorem mok_new : MOk .new := ⟨by simp [Mo.new], by simp [Mo.new], tok_none, tok_none⟩
def Mo.size (m : Mo) : Nat := m.q.length + cnt m.d + cnt m.s
def sameM (m n : Mo) : Bool := (m.q == n.q) && sameT m.d n.d && sameT m.s n.s
theorem sameM_iff {m n : Mo} (hm : MOk m) (hn : MOk n) : sameM m n = true ↔ m = n := by
  unfold sameM
  rw [Bool.and_eq_true, Bool.and_eq_true, sameT_iff hm.d hn.d, sameT_iff hm.s hn.s, beq_iff_eq]
  cases m; cases n
  simp [and_assoc]

abbrev Rs := Int × Int
def get (f : Tb) (k : Int) : Rs := match f k with
  | some v => (0, v)
  | none => (1, 0)
/-- The greatest key below n, and its value. -/
def floorUp (f : Tb) : Nat → Rs
  | 0 => (1, 0)
  | n + 1 => match f (n : Int) with
    | some v => (0, (n : Int) * 1024 + v)
    | none => floorUp f n
def swapT (f : Tb) (k a b : Int) : Tb × Rs := match f k with
  | none => (f, (1, 0))
  | some v => if v = a then (upd f k (some b), (0, a)) else (f, (4, v))
def acqT (f : Tb) (k : Int) : Tb × Rs := match f k with
  | none => (f, (1, 0))
  | some v => if v = 0 then (f, (3, 0)) else (upd f k (some (v - 1)), (0, v - 1))
def relT (f : Tb) (k : Int) : Tb × Rs := match f k with
  | none => (f, (1, 0))
  | some v => if v = 1023 then (f, (2, 0)) else (upd f k (some (v + 1)), (0, v + 1))
/-- A table's operation, of the map's numbers. -/
def mapT (f : Tb) (c k a b : Int) : Tb × Rs :=
  if c = 4 then (f, get f k) else if c = 5 then (upd f k (some a), get f k) else if c = 6 then (upd f k none, get f k) else if c = 7 then swapT f k a b
  else if c = 9 then (f, floorUp f (k.toNat + 1)) else (f, (0, (cnt f : Int)))
def semT (f : Tb) (c k a : Int) : Tb × Rs :=
  if c = 10 then (upd f k (some a), get f k) else if c = 11 then acqT f k else if c = 12 then relT f k else if c = 14 then (upd f k none, get f k) else (f, get f k)
def queT (q : List Int) (c a : Int) : List Int × Rs :=
  if c = 1 then (if 256 ≤ q.length then (q, (2, 0)) else (q ++ [a], (0, (q.length : Int) + 1)))
  else if c = 2 then (match q with
    | [] => ([], (1, 0))
    | x :: r => (r, (0, x)))
  else (q, (0, (q.length : Int)))
/-- What an operation does, and is answered: right tells whether it is right. -/
def app (right : Bool) (m : Mo) (c k a b : Int) : Mo × Rs :=
  if right = false ∨ c < 1 ∨ 14 < c then (m, (1, 0))
  else if c ≤ 3 then ({ m with q := (queT m.q c a).1 }, (queT m.q c a).2)
  else if c ≤ 9 then ({ m with d := (mapT m.d c k a b).1 }, (mapT m.d c k a b).2)
  else ({ m with s := (semT m.s c k a).1 }, (semT m.s c k a).2)

/-- The operands of an operation that is right, as far as a model wants them. -/
structure OpOk (k a b : Int) : Prop where
  k : 0 ≤ k ∧ k ≤ 255
  a : 0 ≤ a ∧ a ≤ 1023
  b : 0 ≤ b ∧ b ≤ 1023
theorem get_vals {f : Tb} (h : TOk f) (k : Int) : ((get f k).1 = 0 ∧ 0 ≤ (get f k).2 ∧ (get f k).2 ≤ 1023) ∨ get f k = (1, 0) := by
  unfold get
  split
  · rename_i v e; exact Or.inl ⟨rfl, (h.dom k v e).2.2⟩
  · exact Or.inr rfl
theorem swap_ok {f : Tb} (h : TOk f) {k a b : Int} (ho : OpOk k a b) : TOk (swapT f k a b).1 := by
  unfold swapT
  split
  · exact h
  · split
    · exact h.upd ho.k (fun v e => by cases e; exact ho.b)
    · exact h
theorem acq_ok {f : Tb} (h : TOk f) {k : Int} : TOk (acqT f k).1 := by
  unfold acqT
  split
  · exact h
  · rename_i v e
    split
    · exact h
    · have := h.dom k v e
      exact h.upd ⟨this.1, this.2.1⟩ (fun x ex => by cases ex; omega)
theorem rel_ok {f : Tb} (h : TOk f) {k : Int} : TOk (relT f k).1 := by
  unfold relT
  split
  · exact h
  · rename_i v e
    split
    · exact h
    · have := h.dom k v e
      exact h.upd ⟨this.1, this.2.1⟩ (fun x ex => by cases ex; omega)
theorem mapT_ok {f : Tb} (h : TOk f) (c : Int) {k a b : Int} (ho : OpOk k a b) : TOk (mapT f c k a b).1 := by
  unfold mapT
  repeat' split
  all_goals first
    | exact h
    | exact h.upd ho.k (fun v e => by cases e; exact ho.a)
    | exact h.upd ho.k (fun v e => by cases e)
    | exact swap_ok h ho
theorem semT_ok {f : Tb} (h : TOk f) (c : Int) {k a b : Int} (ho : OpOk k a b) : TOk (semT f c k a).1 := by
  unfold semT
  repeat' split
  all_goals first
    | exact h
    | exact h.upd ho.k (fun v e => by cases e; exact ho.a)
    | exact h.upd ho.k (fun v e => by cases e)
    | exact acq_ok h
    | exact rel_ok h
theorem queT_few {q : List Int} (h : q.length ≤ 256) (c a : Int) : (queT q c a).1.length ≤ 256 := by
  unfold queT
  repeat' split
  all_goals (simp_all <;> omega)
theorem queT_vals {q : List Int} (h : ∀ x, x ∈ q → 0 ≤ x ∧ x ≤ 1023) (c : Int) {a : Int} (ha : 0 ≤ a ∧ a ≤ 1023) : ∀ x, x ∈ (queT q c a).1 → 0 ≤ x ∧ x ≤ 1023 := by
  unfold queT
  intro x hx
  split at hx
  · split at hx
    · exact h x hx
    · simp at hx
      rcases hx with h1 | rfl
      · exact h x h1
      · exact ha
  · split at hx
    · split at hx
      · cases hx
      · exact h x (by simp at hx; simp [hx])
    · exact h x hx
theorem app_ok {m : Mo} (h : MOk m) {right : Bool} {c k a b : Int} (ho : right = true → OpOk k a b) : MOk (app right m c k a b).1 := by
  unfold app
  split
  · exact h
  · rename_i hn
    have hr : right = true := by cases right <;> simp_all
    have ho := ho hr
    split
    · exact ⟨queT_few h.few c a, queT_vals h.vals c ho.a, h.d, h.s⟩
    · split
      · exact ⟨h.few, h.vals, mapT_ok h.d c ho, h.s⟩
      · exact ⟨h.few, h.vals, h.d, semT_ok h.s c ho⟩
end Mdl
end Go.Proofs.YtmodanjblbaedaaDoor
