/- Counts beside an arena, some blocks that lie as they lay, rows of numbers. -/
import Derived.Test.YthnmnpjjpckeeaaCountFirst
import Derived.Test.YthnmnpjjpckeeaaCountBackPlain
set_option linter.unusedVariables false
set_option linter.unusedSimpArgs false
namespace Go.Proofs.Ythnmnpjjpckeeaa
namespace Cnt
open Go.RowKit Go.Maps Arn Pac Clm

/-! ### rows -/
def nums (f : Nat → Nat) (n : Nat) : List Value := (List.range n).map fun i => .int .i64 (f i : Int)
def bools (f : Nat → Bool) (n : Nat) : List Value := (List.range n).map fun i => .bool (f i)
def ptrsC (rr : Nat → Nat) (c : Nat → Option Ct) (n : Nat) : List Value := (List.range n).map fun i => if (c i).isSome then .pointer (some ⟨rr i, 0, none⟩) else .pointer none
theorem row_get {g : Nat → Value} {n i : Nat} (h : i < n) : ((List.range n).map g)[i]? = some (g i) := by simp [h]
theorem row_put {g g' : Nat → Value} {n i : Nat} (h : i < n) (hg : ∀ j, j ≠ i → g' j = g j) : ((List.range n).map g).set i (g' i) = (List.range n).map g' := by
  apply List.ext_getElem?
  intro j
  rw [List.getElem?_set]
  by_cases e : i = j
  · subst e; simp [h]
  · rw [if_neg e]
    by_cases hj : j < n
    · simp [hj, hg j (fun e2 => e e2.symm)]
    · simp [hj]
theorem nums_put (f : Nat → Nat) {n i : Nat} (v : Nat) (h : i < n) : (nums f n).set i (.int .i64 (v : Int)) = nums (upd f i v) n := by
  have := row_put (g := fun i => .int .i64 (f i : Int)) (g' := fun j => .int .i64 ((upd f i v j : Nat) : Int)) h (fun j hj => by rw [upd_ne _ _ hj])
  simp only [upd_at] at this
  exact this
theorem bools_put (f : Nat → Bool) {n i : Nat} (v : Bool) (h : i < n) : (bools f n).set i (.bool v) = bools (upd f i v) n := by
  have := row_put (g := fun i => .bool (f i)) (g' := fun j => .bool (upd f i v j)) h (fun j hj => by rw [upd_ne _ _ hj])
  simp only [upd_at] at this
  exact this
theorem ptrs_put (rr : Nat → Nat) (c : Nat → Option Ct) {n i : Nat} (C : Ct) (r : Nat) (h : i < n) : (ptrsC rr c n).set i (.pointer (some ⟨r, 0, none⟩)) = ptrsC (upd rr i r) (upd c i (some C)) n := by
  have := row_put (g := fun i => if (c i).isSome then .pointer (some ⟨rr i, 0, none⟩) else .pointer none) (g' := fun j => if (upd c i (some C) j).isSome then .pointer (some ⟨upd rr i r j, 0, none⟩) else .pointer none) h (fun j hj => by rw [upd_ne _ _ hj, upd_ne _ _ hj])
  simp only [upd_at, Option.isSome_some, if_true] at this
  exact this
theorem ptrs_keep (rr : Nat → Nat) (c : Nat → Option Ct) {n i : Nat} {C : Ct} (C' : Ct) (h : c i = some C) : ptrsC rr (upd c i (some C')) n = ptrsC rr c n := by
  unfold ptrsC
  apply List.map_congr_left
  intro j hj
  by_cases e : j = i
  · subst e; rw [upd_at, h]; rfl
  · rw [upd_ne _ _ e]
theorem cell_of {W : World} {g i : Nat} {l : List Value} {t : TypeId} {v : Value} (h : W.heap[g]? = some (.cells l.toArray t (0, 0))) (hv : l[i]? = some v) : W.cell? ⟨g, i, none⟩ = some v ∧ W.frozen? ⟨g, i, none⟩ = false := by
  refine ⟨?_, Frm.frozen_row _ _ _ _ _ h⟩
  rw [Frm.cell_row _ _ _ _ _ _ h]
  simpa using hv
theorem heap_put {W : World} {g i : Nat} {l : List Value} {t : TypeId} (v : Value) (h : W.heap[g]? = some (.cells l.toArray t (0, 0))) : (W.setCell ⟨g, i, none⟩ v).heap[g]? = some (.cells (l.set i v).toArray t (0, 0)) := by
  rw [Frm.heap_set _ _ _ _ _ _ _ h]
  simp
/-! ### the crew -/
def crewK (X : List (Nat × Obj)) (n : Nat) (rr qq : Nat → Nat) : List Nat := X.map Prod.fst ++ ((List.range n).map rr ++ (List.range n).map qq)
structure Crew (w : World) (b : Nat) (X : List (Nat × Obj)) (n : Nat) (rr qq : Nat → Nat) (c : Nat → Option Ct) (A : Ar) (k : Nat) (W : World) : Prop where
  kin : Kin w b (crewK X n rr qq) A k W
  xs : ∀ p, p ∈ X → W.heap[p.1]? = some p.2 ∧ w.heap.size ≤ p.1
  dist : (X.map Prod.fst).Nodup
  at_ : ∀ i C, i < n → c i = some C → CtAt W (rr i) b (qq i) C ∧ C.Fit ∧ w.heap.size ≤ rr i ∧ rr i ≠ qq i
  apart : ∀ i j C D, i < n → j < n → i ≠ j → c i = some C → c j = some D → rr i ≠ rr j ∧ qq i ≠ rr j
  off : ∀ i C p, i < n → c i = some C → p ∈ X → p.1 ≠ rr i ∧ p.1 ≠ qq i
variable {w W W' : World} {b n k i : Nat} {X X' : List (Nat × Obj)} {rr qq : Nat → Nat} {c : Nat → Option Ct} {A : Ar} {C : Ct}
theorem in_x {p : Nat × Obj} (h : p ∈ X) : p.1 ∈ crewK X n rr qq := List.mem_append_left _ (List.mem_map_of_mem h)
theorem in_r (h : i < n) : rr i ∈ crewK X n rr qq := List.mem_append_right _ (List.mem_append_left _ (List.mem_map.2 ⟨i, List.mem_range.2 h, rfl⟩))
theorem in_q (h : i < n) : qq i ∈ crewK X n rr qq := List.mem_append_right _ (List.mem_append_right _ (List.mem_map.2 ⟨i, List.mem_range.2 h, rfl⟩))
theorem mem_crew {q : Nat} (h : q ∈ crewK X n rr qq) : (∃ p, p ∈ X ∧ p.1 = q) ∨ (∃ i, i < n ∧ rr i = q) ∨ ∃ i, i < n ∧ qq i = q := by
  simp only [crewK, List.mem_append, List.mem_map, List.mem_range] at h
  exact h
theorem Crew.turn (S : Crew w b X n rr qq c A k W) (ht : Frm.Turn [] W W') : Crew w b X n rr qq c A k W' :=
  ⟨S.kin.step ht, fun p hp => ⟨ht.keep (S.xs p hp).1 (by simp), (S.xs p hp).2⟩, S.dist, fun i C hi hc => ⟨(S.at_ i C hi hc).1.turn ht (by simp) (by simp), (S.at_ i C hi hc).2⟩, S.apart, S.off⟩
theorem Crew.x (S : Crew w b X n rr qq c A k W) {x : Nat} {o : Obj} (h : (x, o) ∈ X) : W.heap[x]? = some o := (S.xs _ h).1
/-- Behind a call of the arena. -/
theorem Crew.but {A' : Ar} {k' : Nat} (S : Crew w b X n rr qq c A k W) (hk : Kin w b (crewK X n rr qq) A' k' W') (hb : But w (crewK X n rr qq) none W W') : Crew w b X n rr qq c A' k' W' :=
  ⟨hk, fun p hp => ⟨hb.heap0 (in_x hp) (S.xs p hp).1, (S.xs p hp).2⟩, S.dist, fun i C hi hc => ⟨but_ct0 hb (in_r hi) (in_q hi) (S.at_ i C hi hc).1, (S.at_ i C hi hc).2⟩, S.apart, S.off⟩
theorem Crew.read (S : Crew w b X n rr qq c A k W) (hk : k ≤ 1000000) (blk j : Int) (hb : W64 blk) (h0 : 0 ≤ j) (h1 : j ≤ 10000) : Calls Try.prog 53 #[.pointer (some ⟨b, 0, none⟩), .agg #[.int .u64 blk, .int .i64 j]] W fun e w' => e = .returned (.tuple #[.int .u64 (A.read blk j).2.1, .int .i64 (A.read blk j).2.2]) ∧ Crew w b X n rr qq c (A.read blk j).1 (k + 1) w' :=
  (kin_read S.kin (by omega) blk j hb (wf_small h0 (by omega))).mono fun e w' ⟨he, h1, h2⟩ => ⟨he, S.but h1 h2⟩
theorem Crew.faults (S : Crew w b X n rr qq c A k W) (h : A.faults = 0) : Calls Try.prog 18 #[.pointer (some ⟨b, 0, none⟩)] W fun e w' => e = .returned (.int .i64 0) ∧ W = w' := by
  obtain ⟨M, hs, _⟩ := S.kin
  have := faults_any hs.at_
  rw [h] at this
  exact this
/-- One steps. -/
theorem Crew.step (S : Crew w b X n rr qq c A k W) (hk : k ≤ 1000000) (hi : i < n) (hc : c i = some C) : Calls Try.prog 16 #[.pointer (some ⟨rr i, 0, none⟩)] W fun e w' => e = .returned (.tuple #[]) ∧ Crew w b X n rr qq (upd c i (some (C.step A).2)) (C.step A).1 (k + 1) w' := by
  obtain ⟨h1, h2, h3, h4⟩ := S.at_ i C hi hc
  refine (kin_stepC S.kin (by omega) (in_r hi) (in_q hi) h4 h3 h1 h2).mono ?_
  rintro e w' ⟨he, k1, k2, k3⟩
  refine ⟨he, k1, fun p hp => ⟨k3.heap (in_x hp) (S.off i C p hi hc hp).1 (S.xs p hp).1, (S.xs p hp).2⟩, S.dist, fun j D hj hd => ?_, fun j l D E hj hl hjl hd he => ?_, fun j D p hj hd hp => ?_⟩
  · by_cases e : j = i
    · subst e
      rw [upd_at] at hd
      cases hd
      exact ⟨k2, h2.step A, h3, h4⟩
    · rw [upd_ne _ _ e] at hd
      obtain ⟨a1, a2⟩ := S.apart j i D C hj hi e hd hc
      exact ⟨but_ct k3 (in_r hj) (in_q hj) a1 a2 (S.at_ j D hj hd).1, (S.at_ j D hj hd).2⟩
  · have key : ∀ j D, upd c i (some (C.step A).2) j = some D → ∃ D', c j = some D' := fun j D hd => by
      by_cases e : j = i
      · subst e; exact ⟨C, hc⟩
      · rw [upd_ne _ _ e] at hd; exact ⟨D, hd⟩
    obtain ⟨D', hd'⟩ := key j D hd
    obtain ⟨E', he'⟩ := key l E he
    exact S.apart j l D' E' hj hl hjl hd' he'
  · by_cases e : j = i
    · subst e; exact S.off j C p hj hc hp
    · rw [upd_ne _ _ e] at hd; exact S.off j D p hj hd hp
/-- One is made anew. -/
theorem Crew.made {r q : Nat} (S : Crew w b X n rr qq c A k W) (hm : MadeC W b C r q W') (hf : C.Fit) : Crew w b X n (upd rr i r) (upd qq i q) (upd c i (some C)) A k W' := by
  obtain ⟨m1, m2, m3, m4, m5, m6, m7⟩ := hm
  have hws := S.kin.turn.size
  have S' := S.turn m7
  have lr : ∀ j, j < n → rr j < W.heap.size := fun j hj => S.kin.lt (in_r hj)
  have lq : ∀ j, j < n → qq j < W.heap.size := fun j hj => S.kin.lt (in_q hj)
  refine ⟨kin_adds S.kin m7 (fun q' hq => ?_), S'.xs, S.dist, fun j D hj hd => ?_, fun j l D E hj hl hjl hd he => ?_, fun j D p hj hd hp => ?_⟩
  · rcases mem_crew hq with ⟨p, hp, rfl⟩ | ⟨j, hj, rfl⟩ | ⟨j, hj, rfl⟩
    · exact .inl (in_x hp)
    · by_cases e : j = i
      · subst e; rw [upd_at]; exact .inr ⟨m2, m3⟩
      · rw [upd_ne _ _ e]; exact .inl (in_r hj)
    · by_cases e : j = i
      · subst e; rw [upd_at]; exact .inr ⟨m4, m5⟩
      · rw [upd_ne _ _ e]; exact .inl (in_q hj)
  · by_cases e : j = i
    · subst e
      rw [upd_at] at hd
      cases hd
      rw [upd_at, upd_at]
      exact ⟨m1, hf, by omega, m6⟩
    · rw [upd_ne _ _ e] at hd
      rw [upd_ne _ _ e, upd_ne _ _ e]
      exact S'.at_ j D hj hd
  · by_cases e : j = i
    · subst e
      have e2 : l ≠ j := fun h => hjl h.symm
      rw [upd_at, upd_at, upd_ne _ _ e2]
      have := lr l hl
      exact ⟨by omega, by omega⟩
    · rw [upd_ne _ _ e] at hd
      rw [upd_ne _ _ e, upd_ne _ _ e]
      by_cases e2 : l = i
      · subst e2
        rw [upd_at]
        have := lr j hj
        have := lq j hj
        exact ⟨by omega, by omega⟩
      · rw [upd_ne _ _ e2] at he ⊢
        exact S.apart j l D E hj hl hjl hd he
  · have hpl := S.kin.lt (in_x (n := n) (rr := rr) (qq := qq) hp)
    by_cases e : j = i
    · subst e
      rw [upd_at, upd_at]
      exact ⟨by omega, by omega⟩
    · rw [upd_ne _ _ e] at hd
      rw [upd_ne _ _ e, upd_ne _ _ e]
      exact S.off j D p hj hd hp
/-- A block more. -/
theorem Crew.more (S : Crew w b X n rr qq c A k W) (ht : Frm.Turn [] W W') {x : Nat} {o : Obj} (h1 : W.heap.size ≤ x) (h2 : W'.heap[x]? = some o) : Crew w b ((x, o) :: X) n rr qq c A k W' := by
  have S' := S.turn ht
  have hws := S.kin.turn.size
  have hlt := (Array.getElem?_eq_some_iff.1 h2).1
  refine ⟨kin_adds S.kin ht (fun q hq => ?_), fun p hp => ?_, ?_, S'.at_, S.apart, fun j D p hj hd hp => ?_⟩
  · simp only [crewK, List.map_cons, List.cons_append, List.mem_cons] at hq
    rcases hq with rfl | hq
    · exact .inr ⟨h1, hlt⟩
    · exact .inl hq
  · rcases List.mem_cons.1 hp with rfl | hp
    · exact ⟨h2, by dsimp only; omega⟩
    · exact S'.xs p hp
  · rw [List.map_cons, List.nodup_cons]
    refine ⟨fun h => ?_, S.dist⟩
    obtain ⟨p, hp, e⟩ := List.mem_map.1 h
    have := S.kin.lt (in_x (n := n) (rr := rr) (qq := qq) hp)
    dsimp only at e
    omega
  · rcases List.mem_cons.1 hp with rfl | hp
    · have := S.kin.lt (in_r (X := X) (rr := rr) (qq := qq) hj)
      have := S.kin.lt (in_q (X := X) (rr := rr) (qq := qq) hj)
      exact ⟨by dsimp only; omega, by dsimp only; omega⟩
    · exact S.off j D p hj hd hp
theorem Crew.fewer {p : Nat × Obj} (S : Crew w b (p :: X) n rr qq c A k W) : Crew w b X n rr qq c A k W :=
  ⟨S.kin.sub (fun q hq => by simp only [crewK, List.map_cons, List.cons_append, List.mem_cons] at hq ⊢; exact .inr hq), fun p hp => S.xs p (List.mem_cons_of_mem _ hp), (List.nodup_cons.1 S.dist).2, S.at_, S.apart, fun j D p hj hd hp => S.off j D p hj hd (List.mem_cons_of_mem _ hp)⟩
/-- A cell of one of the blocks turns. -/
theorem Crew.poke (S : Crew w b X n rr qq c A k W) {x j : Nat} {o o' : Obj} {v : Value} (hx : (x, o) ∈ X) (ho : (W.setCell ⟨x, j, none⟩ v).heap[x]? = some o') (hf : X'.map Prod.fst = X.map Prod.fst) (hX : ∀ p, p ∈ X' → p = (x, o') ∨ (p ∈ X ∧ p.1 ≠ x)) : Crew w b X' n rr qq c A k (W.setCell ⟨x, j, none⟩ v) := by
  have hT := turn_set W x j v
  have hk : crewK X' n rr qq = crewK X n rr qq := by unfold crewK; rw [hf]
  refine ⟨by rw [hk]; exact S.kin.poke hT (fun q hq => by simp at hq; subst hq; exact ⟨in_x hx, (S.xs _ hx).2⟩), fun p hp => ?_, by rw [hf]; exact S.dist, fun i C hi hc => ?_, S.apart, fun i C p hi hc hp => ?_⟩
  · rcases hX p hp with rfl | ⟨h1, h2⟩
    · exact ⟨ho, (S.xs _ hx).2⟩
    · exact ⟨hT.keep (S.xs p h1).1 (by simpa using h2), (S.xs p h1).2⟩
  · obtain ⟨o1, o2⟩ := S.off i C _ hi hc hx
    dsimp only at o1 o2
    exact ⟨(S.at_ i C hi hc).1.turn hT (by simpa using fun e => o1 e.symm) (by simpa using fun e => o2 e.symm), (S.at_ i C hi hc).2⟩
  · rcases hX p hp with rfl | ⟨h1, h2⟩
    · exact S.off i C (x, o) hi hc hx
    · exact S.off i C p hi hc h1
/-- Nobody there yet. -/
theorem crew_new {K : List Nat} (h : Kin w b K A k W) (hxs : ∀ p, p ∈ X → p.1 ∈ K ∧ W.heap[p.1]? = some p.2 ∧ w.heap.size ≤ p.1) (hd : (X.map Prod.fst).Nodup) {x : Nat} (hx : x ∈ K) : Crew w b X n (fun _ => x) (fun _ => x) (fun _ => none) A k W := by
  refine ⟨h.sub (fun q hq => ?_), fun p hp => (hxs p hp).2, hd, fun i C _ hc => (by cases hc), fun i j C D _ _ _ hc => (by cases hc), fun i C p _ hc => (by cases hc)⟩
  rcases mem_crew hq with ⟨p, hp, rfl⟩ | ⟨j, hj, rfl⟩ | ⟨j, hj, rfl⟩
  · exact (hxs p hp).1
  · exact hx
  · exact hx
end Cnt
end Go.Proofs.Ythnmnpjjpckeeaa
