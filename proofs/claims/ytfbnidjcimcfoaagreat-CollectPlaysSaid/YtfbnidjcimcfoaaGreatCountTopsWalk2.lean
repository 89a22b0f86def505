/- Counts beside an arena, some blocks that lie as they lay, rows of numbers. -/
/- The walk of CountTops. -/
/- The walk of CountTops, whole. -/
import Derived.Test.YtfbnidjcimcfoaaGreatCountFirst
import Derived.Test.YtfbnidjcimcfoaaGreatCountBackPlain
import Derived.Deep.CutBlock
import Derived.Deep.QuietTactic
import Derived.BigQuiet
set_option linter.unusedVariables false
set_option linter.unusedSimpArgs false
namespace Go.Proofs.YtfbnidjcimcfoaaGreat
namespace Cnt
open Go.RowKit Go.Maps Arn Pac Clm

/-! ### rows -/
def nums (f : Nat → Nat) (n : Nat) : List Value := (List.range n).map fun i => .int .i64 (f i : Int)
def bools (f : Nat → Bool) (n : Nat) : List Value := (List.range n).map fun i => .bool (f i)
def ptrsC (rr : Nat → Nat) (c : Nat → Option Ct) (n : Nat) : List Value := (List.range n).map fun i => if (c i).isSome then .pointer (some ⟨rr i, 0, none⟩) else .pointer none
theorem row_get {g : Nat → Value} {n i : Nat} (h : i < n) : ((List.range n).map g)[i]? = some (g i) := by simp [h]
theorem row_put {g g' : Nat → Value} {n i : Nat} (h : i < n) (hg : ∀ j, j ≠ i → g' j = g j) : ((List.range n).map g).set i (g' i) = (List.range n).map g' := by
  apply List.ext_getElem?
  intro j
  rw [List.getElem?_set]
  by_cases e : i = j
  · subst e; simp [h]
  · rw [if_neg e]
    by_cases hj : j < n
    · simp [hj, hg j (fun e2 => e e2.symm)]
    · simp [hj]
theorem nums_put (f : Nat → Nat) {n i : Nat} (v : Nat) (h : i < n) : (nums f n).set i (.int .i64 (v : Int)) = nums (upd f i v) n := by
  have := row_put (g := fun i => .int .i64 (f i : Int)) (g' := fun j => .int .i64 ((upd f i v j : Nat) : Int)) h (fun j hj => by rw [upd_ne _ _ hj])
  simp only [upd_at] at this
  exact this
theorem bools_put (f : Nat → Bool) {n i : Nat} (v : Bool) (h : i < n) : (bools f n).set i (.bool v) = bools (upd f i v) n := by
  have := row_put (g := fun i => .bool (f i)) (g' := fun j => .bool (upd f i v j)) h (fun j hj => by rw [upd_ne _ _ hj])
  simp only [upd_at] at this
  exact this
theorem ptrs_put (rr : Nat → Nat) (c : Nat → Option Ct) {n i : Nat} (C : Ct) (r : Nat) (h : i < n) : (ptrsC rr c n).set i (.pointer (some ⟨r, 0, none⟩)) = ptrsC (upd rr i r) (upd c i (some C)) n := by
  have := row_put (g := fun i => if (c i).isSome then .pointer (some ⟨rr i, 0, none⟩) else .pointer none) (g' := fun j => if (upd c i (some C) j).isSome then .pointer (some ⟨upd rr i r j, 0, none⟩) else .pointer none) h (fun j hj => by rw [upd_ne _ _ hj, upd_ne _ _ hj])
  simp only [upd_at, Option.isSome_some, if_true] at this
  exact this
theorem ptrs_keep (rr : Nat → Nat) (c : Nat → Option Ct) {n i : Nat} {C : Ct} (C' : Ct) (h : c i = some C) : ptrsC rr (upd c i (some C')) n = ptrsC rr c n := by
  unfold ptrsC
  apply List.map_congr_left
  intro j hj
  by_cases e : j = i
  · subst e; rw [upd_at, h]; rfl
  · rw [upd_ne _ _ e]
theorem cell_of {W : World} {g i : Nat} {l : List Value} {t : TypeId} {v : Value} (h : W.heap[g]? = some (.cells l.toArray t (0, 0))) (hv : l[i]? = some v) : W.cell? ⟨g, i, none⟩ = some v ∧ W.frozen? ⟨g, i, none⟩ = false := by
  refine ⟨?_, Frm.frozen_row _ _ _ _ _ h⟩
  rw [Frm.cell_row _ _ _ _ _ _ h]
  simpa using hv
theorem heap_put {W : World} {g i : Nat} {l : List Value} {t : TypeId} (v : Value) (h : W.heap[g]? = some (.cells l.toArray t (0, 0))) : (W.setCell ⟨g, i, none⟩ v).heap[g]? = some (.cells (l.set i v).toArray t (0, 0)) := by
  rw [Frm.heap_set _ _ _ _ _ _ _ h]
  simp
/-! ### the crew -/
def crewK (X : List (Nat × Obj)) (n : Nat) (rr qq : Nat → Nat) : List Nat := X.map Prod.fst ++ ((List.range n).map rr ++ (List.range n).map qq)
structure Crew (w : World) (b : Nat) (X : List (Nat × Obj)) (n : Nat) (rr qq : Nat → Nat) (c : Nat → Option Ct) (A : Ar) (k : Nat) (W : World) : Prop where
  kin : Kin w b (crewK X n rr qq) A k W
  xs : ∀ p, p ∈ X → W.heap[p.1]? = some p.2 ∧ w.heap.size ≤ p.1
  dist : (X.map Prod.fst).Nodup
  at_ : ∀ i C, i < n → c i = some C → CtAt W (rr i) b (qq i) C ∧ C.Fit ∧ w.heap.size ≤ rr i ∧ rr i ≠ qq i
  apart : ∀ i j C D, i < n → j < n → i ≠ j → c i = some C → c j = some D → rr i ≠ rr j ∧ qq i ≠ rr j
  off : ∀ i C p, i < n → c i = some C → p ∈ X → p.1 ≠ rr i ∧ p.1 ≠ qq i
variable {w W W' : World} {b n k i : Nat} {X X' : List (Nat × Obj)} {rr qq : Nat → Nat} {c : Nat → Option Ct} {A : Ar} {C : Ct}
theorem in_x {p : Nat × Obj} (h : p ∈ X) : p.1 ∈ crewK X n rr qq := List.mem_append_left _ (List.mem_map_of_mem h)
theorem in_r (h : i < n) : rr i ∈ crewK X n rr qq := List.mem_append_right _ (List.mem_append_left _ (List.mem_map.2 ⟨i, List.mem_range.2 h, rfl⟩))
theorem in_q (h : i < n) : qq i ∈ crewK X n rr qq := List.mem_append_right _ (List.mem_append_right _ (List.mem_map.2 ⟨i, List.mem_range.2 h, rfl⟩))
theorem mem_crew {q : Nat} (h : q ∈ crewK X n rr qq) : (∃ p, p ∈ X ∧ p.1 = q) ∨ (∃ i, i < n ∧ rr i = q) ∨ ∃ i, i < n ∧ qq i = q := by
  simp only [crewK, List.mem_append, List.mem_map, List.mem_range] at h
  exact h
theorem Crew.turn (S : Crew w b X n rr qq c A k W) (ht : Frm.Turn [] W W') : Crew w b X n rr qq c A k W' :=
  ⟨S.kin.step ht, fun p hp => ⟨ht.keep (S.xs p hp).1 (by simp), (S.xs p hp).2⟩, S.dist, fun i C hi hc => ⟨(S.at_ i C hi hc).1.turn ht (by simp) (by simp), (S.at_ i C hi hc).2⟩, S.apart, S.off⟩
theorem Crew.x (S : Crew w b X n rr qq c A k W) {x : Nat} {o : Obj} (h : (x, o) ∈ X) : W.heap[x]? = some o := (S.xs _ h).1
/-- Behind a call of the arena. -/
theorem Crew.but {A' : Ar} {k' : Nat} (S : Crew w b X n rr qq c A k W) (hk : Kin w b (crewK X n rr qq) A' k' W') (hb : But w (crewK X n rr qq) none W W') : Crew w b X n rr qq c A' k' W' :=
  ⟨hk, fun p hp => ⟨hb.heap0 (in_x hp) (S.xs p hp).1, (S.xs p hp).2⟩, S.dist, fun i C hi hc => ⟨but_ct0 hb (in_r hi) (in_q hi) (S.at_ i C hi hc).1, (S.at_ i C hi hc).2⟩, S.apart, S.off⟩
theorem Crew.read (S : Crew w b X n rr qq c A k W) (hk : k ≤ 1000000) (blk j : Int) (hb : W64 blk) (h0 : 0 ≤ j) (h1 : j ≤ 10000) : Calls Tryz.prog 44 #[.pointer (some ⟨b, 0, none⟩), .agg #[.int .u64 blk, .int .i64 j]] W fun e w' => e = .returned (.tuple #[.int .u64 (A.read blk j).2.1, .int .i64 (A.read blk j).2.2]) ∧ Crew w b X n rr qq c (A.read blk j).1 (k + 1) w' :=
  (kin_read S.kin (by omega) blk j hb (wf_small h0 (by omega))).mono fun e w' ⟨he, h1, h2⟩ => ⟨he, S.but h1 h2⟩
theorem Crew.faults (S : Crew w b X n rr qq c A k W) (h : A.faults = 0) : Calls Tryz.prog 72 #[.pointer (some ⟨b, 0, none⟩)] W fun e w' => e = .returned (.int .i64 0) ∧ W = w' := by
  obtain ⟨M, hs, _⟩ := S.kin
  have := faults_any hs.at_
  rw [h] at this
  exact this
/-- One steps. -/
theorem Crew.step (S : Crew w b X n rr qq c A k W) (hk : k ≤ 1000000) (hi : i < n) (hc : c i = some C) : Calls Tryz.prog 42 #[.pointer (some ⟨rr i, 0, none⟩)] W fun e w' => e = .returned (.tuple #[]) ∧ Crew w b X n rr qq (upd c i (some (C.step A).2)) (C.step A).1 (k + 1) w' := by
  obtain ⟨h1, h2, h3, h4⟩ := S.at_ i C hi hc
  refine (kin_stepC S.kin (by omega) (in_r hi) (in_q hi) h4 h3 h1 h2).mono ?_
  rintro e w' ⟨he, k1, k2, k3⟩
  refine ⟨he, k1, fun p hp => ⟨k3.heap (in_x hp) (S.off i C p hi hc hp).1 (S.xs p hp).1, (S.xs p hp).2⟩, S.dist, fun j D hj hd => ?_, fun j l D E hj hl hjl hd he => ?_, fun j D p hj hd hp => ?_⟩
  · by_cases e : j = i
    · subst e
      rw [upd_at] at hd
      cases hd
      exact ⟨k2, h2.step A, h3, h4⟩
    · rw [upd_ne _ _ e] at hd
      obtain ⟨a1, a2⟩ := S.apart j i D C hj hi e hd hc
      exact ⟨but_ct k3 (in_r hj) (in_q hj) a1 a2 (S.at_ j D hj hd).1, (S.at_ j D hj hd).2⟩
  · have key : ∀ j D, upd c i (some (C.step A).2) j = some D → ∃ D', c j = some D' := fun j D hd => by
      by_cases e : j = i
      · subst e; exact ⟨C, hc⟩
      · rw [upd_ne _ _ e] at hd; exact ⟨D, hd⟩
    obtain ⟨D', hd'⟩ := key j D hd
    obtain ⟨E', he'⟩ := key l E he
    exact S.apart j l D' E' hj hl hjl hd' he'
  · by_cases e : j = i
    · subst e; exact S.off j C p hj hc hp
    · rw [upd_ne _ _ e] at hd; exact S.off j D p hj hd hp
/-- One is made anew. -/
theorem Crew.made {r q : Nat} (S : Crew w b X n rr qq c A k W) (hm : MadeC W b C r q W') (hf : C.Fit) : Crew w b X n (upd rr i r) (upd qq i q) (upd c i (some C)) A k W' := by
  obtain ⟨m1, m2, m3, m4, m5, m6, m7⟩ := hm
  have hws := S.kin.turn.size
  have S' := S.turn m7
  have lr : ∀ j, j < n → rr j < W.heap.size := fun j hj => S.kin.lt (in_r hj)
  have lq : ∀ j, j < n → qq j < W.heap.size := fun j hj => S.kin.lt (in_q hj)
  refine ⟨kin_adds S.kin m7 (fun q' hq => ?_), S'.xs, S.dist, fun j D hj hd => ?_, fun j l D E hj hl hjl hd he => ?_, fun j D p hj hd hp => ?_⟩
  · rcases mem_crew hq with ⟨p, hp, rfl⟩ | ⟨j, hj, rfl⟩ | ⟨j, hj, rfl⟩
    · exact .inl (in_x hp)
    · by_cases e : j = i
      · subst e; rw [upd_at]; exact .inr ⟨m2, m3⟩
      · rw [upd_ne _ _ e]; exact .inl (in_r hj)
    · by_cases e : j = i
      · subst e; rw [upd_at]; exact .inr ⟨m4, m5⟩
      · rw [upd_ne _ _ e]; exact .inl (in_q hj)
  · by_cases e : j = i
    · subst e
      rw [upd_at] at hd
      cases hd
      rw [upd_at, upd_at]
      exact ⟨m1, hf, by omega, m6⟩
    · rw [upd_ne _ _ e] at hd
      rw [upd_ne _ _ e, upd_ne _ _ e]
      exact S'.at_ j D hj hd
  · by_cases e : j = i
    · subst e
      have e2 : l ≠ j := fun h => hjl h.symm
      rw [upd_at, upd_at, upd_ne _ _ e2]
      have := lr l hl
      exact ⟨by omega, by omega⟩
    · rw [upd_ne _ _ e] at hd
      rw [upd_ne _ _ e, upd_ne _ _ e]
      by_cases e2 : l = i
      · subst e2
        rw [upd_at]
        have := lr j hj
        have := lq j hj
        exact ⟨by omega, by omega⟩
      · rw [upd_ne _ _ e2] at he ⊢
        exact S.apart j l D E hj hl hjl hd he
  · have hpl := S.kin.lt (in_x (n := n) (rr := rr) (qq := qq) hp)
    by_cases e : j = i
    · subst e
      rw [upd_at, upd_at]
      exact ⟨by omega, by omega⟩
    · rw [upd_ne _ _ e] at hd
      rw [upd_ne _ _ e, upd_ne _ _ e]
      exact S.off j D p hj hd hp
/-- A block more. -/
theorem Crew.more (S : Crew w b X n rr qq c A k W) (ht : Frm.Turn [] W W') {x : Nat} {o : Obj} (h1 : W.heap.size ≤ x) (h2 : W'.heap[x]? = some o) : Crew w b ((x, o) :: X) n rr qq c A k W' := by
  have S' := S.turn ht
  have hws := S.kin.turn.size
  have hlt := (Array.getElem?_eq_some_iff.1 h2).1
  refine ⟨kin_adds S.kin ht (fun q hq => ?_), fun p hp => ?_, ?_, S'.at_, S.apart, fun j D p hj hd hp => ?_⟩
  · simp only [crewK, List.map_cons, List.cons_append, List.mem_cons] at hq
    rcases hq with rfl | hq
    · exact .inr ⟨h1, hlt⟩
    · exact .inl hq
  · rcases List.mem_cons.1 hp with rfl | hp
    · exact ⟨h2, by dsimp only; omega⟩
    · exact S'.xs p hp
  · rw [List.map_cons, List.nodup_cons]
    refine ⟨fun h => ?_, S.dist⟩
    obtain ⟨p, hp, e⟩ := List.mem_map.1 h
    have := S.kin.lt (in_x (n := n) (rr := rr) (qq := qq) hp)
    dsimp only at e
    omega
  · rcases List.mem_cons.1 hp with rfl | hp
    · have := S.kin.lt (in_r (X := X) (rr := rr) (qq := qq) hj)
      have := S.kin.lt (in_q (X := X) (rr := rr) (qq := qq) hj)
      exact ⟨by dsimp only; omega, by dsimp only; omega⟩
    · exact S.off j D p hj hd hp
theorem Crew.fewer {p : Nat × Obj} (S : Crew w b (p :: X) n rr qq c A k W) : Crew w b X n rr qq c A k W :=
  ⟨S.kin.sub (fun q hq => by simp only [crewK, List.map_cons, List.cons_append, List.mem_cons] at hq ⊢; exact .inr hq), fun p hp => S.xs p (List.mem_cons_of_mem _ hp), (List.nodup_cons.1 S.dist).2, S.at_, S.apart, fun j D p hj hd hp => S.off j D p hj hd (List.mem_cons_of_mem _ hp)⟩
/-- A cell of one of the blocks turns. -/
theorem Crew.poke (S : Crew w b X n rr qq c A k W) {x j : Nat} {o o' : Obj} {v : Value} (hx : (x, o) ∈ X) (ho : (W.setCell ⟨x, j, none⟩ v).heap[x]? = some o') (hf : X'.map Prod.fst = X.map Prod.fst) (hX : ∀ p, p ∈ X' → p = (x, o') ∨ (p ∈ X ∧ p.1 ≠ x)) : Crew w b X' n rr qq c A k (W.setCell ⟨x, j, none⟩ v) := by
  have hT := turn_set W x j v
  have hk : crewK X' n rr qq = crewK X n rr qq := by unfold crewK; rw [hf]
  refine ⟨by rw [hk]; exact S.kin.poke hT (fun q hq => by simp at hq; subst hq; exact ⟨in_x hx, (S.xs _ hx).2⟩), fun p hp => ?_, by rw [hf]; exact S.dist, fun i C hi hc => ?_, S.apart, fun i C p hi hc hp => ?_⟩
  · rcases hX p hp with rfl | ⟨h1, h2⟩
    · exact ⟨ho, (S.xs _ hx).2⟩
    · exact ⟨hT.keep (S.xs p h1).1 (by simpa using h2), (S.xs p h1).2⟩
  · obtain ⟨o1, o2⟩ := S.off i C _ hi hc hx
    dsimp only at o1 o2
    exact ⟨(S.at_ i C hi hc).1.turn hT (by simpa using fun e => o1 e.symm) (by simpa using fun e => o2 e.symm), (S.at_ i C hi hc).2⟩
  · rcases hX p hp with rfl | ⟨h1, h2⟩
    · exact S.off i C (x, o) hi hc hx
    · exact S.off i C p hi hc h1
/-- Nobody there yet. -/
theorem crew_new {K : List Nat} (h : Kin w b K A k W) (hxs : ∀ p, p ∈ X → p.1 ∈ K ∧ W.heap[p.1]? = some p.2 ∧ w.heap.size ≤ p.1) (hd : (X.map Prod.fst).Nodup) {x : Nat} (hx : x ∈ K) : Crew w b X n (fun _ => x) (fun _ => x) (fun _ => none) A k W := by
  refine ⟨h.sub (fun q hq => ?_), fun p hp => (hxs p hp).2, hd, fun i C _ hc => (by cases hc), fun i j C D _ _ _ hc => (by cases hc), fun i C p _ hc => (by cases hc)⟩
  rcases mem_crew hq with ⟨p, hp, rfl⟩ | ⟨j, hj, rfl⟩ | ⟨j, hj, rfl⟩
  · exact (hxs p hp).1
  · exact hx
  · exact hx
end Cnt
end Go.Proofs.YtfbnidjcimcfoaaGreat

set_option linter.unusedVariables false
set_option linter.unusedSimpArgs false
namespace Go.Proofs.YtfbnidjcimcfoaaGreat
namespace Cnt
open Go.RowKit Go.Maps Arn Pac Clm

/-- Bytes in memory: m of them. -/
def BytesC (W : World) (v : Value) (z : Nat → Int) (m : Nat) : Prop := (∃ ao c, v = .slice ao m c) ∧ (m = 0 ∨ ∃ ga c, v = .slice (some ga) m c ∧ ∀ i, i < m → W.cell? (ga.add i) = some (.int .u8 (z i)))
theorem made_nums (n : Nat) (hn : n ≤ 60000) (w : World) : (Instr.makeSlice 138 (.int .i64 (n : Int)) (.int .i64 (n : Int))).run Tryz.prog w = .ok (.slice (some ⟨w.heap.size, 0, none⟩) n n) (w.alloc (.cells (nums (fun _ => 0) n).toArray 3)) := by
  obtain ⟨i, h1, h2, h3, h4⟩ := Dr.info_parts Dr.info_int
  have hr := run_make (P := Tryz.prog) w 138 3 i (.int .i64 0) Dr.under_ints h1 h2 .i64 .i64 n n (by omega) (by omega) (by rw [h4]; omega) (by omega)
  simp only [Int.toNat_natCast, h3, Nat.mul_one] at hr
  have e : madeCells #[.int .i64 0] n = (nums (fun _ => 0) n).toArray := by
    apply Array.toList_inj.1
    rw [toList_madeCells_one]
    simp only [nums]
    apply List.ext_getElem?
    intro j
    by_cases h : j < n <;> simp [h]
  rw [← e]
  exact hr
def oNums (f : Nat → Nat) (n : Nat) : Obj := .cells (nums f n).toArray 3
/-- Two rows of noughts, of lengths n and m. -/
def TwoC (n m : Nat) (W : World) (v u : Value) (W' : World) : Prop :=
  ∃ mb tb, v = .slice (some ⟨mb, 0, none⟩) n n ∧ u = .slice (some ⟨tb, 0, none⟩) m m ∧ mb ≠ tb ∧ W.heap.size ≤ mb ∧ W.heap.size ≤ tb ∧ W'.heap[mb]? = some (oNums (fun _ => 0) n) ∧ W'.heap[tb]? = some (oNums (fun _ => 0) m) ∧ Frm.Turn [] W W'
theorem two_c (n m : Nat) (W : World) : TwoC n m W (.slice (some ⟨W.heap.size, 0, none⟩) n n) (.slice (some ⟨W.heap.size + 1, 0, none⟩) m m) (((W.alloc (oNums (fun _ => 0) n)).alloc (oNums (fun _ => 0) m)).drew) ∧
    TwoC n m W (.slice (some ⟨W.heap.size + 1, 0, none⟩) n n) (.slice (some ⟨W.heap.size, 0, none⟩) m m) (((W.alloc (oNums (fun _ => 0) m)).alloc (oNums (fun _ => 0) n)).drew) := by
  have key : ∀ o1 o2 : Obj, (((W.alloc o1).alloc o2).drew).heap[W.heap.size]? = some o1 ∧ (((W.alloc o1).alloc o2).drew).heap[W.heap.size + 1]? = some o2 ∧ Frm.Turn [] W (((W.alloc o1).alloc o2).drew) := fun o1 o2 => by
    have e1 := World.alloc_heap_new W o1
    have e2 := World.alloc_heap_new (W.alloc o1) o2
    rw [World.size_alloc] at e2
    exact ⟨((Frm.Turn.refl [] _).alloc o2).keep e1 (by simp), e2, (((Frm.Turn.refl [] W).alloc o1).alloc o2).drew⟩
  obtain ⟨a1, a2, a3⟩ := key (oNums (fun _ => 0) n) (oNums (fun _ => 0) m)
  obtain ⟨b1, b2, b3⟩ := key (oNums (fun _ => 0) m) (oNums (fun _ => 0) n)
  exact ⟨⟨_, _, rfl, rfl, by omega, by omega, by omega, a1, a2, a3⟩, ⟨_, _, rfl, rfl, by omega, by omega, by omega, b2, b1, b3⟩⟩
variable {w W W' : World} {b kh tb ob pb n k m : Nat} {rr qq : Nat → Nat} {c : Nat → Option Ct} {A : Ar} {ohs : Obj} {sl : Nat → Nat}
def topX (kh tb ob : Nat) (ohs : Obj) (f g : Nat → Nat) : List (Nat × Obj) := [(kh, ohs), (tb, oNums f 4), (ob, oNums g 15)]
/-- Between two slots. -/
def TopR (w : World) (b kh tb ob : Nat) (ohs : Obj) (sl : Nat → Nat) (m : Nat) (W : World) : Prop :=
  ∃ rr qq c A k, Crew w b (topX kh tb ob ohs (topN sl m) (ownN sl m)) 1 rr qq c A k W ∧ k ≤ 20 + 10 * m ∧ SegA A 4 (fun g j => ((tF sl m g j : Nat) : Int))
/-- While one enters: behind j steps. -/
def MidR (w : World) (b kh tb ob pb : Nat) (ohs op : Obj) (sl : Nat → Nat) (m r q : Nat) (j : Nat) (W : World) : Prop :=
  ∃ rr qq c A k, Crew w b ((pb, op) :: topX kh tb ob ohs (topN sl m) (ownN sl m)) 1 rr qq c A k W ∧ rr 0 = r ∧ c 0 = some (enC (sl m) j) ∧ k ≤ 20 + 10 * m + j ∧ SegA A 4 (fun g y => ((tF sl m g y + con (sl m) 0 (min j (kN (sl m))) g y : Nat) : Int))
theorem mid_step {op : Obj} {r q j : Nat} (h : MidR w b kh tb ob pb ohs op sl m r q j W) (hs : sl m < 15) (hm : m ≤ 40) (hj : j ≤ 20) :
    Calls Tryz.prog 42 #[.pointer (some ⟨r, 0, none⟩)] W fun e w' => e = .returned (.tuple #[]) ∧ MidR w b kh tb ob pb ohs op sl m r q (j + 1) w' := by
  obtain ⟨rr, qq, c, A, k, S, rfl, hc, hk, I⟩ := h
  refine (S.step (by omega) (by omega) hc).mono ?_
  rintro e w' ⟨he, S'⟩
  refine ⟨he, rr, qq, _, _, _, S', rfl, ?_, by omega, enC_seg I (by omega) ?_ (fun g j => by have := tF_le sl m g j; omega)⟩
  · rw [upd_at, enC_step]
  · have : ∀ s : Fin 15, sgN s.val < 4 := by decide +kernel
    exact this ⟨sl m, hs⟩
theorem sg_lt4 : ∀ s : Fin 15, sgN s.val < 4 := by decide +kernel
/-- The two numbers are one more. -/
theorem mid_end {op : Obj} {r q : Nat} (h : MidR w b kh tb ob pb ohs op sl m r q 9 W) (hs : sl m < 15) :
    TopR w b kh tb ob ohs sl (m + 1) ((W.setCell ⟨tb, sgN (sl m), none⟩ (.int .i64 ((topN sl m (sgN (sl m)) + 1 : Nat) : Int))).setCell ⟨ob, sl m, none⟩ (.int .i64 ((ownN sl m (sl m) + 1 : Nat) : Int))) := by
  obtain ⟨rr, qq, c, A, k, S, _, hc, hk, I⟩ := h
  have S0 := S.fewer
  have hd := S0.dist
  simp only [topX, List.map_cons, List.map_nil, List.nodup_cons, List.mem_cons, List.not_mem_nil, or_false, not_or, not_false_eq_true, and_true, List.nodup_nil] at hd
  obtain ⟨⟨d1, d2⟩, d3⟩ := hd
  have h4 := sg_lt4 ⟨sl m, hs⟩
  dsimp only at h4
  have S1 : Crew w b (topX kh tb ob ohs (topN sl (m + 1)) (ownN sl m)) 1 rr qq c A k _ := S0.poke (x := tb) (j := sgN (sl m)) (v := .int .i64 ((topN sl m (sgN (sl m)) + 1 : Nat) : Int)) (o := oNums (topN sl m) 4) (o' := oNums (topN sl (m + 1)) 4) (by simp [topX]) (by
    have h1 := S0.x (x := tb) (o := oNums (topN sl m) 4) (by simp [topX])
    have := heap_put (i := sgN (sl m)) (.int .i64 ((topN sl m (sgN (sl m)) + 1 : Nat) : Int)) h1
    rw [nums_put _ _ h4, ← topN_succ] at this
    exact this) rfl (fun p hp => by
      simp only [topX, List.mem_cons, List.not_mem_nil, or_false] at hp ⊢
      rcases hp with rfl | rfl | rfl
      · exact .inr ⟨.inl rfl, d1⟩
      · exact .inl rfl
      · exact .inr ⟨.inr (.inr rfl), fun e => d3 e.symm⟩)
  have S2 : Crew w b (topX kh tb ob ohs (topN sl (m + 1)) (ownN sl (m + 1))) 1 rr qq c A k _ := S1.poke (x := ob) (j := sl m) (v := .int .i64 ((ownN sl m (sl m) + 1 : Nat) : Int)) (o := oNums (ownN sl m) 15) (o' := oNums (ownN sl (m + 1)) 15) (by simp [topX]) (by
    have h1 := S1.x (x := ob) (o := oNums (ownN sl m) 15) (by simp [topX])
    have := heap_put (i := sl m) (.int .i64 ((ownN sl m (sl m) + 1 : Nat) : Int)) h1
    rw [nums_put _ _ hs, ← ownN_succ] at this
    exact this) rfl (fun p hp => by
      simp only [topX, List.mem_cons, List.not_mem_nil, or_false] at hp ⊢
      rcases hp with rfl | rfl | rfl
      · exact .inr ⟨.inl rfl, d2⟩
      · exact .inr ⟨.inr (.inl rfl), d3⟩
      · exact .inl rfl)
  refine ⟨rr, qq, c, A, k, S2, by omega, ?_⟩
  have hk9 : min 9 (kN (sl m)) = kN (sl m) := by have := (kN_le (s := sl m) (by omega)).2; omega
  rw [hk9] at I
  exact I
end Cnt
end Go.Proofs.YtfbnidjcimcfoaaGreat

set_option linter.unusedVariables false
set_option linter.unusedSimpArgs false
namespace Go.Proofs.YtfbnidjcimcfoaaGreat
namespace Cnt
open Go.RowKit Go.Maps Arn Pac Clm

variable {w W W' : World} {b kh tb ob pb n k m : Nat} {rr qq : Nat → Nat} {c : Nat → Option Ct} {A : Ar} {ohs : Obj} {sl : Nat → Nat}
def HsO (o : Obj) (kh n : Nat) : Prop := ∀ W : World, W.heap[kh]? = some o → HsAt W kh n
theorem hs_obj {base : Nat} {v : Value} (h : W.ownsRow base 31 1 v n (hsV n)) (hn : 0 < n) : ∃ kh c o, v = .slice (some ⟨kh, 0, none⟩) n c ∧ W.heap[kh]? = some o ∧ HsO o kh n ∧ base ≤ kh := by
  rcases h.2 with ⟨hv, hz⟩ | ⟨g, cap, cur, rfl, hb, hh, h1, h2, h3, h4⟩
  · omega
  · refine ⟨g, cap, _, rfl, hh, fun W' hW x hx => ?_, hb⟩
    rw [Frm.cell_row _ _ _ _ _ _ hW]
    have e : (cur.toList.take (n * 1))[x]? = some (.int .u64 (hS x)) := by rw [h4]; exact hsV_get hx
    rw [List.getElem?_take] at e
    split at e
    · simpa using e
    · cases e
/-- Segments, with what the laws of layer 12 need of it. -/
theorem segs4 (w0 w : World) (ht : Frm.Turn [] w0 w) : Calls Tryz.prog 7 #[.int .i64 4] w fun e W =>
    ∃ b CS kh c ohs A k K, e = .returned (.tuple #[.pointer (some ⟨b, 0, none⟩), .agg CS, .slice (some ⟨kh, 0, none⟩) 4 c]) ∧ CS.size = 20 ∧ CS.all (·.oneCell') = true ∧ Kin w0 b K A k W ∧ kh ∈ K ∧ W.heap[kh]? = some ohs ∧ HsO ohs kh 4 ∧ w0.heap.size ≤ kh ∧ k ≤ 8 ∧ SegA A 4 zF := by
  refine (Segments_any 4 w (by omega)).mono ?_
  rintro e W ⟨b, u, G, A, k, hv, rfl, h1, h2, h3, h4, h5, h6, h7, h8, h9⟩
  obtain ⟨CS, rfl, z1, z2⟩ := h6.row
  obtain ⟨kh, c, o, rfl, g1, g2, g3⟩ := hs_obj h7 (by omega)
  have := ht.size
  exact ⟨b, CS, kh, c, o, A, k, _, rfl, z1, z2, kin_base h1 ht, by simp [Value.ownBlock], g1, g2, by omega, by omega, h3⟩
theorem top_start {K : List Nat} (hk : Kin w b K A k W) (hkh : kh ∈ K) (ho : W.heap[kh]? = some ohs) (hl : w.heap.size ≤ kh) (h8 : k ≤ 8) (I : SegA A 4 zF) {v u : Value} (h2 : TwoC 4 15 W v u W') :
    ∃ tb ob, v = .slice (some ⟨tb, 0, none⟩) 4 4 ∧ u = .slice (some ⟨ob, 0, none⟩) 15 15 ∧ TopR w b kh tb ob ohs sl 0 W' := by
  obtain ⟨tb, ob, rfl, rfl, a1, a2, a3, a4, a5, a6⟩ := h2
  have l1 := hk.lt hkh
  have l2 := hk.turn.size
  have b4 := (Array.getElem?_eq_some_iff.1 a4).1
  have b5 := (Array.getElem?_eq_some_iff.1 a5).1
  have hk' : Kin w b (tb :: ob :: K) A k W' := kin_adds hk a6 (fun q hq => by
    simp only [List.mem_cons] at hq
    rcases hq with rfl | rfl | h
    · exact .inr ⟨a2, b4⟩
    · exact .inr ⟨a3, b5⟩
    · exact .inl h)
  refine ⟨tb, ob, rfl, rfl, fun _ => kh, fun _ => kh, fun _ => none, A, k, crew_new hk' (fun p hp => ?_) ?_ (x := kh) (by simp [hkh]), by omega, by rw [tF_zero]; exact I⟩
  · simp only [topX, List.mem_cons, List.not_mem_nil, or_false] at hp
    rcases hp with rfl | rfl | rfl
    · exact ⟨by simp [hkh], a6.keep ho (by simp), hl⟩
    · exact ⟨by simp, a4, by dsimp only; omega⟩
    · exact ⟨by simp, a5, by dsimp only; omega⟩
  · simp only [topX, List.map_cons, List.map_nil, List.nodup_cons, List.mem_cons, List.not_mem_nil, or_false, not_or, not_false_eq_true, and_true, List.nodup_nil]
    exact ⟨⟨by omega, by omega⟩, a1⟩
def oPlace (g s : Nat) : Obj := .cells #[.int .u64 (hS g), .int .i64 s] 46
theorem mid_start {r q j : Nat} (S : Crew w b (topX kh tb ob ohs (topN sl j) (ownN sl j)) 1 rr qq c A k W) (hk : k ≤ 20 + 10 * j) (I : SegA A 4 (fun g y => ((tF sl j g y : Nat) : Int))) {W3 W4 : World} (hT : Frm.Turn [] W W3) (hs : sl j < 15)
    (hm : MadeC (W3.alloc (oPlace (sgN (sl j)) (sl j))) b ⟨hS (sgN (sl j)), sl j, 0, kN (sl j), 1⟩ r q W4) : MidR w b kh tb ob W3.heap.size ohs (oPlace (sgN (sl j)) (sl j)) sl j r q 0 W4 := by
  have S3 := (S.turn hT).more ((Frm.Turn.refl [] W3).alloc (oPlace (sgN (sl j)) (sl j))) (Nat.le_refl _) (World.alloc_heap_new W3 _)
  have e : (⟨hS (sgN (sl j)), sl j, 0, kN (sl j), 1⟩ : Ct) = enC (sl j) 0 := by unfold enC; simp
  rw [e] at hm
  have S4 := S3.made (i := 0) hm (enC_fit (by omega) 0)
  refine ⟨_, _, _, A, k, S4, upd_at _ _ _, upd_at _ _ _, by omega, ?_⟩
  have e2 : (fun g y => ((tF sl j g y + con (sl j) 0 (min 0 (kN (sl j))) g y : Nat) : Int)) = fun g y => ((tF sl j g y : Nat) : Int) := by
    funext g y
    rw [Nat.zero_min, con_none (Nat.le_refl _)]; rfl
  rw [e2]; exact I
/-- While the counters are read: y of them were. -/
def RdR (w : World) (b kh tb ob : Nat) (ohs : Obj) (sl : Nat → Nat) (m y : Nat) (W : World) : Prop :=
  ∃ rr qq c A k, Crew w b (topX kh tb ob ohs (topN sl m) (ownN sl m)) 1 rr qq c A k W ∧ k ≤ 500 + y ∧ SegA A 4 (fun g j => ((tF sl m g j : Nat) : Int))
theorem RdR.crew {y : Nat} (h : RdR w b kh tb ob ohs sl m y W) : W.heap[kh]? = some ohs ∧ W.heap[tb]? = some (oNums (topN sl m) 4) ∧ W.heap[ob]? = some (oNums (ownN sl m) 15) := by
  obtain ⟨rr, qq, c, A, k, S, _⟩ := h
  exact ⟨S.x (x := kh) (by simp [topX]), S.x (x := tb) (by simp [topX]), S.x (x := ob) (by simp [topX])⟩
theorem RdR.turn {y : Nat} (h : RdR w b kh tb ob ohs sl m y W) (ht : Frm.Turn [] W W') : RdR w b kh tb ob ohs sl m y W' := by
  obtain ⟨rr, qq, c, A, k, S, h1, h2⟩ := h
  exact ⟨rr, qq, c, A, k, S.turn ht, h1, h2⟩
theorem RdR.read {y g j : Nat} (h : RdR w b kh tb ob ohs sl m y W) (hy : y ≤ 100) (hg : g < 4) (hj : j < 7 * 2 ^ g) : Calls Tryz.prog 44 #[.pointer (some ⟨b, 0, none⟩), .agg #[.int .u64 (hS g), .int .i64 j]] W fun e w' => e = .returned (.tuple #[.int .u64 (tF sl m g j : Nat), .int .i64 0]) ∧ RdR w b kh tb ob ohs sl m (y + 1) w' := by
  obtain ⟨rr, qq, c, A, k, S, h1, h2⟩ := h
  have hp := pow_le (g := g) (by omega)
  refine (S.read (by omega) (hS g) j (hS_64 (by omega)) (by omega) (by omega)).mono ?_
  rintro e w' ⟨he, S'⟩
  obtain ⟨e1, e2, _⟩ := h2.read hg hj
  rw [e1] at he
  exact ⟨he, rr, qq, c, _, _, S', by omega, e2⟩
theorem MidR.crew {op : Obj} {r q j j' : Nat} (h : MidR w b kh tb ob pb ohs op sl j r q j' W) : W.heap[pb]? = some op ∧ W.heap[tb]? = some (oNums (topN sl j) 4) ∧ W.heap[ob]? = some (oNums (ownN sl j) 15) ∧ tb ≠ ob ∧ pb ≠ tb := by
  obtain ⟨rr, qq, c, A, k, S, _⟩ := h
  have hd := S.dist
  simp only [topX, List.map_cons, List.map_nil, List.nodup_cons, List.mem_cons, List.not_mem_nil, or_false, not_or, not_false_eq_true, and_true, List.nodup_nil] at hd
  exact ⟨S.x (x := pb) (by simp), S.x (x := tb) (by simp [topX]), S.x (x := ob) (by simp [topX]), hd.2.2, hd.1.2.1⟩
end Cnt
end Go.Proofs.YtfbnidjcimcfoaaGreat
