/- Those that claim, in memory: a row of pointers, two rows of numbers. -/
import Derived.Test.YtgodlddbocmcmaaClaimKin
import Derived.Test.YtgodlddbocmcmaaClaimFewPlain
set_option linter.unusedVariables false
set_option linter.unusedSimpArgs false
namespace Go.Proofs.Ytgodlddbocmcmaa
namespace Clm
open Go.RowKit Go.Maps Arn Pac

def ints (f : Nat → Nat) (n : Nat) : List Value := (List.range n).map fun i => .int .i64 (f i : Int)
def ptrs (rr : Nat → Nat) (c : Nat → Option Cl) (n : Nat) : List Value := (List.range n).map fun i => if (c i).isSome then .pointer (some ⟨rr i, 0, none⟩) else .pointer none
theorem ints_get (f : Nat → Nat) {n i : Nat} (h : i < n) : (ints f n)[i]? = some (.int .i64 (f i : Int)) := by simp [ints, h]
theorem ints_set (f : Nat → Nat) {n i : Nat} (v : Nat) (h : i < n) : (ints f n).set i (.int .i64 (v : Int)) = ints (upd f i v) n := by
  apply List.ext_getElem?
  intro j
  rw [List.getElem?_set]
  by_cases e : i = j
  · subst e; simp [ints, h, upd]
  · rw [if_neg e]
    by_cases hj : j < n
    · have e2 : ¬ j = i := fun e2 => e e2.symm
      simp [ints, hj, upd, e2]
    · simp [ints, hj]
theorem ptrs_get (rr : Nat → Nat) (c : Nat → Option Cl) {n i : Nat} (h : i < n) : (ptrs rr c n)[i]? = some (if (c i).isSome then .pointer (some ⟨rr i, 0, none⟩) else .pointer none) := by simp [ptrs, h]
theorem ptrs_set (rr : Nat → Nat) (c : Nat → Option Cl) {n i : Nat} (o : Option Cl) (r : Nat) (h : i < n) : (ptrs rr c n).set i (if o.isSome then .pointer (some ⟨r, 0, none⟩) else .pointer none) = ptrs (upd rr i r) (upd c i o) n := by
  apply List.ext_getElem?
  intro j
  rw [List.getElem?_set]
  by_cases e : i = j
  · subst e; simp [ptrs, h, upd]
  · rw [if_neg e]
    by_cases hj : j < n
    · have e2 : ¬ j = i := fun e2 => e e2.symm
      simp [ptrs, hj, upd, e2]
    · simp [ptrs, hj]
theorem ptrs_same (rr rr' : Nat → Nat) (c c' : Nat → Option Cl) {n : Nat} (h : ∀ i, i < n → (c i).isSome = (c' i).isSome ∧ ((c i).isSome = true → rr i = rr' i)) : ptrs rr c n = ptrs rr' c' n := by
  unfold ptrs
  apply List.map_congr_left
  intro i hi
  obtain ⟨h1, h2⟩ := h i (List.mem_range.1 hi)
  rw [← h1]
  cases hc : (c i).isSome with
  | true => simp [h2 hc]
  | false => simp
theorem heap_ints {W : World} {g n i : Nat} {f : Nat → Nat} {t : TypeId} (h : W.heap[g]? = some (.cells (ints f n).toArray t (0, 0))) (hi : i < n) : W.cell? ⟨g, i, none⟩ = some (.int .i64 (f i : Int)) ∧ W.frozen? ⟨g, i, none⟩ = false := by
  refine ⟨?_, Frm.frozen_row _ _ _ _ _ h⟩
  rw [Frm.cell_row _ _ _ _ _ _ h]
  simpa using ints_get f hi
theorem heap_ints_set {W : World} {g n i : Nat} {f : Nat → Nat} {t : TypeId} (h : W.heap[g]? = some (.cells (ints f n).toArray t (0, 0))) (v : Nat) (hi : i < n) : (W.setCell ⟨g, i, none⟩ (.int .i64 (v : Int))).heap[g]? = some (.cells (ints (upd f i v) n).toArray t (0, 0)) := by
  rw [Frm.heap_set _ _ _ _ _ _ _ h]
  rw [← ints_set f v hi]
  simp
theorem other_set {W : World} {g k i : Nat} {o : Obj} (v : Value) (h : W.heap[k]? = some o) (hn : k ≠ g) : (W.setCell ⟨g, i, none⟩ v).heap[k]? = some o :=
  (turn_set W g i v).keep h (by simpa using hn)
theorem types_ne {W : World} {a b : Nat} {x y : Array Value} {s t : TypeId} (ha : W.heap[a]? = some (.cells x s (0, 0))) (hb : W.heap[b]? = some (.cells y t (0, 0))) (h : s ≠ t) : a ≠ b := fun e => by
  subst e; rw [ha] at hb; cases hb; exact h rfl
def keep (lb mb tb n : Nat) (rr : Nat → Nat) : List Nat := lb :: mb :: tb :: (List.range n).map rr
theorem keep_rr {lb mb tb n i : Nat} {rr : Nat → Nat} (h : i < n) : rr i ∈ keep lb mb tb n rr := by
  simp only [keep, List.mem_cons, List.mem_map, List.mem_range]
  exact .inr (.inr (.inr ⟨i, h, rfl⟩))
structure FewAt (w : World) (b lb mb tb n : Nat) (rr : Nat → Nat) (A : Ar) (k : Nat) (h own : Nat → Int) (c : Nat → Option Cl) (most tried : Nat → Nat) (W : World) : Prop where
  kin : Kin w b (keep lb mb tb n rr) A k W
  inv : Inv A h own c n
  cap : A.cap = 60000
  ll : W.heap[lb]? = some (.cells (ptrs rr c n).toArray 30 (0, 0))
  mm : W.heap[mb]? = some (.cells (ints most n).toArray 3 (0, 0))
  tt : W.heap[tb]? = some (.cells (ints tried n).toArray 3 (0, 0))
  at_ : ∀ i C, i < n → c i = some C → ClAt W (rr i) b C ∧ w.heap.size ≤ rr i
  low : w.heap.size ≤ lb ∧ w.heap.size ≤ mb ∧ w.heap.size ≤ tb
  mt : mb ≠ tb
variable {w W W' : World} {b lb mb tb n k : Nat} {rr : Nat → Nat} {A : Ar} {h own : Nat → Int} {c : Nat → Option Cl} {most tried : Nat → Nat}
theorem FewAt.step (F : FewAt w b lb mb tb n rr A k h own c most tried W) (ht : Frm.Turn [] W W') : FewAt w b lb mb tb n rr A k h own c most tried W' :=
  ⟨F.kin.step ht, F.inv, F.cap, ht.keep F.ll (by simp), ht.keep F.mm (by simp), ht.keep F.tt (by simp), fun i C hi hc => ⟨(F.at_ i C hi hc).1.turn ht (by simp), (F.at_ i C hi hc).2⟩, F.low, F.mt⟩
theorem FewAt.more {m : Nat} (F : FewAt w b lb mb tb n rr A k h own c most tried W) (hm : k ≤ m) : FewAt w b lb mb tb n rr A m h own c most tried W := ⟨F.kin.more hm, F.inv, F.cap, F.ll, F.mm, F.tt, F.at_, F.low, F.mt⟩
theorem FewAt.lm (F : FewAt w b lb mb tb n rr A k h own c most tried W) : lb ≠ mb ∧ lb ≠ tb := ⟨types_ne F.ll F.mm (by decide), types_ne F.ll F.tt (by decide)⟩
theorem FewAt.rne (F : FewAt w b lb mb tb n rr A k h own c most tried W) {i : Nat} {C : Cl} (hi : i < n) (hc : c i = some C) : rr i ≠ lb ∧ rr i ≠ mb ∧ rr i ≠ tb :=
  ⟨types_ne (F.at_ i C hi hc).1 F.ll (by decide), types_ne (F.at_ i C hi hc).1 F.mm (by decide), types_ne (F.at_ i C hi hc).1 F.tt (by decide)⟩
/-- Two that claim lie apart: their tokens differ. -/
theorem FewAt.apart (F : FewAt w b lb mb tb n rr A k h own c most tried W) (ht : ∀ i C, i < n → c i = some C → C.tok = (i : Int) + 1) {i j : Nat} {C D : Cl} (hi : i < n) (hj : j < n) (hc : c i = some C) (hd : c j = some D) (hij : i ≠ j) : rr i ≠ rr j := fun e => by
  have h1 := ClBody.cells (F.at_ i C hi hc).1
  have h2 := ClBody.cells (F.at_ j D hj hd).1
  rw [e] at h1
  have h3 := h1.2.2.1.symm.trans h2.2.2.1
  rw [ht i C hi hc, ht j D hj hd] at h3
  simp at h3
  omega
/-- A number of most turns. -/
theorem FewAt.setm (F : FewAt w b lb mb tb n rr A k h own c most tried W) {i : Nat} (v : Nat) (hi : i < n) : FewAt w b lb mb tb n rr A k h own c (upd most i v) tried (W.setCell ⟨mb, i, none⟩ (.int .i64 (v : Int))) :=
  ⟨F.kin.poke (turn_set W mb i _) (fun q hq => by simp at hq; subst hq; exact ⟨by simp [keep], F.low.2.1⟩), F.inv, F.cap, other_set _ F.ll F.lm.1, heap_ints_set F.mm v hi, other_set _ F.tt (fun e => F.mt e.symm),
    fun j C hj hc => ⟨(F.at_ j C hj hc).1.turn (turn_set W mb i _) (by simpa using (F.rne hj hc).2.1), (F.at_ j C hj hc).2⟩, F.low, F.mt⟩
theorem FewAt.sett (F : FewAt w b lb mb tb n rr A k h own c most tried W) {i : Nat} (v : Nat) (hi : i < n) : FewAt w b lb mb tb n rr A k h own c most (upd tried i v) (W.setCell ⟨tb, i, none⟩ (.int .i64 (v : Int))) :=
  ⟨F.kin.poke (turn_set W tb i _) (fun q hq => by simp at hq; subst hq; exact ⟨by simp [keep], F.low.2.2⟩), F.inv, F.cap, other_set _ F.ll F.lm.2, other_set _ F.mm F.mt, heap_ints_set F.tt v hi,
    fun j C hj hc => ⟨(F.at_ j C hj hc).1.turn (turn_set W tb i _) (by simpa using (F.rne hj hc).2.2), (F.at_ j C hj hc).2⟩, F.low, F.mt⟩
/-- One comes: its claim is put into the row. -/
theorem FewAt.come (F : FewAt w b lb mb tb n rr A k h own c most tried W) {i r : Nat} {w1 : World} (hn : n ≤ 200) (hi : i < n) (hc : c i = none) (hk : Kin w b (r :: keep lb mb tb n rr) A k w1) (hr : r = W.heap.size) (hat : ClAt w1 r b (Cl.new ((i : Int) + 1))) (ht : Frm.Turn [] W w1) :
    FewAt w b lb mb tb n (upd rr i r) A k h own (upd c i (some (Cl.new ((i : Int) + 1)))) most tried (w1.setCell ⟨lb, i, none⟩ (.pointer (some ⟨r, 0, none⟩))) := by
  have F1 := F.step ht
  have hlt := F.kin.turn.size
  have hll : lb < W.heap.size := (Array.getElem?_eq_some_iff.1 F.ll).1
  refine ⟨(hk.poke (turn_set w1 lb i _) (fun q hq => by simp at hq; subst hq; exact ⟨by simp [keep], F.low.1⟩)).sub (fun q hq => ?_), F.inv.change hi (fun C hC => by rw [hc] at hC; cases hC) _ (fun D hD => by cases hD; exact new_good (by omega) (by unfold W64; omega)), F.cap, ?_, other_set _ F1.mm (fun e => F.lm.1 e.symm), other_set _ F1.tt (fun e => F.lm.2 e.symm), fun j C hj hcj => ?_, F.low, F.mt⟩
  · simp only [keep, List.mem_cons, List.mem_map, List.mem_range] at hq ⊢
    rcases hq with h | h | h | ⟨j, hj, e⟩
    · exact .inr (.inl h)
    · exact .inr (.inr (.inl h))
    · exact .inr (.inr (.inr (.inl h)))
    · by_cases ej : j = i
      · subst ej; rw [upd_at] at e; exact .inl e.symm
      · rw [upd_ne _ _ ej] at e; exact .inr (.inr (.inr (.inr ⟨j, hj, e⟩)))
  · rw [Frm.heap_set _ _ _ _ _ _ _ F1.ll]
    have := ptrs_set rr c (some (Cl.new ((i : Int) + 1))) r hi
    simp only [Option.isSome_some, if_true] at this
    rw [← this]
    simp
  · by_cases ej : j = i
    · subst ej
      rw [upd_at] at hcj
      cases hcj
      rw [upd_at]
      exact ⟨hat.turn (turn_set w1 lb j _) (by simp; omega), by omega⟩
    · rw [upd_ne _ _ ej] at hcj
      rw [upd_ne _ _ ej]
      exact ⟨(F1.at_ j C hj hcj).1.turn (turn_set w1 lb i _) (by simpa using (F1.rne hj hcj).1), (F.at_ j C hj hcj).2⟩
/-- One goes: its slot's word is written, its place in the row is nil. -/
theorem FewAt.go (F : FewAt w b lb mb tb n rr A k h own c most tried W) {i : Nat} {C : Cl} {A' : Ar} {own' : Nat → Int} {w1 : World} (hi : i < n) (hc : c i = some C) (h0 : C.laid = 0) (hk : Kin w b (keep lb mb tb n rr) A' (k + 1) w1) (hb : But w (keep lb mb tb n rr) none W w1) (I : Inv A' h own' c n) (hcap : A'.cap = A.cap) :
    FewAt w b lb mb tb n rr A' (k + 1) h own' (upd c i none) most tried (w1.setCell ⟨lb, i, none⟩ (.pointer none)) := by
  have m1 : w1.heap[mb]? = _ := hb.heap0 (by simp [keep]) F.mm
  have t1 : w1.heap[tb]? = _ := hb.heap0 (by simp [keep]) F.tt
  have l1 : w1.heap[lb]? = _ := hb.heap0 (by simp [keep]) F.ll
  refine ⟨hk.poke (turn_set w1 lb i _) (fun q hq => by simp at hq; subst hq; exact ⟨by simp [keep], F.low.1⟩), I.change hi (fun D hD => by rw [hc] at hD; cases hD; exact h0) _ (fun D hD => by cases hD), by rw [hcap]; exact F.cap, ?_, other_set _ m1 (fun e => F.lm.1 e.symm), other_set _ t1 (fun e => F.lm.2 e.symm), fun j D hj hcj => ?_, F.low, F.mt⟩
  · rw [Frm.heap_set _ _ _ _ _ _ _ l1]
    have := ptrs_set rr c none (rr i) hi
    simp only [Option.isSome_none, Bool.false_eq_true, if_false] at this
    have e : upd rr i (rr i) = rr := by funext j; unfold upd; split <;> simp_all
    rw [e] at this
    rw [← this]
    simp
  · have ej : j ≠ i := fun e => by subst e; rw [upd_at] at hcj; cases hcj
    rw [upd_ne _ _ ej] at hcj
    exact ⟨(hb.at0 (keep_rr hj) (F.at_ j D hj hcj).1).turn (turn_set w1 lb i _) (by simpa using (F.rne hj hcj).1), (F.at_ j D hj hcj).2⟩
/-- One steps. -/
theorem FewAt.pick (F : FewAt w b lb mb tb n rr A k h own c most tried W) (ht : ∀ i C, i < n → c i = some C → C.tok = (i : Int) + 1) {i : Nat} {C C' : Cl} {A' : Ar} {h' own' : Nat → Int} {w1 : World} (hi : i < n) (hc : c i = some C) (hk : Kin w b (keep lb mb tb n rr) A' (k + 1) w1) (hat : ClAt w1 (rr i) b C') (hb : But w (keep lb mb tb n rr) (some (rr i)) W w1) (I : Inv A' h' own' (upd c i (some C')) n) (hcap : A'.cap = A.cap) :
    FewAt w b lb mb tb n rr A' (k + 1) h' own' (upd c i (some C')) most tried w1 := by
  obtain ⟨n1, n2, n3⟩ := F.rne hi hc
  refine ⟨hk, I, by rw [hcap]; exact F.cap, ?_, hb.heap (by simp [keep]) (fun e => n2 e.symm) F.mm, hb.heap (by simp [keep]) (fun e => n3 e.symm) F.tt, fun j D hj hcj => ?_, F.low, F.mt⟩
  · have := hb.heap (by simp [keep]) (fun e => n1 e.symm) F.ll
    have e : ∀ j, j < n → (c j).isSome = (upd c i (some C') j).isSome := fun j hj => by
      by_cases e : j = i
      · subst e; rw [upd_at, hc]; rfl
      · rw [upd_ne _ _ e]
    rw [ptrs_same rr rr c (upd c i (some C')) (fun j hj => ⟨e j hj, fun _ => rfl⟩)] at this
    exact this
  · by_cases ej : j = i
    · subst ej
      rw [upd_at] at hcj
      cases hcj
      exact ⟨hat, (F.at_ j C hj hc).2⟩
    · rw [upd_ne _ _ ej] at hcj
      exact ⟨hb.at_ (keep_rr hj) (F.apart ht hj hi hcj hc ej) (F.at_ j D hj hcj).1, (F.at_ j D hj hcj).2⟩
theorem Kin.adds {w W W' : World} {b n : Nat} {K K' : List Nat} {A : Ar} (h : Kin w b K A n W) (ht : Frm.Turn [] W W') (hk : ∀ k, k ∈ K' → k ∈ K ∨ (W.heap.size ≤ k ∧ k < W'.heap.size)) : Kin w b K' A n W' := by
  obtain ⟨M, h3, h4⟩ := h
  have := ht.size
  refine ⟨M, h3.step ht, fun j hj => ?_⟩
  rcases hk j hj with hj | hj
  · exact ⟨(h4 j hj).1, by have := (h4 j hj).2; omega⟩
  · exact ⟨fun hk => by have := h3.lt hk; omega, hj.2⟩
theorem few_none (n : Nat) : Few (fun _ => 0) (fun _ => none) n (fun _ => 0) (fun _ => 0) :=
  ⟨fun i C _ hC => (by cases hC), fun s hs => absurd rfl hs, fun i C _ hC => (by cases hC), fun i C _ hC => (by cases hC), fun P s _ hp p hpP => (by obtain ⟨_, C, hC, _⟩ := hp p hpP; cases hC), fun i _ => Nat.zero_le _, fun i C _ hC => (by cases hC)⟩
theorem But.sub {w W W' : World} {K K' : List Nat} {o : Option Nat} (h : But w K o W W') (hk : ∀ k, k ∈ K' → k ∈ K) : But w K' o W W' := by
  obtain ⟨F, hT, h1, h2⟩ := h
  exact ⟨F, hT, fun k hk' => h1 k (hk k hk'), h2⟩
/-- The row of what was seen turns. -/
theorem FewAt.seen {sb q m : Nat} {sv : Nat → Nat} (F : FewAt w b lb mb tb n rr A k h own c most tried W) (hk : Kin w b (sb :: keep lb mb tb n rr) A k W) (hs : W.heap[sb]? = some (.cells (ints sv m).toArray 3 (0, 0))) (hn : n < m) (hw : w.heap.size ≤ sb) (v : Value) :
    FewAt w b lb mb tb n rr A k h own c most tried (W.setCell ⟨sb, q, none⟩ v) ∧ Kin w b (sb :: keep lb mb tb n rr) A k (W.setCell ⟨sb, q, none⟩ v) := by
  have hl : ∀ (f : Nat → Nat) (j : Nat), (ints f j).length = j := fun f j => by simp [ints]
  have e1 : sb ≠ lb := fun e => types_ne hs F.ll (by decide) e
  have e2 : sb ≠ mb := fun e => by
    have := F.mm
    rw [← e, hs] at this
    simp at this
    have h3 := congrArg List.length this
    rw [hl, hl] at h3
    omega
  have e3 : sb ≠ tb := fun e => by
    have := F.tt
    rw [← e, hs] at this
    simp at this
    have h3 := congrArg List.length this
    rw [hl, hl] at h3
    omega
  have k2 := hk.poke (turn_set W sb q v) (fun k hk => by simp at hk; subst hk; exact ⟨by simp, hw⟩)
  refine ⟨⟨k2.sub (fun k hk => by simp [hk]), F.inv, F.cap, other_set _ F.ll (fun e => e1 e.symm), other_set _ F.mm (fun e => e2 e.symm), other_set _ F.tt (fun e => e3 e.symm), fun j C hj hc => ⟨(F.at_ j C hj hc).1.turn (turn_set W sb q v) ?_, (F.at_ j C hj hc).2⟩, F.low, F.mt⟩, k2⟩
  have := types_ne (F.at_ j C hj hc).1 hs (by decide)
  simpa using this
theorem FewAt.mcongr {most' : Nat → Nat} (F : FewAt w b lb mb tb n rr A k h own c most tried W) (e : ∀ i, i < n → most i = most' i) : FewAt w b lb mb tb n rr A k h own c most' tried W :=
  ⟨F.kin, F.inv, F.cap, F.ll, by rw [show ints most' n = ints most n from List.map_congr_left (fun i hi => by rw [e i (List.mem_range.1 hi)])]; exact F.mm, F.tt, F.at_, F.low, F.mt⟩
theorem kin_tally {w W : World} {b k : Nat} {K : List Nat} {A : Ar} (h : Kin w b K A k W) : ∃ t0 t1 t2 t3 t5 : Nat, Calls Try.prog 12 #[.pointer (some ⟨b, 0, none⟩)] W fun e w' => e = .returned (.agg #[.int .i64 t0, .int .i64 t1, .int .i64 t2, .int .i64 t3, .int .i64 A.t.swaps, .int .i64 t5]) ∧ Frm.Turn [] W w' := by
  obtain ⟨M, h1, _⟩ := h
  exact ⟨_, _, _, _, _, tally_any h1.at_⟩
theorem tally_swaps (x0 x1 x2 x3 x4 x5 : Int) (w : World) : (Instr.field 42 (.agg #[.int .i64 x0, .int .i64 x1, .int .i64 x2, .int .i64 x3, .int .i64 x4, .int .i64 x5]) 4).run Try.prog w = .ok (.int .i64 x4) w := by kernel_rfl
/-- A step of one that claims: all that the law needs of it. -/
theorem few_pick {j : Nat} (hn : n ≤ 13) (F : FewAt w b lb mb tb n rr A k h own c most tried W) (G : Few own c n most tried) (hk : k ≤ 2 * j) (hj : j ≤ 800) {i : Nat} {C : Cl} (hi : i < n) (hc : c i = some C) (h0 : C.st ≠ 0) :
    ∃ A' h' own' C', (∀ W kt, FewAt w b lb mb tb n rr A k h own c most tried W → Kin w b (kt :: keep lb mb tb n rr) A k W → Calls Try.prog 13 #[.pointer (some ⟨rr i, 0, none⟩)] W (fun e w' => e = .returned (.tuple #[]) ∧ FewAt w b lb mb tb n rr A' (k + 1) h' own' (upd c i (some C')) most tried w' ∧ But w (kt :: keep lb mb tb n rr) (some (rr i)) W w')) ∧
      Few own' (upd c i (some C')) n (mosts (upd c i (some C')) n most) (if hits C C' = true then upd tried i (tried i + 1) else tried) ∧ A'.t.swaps = A.t.swaps + (if C.st = 3 ∨ C.st = 5 then 1 else 0) ∧ (C'.own = true → C'.slot < most i ∧ tried i + 1 ≤ 2 * most i + 8) ∧ C'.slot < 255 ∧ most i ≤ 13 ∧ tried i ≤ 40 := by
  have hC := F.inv.good i C hi hc
  have hb := F.kin.born
  obtain ⟨f, f0, f1, f2, f3, f4⟩ := F.inv.step (by unfold Room; have := F.cap; omega) (by omega) hi hc
  have g := few_step G (by omega) f0 hi hc hC h0
  obtain ⟨z1, z2⟩ := few_slot G hi hc
  have z3 := G.top i hi
  have z4 := G.try_ i C hi hc
  have z5 : tried i ≤ 2 * C.slot + 2 := by
    split at z4
    · exact z4
    · split at z4 <;> omega
  refine ⟨(C.step A).1, (astep h own C f).1, (astep h own C f).2.1, (astep h own C f).2.2, fun W kt F hkt => (kin_step hkt (by omega) (List.mem_cons_of_mem _ (keep_rr hi)) (F.at_ i C hi hc).2 (F.at_ i C hi hc).1 hC.fit).mono ?_, g, f3, ?_, (f2.good i _ hi (upd_at _ _ _)).slot, by omega, by omega⟩
  · rintro e w' ⟨he, k1, k2, k3⟩
    rw [f1] at k2
    exact ⟨he, F.pick G.tk hi hc (k1.sub (fun q hq => List.mem_cons_of_mem _ hq)) k2 (k3.sub (fun q hq => List.mem_cons_of_mem _ hq)) f2 f4, k3⟩
  · intro ho
    have hs : (astep h own C f).2.2.slot = C.slot := by
      have hno : C.own = false := by
        cases ho : C.own with
        | false => rfl
        | true => exact absurd (hC.own ho) h0
      revert ho
      unfold astep
      repeat' split
      all_goals simp [hno]
      unfold Cl.turn
      split <;> simp
    rw [hs]
    have z6 := hC.st
    have : tried i ≤ 2 * C.slot + 1 := by
      have hno : C.own = false := by
        cases ho : C.own with
        | false => rfl
        | true => exact absurd (hC.own ho) h0
      rw [hno] at z4
      simp at z4
      split at z4 <;> omega
    omega
/-- While the most are brought up to date (z of them are) and the slots are looked through (x of them are). -/
def SeenRel (w : World) (b lb mb tb sb n : Nat) (rr : Nat → Nat) (A : Ar) (k : Nat) (h own : Nat → Int) (c : Nat → Option Cl) (most tried sv : Nat → Nat) (x z : Nat) (W : World) : Prop :=
  FewAt w b lb mb tb n rr A k h own c (fun q => if q < z then mosts c n most q else most q) tried W ∧ Kin w b (sb :: keep lb mb tb n rr) A k W ∧ W.heap[sb]? = some (.cells (ints sv 300).toArray 3 (0, 0)) ∧ w.heap.size ≤ sb ∧
    (∀ q, sv q ≠ 0 → ∃ i C, i < x ∧ c i = some C ∧ C.own = true ∧ C.slot = q)
variable {sb x z : Nat} {sv : Nat → Nat}
theorem SeenRel.step (S : SeenRel w b lb mb tb sb n rr A k h own c most tried sv x z W) (ht : Frm.Turn [] W W') : SeenRel w b lb mb tb sb n rr A k h own c most tried sv x z W' :=
  ⟨S.1.step ht, S.2.1.step ht, ht.keep S.2.2.1 (by simp), S.2.2.2⟩
theorem seen_start (F : FewAt w b lb mb tb n rr A k h own c most tried W) : SeenRel w b lb mb tb W.heap.size n rr A k h own c most tried (fun _ => 0) 0 0 (W.alloc (.cells (ints (fun _ => 0) 300).toArray 3)) := by
  have ht := (Frm.Turn.refl [] W).alloc (.cells (ints (fun _ => 0) 300).toArray 3)
  refine ⟨(F.step ht).mcongr (fun i _ => by simp), F.kin.add ht (Nat.le_refl _) (by simp), World.alloc_heap_new W _, F.kin.turn.size, fun q hq => absurd rfl hq⟩
theorem seen_none (S : SeenRel w b lb mb tb sb n rr A k h own c most tried sv x x W) (hc : c x = none) : SeenRel w b lb mb tb sb n rr A k h own c most tried sv (x + 1) (x + 1) W := by
  refine ⟨S.1.mcongr (fun i _ => ?_), S.2.1, S.2.2.1, S.2.2.2.1, fun q hq => ?_⟩
  · by_cases e : i = x
    · subst e
      unfold mosts
      simp [hc]
    · by_cases e2 : i < x
      · rw [if_pos e2, if_pos (by omega)]
      · rw [if_neg e2, if_neg (by omega)]
  · obtain ⟨i, C, h1, h2⟩ := S.2.2.2.2 q hq
    exact ⟨i, C, by omega, h2⟩
theorem seen_most (hn : n ≤ 13) (S : SeenRel w b lb mb tb sb n rr A k h own c most tried sv x x W) {C : Cl} (hx : x < n) (hc : c x = some C) : SeenRel w b lb mb tb sb n rr A k h own c most tried sv x (x + 1) (W.setCell ⟨mb, x, none⟩ (.int .i64 ((max (most x) (there c n) : Nat) : Int))) := by
  have F2 := S.1.setm (max (most x) (there c n)) hx
  have hm := S.1.mm
  have hl : ∀ (f : Nat → Nat) (j : Nat), (ints f j).length = j := fun f j => by simp [ints]
  have e2 : sb ≠ mb := fun e => by
    have := S.2.2.1
    rw [e, hm] at this
    simp at this
    have h3 := congrArg List.length this
    rw [hl, hl] at h3
    omega
  refine ⟨F2.mcongr (fun i _ => ?_), S.2.1.poke (turn_set W mb x _) (fun q hq => by simp at hq; subst hq; exact ⟨by simp [keep], S.1.low.2.1⟩), other_set _ S.2.2.1 e2, S.2.2.2⟩
  by_cases e : i = x
  · subst e
    rw [upd_at, if_pos (by omega)]
    unfold mosts
    simp [hc]
  · rw [upd_ne _ _ e]
    by_cases e3 : i < x
    · rw [if_pos e3, if_pos (by omega)]
    · rw [if_neg e3, if_neg (by omega)]
theorem seen_no (S : SeenRel w b lb mb tb sb n rr A k h own c most tried sv x (x + 1) W) : SeenRel w b lb mb tb sb n rr A k h own c most tried sv (x + 1) (x + 1) W :=
  ⟨S.1, S.2.1, S.2.2.1, S.2.2.2.1, fun q hq => by
    obtain ⟨i, C, h1, h2⟩ := S.2.2.2.2 q hq
    exact ⟨i, C, by omega, h2⟩⟩
/-- Nobody has another one's slot. -/
theorem seen_zero {m' t' : Nat → Nat} (G : Few own c n m' t') (S : SeenRel w b lb mb tb sb n rr A k h own c most tried sv x z W) {C : Cl} (hx : x < n) (hc : c x = some C) (ho : C.own = true) (hs : C.slot < 255) :
    sv C.slot = 0 ∧ W.cell? ⟨sb, C.slot, none⟩ = some (.int .i64 0) ∧ W.frozen? ⟨sb, C.slot, none⟩ = false := by
  have h0 : sv C.slot = 0 := by
    by_cases e : sv C.slot = 0
    · exact e
    · obtain ⟨i, D, h1, h2, h3, h4⟩ := S.2.2.2.2 _ e
      have g1 := G.mine i D (by omega) h2 h3
      have g2 := G.mine x C hx hc ho
      rw [h4, g2] at g1
      omega
  obtain ⟨e1, e2⟩ := heap_ints S.2.2.1 (i := C.slot) (by omega)
  rw [h0] at e1
  exact ⟨h0, e1, e2⟩
theorem seen_yes (hn : n ≤ 13) (S : SeenRel w b lb mb tb sb n rr A k h own c most tried sv x (x + 1) W) {C : Cl} (hc : c x = some C) (ho : C.own = true) (hs : C.slot < 255) :
    SeenRel w b lb mb tb sb n rr A k h own c most tried (upd sv C.slot 1) (x + 1) (x + 1) (W.setCell ⟨sb, C.slot, none⟩ (.int .i64 1)) := by
  obtain ⟨F, hk, hh, hw, hq⟩ := S
  obtain ⟨F2, hk2⟩ := F.seen (q := C.slot) hk hh (by omega) hw (.int .i64 1)
  refine ⟨F2, hk2, heap_ints_set hh 1 (by omega), hw, fun q hq0 => ?_⟩
  by_cases e : q = C.slot
  · subst e; exact ⟨x, C, by omega, hc, ho, rfl⟩
  · rw [upd_ne _ _ e] at hq0
    obtain ⟨i, D, h1, h2⟩ := hq q hq0
    exact ⟨i, D, by omega, h2⟩
end Clm
end Go.Proofs.Ytgodlddbocmcmaa
