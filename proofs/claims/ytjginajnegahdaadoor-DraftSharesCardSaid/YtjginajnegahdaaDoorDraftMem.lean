/- A draft in memory: its own block, its new nodes' blocks, the map of what is known, its rows; what stays when something turns. -/
import Derived.Test.YtjginajnegahdaaDoorDraftPlain3
import Derived.Test.YtjginajnegahdaaDoorLeastAppend
import Derived.Test.YtjginajnegahdaaDoorRows
import Derived.Lib.Hide
import Derived.Maps.OwnSet
import Derived.Deep.QuietTactic
import Derived.BigQuiet
import Derived.StillTailTactics
set_option linter.unusedVariables false
set_option linter.unusedSimpArgs false
namespace Go.Proofs.YtjginajnegahdaaDoor
namespace Drf
open Go.RowKit Go.Maps

theorem keyU : Keyed Tryd.prog 32 := int_keyed (q := .u64) (by kernel_rfl)
theorem under_u64 : Tryd.prog.underlying 32 = some (.int .u64) := by kernel_rfl
theorem wf_u64 {k : Int} (h : W64 k) : (Lit.int .u64 k).wf = true := by
  simp [Lit.wf, IntKind.min, IntKind.max, IntKind.bits, IntKind.signed]
  exact ⟨h.1, by have := h.2; omega⟩
theorem key_u64 (k : Int) (h : W64 k) : keyOf Tryd.prog 32 (.int .u64 k) = some (.int .u64 k) := keyOf_int_mk under_u64 (wf_u64 h)
theorem mapN : Tryd.prog.underlying 82 = some (.map 32 58) := by kernel_rfl
def u64s (l : List Int) : List Value := l.map (Value.int .u64)
abbrev nodeV (l : List Int) : Value := .agg (u64s l).toArray
abbrev zero4 : List Int := [0, 0, 0, 0]
theorem zeroN (w : World) : (zeroValue 58).run Tryd.prog w = .ok (nodeV zero4) w := by kernel_rfl
def nd4 (l : List Int) : DataW Unit := .agg (l.map fun x => .lit (.int .u64 x))
theorem nd4_inj {l m : List Int} (h : nd4 l = nd4 m) : l = m := by
  unfold nd4 at h
  simp only [DataW.agg.injEq] at h
  induction l generalizing m with
  | nil => cases m with | nil => rfl | cons => cases h
  | cons x t ih =>
    cases m with
    | nil => cases h
    | cons y s =>
      simp only [List.map_cons, List.cons.injEq, DataW.lit.injEq, Lit.int.injEq, true_and] at h
      rw [h.1, ih h.2]
def intsOf : List Value → Option (List Int)
  | [] => some []
  | .int .u64 a :: t => (intsOf t).map (a :: ·)
  | _ => none
theorem intsOf_u64s (l : List Int) : intsOf (u64s l) = some l := by
  induction l with
  | nil => rfl
  | cons x t ih => simp only [u64s, List.map_cons] at ih ⊢; simp [intsOf, ih]
theorem intsOf_inv : ∀ {vs : List Value} {l : List Int}, intsOf vs = some l → vs = u64s l := by
  intro vs
  induction vs with
  | nil => intro l h; simp [intsOf] at h; subst h; rfl
  | cons v t ih =>
    intro l h
    unfold intsOf at h
    split at h
    · cases h; rename_i e; cases e
    · rename_i e
      cases e
      obtain ⟨m, hm, rfl⟩ := Option.map_eq_some_iff.1 h
      rw [ih hm]; rfl
    · cases h
def nodeE : Value → Option (DataW Unit × List MemPlace)
  | .agg c => (intsOf c.toList).map fun l => (nd4 l, [])
  | _ => none
theorem nodeE_mk (l : List Int) : nodeE (nodeV l) = some (nd4 l, []) := by simp [nodeE, intsOf_u64s]
theorem nodeE_inv {v : Value} {d : DataW Unit} {ps : List MemPlace} {l : List Int} (h : nodeE v = some (d, ps)) (hd : d = nd4 l) : v = nodeV l := by
  unfold nodeE at h
  split at h
  · rename_i c
    obtain ⟨m, hm, e⟩ := Option.map_eq_some_iff.1 h
    cases e
    have := nd4_inj hd
    subst this
    have := intsOf_inv hm
    show Value.agg c = .agg (u64s m).toArray
    rw [← this]
  · cases h
/-- Block m is a map that reads as f, with n entries at most. -/
structure KAt (w : World) (m n : Nat) (f : Int → Option (List Int)) : Prop where
  rd : ∃ D, w.ownsMap Tryd.prog 32 nodeE m n D ∧ ∀ k : Int, Maps.has D (.int .u64 k) = (f k).isSome ∧ D.atKey (.int .u64 k) (nd4 zero4) = nd4 ((f k).getD zero4)
theorem KAt.turn {w w' : World} {m n : Nat} {f : Int → Option (List Int)} {F : List Nat} (h : KAt w m n f) (ht : Frm.Turn F w w') (hn : m ∉ F) : KAt w' m n f := by
  obtain ⟨D, ho, hD⟩ := h.rd
  obtain ⟨es, clock, hb, Fi, hs, hD'⟩ := ho
  exact ⟨D, ⟨es, clock, ht.keep hb hn, Fi, hs, hD'⟩, hD⟩
theorem KAt.lt {w : World} {m n : Nat} {f : Int → Option (List Int)} (h : KAt w m n f) : m < w.heap.size := by
  obtain ⟨D, ho, hD⟩ := h.rd
  exact ho.lt
theorem kat_made (w : World) : KAt (w.alloc (.map #[] 0)) w.heap.size 0 (fun _ => none) :=
  ⟨.map [], World.ownsMap_made w _ _ _, fun k => ⟨rfl, rfl⟩⟩
theorem KAt.look {w : World} {m n : Nat} {f : Int → Option (List Int)} (h : KAt w m n f) {k : Int} (hk : W64 k) :
    (Instr.lookup 82 (.map (some m)) (.int .u64 k) false).run Tryd.prog w = .ok (nodeV ((f k).getD zero4)) w := by
  obtain ⟨D, ho, hD⟩ := h.rd
  obtain ⟨v, ps, hrun, hv⟩ := ho.lookup keyU mapN (zeroN w) (nodeE_mk zero4) (key_u64 k hk)
  rw [hrun, nodeE_inv hv (hD k).2]
theorem KAt.look2 {w : World} {m n : Nat} {f : Int → Option (List Int)} (h : KAt w m n f) {k : Int} (hk : W64 k) :
    (Instr.lookup 82 (.map (some m)) (.int .u64 k) true).run Tryd.prog w = .ok (.tuple #[nodeV ((f k).getD zero4), .bool (f k).isSome]) w := by
  obtain ⟨D, ho, hD⟩ := h.rd
  obtain ⟨v, ps, hrun, hv⟩ := ho.look_ok keyU mapN (zeroN w) (nodeE_mk zero4) (key_u64 k hk)
  rw [hrun, nodeE_inv hv (hD k).2, (hD k).1]
theorem KAt.store {w : World} {m n : Nat} {f : Int → Option (List Int)} (h : KAt w m n f) (hn : n < maxLen) {k : Int} (hk : W64 k) (l : List Int) :
    ∃ w', (Instr.mapUpdate 82 (.map (some m)) (.int .u64 k) (nodeV l)).run Tryd.prog w = .ok () w' ∧ KAt w' m (n + 1) (fun j => if k = j then some l else f j) ∧ w.grownBy w' (some m) := by
  obtain ⟨D, ho, hD⟩ := h.rd
  obtain ⟨w', hrun, ho', ht⟩ := ho.update keyU mapN hn (key_u64 k hk) (nodeE_mk l)
  have htd := ho.tidy keyU
  refine ⟨w', hrun, ⟨_, ho', fun j => ?_⟩, ht⟩
  by_cases e : j = k
  · subst e
    rw [if_pos rfl]
    exact ⟨Maps.has_put_same htd.isMap (show WideAt.IsKeyLit (.int .u64 j) from trivial) _, atKey_put_same htd.isMap (show WideAt.IsKeyLit (.int .u64 j) from trivial) _ _⟩
  · rw [if_neg (fun h : k = j => e h.symm), atKey_put_other (by simpa using e), Maps.has_put_other (by simpa using e)]
    exact hD j

/-! ### cells -/
def ptrA (B : List Nat) (o : Option Nat) : Option Addr := o.map fun k => ⟨B.getD k 0, 0, none⟩
def ptrV (B : List Nat) (o : Option Nat) : Value := .pointer (ptrA B o)
def lnCells (B : List Nat) (x : Ln) : List Value := [.int .u64 x.w, ptrV B x.k]
def ndCells (B : List Nat) (n : Nd) : List Value := n.ls.flatMap (lnCells B) ++ [.bool n.h.isSome, .int .u64 (n.h.getD 0)]
/-- Where a draft lies: the map and how many entries it has at most, the new nodes, the rows of these by levels, the row of what was dropped. -/
structure Sh where
  m : Nat
  n : Nat
  B : List Nat
  F0 : Value
  F1 : Value
  F2 : Value
  F3 : Value
  dv : Value
def Sh.F (S : Sh) (l : Nat) : Value := if l = 0 then S.F0 else if l = 1 then S.F1 else if l = 2 then S.F2 else S.F3
def drCells (S : Sh) (D : Dr) : List Value := .map (some S.m) :: (D.tops.flatMap (lnCells S.B) ++ (D.lens.map (.int .i64) ++ [.int .i64 D.front, S.F0, S.F1, S.F2, S.F3, S.dv]))
def foot (b : Nat) (S : Sh) : List Nat := b :: S.m :: (S.B ++ (S.F0.ownBlock.toList ++ (S.F1.ownBlock.toList ++ (S.F2.ownBlock.toList ++ (S.F3.ownBlock.toList ++ S.dv.ownBlock.toList)))))
def ptrs (B : List Nat) (l : List Nat) : List Value := l.map fun i => ptrV B (some i)
/-- A draft in memory, R what its rows by levels hold. -/
structure DAtR (w : World) (b : Nat) (S : Sh) (D : Dr) (R : Nat → List Nat) (N : Nat) : Prop where
  row : w.heap[b]? = some (.cells (drCells S D).toArray 90 (0, 0))
  node : ∀ i, i < D.made.length → w.heap[S.B.getD i 0]? = some (.cells (ndCells S.B (D.node i)).toArray 116 (0, 0))
  fresh : ∀ l, l ≤ 3 → w.ownsRow 0 83 1 (S.F l) (R l).length (ptrs S.B (R l))
  drop : w.ownsRow 0 32 1 S.dv D.drop.length (u64s D.drop)
  known : KAt w S.m S.n D.know
  wf : Wf D N
  blen : S.B.length = D.made.length
  apart : (foot b S).Nodup
abbrev DAt (w : World) (b : Nat) (S : Sh) (D : Dr) (N : Nat) : Prop := DAtR w b S D D.row N
theorem Sh.F_mem {b : Nat} {S : Sh} {l k : Nat} (hk : (S.F l).ownBlock = some k) : k ∈ foot b S := by
  unfold Sh.F at hk
  simp only [foot, List.mem_cons, List.mem_append, Option.mem_toList]
  split at hk
  · simp [hk]
  · split at hk
    · simp [hk]
    · split at hk <;> simp [hk]
theorem getD_mem {B : List Nat} {i : Nat} (h : i < B.length) : B.getD i 0 ∈ B := by
  rw [List.getD_eq_getElem?_getD, List.getElem?_eq_getElem h]
  simp
theorem DAtR.lt {w : World} {b : Nat} {S : Sh} {D : Dr} {R : Nat → List Nat} {N : Nat} (h : DAtR w b S D R N) : ∀ k, k ∈ foot b S → k < w.heap.size := by
  intro k hk
  simp only [foot, List.mem_cons, List.mem_append, Option.mem_toList] at hk
  have hF := fun l (hl : l ≤ 3) => (World.ownsRow.lt (h.fresh l hl) k)
  rcases hk with rfl | rfl | hk | hk | hk | hk | hk | hk
  · exact (Array.getElem?_eq_some_iff.1 h.row).1
  · exact h.known.lt
  · obtain ⟨i, hi⟩ := List.getElem?_of_mem hk
    have hl := (List.getElem?_eq_some_iff.1 hi).1
    have := h.node i (by rw [← h.blen]; exact hl)
    rw [List.getD_eq_getElem?_getD, hi] at this
    exact (Array.getElem?_eq_some_iff.1 this).1
  · exact (hF 0 (by omega) hk).2
  · exact (hF 1 (by omega) hk).2
  · exact (hF 2 (by omega) hk).2
  · exact (hF 3 (by omega) hk).2
  · exact (World.ownsRow.lt h.drop k hk).2
theorem DAtR.turn {w w' : World} {b : Nat} {S : Sh} {D : Dr} {R : Nat → List Nat} {N : Nat} {G : List Nat} (h : DAtR w b S D R N) (ht : Frm.Turn G w w') (hn : ∀ k, k ∈ foot b S → k ∉ G) : DAtR w' b S D R N := by
  refine ⟨ht.keep h.row (hn b (by simp [foot])), fun i hi => ht.keep (h.node i hi) (hn _ ?_), fun l hl => Frm.owns_turn (h.fresh l hl) ht (fun k hk => hn k (Sh.F_mem hk)), Frm.owns_turn h.drop ht (fun k hk => hn k (by simp [foot, hk])), h.known.turn ht (hn S.m (by simp [foot])), h.wf, h.blen, h.apart⟩
  simp only [foot, List.mem_cons, List.mem_append]
  exact .inr (.inr (.inl (getD_mem (by rw [h.blen]; exact hi))))
theorem DAtR.step {w w' : World} {b : Nat} {S : Sh} {D : Dr} {R : Nat → List Nat} {N : Nat} (h : DAtR w b S D R N) (ht : Frm.Turn [] w w') : DAtR w' b S D R N := h.turn ht (by simp)
theorem DAtR.mono {w : World} {b : Nat} {S : Sh} {D : Dr} {R : Nat → List Nat} {N M : Nat} (h : DAtR w b S D R N) (hm : N ≤ M) : DAtR w b S D R M := ⟨h.row, h.node, h.fresh, h.drop, h.known, h.wf.mono hm, h.blen, h.apart⟩
/-- Where a link lies. -/
def adr (b : Nat) (B : List Nat) : Place → Addr
  | (none, t) => ⟨b, 1 + 2 * t, none⟩
  | (some i, d) => ⟨B.getD i 0, 2 * d, none⟩
def adr1 (b : Nat) (B : List Nat) : Place → Addr
  | (none, t) => ⟨b, 2 + 2 * t, none⟩
  | (some i, d) => ⟨B.getD i 0, 2 * d + 1, none⟩
theorem list3 {α : Type} {l : List α} (h : l.length = 3) : ∃ a b c, l = [a, b, c] := by
  match l, h with
  | [a, b, c], _ => exact ⟨a, b, c, rfl⟩
theorem list4 {α : Type} {l : List α} (h : l.length = 4) : ∃ a b c d, l = [a, b, c, d] := by
  match l, h with
  | [a, b, c, d], _ => exact ⟨a, b, c, d, rfl⟩
section at_
variable {w : World} {b : Nat} {S : Sh} {D : Dr} {R : Nat → List Nat} {N : Nat}
/-- A link's two cells. -/
theorem DAtR.link (h : DAtR w b S D R N) {p : Place} (hp : D.Has p) : (w.cell? (adr b S.B p) = some (.int .u64 (D.at p).w) ∧ w.cell? (adr1 b S.B p) = some (ptrV S.B (D.at p).k)) ∧ w.frozen? (adr b S.B p) = false ∧ w.frozen? (adr1 b S.B p) = false := by
  obtain ⟨o, d⟩ := p
  cases o with
  | none =>
    simp only [Dr.Has] at hp
    simp only [adr, adr1]
    refine ⟨⟨(Frm.cell_row w b _ _ _ _ h.row).trans ?_, (Frm.cell_row w b _ _ _ _ h.row).trans ?_⟩, Frm.frozen_row w b _ _ _ h.row, Frm.frozen_row w b _ _ _ h.row⟩
    all_goals
      obtain ⟨x0, x1, x2, e⟩ := list3 h.wf.three
      rw [e] at hp
      simp only [List.length_cons, List.length_nil] at hp
      simp only [drCells, Dr.at, e]
      match d, hp with
      | 0, _ => rfl
      | 1, _ => rfl
      | 2, _ => rfl
  | some i =>
    have hn := h.node i hp.1
    simp only [adr, adr1]
    refine ⟨⟨(Frm.cell_row w _ _ _ _ _ hn).trans ?_, (Frm.cell_row w _ _ _ _ _ hn).trans ?_⟩, Frm.frozen_row w _ _ _ _ hn, Frm.frozen_row w _ _ _ _ hn⟩
    all_goals
      have hp2 := hp.2
      obtain ⟨x0, x1, x2, x3, e⟩ := list4 (h.wf.four i hp.1).1
      rw [e] at hp2
      simp only [List.length_cons, List.length_nil] at hp2
      simp only [ndCells, Dr.at, e]
      match d, hp2 with
      | 0, _ => rfl
      | 1, _ => rfl
      | 2, _ => rfl
      | 3, _ => rfl
/-- The draft's own cells behind the links. -/
theorem DAtR.own (h : DAtR w b S D R N) : w.cell? ⟨b, 0, none⟩ = some (.map (some S.m)) ∧ (∀ t, t ≤ 2 → w.cell? ⟨b, 7 + t, none⟩ = some (.int .i64 (D.len t)) ∧ w.frozen? ⟨b, 7 + t, none⟩ = false) ∧ (w.cell? ⟨b, 10, none⟩ = some (.int .i64 D.front) ∧ w.frozen? ⟨b, 10, none⟩ = false) ∧
    (∀ l, l ≤ 3 → w.cell? ⟨b, 11 + l, none⟩ = some (S.F l) ∧ w.frozen? ⟨b, 11 + l, none⟩ = false) ∧ (w.cell? ⟨b, 15, none⟩ = some S.dv ∧ w.frozen? ⟨b, 15, none⟩ = false) := by
  obtain ⟨x0, x1, x2, e⟩ := list3 h.wf.three
  obtain ⟨y0, y1, y2, e2⟩ := list3 h.wf.lens
  have hc := fun i => Frm.cell_row w b i _ _ _ h.row
  have hf := fun i => Frm.frozen_row w b i _ _ h.row
  simp only [drCells, e, e2] at hc
  refine ⟨(hc 0).trans rfl, fun t ht => ⟨(hc _).trans ?_, hf _⟩, ⟨(hc _).trans rfl, hf _⟩, fun l hl => ⟨(hc _).trans ?_, hf _⟩, ⟨(hc _).trans rfl, hf _⟩⟩
  · simp only [Dr.len, e2]
    match t, ht with
    | 0, _ => rfl
    | 1, _ => rfl
    | 2, _ => rfl
  · match l, hl with
    | 0, _ => rfl
    | 1, _ => rfl
    | 2, _ => rfl
    | 3, _ => rfl
theorem adr_block {p : Place} : (adr b S.B p).block = match p.1 with | none => b | some i => S.B.getD i 0 := by
  obtain ⟨o, d⟩ := p
  cases o <;> rfl
theorem adr_mem (h : DAtR w b S D R N) {p : Place} (hp : D.Has p) : (adr b S.B p).block ∈ foot b S := by
  obtain ⟨o, d⟩ := p
  cases o with
  | none => simp [adr, foot]
  | some i =>
    simp only [adr, foot, List.mem_cons, List.mem_append]
    exact .inr (.inr (.inl (getD_mem (by rw [h.blen]; exact hp.1))))
theorem DAtR.parts (h : DAtR w b S D R N) : (b ≠ S.m ∧ b ∉ S.B ∧ (∀ l, (S.F l).ownBlock ≠ some b) ∧ S.dv.ownBlock ≠ some b) ∧ (S.m ∉ S.B ∧ (∀ l, (S.F l).ownBlock ≠ some S.m) ∧ S.dv.ownBlock ≠ some S.m) ∧ S.B.Nodup ∧ (∀ k, k ∈ S.B → (∀ l, (S.F l).ownBlock ≠ some k) ∧ S.dv.ownBlock ≠ some k) := by
  have hap := h.apart
  simp only [foot, List.nodup_cons, List.mem_cons, List.mem_append, not_or, List.nodup_append, Option.mem_toList] at hap
  obtain ⟨⟨h1, h2, h3, h4, h5, h6, h7⟩, ⟨g2, g3, g4, g5, g6, g7⟩, hB, hR, hX⟩ := hap
  have hFl : ∀ (l k : Nat), S.F0.ownBlock ≠ some k → S.F1.ownBlock ≠ some k → S.F2.ownBlock ≠ some k → S.F3.ownBlock ≠ some k → (S.F l).ownBlock ≠ some k := fun l k a0 a1 a2 a3 => by
    unfold Sh.F
    split
    · exact a0
    · split
      · exact a1
      · split
        · exact a2
        · exact a3
  exact ⟨⟨h1, h2, fun l => hFl l b h3 h4 h5 h6, h7⟩, ⟨g2, fun l => hFl l S.m g3 g4 g5 g6, g7⟩, hB, fun k hk => ⟨fun l => hFl l k (fun e => hX k hk k (.inl e) rfl) (fun e => hX k hk k (.inr (.inl e)) rfl) (fun e => hX k hk k (.inr (.inr (.inl e))) rfl) (fun e => hX k hk k (.inr (.inr (.inr (.inl e)))) rfl), fun e => hX k hk k (.inr (.inr (.inr (.inr e)))) rfl⟩⟩
theorem getD_ne {B : List Nat} (hB : B.Nodup) {i j : Nat} (hi : i < B.length) (hj : j < B.length) (h : i ≠ j) : B.getD i 0 ≠ B.getD j 0 := by
  rw [List.getD_eq_getElem?_getD, List.getD_eq_getElem?_getD, List.getElem?_eq_getElem hi, List.getElem?_eq_getElem hj]
  simp only [Option.getD_some]
  rcases Nat.lt_or_gt_of_ne h with hl | hl
  · exact List.pairwise_iff_getElem.1 hB i j hi hj hl
  · exact fun e => List.pairwise_iff_getElem.1 hB j i hj hi hl e.symm
/-- A link written. -/
theorem DAtR.put (h : DAtR w b S D R N) {p : Place} (hp : D.Has p) (x : Ln) (hw : Wf (D.put p x) N) : DAtR ((w.setCell (adr b S.B p) (.int .u64 x.w)).setCell (adr1 b S.B p) (ptrV S.B x.k)) b S (D.put p x) R N := by
  obtain ⟨⟨p1, p2, p3, p4⟩, ⟨p5, p6, p7⟩, p8, p9⟩ := h.parts
  obtain ⟨o, d⟩ := p
  cases o with
  | none =>
    simp only [Dr.Has] at hp
    have hT : Frm.Turn [b] w ((w.setCell (adr b S.B (none, d)) (.int .u64 x.w)).setCell (adr1 b S.B (none, d)) (ptrV S.B x.k)) := ((Frm.Turn.refl [b] w).setCell (.inl (by simp [adr])) _).setCell (.inl (by simp [adr1])) _
    refine ⟨?_, fun i hi => hT.keep (h.node i hi) ?_, fun l hl => ?_, ?_, h.known.turn hT (by simpa using fun e => p1 e.symm), hw, h.blen, h.apart⟩
    · refine (Frm.heap_set _ b _ _ _ _ _ (Frm.heap_set w b _ _ _ _ _ h.row)).trans ?_
      obtain ⟨x0, x1, x2, e⟩ := list3 h.wf.three
      rw [e] at hp
      simp only [List.length_cons, List.length_nil] at hp
      simp only [drCells, Dr.put, e]
      match d, hp with
      | 0, _ => rfl
      | 1, _ => rfl
      | 2, _ => rfl
    · simp only [List.mem_singleton]
      intro e
      exact p2 (by rw [← e]; exact getD_mem (by rw [h.blen]; exact hi))
    · exact Frm.owns_turn (h.fresh l hl) hT (fun k hk => by simp; rintro rfl; exact p3 l hk)
    · exact Frm.owns_turn h.drop hT (fun k hk => by simp; rintro rfl; exact p4 hk)
  | some i =>
    have hiB : i < S.B.length := by rw [h.blen]; exact hp.1
    have him := getD_mem hiB
    have hT : Frm.Turn [S.B.getD i 0] w ((w.setCell (adr b S.B (some i, d)) (.int .u64 x.w)).setCell (adr1 b S.B (some i, d)) (ptrV S.B x.k)) := ((Frm.Turn.refl [S.B.getD i 0] w).setCell (.inl (by simp [adr])) _).setCell (.inl (by simp [adr1])) _
    refine ⟨hT.keep h.row (by simp; intro e; exact p2 (e ▸ him)), fun j hj => ?_, fun l hl => ?_, ?_, h.known.turn hT (by simp; intro e; exact p5 (e ▸ him)), hw, by rw [Dr.put_len]; exact h.blen, h.apart⟩
    · rw [Dr.put_len] at hj
      by_cases e : i = j
      · subst e
        rw [Dr.put_node i hp.1, if_pos rfl]
        refine (Frm.heap_set _ _ _ _ _ _ _ (Frm.heap_set w _ _ _ _ _ _ (h.node i hp.1))).trans ?_
        have hp2 := hp.2
        obtain ⟨x0, x1, x2, x3, e⟩ := list4 (h.wf.four i hp.1).1
        rw [e] at hp2
        simp only [List.length_cons, List.length_nil] at hp2
        simp only [ndCells, e]
        match d, hp2 with
        | 0, _ => rfl
        | 1, _ => rfl
        | 2, _ => rfl
        | 3, _ => rfl
      · rw [Dr.put_node j hj, if_neg (by simpa using e)]
        refine hT.keep (h.node j hj) ?_
        simp only [List.mem_singleton]
        exact fun e2 => getD_ne p8 hiB (by rw [h.blen]; exact hj) e e2.symm
    · exact Frm.owns_turn (h.fresh l hl) hT (fun k hk => by simp; rintro rfl; exact (p9 _ him).1 l hk)
    · exact Frm.owns_turn h.drop hT (fun k hk => by simp; rintro rfl; exact (p9 _ him).2 hk)
end at_
/-- A draft at which a call has been: its footprint is of the one that it had, or new. -/
structure Aft (w : World) (b : Nat) (S : Sh) (D' : Dr) (N' : Nat) (S' : Sh) (w' : World) : Prop where
  at_ : DAt w' b S' D' N'
  turn : Frm.Turn (foot b S) w w'
  new : ∀ k, k ∈ foot b S' → k ∈ foot b S ∨ w.heap.size ≤ k
theorem Aft.trans {w w1 w2 : World} {b : Nat} {S S1 S2 : Sh} {D1 D2 : Dr} {N1 N2 : Nat} (h : Aft w b S D1 N1 S1 w1) (g : Aft w1 b S1 D2 N2 S2 w2) : Aft w b S D2 N2 S2 w2 :=
  ⟨g.at_, h.turn.trans g.turn h.new, fun k hk => by
    rcases g.new k hk with h1 | h1
    · exact h.new k h1
    · exact .inr (Nat.le_trans h.turn.size h1)⟩
theorem Aft.refl {w : World} {b : Nat} {S : Sh} {D : Dr} {N : Nat} (h : DAt w b S D N) : Aft w b S D N S w := ⟨h, Frm.Turn.refl _ _, fun k hk => .inl hk⟩
theorem Aft.still {w w1 w2 : World} {b : Nat} {S S1 : Sh} {D1 : Dr} {N1 : Nat} (h : Aft w b S D1 N1 S1 w1) (g : Frm.Turn [] w1 w2) : Aft w b S D1 N1 S1 w2 :=
  ⟨h.at_.step g, h.turn.trans g (by simp), h.new⟩
theorem Aft.ahead {w w1 w2 : World} {b : Nat} {S S2 : Sh} {D2 : Dr} {N2 : Nat} (h : Frm.Turn [] w w1) (g : Aft w1 b S D2 N2 S2 w2) : Aft w b S D2 N2 S2 w2 :=
  ⟨g.at_, (h.mono (by simp)).trans g.turn (fun k hk => .inl hk), fun k hk => by
    rcases g.new k hk with h1 | h1
    · exact .inl h1
    · exact .inr (Nat.le_trans h.size h1)⟩
theorem Aft.side {w w1 w2 : World} {b g : Nat} {S S1 : Sh} {D1 : Dr} {N1 : Nat} (h : Aft w b S D1 N1 S1 w1) (hT : Frm.Turn [g] w1 w2) (hg : w.heap.size ≤ g) (hn : g ∉ foot b S1) : Aft w b S D1 N1 S1 w2 :=
  ⟨h.at_.turn hT (fun k hk hm => hn (by simp at hm; exact hm ▸ hk)), h.turn.trans hT (fun k hk => by simp at hk; subst hk; exact .inr hg), h.new⟩
end Drf
end Go.Proofs.YtjginajnegahdaaDoor
