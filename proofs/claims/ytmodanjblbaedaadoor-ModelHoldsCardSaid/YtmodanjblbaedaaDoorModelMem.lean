/- A model in memory: a queue's slice anywhere in a block, the two maps; what stays when something turns. -/
import Derived.Test.YtmodanjblbaedaaDoorRows
import Derived.Test.YtmodanjblbaedaaDoorModelPlain
import Derived.WalkKit
import Derived.Lib.Hide
import Derived.Maps.OwnSet
import Derived.Deep.AppendSrc
import Derived.Deep.QuietTactic
import Derived.BigQuiet
import Derived.StillTailTactics
set_option linter.unusedVariables false
set_option linter.unusedSimpArgs false
namespace Go.Proofs.YtmodanjblbaedaaDoor
namespace Mdl
open Go.RowKit Go.Maps

theorem under_int : Tryd.prog.underlying 3 = some (.int .i64) := by kernel_rfl
theorem under_ints : Tryd.prog.underlying 28 = some (.slice 3) := by kernel_rfl
theorem info_int : (Tryd.prog.info? 3).map (fun i => (i.zero, i.size, i.bytes)) = some (some (.int .i64 0), 1, 8) := by kernel_rfl
theorem mapT' : Tryd.prog.underlying 57 = some (.map 3 3) := by kernel_rfl
theorem keyI : Keyed Tryd.prog 3 := int_keyed (q := .i64) under_int
theorem zeroI (w : World) : (zeroValue 3).run Tryd.prog w = .ok (.int .i64 0) w := by kernel_rfl
noncomputable abbrev elI : Value → Option (DataW Unit × List MemPlace) := plainElem Tryd.prog 3
theorem wf_i64 {k : Int} (h : -9223372036854775808 ≤ k ∧ k ≤ 9223372036854775807) : (Lit.int .i64 k).wf = true := by
  simp [Lit.wf, IntKind.min, IntKind.max, IntKind.bits, IntKind.signed]
  omega
theorem key_i64 (k : Int) (h : -9223372036854775808 ≤ k ∧ k ≤ 9223372036854775807) : keyOf Tryd.prog 3 (.int .i64 k) = some (.int .i64 k) := keyOf_int_mk under_int (wf_i64 h)
abbrev I64 (n : Int) : Prop := -9223372036854775808 ≤ n ∧ n ≤ 9223372036854775807

/-- What is read of a map, nil or not. -/
def Reads (w : World) (p : Option Nat) (D : DataW Unit) : Prop := (p = none ∧ D = .nil) ∨ ∃ b, p = some b ∧ w.ownsMap Tryd.prog 3 elI b (Maps.size D) D
structure TD (f : Tb) (D : DataW Unit) : Prop where
  size : Maps.size D = cnt f
  has : ∀ k : Int, Maps.has D (.int .i64 k) = (f k).isSome
  val : ∀ k v, f k = some v → ∀ z, D.atKey (.int .i64 k) z = .lit (.int .i64 v)
structure TAt (w : World) (p : Option Nat) (f : Tb) : Prop where
  ok : TOk f
  rd : ∃ D, Reads w p D ∧ TD f D
theorem own_tight {w : World} {P : Program} {k : TypeId} {R : Value → Option (DataW Unit × List MemPlace)} {m n : Nat} {D : DataW Unit} (h : w.ownsMap P k R m n D) : w.ownsMap P k R m (Maps.size D) D := by
  obtain ⟨es, clock, hb, F, _, rfl⟩ := h
  exact ⟨es, clock, hb, F, by simp [Maps.size, length_sorted], rfl⟩
theorem own_turn {w w' : World} {P : Program} {k : TypeId} {R : Value → Option (DataW Unit × List MemPlace)} {m n : Nat} {D : DataW Unit} {F : List Nat} (h : w.ownsMap P k R m n D) (ht : Frm.Turn F w w') (hn : m ∉ F) : w'.ownsMap P k R m n D := by
  obtain ⟨es, clock, hb, Fi, hs, hD⟩ := h
  exact ⟨es, clock, ht.keep hb hn, Fi, hs, hD⟩
theorem Reads.turn {w w' : World} {p : Option Nat} {D : DataW Unit} {F : List Nat} (h : Reads w p D) (ht : Frm.Turn F w w') (hn : ∀ b, p = some b → b ∉ F) : Reads w' p D :=
  h.imp id (fun ⟨b, e, ho⟩ => ⟨b, e, own_turn ho ht (hn b e)⟩)
theorem TAt.turn {w w' : World} {p : Option Nat} {f : Tb} {F : List Nat} (h : TAt w p f) (ht : Frm.Turn F w w') (hn : ∀ b, p = some b → b ∉ F) : TAt w' p f := by
  obtain ⟨ok, D, hR, hD⟩ := h
  exact ⟨ok, D, hR.turn ht hn, hD⟩
theorem TAt.step {w w' : World} {p : Option Nat} {f : Tb} (h : TAt w p f) (ht : Frm.Turn [] w w') : TAt w' p f := h.turn ht (by simp)
theorem TAt.lt {w : World} {p : Option Nat} {f : Tb} (h : TAt w p f) : ∀ b, p = some b → b < w.heap.size := by
  obtain ⟨ok, D, hR, hD⟩ := h
  rcases hR with ⟨rfl, _⟩ | ⟨b, rfl, ho⟩
  · intro b hb; cases hb
  · intro b' hb; cases hb; exact ho.lt
theorem tat_nil (w : World) : TAt w none (fun _ => none) := ⟨tok_none, .nil, .inl ⟨rfl, rfl⟩, ⟨by rw [cnt_none]; rfl, fun k => rfl, fun k v h => by cases h⟩⟩
theorem tat_made (w : World) : TAt (w.alloc (.map #[] 0)) (some w.heap.size) (fun _ => none) :=
  ⟨tok_none, .map [], .inr ⟨_, rfl, World.ownsMap_made w _ _ _⟩, ⟨by rw [cnt_none]; rfl, fun k => rfl, fun k v h => by cases h⟩⟩
theorem TAt.nil_none {w : World} {f : Tb} (h : TAt w none f) : f = fun _ => none := by
  obtain ⟨ok, D, hR, hD⟩ := h
  rcases hR with ⟨_, rfl⟩ | ⟨b, e, _⟩
  · exact cnt_zero ok (by rw [← hD.size]; rfl)
  · cases e

/-- m[k], and whether it is there. -/
theorem TAt.look {w : World} {p : Option Nat} {f : Tb} (h : TAt w p f) {k : Int} (hk : I64 k) :
    (Instr.lookup 57 (.map p) (.int .i64 k) true).run Tryd.prog w = .ok (.tuple #[.int .i64 ((f k).getD 0), .bool (f k).isSome]) w := by
  obtain ⟨ok, D, hR, hD⟩ := h
  rcases hR with ⟨rfl, rfl⟩ | ⟨b, rfl, ho⟩
  · have hn : f k = none := by have := hD.has k; simpa [Maps.has] using this.symm
    rw [Maps.look_nil true keyI mapT' (zeroI w) (key_i64 k hk), hn]
    rfl
  · obtain ⟨v, ps, hrun, hv⟩ := ho.look_ok keyI mapT' (zeroI w) (plainElem_int under_int (wf_i64 (by omega))) (key_i64 k hk)
    obtain ⟨c, rfl, hc, _⟩ := plainElem_int_inv under_int hv
    rw [hrun, hD.has]
    cases e : f k with
    | none =>
      have hh : Maps.has D (.int .i64 k) = false := by rw [hD.has, e]; rfl
      rw [atKey_of_not_has hh] at hc
      simp at hc
      rw [← hc.1]
      rfl
    | some x =>
      rw [hD.val k x e] at hc
      simp at hc
      rw [← hc.1]
      rfl
/-- m[k] alone. -/
theorem TAt.look1 {w : World} {p : Option Nat} {f : Tb} (h : TAt w p f) {k : Int} (hk : I64 k) :
    (Instr.lookup 57 (.map p) (.int .i64 k) false).run Tryd.prog w = .ok (.int .i64 ((f k).getD 0)) w := by
  obtain ⟨ok, D, hR, hD⟩ := h
  rcases hR with ⟨rfl, rfl⟩ | ⟨b, rfl, ho⟩
  · have hn : f k = none := by have := hD.has k; simpa [Maps.has] using this.symm
    rw [Maps.look_nil false keyI mapT' (zeroI w) (key_i64 k hk), hn]
    rfl
  · obtain ⟨c, hrun, hc, _⟩ := ho.lookup_int keyI mapT' under_int (zeroI w) (key_i64 k hk)
    rw [hrun]
    cases e : f k with
    | none =>
      have hh : Maps.has D (.int .i64 k) = false := by rw [hD.has, e]; rfl
      rw [atKey_of_not_has hh] at hc
      simp at hc
      rw [← hc]
      rfl
    | some x =>
      rw [hD.val k x e] at hc
      simp at hc
      rw [hc]
      rfl
theorem TAt.len {w : World} {p : Option Nat} {f : Tb} (h : TAt w p f) (ty : TypeId) : (Builtin.len_ #[57] ty #[.map p]).run Tryd.prog w = .ok (.int .i64 (cnt f : Int)) w := by
  obtain ⟨ok, D, hR, hD⟩ := h
  rcases hR with ⟨rfl, rfl⟩ | ⟨b, rfl, ho⟩
  · rw [Maps.len_nil mapT', ← hD.size]; rfl
  · rw [ho.len mapT', hD.size]
theorem key_lit (k : Int) : WideAt.IsKeyLit (.int .i64 k) := trivial
theorem TAt.store {w : World} {b : Nat} {f : Tb} (h : TAt w (some b) f) {k v : Int} (hk : 0 ≤ k ∧ k ≤ 255) (hv : 0 ≤ v ∧ v ≤ 1023) :
    ∃ w', (Instr.mapUpdate 57 (.map (some b)) (.int .i64 k) (.int .i64 v)).run Tryd.prog w = .ok () w' ∧ TAt w' (some b) (upd f k (some v)) ∧ Frm.Turn [b] w w' := by
  obtain ⟨ok, D, hR, hD⟩ := h
  rcases hR with ⟨h0, _⟩ | ⟨b', e, ho⟩
  · cases h0
  · cases e
    have hc := cnt_le f
    obtain ⟨w', hrun, ho', ht⟩ := ho.store keyI mapT' (by rw [hD.size]; unfold maxLen; omega) (key_i64 k (by omega)) (plainElem_int under_int (wf_i64 (k := v) (by omega)))
    have htd := ho.tidy keyI
    have hcu := cnt_upd f (some v) hk
    refine ⟨w', hrun, ⟨ok.upd hk (fun x e => by cases e; exact hv), _, .inr ⟨b, rfl, own_tight ho'⟩, ⟨?_, fun j => ?_, fun j x hj z => ?_⟩⟩, (Frm.Turn.of_grown ht.grown)⟩
    · rw [size_put htd, hD.has]
      simp at hcu
      split
      · rename_i e; rw [e] at hcu; simp at hcu; rw [hD.size]; omega
      · rename_i e; simp at e; rw [e] at hcu; simp at hcu; rw [hD.size]; omega
    · by_cases e : j = k
      · subst e; rw [has_put_same htd.isMap (key_lit _), upd_same]; rfl
      · rw [has_put_other (by simpa using e), hD.has, upd_other f _ e]
    · by_cases e : j = k
      · subst e
        rw [upd_same] at hj; cases hj
        exact atKey_put_same htd.isMap (key_lit _) _ _
      · rw [upd_other f _ e] at hj
        rw [atKey_put_other (by simpa using e)]
        exact hD.val j x hj z
theorem TAt.del {w : World} {p : Option Nat} {f : Tb} (h : TAt w p f) {k : Int} (hk : 0 ≤ k ∧ k ≤ 255) (ty : TypeId) :
    ∃ w', (Builtin.delete_ #[57, 3] ty #[.map p, .int .i64 k]).run Tryd.prog w = .ok (.tuple #[]) w' ∧ TAt w' p (upd f k none) ∧ Frm.Turn p.toList w w' := by
  have h' := h
  obtain ⟨ok, D, hR, hD⟩ := h
  rcases hR with ⟨rfl, rfl⟩ | ⟨b, rfl, ho⟩
  · refine ⟨w, Maps.drop_nil keyI mapT' (key_i64 k (by omega)) ty, ?_, Frm.Turn.refl _ _⟩
    have hf := h'.nil_none
    have : upd f k none = f := by rw [hf]; funext j; simp [upd]
    rw [this]; exact h'
  · obtain ⟨w', hrun, ho', ht⟩ := ho.drop keyI mapT' (key_i64 k (by omega)) ty
    have htd := ho.tidy keyI
    have hcu := cnt_upd f none hk
    refine ⟨w', hrun, ⟨ok.upd hk (fun x e => by cases e), _, .inr ⟨b, rfl, own_tight ho'⟩, ⟨?_, fun j => ?_, fun j x hj z => ?_⟩⟩, by simpa using Frm.Turn.of_grown ht.grown⟩
    · have := size_del (k := .int .i64 k) htd
      rw [hD.has, hD.size] at this
      simp at hcu this
      omega
    · by_cases e : j = k
      · subst e; rw [has_del_same, upd_same]; rfl
      · rw [has_del_other (by simpa using e), hD.has, upd_other f _ e]
    · by_cases e : j = k
      · subst e; rw [upd_same] at hj; cases hj
      · rw [upd_other f _ e] at hj
        rw [atKey_del_other (by simpa using e)]
        exact hD.val j x hj z

/-! ### at the operation, for the walk -/
section
variable (w : World) {ops : Array Oper} {rest : List Oper} {o : Oper} {a : Act} {Q : Exit → Act → World → Prop}
theorem wpList_look (hg : o.guard = none) (m x : Operand) (hop : o.op = Op.lookup 57 m x true) {p : Option Nat} {f : Tb} {k : Int} (h : TAt w p f) (hk : I64 k) (c : Int) (t : Bool) (hc : (f k).getD 0 = c) (ht : (f k).isSome = t) (hm : a.eval m = .map p) (hx : a.eval x = .int .i64 k)
    (hK : wpList Tryd.prog ops Q rest (a.put o.dst (.tuple #[.int .i64 c, .bool t])) w) : wpList Tryd.prog ops Q (o :: rest) a w := by
  refine wpList_plain hg fun K' hK' => ?_
  unfold Oper.wp
  simp [execOp, hop, hm, hx, h.look hk, hc, ht, Result.andThen]
  exact hK' _ _ hK
theorem wpList_store (hg : o.guard = none) (m x v : Operand) (hop : o.op = Op.mapUpdate 57 m x v) {b : Nat} {f : Tb} {k y : Int} (h : TAt w (some b) f) (hk : 0 ≤ k ∧ k ≤ 255) (hy : 0 ≤ y ∧ y ≤ 1023) (hm : a.eval m = .map (some b)) (hx : a.eval x = .int .i64 k) (hv : a.eval v = .int .i64 y)
    (hK : ∀ w', TAt w' (some b) (upd f k (some y)) → Frm.Turn [b] w w' → wpList Tryd.prog ops Q rest (a.put o.dst undef) w') : wpList Tryd.prog ops Q (o :: rest) a w := by
  refine wpList_plain hg fun K' hK' => ?_
  obtain ⟨w', hrun, r1, r2⟩ := h.store hk hy
  unfold Oper.wp
  simp [execOp, hop, hm, hx, hv, hrun, Result.andThen]
  exact hK' _ _ (hK w' r1 r2)
theorem wpList_del (hg : o.guard = none) (m x : Operand) (hop : o.op = Op.call { callee := Callee.builtin Builtin.delete, args := #[m, x], argTypes := #[57, 3] }) {p : Option Nat} {f : Tb} {k : Int} (h : TAt w p f) (hk : 0 ≤ k ∧ k ≤ 255) (hm : a.eval m = .map p) (hx : a.eval x = .int .i64 k)
    (hK : ∀ w', TAt w' p (upd f k none) → Frm.Turn p.toList w w' → wpList Tryd.prog ops Q rest (a.put o.dst (.tuple #[])) w') : wpList Tryd.prog ops Q (o :: rest) a w := by
  refine wpList_plain hg fun K' hK' => ?_
  obtain ⟨w', hrun, r1, r2⟩ := h.del hk o.type
  unfold Oper.wp
  simp [execOp, hop, resolve, invoke, builtin, hm, hx, hrun, Result.andThen]
  exact hK' _ _ (hK w' r1 r2)
end
end Mdl
end Go.Proofs.YtmodanjblbaedaaDoor
