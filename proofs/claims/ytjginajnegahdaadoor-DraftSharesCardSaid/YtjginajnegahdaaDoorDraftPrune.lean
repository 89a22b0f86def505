/- A new node that has words stays. -/
import Derived.Test.YtjginajnegahdaaDoorDraftRenew
import Derived.Laws.StructEq
import Derived.ChangeKeysEq
set_option linter.unusedVariables false
set_option linter.unusedSimpArgs false
namespace Go.Proofs.YtjginajnegahdaaDoor
namespace Drf
open Go.RowKit Go.Maps

theorem size_link (w : World) : (sizeOf 85).run Tryd.prog w = .ok 2 w := by
  have hi : (Tryd.prog.info? 85).map (·.size) = some 2 := by kernel_rfl
  cases hq : Tryd.prog.info? 85 with
  | none => simp [hq] at hi
  | some i =>
    have hs : i.size = 2 := by simpa [hq] using hi
    simp [sizeOf, typeInfo, hq, hs]
theorem eq_link (d : Nat) (w : World) (x : Int) (p : Option Addr) : (Op.equalIn (d + 2) 85 (.agg #[.int .u64 x, .pointer p]) (.agg #[.int .u64 0, .pointer none])).run Tryd.prog w = .ok (x == 0 && p.isNone) w := by
  rw [run_equalIn_struct w (d + 1) 85 _ _ (by kernel_rfl) (by kernel_rfl)]
  have p0 : ∀ (y : Int) (q : Option Addr), (part 32 #[.int .u64 y, .pointer q] 0).run Tryd.prog w = .ok (.int .u64 y) w := fun y q => by kernel_rfl
  have p1 : ∀ (y : Int) (q : Option Addr), (part 83 #[.int .u64 y, .pointer q] 1).run Tryd.prog w = .ok (.pointer q) w := fun y q => by kernel_rfl
  have e0 := run_equalIn_int (P := Tryd.prog) w d 32 .u64 .u64 x 0 Tryd.underlying32
  have e1 : (Op.equalIn (d + 1) 83 (.pointer p) (.pointer none)).run Tryd.prog w = .ok p.isNone w := by
    have hu : Tryd.prog.underlying 83 = some (.pointer 116) := by kernel_rfl
    cases p <;> simp [Op.equalIn, run_underlying hu]
  have hf : (Tryd.prog.fieldsOf 85).toList.map (fun f => (f.name, f.type, f.offset)) = [("word", 32, 0), ("fresh", 83, 1)] := by kernel_rfl
  obtain ⟨a, r, hl, ha0, hr⟩ := List.map_eq_cons_iff.1 hf
  obtain ⟨b, r2, rfl, hb0, hr2⟩ := List.map_eq_cons_iff.1 hr
  obtain rfl := List.map_eq_nil_iff.1 hr2
  simp only [Prod.mk.injEq] at ha0 hb0
  obtain ⟨na, ha1, ha2⟩ := ha0
  obtain ⟨nb, hb1, hb2⟩ := hb0
  have ha : a.name ≠ "_" := by rw [na]; decide
  have hb : b.name ≠ "_" := by rw [nb]; decide
  rw [hl]
  simp only [Op.eqFields, if_pos ha, if_pos hb, ha1, ha2, hb1, hb2, Sem.run_bind, p0, p1, Result.andThen_ok, e0]
  cases hx : (x == 0)
  · simp
  · cases p <;> simp [p1, e1]
theorem eq_links (w : World) (x0 x1 x2 x3 : Int) (p0 p1 p2 p3 : Option Addr) (b : Bool) (h : ((x0 == 0 && p0.isNone) && (x1 == 0 && p1.isNone) && (x2 == 0 && p2.isNone) && (x3 == 0 && p3.isNone)) = b) :
    (Op.equalIn 10000 114 (.agg #[.int .u64 x0, .pointer p0, .int .u64 x1, .pointer p1, .int .u64 x2, .pointer p2, .int .u64 x3, .pointer p3]) (.agg #[.int .u64 0, .pointer none, .int .u64 0, .pointer none, .int .u64 0, .pointer none, .int .u64 0, .pointer none])).run Tryd.prog w = .ok b w := by
  rw [← h]
  have hu : Tryd.prog.underlying 114 = some (.array 4 85) := by kernel_rfl
  have e := fun x p => eq_link 9997 w x p
  simp only [Nat.reduceAdd] at e
  have q0 : ∀ (y0 y1 y2 y3 : Int) (r0 r1 r2 r3 : Option Addr), (part 85 #[.int .u64 y0, .pointer r0, .int .u64 y1, .pointer r1, .int .u64 y2, .pointer r2, .int .u64 y3, .pointer r3] 0).run Tryd.prog w = .ok (.agg #[.int .u64 y0, .pointer r0]) w := fun y0 y1 y2 y3 r0 r1 r2 r3 => by kernel_rfl
  have q1 : ∀ (y0 y1 y2 y3 : Int) (r0 r1 r2 r3 : Option Addr), (part 85 #[.int .u64 y0, .pointer r0, .int .u64 y1, .pointer r1, .int .u64 y2, .pointer r2, .int .u64 y3, .pointer r3] 2).run Tryd.prog w = .ok (.agg #[.int .u64 y1, .pointer r1]) w := fun y0 y1 y2 y3 r0 r1 r2 r3 => by kernel_rfl
  have q2 : ∀ (y0 y1 y2 y3 : Int) (r0 r1 r2 r3 : Option Addr), (part 85 #[.int .u64 y0, .pointer r0, .int .u64 y1, .pointer r1, .int .u64 y2, .pointer r2, .int .u64 y3, .pointer r3] 4).run Tryd.prog w = .ok (.agg #[.int .u64 y2, .pointer r2]) w := fun y0 y1 y2 y3 r0 r1 r2 r3 => by kernel_rfl
  have q3 : ∀ (y0 y1 y2 y3 : Int) (r0 r1 r2 r3 : Option Addr), (part 85 #[.int .u64 y0, .pointer r0, .int .u64 y1, .pointer r1, .int .u64 y2, .pointer r2, .int .u64 y3, .pointer r3] 6).run Tryd.prog w = .ok (.agg #[.int .u64 y3, .pointer r3]) w := fun y0 y1 y2 y3 r0 r1 r2 r3 => by kernel_rfl
  obtain ⟨i, hi⟩ : ∃ i, Tryd.prog.info? 85 = some i := by
    have hi : (Tryd.prog.info? 85).isSome = true := by kernel_rfl
    exact Option.isSome_iff_exists.1 hi
  have hc : Tryd.prog.cellsOf 85 = 2 := by kernel_rfl
  rw [run_equalIn_array w 9999 _ _ hu hi, hc]
  simp only [show List.range 4 = [0, 1, 2, 3] from rfl, Op.eqItems, Sem.run_bind, Nat.zero_mul, Nat.one_mul, Nat.reduceMul, q0, q1, q2, q3, e, Result.andThen_ok]
  cases h0 : (x0 == 0 && p0.isNone) <;> cases h1 : (x1 == 0 && p1.isNone) <;> cases h2 : (x2 == 0 && p2.isNone) <;> cases h3 : (x3 == 0 && p3.isNone) <;> simp [Sem.run_bind, q1, q2, q3, e, h1, h2, h3]
theorem noughts_iff (l0 l1 l2 l3 : Ln) (B : List Nat) : (((l0.w == 0 && (ptrA B l0.k).isNone) && (l1.w == 0 && (ptrA B l1.k).isNone) && (l2.w == 0 && (ptrA B l2.k).isNone) && (l3.w == 0 && (ptrA B l3.k).isNone)) = true) ↔ [l0, l1, l2, l3] = noughts := by
  have h : ∀ l : Ln, (l.w == 0 && (ptrA B l.k).isNone) = true ↔ l = ln0 := fun l => by
    obtain ⟨x, k⟩ := l
    cases k <;> simp [ptrA, ln0]
  simp only [Bool.and_eq_true (_ && _), h, noughts, List.cons.injEq, and_true]
  constructor
  · rintro ⟨⟨⟨a, b⟩, c⟩, d⟩; exact ⟨a, b, c, d⟩
  · rintro ⟨a, b, c, d⟩; exact ⟨⟨⟨a, b⟩, c⟩, d⟩
theorem node_cells {W : World} {g : Nat} {B : List Nat} {l0 l1 l2 l3 : Ln} {v8 v9 : Value} {t : TypeId} (h : W.heap[g]? = some (.cells ([l0, l1, l2, l3].flatMap (lnCells B) ++ [v8, v9]).toArray t (0, 0))) :
    (W.cell? ⟨g, 0, none⟩ = some (.int .u64 l0.w) ∧ W.cell? ⟨g, 1, none⟩ = some (.pointer (ptrA B l0.k)) ∧ W.cell? ⟨g, 2, none⟩ = some (.int .u64 l1.w) ∧ W.cell? ⟨g, 3, none⟩ = some (.pointer (ptrA B l1.k))) ∧
    W.cell? ⟨g, 4, none⟩ = some (.int .u64 l2.w) ∧ W.cell? ⟨g, 5, none⟩ = some (.pointer (ptrA B l2.k)) ∧ W.cell? ⟨g, 6, none⟩ = some (.int .u64 l3.w) ∧ W.cell? ⟨g, 7, none⟩ = some (.pointer (ptrA B l3.k)) := by
  have hc := fun i => Frm.cell_row W g i _ _ _ h
  exact ⟨⟨(hc 0).trans rfl, (hc 1).trans rfl, (hc 2).trans rfl, (hc 3).trans rfl⟩, (hc 4).trans rfl, (hc 5).trans rfl, (hc 6).trans rfl, (hc 7).trans rfl⟩
set_option maxRecDepth 100000 in
set_option maxHeartbeats 4000000 in
theorem prune_keep {w : World} {b : Nat} {S : Sh} {D : Dr} {R : Nat → List Nat} {N : Nat} (h : DAtR w b S D R N) {p : Place} (hp : D.Has p) {k : Nat} (hk : (D.at p).k = some k) (hne : (D.node k).ls ≠ noughts) (lv : Int) :
    Calls Tryd.prog 73 #[.pointer (some ⟨b, 0, none⟩), .pointer (some (adr b S.B p)), .int .i64 lv] w fun e w' => e = .returned (.tuple #[]) ∧ w = w' := by
  obtain ⟨g, o, ha, ha1⟩ := adr_form b S.B p
  obtain ⟨⟨c0, c1⟩, f0, f1⟩ := h.link hp
  rw [ha1, hk] at c1
  simp only [ptrV, ptrA, Option.map_some] at c1
  rw [ha]
  have hkl := (h.wf.kid p k hk).1
  have hnd := h.node k hkl
  obtain ⟨l0, l1, l2, l3, e⟩ := list4 (h.wf.four k hkl).1
  rw [e] at hne
  simp only [ndCells, e] at hnd
  obtain ⟨⟨d0, d1, d2, d3⟩, d4, d5, d6, d7⟩ := node_cells hnd
  obtain ⟨n, hn⟩ : ∃ n, n = S.B.getD k 0 := ⟨_, rfl⟩
  rw [← hn] at c1 d0 d1 d2 d3 d4 d5 d6 d7
  have heq := eq_links w l0.w l1.w l2.w l3.w (ptrA S.B l0.k) (ptrA S.B l1.k) (ptrA S.B l2.k) (ptrA S.B l3.k) false (by
    rw [← Bool.not_eq_true]
    exact fun hh => hne ((noughts_iff l0 l1 l2 l3 S.B).1 hh))
  clear hne hnd e hn h c0 f0 f1 hk hkl
  go_enter Tryd.func73, Tryd.ntmps73
  go_wp2
  go_end0
  exact ⟨rfl, rfl⟩
end Drf
end Go.Proofs.YtjginajnegahdaaDoor
