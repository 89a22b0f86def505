/- Apply, whole, upon a draft of which no node is known; the law's first. -/
import Derived.Test.YtjginajnegahdaaDoorDraftApply
import Derived.Test.YtjginajnegahdaaDoorDraftVersion
set_option linter.unusedVariables false
set_option linter.unusedSimpArgs false
namespace Go.Proofs.YtjginajnegahdaaDoor
namespace Drf
open Go.RowKit Go.Maps

set_option maxRecDepth 10000 in
theorem apply_flat {w : World} {b : Nat} {S : Sh} {D : Dr} {N : Nat} (h : DAt w b S D N) (hK : Ops.Kn w) (hf : Flat D) (hN : N ≤ 90000) (c k a b2 : Int) (hd : c = 2 → D.len 1 = 0 ∨ D.at (none, 1) ≠ ln0) :
    Calls Tryd.prog 14 #[.pointer (some ⟨b, 0, none⟩), .agg #[.int .i64 c, .int .i64 k, .int .i64 a, .int .i64 b2]] w (OpEnd w b S N (D.apply (Ops.opT.rightB c k a b2) c k a b2)) := by
  cases hr : Ops.opT.rightB c k a b2 with
  | false => exact apply_wrong h hK k a b2 c hr
  | true =>
    obtain ⟨⟨c0, c1⟩, ⟨k0, k1⟩, ⟨a0, a1⟩, b0, b1⟩ := op_range hr
    obtain rfl | rfl | rfl | rfl | rfl | rfl | rfl | rfl | rfl | rfl | rfl | rfl | rfl | rfl | rfl : c = 0 ∨ c = 1 ∨ c = 2 ∨ c = 3 ∨ c = 4 ∨ c = 5 ∨ c = 6 ∨ c = 7 ∨ c = 8 ∨ c = 9 ∨ c = 10 ∨ c = 11 ∨ c = 12 ∨ c = 13 ∨ c = 14 := by omega
    · exact apply_zero h hK k a b2 hr
    · exact apply_enqueue h hK k a b2 hf hN a0 a1 hr
    · exact apply_dequeue h hK k a b2 hf hN (hd rfl) hr
    · exact apply_len1 h hK k a b2 hr
    · exact apply_map4 h hK k a b2 hf hN k0 k1 a0 a1 hr
    · exact apply_map5 h hK k a b2 hf hN k0 k1 a0 a1 hr
    · exact apply_map6 h hK k a b2 hf hN k0 k1 a0 a1 hr
    · exact apply_map7 h hK k a b2 hf hN k0 k1 a0 a1 hr
    · exact apply_len0 h hK k a b2 hr
    · exact apply_floor h hK k a b2 hf hN k0 k1 hr
    · exact apply_sem10 h hK k a b2 hf hN k0 k1 a0 a1 hr
    · exact apply_sem11 h hK k a b2 hf hN k0 k1 a0 a1 hr
    · exact apply_sem12 h hK k a b2 hf hN k0 k1 a0 a1 hr
    · exact apply_sem13 h hK k a b2 hf hN k0 k1 a0 a1 hr
    · exact apply_sem14 h hK k a b2 hf hN k0 k1 a0 a1 hr
theorem flat_new {m ml q fr ql s sl : Int} (hr : rightV ml fr ql sl = true) : Flat (Dr.new m ml q fr ql s sl) := by
  simp only [rightV, isLenB, Bool.and_eq_true, decide_eq_true_eq] at hr
  refine ⟨fun t ht => ?_, ⟨hr.1.2, by show fr ≤ 255; omega⟩, fun t ht => ?_⟩
  · have hx : ∀ x : Int, (⟨x, none⟩ : Ln) = ln0 ∨ ∃ y, y ≠ 0 ∧ (⟨x, none⟩ : Ln) = ⟨y, none⟩ ∧ (Dr.new m ml q fr ql s sl).know y = none := fun x => by
      by_cases h : x = 0
      · subst h; exact .inl rfl
      · exact .inr ⟨x, h, rfl, rfl⟩
    match t, ht with
    | 0, _ => exact hx m
    | 1, _ => exact hx q
    | 2, _ => exact hx s
  · match t, ht with
    | 0, _ => exact hr.1.1.1.1
    | 1, _ => exact hr.1.1.1.2
    | 2, _ => exact hr.1.1.2
theorem size_u64 (w : World) : (sizeOf 32).run Tryd.prog w = .ok 1 w := by
  have hi : (Tryd.prog.info? 32).map (·.size) = some 1 := by kernel_rfl
  cases hq : Tryd.prog.info? 32 with
  | none => simp [hq] at hi
  | some i =>
    have hs : i.size = 1 := by simpa [hq] using hi
    simp [sizeOf, typeInfo, hq, hs]
theorem equal4_at (D : Nat) (w : World) (a0 a1 a2 a3 b0 b1 b2 b3 : Int)
    (e0 : ∀ x y : Int, (Op.equalIn D 32 (.int .u64 x) (.int .u64 y)).run Tryd.prog w = .ok (x == y) w) :
    (Op.equalIn (D + 1) 58 (.agg #[.int .u64 a0, .int .u64 a1, .int .u64 a2, .int .u64 a3]) (.agg #[.int .u64 b0, .int .u64 b1, .int .u64 b2, .int .u64 b3])).run Tryd.prog w = .ok (a0 == b0 && a1 == b1 && a2 == b2 && a3 == b3) w := by
  have p0 : ∀ x y z u : Int, (part 32 #[.int .u64 x, .int .u64 y, .int .u64 z, .int .u64 u] 0).run Tryd.prog w = .ok (.int .u64 x) w := fun x y z u => by kernel_rfl
  have p1 : ∀ x y z u : Int, (part 32 #[.int .u64 x, .int .u64 y, .int .u64 z, .int .u64 u] 1).run Tryd.prog w = .ok (.int .u64 y) w := fun x y z u => by kernel_rfl
  have p2 : ∀ x y z u : Int, (part 32 #[.int .u64 x, .int .u64 y, .int .u64 z, .int .u64 u] 2).run Tryd.prog w = .ok (.int .u64 z) w := fun x y z u => by kernel_rfl
  have p3 : ∀ x y z u : Int, (part 32 #[.int .u64 x, .int .u64 y, .int .u64 z, .int .u64 u] 3).run Tryd.prog w = .ok (.int .u64 u) w := fun x y z u => by kernel_rfl
  simp only [Op.equalIn, Sem.run_bind, run_underlying Tryd.underlying58, Result.andThen_ok, size_u64, Std.Legacy.Range.forIn_eq_forIn_range', Std.Legacy.Range.size]
  cases h0 : (a0 == b0) <;> cases h1 : (a1 == b1) <;> cases h2 : (a2 == b2) <;> cases h3 : (a3 == b3) <;> simp [List.range', Sem.run_bind, p0, p1, p2, p3, e0, h0, h1, h2, h3]
theorem equal4 (w : World) (a0 a1 a2 a3 b0 b1 b2 b3 : Int) (b : Bool) (h : (a0 == b0 && a1 == b1 && a2 == b2 && a3 == b3) = b) :
    (Op.equalIn 10000 58 (.agg #[.int .u64 a0, .int .u64 a1, .int .u64 a2, .int .u64 a3]) (.agg #[.int .u64 b0, .int .u64 b1, .int .u64 b2, .int .u64 b3])).run Tryd.prog w = .ok b w := by
  rw [← h]
  exact equal4_at 9999 w _ _ _ _ _ _ _ _ (fun x y => run_equalIn_int w 9998 32 .u64 .u64 x y Tryd.underlying32)

def dA : Dr := (Dr.new 0 0 0 0 0 0 0).enqueue 5 |>.1
def dB : Dr := (((dA.laid 65537).laid 131074).laid 196611).laid 262148
theorem dA_is : (Dr.new 0 0 0 0 0 0 0).apply (Ops.opT.rightB 1 0 5 0) 1 0 5 0 = (dA, (0, 1), 0) := by
  rw [show Ops.opT.rightB 1 0 5 0 = true by decide]
  rfl
theorem dA_next : dA.nextV = .tuple #[.agg #[.int .u64 6, .int .u64 0, .int .u64 0, .int .u64 0], .bool true] := by rfl
theorem dB_next : dB.nextV = .tuple #[.agg #[.int .u64 0, .int .u64 0, .int .u64 0, .int .u64 0], .bool false] := by rfl
theorem dB_ver : dB.verV = .agg #[.int .u64 0, .int .i64 0, .int .u64 262148, .int .i64 0, .int .i64 1, .int .u64 0, .int .i64 0] := by rfl
theorem dB_drop : dB.drop = [] := by rfl
theorem dC_is : (Dr.new 0 0 262148 0 1 0 0).apply (Ops.opT.rightB 2 0 0 0) 2 0 0 0 = (Dr.new 0 0 262148 0 1 0 0, (0, 0), 262148) := by
  rw [show Ops.opT.rightB 2 0 0 0 = true by decide]
  rfl
end Drf
end Go.Proofs.YtjginajnegahdaaDoor
