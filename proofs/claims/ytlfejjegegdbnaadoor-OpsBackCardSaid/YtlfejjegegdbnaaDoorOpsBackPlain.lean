/- Numbers and texts there and back: plain facts, and the calls on what is right. -/
import Derived.Test.YtlfejjegegdbnaaDoorOpsLawFirst
set_option linter.unusedVariables false
set_option linter.unusedSimpArgs false
namespace Go.Proofs.YtlfejjegegdbnaaDoor
namespace Ops
open Go.RowKit Go.Lib

theorem opN_back {c k x y : Int} (h : opT.rightB c k x y = true) : uAns (opN c k x y) = .agg #[.int .i64 c, .int .i64 k, .int .i64 x, .int .i64 y] ∧ uOk (opN c k x y) = true ∧ W64 (opN c k x y) := by
  obtain ⟨⟨c0, c1⟩, ⟨k0, k1⟩, ⟨a0, a1⟩, b0, b1⟩ := op_range h
  have e1 : uC (opN c k x y) = c := by unfold uC opN; omega
  have e2 : uK (opN c k x y) = k := by unfold uK opN; omega
  have e3 : uA (opN c k x y) = x := by unfold uA opN; omega
  have e4 : uB (opN c k x y) = y := by unfold uB opN; omega
  have e5 : uOk (opN c k x y) = true := by unfold uOk; rw [e1, e2, e3, e4]; exact h
  refine ⟨?_, e5, by unfold W64 opN; omega⟩
  unfold uAns
  rw [e5, e1, e2, e3, e4]; rfl
theorem respN_back {p v : Int} (h : respT.rightB p v 0 0 = true) : vAns (respN p v) = .agg #[.int .i64 p, .int .i64 v] ∧ vOk (respN p v) = true ∧ W64 (respN p v) := by
  obtain ⟨⟨k0, k1⟩, v0, v1⟩ := resp_range h
  have e1 : vC (respN p v) = p := by unfold vC respN; omega
  have e2 : vV (respN p v) = v := by unfold vV respN; omega
  have e5 : vOk (respN p v) = true := by unfold vOk; rw [e1, e2]; exact h
  refine ⟨?_, e5, by unfold W64 respN; omega⟩
  unfold vAns
  rw [e5, e1, e2]; rfl
theorem opN_inj {c k x y d l z u : Int} (h : opT.rightB c k x y = true) (g : opT.rightB d l z u = true) : (opN c k x y = opN d l z u) ↔ (c = d ∧ k = l ∧ x = z ∧ y = u) := by
  obtain ⟨⟨c0, c1⟩, ⟨k0, k1⟩, ⟨a0, a1⟩, b0, b1⟩ := op_range h
  obtain ⟨⟨d0, d1⟩, ⟨l0, l1⟩, ⟨z0, z1⟩, u0, u1⟩ := op_range g
  unfold opN
  omega
theorem text_same {T : Tab} (G : T.Good) {c k x y d l z u : Int} (h : T.rightB c k x y = true) (g : T.rightB d l z u = true) : (T.text c k x y = T.text d l z u) ↔ (c = d ∧ k = l ∧ x = z ∧ y = u) :=
  ⟨fun e => text_inj G h g e, fun ⟨h1, h2, h3, h4⟩ => by rw [h1, h2, h3, h4]⟩
theorem text_len {T : Tab} (hs : ∀ c, c < T.length → (T.nm c).length ≤ 1000) (G : T.Good) {c k x y : Int} : (T.text c k x y).length ≤ 1000000000 := by
  unfold Tab.text
  split
  · rename_i h
    obtain ⟨n, rfl, hn, h0, h1, h2⟩ := right_parts h
    obtain ⟨g0, g1, g2⟩ := G.most n hn
    have e1 : ((n : Int)).toNat = n := by omega
    rw [e1]
    have s0 := seg_len (T.m0 n) k h0.1 (by omega)
    have s1 := seg_len (T.m1 n) x h1.1 (by omega)
    have s2 := seg_len (T.m2 n) y h2.1 (by omega)
    have hl := hs n hn
    unfold txt
    simp
    omega
  · simp
/-- A text that is right, parsed. -/
theorem opParse_text {c k x y : Int} (h : opT.rightB c k x y = true) (W : World) (hW : Kn W) :
    Calls Tryd.prog 20 #[.string ⟨(opT.text c k x y).toArray⟩] W fun e w' => e = .returned (.tuple #[.agg #[.int .i64 c, .int .i64 k, .int .i64 x, .int .i64 y], .bool true]) ∧ Frm.Turn [] W w' := by
  obtain ⟨n, rfl, hn, _⟩ := right_parts h
  have := parse_any (opT.text n k x y) W hW (text_len opT_short opT_good)
  rw [parse_text opT_good h] at this
  exact this
theorem respParse_text {p v : Int} (h : respT.rightB p v 0 0 = true) (W : World) (hW : Kn W) :
    Calls Tryd.prog 22 #[.string ⟨(respT.text p v 0 0).toArray⟩] W fun e w' => e = .returned (.tuple #[.agg #[.int .i64 p, .int .i64 v], .bool true]) ∧ Frm.Turn [] W w' := by
  obtain ⟨n, rfl, hn, _⟩ := right_parts h
  have := parseResp_any (respT.text n v 0 0) W hW (text_len respT_short respT_good)
  rw [parse_text respT_good h] at this
  exact this
end Ops
end Go.Proofs.YtlfejjegegdbnaaDoor
