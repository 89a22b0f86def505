/- The walk of law OpsTexts, at what the calls answer. -/
import Derived.Test.YtlfejjegegdbnaaDoorOpsTextsWalk
import Derived.Test.YtlfejjegegdbnaaDoorOpsTexts
import Derived.Test.YtlfejjegegdbnaaDoorOpsRefText
import Derived.Test.YtlfejjegegdbnaaDoorOpsRefParse
import Derived.Test.YtlfejjegegdbnaaDoorOpsRefParseR
set_option linter.unusedVariables false
set_option linter.unusedSimpArgs false
namespace Go.Proofs.YtlfejjegegdbnaaDoor
namespace Ops
open Go.RowKit Go.Lib

theorem opPV_form (r : Option (Nat × Int × Int × Int)) : ∃ (d l x y : Int) (o : Bool), opPV r = .tuple #[.agg #[.int .i64 d, .int .i64 l, .int .i64 x, .int .i64 y], .bool o] := by
  cases r with
  | none => exact ⟨0, 0, 0, 0, false, rfl⟩
  | some t => exact ⟨t.1, t.2.1, t.2.2.1, t.2.2.2, true, rfl⟩
theorem respPV_form (r : Option (Nat × Int × Int × Int)) : ∃ (d l : Int) (o : Bool), respPV r = .tuple #[.agg #[.int .i64 d, .int .i64 l], .bool o] := by
  cases r with
  | none => exact ⟨0, 0, false, rfl⟩
  | some t => exact ⟨t.1, t.2.1, true, rfl⟩
theorem opsTexts_any (c k a b p v : Int) (s : ByteArray) (w : World) (hk : Kn w) :
    Calls Tryd.prog 5 #[.agg #[.int .i64 c, .int .i64 k, .int .i64 a, .int .i64 b], .agg #[.int .i64 p, .int .i64 v], .string s] w fun e w' => e = .returned (.bool true) ∧ Frm.Turn [] w w' := by
  by_cases hs : s.size ≤ 500
  · obtain ⟨d, l, x, y, o, hu⟩ := opPV_form (opT.parse s.data.toList)
    obtain ⟨r, u, q, hv⟩ := respPV_form (respT.parse s.data.toList)
    have hl : s.data.toList.length ≤ 1000000000 := by
      have : s.data.toList.length = s.size := by simp
      omega
    refine opsTexts_form c k a b p v d l x y r u s _ _ o q w hk hs
      (Lib.hid fun W h => ?_) (Lib.hid fun W => ?_) (Lib.hid fun W h => ?_) (Lib.hid fun W => ?_)
      (Lib.hid fun W h => otext_any c k a b W h) (Lib.hid fun W => refText_any c k a b W) (Lib.hid fun W h => rtext_any p v W h) (Lib.hid fun W => refTextResp_any p v W)
    · have h1 := parse_any s.data.toList W h hl
      rw [hu] at h1
      rw [Array.toArray_toList] at h1
      exact h1
    · have h1 := refParse_any s W (by omega)
      rw [hu] at h1
      exact h1
    · have h1 := parseResp_any s.data.toList W h hl
      rw [hv] at h1
      rw [Array.toArray_toList] at h1
      exact h1
    · have h1 := refParseResp_any s W (by omega)
      rw [hv] at h1
      exact h1
  · exact opsTexts_long c k a b p v s w hk (by omega)
end Ops
end Go.Proofs.YtlfejjegegdbnaaDoor
