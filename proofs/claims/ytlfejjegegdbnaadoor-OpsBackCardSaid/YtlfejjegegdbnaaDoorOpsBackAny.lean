/- The walk of law OpsBack, at what the calls answer. -/
import Derived.Test.YtlfejjegegdbnaaDoorOpsBackWalk
set_option linter.unusedVariables false
set_option linter.unusedSimpArgs false
namespace Go.Proofs.YtlfejjegegdbnaaDoor
namespace Ops
open Go.RowKit Go.Lib

theorem opP_yes {c k x y : Int} (h : opT.rightB c k x y = true) : opP c k x y = opN c k x y := by unfold opP; rw [h]; rfl
theorem respP_yes {p v : Int} (h : respT.rightB p v 0 0 = true) : respP p v = respN p v := by unfold respP; rw [h]; rfl
theorem opsBack_any (c k x y d l z u p v : Int) (w : World) (hk : Kn w) :
    Calls Tryd.prog 6 #[.agg #[.int .i64 c, .int .i64 k, .int .i64 x, .int .i64 y], .agg #[.int .i64 d, .int .i64 l, .int .i64 z, .int .i64 u], .agg #[.int .i64 p, .int .i64 v]] w fun e w' => e = .returned (.bool true) ∧ Frm.Turn [] w w' := by
  refine opsBack_form c k x y d l z u p v (opP c k x y) (opP d l z u) (respP p v) (opT.rightB c k x y) (opT.rightB d l z u) (respT.rightB p v 0 0) (opT.text c k x y) (opT.text d l z u) (respT.text p v 0 0) w hk
    (Lib.hid fun W h => pack_any c k x y W h) (Lib.hid fun W h => pack_any d l z u W h) (fun h => Lib.hid fun W hW => ?_) (Lib.hid fun W h => otext_any c k x y W h) (Lib.hid fun W h => otext_any d l z u W h) (fun h => Lib.hid fun W hW => opParse_text h W hW)
    (Lib.hid fun W h => packResp_any p v W h) (Lib.hid fun W h => rtext_any p v W h) (fun h => Lib.hid fun W hW => respParse_text h W hW) (fun h => Lib.hid fun W hW => ?_) (fun h => text_wrong h) (fun h g => ⟨?_, text_same opT_good h g⟩)
  · obtain ⟨h1, h2, h3⟩ := opN_back h
    have := unpack_any (opN c k x y) W hW h3
    rw [h1, h2] at this
    rw [opP_yes h]; exact this
  · obtain ⟨h1, h2, h3⟩ := respN_back h
    have := unpackResp_any (respN p v) W hW h3
    rw [h1, h2] at this
    rw [respP_yes h]; exact this
  · rw [opP_yes h, opP_yes g]; exact opN_inj h g
end Ops
end Go.Proofs.YtlfejjegegdbnaaDoor
