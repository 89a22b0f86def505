/- The document's environment: Begin. -/
import Derived.Test.YtolcpfidmpoipaaGreatEnvTook
set_option linter.unusedVariables false
set_option linter.unusedSimpArgs false
namespace Go.Proofs.YtolcpfidmpoipaaGreat
namespace Evn
open Go.RowKit Go.Maps Arn
variable {W W' : World} {eb : Nat} {E : En} {CS CS' : Array Value} {lv : Value} {G G' : List Nat}
set_option maxRecDepth 100000 in
set_option maxHeartbeats 4000000 in
/-- Begin: another arena, from the beginning. -/
theorem begin_any (h : EnAt W eb E CS lv G) (A2 : Ar) (hr : RefS W A2 (.agg CS') G') (hg : eb ∉ G') (hl : ∀ k, k ∈ G' → k < W.heap.size) :
    Calls Tryz.prog 13 #[.pointer (some ⟨eb, 0, none⟩), .agg CS'] W fun e w' => e = .returned (.tuple #[]) ∧ EnAt w' eb (E.begin A2) CS' lv G' ∧ Frm.Turn [eb] W w' := by
  obtain ⟨fs, hfs⟩ := struct_of under_refA
  have HFS := Lib.hid hfs
  obtain ⟨hz, hone⟩ : CS'.size = 20 ∧ CS'.all (·.oneCell') = true := by
    obtain ⟨C, e, h1, h2⟩ := hr.row
    cases e
    exact ⟨h1, h2⟩
  have h1 := h.step ((Frm.Turn.refl [] W).alloc (.cells CS' 34))
  have hT1 : Frm.Turn [] W (W.alloc (.cells CS' 34)) := (Frm.Turn.refl [] W).alloc _
  obtain ⟨h2, hT2⟩ := h1.putM hz hone (hr.turn hT1 (by simp)) hg (fun k hk => by have := hl k hk; rw [World.size_alloc]; omega)
  have HB := Lib.hid (World.alloc_heap_new W (.cells CS' 34))
  have f1 := h2.thaw 21
  have f2 := h2.thaw 22
  have f3 := h2.thaw 23
  obtain ⟨d0, d1, d2, d3⟩ := h2.cells
  have h5 := ((h2.setAt 0).setDid false).setStop false
  have hT5 : Frm.Turn [eb] W (((((W.alloc (.cells CS' 34)).setCells eb 0 CS'.toList).setCell ⟨eb, 21, none⟩ (.int .i64 ((0 : Nat) : Int))).setCell ⟨eb, 22, none⟩ (.bool false)).setCell ⟨eb, 23, none⟩ (.bool false)) :=
    ((((hT1.mono (by simp)).trans hT2 (fun k hk => .inl hk)).setCell (p := ⟨eb, 21, none⟩) (.inl (by simp)) _).setCell (p := ⟨eb, 22, none⟩) (.inl (by simp)) _).setCell (p := ⟨eb, 23, none⟩) (.inl (by simp)) _
  have HE1 := Lib.hid h1
  have HE5 := Lib.hid h5
  have HT5 := Lib.hid hT5
  have HZ := Lib.hid hz
  have HONE := Lib.hid hone
  clear h h1 hT1 h2 hT2 h5 hT5 hr hg hl
  go_enter Tryz.func13, Tryz.ntmps13
  go_wp2_with (first
    | (refine wpList_load_row rfl 34 (.tmp 3) rfl W.heap.size rfl 34 CS' (0, 0) (.struct fs) HB.out HFS.out rfl (by rw [HZ.out]; exact info_refA) ?_)
    | (refine wpList_store_mid rfl 34 (.tmp 7) (.tmp 5) rfl eb 0 CS' rfl rfl (by rw [HZ.out]; exact HE1.out.there) (by rw [HZ.out]; exact info_refA) HONE.out ?_))
  refine bodyPost_end (v := .tuple #[]) (by simp [results, Tryz.results13]) rfl ⟨rfl, HE5.out, HT5.out⟩
end Evn
end Go.Proofs.YtolcpfidmpoipaaGreat
