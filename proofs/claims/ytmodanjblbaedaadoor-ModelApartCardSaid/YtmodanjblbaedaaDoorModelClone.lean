/- A copy of a model; are two the same. -/
import Derived.Test.YtmodanjblbaedaaDoorModelObj
set_option linter.unusedVariables false
set_option linter.unusedSimpArgs false
namespace Go.Proofs.YtmodanjblbaedaaDoor
namespace Mdl
open Go.RowKit Go.Maps Go.Shelf Go.Lib Go.Sort

def CloneEnd (w : World) (m : Mo) (e : Ending) (w' : World) : Prop := ∃ b' F', e = .returned (.pointer (some ⟨b', 0, none⟩)) ∧ MAt w' b' m F' ∧ (∀ k, k ∈ F' → w.heap.size ≤ k) ∧ Frm.Turn [] w w'
/-- The three parts of a copy, and its body. -/
theorem clone_done {w W : World} {m : Mo} {v : Value} {pd ps : Option Nat} (hok : MOk m) (hT : Frm.Turn [] w W) (hq : QAt W v m.q) (hd : TAt W pd m.d) (hs : TAt W ps m.s)
    (nq : ∀ k, v.ownBlock = some k → w.heap.size ≤ k) (nd : ∀ k, pd = some k → w.heap.size ≤ k) (ns : ∀ k, ps = some k → w.heap.size ≤ k) (qd : ∀ k, v.ownBlock = some k → pd ≠ some k) (qs : ∀ k, v.ownBlock = some k → ps ≠ some k) (ds : ∀ k, pd = some k → ps ≠ some k)
    {e : Ending} (he : e = .returned (.pointer (some ⟨W.heap.size, 0, none⟩))) : CloneEnd w m e (W.alloc (.cells #[v, .map pd, .map ps] 59)) := by
  have hTa : Frm.Turn [] W (W.alloc (.cells #[v, .map pd, .map ps] 59)) := (Frm.Turn.refl [] W).alloc _
  refine ⟨W.heap.size, _, he, ⟨v, pd, ps, rfl, hok, World.alloc_heap_new W _, hq.step hTa, hd.step hTa, hs.step hTa, ?_⟩, fun k hk => ?_, hT.alloc _⟩
  · simp only [foot, List.nodup_cons, List.mem_append, not_or, List.nodup_append, Option.mem_toList]
    refine ⟨⟨fun e => by have := hq.lt _ e; omega, fun e => by have := hd.lt _ e; omega, fun e => by have := hs.lt _ e; omega⟩, by cases v.ownBlock <;> simp, ⟨by cases pd <;> simp, by cases ps <;> simp, fun i hi j hj e => ?_⟩, fun i hi j hj e => ?_⟩
    · subst e; exact ds i hi hj
    · subst e
      rcases hj with hj | hj
      · exact qd i hi hj
      · exact qs i hi hj
  · simp only [foot, List.mem_cons, List.mem_append, Option.mem_toList] at hk
    have := hT.size
    rcases hk with rfl | hk | hk | hk
    · exact this
    · exact nq k hk
    · exact nd k hk
    · exact ns k hk
theorem clone_drew {w w' : World} {m : Mo} {e : Ending} (h : CloneEnd w m e w') : CloneEnd w m e w'.drew := by
  obtain ⟨b, F, he, hs, hf, ht⟩ := h
  exact ⟨b, F, he, hs.step ((Frm.Turn.refl [] w').drew), hf, ht.drew⟩

attribute [local go_sem ↓] Go.wp_at_zero Go.wp_at_succ
set_option maxRecDepth 10000 in
set_option maxHeartbeats 4000000 in
theorem clone_any {w : World} {b : Nat} {m : Mo} {F : List Nat} (h : MAt w b m F) :
    Calls Tryd.prog 9 #[.pointer (some ⟨b, 0, none⟩)] w (CloneEnd w m) := by
  obtain ⟨qv, pd, ps, rfl, h⟩ := h
  obtain ⟨ao, c, rfl⟩ := h.q.form
  have HQ := Lib.hid (fun W (hT : Frm.Turn [] w W) => sclone_any (h.q.step hT) (by have := h.ok.few; omega))
  have HD := Lib.hid (fun W (hT : Frm.Turn [] w W) => mclone_any (h.d.step hT))
  have HS := Lib.hid (fun W (hT : Frm.Turn [] w W) => mclone_any (h.s.step hT))
  have HOK := Lib.hid h.ok
  have HK : Hid (∀ W, Frm.Turn [] w W → W.cell? ⟨b, 0, none⟩ = some (.slice ao m.q.length c) ∧ W.cell? ⟨b, 1, none⟩ = some (.map pd) ∧ W.cell? ⟨b, 2, none⟩ = some (.map ps)) := Lib.hid (fun W hT => ⟨hT.cell h.c0 (by simp), hT.cell h.c1 (by simp), hT.cell h.c2 (by simp)⟩)
  have c0 := h.c0
  have c1 := h.c1
  have c2 := h.c2
  have HTc := Lib.hid ((Frm.Turn.refl [] w).drew)
  clear h
  go_enter Tryd.func9, Tryd.ntmps9
  go_wp2_with fail
  go_region_held3 (fun w' => w'.cell? ⟨b, 0, none⟩ = some (.slice ao m.q.length c) ∧ w'.cell? ⟨b, 1, none⟩ = some (.map pd) ∧ w'.cell? ⟨b, 2, none⟩ = some (.map ps))
    (first | exact HK.out _ HTc.out | go_keep)
    (first
      | (go_at_call 22; (with_reducible refine (HQ.out _ HTc.out).mono ?_); rintro e w1 ⟨v', rfl, hq, hn, hT⟩; (try (have HTd := Lib.hid (HTd.out.trans hT (by simp)))); (try (have HTs := Lib.hid (HTs.out.trans hT (by simp)))); have sz := hT.size; have HTc := Lib.hid (HTc.out.trans hT (by simp)); obtain ⟨a', c', rfl⟩ := hq.form; have Hq := Lib.hid hq; have Hqn := Lib.hid hn; have HTq := Lib.hid (Frm.Turn.refl [] w1); clear hq hn hT)
      | (go_at_call 23; (with_reducible refine (HD.out _ HTc.out).mono ?_); rintro e w1 ⟨pd', rfl, hd, hn, hT⟩; (try (have HTq := Lib.hid (HTq.out.trans hT (by simp)))); (try (have HTs := Lib.hid (HTs.out.trans hT (by simp)))); have sz := hT.size; have HTc := Lib.hid (HTc.out.trans hT (by simp)); have Hd := Lib.hid hd; have Hdn := Lib.hid hn; have HTd := Lib.hid (Frm.Turn.refl [] w1); clear hd hn hT)
      | (go_at_call 23; (with_reducible refine (HS.out _ HTc.out).mono ?_); rintro e w1 ⟨ps', rfl, hs, hn, hT⟩; (try (have HTq := Lib.hid (HTq.out.trans hT (by simp)))); (try (have HTd := Lib.hid (HTd.out.trans hT (by simp)))); have sz := hT.size; have HTc := Lib.hid (HTc.out.trans hT (by simp)); have Hs := Lib.hid hs; have Hsn := Lib.hid hn; have HTs := Lib.hid (Frm.Turn.refl [] w1); clear hs hn hT))
  all_goals go_wp2
  all_goals go_ret
  all_goals
    have e0 : w.drew.heap.size = w.heap.size := rfl
    try (refine clone_drew ?_)
    refine clone_done HOK.out HTc.out (Hq.out.step HTq.out) (Hd.out.step HTd.out) (Hs.out.step HTs.out) (fun k hk => ?_) (fun k hk => ?_) (fun k hk => ?_) (fun k hk e => ?_) (fun k hk e => ?_) (fun k hk e => ?_) ?_
    · have := Hqn.out k hk; omega
    · have := Hdn.out k hk; omega
    · have := Hsn.out k hk; omega
    · have := Hqn.out k hk; have := Hq.out.lt k hk; have := Hdn.out k e; have := Hd.out.lt k e; omega
    · have := Hqn.out k hk; have := Hq.out.lt k hk; have := Hsn.out k e; have := Hs.out.lt k e; omega
    · have := Hdn.out k hk; have := Hd.out.lt k hk; have := Hsn.out k e; have := Hs.out.lt k e; omega
    · rfl
end Mdl
end Go.Proofs.YtmodanjblbaedaaDoor
