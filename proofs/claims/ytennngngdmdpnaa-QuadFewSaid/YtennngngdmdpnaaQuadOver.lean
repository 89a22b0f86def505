/- over, List and Handles: what a walk over an arena's blocks finds, as a function of them. -/
import Derived.Test.YtennngngdmdpnaaQuadNode
import Derived.Test.YtennngngdmdpnaaQuadNodes
import Derived.Test.YtennngngdmdpnaaArenaRefLay
import Derived.Laws.Rows
import Derived.Laws.Tables
set_option linter.unusedVariables false
set_option linter.unusedSimpArgs false
namespace Go.Proofs.Ytennngngdmdpnaa
namespace Qud
open Go.RowKit Go.Maps Arn

theorem info_walk : (Try.prog.info? 98).map (·.size) = some 3 := by kernel_rfl
theorem under_walk : structB (Try.prog.underlying 98) = true := by kernel_rfl
theorem ones_of {w : World} {b1 b2 n1 n2 s1 s2 : Nat} {e1 e2 : TypeId} {v1 v2 : Value} {x1 x2 : List Value} (h : w.ownsRow b1 e1 s1 v1 n1 x1) (k : w.ownsRow b2 e2 s2 v2 n2 x2) : v1.oneCell' = true ∧ v2.oneCell' = true := by
  obtain ⟨a1, c1, rfl⟩ := Frm.row_form h
  obtain ⟨a2, c2, rfl⟩ := Frm.row_form k
  exact ⟨rfl, rfl⟩
theorem row_low {w : World} {base base' : Nat} {e : TypeId} {size : Nat} {v : Value} {n : Nat} {xs : List Value} (h : w.ownsRow base e size v n xs) (hb : base' ≤ base) : w.ownsRow base' e size v n xs :=
  ⟨h.1, h.2.imp id fun ⟨g, cap, cur, h1, h2, h3⟩ => ⟨g, cap, cur, h1, Nat.le_trans hb h2, h3⟩⟩
/-- What a tree of these blocks has. -/
def treeOf (L : List Blk) (root : Int) : Option Tr := if root = 0 then some ([], []) else walkW (ndOf L) 4 root 0
/-- What is handed back: a struct of three cells, and whether it is a tree. -/
def WBack (w : World) (o : Option Tr) (e : Ending) (w' : World) : Prop :=
  ∃ mo hv pv t, e = .returned (.tuple #[.agg #[.map mo, hv, pv], .bool o.isSome]) ∧ t = o.getD ([], []) ∧ w'.ownsRow w.heap.size 22 1 hv t.1.length (u64s t.1) ∧ w'.ownsRow w.heap.size 51 2 pv t.2.length (pairCells t.2) ∧ Frm.Turn [] w w'
set_option maxRecDepth 100000 in
set_option maxHeartbeats 4000000 in
theorem over_zero (av : Value) (w : World) : Calls Try.prog 45 #[av, .int .u64 0] w (WBack w (some ([], []))) := by
  go_enter Try.func45, Try.ntmps45
  go_wp2
  obtain ⟨fs, hfs⟩ := struct_of under_walk
  have hld : (loadVar 98 ⟨w.heap.size, 0, none⟩).run Try.prog (w.alloc (.cells #[.map none, .slice none 0 0, .slice none 0 0] 98)) = .ok (.agg #[.map none, .slice none 0 0, .slice none 0 0]) (w.alloc (.cells #[.map none, .slice none 0 0, .slice none 0 0] 98)) :=
    run_loadVar_row _ _ _ _ #[.map none, .slice none 0 0, .slice none 0 0] (0, 0) (.struct fs) (heap_new w _) hfs rfl info_walk
  refine bodyPost_ret (v := .tuple #[.agg #[.map none, .slice none 0 0, .slice none 0 0], .bool true]) (by simp [results, Try.results45, asAddr, hld]) rfl ?_
  exact ⟨_, _, _, ([], []), rfl, rfl, World.ownsRow_nil _ _ _ _, World.ownsRow_nil _ _ _ _, (Frm.Turn.refl [] w).alloc _⟩
set_option maxRecDepth 100000 in
set_option maxHeartbeats 4000000 in
theorem over_any {w : World} {b : Nat} {M : Mem} {A : Ar} (h : ArAt w b M A) (root : Int) (hr : W64 root) (h0 : root ≠ 0) :
    Calls Try.prog 45 #[.pointer (some ⟨b, 0, none⟩), .int .u64 root] w (WBack w (walkW (ndOf A.L) 4 root 0)) := by
  obtain ⟨Wa, HWa⟩ : ∃ Wa, Hid (Wa = w.alloc (.cells #[.map none, .slice none 0 0, .slice none 0 0] 98)) := ⟨_, Lib.hid rfl⟩
  have hTa : Frm.Turn [] w Wa := by rw [HWa.out]; exact (Frm.Turn.refl [] w).alloc _
  have hba : Wa.heap[w.heap.size]? = some (.cells #[.map none, .slice none 0 0, .slice none 0 0] 98 (0, 0)) := by rw [HWa.out]; exact heap_new w _
  have hN := nodes_any (h.step hTa)
  have h64 : ∀ k, (ndOf A.L k).length = 4 ∧ ∀ x, x ∈ ndOf A.L k → W64 x := fun k => ⟨ndOf_len _ _, ndOf_all (fun l => ∀ x, x ∈ l → W64 x) (by intro x hx; simp [zero4] at hx; subst hx; unfold W64; omega) A.L (fun x hx _ => h.ok.wrd x hx) k⟩
  have HN := Lib.hid hN
  have HTa := Lib.hid hTa
  have HBa := Lib.hid hba
  have H64 := Lib.hid h64
  obtain ⟨b1, HB1⟩ : ∃ b1, Hid (b1 = w.heap.size) := ⟨_, Lib.hid rfl⟩
  rw [← HB1.out] at HBa
  have hlt1 : b1 < Wa.heap.size := (Array.getElem?_eq_some_iff.1 HBa.out).1
  clear hN hTa hba h64
  go_enter Try.func45, Try.ntmps45
  go_upto_region 1 with fail
  rw [← HWa.out, ← HB1.out]
  have hf1 := fun (W : World) (hT : Frm.Turn [] Wa W) => hT.keep HBa.out (by simp)
  go_upto_region 6 with ((go_at_call 65; go_must (with_reducible refine (HN.out).mono ?_); rintro e w2 ⟨m, n, rfl, hn2, hm2, hT2⟩; have HN2 := Lib.hid hn2; have HM2 := Lib.hid hm2; have HT2 := Lib.hid hT2; clear hn2 hm2 hT2))
  obtain ⟨W3, HW3⟩ : ∃ W3, Hid (W3 = w2.alloc (.cells #[.map (some m), .slice none 0 0, .slice none 0 0] 98)) := ⟨_, Lib.hid rfl⟩
  rw [← HW3.out]
  obtain ⟨r, HR⟩ : ∃ r, Hid (r = w2.heap.size) := ⟨_, Lib.hid rfl⟩
  rw [← HR.out]
  have hW : WAt Wa r m n (ndOf A.L) [] [] (.slice none 0 0) (.slice none 0 0) W3 := by
    have hT3 : Frm.Turn [] w2 W3 := by rw [HW3.out]; exact (Frm.Turn.refl [] w2).alloc _
    have hb3 : W3.heap[r]? = some (.cells #[.map (some m), .slice none 0 0, .slice none 0 0] 98 (0, 0)) := by rw [HW3.out, HR.out]; exact heap_new w2 _
    have hml := HN2.out.lt
    exact ⟨hb3, HN2.out.turn hT3 (by simp), World.ownsRow_nil _ _ _ _, World.ownsRow_nil _ _ _ _, HT2.out.trans hT3 (by simp), by rw [HR.out]; exact HT2.out.size, HM2.out, by rw [HR.out]; omega⟩
  have hcall := node_top Wa r m n (ndOf A.L) [] [] (.slice none 0 0) (.slice none 0 0) W3 root 0 hW hr (by omega) (by decide) H64.out (by decide) (by decide)
  have e0 : (3 : Int) - ((3 : Nat) : Int) = 0 := by decide
  rw [e0] at hcall
  obtain ⟨fs, hfs⟩ := struct_of under_walk
  have HFS := Lib.hid hfs
  cases ho : walkW (ndOf A.L) (3 + 1) root 0 with
  | none =>
    rw [ho] at hcall
    have HC := Lib.hid hcall
    clear hcall hW hfs
    go_wp2_with (first
      | ((go_at_call 66; go_must (with_reducible refine (HC.out).mono ?_); rintro e w4 ⟨rfl, hT4⟩; have HT4 := Lib.hid hT4; have HB4 := Lib.hid (hf1 _ hT4); clear hT4))
      | (refine wpList_store_row rfl 98 (.tmp 4) (.tmp 21) rfl b1 #[.map none, .slice none 0 0, .slice none 0 0] rfl rfl 98 _ HB4.out info_walk rfl (by simp [Value.oneCell']) ?_))
    have hld : (loadVar 98 ⟨b1, 0, none⟩).run Try.prog (w4.setRow b1 #[.map none, .slice none 0 0, .slice none 0 0]) = .ok (.agg #[.map none, .slice none 0 0, .slice none 0 0]) (w4.setRow b1 #[.map none, .slice none 0 0, .slice none 0 0]) :=
      run_loadVar_row _ _ _ _ #[.map none, .slice none 0 0, .slice none 0 0] (0, 0) (.struct fs) (setRow_heap _ _ _ _ _ _ HB4.out) HFS.out rfl info_walk
    refine bodyPost_ret (v := .tuple #[.agg #[.map none, .slice none 0 0, .slice none 0 0], .bool false]) (by simp [results, Try.results45, asAddr, hld]) rfl ?_
    have ho' : walkW (ndOf A.L) 4 root 0 = none := ho
    rw [ho']
    refine ⟨_, _, _, ([], []), rfl, rfl, World.ownsRow_nil _ _ _ _, World.ownsRow_nil _ _ _ _, ?_⟩
    exact setRow_turn (HTa.out.trans HT4.out (by simp)) (.inr (by rw [HB1.out]; exact Nat.le_refl _)) _
  | some t =>
    rw [ho] at hcall
    have HC := Lib.hid hcall
    clear hcall hW hfs
    go_wp2_with (first
      | ((go_at_call 66; go_must (with_reducible refine (HC.out).mono ?_); rintro e w4 ⟨rfl, hv4, pv4, hW4⟩; have HW4 := Lib.hid hW4; have HB4 := Lib.hid (hf1 _ hW4.turn); clear hW4))
      | (refine wpList_load_row rfl 98 (.tmp 6) rfl r rfl 98 #[.map (some m), hv4, pv4] (0, 0) (.struct fs) HW4.out.body HFS.out rfl info_walk ?_)
      | (refine wpList_store_row rfl 98 (.tmp 4) (.tmp 22) rfl b1 #[.map (some m), hv4, pv4] rfl rfl 98 _ HB4.out info_walk rfl (by have hob := ones_of (HW4.out.hs) (HW4.out.ps); simp [hob.1, hob.2]; rfl) ?_))
    have hw4 := HW4.out
    have hld : (loadVar 98 ⟨b1, 0, none⟩).run Try.prog (w4.setRow b1 #[.map (some m), hv4, pv4]) = .ok (.agg #[.map (some m), hv4, pv4]) (w4.setRow b1 #[.map (some m), hv4, pv4]) :=
      run_loadVar_row _ _ _ _ #[.map (some m), hv4, pv4] (0, 0) (.struct fs) (setRow_heap _ _ _ _ _ _ HB4.out) HFS.out rfl info_walk
    refine bodyPost_ret (v := .tuple #[.agg #[.map (some m), hv4, pv4], .bool true]) (by simp [results, Try.results45, asAddr, hld]) rfl ?_
    have hT5 : Frm.Turn [b1] w4 (w4.setRow b1 #[.map (some m), hv4, pv4]) := setRow_turn (Frm.Turn.refl [b1] w4) (.inl (by simp)) _
    have hlw := HTa.out.size
    have ho' : walkW (ndOf A.L) 4 root 0 = some t := ho
    rw [ho']
    refine ⟨_, hv4, pv4, t, rfl, rfl, ?_, ?_, (HTa.out.trans hw4.turn (by simp)).trans hT5 (fun k hk => .inr (by simp at hk; rw [hk, HB1.out]; exact Nat.le_refl _))⟩
    · have h1 := hw4.hs
      simp only [List.nil_append] at h1
      exact Frm.owns_turn (row_low h1 hlw) hT5 (fun k hk hk' => by simp at hk'; have := (h1.lt k hk).1; omega)
    · have h1 := hw4.ps
      simp only [List.nil_append] at h1
      exact Frm.owns_turn (row_low h1 hlw) hT5 (fun k hk hk' => by simp at hk'; have := (h1.lt k hk).1; omega)
/-- .. of any arena, or of a tree without a key. -/
theorem over_tree {w : World} {b : Nat} {M : Mem} {A : Ar} (h : ArAt w b M A) (root : Int) (hr : W64 root) :
    Calls Try.prog 45 #[.pointer (some ⟨b, 0, none⟩), .int .u64 root] w (WBack w (treeOf A.L root)) := by
  unfold treeOf
  by_cases h0 : root = 0
  · subst h0
    rw [if_pos rfl]
    exact over_zero _ w
  · rw [if_neg h0]
    exact over_any h root hr h0
/-- What List and Handles hand back. -/
theorem list_any {w : World} {b : Nat} {M : Mem} {A : Ar} (h : ArAt w b M A) (root : Int) (hr : W64 root) :
    Calls Try.prog 14 #[.pointer (some ⟨b, 0, none⟩), .int .u64 root] w fun e w' => ∃ v, e = .returned (.tuple #[v, .bool (treeOf A.L root).isSome]) ∧
      w'.ownsRow w.heap.size 51 2 v ((treeOf A.L root).getD ([], [])).2.length (pairCells ((treeOf A.L root).getD ([], [])).2) ∧ Frm.Turn [] w w' := by
  have HO := Lib.hid (over_tree h root hr)
  obtain ⟨o, HOE⟩ : ∃ o, Hid (o = treeOf A.L root) := ⟨_, Lib.hid rfl⟩
  rw [← HOE.out] at HO ⊢
  clear h
  go_enter Try.func14, Try.ntmps14
  go_wp2_with ((go_at_call 45; go_must (with_reducible refine (HO.out).mono ?_); rintro e w2 ⟨mo, hv, pv, t, rfl, rfl, hh, hp, hT⟩; obtain ⟨a1, c1, rfl⟩ := Frm.row_form hh; obtain ⟨a2, c2, rfl⟩ := Frm.row_form hp; have HH := Lib.hid hp; have HT := Lib.hid hT; clear hp hh hT))
  go_ret2
  refine ⟨_, rfl, Frm.owns_turn HH.out ((Frm.Turn.refl [] w2).alloc _) (by simp), HT.out.trans ((Frm.Turn.refl [] w2).alloc _) (by simp)⟩
theorem handles_any {w : World} {b : Nat} {M : Mem} {A : Ar} (h : ArAt w b M A) (root : Int) (hr : W64 root) :
    Calls Try.prog 15 #[.pointer (some ⟨b, 0, none⟩), .int .u64 root] w fun e w' => ∃ v, e = .returned (.tuple #[v, .bool (treeOf A.L root).isSome]) ∧
      w'.ownsRow w.heap.size 22 1 v ((treeOf A.L root).getD ([], [])).1.length (u64s ((treeOf A.L root).getD ([], [])).1) ∧ Frm.Turn [] w w' := by
  have HO := Lib.hid (over_tree h root hr)
  obtain ⟨o, HOE⟩ : ∃ o, Hid (o = treeOf A.L root) := ⟨_, Lib.hid rfl⟩
  rw [← HOE.out] at HO ⊢
  clear h
  go_enter Try.func15, Try.ntmps15
  go_wp2_with ((go_at_call 45; go_must (with_reducible refine (HO.out).mono ?_); rintro e w2 ⟨mo, hv, pv, t, rfl, rfl, hh, hp, hT⟩; obtain ⟨a1, c1, rfl⟩ := Frm.row_form hh; obtain ⟨a2, c2, rfl⟩ := Frm.row_form hp; have HH := Lib.hid hh; have HT := Lib.hid hT; clear hp hh hT))
  go_ret2
  refine ⟨_, rfl, Frm.owns_turn HH.out ((Frm.Turn.refl [] w2).alloc _) (by simp), HT.out.trans ((Frm.Turn.refl [] w2).alloc _) (by simp)⟩
end Qud
end Go.Proofs.Ytennngngdmdpnaa
