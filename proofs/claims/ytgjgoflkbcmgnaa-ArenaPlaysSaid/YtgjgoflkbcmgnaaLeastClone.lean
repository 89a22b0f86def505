/- A copy of a stock: slices.Clone, maps.Clone, Clone. -/
import Derived.Test.YtgjgoflkbcmgnaaLeastOwn
import Derived.Test.YtgjgoflkbcmgnaaLeastAppend
import Derived.Shelf.SlMaps.Clone
import Derived.Lib.SliceRun
import Derived.Deep.RegionHeld3
import Derived.Deep.DrawnRows
set_option linter.unusedVariables false
set_option linter.unusedSimpArgs false
namespace Go.Proofs.Ytgjgoflkbcmgnaa
namespace Lst
open Go.RowKit Hp

set_option maxRecDepth 100000 in
theorem mclone_any (m n : Nat) (D : DataW Unit) (w : World) (h : w.ownsMap Try.prog 3 (unitElem (H := Unit)) m n D) :
    Calls Try.prog 63 #[.map (some m)] w fun e w' => e = .returned (.map (some w.heap.size)) ∧ w'.ownsMap Try.prog 3 (unitElem (H := Unit)) w.heap.size n D ∧ ∃ o, w' = w.alloc o := by
  obtain ⟨es, clock, hb, F, hs, hD⟩ := h
  have hq := fun w => run_eql_map_nil_sl (P := Try.prog) w 103 _ _ (some m) mapT
  have HB := Lib.hid hb
  have HFin : Hid ((w.alloc (.map es clock)).ownsMap Try.prog 3 (unitElem (H := Unit)) w.heap.size n D) := Lib.hid ⟨es, clock, (MapKept.heap_alloc w _).1, F, hs, hD⟩
  clear hb F hs hD
  go_enter Try.func63, Try.ntmps63
  go_wp2
  rw [run_callFunc_extern Try.func70 (by kernel_rfl) (by kernel_rfl) (by kernel_rfl) (e := Extern.MapsClone.clone) (by kernel_rfl), run_maps_clone_sl w 103 HB.out]
  simp only [Result.andThen]
  rw [Oper.upon_value]
  go_wp2
  rw [run_typeAssert_map_sl _ 103 20 _ _ _ mapT]
  simp only [Result.andThen]
  rw [Oper.upon_value]
  go_wp2
  go_ret
  exact ⟨rfl, HFin.out, _, rfl⟩

theorem sclone_nil (w : World) : Calls Try.prog 62 #[.slice none 0 0] w fun e w' => e = .returned (.slice none 0 0) ∧ w = w' := by
  have hq := fun w => Lib.run_eql_slice_nil (P := Try.prog) w 105 _ none 0 0 0 0 under_row
  go_enter Try.func62, Try.ntmps62
  go_wp2
  go_ret
  exact ⟨rfl, rfl⟩
set_option maxHeartbeats 1000000 in
theorem sclone_row (g n c : Nat) (xs : List Value) (w : World) (h : w.ownsRow 0 3 1 (.slice (some ⟨g, 0, none⟩) n c) n xs) (h1 : ∀ u ∈ xs, u.oneCell' = true) (hn : n ≤ 65536) :
    Calls Try.prog 62 #[.slice (some ⟨g, 0, none⟩) n c] w fun e w' => ∃ g' c', e = .returned (.slice (some ⟨g', 0, none⟩) n c') ∧ w'.ownsRow 0 3 1 (.slice (some ⟨g', 0, none⟩) n c') n xs ∧ w.heap.size ≤ g' ∧ Frm.Turn [] w w' := by
  have hq := fun w => Lib.run_eql_slice_nil (P := Try.prog) w 105 _ (some ⟨g, 0, none⟩) n c 0 0 under_row
  have H := Lib.hid h
  obtain ⟨i0, hi, hz0, hz1, hz2⟩ := info_parts info_int
  have HO : Hid ((w.alloc (.cells #[] 3)).ownsRow 0 3 1 (.slice (some ⟨w.heap.size, 0, none⟩) 0 0) 0 []) := Lib.hid (World.ownsRow_made w #[] 0 (Nat.zero_le _) (by simp [maxLen]) (by simp))
  clear h
  go_enter Try.func62, Try.ntmps62
  go_wp2_with (at_builtin; refine Frm.wpList_append_rows _ rfl (.tmp 5) (.tmp 6) 105 rfl 0 3 i0 (.int .i64 0) 1 8 under_row hi hz0 hz1 hz2 rfl (by decide) (.slice (some ⟨w.heap.size, 0, none⟩) 0 0) 0 [] rfl HO.out _ rfl n 0 xs (H.out.alloc _) h1 (by unfold maxLen; omega) (by omega) (Nat.zero_le _) ?_; intro v1 w3 hown3 hg3 hl3; simp only [Nat.zero_add, List.nil_append] at hown3; have HO3 := Lib.hid hown3; have HG3 := Lib.hid hg3; have HL3 := Lib.hid hl3; clear hown3 hg3 hl3)
  go_ret
  have hs3 := HG3.out.size
  simp at hs3
  have hbl : ∀ k, v1.ownBlock = some k → w.heap.size ≤ k := fun k hk => by
    rcases HL3.out with h | h <;> rw [h] at hk <;> simp [Value.ownBlock] at hk <;> omega
  have hne : v1.ownBlock ≠ none := by
    rcases HL3.out with h | h <;> rw [h] <;> simp [Value.ownBlock]
  have ho := HO3.out
  rcases ho.2 with ⟨rfl, _⟩ | ⟨g', c', cur, rfl, _⟩
  · simp [Value.ownBlock] at hne
  · refine ⟨g', c', rfl, ho, hbl g' rfl, ((Frm.Turn.refl [] w).alloc _).trans (Frm.Turn.of_grown HG3.out) (fun k hk => ?_)⟩
    simp [Value.ownBlock] at hk; subst hk; right; omega

/-- A row behind a pointer in a block that is known. -/
theorem rw_mk {w : World} {b off g c : Nat} {l : List Nat} (hc : w.cell? ⟨b, off, none⟩ = some (.slice (some ⟨g, 0, none⟩) l.length c)) (hf : w.frozen? ⟨b, off, none⟩ = false)
    (ho : w.ownsRow 0 3 1 (.slice (some ⟨g, 0, none⟩) l.length c) l.length (ints l)) (hne : g ≠ b) (hfew : l.length ≤ 65536) : Rw w b off g c l := by
  rcases ho.2 with ⟨h, _⟩ | ⟨g', cap, cur, h, _, hg, h1, h2, h3, h4⟩
  · cases h
  · cases h
    exact ⟨hc, hf, ⟨cur, hg, by simpa using h3, by simpa using h4⟩, h1, h2, hne, hfew⟩

def CloneEnd (w : World) (S : St) (e : Ending) (w' : World) : Prop :=
  ∃ b' F', e = .returned (.pointer (some ⟨b', 0, none⟩)) ∧ StockAt w' b' F' S ∧ (∀ k, k ∈ F' → w.heap.size ≤ k) ∧ Frm.Turn [] w w'

attribute [local go_sem ↓] Go.wp_at_zero Go.wp_at_succ

/-- The new stock, once its parts lie there. -/
theorem clone_done {w W : World} {S : St} {m' : Nat} {vb : Value} {G' : List Nat} {D : DataW Unit} (hok : S.Ok) (hT : Frm.Turn [] w W) (hm : w.heap.size ≤ m') (hown : W.ownsMap Try.prog 3 (unitElem (H := Unit)) m' (Maps.size D) D)
    (hhas : ∀ k : Int, Maps.has D (.int .i64 k) = S.used k) (hsz : Maps.size D + S.back.length = S.high)
    (hv : (vb = .slice none 0 0 ∧ S.back = [] ∧ G' = []) ∨ ∃ g c, vb = .slice (some ⟨g, 0, none⟩) S.back.length c ∧ G' = [g] ∧ w.heap.size ≤ g ∧ W.ownsRow 0 3 1 vb S.back.length (ints S.back)) {e : Ending}
    (he : e = .returned (.pointer (some ⟨W.heap.size, 0, none⟩))) : CloneEnd w S e (W.alloc (.cells #[.int .i64 (S.most : Int), .int .i64 (S.high : Int), vb, .map (some m')] 107)) := by
  have hb := heap_alloc_new W (.cells #[.int .i64 (S.most : Int), .int .i64 (S.high : Int), vb, .map (some m')] 107)
  have hc := fun i => Frm.cell_row _ W.heap.size i _ _ _ hb
  have hf := fun i => Frm.frozen_row _ W.heap.size i _ _ hb
  have hTa : Frm.Turn [] W (W.alloc (.cells #[.int .i64 (S.most : Int), .int .i64 (S.high : Int), vb, .map (some m')] 107)) := (Frm.Turn.refl [] W).alloc _
  have hsW := hT.size
  have hfew : S.back.length ≤ 65536 := by have h1 := hok.few; have h2 := hok.high; have h3 := hok.most; omega
  refine ⟨W.heap.size, W.heap.size :: m' :: G', he, ⟨hok, (hc 0).trans rfl, (hc 1).trans rfl, hf, m', G', rfl, ?_, ?_, (hc 3).trans rfl, D, own_turn hown hTa (by simp), hhas, hsz⟩, fun k hk => ?_, hT.alloc _⟩
  · rcases hv with ⟨rfl, h1, rfl⟩ | ⟨g, c, rfl, rfl, hg, ho⟩
    · exact Or.inl ⟨h1, rfl, (hc 2).trans rfl, hf 2⟩
    · have hgW := (World.ownsRow.lt ho g rfl).2
      exact Or.inr ⟨g, c, rfl, rw_mk ((hc 2).trans rfl) (hf 2) (Frm.owns_turn ho hTa (by simp)) (by omega) hfew⟩
  · rcases hv with ⟨rfl, h1, rfl⟩ | ⟨g, c, rfl, rfl, hg, ho⟩
    · simp
    · have hgW := (World.ownsRow.lt ho g rfl).2
      simp; omega
  · simp at hk
    rcases hk with rfl | rfl | hk
    · omega
    · exact hm
    · rcases hv with ⟨rfl, h1, rfl⟩ | ⟨g, c, rfl, rfl, hg, ho⟩
      · simp at hk
      · simp at hk; omega

theorem clone_drew {w w' : World} {S : St} {e : Ending} (h : CloneEnd w S e w') : CloneEnd w S e w'.drew := by
  obtain ⟨b, F, he, hs, hf, ht⟩ := h
  exact ⟨b, F, he, hs.turn ((Frm.Turn.refl [] w').drew) (by simp), hf, ht.drew⟩
theorem ints_onec (l : List Nat) : ∀ u ∈ ints l, u.oneCell' = true := by
  intro u hu
  simp [ints] at hu
  obtain ⟨a, _, rfl⟩ := hu
  rfl
set_option maxHeartbeats 2000000 in
theorem clone_any (b : Nat) (F : List Nat) (S : St) (w : World) (h : StockAt w b F S) :
    Calls Try.prog 45 #[.pointer (some ⟨b, 0, none⟩)] w (CloneEnd w S) := by
  obtain ⟨m, G, rfl, hR, hbG, hmap, D, hD⟩ := h.parts
  have d0 := h.most
  have d1 := h.high
  have hlt := hD.own.lt
  have HD := Lib.hid hD
  have HOK := Lib.hid h.ok
  have hfew : S.back.length ≤ 65536 := by have h1 := h.ok.few; have h2 := h.ok.high; have h3 := h.ok.most; omega
  clear h hD
  rcases hR with ⟨hb, rfl, d2, _⟩ | ⟨g, c, rfl, hR⟩
  · have HB := Lib.hid hb
    clear hb
    go_enter Try.func45, Try.ntmps45
    go_wp2_with fail
    go_region_held3 (fun w' => w'.cell? ⟨b, 0, none⟩ = some (.int .i64 (S.most : Int)) ∧ w'.cell? ⟨b, 1, none⟩ = some (.int .i64 (S.high : Int)) ∧ w'.cell? ⟨b, 2, none⟩ = some (.slice none 0 0) ∧ w'.cell? ⟨b, 3, none⟩ = some (.map (some m)))
      (first | go_keep)
      (first
        | (go_at_call 62; (with_reducible refine (sclone_nil _).mono ?_); rintro e w1 ⟨rfl, rfl⟩)
        | (go_at_call 63; (with_reducible refine (mclone_any m _ D _ (own_turn HD.out.own ((Frm.Turn.refl [] w).drew) (by simp))).mono ?_); rintro e w2 ⟨rfl, hown2, o, rfl⟩; have HO2 := Lib.hid hown2; clear hown2))
    go_wp2
    go_ret
    refine clone_drew (clone_done (W := w.alloc o) (m' := w.heap.size) (G' := []) HOK.out ((Frm.Turn.refl [] w).alloc _) (Nat.le_refl _) HO2.out HD.out.has HD.out.size (Or.inl ⟨rfl, HB.out, rfl⟩) ?_)
    simp
  · have d2 := hR.cell
    have hnb : ∀ x : World, Frm.Turn [] w x → x.cell? ⟨b, 0, none⟩ = some (.int .i64 (S.most : Int)) ∧ x.cell? ⟨b, 1, none⟩ = some (.int .i64 (S.high : Int)) ∧ x.cell? ⟨b, 2, none⟩ = some (.slice (some ⟨g, 0, none⟩) S.back.length c) ∧ x.cell? ⟨b, 3, none⟩ = some (.map (some m)) :=
      fun _ ht => ⟨ht.cell d0 (by simp), ht.cell d1 (by simp), ht.cell d2 (by simp), ht.cell hmap (by simp)⟩
    have HNB := Lib.hid hnb
    have HR := Lib.hid hR
    clear hR hnb
    go_enter Try.func45, Try.ntmps45
    go_wp2_with fail
    go_region_held3 (fun w' => w'.cell? ⟨b, 0, none⟩ = some (.int .i64 (S.most : Int)) ∧ w'.cell? ⟨b, 1, none⟩ = some (.int .i64 (S.high : Int)) ∧ w'.cell? ⟨b, 2, none⟩ = some (.slice (some ⟨g, 0, none⟩) S.back.length c) ∧ w'.cell? ⟨b, 3, none⟩ = some (.map (some m)))
      (first | go_keep | exact HNB.out _ HT1.out | exact HNB.out _ (HT1.out.alloc _))
      (first
        | (go_at_call 62; (with_reducible refine (sclone_row g _ c (ints S.back) _ (Frm.owns_turn HR.out.owns ((Frm.Turn.refl [] w).drew) (by simp)) (ints_onec S.back) hfew).mono ?_); rintro e w1 ⟨g', c', rfl, hown1, hg1, hT1⟩; have HO1 := Lib.hid hown1; have HT1 := Lib.hid (((Frm.Turn.refl [] w).drew).trans hT1 (by simp)); have HG1 := Lib.hid hg1; clear hown1 hT1 hg1)
        | (go_at_call 63; (with_reducible refine (mclone_any m _ D _ (own_turn HD.out.own HT1.out (by simp))).mono ?_); rintro e w2 ⟨rfl, hown2, o, rfl⟩; have HO2 := Lib.hid hown2; clear hown2))
    go_wp2
    go_ret
    have hs1 := HT1.out.size
    have hgg := HG1.out
    refine clone_done (W := w1.alloc o) (m' := w1.heap.size) (G' := [g']) HOK.out (HT1.out.alloc _) hs1 HO2.out HD.out.has HD.out.size (Or.inr ⟨g', c', rfl, rfl, by simpa using hgg, HO1.out.alloc _⟩) ?_
    simp
end Lst
end Go.Proofs.Ytgjgoflkbcmgnaa
