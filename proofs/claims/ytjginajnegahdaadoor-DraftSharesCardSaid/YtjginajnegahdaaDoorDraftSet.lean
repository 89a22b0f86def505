/- The counts and the front of a draft, set; replacing; what an operation does upon a key that has none. -/
import Derived.Test.YtjginajnegahdaaDoorDraftWrite2
set_option linter.unusedVariables false
set_option linter.unusedSimpArgs false
namespace Go.Proofs.YtjginajnegahdaaDoor
namespace Drf
open Go.RowKit Go.Maps

theorem setLen_wf {D : Dr} {N t : Nat} {z : Int} (h : Wf D N) : Wf (D.setLen t z) N := ⟨h.three, h.four, h.kid, h.one, h.word, h.know, h.made, h.drop, h.drp, by simp [Dr.setLen, h.lens]⟩
theorem front_wf {D : Dr} {N : Nat} {z : Int} (h : Wf D N) : Wf { D with front := z } N := ⟨h.three, h.four, h.kid, h.one, h.word, h.know, h.made, h.drop, h.drp, h.lens⟩
theorem DAtR.own_set {w w' : World} {b : Nat} {S : Sh} {D D' : Dr} {R : Nat → List Nat} {N : Nat} (h : DAtR w b S D R N) (hT : Frm.Turn [b] w w') (hr : w'.heap[b]? = some (.cells (drCells S D').toArray 90 (0, 0))) (hm : D'.made = D.made) (hd : D'.drop = D.drop) (hk : D'.know = D.know) (hw : Wf D' N) : DAtR w' b S D' R N := by
  obtain ⟨⟨p1, p2, p3, p4⟩, ⟨p5, p6, p7⟩, p8, p9⟩ := h.parts
  have hnode : ∀ i, D'.node i = D.node i := fun i => by simp [Dr.node, hm]
  refine ⟨hr, fun i hi => ?_, fun l hl => ?_, ?_, ?_, hw, by rw [hm]; exact h.blen, h.apart⟩
  · rw [hm] at hi
    rw [hnode]
    refine hT.keep (h.node i hi) ?_
    simp only [List.mem_singleton]
    intro e
    exact p2 (by rw [← e]; exact getD_mem (by rw [h.blen]; exact hi))
  · exact Frm.owns_turn (h.fresh l hl) hT (fun k hk => by simp; rintro rfl; exact p3 l hk)
  · rw [hd]; exact Frm.owns_turn h.drop hT (fun k hk => by simp; rintro rfl; exact p4 hk)
  · rw [hk]; exact h.known.turn hT (by simpa using fun e => p1 e.symm)
theorem DAtR.setLen {w : World} {b : Nat} {S : Sh} {D : Dr} {R : Nat → List Nat} {N : Nat} (h : DAtR w b S D R N) {t : Nat} (ht : t ≤ 2) (z : Int) : DAtR (w.setCell ⟨b, 7 + t, none⟩ (.int .i64 z)) b S (D.setLen t z) R N := by
  refine h.own_set ((Frm.Turn.refl [b] w).setCell (.inl (by simp)) _) ?_ rfl rfl rfl (setLen_wf h.wf)
  refine (Frm.heap_set w b _ _ _ _ _ h.row).trans ?_
  obtain ⟨x0, x1, x2, e⟩ := list3 h.wf.three
  obtain ⟨y0, y1, y2, e2⟩ := list3 h.wf.lens
  simp only [drCells, Dr.setLen, e, e2]
  match t, ht with
  | 0, _ => rfl
  | 1, _ => rfl
  | 2, _ => rfl
theorem DAtR.setFront {w : World} {b : Nat} {S : Sh} {D : Dr} {R : Nat → List Nat} {N : Nat} (h : DAtR w b S D R N) (z : Int) : DAtR (w.setCell ⟨b, 10, none⟩ (.int .i64 z)) b S { D with front := z } R N := by
  refine h.own_set ((Frm.Turn.refl [b] w).setCell (.inl (by simp)) _) ?_ rfl rfl rfl (front_wf h.wf)
  refine (Frm.heap_set w b _ _ _ _ _ h.row).trans ?_
  obtain ⟨x0, x1, x2, e⟩ := list3 h.wf.three
  obtain ⟨y0, y1, y2, e2⟩ := list3 h.wf.lens
  simp only [drCells, e, e2]
  rfl
theorem Aft.setLen {w w1 : World} {b : Nat} {S S1 : Sh} {D : Dr} {N : Nat} (h : Aft w b S D N S1 w1) {t : Nat} (ht : t ≤ 2) (z : Int) : Aft w b S (D.setLen t z) N S1 (w1.setCell ⟨b, 7 + t, none⟩ (.int .i64 z)) :=
  ⟨h.at_.setLen ht z, h.turn.setCell (h.new b (by simp [foot])) _, h.new⟩
theorem Aft.setFront {w w1 : World} {b : Nat} {S S1 : Sh} {D : Dr} {N : Nat} (h : Aft w b S D N S1 w1) (z : Int) : Aft w b S { D with front := z } N S1 (w1.setCell ⟨b, 10, none⟩ (.int .i64 z)) :=
  ⟨h.at_.setFront z, h.turn.setCell (h.new b (by simp [foot])) _, h.new⟩

/-! ### a tree that is empty -/
theorem bare_down {D : Dr} {tree : Nat} {key : Int} {N : Nat} (h : Wf D N) (ht : tree < 3) (h0 : D.at (none, tree) = ln0) : ∀ j, j ≤ 4 → ∀ p r, (D.downTo tree key j).2 = p :: r → (D.downTo tree key j).1.at p = ln0 := by
  intro j
  induction j with
  | zero =>
    intro _ p r e
    simp only [Dr.downTo, List.cons.injEq] at e
    rw [← e.1]
    exact h0
  | succ j ih =>
    intro hj p r e
    have hd := downTo_is (key := key) h ht j (by omega)
    obtain ⟨q, s, hq⟩ : ∃ q s, (D.downTo tree key j).2 = q :: s := by
      cases hv : (D.downTo tree key j).2 with
      | nil => have := hd.len; rw [hv] at this; cases this
      | cons q s => exact ⟨q, s, rfl⟩
    obtain ⟨e1, e2⟩ := downTo_next hq
    have hat := ih (by omega) q s hq
    rw [hq] at hd
    obtain ⟨hp, hl⟩ := way_cons hd.way
    rw [e2, List.cons.injEq] at e
    rw [e1, ← e.1]
    have hk : ((D.downTo tree key j).1.at q).k = none := by rw [hat]; rfl
    have hr := renew_is (lv := j) hk
    rw [hat] at hr
    have hlk : (D.downTo tree key j).1.linksOf ln0.w = noughts := by simp [Dr.linksOf, ln0]
    have hkid : ((D.downTo tree key j).1.renew q j).kidAt q = (D.downTo tree key j).1.made.length := by
      simp only [Dr.kidAt]
      rw [hr, Dr.at_put_same (grow_has hp)]
      rfl
    have hne : q ≠ (some (D.downTo tree key j).1.made.length, dig key j) := fun e => by
      rw [e] at hp
      have := hp.1
      omega
    rw [hkid, hr, Dr.at_put_other hne]
    simp only [Dr.at, grow_new, hlk]
    exact noughts_at _
theorem renews_bare {D : Dr} {tree : Nat} {key : Int} {N : Nat} (h : Wf D N) (hN : N ≤ 90000) (ht : tree < 3) (h0 : D.at (none, tree) = ln0) : Renews D N tree key := fun j hj p r e W b S hD => by
  have hat := bare_down (key := key) h ht h0 j (by omega) p r e
  have hd := downTo_is (key := key) h ht j (by omega)
  rw [e] at hd
  obtain ⟨hp, hl⟩ := way_cons hd.way
  exact renew_zero hD (by omega) hp (by rw [hat]; rfl) (by rw [hat]; rfl) j hl (by omega)
theorem find_bare {D : Dr} {tree : Nat} {key : Int} (h0 : D.at (none, tree) = ln0) : D.find tree key = (0, 0) := by
  have hb : ∀ d, D.below ln0 d = some ln0 := fun d => rfl
  unfold Dr.find
  rw [show D.tops.getD tree ln0 = ln0 from h0]
  simp only [Dr.findFrom, hb]
  rfl
/-- A tree whose topmost node isn't known. -/
theorem find_far {D : Dr} {tree : Nat} {key y : Int} (h0 : D.at (none, tree) = ⟨y, none⟩) (hy : y ≠ 0) (hk : D.know y = none) : D.find tree key = (0, y) := by
  have hb : ∀ d, D.below ⟨y, none⟩ d = none := fun d => by simp [Dr.below, hy, hk]
  unfold Dr.find
  rw [show D.tops.getD tree ln0 = ⟨y, none⟩ from h0]
  simp only [Dr.findFrom, hb]

/-! ### replacing -/
set_option maxRecDepth 10000 in
set_option maxHeartbeats 2000000 in
theorem replace_any {w : World} {b : Nat} {S : Sh} {D : Dr} {N : Nat} (h : DAt w b S D N) (tree : Nat) (ht : tree < 3) (key : Int) (hk0 : 0 ≤ key) (hk1 : key ≤ 255) (was now : Int) (hx : W64 now) (hw : was ≠ now → now ≠ 0 ∧ Renews D N tree key) :
    Calls Tryd.prog 58 #[.pointer (some ⟨b, 0, none⟩), .int .i64 tree, .int .i64 key, .int .u64 was, .int .u64 now] w fun e w' => e = .returned (.tuple #[]) ∧ ∃ S', Aft w b S (D.replace tree key was now) (N + 4) S' w' := by
  unfold Dr.replace
  by_cases e : was = now
  · rw [if_pos e]
    have t0 : (was != now) = false := by simpa using e
    have H := Lib.hid (h.mono (Nat.le_add_right N 4))
    clear h hw
    have HE := Lib.hid e
    clear e
    go_enter Tryd.func58, Tryd.ntmps58
    go_wp2
    go_end0
    exact ⟨rfl, S, Aft.refl H.out⟩
  · rw [if_neg e]
    have t0 : (was != now) = true := by simpa using e
    obtain ⟨h1, h2⟩ := hw e
    have HW := Lib.hid (write_new h tree ht key hk0 hk1 now hx h1 h2)
    clear h hw h1 h2
    go_enter Tryd.func58, Tryd.ntmps58
    go_wp2_with (go_at_call 68; (with_reducible refine (HW.out).mono ?_); rintro e w2 ⟨rfl, S2, hA⟩)
    go_end0
    exact ⟨rfl, S2, hA⟩

/-! ### an operation upon a key that has none -/
def resO : Obj := .cells #[.int .i64 0, .int .i64 0] 52
theorem does_none (c k a b : Int) (h0 : 0 ≤ a) (h1 : a ≤ 1023) (w : World) : Calls Tryd.prog 61 #[.agg #[.int .i64 c, .int .i64 k, .int .i64 a, .int .i64 b], .int .u64 0] w fun e w' => e = .returned (.tuple #[rv (1, 0), .int .u64 (if c = 5 ∨ c = 10 then a + 1 else 0)]) ∧ Frm.Turn [] w w' := by
  obtain ⟨x, hx⟩ : ∃ x, x = (if c = 5 ∨ c = 10 then a + 1 else 0) := ⟨_, rfl⟩
  have HN := Lib.hid (fun W => doesNew_any c k a b h0 h1 W)
  rw [← hx] at HN ⊢
  clear hx
  have T2 : Frm.Turn [] w ((w.alloc (.cells #[.int .i64 c, .int .i64 k, .int .i64 a, .int .i64 b] 44)).alloc resO) := ((Frm.Turn.refl [] w).alloc _).alloc _
  have hb : ((w.alloc (.cells #[.int .i64 c, .int .i64 k, .int .i64 a, .int .i64 b] 44)).alloc resO).heap[w.heap.size]? = some (.cells #[.int .i64 c, .int .i64 k, .int .i64 a, .int .i64 b] 44 (0, 0)) := ((Frm.Turn.refl [] _).alloc resO).keep (heap_alloc_new w _) (by simp)
  have hr : ((w.alloc (.cells #[.int .i64 c, .int .i64 k, .int .i64 a, .int .i64 b] 44)).alloc resO).heap[w.heap.size + 1]? = some (.cells #[.int .i64 0, .int .i64 0] 52 (0, 0)) := by
    have := heap_alloc_new (w.alloc (.cells #[.int .i64 c, .int .i64 k, .int .i64 a, .int .i64 b] 44)) resO
    rw [World.size_alloc] at this
    exact this
  unfold resO at T2 hb hr
  go_enter Tryd.func61, Tryd.ntmps61
  go_upto_region 2 with fail
  generalize hW : World.alloc (World.alloc _ _) _ = W2 at T2 hb hr ⊢
  clear hW
  have HT2 := Lib.hid T2
  have HR := Lib.hid hr
  have HK : Hid (∀ W, Frm.Turn [] W2 W → W.cell? ⟨w.heap.size, 0, none⟩ = some (.int .i64 c) ∧ W.cell? ⟨w.heap.size, 1, none⟩ = some (.int .i64 k) ∧ W.cell? ⟨w.heap.size, 2, none⟩ = some (.int .i64 a) ∧ W.cell? ⟨w.heap.size, 3, none⟩ = some (.int .i64 b)) := Lib.hid fun W hT => by
    have h := hT.keep hb (by simp)
    refine ⟨?_, ?_, ?_, ?_⟩ <;> simp [World.cell?, h]
  clear T2 hb hr
  have HTc := Lib.hid ((Frm.Turn.refl [] W2).drew)
  go_region_held3 (fun w' => w'.cell? ⟨w.heap.size, 0, none⟩ = some (.int .i64 c) ∧ w'.cell? ⟨w.heap.size, 1, none⟩ = some (.int .i64 k) ∧ w'.cell? ⟨w.heap.size, 2, none⟩ = some (.int .i64 a) ∧ w'.cell? ⟨w.heap.size, 3, none⟩ = some (.int .i64 b))
    (first | exact HK.out _ HTc.out | go_keep)
    (first
      | (go_at_call 38; (with_reducible refine (none_any _).mono ?_); rintro e w1 ⟨rfl, hT⟩; have HTc := Lib.hid (HTc.out.trans hT (by simp)); clear hT; obtain ⟨⟨n0, n1⟩, m0, m1⟩ := blk2 (HTc.out.keep HR.out (by simp)))
      | (go_at_call 69; (with_reducible refine (HN.out _).mono ?_); rintro e w1 ⟨rfl, hT⟩; have HTc := Lib.hid (HTc.out.trans hT (by simp)); clear hT; obtain ⟨⟨n0, n1⟩, m0, m1⟩ := blk2 (HTc.out.keep HR.out (by simp))))
  all_goals
    have hres := told_blk (HTc.out.keep HR.out (by simp)) (.int .i64 1) (.int .i64 0)
    have r := blk2 hres
    go_wp2
    exact bodyPost_ret (v := .tuple #[rv (1, 0), .int .u64 x]) (by simp [results, Tryd.results61, go_sem, r.1.1, r.1.2]) rfl ⟨rfl, (HT2.out.trans HTc.out (by simp)).setCell (p := ⟨w.heap.size + 1, 0, none⟩) (.inr (by simp)) _ |>.setCell (p := ⟨w.heap.size + 1, 1, none⟩) (.inr (by simp)) _⟩
end Drf
end Go.Proofs.YtjginajnegahdaaDoor
