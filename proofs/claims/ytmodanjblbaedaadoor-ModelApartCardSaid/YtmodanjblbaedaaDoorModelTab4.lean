/- A table's calls: floor, put. -/
import Derived.Test.YtmodanjblbaedaaDoorModelTab3
import Derived.LoopTactic
set_option linter.unusedVariables false
set_option linter.unusedSimpArgs false
namespace Go.Proofs.YtmodanjblbaedaaDoor
namespace Mdl
open Go.RowKit Go.Maps

theorem floorUp_vals {f : Tb} (h : TOk f) : ∀ n : Nat, ((floorUp f n).1 = 0 ∧ 0 ≤ (floorUp f n).2 ∧ (floorUp f n).2 ≤ 262143) ∨ floorUp f n = (1, 0)
  | 0 => Or.inr rfl
  | n + 1 => by
    unfold floorUp
    split
    · rename_i v e
      have := h.dom _ v e
      exact Or.inl ⟨rfl, by simp; omega, by simp; omega⟩
    · exact floorUp_vals h n

set_option maxHeartbeats 2000000 in
theorem floor_any {w : World} {p : Option Nat} {f : Tb} (h : TAt w p f) {k : Int} (hk : 0 ≤ k ∧ k ≤ 255) :
    Calls Tryd.prog 49 #[.map p, .int .i64 k] w fun e w' => e = .returned (rv (floorUp f (k.toNat + 1))) ∧ Frm.Turn [] w w' := by
  have HA := Lib.hid (fun W (hT : Frm.Turn [] w W) => h.step hT)
  have HT := Lib.hid (fun o => (Frm.Turn.refl [] w).alloc o)
  have HB := Lib.hid (res_new w)
  have HD := Lib.hid h.ok.dom
  obtain ⟨n, rfl⟩ : ∃ n : Nat, k = n := ⟨k.toNat, by omega⟩
  have hn : n ≤ 255 := by omega
  have en : ((n : Int)).toNat + 1 = n + 1 := by omega
  rw [en]
  clear h hk en
  go_enter Tryd.func49, Tryd.ntmps49
  go_wp2
  go_loopw [5] (fun i wr => ∃ j : Nat, j ≤ n + 1 ∧ i = .int .i64 ((j : Int) - 1) ∧ wr = w.alloc res0 ∧ floorUp f (n + 1) = floorUp f j) (fun i _ => (intOf i + 1).toNat)
  case atStart => exact ⟨n + 1, Nat.le_refl _, by congr 1; omega, rfl, rfl⟩
  case round =>
    obtain ⟨j, hj, rfl, rfl, hR⟩ := hrel
    have HR := Lib.hid hR
    clear hR
    cases j with
    | zero =>
      have hlt : decide (0 ≤ (((0 : Nat) : Int) - 1)) = false := by simp
      go_wp2_with (first
        | (go_at_call 29; (with_reducible refine (none_any _).mono ?_); rintro e w1 ⟨rfl, hT⟩; have hk := hT.keep HB.out (by simp); obtain ⟨⟨c0, c1⟩, f0, f1⟩ := blk2 hk; have HB1 := Lib.hid hk; clear hk; have HT1 := Lib.hid ((HT.out _).trans hT (by simp)); clear hT))
      have r := blk2 (told_blk HB1.out (.int .i64 1) (.int .i64 0))
      exact bodyPost_ret (v := rv (1, 0)) (by simp [results, Tryd.results49, go_sem, r.1.1, r.1.2]) rfl ⟨by rw [HR.out]; rfl, told HT1.out (Nat.le_refl _) _ _⟩
    | succ j =>
      have ej : ((j + 1 : Nat) : Int) - 1 = (j : Int) := by omega
      rw [ej]
      have hge : decide ((0 : Int) ≤ (j : Int)) = true := by simp
      have HJ := Lib.hid (show I64 (j : Int) by omega)
      cases e : f (j : Int) with
      | some v =>
        obtain ⟨_, _, v0, v1⟩ := HD.out _ v e
        have HE := Lib.hid e
        have hm : IntKind.i64.wrap ((j : Int) * 1024) = (j : Int) * 1024 := by simp [IntKind.wrap, IntKind.bits, IntKind.signed]; omega
        have hs : IntKind.i64.wrap ((j : Int) * 1024 + v) = (j : Int) * 1024 + v := by simp [IntKind.wrap, IntKind.bits, IntKind.signed]; omega
        clear e
        go_wp2_with (first
          | (at_lookup; refine wpList_look _ rfl _ _ rfl (HA.out _ (HT.out _)) HJ.out v true (by rw [HE.out]; rfl) (by rw [HE.out]; rfl) rfl rfl ?_)
          | (go_at_call 44; (with_reducible refine (done_any _ _).mono ?_); rintro e w1 ⟨rfl, hT⟩; have hk := hT.keep HB.out (by simp); obtain ⟨⟨c0, c1⟩, f0, f1⟩ := blk2 hk; have HB1 := Lib.hid hk; clear hk; have HT1 := Lib.hid ((HT.out _).trans hT (by simp)); clear hT))
        have r := blk2 (told_blk HB1.out (.int .i64 0) (.int .i64 ((j : Int) * 1024 + v)))
        exact bodyPost_ret (v := rv (0, (j : Int) * 1024 + v)) (by simp [results, Tryd.results49, go_sem, r.1.1, r.1.2]) rfl ⟨by rw [HR.out]; unfold floorUp; rw [HE.out], told HT1.out (Nat.le_refl _) _ _⟩
      | none =>
        have HE := Lib.hid e
        clear e
        go_wp2_with (first
          | (at_lookup; refine wpList_look _ rfl _ _ rfl (HA.out _ (HT.out _)) HJ.out 0 false (by rw [HE.out]; rfl) (by rw [HE.out]; rfl) rfl rfl ?_))
        go_roundw
        case rel => exact ⟨j, by omega, rfl, by first | rfl | trivial, by rw [HR.out]; conv => lhs; unfold floorUp; rw [HE.out]⟩
        case measure => simp [intOf]

/-- What a put leaves: the table under its pointer, which may be a new one where there was none. -/
structure PutEnd (w : World) (b off : Nat) (cur : Array Value) (ty : TypeId) (p : Option Nat) (z : Tb × Rs) (e : Ending) (w' : World) : Prop where
  ret : e = .returned (rv z.2)
  at_ : ∃ p', TAt w' p' z.1 ∧ (p' = p ∨ ∃ g, p' = some g ∧ w.heap.size ≤ g) ∧ w'.heap[b]? = some (.cells (cur.setIfInBounds off (.map p')) ty (0, 0))
  turn : Frm.Turn (b :: p.toList) w w'
theorem set_self {cur : Array Value} {off : Nat} {v : Value} (h : cur[off]? = some v) : cur.setIfInBounds off v = cur := by
  apply Array.ext_getElem?
  intro i
  rw [Array.getElem?_setIfInBounds]
  split
  · rename_i e
    subst e
    split
    · exact h.symm
    · rename_i hn
      rw [Array.getElem?_eq_none (by omega)] at h
      cases h
  · rfl

def putW (w1 : World) (b off : Nat) (x y : Int) : World := ((w1.setCell ⟨b, off, none⟩ (.map (some (w1.heap.size + 1)))).alloc (.cells #[.int .i64 x, .int .i64 y] 40)).alloc (.map #[] 0)
structure PutW (w1 : World) (b off b0 : Nat) (cur : Array Value) (ty : TypeId) (x y : Int) (W : World) : Prop where
  tab : TAt W (some (w1.heap.size + 1)) (fun _ => none)
  body : W.heap[b]? = some (.cells (cur.setIfInBounds off (.map (some (w1.heap.size + 1)))) ty (0, 0))
  had : W.heap[w1.heap.size]? = some (.cells #[.int .i64 x, .int .i64 y] 40 (0, 0))
  res : W.heap[b0]? = some (.cells #[.int .i64 0, .int .i64 0] 40 (0, 0))
  turn : Frm.Turn [b] w1 W
theorem put_w {w1 : World} {b off b0 : Nat} {cur : Array Value} {ty : TypeId} (hb : w1.heap[b]? = some (.cells cur ty (0, 0))) (h0 : w1.heap[b0]? = some (.cells #[.int .i64 0, .int .i64 0] 40 (0, 0))) (hne : b0 ≠ b) (x y : Int) : PutW w1 b off b0 cur ty x y (putW w1 b off x y) := by
  have T1 : Frm.Turn [b] w1 (w1.setCell ⟨b, off, none⟩ (.map (some (w1.heap.size + 1)))) := (Frm.Turn.refl _ _).setCell (Or.inl (by simp)) _
  have T2 : Frm.Turn [] (w1.setCell ⟨b, off, none⟩ (.map (some (w1.heap.size + 1)))) (putW w1 b off x y) := ((Frm.Turn.refl _ _).alloc _).alloc _
  have s1 : (w1.setCell ⟨b, off, none⟩ (.map (some (w1.heap.size + 1)))).heap.size = w1.heap.size := by simp
  refine ⟨?_, T2.keep (Frm.heap_set w1 b off _ _ _ _ hb) (by simp), ?_, T2.keep (T1.keep h0 (by simp; exact hne)) (by simp), T1.trans T2 (by simp)⟩
  · have := tat_made ((w1.setCell ⟨b, off, none⟩ (.map (some (w1.heap.size + 1)))).alloc (.cells #[.int .i64 x, .int .i64 y] 40))
    rw [World.size_alloc, s1] at this
    exact this
  · have := heap_alloc_new (w1.setCell ⟨b, off, none⟩ (.map (some (w1.heap.size + 1)))) (.cells #[.int .i64 x, .int .i64 y] 40)
    rw [s1] at this
    exact ((Frm.Turn.refl [] _).alloc _).keep this (by simp)

set_option maxHeartbeats 2000000 in
theorem put_any {w : World} {p : Option Nat} {f : Tb} (h : TAt w p f) {b off : Nat} {cur : Array Value} {ty : TypeId} (hb : w.heap[b]? = some (.cells cur ty (0, 0))) (hc : cur[off]? = some (.map p)) (hne : ∀ q, p = some q → q ≠ b) {k a : Int} (hk : 0 ≤ k ∧ k ≤ 255) (ha : 0 ≤ a ∧ a ≤ 1023) :
    Calls Tryd.prog 46 #[.pointer (some ⟨b, off, none⟩), .int .i64 k, .int .i64 a] w (PutEnd w b off cur ty p (upd f k (some a), get f k)) := by
  have hI : I64 k := by omega
  have hq := fun w => run_eql_map_nil_sl (P := Tryd.prog) w 57 _ _ p mapT'
  have hmm := @run_makeMap Tryd.prog
  have HG := Lib.hid (fun W (hT : Frm.Turn [] w W) => get_any (h.step hT) hI)
  have HA := Lib.hid (fun W (hT : Frm.Turn [] w W) => h.step hT)
  have HK := Lib.hid hk
  have HAA := Lib.hid ha
  have HT := Lib.hid (fun o => (Frm.Turn.refl [] w).alloc o)
  have HB := Lib.hid (res_new w)
  have HL := Lib.hid h.lt
  have HN := Lib.hid hne
  have HBB := Lib.hid hb
  have HC := Lib.hid hc
  have hbl : b < w.heap.size := (Array.getElem?_eq_some_iff.1 hb).1
  have HBL := Lib.hid hbl
  have c0 := (Frm.cell_row w b off _ _ _ hb).trans hc
  have HKN : Hid (∀ W, Frm.Turn [] w W → W.cell? ⟨b, off, none⟩ = some (.map p) ∧ W.frozen? ⟨b, off, none⟩ = false) := Lib.hid fun W hT => ⟨(Frm.cell_row W b off _ _ _ (hT.keep hb (by simp))).trans hc, Frm.frozen_row W b off _ _ (hT.keep hb (by simp))⟩
  clear hI hk ha hb hc hne
  cases p with
  | some q =>
    clear h hmm
    generalize get f k = r at HG ⊢
    obtain ⟨x, y⟩ := r
    go_enter Tryd.func46, Tryd.ntmps46
    go_wp2_with (first
      | (go_at_call 45; (with_reducible refine (HG.out _ (HT.out _)).mono ?_); rintro e w1 ⟨rfl, hT⟩; have HB1 := Lib.hid (hT.keep HB.out (by simp)); have HT1 := Lib.hid ((HT.out _).trans hT (by simp)); clear hT; obtain ⟨c1, c2⟩ := HKN.out _ HT1.out; have hbl1 : b < w1.heap.size := Nat.lt_of_lt_of_le HBL.out HT1.out.size)
      | (at_mapUpdate; refine wpList_store _ rfl _ _ _ rfl (HA.out _ (HT1.out.alloc _)) HK.out HAA.out rfl rfl rfl ?_; intro w2 hA2 hT2; obtain ⟨⟨d0, d1⟩, g0, g1⟩ := blk2 (hT2.keep (heap_alloc_new w1 _) (by simp; have := HL.out q rfl; have := HT1.out.size; omega)); have hk2 := hT2.keep (((Frm.Turn.refl [] w1).alloc _).keep HB1.out (by simp)) (by simp; have := HL.out q rfl; omega); obtain ⟨⟨e0, e1⟩, i0, i1⟩ := blk2 hk2; have HB2 := Lib.hid hk2; clear hk2; have HA2 := Lib.hid hA2; have HT2 := Lib.hid (((HT1.out.alloc _).mono (by simp)).trans hT2 (fun k hk => Or.inl hk)); clear hA2 hT2))
    have r := blk2 (told_blk HB2.out (.int .i64 x) (.int .i64 y))
    have hqb : q ≠ b := HN.out q rfl
    have hql : q < w.heap.size := HL.out q rfl
    have hT3 : Frm.Turn [w.heap.size] w2 ((w2.setCell ⟨w.heap.size, 0, none⟩ (.int .i64 x)).setCell ⟨w.heap.size, 1, none⟩ (.int .i64 y)) := ((Frm.Turn.refl _ _).setCell (Or.inl (by simp)) _).setCell (Or.inl (by simp)) _
    refine bodyPost_ret (v := rv (x, y)) (by simp [results, Tryd.results46, go_sem, r.1.1, r.1.2]) rfl ⟨rfl, ⟨some q, HA2.out.turn hT3 (fun z hz => by cases hz; simp; omega), Or.inl rfl, ?_⟩, ?_⟩
    · rw [set_self HC.out]
      exact hT3.keep (HT2.out.keep HBB.out (by simp; exact fun e => hqb e.symm)) (by simp; have := HBL.out; omega)
    · exact ((HT2.out.mono (by simp)).setCell (Or.inr (Nat.le_refl _)) _).setCell (Or.inr (Nat.le_refl _)) _
  | none =>
    have hf : f = fun _ => none := h.nil_none
    subst hf
    clear h
    generalize get (fun _ => none) k = r at HG ⊢
    obtain ⟨x, y⟩ := r
    go_enter Tryd.func46, Tryd.ntmps46
    go_wp2_with (first
      | (go_at_call 45; (with_reducible refine (HG.out _ (HT.out _)).mono ?_); rintro e w1 ⟨rfl, hT⟩; have HB1 := Lib.hid (hT.keep HB.out (by simp)); have HT1 := Lib.hid ((HT.out _).trans hT (by simp)); clear hT; obtain ⟨c1, c2⟩ := HKN.out _ HT1.out; have hbl1 : b < w1.heap.size := Nat.lt_of_lt_of_le HBL.out HT1.out.size; have HW := Lib.hid (put_w (off := off) (HT1.out.keep HBB.out (by simp)) HB1.out (fun e => by have := HBL.out; omega) x y))
      | (at_mapUpdate; refine wpList_store _ rfl _ _ _ rfl (HW.out.tab) HK.out HAA.out rfl rfl rfl ?_; intro w2 hA2 hT2; obtain ⟨⟨d0, d1⟩, g0, g1⟩ := blk2 (hT2.keep HW.out.had (by simp)); have hk2 := hT2.keep HW.out.res (by simp; have := HT1.out.size; omega); obtain ⟨⟨e0, e1⟩, i0, i1⟩ := blk2 hk2; have HB2 := Lib.hid hk2; clear hk2; have HA2 := Lib.hid hA2; have HT2 := Lib.hid hT2; clear hA2 hT2))
    have r := blk2 (told_blk HB2.out (.int .i64 x) (.int .i64 y))
    have hbl0 := HBL.out
    have hs1 := HT1.out.size
    have hT3 : Frm.Turn [w.heap.size] w2 ((w2.setCell ⟨w.heap.size, 0, none⟩ (.int .i64 x)).setCell ⟨w.heap.size, 1, none⟩ (.int .i64 y)) := ((Frm.Turn.refl _ _).setCell (Or.inl (by simp)) _).setCell (Or.inl (by simp)) _
    have hTa : Frm.Turn [b] w w2 := ((HT1.out.mono (by simp)).trans HW.out.turn (fun k hk => Or.inl hk)).trans HT2.out (fun k hk => by simp at hk; right; omega)
    refine bodyPost_ret (v := rv (x, y)) (by simp [results, Tryd.results46, go_sem, r.1.1, r.1.2]) rfl ⟨rfl, ⟨some (w1.heap.size + 1), HA2.out.turn hT3 (fun z hz => by cases hz; simp; omega), Or.inr ⟨_, rfl, by omega⟩, ?_⟩, ?_⟩
    · exact hT3.keep (HT2.out.keep HW.out.body (by simp; omega)) (by simp; omega)
    · exact ((hTa.mono (by simp)).setCell (Or.inr (Nat.le_refl _)) _).setCell (Or.inr (Nat.le_refl _)) _
end Mdl
end Go.Proofs.YtmodanjblbaedaaDoor
