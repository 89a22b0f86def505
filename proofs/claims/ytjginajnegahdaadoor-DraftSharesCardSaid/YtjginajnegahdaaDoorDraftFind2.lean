/- Finding a key. -/
import Derived.Test.YtjginajnegahdaaDoorDraftFind
import Derived.Deep.Cut
import Derived.Deep.CutRange
set_option linter.unusedVariables false
set_option linter.unusedSimpArgs false
namespace Go.Proofs.YtjginajnegahdaaDoor
namespace Drf
open Go.RowKit Go.Maps

structure FindRel (w : World) (b g : Nat) (S : Sh) (D : Dr) (N tree : Nat) (key : Int) (j : Nat) (a : Ln) (wr : World) : Prop where
  at_ : DAt w b S D N
  ok : LnOk D a
  eq : D.find tree key = D.findFrom key (4 - j) j a
  blk : wr.heap[g]? = some (.cells #[.int .u64 a.w, ptrV S.B a.k] 85 (0, 0))
  turn : Frm.Turn [] w wr
  new : w.heap.size ≤ g
theorem find_none {D : Dr} {tree j : Nat} {key : Int} {a : Ln} (he : D.find tree key = D.findFrom key (4 - j) j a) (hj : j < 4) (hs : false = (D.below a (dig key j)).isSome) : D.find tree key = (0, a.w) := by
  obtain ⟨m, hm⟩ : ∃ m, 4 - j = m + 1 := ⟨3 - j, by omega⟩
  have hb : D.below a (dig key j) = none := by
    cases h : D.below a (dig key j) with
    | none => rfl
    | some _ => rw [h] at hs; cases hs
  rw [he, hm]
  simp only [Dr.findFrom, hb]
theorem find_some {D : Dr} {N tree j : Nat} {key : Int} {a x : Ln} (hw : Wf D N) (ha : LnOk D a) (he : D.find tree key = D.findFrom key (4 - j) j a) (hj : j < 4) (hs : true = (D.below a (dig key j)).isSome) (hx : x = (D.below a (dig key j)).getD ln0) :
    LnOk D x ∧ D.find tree key = D.findFrom key (4 - (j + 1)) (j + 1) x := by
  obtain ⟨y, hy⟩ := Option.isSome_iff_exists.1 hs.symm
  rw [hy] at hx
  simp only [Option.getD_some] at hx
  subst hx
  obtain ⟨m, hm⟩ : ∃ m, 4 - j = m + 1 := ⟨3 - j, by omega⟩
  refine ⟨lnok_below hw ha hy, ?_⟩
  rw [he, hm, show 4 - (j + 1) = m by omega]
  simp only [Dr.findFrom, hy]
set_option maxRecDepth 100000 in
set_option maxHeartbeats 4000000 in
theorem find_any {w : World} {b : Nat} {S : Sh} {D : Dr} {N : Nat} (h : DAt w b S D N) (tree : Nat) (ht : tree < 3) (key : Int) (hk0 : 0 ≤ key) (hk1 : key ≤ 255) :
    Calls Tryd.prog 57 #[.pointer (some ⟨b, 0, none⟩), .int .i64 tree, .int .i64 key] w fun e w' => e = .returned (.tuple #[.int .u64 (D.find tree key).1, .int .u64 (D.find tree key).2]) ∧ Frm.Turn [] w w' := by
  have hbl := h.lt b (by simp [foot])
  have hp : D.Has (none, tree) := by show tree < D.tops.length; rw [h.wf.three]; exact ht
  obtain ⟨⟨c0, c1⟩, f0, f1⟩ := h.link hp
  simp only [adr, adr1, ptrV] at c0 c1 f0 f1
  rw [show 1 + 2 * tree = 1 + tree * 2 by omega] at c0 f0
  rw [show 2 + 2 * tree = 1 + tree * 2 + 1 by omega] at c1 f1
  obtain ⟨y, hy⟩ : ∃ y, y = D.at (none, tree) := ⟨_, rfl⟩
  obtain ⟨v, hv⟩ : ∃ v, v = ptrA S.B y.k := ⟨_, rfl⟩
  rw [← hy] at c0 c1
  rw [← hv] at c1
  have HB := Lib.hid (heap_alloc_new w (.cells #[.int .u64 y.w, .pointer v] 85))
  have HR : Hid (FindRel w b w.heap.size S D N tree key 0 y (w.alloc (.cells #[.int .u64 y.w, .pointer v] 85))) := Lib.hid ⟨h, by rw [hy]; exact lnok_top h.wf _, by rw [hy]; rfl, by rw [HB.out, hv]; rfl, (Frm.Turn.refl [] w).alloc _, Nat.le_refl _⟩
  have t0 : (0 : Int) ≤ tree := by omega
  have t1 : (tree : Int) < 3 := by omega
  clear h hp hy hv HB
  go_enter Tryd.func57, Tryd.ntmps57
  go_wp2
  obtain ⟨g, HG⟩ : ∃ g, Hid (g = w.heap.size) := ⟨_, Lib.hid rfl⟩
  rw [← HG.out] at HR ⊢
  obtain ⟨W0, HW0⟩ : ∃ W0, Hid (W0 = w.alloc (.cells #[.int .u64 y.w, .pointer v] 85)) := ⟨_, Lib.hid rfl⟩
  rw [← HW0.out] at HR ⊢
  clear c0 c1 f0 f1
  go_loopw [18] (fun i wr => ∃ j : Nat, j ≤ 4 ∧ i = .int .i64 j ∧ ∃ a : Ln, FindRel w b g S D N tree key j a wr) (fun i _ => 4 - (intOf i).toNat)
  case atStart => exact ⟨0, by omega, rfl, y, HR.out⟩
  case round =>
    obtain ⟨j, hj, rfl, a, hF⟩ := hrel
    by_cases hlt : j < 4
    · have r := blk2 hF.blk
      obtain ⟨⟨c0, c1⟩, f0, f1⟩ := r
      obtain ⟨q, hq⟩ : ∃ q, q = ptrA S.B a.k := ⟨_, rfl⟩
      simp only [ptrV, ← hq] at c0 c1
      have hgl := World.block_lt_of_cell? wr _ c0
      simp only at hgl
      have HK : Hid (∀ W, Frm.Turn [] wr W → W.cell? ⟨g, 0, none⟩ = some (.int .u64 a.w) ∧ W.cell? ⟨g, 1, none⟩ = some (.pointer q)) := Lib.hid fun W hT => ⟨hT.cell c0 (by simp), hT.cell c1 (by simp)⟩
      have HD := Lib.hid (fun W => dig_any key j hk0 hk1 (by omega) W)
      obtain ⟨x, hx⟩ : ∃ x, x = (D.below a (dig key j)).getD ln0 := ⟨_, rfl⟩
      obtain ⟨s, hs⟩ : ∃ s, s = (D.below a (dig key j)).isSome := ⟨_, rfl⟩
      obtain ⟨p, hpp⟩ : ∃ p, p = ptrA S.B x.k := ⟨_, rfl⟩
      have HBL : Hid (∀ W, Frm.Turn [] wr W → Calls Tryd.prog 66 #[.pointer (some ⟨b, 0, none⟩), .agg #[.int .u64 a.w, .pointer q], .int .i64 (dig key j : Nat)] W fun e w' => e = .returned (.tuple #[.agg #[.int .u64 x.w, .pointer p], .bool s]) ∧ Frm.Turn [] W w') := Lib.hid fun W hT => by
        have := below_any ((hF.at_.step hF.turn).step hT) a hF.ok (dig key j) (dig_lt _ _)
        simp only [lnV, ptrV, ← hq] at this
        exact this.mono fun e w' h => by simpa only [BelowEnd, lnV, ptrV, ← hx, ← hs, ← hpp] using h
      have HX := Lib.hid hx
      have HS := Lib.hid hs
      have HP := Lib.hid hpp
      clear hx hs hpp
      have HF := Lib.hid hF
      have HQ := Lib.hid hq
      clear hF hq
      go_upto_region 5 with fail
      go_region_held3 (fun w' => w'.cell? ⟨g, 0, none⟩ = some (.int .u64 a.w) ∧ w'.cell? ⟨g, 1, none⟩ = some (.pointer q))
        (first
          | exact HK.out _ HT1.out
          | exact HK.out _ (HT1.out.alloc _)
          | exact HK.out _ ((HT1.out.setCell (Or.inr (Nat.le_refl _)) _).setCell (Or.inr (Nat.le_refl _)) _)
          | exact HK.out _ (Frm.Turn.refl [] wr).drew
          | exact HK.out _ ((Frm.Turn.refl [] wr).alloc _).drew
          | go_keep)
        (first
          | (go_at_call 67; (with_reducible refine (HD.out _).mono ?_); rintro e w1 ⟨rfl, rfl⟩)
          | (go_at_call 66; (with_reducible refine (HBL.out _ (Frm.Turn.refl [] wr).drew).mono ?_); rintro e w1 ⟨rfl, hT⟩; have HT1 := Lib.hid (((Frm.Turn.refl [] wr).drew).trans hT (by simp)); clear hT)
          | (go_at_call 66; (with_reducible refine (HBL.out _ ((Frm.Turn.refl [] wr).alloc _).drew).mono ?_); rintro e w1 ⟨rfl, hT⟩; obtain ⟨⟨n0, n1⟩, m0, m1⟩ := blk2 (hT.keep (show (wr.alloc lnO).drew.heap[wr.heap.size]? = some (.cells #[.int .u64 0, .pointer none] 85 (0, 0)) from heap_alloc_new wr lnO) (by simp)); have HB1 := Lib.hid (hT.keep (show (wr.alloc lnO).drew.heap[wr.heap.size]? = some (.cells #[.int .u64 0, .pointer none] 85 (0, 0)) from heap_alloc_new wr lnO) (by simp)); have HT1 := Lib.hid ((((Frm.Turn.refl [] wr).alloc _).drew).trans hT (by simp)); clear hT))
      all_goals
        first
          | (have hn := told_blk HB1.out (.int .u64 x.w) (.pointer p)
             have hT9 := (HT1.out.setCell (p := ⟨wr.heap.size, 0, none⟩) (Or.inr (Nat.le_refl _)) (.int .u64 x.w)).setCell (p := ⟨wr.heap.size, 1, none⟩) (Or.inr (Nat.le_refl _)) (.pointer p)
             clear n0 n1 m0 m1)
          | (have hn := heap_alloc_new w1 (.cells #[.int .u64 x.w, .pointer p] 85)
             have hT9 := HT1.out.alloc (.cells #[.int .u64 x.w, .pointer p] 85))
        obtain ⟨d0, d1⟩ := HK.out _ hT9
        have hg9 := hT9.keep HF.out.blk (by simp)
        obtain ⟨-, e0, e1⟩ := blk2 hg9
        obtain ⟨⟨n0, n1⟩, -⟩ := blk2 hn
        have hg8 := World.block_lt_of_cell? _ _ d0
        have hn8 := World.block_lt_of_cell? _ _ n0
        simp only at hg8 hn8
        have HN := Lib.hid hg9
        have HT9 := Lib.hid hT9
        clear hg9 hn hT9 c0 c1 f0 f1
        cases s with
        | false =>
          have hE : Hid (D.find tree key = (0, a.w)) := Lib.hid (find_none HF.out.eq hlt HS.out)
          go_wp2
          go_region
          all_goals go_wp2
          all_goals exact bodyPost_ret (v := .tuple #[.int .u64 0, .int .u64 a.w]) (by simp [results, Tryd.results57]) rfl ⟨by rw [hE.out], (HF.out.turn.trans HT9.out (by simp)).drewN _⟩
        | true =>
          have hE : Hid (LnOk D x ∧ D.find tree key = D.findFrom key (4 - (j + 1)) (j + 1) x) := Lib.hid (find_some HF.out.at_.wf HF.out.ok HF.out.eq hlt HS.out HX.out)
          go_wp2
          refine ⟨⟨j + 1, by omega, by simp, x, ?_⟩, ?_⟩
          · exact ⟨HF.out.at_, hE.out.1, hE.out.2, by rw [show ptrV S.B x.k = .pointer p by rw [HP.out]; rfl]; exact told_blk HN.out _ _, ((HF.out.turn.trans HT9.out (by simp)).setCell (.inr HF.out.new) _).setCell (.inr HF.out.new) _, HF.out.new⟩
          · simp [intOf]; omega
    · obtain rfl : j = 4 := by omega
      obtain ⟨⟨c0, c1⟩, f0, f1⟩ := blk2 hF.blk
      have hE : Hid (D.find tree key = (a.w, 0)) := Lib.hid hF.eq
      have HT9 := Lib.hid hF.turn
      clear hF
      go_wp2
      exact bodyPost_ret (v := .tuple #[.int .u64 a.w, .int .u64 0]) (by simp [results, Tryd.results57]) rfl ⟨by rw [hE.out], HT9.out⟩
end Drf
end Go.Proofs.YtjginajnegahdaaDoor
