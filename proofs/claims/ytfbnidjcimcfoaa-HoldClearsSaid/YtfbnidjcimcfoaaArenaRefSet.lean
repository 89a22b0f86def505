/- The document's Set: a word that there is. -/
import Derived.Test.YtfbnidjcimcfoaaArenaRefRead
import Derived.Deep.AppendLies
import Derived.Laws.OwnMore
set_option linter.unusedVariables false
set_option linter.unusedSimpArgs false
namespace Go.Proofs.Ytfbnidjcimcfoaa
namespace Arn
open Go.RowKit Hp Go.Maps

theorem fix_set (A : Ar) (f0 f1 f2 f3 f4 f5 f6 f7 f8 : Int) (lv : Value) (x : Int) (m : Nat) (hm : m < 9) : ∃ g0 g1 g2 g3 g4 g5 g6 g7 g8 : Int, [g0, g1, g2, g3, g4, g5, g6, g7, g8] = [f0, f1, f2, f3, f4, f5, f6, f7, f8].set m x ∧ (refCells A f0 f1 f2 f3 f4 f5 f6 f7 f8 lv).setIfInBounds (4 + m) (.int .u64 x) = refCells A g0 g1 g2 g3 g4 g5 g6 g7 g8 lv := by
  match m, hm with
  | 0, _ => exact ⟨x, f1, f2, f3, f4, f5, f6, f7, f8, rfl, by simp [refCells]⟩
  | 1, _ => exact ⟨f0, x, f2, f3, f4, f5, f6, f7, f8, rfl, by simp [refCells]⟩
  | 2, _ => exact ⟨f0, f1, x, f3, f4, f5, f6, f7, f8, rfl, by simp [refCells]⟩
  | 3, _ => exact ⟨f0, f1, f2, x, f4, f5, f6, f7, f8, rfl, by simp [refCells]⟩
  | 4, _ => exact ⟨f0, f1, f2, f3, x, f5, f6, f7, f8, rfl, by simp [refCells]⟩
  | 5, _ => exact ⟨f0, f1, f2, f3, f4, x, f6, f7, f8, rfl, by simp [refCells]⟩
  | 6, _ => exact ⟨f0, f1, f2, f3, f4, f5, x, f7, f8, rfl, by simp [refCells]⟩
  | 7, _ => exact ⟨f0, f1, f2, f3, f4, f5, f6, x, f8, rfl, by simp [refCells]⟩
  | 8, _ => exact ⟨f0, f1, f2, f3, f4, f5, f6, f7, x, rfl, by simp [refCells]⟩
theorem rbCells_set : ∀ (l : List RB) (j : Nat) (y z : RB), l[j]? = some y → z.1.h = y.1.h → rbCells (l.set j z) = (rbCells l).set (j * 2 + 1) z.2 := by
  intro l
  induction l with
  | nil => intro j y z h; simp at h
  | cons a t ih =>
    intro j y z h e
    cases j with
    | zero => simp at h; subst h; simp [rbCells, e]
    | succ j =>
      simp at h
      have := ih j y z h e
      have e2 : (j + 1) * 2 + 1 = (j * 2 + 1) + 2 := by omega
      rw [e2]
      simpa [rbCells] using this
theorem u64s_set (ws : List Int) (m : Nat) (x : Int) : u64s (ws.set m x) = (u64s ws).set m (.int .u64 x) := by simp [u64s, List.map_set]
theorem setW_place {A : Ar} (hok : A.Ok) {j : Nat} {b : Blk} (hx : A.L[j]? = some b) (m : Nat) (x : Int) : setW A.L b.h m x = A.L.set j { b with ws := b.ws.set m x } := by
  apply List.ext_getElem?
  intro i
  unfold setW
  rw [List.getElem?_map, List.getElem?_set]
  have hjl : j < A.L.length := (List.getElem?_eq_some_iff.1 hx).1
  by_cases hij : j = i
  · subst hij
    rw [if_pos rfl, if_pos hjl, hx]
    simp
  · rw [if_neg hij]
    cases hi : A.L[i]? with
    | none => rfl
    | some y =>
      have hne : y.h ≠ b.h := fun e => by
        have := hok.h_inj (List.mem_of_getElem? hi) (List.mem_of_getElem? hx) e
        subst this
        rcases Nat.lt_trichotomy i j with e1 | e1 | e1
        · have := rise_get hok.rise hi hx e1; omega
        · exact hij e1.symm
        · have := rise_get hok.rise hx hi e1; omega
      simp [hne]
theorem wp_append_fresh {P : Program} (w : World) {o : Oper} {a : Act} {K : Act → World → Prop} {Q : Exit → Act → World → Prop} (s x : Operand) (t : TypeId)
    (ho : o.op = .call { callee := .builtin .append, args := #[s, x], argTypes := #[t, t] })
    (e : TypeId) (i : TypeInfo) (z : Value) (size bytes : Nat) (ht : P.underlying t = some (.slice e)) (hi : P.info? e = some i) (hz : i.zero = some z)
    (hsize : i.size = size) (hby : i.bytes = bytes) (hzs : z.cells.size = size) (hsz : 0 < size)
    (v : Value) (hs : a.eval s = v) (hown : w.ownsRow 0 e size v 0 [])
    (ad : Addr) (m c : Nat) (news : List Value) (hx : a.eval x = .slice (some ad) m c) (hl : news.length = m * size) (hnews : ∀ j u, news[j]? = some u → w.cell? (ad.add j) = some u) (h1 : ∀ u ∈ news, u.oneCell' = true)
    (hm : 0 < m) (h63 : m ≤ maxLen) (hbytes : m * bytes ≤ 140737488355328)
    (h : ∀ g cap w', w'.ownsRow 0 e size (.slice (some ⟨g, 0, none⟩) m cap) m news → w.grownBy w' v.ownBlock → (v.ownBlock = some g ∨ g = w.heap.size) → g < w'.heap.size → K (a.put o.dst (.slice (some ⟨g, 0, none⟩) m cap)) w') : o.wp P a w K Q := by
  refine wp_append_lies w s x t ho 0 e i z size bytes ht hi hz hsize hby hzs hsz v 0 [] hs hown ad m c news hx hl hnews h1 hm (by omega) (by rw [Nat.zero_add]; exact hbytes) (Nat.zero_le _) _ rfl (fun g cap w' h1 h2 h3 h4 => ?_)
  rw [Nat.zero_add] at h1 ⊢
  exact h g cap w' h1 h2 h3 h4
set_option maxRecDepth 100000 in
set_option maxHeartbeats 4000000 in
theorem refSet_fix (A : Ar) (f0 f1 f2 f3 f4 f5 f6 f7 f8 : Int) (v : Value) (l : List RB) (w : World) (h : BlksAt w v l) (hl : l.length ≤ 70000) (blk i x : Int) (hz : blk = 0) (hi0 : 0 ≤ i) (hi1 : i < 9) :
    Calls Try.prog 49 #[.agg (refCells A f0 f1 f2 f3 f4 f5 f6 f7 f8 v), .agg #[.int .u64 blk, .int .i64 i], .int .u64 x] w fun e w' => e = .returned (.agg ((refCells A f0 f1 f2 f3 f4 f5 f6 f7 f8 v).setIfInBounds (4 + i.toNat) (.int .u64 x))) ∧ Frm.Turn [] w w' := by
  obtain ⟨va, vc, rfl⟩ := h.form
  obtain ⟨fs, hfs⟩ := struct_of under_refA
  obtain ⟨q, HQ⟩ : ∃ q, Hid (q = l.length) := ⟨_, Lib.hid rfl⟩
  rw [← HQ.out] at ⊢
  obtain ⟨CS, HCS⟩ : ∃ CS, Hid (CS = refCells A f0 f1 f2 f3 f4 f5 f6 f7 f8 (.slice va q vc)) := ⟨_, Lib.hid rfl⟩
  have HSZCS : Hid (CS.size = 20) := Lib.hid (by rw [HCS.out]; rfl)
  have HONECS : Hid (CS.all (·.oneCell') = true) := Lib.hid (by rw [HCS.out]; exact refCells_one _ _ _ _ _ _ _ _ _ _ _ _ _)
  have HFS := Lib.hid hfs
  rw [show refCells A f0 f1 f2 f3 f4 f5 f6 f7 f8 (.slice va q vc) = CS from HCS.out.symm]
  clear h hfs hl
  have hb0 : (blk != 0) = false := by simp [hz]
  have hb1 : (blk == 0) = true := by simp [hz]
  clear hz
  go_enter Try.func49, Try.ntmps49
  go_upto_region 1 with fail
  obtain ⟨hin, hbq⟩ := RefIn.start3 w CS #[.int .u64 blk, .int .i64 i] #[.int .i64 0, .int .i64 0, .int .i64 0, .int .i64 0, .int .u64 0, .int .u64 0, .int .u64 0, .int .u64 0, .int .u64 0, .int .u64 0, .int .u64 0, .int .u64 0, .int .u64 0, .slice none 0 0, .int .i64 0, .int .i64 0, .int .i64 0, .int .i64 0, .int .i64 0, .int .i64 0] rfl
  obtain ⟨bx, Hx⟩ : ∃ bx, Hid (bx = w.heap.size) := ⟨_, Lib.hid rfl⟩
  obtain ⟨bq, Hq⟩ : ∃ bq, Hid (bq = w.heap.size + 1) := ⟨_, Lib.hid rfl⟩
  obtain ⟨bz, Hz⟩ : ∃ bz, Hid (bz = w.heap.size + 2) := ⟨_, Lib.hid rfl⟩
  rw [← Hz.out, ← Hx.out] at hin
  rw [← Hq.out] at hbq
  rw [← Hz.out, ← Hq.out, ← Hx.out]
  generalize ((w.alloc (.cells CS 32)).alloc _).alloc _ = W1 at hin hbq ⊢
  have HIN := Lib.hid hin
  have HT1 := Lib.hid hin.turn
  have HBQ := Lib.hid hbq
  have a0 : W1.cell? ⟨bq, 0, none⟩ = some (.int .u64 blk) := Frm.cell_row _ _ _ _ _ _ hbq
  have a1 : W1.cell? ⟨bq, 1, none⟩ = some (.int .i64 i) := Frm.cell_row _ _ _ _ _ _ hbq
  clear hin hbq
  have c4 : W1.cell? ⟨bx, 4 + i.toNat, none⟩ = some (.int .u64 ([f0, f1, f2, f3, f4, f5, f6, f7, f8].getD i.toNat 0)) := by
    rw [HIN.out.cell, HCS.out]
    exact fix_cell A f0 f1 f2 f3 f4 f5 f6 f7 f8 _ _ _ (word_at (by simp; omega))
  have fr4 := HIN.out.thaw (4 + i.toNat)
  go_upto_region 3 with fail
  have hin4 := HIN.out.set (4 + i.toNat) (.int .u64 x)
  generalize W1.setCell ⟨bx, 4 + i.toNat, none⟩ (.int .u64 x) = W4 at hin4 ⊢
  obtain ⟨C4, HC4⟩ : ∃ C, Hid (C = CS.setIfInBounds (4 + i.toNat) (.int .u64 x)) := ⟨_, Lib.hid rfl⟩
  have HSZC4 : Hid (C4.size = 20) := Lib.hid (by rw [HC4.out]; simpa using HSZCS.out)
  have HONEC4 : Hid (C4.all (·.oneCell') = true) := Lib.hid (by
    obtain ⟨g0, g1, g2, g3, g4, g5, g6, g7, g8, _, h2⟩ := fix_set A f0 f1 f2 f3 f4 f5 f6 f7 f8 (.slice va q vc) x i.toNat (by omega)
    rw [HC4.out, HCS.out, h2]; exact refCells_one _ _ _ _ _ _ _ _ _ _ _ _ _)
  rw [← HC4.out] at hin4
  obtain ⟨Z, z1, z2⟩ := hin4.res
  have HZ1 := Lib.hid z1
  have HZ2 := Lib.hid z2
  have hld := hin4.told HSZC4.out HFS.out
  have HIN4 := Lib.hid hin4
  clear hin4 z1 z2 c4 fr4
  go_wp2_with (first
    | (refine wpList_load_row rfl 32 (.tmp 3) rfl bx rfl 32 C4 (0, 0) (.struct fs) HIN4.out.own HFS.out rfl (by rw [HSZC4.out]; exact info_refA) ?_)
    | (refine wpList_store_row rfl 32 (.tmp 6) (.tmp 16) rfl bz C4 rfl rfl 32 Z HZ2.out (by rw [HSZC4.out]; exact info_refA) (by rw [HZ1.out, HSZC4.out]) HONEC4.out ?_))
  exact bodyPost_ret (v := .agg C4) (by simp [results, Try.results49, asAddr, hld, Act.put]) rfl ⟨by rw [HC4.out], HIN4.out.end_⟩
/-- Where Set of a block's word stands once both rows are copied. -/
structure SetMid (w : World) (bx bz bq b4 cp4 q n : Nat) (blk i : Int) (j : Nat) (C4 : Array Value) (xs ys : List Value) (Wa W : World) (b5 cp5 : Nat) : Prop where
  rin : RefIn w bx bz C4 W
  box : W.heap[bq]? = some (.cells #[.int .u64 blk, .int .i64 i] 42 (0, 0))
  r4 : W.ownsRow 0 99 2 (.slice (some ⟨b4, 0, none⟩) q cp4) q (xs.set (j * 2 + 1) (.slice (some ⟨b5, 0, none⟩) n cp5))
  r5 : W.ownsRow 0 26 1 (.slice (some ⟨b5, 0, none⟩) n cp5) n ys
  n5 : Wa.heap.size ≤ b5
  l5 : b5 < W.heap.size
set_option maxRecDepth 100000 in
set_option maxHeartbeats 4000000 in
theorem refSet_blk (A : Ar) (f0 f1 f2 f3 f4 f5 f6 f7 f8 : Int) (v : Value) (l : List RB) (w : World) (h : BlksAt w v l) (hl : l.length ≤ 70000) (blk i x : Int) (hne : blk ≠ 0) (j : Nat) (y : RB) (hy : l[j]? = some y) (hyk : y.1.h = blk) (hu : ∀ i z, l[i]? = some z → z.1.h = blk → i = j) (hi0 : 0 ≤ i) (hi1 : i < (y.1.ws.length : Int)) (hlen : y.1.ws.length ≤ 70000) :
    Calls Try.prog 49 #[.agg (refCells A f0 f1 f2 f3 f4 f5 f6 f7 f8 v), .agg #[.int .u64 blk, .int .i64 i], .int .u64 x] w fun e w' => ∃ v' v5, e = .returned (.agg (refCells A f0 f1 f2 f3 f4 f5 f6 f7 f8 v')) ∧ BlksAt w' v' (l.set j (⟨y.1.h, y.1.ws.set i.toNat x⟩, v5)) ∧ Frm.Turn [] w w' ∧ (∀ k, v'.ownBlock = some k → w.heap.size ≤ k ∧ k < w'.heap.size) ∧ ∀ k, v5.ownBlock = some k → w.heap.size ≤ k ∧ k < w'.heap.size := by
  obtain ⟨va, vc, rfl⟩ := h.form
  obtain ⟨fs, hfs⟩ := struct_of under_refA
  have HB := Lib.hid h
  have HY := Lib.hid hy
  have HYK := Lib.hid hyk
  have HAT := Lib.hid (fun W (hT : Frm.Turn [] w W) => refAt_yes A f0 f1 f2 f3 f4 f5 f6 f7 f8 _ l W (h.step hT) hl blk j y hy hyk hu)
  have hjq : j < l.length := (List.getElem?_eq_some_iff.1 hy).1
  obtain ⟨q, HQ⟩ : ∃ q, Hid (q = l.length) := ⟨_, Lib.hid rfl⟩
  rw [← HQ.out] at HAT hjq hl ⊢
  obtain ⟨CS, HCS⟩ : ∃ CS, Hid (CS = refCells A f0 f1 f2 f3 f4 f5 f6 f7 f8 (.slice va q vc)) := ⟨_, Lib.hid rfl⟩
  have HSZCS : Hid (CS.size = 20) := Lib.hid (by rw [HCS.out]; rfl)
  have HONECS : Hid (CS.all (·.oneCell') = true) := Lib.hid (by rw [HCS.out]; exact refCells_one _ _ _ _ _ _ _ _ _ _ _ _ _)
  have HFS := Lib.hid hfs
  rw [show refCells A f0 f1 f2 f3 f4 f5 f6 f7 f8 (.slice va q vc) = CS from HCS.out.symm]
  rw [← HCS.out] at HAT
  clear hy hyk hu
  clear h hfs
  have hb0 : (blk != 0) = true := by simpa using hne
  have hb1 : (blk == 0) = false := by simpa using hne
  go_enter Try.func49, Try.ntmps49
  go_upto_region 1 with fail
  obtain ⟨hin, hbq⟩ := RefIn.start3 w CS #[.int .u64 blk, .int .i64 i] #[.int .i64 0, .int .i64 0, .int .i64 0, .int .i64 0, .int .u64 0, .int .u64 0, .int .u64 0, .int .u64 0, .int .u64 0, .int .u64 0, .int .u64 0, .int .u64 0, .int .u64 0, .slice none 0 0, .int .i64 0, .int .i64 0, .int .i64 0, .int .i64 0, .int .i64 0, .int .i64 0] rfl
  obtain ⟨bx, Hx⟩ : ∃ bx, Hid (bx = w.heap.size) := ⟨_, Lib.hid rfl⟩
  obtain ⟨bq, Hq⟩ : ∃ bq, Hid (bq = w.heap.size + 1) := ⟨_, Lib.hid rfl⟩
  obtain ⟨bz, Hz⟩ : ∃ bz, Hid (bz = w.heap.size + 2) := ⟨_, Lib.hid rfl⟩
  rw [← Hz.out, ← Hx.out] at hin
  rw [← Hq.out] at hbq
  rw [← Hz.out, ← Hq.out, ← Hx.out]
  generalize ((w.alloc (.cells CS 32)).alloc _).alloc _ = W1 at hin hbq ⊢
  have HIN := Lib.hid hin
  have HT1 := Lib.hid hin.turn
  have HBQ := Lib.hid hbq
  have a0 : W1.cell? ⟨bq, 0, none⟩ = some (.int .u64 blk) := Frm.cell_row _ _ _ _ _ _ hbq
  have a1 : W1.cell? ⟨bq, 1, none⟩ = some (.int .i64 i) := Frm.cell_row _ _ _ _ _ _ hbq
  clear hin hbq
  go_upto_region 5 with (first
    | (refine wpList_load_row rfl 32 (.tmp 3) rfl bx rfl 32 CS (0, 0) (.struct fs) HIN.out.own HFS.out rfl (by rw [HSZCS.out]; exact info_refA) ?_)
    | (go_at_call 60; (with_reducible refine (HAT.out _ HT1.out).mono ?_); rintro e w2 ⟨rfl, hT⟩; have HT2 := Lib.hid hT; clear hT))
  have HIN2 := Lib.hid (HIN.out.step HT2.out (by simp) (by simp) (by simp))
  have HBQ2 := Lib.hid (HT2.out.keep HBQ.out (by simp))
  clear a0 a1
  obtain ⟨g, hva, hcell⟩ : ∃ g, va = some ⟨g, 0, none⟩ ∧ ∀ j u, (rbCells l)[j]? = some u → w.cell? ⟨g, j, none⟩ = some u := by
    rcases HB.out.head with ⟨_, e2⟩ | ⟨g, c', e1, _, _, hc⟩
    · have := HY.out; rw [e2] at this; simp at this
    · simp only [Value.slice.injEq] at e1
      exact ⟨g, e1.1, hc⟩
  subst hva
  have HC := Lib.hid hcell
  obtain ⟨ya, yc, hyf, hyw⟩ : ∃ ya yc, y.2 = .slice ya y.1.ws.length yc ∧ (0 < y.1.ws.length → ∃ ad, ya = some ad ∧ ∀ j u, (u64s y.1.ws)[j]? = some u → w.cell? (ad.add j) = some u) := by
    rcases HB.out.rows y (List.mem_of_getElem? HY.out) with ⟨e1, e2⟩ | ⟨a, c, e1, hc⟩
    · exact ⟨none, 0, by rw [e1, e2]; rfl, fun h => by rw [e2] at h; simp at h⟩
    · exact ⟨_, _, e1, fun _ => ⟨a, rfl, hc⟩⟩
  obtain ⟨ad, hya, hwc⟩ := hyw (by omega)
  subst hya
  have HWC := Lib.hid hwc
  have HYF := Lib.hid hyf
  obtain ⟨n, HN⟩ : ∃ n, Hid (n = y.1.ws.length) := ⟨_, Lib.hid rfl⟩
  rw [← HN.out] at hi1 hlen HYF
  clear hcell hyf hyw hwc
  have c13 : ∀ ob, (w2.alloc ob).cell? ⟨bx, 13, none⟩ = some (.slice (some ⟨g, 0, none⟩) q vc) := fun ob => ((Frm.Turn.refl [] w2).alloc ob).cell (by rw [HIN2.out.cell, HCS.out]; rfl) (by simp)
  obtain ⟨i0, hi0', hz0, hz1, hz2⟩ := info_parts info_blk
  obtain ⟨j0, hj0, hy0, hy1, hy2⟩ := info_parts info_u64
  have HO10 : Hid ((w2.alloc (.cells #[] 99)).ownsRow 0 99 2 (.slice (some ⟨w2.heap.size, 0, none⟩) 0 0) 0 []) := Lib.hid (World.ownsRow_made w2 #[] 0 (Nat.zero_le _) (by simp [maxLen]) (by simp))
  have HS10 : Hid (SrcAt (w2.alloc (.cells #[] 99)) (.slice (some ⟨g, 0, none⟩) q vc) q 2 (rbCells l)) := Lib.hid (.inr ⟨⟨g, 0, none⟩, vc, rfl, by rw [rbCells_length, HQ.out], fun jj u hu => by rw [add_off, Nat.zero_add]; exact ((HIN2.out.turn.trans ((Frm.Turn.refl [] w2).alloc _) (by simp))).cell (HC.out jj u hu) (by simp)⟩)
  have HONE1 := Lib.hid (rb_one l (fun x hx => HB.out.slices x hx))
  go_upto_region 6 with (first
    | (at_builtin; refine wpList_append_src rfl (.tmp 21) (.tmp 23) 28 rfl 99 i0 (.agg #[.int .u64 0, .slice none 0 0]) 2 32 under_blks hi0' hz0 hz1 hz2 rfl (by decide) (.slice (some ⟨w2.heap.size, 0, none⟩) 0 0) 0 [] rfl HO10.out (.slice (some ⟨g, 0, none⟩) q vc) q (rbCells l) rfl HS10.out HONE1.out (by unfold maxLen; omega) (by omega) ?_; intro v1 w3 hown3 hg3 hl3; simp only [Nat.zero_add, List.nil_append] at hown3; obtain ⟨b4, cp4, rfl, _, hb4⟩ := hown3.form (by omega); have HO3 := Lib.hid hown3; have HG3 := Lib.hid hg3; have HL3 := Lib.hid hl3; have HT3 : Hid (Frm.Turn [] w2 w3) := Lib.hid (fresh_grown (v := .slice none 0 0) hg3); have HB4 := Lib.hid (fresh_own hl3 b4 rfl); have HIN3 := Lib.hid (HIN2.out.step HT3.out (by simp) (by simp) (by simp)); have f13 := HIN3.out.thaw 13; have c13' : w3.cell? ⟨bx, 13, none⟩ = some (.slice (some ⟨g, 0, none⟩) q vc) := (by rw [HIN3.out.cell, HCS.out]; rfl); clear hown3 hg3 hl3))
  have hin6 := HIN3.out.set 13 (.slice (some ⟨b4, 0, none⟩) q cp4)
  have ht6 : Frm.Turn [bx] w3 (w3.setCell ⟨bx, 13, none⟩ (.slice (some ⟨b4, 0, none⟩) q cp4)) := (Frm.Turn.refl _ w3).setCell (p := ⟨bx, 13, none⟩) (.inl (by simp)) _
  generalize w3.setCell ⟨bx, 13, none⟩ (.slice (some ⟨b4, 0, none⟩) q cp4) = W6 at hin6 ht6 ⊢
  obtain ⟨C4, HC4⟩ : ∃ C, Hid (C = CS.setIfInBounds 13 (.slice (some ⟨b4, 0, none⟩) q cp4)) := ⟨_, Lib.hid rfl⟩
  rw [← HC4.out] at hin6
  have HIN6 := Lib.hid hin6
  have hlt2 := HIN2.out.lt
  have hb4 := HB4.out
  have hb4x : b4 ≠ bx := by omega
  have HBQ6 : Hid (W6.heap[bq]? = some (.cells #[.int .u64 blk, .int .i64 i] 42 (0, 0))) := Lib.hid (ht6.keep (HT3.out.keep HBQ2.out (by simp)) (by rw [Hq.out, Hx.out]; simp))
  have hbq : bq < w2.heap.size := (Array.getElem?_eq_some_iff.1 HBQ2.out).1
  have HNE : Hid (b4 ≠ bx ∧ b4 ≠ bz ∧ b4 ≠ bq ∧ w.heap.size ≤ b4 ∧ b4 < W6.heap.size ∧ W6.heap.size ≤ W6.heap.size) := Lib.hid (by
    have h2 := HIN2.out.turn.size
    have h3 := ht6.size
    have h4 := own_lt HO3.out b4 rfl
    refine ⟨by omega, by omega, by omega, by omega, by omega, by omega⟩)
  have HO6 : Hid (W6.ownsRow 0 99 2 (.slice (some ⟨b4, 0, none⟩) q cp4) q (rbCells l)) := Lib.hid (rowT HO3.out ht6 (fun k hk => by simp [Value.ownBlock] at hk; subst hk; simpa using hb4x))
  have HBY : Hid (∀ W, Frm.Turn [bx] W6 W → W.cell? ⟨b4, j * 2 + 1, none⟩ = some (.slice (some ad) n yc)) := Lib.hid fun W hT => by
    refine hT.cell ?_ (by simpa using hb4x)
    rw [HO6.out.cellAt (j * 2 + 1) (by omega), (rbCells_get l j y HY.out).2, HYF.out]
  have HS6 : Hid (∀ W, Frm.Turn [b4] W6 W → W.cell? ⟨bx, 13, none⟩ = some (.slice (some ⟨b4, 0, none⟩) q cp4)) := Lib.hid fun W hT => by
    refine hT.cell ?_ (by simp; exact fun e => hb4x e.symm)
    rw [HIN6.out.cell, HC4.out]
    have := HSZCS.out
    simp [this]
  have HO11 : Hid ((W6.drew.alloc (.cells #[] 26)).ownsRow 0 26 1 (.slice (some ⟨W6.heap.size, 0, none⟩) 0 0) 0 []) := Lib.hid (World.ownsRow_made W6.drew #[] 0 (Nat.zero_le _) (by simp [maxLen]) (by simp))
  have HS11 : Hid (∀ jj u, (u64s y.1.ws)[jj]? = some u → (W6.drew.alloc (.cells #[] 26)).cell? (ad.add jj) = some u) := Lib.hid fun jj u hu => ((HIN6.out.turn.trans ((Frm.Turn.refl [] W6).drew) (by simp)).trans ((Frm.Turn.refl [] W6.drew).alloc _) (by simp)).cell (HWC.out jj u hu) (by simp)
  have HONE2 : Hid (∀ u ∈ u64s y.1.ws, u.oneCell' = true) := Lib.hid (by intro u hu; simp [u64s] at hu; obtain ⟨x, _, rfl⟩ := hu; rfl)
  have HTA : Hid (Frm.Turn [] W6 (W6.drew.alloc (.cells #[] 26))) := Lib.hid ((Frm.Turn.refl [] W6).drew.alloc _)
  have hjI : (j : Int) < (q : Int) := by omega
  clear c13 c13' f13 hin6 ht6 hb4 hb4x hlt2 hbq
  go_cut [36] (fun s36 W => ∃ b5 cp5, SetMid w bx bz bq b4 cp4 q n blk i j C4 (rbCells l) (u64s y.1.ws) W6 W b5 cp5)
  case first =>
    refine wp_region_held_drew (S := fun w' => w'.cell? ⟨bx, 13, none⟩ = some (.slice (some ⟨b4, 0, none⟩) q cp4)) (by kernel_rfl) ?_ (fun hHeld => ?_)
    · exact HS6.out _ ((Frm.Turn.refl _ W6).drew)
    refine wpAnyH_take (i := 0) (v := ?_) rfl (by kernel_rfl) (by kernel_rfl) (by kernel_rfl) (fun _ _ _ h => h) (Or.inl ⟨by rfl, ?_⟩) (by assumption) ?_
    rotate_left
    · (intro w hSw; (try dsimp only at hSw); go_simp; try with_reducible rfl)
    simp only [Act.put, List.getElem_toArray, List.getElem_cons_succ, List.getElem_cons_zero, List.setIfInBounds_toArray, List.set_cons_zero, List.set_cons_succ]
    refine wpAnyH_take (i := 1) (v := ?_) rfl (by kernel_rfl) (by kernel_rfl) (by kernel_rfl) (fun _ _ _ h => h) (Or.inl ⟨by rfl, ?_⟩) (by assumption) ?_
    rotate_left
    · (intro w hSw; (try dsimp only at hSw); go_simp; try with_reducible rfl)
    simp only [Act.put, List.getElem_toArray, List.getElem_cons_succ, List.getElem_cons_zero, List.setIfInBounds_toArray, List.set_cons_zero, List.set_cons_succ]
    refine wpAnyH_take (i := 2) (v := ?_) rfl (by kernel_rfl) (by kernel_rfl) (by kernel_rfl) (fun _ _ _ h => h) (Or.inl ⟨by rfl, ?_⟩) (by assumption) ?_
    rotate_left
    · (intro w hSw; (try dsimp only at hSw); go_simp; try with_reducible rfl)
    simp only [Act.put, List.getElem_toArray, List.getElem_cons_succ, List.getElem_cons_zero, List.setIfInBounds_toArray, List.set_cons_zero, List.set_cons_succ]
    refine wpAnyH_take (i := 4) (v := ?_) rfl (by kernel_rfl) (by kernel_rfl) (by kernel_rfl) (fun _ _ _ h => h) (Or.inl ⟨by rfl, ?_⟩) (by assumption) ?_
    rotate_left
    · (intro w hSw; (try dsimp only at hSw); go_simp; try with_reducible rfl)
    simp only [Act.put, List.getElem_toArray, List.getElem_cons_succ, List.getElem_cons_zero, List.setIfInBounds_toArray, List.set_cons_zero, List.set_cons_succ]
    refine wpAnyH_take (i := 5) (v := ?_) rfl (by kernel_rfl) (by kernel_rfl) (by kernel_rfl) (fun _ _ _ h => h) (Or.inl ⟨by rfl, ?_⟩) (by assumption) ?_
    rotate_left
    · (intro w hSw; (try dsimp only at hSw); go_simp; try with_reducible rfl)
    simp only [Act.put, List.getElem_toArray, List.getElem_cons_succ, List.getElem_cons_zero, List.setIfInBounds_toArray, List.set_cons_zero, List.set_cons_succ]
    refine wpAnyH_take (i := 6) (v := ?_) rfl (by kernel_rfl) (by kernel_rfl) (by kernel_rfl) (fun _ _ _ h => h) (Or.inl ⟨by rfl, ?_⟩) (by assumption) ?_
    rotate_left
    · (intro w hSw; (try dsimp only at hSw); go_simp; try with_reducible rfl)
    simp only [Act.put, List.getElem_toArray, List.getElem_cons_succ, List.getElem_cons_zero, List.setIfInBounds_toArray, List.set_cons_zero, List.set_cons_succ]
    refine wpAnyH_take (i := 7) (v := ?_) rfl (by kernel_rfl) (by kernel_rfl) (by kernel_rfl) (fun _ _ _ h => h) (Or.inl ⟨by rfl, ?_⟩) (by assumption) ?_
    rotate_left
    · (intro w hSw; (try dsimp only at hSw); go_simp; try with_reducible rfl)
    simp only [Act.put, List.getElem_toArray, List.getElem_cons_succ, List.getElem_cons_zero, List.setIfInBounds_toArray, List.set_cons_zero, List.set_cons_succ]
    refine wpAnyH_take (i := 8) (v := ?_) rfl (by kernel_rfl) (by kernel_rfl) (by kernel_rfl) (fun _ _ _ h => h) (Or.inl ⟨by rfl, ?_⟩) (by assumption) ?_
    rotate_left
    · (intro w hSw; (try dsimp only at hSw); go_simp; try with_reducible rfl)
    simp only [Act.put, List.getElem_toArray, List.getElem_cons_succ, List.getElem_cons_zero, List.setIfInBounds_toArray, List.set_cons_zero, List.set_cons_succ]
    refine wpAnyH_ready (rs := [3, 9]) (by kernel_rfl) (by simp) ?_
    refine AllReadyH.cons rfl (fun K hK => ?_) (AllReadyH.cons rfl (fun K hK => ?_) AllReadyH.nil)
    · simp only [List.getElem_toArray, List.getElem_cons_succ, List.getElem_cons_zero]
      go_simp
      refine hK _ _ (HS6.out _ (HTA.out.mono (by simp))) (fun hHeld => ?_)
      clear hK K
      try simp only [Act.put, List.getElem_toArray, List.getElem_cons_succ, List.getElem_cons_zero, List.setIfInBounds_toArray, List.set_cons_zero, List.set_cons_succ]
      refine wpAnyH_ready (rs := [9]) (by kernel_rfl) (by simp) ?_
      refine AllReadyH.cons rfl (fun K hK => ?_) AllReadyH.nil
      simp only [List.getElem_toArray, List.getElem_cons_succ, List.getElem_cons_zero]
      have cc : (W6.alloc (.cells #[] 26)).cell? ⟨b4, j * 2 + 1, none⟩ = some (.slice (some ad) n yc) := HBY.out _ (((Frm.Turn.refl [] W6).alloc _).mono (by simp))
      go_simp
      refine hK _ _ (HS6.out _ (HTA.out.mono (by simp))) (fun hHeld => ?_)
      clear hK K cc
      try simp only [Act.put, List.getElem_toArray, List.getElem_cons_succ, List.getElem_cons_zero, List.setIfInBounds_toArray, List.set_cons_zero, List.set_cons_succ]
      refine wpAnyH_ready (rs := [10]) (by kernel_rfl) (by simp) ?_
      refine AllReadyH.cons rfl (fun K hK => ?_) AllReadyH.nil
      simp only [List.getElem_toArray, List.getElem_cons_succ, List.getElem_cons_zero]
      refine wp_append_fresh _ (.tmp 29) (.tmp 35) 22 rfl 26 j0 (.int .u64 0) 1 8 under_u64s hj0 hy0 hy1 hy2 rfl (by decide) (.slice (some ⟨W6.heap.size, 0, none⟩) 0 0) rfl HO11.out ad n yc (u64s y.1.ws) rfl (by rw [HN.out]; simp [u64s]) HS11.out HONE2.out (by omega) (by unfold maxLen; omega) (by omega) ?_
      intro b5 cp5 w7 hown7 hg7 hat7 hlt7
      have HT7 : Hid (Frm.Turn [] W6 w7) := Lib.hid (HTA.out.trans (Frm.Turn.of_grown hg7) (fun k hk => .inr (by simp [Value.ownBlock] at hk; omega)))
      have HO7 := Lib.hid hown7
      have HB5 : Hid (W6.heap.size ≤ b5 ∧ b5 < w7.heap.size) := Lib.hid ⟨by
        rcases hat7 with e | e
        · simp [Value.ownBlock] at e; omega
        · rw [e]; simp, hlt7⟩
      clear hown7 hg7 hat7 hlt7
      refine hK _ _ (HS6.out _ (HT7.out.mono (by simp))) (fun hHeld => ?_)
      clear hK K
      try simp only [Act.put, List.getElem_toArray, List.getElem_cons_succ, List.getElem_cons_zero, List.setIfInBounds_toArray, List.set_cons_zero, List.set_cons_succ]
      refine wpAnyH_take (i := 11) (v := ?_) rfl (by kernel_rfl) (by kernel_rfl) (by kernel_rfl) (fun _ _ _ h => h) (Or.inl ⟨by rfl, ?_⟩) (by assumption) ?_
      rotate_left
      · (intro w hSw; (try dsimp only at hSw); go_simp; try with_reducible rfl)
      simp only [Act.put, List.getElem_toArray, List.getElem_cons_succ, List.getElem_cons_zero, List.setIfInBounds_toArray, List.set_cons_zero, List.set_cons_succ]
      refine wpAnyH_take (i := 12) (v := ?_) rfl (by kernel_rfl) (by kernel_rfl) (by kernel_rfl) (fun _ _ _ h => h) (Or.inl ⟨by rfl, ?_⟩) (by assumption) ?_
      rotate_left
      · (intro w hSw; (try dsimp only at hSw); go_simp; try with_reducible rfl)
      simp only [Act.put, List.getElem_toArray, List.getElem_cons_succ, List.getElem_cons_zero, List.setIfInBounds_toArray, List.set_cons_zero, List.set_cons_succ]
      refine wpAnyH_ready (rs := [13]) (by kernel_rfl) (by simp) ?_
      refine AllReadyH.cons rfl (fun K hK => ?_) AllReadyH.nil
      simp only [List.getElem_toArray, List.getElem_cons_succ, List.getElem_cons_zero]
      have fr4 : w7.frozen? ⟨b4, j * 2 + 1, none⟩ = false := (rowT HO6.out HT7.out (by simp)).frozenAt (j * 2 + 1)
      have cc4 := HBY.out w7 (HT7.out.mono (by simp))
      go_simp
      have HTW : Hid (Frm.Turn [b4] W6 (w7.setCell ⟨b4, j * 2 + 1, none⟩ (.slice (some ⟨b5, 0, none⟩) n cp5))) := Lib.hid ((HT7.out.mono (by simp)).setCell (p := ⟨b4, j * 2 + 1, none⟩) (.inl (by simp)) _)
      refine hK _ _ (HS6.out _ HTW.out) (fun hHeld => ?_)
      clear hK K
      refine wpAnyH_done (by kernel_rfl) ?_ _
      go_wp2_with fail
      go_meet
      refine ⟨b5, cp5, HIN6.out.step HTW.out (fun k hk => by simp at hk; subst hk; exact HNE.out.2.2.2.1) (by simp; exact fun e => HNE.out.1 e.symm) (by simp; exact fun e => HNE.out.2.1 e.symm), HTW.out.keep HBQ6.out (by simp; exact fun e => HNE.out.2.2.1 e.symm), ((rowT HO6.out HT7.out (by simp)).stored (j * 2 + 1) _).1, ?_, HB5.out.1, by simpa using HB5.out.2⟩
      exact rowT HO7.out ((Frm.Turn.refl [b4] w7).setCell (p := ⟨b4, j * 2 + 1, none⟩) (.inl (by simp)) _) (fun k hk => by simp [Value.ownBlock] at hk; subst hk; have h1 := HB5.out.1; have h2 := HNE.out.2.2.2.2.1; simp; omega)
    · simp only [List.getElem_toArray, List.getElem_cons_succ, List.getElem_cons_zero]
      have cc : W6.cell? ⟨b4, j * 2 + 1, none⟩ = some (.slice (some ad) n yc) := HBY.out _ (Frm.Turn.refl _ W6)
      go_simp
      refine hK _ _ (HS6.out _ ((Frm.Turn.refl _ W6).drew)) (fun hHeld => ?_)
      clear hK K cc
      try simp only [Act.put, List.getElem_toArray, List.getElem_cons_succ, List.getElem_cons_zero, List.setIfInBounds_toArray, List.set_cons_zero, List.set_cons_succ]
      refine wpAnyH_ready (rs := [3]) (by kernel_rfl) (by simp) ?_
      refine AllReadyH.cons rfl (fun K hK => ?_) AllReadyH.nil
      simp only [List.getElem_toArray, List.getElem_cons_succ, List.getElem_cons_zero]
      go_simp
      refine hK _ _ (HS6.out _ (HTA.out.mono (by simp))) (fun hHeld => ?_)
      clear hK K
      try simp only [Act.put, List.getElem_toArray, List.getElem_cons_succ, List.getElem_cons_zero, List.setIfInBounds_toArray, List.set_cons_zero, List.set_cons_succ]
      refine wpAnyH_ready (rs := [10]) (by kernel_rfl) (by simp) ?_
      refine AllReadyH.cons rfl (fun K hK => ?_) AllReadyH.nil
      simp only [List.getElem_toArray, List.getElem_cons_succ, List.getElem_cons_zero]
      refine wp_append_fresh _ (.tmp 29) (.tmp 35) 22 rfl 26 j0 (.int .u64 0) 1 8 under_u64s hj0 hy0 hy1 hy2 rfl (by decide) (.slice (some ⟨W6.heap.size, 0, none⟩) 0 0) rfl HO11.out ad n yc (u64s y.1.ws) rfl (by rw [HN.out]; simp [u64s]) HS11.out HONE2.out (by omega) (by unfold maxLen; omega) (by omega) ?_
      intro b5 cp5 w7 hown7 hg7 hat7 hlt7
      have HT7 : Hid (Frm.Turn [] W6 w7) := Lib.hid (HTA.out.trans (Frm.Turn.of_grown hg7) (fun k hk => .inr (by simp [Value.ownBlock] at hk; omega)))
      have HO7 := Lib.hid hown7
      have HB5 : Hid (W6.heap.size ≤ b5 ∧ b5 < w7.heap.size) := Lib.hid ⟨by
        rcases hat7 with e | e
        · simp [Value.ownBlock] at e; omega
        · rw [e]; simp, hlt7⟩
      clear hown7 hg7 hat7 hlt7
      refine hK _ _ (HS6.out _ (HT7.out.mono (by simp))) (fun hHeld => ?_)
      clear hK K
      try simp only [Act.put, List.getElem_toArray, List.getElem_cons_succ, List.getElem_cons_zero, List.setIfInBounds_toArray, List.set_cons_zero, List.set_cons_succ]
      refine wpAnyH_take (i := 11) (v := ?_) rfl (by kernel_rfl) (by kernel_rfl) (by kernel_rfl) (fun _ _ _ h => h) (Or.inl ⟨by rfl, ?_⟩) (by assumption) ?_
      rotate_left
      · (intro w hSw; (try dsimp only at hSw); go_simp; try with_reducible rfl)
      simp only [Act.put, List.getElem_toArray, List.getElem_cons_succ, List.getElem_cons_zero, List.setIfInBounds_toArray, List.set_cons_zero, List.set_cons_succ]
      refine wpAnyH_take (i := 12) (v := ?_) rfl (by kernel_rfl) (by kernel_rfl) (by kernel_rfl) (fun _ _ _ h => h) (Or.inl ⟨by rfl, ?_⟩) (by assumption) ?_
      rotate_left
      · (intro w hSw; (try dsimp only at hSw); go_simp; try with_reducible rfl)
      simp only [Act.put, List.getElem_toArray, List.getElem_cons_succ, List.getElem_cons_zero, List.setIfInBounds_toArray, List.set_cons_zero, List.set_cons_succ]
      refine wpAnyH_ready (rs := [13]) (by kernel_rfl) (by simp) ?_
      refine AllReadyH.cons rfl (fun K hK => ?_) AllReadyH.nil
      simp only [List.getElem_toArray, List.getElem_cons_succ, List.getElem_cons_zero]
      have fr4 : w7.frozen? ⟨b4, j * 2 + 1, none⟩ = false := (rowT HO6.out HT7.out (by simp)).frozenAt (j * 2 + 1)
      have cc4 := HBY.out w7 (HT7.out.mono (by simp))
      go_simp
      have HTW : Hid (Frm.Turn [b4] W6 (w7.setCell ⟨b4, j * 2 + 1, none⟩ (.slice (some ⟨b5, 0, none⟩) n cp5))) := Lib.hid ((HT7.out.mono (by simp)).setCell (p := ⟨b4, j * 2 + 1, none⟩) (.inl (by simp)) _)
      refine hK _ _ (HS6.out _ HTW.out) (fun hHeld => ?_)
      clear hK K
      refine wpAnyH_done (by kernel_rfl) ?_ _
      go_wp2_with fail
      go_meet
      refine ⟨b5, cp5, HIN6.out.step HTW.out (fun k hk => by simp at hk; subst hk; exact HNE.out.2.2.2.1) (by simp; exact fun e => HNE.out.1 e.symm) (by simp; exact fun e => HNE.out.2.1 e.symm), HTW.out.keep HBQ6.out (by simp; exact fun e => HNE.out.2.2.1 e.symm), ((rowT HO6.out HT7.out (by simp)).stored (j * 2 + 1) _).1, ?_, HB5.out.1, by simpa using HB5.out.2⟩
      exact rowT HO7.out ((Frm.Turn.refl [b4] w7).setCell (p := ⟨b4, j * 2 + 1, none⟩) (.inl (by simp)) _) (fun k hk => by simp [Value.ownBlock] at hk; subst hk; have h1 := HB5.out.1; have h2 := HNE.out.2.2.2.2.1; simp; omega)
  case rest =>
    obtain ⟨b5, cp5, hm⟩ := hcut
    obtain ⟨W7, rfl⟩ : ∃ W7 : World, W7 = wc := ⟨_, rfl⟩
    have HM := Lib.hid hm
    have hb5 : b5 ≠ bx ∧ b5 ≠ bz ∧ b5 ≠ bq ∧ b5 ≠ b4 := by
      have h1 := HIN6.out.lt
      have h2 := (Array.getElem?_eq_some_iff.1 HBQ6.out).1
      have h3 := HNE.out.2.2.2.2.1
      have h4 := hm.n5
      refine ⟨by omega, by omega, by omega, by omega⟩
    have hlj : (rbCells l).length = q * 2 := by rw [rbCells_length, HQ.out]
    have HS7 : Hid (∀ W, Frm.Turn [b5] W7 W → (W.cell? ⟨bx, 13, none⟩ = some (.slice (some ⟨b4, 0, none⟩) q cp4) ∧ W.cell? ⟨b4, j * 2 + 1, none⟩ = some (.slice (some ⟨b5, 0, none⟩) n cp5) ∧ W.cell? ⟨bq, 1, none⟩ = some (.int .i64 i))) := Lib.hid fun W hT => by
      refine ⟨hT.cell ?_ (by simp; exact fun e => hb5.1 e.symm), hT.cell ?_ (by simp; exact fun e => hb5.2.2.2 e.symm), hT.cell ?_ (by simp; exact fun e => hb5.2.2.1 e.symm)⟩
      · rw [hm.rin.cell, HC4.out]
        have := HSZCS.out
        simp [this]
      · rw [hm.r4.cellAt (j * 2 + 1) (by omega), List.getElem?_set, if_pos rfl, if_pos (by omega)]
      · exact Frm.cell_row _ _ _ _ _ _ hm.box
    have hmn : i.toNat < y.1.ws.length := by rw [← HN.out]; omega
    have cc5 : W7.drew.cell? ⟨b5, i.toNat, none⟩ = some (.int .u64 (y.1.ws.getD i.toNat 0)) := by
      show W7.cell? ⟨b5, i.toNat, none⟩ = _
      rw [hm.r5.cellAt i.toNat (by omega), word_at hmn]
    have fr5 : W7.drew.frozen? ⟨b5, i.toNat, none⟩ = false := hm.r5.frozenAt i.toNat
    have hi1' : i < (n : Int) := hi1
    have HB5 := Lib.hid hb5
    clear hm hb5 hlj
    go_upto_region 7 with fail
    refine wp_region_held_drew (S := fun w' => w'.cell? ⟨bx, 13, none⟩ = some (.slice (some ⟨b4, 0, none⟩) q cp4) ∧ w'.cell? ⟨b4, j * 2 + 1, none⟩ = some (.slice (some ⟨b5, 0, none⟩) n cp5) ∧ w'.cell? ⟨bq, 1, none⟩ = some (.int .i64 i)) (by kernel_rfl) ?_ (fun hHeld => ?_)
    · exact HS7.out _ ((Frm.Turn.refl _ W7).drew)
    refine wpAnyH_take (i := 0) (v := ?_) rfl (by kernel_rfl) (by kernel_rfl) (by kernel_rfl) (fun _ _ _ h => h) (Or.inl ⟨by rfl, ?_⟩) (by assumption) ?_
    rotate_left
    · (intro w hSw; (try dsimp only at hSw); go_simp; try with_reducible rfl)
    simp only [Act.put, List.getElem_toArray, List.getElem_cons_succ, List.getElem_cons_zero, List.setIfInBounds_toArray, List.set_cons_zero, List.set_cons_succ]
    refine wpAnyH_take (i := 1) (v := ?_) rfl (by kernel_rfl) (by kernel_rfl) (by kernel_rfl) (fun _ _ _ h => h) (Or.inl ⟨by rfl, ?_⟩) (by assumption) ?_
    rotate_left
    · (intro w hSw; (try dsimp only at hSw); go_simp; try with_reducible rfl)
    simp only [Act.put, List.getElem_toArray, List.getElem_cons_succ, List.getElem_cons_zero, List.setIfInBounds_toArray, List.set_cons_zero, List.set_cons_succ]
    refine wpAnyH_take (i := 2) (v := ?_) rfl (by kernel_rfl) (by kernel_rfl) (by kernel_rfl) (fun _ _ _ h => h) (Or.inl ⟨by rfl, ?_⟩) (by assumption) ?_
    rotate_left
    · (intro w hSw; (try dsimp only at hSw); go_simp; try with_reducible rfl)
    simp only [Act.put, List.getElem_toArray, List.getElem_cons_succ, List.getElem_cons_zero, List.setIfInBounds_toArray, List.set_cons_zero, List.set_cons_succ]
    refine wpAnyH_take (i := 3) (v := ?_) rfl (by kernel_rfl) (by kernel_rfl) (by kernel_rfl) (fun _ _ _ h => h) (Or.inl ⟨by rfl, ?_⟩) (by assumption) ?_
    rotate_left
    · (intro w hSw; (try dsimp only at hSw); go_simp; try with_reducible rfl)
    simp only [Act.put, List.getElem_toArray, List.getElem_cons_succ, List.getElem_cons_zero, List.setIfInBounds_toArray, List.set_cons_zero, List.set_cons_succ]
    refine wpAnyH_take (i := 4) (v := ?_) rfl (by kernel_rfl) (by kernel_rfl) (by kernel_rfl) (fun _ _ _ h => h) (Or.inl ⟨by rfl, ?_⟩) (by assumption) ?_
    rotate_left
    · (intro w hSw; (try dsimp only at hSw); go_simp; try with_reducible rfl)
    simp only [Act.put, List.getElem_toArray, List.getElem_cons_succ, List.getElem_cons_zero, List.setIfInBounds_toArray, List.set_cons_zero, List.set_cons_succ]
    refine wpAnyH_take (i := 5) (v := ?_) rfl (by kernel_rfl) (by kernel_rfl) (by kernel_rfl) (fun _ _ _ h => h) (Or.inl ⟨by rfl, ?_⟩) (by assumption) ?_
    rotate_left
    · (intro w hSw; (try dsimp only at hSw); go_simp; try with_reducible rfl)
    simp only [Act.put, List.getElem_toArray, List.getElem_cons_succ, List.getElem_cons_zero, List.setIfInBounds_toArray, List.set_cons_zero, List.set_cons_succ]
    refine wpAnyH_take (i := 6) (v := ?_) rfl (by kernel_rfl) (by kernel_rfl) (by kernel_rfl) (fun _ _ _ h => h) (Or.inl ⟨by rfl, ?_⟩) (by assumption) ?_
    rotate_left
    · (intro w hSw; (try dsimp only at hSw); go_simp; try with_reducible rfl)
    simp only [Act.put, List.getElem_toArray, List.getElem_cons_succ, List.getElem_cons_zero, List.setIfInBounds_toArray, List.set_cons_zero, List.set_cons_succ]
    refine wpAnyH_take (i := 7) (v := ?_) rfl (by kernel_rfl) (by kernel_rfl) (by kernel_rfl) (fun _ _ _ h => h) (Or.inl ⟨by rfl, ?_⟩) (by assumption) ?_
    rotate_left
    · (intro w hSw; (try dsimp only at hSw); go_simp; try with_reducible rfl)
    simp only [Act.put, List.getElem_toArray, List.getElem_cons_succ, List.getElem_cons_zero, List.setIfInBounds_toArray, List.set_cons_zero, List.set_cons_succ]
    refine wpAnyH_take (i := 8) (v := ?_) rfl (by kernel_rfl) (by kernel_rfl) (by kernel_rfl) (fun _ _ _ h => h) (Or.inl ⟨by rfl, ?_⟩) (by assumption) ?_
    rotate_left
    · (intro w hSw; (try dsimp only at hSw); go_simp; try with_reducible rfl)
    simp only [Act.put, List.getElem_toArray, List.getElem_cons_succ, List.getElem_cons_zero, List.setIfInBounds_toArray, List.set_cons_zero, List.set_cons_succ]
    refine wpAnyH_take (i := 9) (v := ?_) rfl (by kernel_rfl) (by kernel_rfl) (by kernel_rfl) (fun _ _ _ h => h) (Or.inl ⟨by rfl, ?_⟩) (by assumption) ?_
    rotate_left
    · (intro w hSw; (try dsimp only at hSw); go_simp; try with_reducible rfl)
    simp only [Act.put, List.getElem_toArray, List.getElem_cons_succ, List.getElem_cons_zero, List.setIfInBounds_toArray, List.set_cons_zero, List.set_cons_succ]
    refine wpAnyH_ready (rs := [10]) (by kernel_rfl) (by simp) ?_
    refine AllReadyH.cons rfl (fun K hK => ?_) AllReadyH.nil
    simp only [List.getElem_toArray, List.getElem_cons_succ, List.getElem_cons_zero]
    go_simp
    have HTW : Hid (Frm.Turn [b5] W7 (W7.setCell ⟨b5, i.toNat, none⟩ (.int .u64 x)).drew) := Lib.hid (((Frm.Turn.refl [b5] W7).setCell (p := ⟨b5, i.toNat, none⟩) (.inl (by simp)) _).drew)
    refine hK _ _ (HS7.out _ HTW.out) (fun hHeld => ?_)
    clear hK K cc5 fr5
    refine wpAnyH_done (by kernel_rfl) ?_ _
    have HR5 : Hid ((W7.setCell ⟨b5, i.toNat, none⟩ (.int .u64 x)).drew.ownsRow 0 26 1 (.slice (some ⟨b5, 0, none⟩) n cp5) n ((u64s y.1.ws).set i.toNat (.int .u64 x))) := Lib.hid (World.ownsRow.drew (HM.out.r5.stored i.toNat _).1)
    have hin8 := HM.out.rin.step HTW.out (fun k hk => by
      simp at hk; subst hk
      have h1 := HM.out.n5
      have h2 := HIN6.out.turn.size
      omega) (by simp; exact fun e => HB5.out.1 e.symm) (by simp; exact fun e => HB5.out.2.1 e.symm)
    generalize (W7.setCell ⟨b5, i.toNat, none⟩ (.int .u64 x)).drew = W8 at hin8 HTW HR5 ⊢
    have HSZC4 : Hid (C4.size = 20) := Lib.hid (by rw [HC4.out]; simpa using HSZCS.out)
    have HC5 : Hid (C4 = refCells A f0 f1 f2 f3 f4 f5 f6 f7 f8 (.slice (some ⟨b4, 0, none⟩) q cp4)) := Lib.hid (by rw [HC4.out, HCS.out]; simp [refCells])
    have HONEC4 : Hid (C4.all (·.oneCell') = true) := Lib.hid (by rw [HC5.out]; exact refCells_one _ _ _ _ _ _ _ _ _ _ _ _ _)
    obtain ⟨Z, z1, z2⟩ := hin8.res
    have HZ1 := Lib.hid z1
    have HZ2 := Lib.hid z2
    have hld := hin8.told HSZC4.out HFS.out
    have HIN8 := Lib.hid hin8
    clear hin8 z1 z2
    go_wp2_with (first
      | (refine wpList_load_row rfl 32 (.tmp 3) rfl bx rfl 32 C4 (0, 0) (.struct fs) HIN8.out.own HFS.out rfl (by rw [HSZC4.out]; exact info_refA) ?_)
      | (refine wpList_store_row rfl 32 (.tmp 6) (.tmp 49) rfl bz C4 rfl rfl 32 Z HZ2.out (by rw [HSZC4.out]; exact info_refA) (by rw [HZ1.out, HSZC4.out]) HONEC4.out ?_))
    have hTE : Frm.Turn [bz] W8 (W8.setRow bz C4) := setRow_turn (Frm.Turn.refl _ _) (.inl (by simp)) C4
    have hTW : Frm.Turn [b5, bz] W7 (W8.setRow bz C4) := (HTW.out.mono (by simp)).trans (hTE.mono (by simp)) (fun k hk => .inl hk)
    have hz7 := HIN6.out.lt
    have hsz := hTW.size
    have n5 := HM.out.n5
    have l5 := HM.out.l5
    have w6 := HIN6.out.turn.size
    refine bodyPost_ret (v := .agg C4) (by simp [results, Try.results49, asAddr, hld, Act.put]) rfl ⟨.slice (some ⟨b4, 0, none⟩) q cp4, .slice (some ⟨b5, 0, none⟩) n cp5, by rw [HC5.out], ?_, HIN8.out.end_, fun k hk => ?_, fun k hk => ?_⟩
    · have hset := rbCells_set l j y (⟨y.1.h, y.1.ws.set i.toNat x⟩, .slice (some ⟨b5, 0, none⟩) n cp5) HY.out rfl
      refine BlksAt.of_row (w6 := W7) (F := [b5, bz]) (fun z hz => ?_) (by rw [List.length_set, ← HQ.out, hset]; exact HM.out.r4) hTW (fun k hk => by
        simp [Value.ownBlock] at hk; subst hk
        simp; exact ⟨fun e => HB5.out.2.2.2 e.symm, HNE.out.2.1⟩)
      rcases List.mem_or_eq_of_mem_set hz with hz | rfl
      · exact (HB.out.rows z hz).turn HIN8.out.end_ (by simp)
      · have hr := HR5.out
        rw [← u64s_set] at hr
        have hnl : n = (y.1.ws.set i.toNat x).length := by rw [HN.out]; simp
        show WordsAt _ (.slice (some ⟨b5, 0, none⟩) n cp5) (y.1.ws.set i.toNat x)
        rw [hnl] at hr ⊢
        exact (WordsAt.own hr).turn hTE (fun k hk => by simp [Value.ownBlock] at hk; subst hk; simp; exact HB5.out.2.1)
    · simp [Value.ownBlock] at hk; subst hk
      have := HNE.out
      have := HTW.out.size
      have : W6.heap.size ≤ W7.heap.size := by omega
      exact ⟨HNE.out.2.2.2.1, by omega⟩
    · simp [Value.ownBlock] at hk; subst hk
      exact ⟨by omega, by omega⟩
end Arn
end Go.Proofs.Ytfbnidjcimcfoaa
