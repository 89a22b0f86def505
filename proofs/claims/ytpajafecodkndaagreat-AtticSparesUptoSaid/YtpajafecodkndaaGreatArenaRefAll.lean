/- The document's Get in one form; its Read. -/
/- The document's Set: a word that there is. -/
/- The document's Set in one form; Read, Write, Swap and Add. -/
/- The document's Lay and Free, over its arena with its fixed words. -/
import Derived.Test.YtpajafecodkndaaGreatArenaRefGet
import Derived.Deep.AppendLies
import Derived.Laws.OwnMore
set_option linter.unusedVariables false
set_option linter.unusedSimpArgs false
namespace Go.Proofs.YtpajafecodkndaaGreat
namespace Arn
open Go.RowKit Hp Go.Maps

/-- What Get leaves of an arena, and what it tells. -/
def Ar.got (A : Ar) (blk i : Int) : Ar := if A.err blk i = 0 then A else A.miss
def Ar.gotW (A : Ar) (blk i : Int) : Int := if A.err blk i = 0 then A.get blk i else 0
theorem len_of {A : Ar} (hok : A.Ok) {l : List RB} (hAL : l.map Prod.fst = A.L) : l.length ≤ 60000 := by
  have u1 := length_le_used (fun x hx => (hok.len x hx).1)
  have u2 := hok.top
  have u3 := hok.peak
  have u4 := hok.cap
  rw [← hAL, List.length_map] at u1
  rw [← hAL] at u2
  omega
theorem refGet_any (A : Ar) (f0 f1 f2 f3 f4 f5 f6 f7 f8 : Int) (v : Value) (l : List RB) (w : World) (h : BlksAt w v l) (hAL : l.map Prod.fst = A.L) (hok : A.Ok) (hfix : A.fixed = [f0, f1, f2, f3, f4, f5, f6, f7, f8]) (hf : A.faults ≤ 100000000) (blk i : Int) :
    Calls Tryz.prog 71 #[.agg (refCells A f0 f1 f2 f3 f4 f5 f6 f7 f8 v), .agg #[.int .u64 blk, .int .i64 i]] w fun e w' =>
      e = .returned (.tuple #[.agg (refCells (A.got blk i) f0 f1 f2 f3 f4 f5 f6 f7 f8 v), .int .u64 (A.gotW blk i), .int .i64 (A.err blk i)]) ∧ Frm.Turn [] w w' := by
  have hl := len_of hok hAL
  by_cases hz : blk = 0
  · have hrow : A.row blk = some A.fixed := by unfold Ar.row; rw [if_pos hz]
    by_cases hin : 0 ≤ i ∧ i < 9
    · have he : A.err blk i = 0 := by unfold Ar.err; rw [hrow, hfix]; simp; omega
      have hg : A.get blk i = [f0, f1, f2, f3, f4, f5, f6, f7, f8].getD i.toNat 0 := by unfold Ar.get; rw [hrow, hfix]; rfl
      unfold Ar.got Ar.gotW
      rw [he, if_pos rfl, if_pos rfl, hg]
      exact refGet_fixin A f0 f1 f2 f3 f4 f5 f6 f7 f8 v l w h (by omega) hf blk i hz hin.1 hin.2
    · have he : A.err blk i = 24 := by unfold Ar.err; rw [hrow, hfix]; simp; omega
      unfold Ar.got Ar.gotW
      rw [he, if_neg (by omega), if_neg (by omega)]
      exact refGet_fixout A f0 f1 f2 f3 f4 f5 f6 f7 f8 v l w h (by omega) hf blk i hz (by omega)
  · have hrow : A.row blk = look A.L blk := by unfold Ar.row; rw [if_neg hz]
    rcases place_of hok hAL blk with ⟨hh, hn⟩ | ⟨hh, j, y, hy, hyk, hu, hyA⟩
    · have he : A.err blk i = 23 := by unfold Ar.err; rw [hrow, look_none.2 hh]
      unfold Ar.got Ar.gotW
      rw [he, if_neg (by omega), if_neg (by omega)]
      exact refGet_gone A f0 f1 f2 f3 f4 f5 f6 f7 f8 v l w h (by omega) hf blk i hz hn
    · have hlk : look A.L blk = some y.1.ws := hok.look_some.2 ⟨y.1, List.mem_of_getElem? hyA, hyk, rfl⟩
      by_cases hin : 0 ≤ i ∧ i < (y.1.ws.length : Int)
      · have he : A.err blk i = 0 := by unfold Ar.err; rw [hrow, hlk]; simp [hin]
        have hg : A.get blk i = y.1.ws.getD i.toNat 0 := by unfold Ar.get; rw [hrow, hlk]; rfl
        unfold Ar.got Ar.gotW
        rw [he, if_pos rfl, if_pos rfl, hg]
        exact refGet_blkin A f0 f1 f2 f3 f4 f5 f6 f7 f8 v l w h (by omega) hf blk i hz j y hy hyk hu hin.1 hin.2
      · have he : A.err blk i = 24 := by unfold Ar.err; rw [hrow, hlk]; simp [hin]
        unfold Ar.got Ar.gotW
        rw [he, if_neg (by omega), if_neg (by omega)]
        exact refGet_blkout A f0 f1 f2 f3 f4 f5 f6 f7 f8 v l w h (by omega) hf blk i hz j y hy hyk hu (by omega)
end Arn
end Go.Proofs.YtpajafecodkndaaGreat

set_option linter.unusedVariables false
set_option linter.unusedSimpArgs false
namespace Go.Proofs.YtpajafecodkndaaGreat
namespace Arn
open Go.RowKit Hp Go.Maps

theorem fix_set (A : Ar) (f0 f1 f2 f3 f4 f5 f6 f7 f8 : Int) (lv : Value) (x : Int) (m : Nat) (hm : m < 9) : ∃ g0 g1 g2 g3 g4 g5 g6 g7 g8 : Int, [g0, g1, g2, g3, g4, g5, g6, g7, g8] = [f0, f1, f2, f3, f4, f5, f6, f7, f8].set m x ∧ (refCells A f0 f1 f2 f3 f4 f5 f6 f7 f8 lv).setIfInBounds (4 + m) (.int .u64 x) = refCells A g0 g1 g2 g3 g4 g5 g6 g7 g8 lv := by
  match m, hm with
  | 0, _ => exact ⟨x, f1, f2, f3, f4, f5, f6, f7, f8, rfl, by simp [refCells]⟩
  | 1, _ => exact ⟨f0, x, f2, f3, f4, f5, f6, f7, f8, rfl, by simp [refCells]⟩
  | 2, _ => exact ⟨f0, f1, x, f3, f4, f5, f6, f7, f8, rfl, by simp [refCells]⟩
  | 3, _ => exact ⟨f0, f1, f2, x, f4, f5, f6, f7, f8, rfl, by simp [refCells]⟩
  | 4, _ => exact ⟨f0, f1, f2, f3, x, f5, f6, f7, f8, rfl, by simp [refCells]⟩
  | 5, _ => exact ⟨f0, f1, f2, f3, f4, x, f6, f7, f8, rfl, by simp [refCells]⟩
  | 6, _ => exact ⟨f0, f1, f2, f3, f4, f5, x, f7, f8, rfl, by simp [refCells]⟩
  | 7, _ => exact ⟨f0, f1, f2, f3, f4, f5, f6, x, f8, rfl, by simp [refCells]⟩
  | 8, _ => exact ⟨f0, f1, f2, f3, f4, f5, f6, f7, x, rfl, by simp [refCells]⟩
theorem rbCells_set : ∀ (l : List RB) (j : Nat) (y z : RB), l[j]? = some y → z.1.h = y.1.h → rbCells (l.set j z) = (rbCells l).set (j * 2 + 1) z.2 := by
  intro l
  induction l with
  | nil => intro j y z h; simp at h
  | cons a t ih =>
    intro j y z h e
    cases j with
    | zero => simp at h; subst h; simp [rbCells, e]
    | succ j =>
      simp at h
      have := ih j y z h e
      have e2 : (j + 1) * 2 + 1 = (j * 2 + 1) + 2 := by omega
      rw [e2]
      simpa [rbCells] using this
theorem u64s_set (ws : List Int) (m : Nat) (x : Int) : u64s (ws.set m x) = (u64s ws).set m (.int .u64 x) := by simp [u64s, List.map_set]
theorem setW_place {A : Ar} (hok : A.Ok) {j : Nat} {b : Blk} (hx : A.L[j]? = some b) (m : Nat) (x : Int) : setW A.L b.h m x = A.L.set j { b with ws := b.ws.set m x } := by
  apply List.ext_getElem?
  intro i
  unfold setW
  rw [List.getElem?_map, List.getElem?_set]
  have hjl : j < A.L.length := (List.getElem?_eq_some_iff.1 hx).1
  by_cases hij : j = i
  · subst hij
    rw [if_pos rfl, if_pos hjl, hx]
    simp
  · rw [if_neg hij]
    cases hi : A.L[i]? with
    | none => rfl
    | some y =>
      have hne : y.h ≠ b.h := fun e => by
        have := hok.h_inj (List.mem_of_getElem? hi) (List.mem_of_getElem? hx) e
        subst this
        rcases Nat.lt_trichotomy i j with e1 | e1 | e1
        · have := rise_get hok.rise hi hx e1; omega
        · exact hij e1.symm
        · have := rise_get hok.rise hx hi e1; omega
      simp [hne]
theorem wp_append_fresh {P : Program} (w : World) {o : Oper} {a : Act} {K : Act → World → Prop} {Q : Exit → Act → World → Prop} (s x : Operand) (t : TypeId)
    (ho : o.op = .call { callee := .builtin .append, args := #[s, x], argTypes := #[t, t] })
    (e : TypeId) (i : TypeInfo) (z : Value) (size bytes : Nat) (ht : P.underlying t = some (.slice e)) (hi : P.info? e = some i) (hz : i.zero = some z)
    (hsize : i.size = size) (hby : i.bytes = bytes) (hzs : z.cells.size = size) (hsz : 0 < size)
    (v : Value) (hs : a.eval s = v) (hown : w.ownsRow 0 e size v 0 [])
    (ad : Addr) (m c : Nat) (news : List Value) (hx : a.eval x = .slice (some ad) m c) (hl : news.length = m * size) (hnews : ∀ j u, news[j]? = some u → w.cell? (ad.add j) = some u) (h1 : ∀ u ∈ news, u.oneCell' = true)
    (hm : 0 < m) (h63 : m ≤ maxLen) (hbytes : m * bytes ≤ 140737488355328)
    (h : ∀ g cap w', w'.ownsRow 0 e size (.slice (some ⟨g, 0, none⟩) m cap) m news → w.grownBy w' v.ownBlock → (v.ownBlock = some g ∨ g = w.heap.size) → g < w'.heap.size → K (a.put o.dst (.slice (some ⟨g, 0, none⟩) m cap)) w') : o.wp P a w K Q := by
  refine wp_append_lies w s x t ho 0 e i z size bytes ht hi hz hsize hby hzs hsz v 0 [] hs hown ad m c news hx hl hnews h1 hm (by omega) (by rw [Nat.zero_add]; exact hbytes) (Nat.zero_le _) _ rfl (fun g cap w' h1 h2 h3 h4 => ?_)
  rw [Nat.zero_add] at h1 ⊢
  exact h g cap w' h1 h2 h3 h4
set_option maxRecDepth 100000 in
set_option maxHeartbeats 4000000 in
theorem refSet_fix (A : Ar) (f0 f1 f2 f3 f4 f5 f6 f7 f8 : Int) (v : Value) (l : List RB) (w : World) (h : BlksAt w v l) (hl : l.length ≤ 70000) (blk i x : Int) (hz : blk = 0) (hi0 : 0 ≤ i) (hi1 : i < 9) :
    Calls Tryz.prog 72 #[.agg (refCells A f0 f1 f2 f3 f4 f5 f6 f7 f8 v), .agg #[.int .u64 blk, .int .i64 i], .int .u64 x] w fun e w' => e = .returned (.agg ((refCells A f0 f1 f2 f3 f4 f5 f6 f7 f8 v).setIfInBounds (4 + i.toNat) (.int .u64 x))) ∧ Frm.Turn [] w w' := by
  obtain ⟨va, vc, rfl⟩ := h.form
  obtain ⟨fs, hfs⟩ := struct_of under_refA
  obtain ⟨q, HQ⟩ : ∃ q, Hid (q = l.length) := ⟨_, Lib.hid rfl⟩
  rw [← HQ.out] at ⊢
  obtain ⟨CS, HCS⟩ : ∃ CS, Hid (CS = refCells A f0 f1 f2 f3 f4 f5 f6 f7 f8 (.slice va q vc)) := ⟨_, Lib.hid rfl⟩
  have HSZCS : Hid (CS.size = 20) := Lib.hid (by rw [HCS.out]; rfl)
  have HONECS : Hid (CS.all (·.oneCell') = true) := Lib.hid (by rw [HCS.out]; exact refCells_one _ _ _ _ _ _ _ _ _ _ _ _ _)
  have HFS := Lib.hid hfs
  rw [show refCells A f0 f1 f2 f3 f4 f5 f6 f7 f8 (.slice va q vc) = CS from HCS.out.symm]
  clear h hfs hl
  have hb0 : (blk != 0) = false := by simp [hz]
  have hb1 : (blk == 0) = true := by simp [hz]
  clear hz
  go_enter Tryz.func72, Tryz.ntmps72
  go_upto_region 1 with fail
  obtain ⟨hin, hbq⟩ := RefIn.start3 w CS #[.int .u64 blk, .int .i64 i] #[.int .i64 0, .int .i64 0, .int .i64 0, .int .i64 0, .int .u64 0, .int .u64 0, .int .u64 0, .int .u64 0, .int .u64 0, .int .u64 0, .int .u64 0, .int .u64 0, .int .u64 0, .slice none 0 0, .int .i64 0, .int .i64 0, .int .i64 0, .int .i64 0, .int .i64 0, .int .i64 0] rfl
  obtain ⟨bx, Hx⟩ : ∃ bx, Hid (bx = w.heap.size) := ⟨_, Lib.hid rfl⟩
  obtain ⟨bq, Hq⟩ : ∃ bq, Hid (bq = w.heap.size + 1) := ⟨_, Lib.hid rfl⟩
  obtain ⟨bz, Hz⟩ : ∃ bz, Hid (bz = w.heap.size + 2) := ⟨_, Lib.hid rfl⟩
  rw [← Hz.out, ← Hx.out] at hin
  rw [← Hq.out] at hbq
  rw [← Hz.out, ← Hq.out, ← Hx.out]
  generalize ((w.alloc (.cells CS 37)).alloc _).alloc _ = W1 at hin hbq ⊢
  have HIN := Lib.hid hin
  have HT1 := Lib.hid hin.turn
  have HBQ := Lib.hid hbq
  have a0 : W1.cell? ⟨bq, 0, none⟩ = some (.int .u64 blk) := Frm.cell_row _ _ _ _ _ _ hbq
  have a1 : W1.cell? ⟨bq, 1, none⟩ = some (.int .i64 i) := Frm.cell_row _ _ _ _ _ _ hbq
  clear hin hbq
  have c4 : W1.cell? ⟨bx, 4 + i.toNat, none⟩ = some (.int .u64 ([f0, f1, f2, f3, f4, f5, f6, f7, f8].getD i.toNat 0)) := by
    rw [HIN.out.cell, HCS.out]
    exact fix_cell A f0 f1 f2 f3 f4 f5 f6 f7 f8 _ _ _ (word_at (by simp; omega))
  have fr4 := HIN.out.thaw (4 + i.toNat)
  go_upto_region 3 with fail
  have hin4 := HIN.out.set (4 + i.toNat) (.int .u64 x)
  generalize W1.setCell ⟨bx, 4 + i.toNat, none⟩ (.int .u64 x) = W4 at hin4 ⊢
  obtain ⟨C4, HC4⟩ : ∃ C, Hid (C = CS.setIfInBounds (4 + i.toNat) (.int .u64 x)) := ⟨_, Lib.hid rfl⟩
  have HSZC4 : Hid (C4.size = 20) := Lib.hid (by rw [HC4.out]; simpa using HSZCS.out)
  have HONEC4 : Hid (C4.all (·.oneCell') = true) := Lib.hid (by
    obtain ⟨g0, g1, g2, g3, g4, g5, g6, g7, g8, _, h2⟩ := fix_set A f0 f1 f2 f3 f4 f5 f6 f7 f8 (.slice va q vc) x i.toNat (by omega)
    rw [HC4.out, HCS.out, h2]; exact refCells_one _ _ _ _ _ _ _ _ _ _ _ _ _)
  rw [← HC4.out] at hin4
  obtain ⟨Z, z1, z2⟩ := hin4.res
  have HZ1 := Lib.hid z1
  have HZ2 := Lib.hid z2
  have hld := hin4.told HSZC4.out HFS.out
  have HIN4 := Lib.hid hin4
  clear hin4 z1 z2 c4 fr4
  go_wp2_with (first
    | (refine wpList_load_row rfl 37 (.tmp 3) rfl bx rfl 37 C4 (0, 0) (.struct fs) HIN4.out.own HFS.out rfl (by rw [HSZC4.out]; exact info_refA) ?_)
    | (refine wpList_store_row rfl 37 (.tmp 6) (.tmp 16) rfl bz C4 rfl rfl 37 Z HZ2.out (by rw [HSZC4.out]; exact info_refA) (by rw [HZ1.out, HSZC4.out]) HONEC4.out ?_))
  exact bodyPost_ret (v := .agg C4) (by simp [results, Tryz.results72, asAddr, hld, Act.put]) rfl ⟨by rw [HC4.out], HIN4.out.end_⟩
/-- Where Set of a block's word stands once both rows are copied. -/
structure SetMid (w : World) (bx bz bq b4 cp4 q n : Nat) (blk i : Int) (j : Nat) (C4 : Array Value) (xs ys : List Value) (Wa W : World) (b5 cp5 : Nat) : Prop where
  rin : RefIn w bx bz C4 W
  box : W.heap[bq]? = some (.cells #[.int .u64 blk, .int .i64 i] 66 (0, 0))
  r4 : W.ownsRow 0 135 2 (.slice (some ⟨b4, 0, none⟩) q cp4) q (xs.set (j * 2 + 1) (.slice (some ⟨b5, 0, none⟩) n cp5))
  r5 : W.ownsRow 0 31 1 (.slice (some ⟨b5, 0, none⟩) n cp5) n ys
  n5 : Wa.heap.size ≤ b5
  l5 : b5 < W.heap.size
set_option maxRecDepth 100000 in
set_option maxHeartbeats 4000000 in
theorem refSet_blk (A : Ar) (f0 f1 f2 f3 f4 f5 f6 f7 f8 : Int) (v : Value) (l : List RB) (w : World) (h : BlksAt w v l) (hl : l.length ≤ 70000) (blk i x : Int) (hne : blk ≠ 0) (j : Nat) (y : RB) (hy : l[j]? = some y) (hyk : y.1.h = blk) (hu : ∀ i z, l[i]? = some z → z.1.h = blk → i = j) (hi0 : 0 ≤ i) (hi1 : i < (y.1.ws.length : Int)) (hlen : y.1.ws.length ≤ 70000) :
    Calls Tryz.prog 72 #[.agg (refCells A f0 f1 f2 f3 f4 f5 f6 f7 f8 v), .agg #[.int .u64 blk, .int .i64 i], .int .u64 x] w fun e w' => ∃ v' v5, e = .returned (.agg (refCells A f0 f1 f2 f3 f4 f5 f6 f7 f8 v')) ∧ BlksAt w' v' (l.set j (⟨y.1.h, y.1.ws.set i.toNat x⟩, v5)) ∧ Frm.Turn [] w w' ∧ (∀ k, v'.ownBlock = some k → w.heap.size ≤ k ∧ k < w'.heap.size) ∧ ∀ k, v5.ownBlock = some k → w.heap.size ≤ k ∧ k < w'.heap.size := by
  obtain ⟨va, vc, rfl⟩ := h.form
  obtain ⟨fs, hfs⟩ := struct_of under_refA
  have HB := Lib.hid h
  have HY := Lib.hid hy
  have HYK := Lib.hid hyk
  have HAT := Lib.hid (fun W (hT : Frm.Turn [] w W) => refAt_yes A f0 f1 f2 f3 f4 f5 f6 f7 f8 _ l W (h.step hT) hl blk j y hy hyk hu)
  have hjq : j < l.length := (List.getElem?_eq_some_iff.1 hy).1
  obtain ⟨q, HQ⟩ : ∃ q, Hid (q = l.length) := ⟨_, Lib.hid rfl⟩
  rw [← HQ.out] at HAT hjq hl ⊢
  obtain ⟨CS, HCS⟩ : ∃ CS, Hid (CS = refCells A f0 f1 f2 f3 f4 f5 f6 f7 f8 (.slice va q vc)) := ⟨_, Lib.hid rfl⟩
  have HSZCS : Hid (CS.size = 20) := Lib.hid (by rw [HCS.out]; rfl)
  have HONECS : Hid (CS.all (·.oneCell') = true) := Lib.hid (by rw [HCS.out]; exact refCells_one _ _ _ _ _ _ _ _ _ _ _ _ _)
  have HFS := Lib.hid hfs
  rw [show refCells A f0 f1 f2 f3 f4 f5 f6 f7 f8 (.slice va q vc) = CS from HCS.out.symm]
  rw [← HCS.out] at HAT
  clear hy hyk hu
  clear h hfs
  have hb0 : (blk != 0) = true := by simpa using hne
  have hb1 : (blk == 0) = false := by simpa using hne
  go_enter Tryz.func72, Tryz.ntmps72
  go_upto_region 1 with fail
  obtain ⟨hin, hbq⟩ := RefIn.start3 w CS #[.int .u64 blk, .int .i64 i] #[.int .i64 0, .int .i64 0, .int .i64 0, .int .i64 0, .int .u64 0, .int .u64 0, .int .u64 0, .int .u64 0, .int .u64 0, .int .u64 0, .int .u64 0, .int .u64 0, .int .u64 0, .slice none 0 0, .int .i64 0, .int .i64 0, .int .i64 0, .int .i64 0, .int .i64 0, .int .i64 0] rfl
  obtain ⟨bx, Hx⟩ : ∃ bx, Hid (bx = w.heap.size) := ⟨_, Lib.hid rfl⟩
  obtain ⟨bq, Hq⟩ : ∃ bq, Hid (bq = w.heap.size + 1) := ⟨_, Lib.hid rfl⟩
  obtain ⟨bz, Hz⟩ : ∃ bz, Hid (bz = w.heap.size + 2) := ⟨_, Lib.hid rfl⟩
  rw [← Hz.out, ← Hx.out] at hin
  rw [← Hq.out] at hbq
  rw [← Hz.out, ← Hq.out, ← Hx.out]
  generalize ((w.alloc (.cells CS 37)).alloc _).alloc _ = W1 at hin hbq ⊢
  have HIN := Lib.hid hin
  have HT1 := Lib.hid hin.turn
  have HBQ := Lib.hid hbq
  have a0 : W1.cell? ⟨bq, 0, none⟩ = some (.int .u64 blk) := Frm.cell_row _ _ _ _ _ _ hbq
  have a1 : W1.cell? ⟨bq, 1, none⟩ = some (.int .i64 i) := Frm.cell_row _ _ _ _ _ _ hbq
  clear hin hbq
  go_upto_region 5 with (first
    | (refine wpList_load_row rfl 37 (.tmp 3) rfl bx rfl 37 CS (0, 0) (.struct fs) HIN.out.own HFS.out rfl (by rw [HSZCS.out]; exact info_refA) ?_)
    | (go_at_call 114; (with_reducible refine (HAT.out _ HT1.out).mono ?_); rintro e w2 ⟨rfl, hT⟩; have HT2 := Lib.hid hT; clear hT))
  have HIN2 := Lib.hid (HIN.out.step HT2.out (by simp) (by simp) (by simp))
  have HBQ2 := Lib.hid (HT2.out.keep HBQ.out (by simp))
  clear a0 a1
  obtain ⟨g, hva, hcell⟩ : ∃ g, va = some ⟨g, 0, none⟩ ∧ ∀ j u, (rbCells l)[j]? = some u → w.cell? ⟨g, j, none⟩ = some u := by
    rcases HB.out.head with ⟨_, e2⟩ | ⟨g, c', e1, _, _, hc⟩
    · have := HY.out; rw [e2] at this; simp at this
    · simp only [Value.slice.injEq] at e1
      exact ⟨g, e1.1, hc⟩
  subst hva
  have HC := Lib.hid hcell
  obtain ⟨ya, yc, hyf, hyw⟩ : ∃ ya yc, y.2 = .slice ya y.1.ws.length yc ∧ (0 < y.1.ws.length → ∃ ad, ya = some ad ∧ ∀ j u, (u64s y.1.ws)[j]? = some u → w.cell? (ad.add j) = some u) := by
    rcases HB.out.rows y (List.mem_of_getElem? HY.out) with ⟨e1, e2⟩ | ⟨a, c, e1, hc⟩
    · exact ⟨none, 0, by rw [e1, e2]; rfl, fun h => by rw [e2] at h; simp at h⟩
    · exact ⟨_, _, e1, fun _ => ⟨a, rfl, hc⟩⟩
  obtain ⟨ad, hya, hwc⟩ := hyw (by omega)
  subst hya
  have HWC := Lib.hid hwc
  have HYF := Lib.hid hyf
  obtain ⟨n, HN⟩ : ∃ n, Hid (n = y.1.ws.length) := ⟨_, Lib.hid rfl⟩
  rw [← HN.out] at hi1 hlen HYF
  clear hcell hyf hyw hwc
  have c13 : ∀ ob, (w2.alloc ob).cell? ⟨bx, 13, none⟩ = some (.slice (some ⟨g, 0, none⟩) q vc) := fun ob => ((Frm.Turn.refl [] w2).alloc ob).cell (by rw [HIN2.out.cell, HCS.out]; rfl) (by simp)
  obtain ⟨i0, hi0', hz0, hz1, hz2⟩ := info_parts info_blk
  obtain ⟨j0, hj0, hy0, hy1, hy2⟩ := info_parts info_u64
  have HO10 : Hid ((w2.alloc (.cells #[] 135)).ownsRow 0 135 2 (.slice (some ⟨w2.heap.size, 0, none⟩) 0 0) 0 []) := Lib.hid (World.ownsRow_made w2 #[] 0 (Nat.zero_le _) (by simp [maxLen]) (by simp))
  have HS10 : Hid (SrcAt (w2.alloc (.cells #[] 135)) (.slice (some ⟨g, 0, none⟩) q vc) q 2 (rbCells l)) := Lib.hid (.inr ⟨⟨g, 0, none⟩, vc, rfl, by rw [rbCells_length, HQ.out], fun jj u hu => by rw [add_off, Nat.zero_add]; exact ((HIN2.out.turn.trans ((Frm.Turn.refl [] w2).alloc _) (by simp))).cell (HC.out jj u hu) (by simp)⟩)
  have HONE1 := Lib.hid (rb_one l (fun x hx => HB.out.slices x hx))
  go_upto_region 6 with (first
    | (at_builtin; refine wpList_append_src rfl (.tmp 21) (.tmp 23) 33 rfl 135 i0 (.agg #[.int .u64 0, .slice none 0 0]) 2 32 under_blks hi0' hz0 hz1 hz2 rfl (by decide) (.slice (some ⟨w2.heap.size, 0, none⟩) 0 0) 0 [] rfl HO10.out (.slice (some ⟨g, 0, none⟩) q vc) q (rbCells l) rfl HS10.out HONE1.out (by unfold maxLen; omega) (by omega) ?_; intro v1 w3 hown3 hg3 hl3; simp only [Nat.zero_add, List.nil_append] at hown3; obtain ⟨b4, cp4, rfl, _, hb4⟩ := hown3.form (by omega); have HO3 := Lib.hid hown3; have HG3 := Lib.hid hg3; have HL3 := Lib.hid hl3; have HT3 : Hid (Frm.Turn [] w2 w3) := Lib.hid (fresh_grown (v := .slice none 0 0) hg3); have HB4 := Lib.hid (fresh_own hl3 b4 rfl); have HIN3 := Lib.hid (HIN2.out.step HT3.out (by simp) (by simp) (by simp)); have f13 := HIN3.out.thaw 13; have c13' : w3.cell? ⟨bx, 13, none⟩ = some (.slice (some ⟨g, 0, none⟩) q vc) := (by rw [HIN3.out.cell, HCS.out]; rfl); clear hown3 hg3 hl3))
  have hin6 := HIN3.out.set 13 (.slice (some ⟨b4, 0, none⟩) q cp4)
  have ht6 : Frm.Turn [bx] w3 (w3.setCell ⟨bx, 13, none⟩ (.slice (some ⟨b4, 0, none⟩) q cp4)) := (Frm.Turn.refl _ w3).setCell (p := ⟨bx, 13, none⟩) (.inl (by simp)) _
  generalize w3.setCell ⟨bx, 13, none⟩ (.slice (some ⟨b4, 0, none⟩) q cp4) = W6 at hin6 ht6 ⊢
  obtain ⟨C4, HC4⟩ : ∃ C, Hid (C = CS.setIfInBounds 13 (.slice (some ⟨b4, 0, none⟩) q cp4)) := ⟨_, Lib.hid rfl⟩
  rw [← HC4.out] at hin6
  have HIN6 := Lib.hid hin6
  have hlt2 := HIN2.out.lt
  have hb4 := HB4.out
  have hb4x : b4 ≠ bx := by omega
  have HBQ6 : Hid (W6.heap[bq]? = some (.cells #[.int .u64 blk, .int .i64 i] 66 (0, 0))) := Lib.hid (ht6.keep (HT3.out.keep HBQ2.out (by simp)) (by rw [Hq.out, Hx.out]; simp))
  have hbq : bq < w2.heap.size := (Array.getElem?_eq_some_iff.1 HBQ2.out).1
  have HNE : Hid (b4 ≠ bx ∧ b4 ≠ bz ∧ b4 ≠ bq ∧ w.heap.size ≤ b4 ∧ b4 < W6.heap.size ∧ W6.heap.size ≤ W6.heap.size) := Lib.hid (by
    have h2 := HIN2.out.turn.size
    have h3 := ht6.size
    have h4 := own_lt HO3.out b4 rfl
    refine ⟨by omega, by omega, by omega, by omega, by omega, by omega⟩)
  have HO6 : Hid (W6.ownsRow 0 135 2 (.slice (some ⟨b4, 0, none⟩) q cp4) q (rbCells l)) := Lib.hid (rowT HO3.out ht6 (fun k hk => by simp [Value.ownBlock] at hk; subst hk; simpa using hb4x))
  have HBY : Hid (∀ W, Frm.Turn [bx] W6 W → W.cell? ⟨b4, j * 2 + 1, none⟩ = some (.slice (some ad) n yc)) := Lib.hid fun W hT => by
    refine hT.cell ?_ (by simpa using hb4x)
    rw [HO6.out.cellAt (j * 2 + 1) (by omega), (rbCells_get l j y HY.out).2, HYF.out]
  have HS6 : Hid (∀ W, Frm.Turn [b4] W6 W → W.cell? ⟨bx, 13, none⟩ = some (.slice (some ⟨b4, 0, none⟩) q cp4)) := Lib.hid fun W hT => by
    refine hT.cell ?_ (by simp; exact fun e => hb4x e.symm)
    rw [HIN6.out.cell, HC4.out]
    have := HSZCS.out
    simp [this]
  have HO11 : Hid ((W6.drew.alloc (.cells #[] 31)).ownsRow 0 31 1 (.slice (some ⟨W6.heap.size, 0, none⟩) 0 0) 0 []) := Lib.hid (World.ownsRow_made W6.drew #[] 0 (Nat.zero_le _) (by simp [maxLen]) (by simp))
  have HS11 : Hid (∀ jj u, (u64s y.1.ws)[jj]? = some u → (W6.drew.alloc (.cells #[] 31)).cell? (ad.add jj) = some u) := Lib.hid fun jj u hu => ((HIN6.out.turn.trans ((Frm.Turn.refl [] W6).drew) (by simp)).trans ((Frm.Turn.refl [] W6.drew).alloc _) (by simp)).cell (HWC.out jj u hu) (by simp)
  have HONE2 : Hid (∀ u ∈ u64s y.1.ws, u.oneCell' = true) := Lib.hid (by intro u hu; simp [u64s] at hu; obtain ⟨x, _, rfl⟩ := hu; rfl)
  have HTA : Hid (Frm.Turn [] W6 (W6.drew.alloc (.cells #[] 31))) := Lib.hid ((Frm.Turn.refl [] W6).drew.alloc _)
  have hjI : (j : Int) < (q : Int) := by omega
  clear c13 c13' f13 hin6 ht6 hb4 hb4x hlt2 hbq
  go_cut [36] (fun s36 W => ∃ b5 cp5, SetMid w bx bz bq b4 cp4 q n blk i j C4 (rbCells l) (u64s y.1.ws) W6 W b5 cp5)
  case first =>
    refine wp_region_held_drew (S := fun w' => w'.cell? ⟨bx, 13, none⟩ = some (.slice (some ⟨b4, 0, none⟩) q cp4)) (by kernel_rfl) ?_ (fun hHeld => ?_)
    · exact HS6.out _ ((Frm.Turn.refl _ W6).drew)
    refine wpAnyH_take (i := 0) (v := ?_) rfl (by kernel_rfl) (by kernel_rfl) (by kernel_rfl) (fun _ _ _ h => h) (Or.inl ⟨by rfl, ?_⟩) (by assumption) ?_
    rotate_left
    · (intro w hSw; (try dsimp only at hSw); go_simp; try with_reducible rfl)
    simp only [Act.put, List.getElem_toArray, List.getElem_cons_succ, List.getElem_cons_zero, List.setIfInBounds_toArray, List.set_cons_zero, List.set_cons_succ]
    refine wpAnyH_take (i := 1) (v := ?_) rfl (by kernel_rfl) (by kernel_rfl) (by kernel_rfl) (fun _ _ _ h => h) (Or.inl ⟨by rfl, ?_⟩) (by assumption) ?_
    rotate_left
    · (intro w hSw; (try dsimp only at hSw); go_simp; try with_reducible rfl)
    simp only [Act.put, List.getElem_toArray, List.getElem_cons_succ, List.getElem_cons_zero, List.setIfInBounds_toArray, List.set_cons_zero, List.set_cons_succ]
    refine wpAnyH_take (i := 2) (v := ?_) rfl (by kernel_rfl) (by kernel_rfl) (by kernel_rfl) (fun _ _ _ h => h) (Or.inl ⟨by rfl, ?_⟩) (by assumption) ?_
    rotate_left
    · (intro w hSw; (try dsimp only at hSw); go_simp; try with_reducible rfl)
    simp only [Act.put, List.getElem_toArray, List.getElem_cons_succ, List.getElem_cons_zero, List.setIfInBounds_toArray, List.set_cons_zero, List.set_cons_succ]
    refine wpAnyH_take (i := 4) (v := ?_) rfl (by kernel_rfl) (by kernel_rfl) (by kernel_rfl) (fun _ _ _ h => h) (Or.inl ⟨by rfl, ?_⟩) (by assumption) ?_
    rotate_left
    · (intro w hSw; (try dsimp only at hSw); go_simp; try with_reducible rfl)
    simp only [Act.put, List.getElem_toArray, List.getElem_cons_succ, List.getElem_cons_zero, List.setIfInBounds_toArray, List.set_cons_zero, List.set_cons_succ]
    refine wpAnyH_take (i := 5) (v := ?_) rfl (by kernel_rfl) (by kernel_rfl) (by kernel_rfl) (fun _ _ _ h => h) (Or.inl ⟨by rfl, ?_⟩) (by assumption) ?_
    rotate_left
    · (intro w hSw; (try dsimp only at hSw); go_simp; try with_reducible rfl)
    simp only [Act.put, List.getElem_toArray, List.getElem_cons_succ, List.getElem_cons_zero, List.setIfInBounds_toArray, List.set_cons_zero, List.set_cons_succ]
    refine wpAnyH_take (i := 6) (v := ?_) rfl (by kernel_rfl) (by kernel_rfl) (by kernel_rfl) (fun _ _ _ h => h) (Or.inl ⟨by rfl, ?_⟩) (by assumption) ?_
    rotate_left
    · (intro w hSw; (try dsimp only at hSw); go_simp; try with_reducible rfl)
    simp only [Act.put, List.getElem_toArray, List.getElem_cons_succ, List.getElem_cons_zero, List.setIfInBounds_toArray, List.set_cons_zero, List.set_cons_succ]
    refine wpAnyH_take (i := 7) (v := ?_) rfl (by kernel_rfl) (by kernel_rfl) (by kernel_rfl) (fun _ _ _ h => h) (Or.inl ⟨by rfl, ?_⟩) (by assumption) ?_
    rotate_left
    · (intro w hSw; (try dsimp only at hSw); go_simp; try with_reducible rfl)
    simp only [Act.put, List.getElem_toArray, List.getElem_cons_succ, List.getElem_cons_zero, List.setIfInBounds_toArray, List.set_cons_zero, List.set_cons_succ]
    refine wpAnyH_take (i := 8) (v := ?_) rfl (by kernel_rfl) (by kernel_rfl) (by kernel_rfl) (fun _ _ _ h => h) (Or.inl ⟨by rfl, ?_⟩) (by assumption) ?_
    rotate_left
    · (intro w hSw; (try dsimp only at hSw); go_simp; try with_reducible rfl)
    simp only [Act.put, List.getElem_toArray, List.getElem_cons_succ, List.getElem_cons_zero, List.setIfInBounds_toArray, List.set_cons_zero, List.set_cons_succ]
    refine wpAnyH_ready (rs := [3, 9]) (by kernel_rfl) (by simp) ?_
    refine AllReadyH.cons rfl (fun K hK => ?_) (AllReadyH.cons rfl (fun K hK => ?_) AllReadyH.nil)
    · simp only [List.getElem_toArray, List.getElem_cons_succ, List.getElem_cons_zero]
      go_simp
      refine hK _ _ (HS6.out _ (HTA.out.mono (by simp))) (fun hHeld => ?_)
      clear hK K
      try simp only [Act.put, List.getElem_toArray, List.getElem_cons_succ, List.getElem_cons_zero, List.setIfInBounds_toArray, List.set_cons_zero, List.set_cons_succ]
      refine wpAnyH_ready (rs := [9]) (by kernel_rfl) (by simp) ?_
      refine AllReadyH.cons rfl (fun K hK => ?_) AllReadyH.nil
      simp only [List.getElem_toArray, List.getElem_cons_succ, List.getElem_cons_zero]
      have cc : (W6.alloc (.cells #[] 31)).cell? ⟨b4, j * 2 + 1, none⟩ = some (.slice (some ad) n yc) := HBY.out _ (((Frm.Turn.refl [] W6).alloc _).mono (by simp))
      go_simp
      refine hK _ _ (HS6.out _ (HTA.out.mono (by simp))) (fun hHeld => ?_)
      clear hK K cc
      try simp only [Act.put, List.getElem_toArray, List.getElem_cons_succ, List.getElem_cons_zero, List.setIfInBounds_toArray, List.set_cons_zero, List.set_cons_succ]
      refine wpAnyH_ready (rs := [10]) (by kernel_rfl) (by simp) ?_
      refine AllReadyH.cons rfl (fun K hK => ?_) AllReadyH.nil
      simp only [List.getElem_toArray, List.getElem_cons_succ, List.getElem_cons_zero]
      refine wp_append_fresh _ (.tmp 29) (.tmp 35) 25 rfl 31 j0 (.int .u64 0) 1 8 under_u64s hj0 hy0 hy1 hy2 rfl (by decide) (.slice (some ⟨W6.heap.size, 0, none⟩) 0 0) rfl HO11.out ad n yc (u64s y.1.ws) rfl (by rw [HN.out]; simp [u64s]) HS11.out HONE2.out (by omega) (by unfold maxLen; omega) (by omega) ?_
      intro b5 cp5 w7 hown7 hg7 hat7 hlt7
      have HT7 : Hid (Frm.Turn [] W6 w7) := Lib.hid (HTA.out.trans (Frm.Turn.of_grown hg7) (fun k hk => .inr (by simp [Value.ownBlock] at hk; omega)))
      have HO7 := Lib.hid hown7
      have HB5 : Hid (W6.heap.size ≤ b5 ∧ b5 < w7.heap.size) := Lib.hid ⟨by
        rcases hat7 with e | e
        · simp [Value.ownBlock] at e; omega
        · rw [e]; simp, hlt7⟩
      clear hown7 hg7 hat7 hlt7
      refine hK _ _ (HS6.out _ (HT7.out.mono (by simp))) (fun hHeld => ?_)
      clear hK K
      try simp only [Act.put, List.getElem_toArray, List.getElem_cons_succ, List.getElem_cons_zero, List.setIfInBounds_toArray, List.set_cons_zero, List.set_cons_succ]
      refine wpAnyH_take (i := 11) (v := ?_) rfl (by kernel_rfl) (by kernel_rfl) (by kernel_rfl) (fun _ _ _ h => h) (Or.inl ⟨by rfl, ?_⟩) (by assumption) ?_
      rotate_left
      · (intro w hSw; (try dsimp only at hSw); go_simp; try with_reducible rfl)
      simp only [Act.put, List.getElem_toArray, List.getElem_cons_succ, List.getElem_cons_zero, List.setIfInBounds_toArray, List.set_cons_zero, List.set_cons_succ]
      refine wpAnyH_take (i := 12) (v := ?_) rfl (by kernel_rfl) (by kernel_rfl) (by kernel_rfl) (fun _ _ _ h => h) (Or.inl ⟨by rfl, ?_⟩) (by assumption) ?_
      rotate_left
      · (intro w hSw; (try dsimp only at hSw); go_simp; try with_reducible rfl)
      simp only [Act.put, List.getElem_toArray, List.getElem_cons_succ, List.getElem_cons_zero, List.setIfInBounds_toArray, List.set_cons_zero, List.set_cons_succ]
      refine wpAnyH_ready (rs := [13]) (by kernel_rfl) (by simp) ?_
      refine AllReadyH.cons rfl (fun K hK => ?_) AllReadyH.nil
      simp only [List.getElem_toArray, List.getElem_cons_succ, List.getElem_cons_zero]
      have fr4 : w7.frozen? ⟨b4, j * 2 + 1, none⟩ = false := (rowT HO6.out HT7.out (by simp)).frozenAt (j * 2 + 1)
      have cc4 := HBY.out w7 (HT7.out.mono (by simp))
      go_simp
      have HTW : Hid (Frm.Turn [b4] W6 (w7.setCell ⟨b4, j * 2 + 1, none⟩ (.slice (some ⟨b5, 0, none⟩) n cp5))) := Lib.hid ((HT7.out.mono (by simp)).setCell (p := ⟨b4, j * 2 + 1, none⟩) (.inl (by simp)) _)
      refine hK _ _ (HS6.out _ HTW.out) (fun hHeld => ?_)
      clear hK K
      refine wpAnyH_done (by kernel_rfl) ?_ _
      go_wp2_with fail
      go_meet
      refine ⟨b5, cp5, HIN6.out.step HTW.out (fun k hk => by simp at hk; subst hk; exact HNE.out.2.2.2.1) (by simp; exact fun e => HNE.out.1 e.symm) (by simp; exact fun e => HNE.out.2.1 e.symm), HTW.out.keep HBQ6.out (by simp; exact fun e => HNE.out.2.2.1 e.symm), ((rowT HO6.out HT7.out (by simp)).stored (j * 2 + 1) _).1, ?_, HB5.out.1, by simpa using HB5.out.2⟩
      exact rowT HO7.out ((Frm.Turn.refl [b4] w7).setCell (p := ⟨b4, j * 2 + 1, none⟩) (.inl (by simp)) _) (fun k hk => by simp [Value.ownBlock] at hk; subst hk; have h1 := HB5.out.1; have h2 := HNE.out.2.2.2.2.1; simp; omega)
    · simp only [List.getElem_toArray, List.getElem_cons_succ, List.getElem_cons_zero]
      have cc : W6.cell? ⟨b4, j * 2 + 1, none⟩ = some (.slice (some ad) n yc) := HBY.out _ (Frm.Turn.refl _ W6)
      go_simp
      refine hK _ _ (HS6.out _ ((Frm.Turn.refl _ W6).drew)) (fun hHeld => ?_)
      clear hK K cc
      try simp only [Act.put, List.getElem_toArray, List.getElem_cons_succ, List.getElem_cons_zero, List.setIfInBounds_toArray, List.set_cons_zero, List.set_cons_succ]
      refine wpAnyH_ready (rs := [3]) (by kernel_rfl) (by simp) ?_
      refine AllReadyH.cons rfl (fun K hK => ?_) AllReadyH.nil
      simp only [List.getElem_toArray, List.getElem_cons_succ, List.getElem_cons_zero]
      go_simp
      refine hK _ _ (HS6.out _ (HTA.out.mono (by simp))) (fun hHeld => ?_)
      clear hK K
      try simp only [Act.put, List.getElem_toArray, List.getElem_cons_succ, List.getElem_cons_zero, List.setIfInBounds_toArray, List.set_cons_zero, List.set_cons_succ]
      refine wpAnyH_ready (rs := [10]) (by kernel_rfl) (by simp) ?_
      refine AllReadyH.cons rfl (fun K hK => ?_) AllReadyH.nil
      simp only [List.getElem_toArray, List.getElem_cons_succ, List.getElem_cons_zero]
      refine wp_append_fresh _ (.tmp 29) (.tmp 35) 25 rfl 31 j0 (.int .u64 0) 1 8 under_u64s hj0 hy0 hy1 hy2 rfl (by decide) (.slice (some ⟨W6.heap.size, 0, none⟩) 0 0) rfl HO11.out ad n yc (u64s y.1.ws) rfl (by rw [HN.out]; simp [u64s]) HS11.out HONE2.out (by omega) (by unfold maxLen; omega) (by omega) ?_
      intro b5 cp5 w7 hown7 hg7 hat7 hlt7
      have HT7 : Hid (Frm.Turn [] W6 w7) := Lib.hid (HTA.out.trans (Frm.Turn.of_grown hg7) (fun k hk => .inr (by simp [Value.ownBlock] at hk; omega)))
      have HO7 := Lib.hid hown7
      have HB5 : Hid (W6.heap.size ≤ b5 ∧ b5 < w7.heap.size) := Lib.hid ⟨by
        rcases hat7 with e | e
        · simp [Value.ownBlock] at e; omega
        · rw [e]; simp, hlt7⟩
      clear hown7 hg7 hat7 hlt7
      refine hK _ _ (HS6.out _ (HT7.out.mono (by simp))) (fun hHeld => ?_)
      clear hK K
      try simp only [Act.put, List.getElem_toArray, List.getElem_cons_succ, List.getElem_cons_zero, List.setIfInBounds_toArray, List.set_cons_zero, List.set_cons_succ]
      refine wpAnyH_take (i := 11) (v := ?_) rfl (by kernel_rfl) (by kernel_rfl) (by kernel_rfl) (fun _ _ _ h => h) (Or.inl ⟨by rfl, ?_⟩) (by assumption) ?_
      rotate_left
      · (intro w hSw; (try dsimp only at hSw); go_simp; try with_reducible rfl)
      simp only [Act.put, List.getElem_toArray, List.getElem_cons_succ, List.getElem_cons_zero, List.setIfInBounds_toArray, List.set_cons_zero, List.set_cons_succ]
      refine wpAnyH_take (i := 12) (v := ?_) rfl (by kernel_rfl) (by kernel_rfl) (by kernel_rfl) (fun _ _ _ h => h) (Or.inl ⟨by rfl, ?_⟩) (by assumption) ?_
      rotate_left
      · (intro w hSw; (try dsimp only at hSw); go_simp; try with_reducible rfl)
      simp only [Act.put, List.getElem_toArray, List.getElem_cons_succ, List.getElem_cons_zero, List.setIfInBounds_toArray, List.set_cons_zero, List.set_cons_succ]
      refine wpAnyH_ready (rs := [13]) (by kernel_rfl) (by simp) ?_
      refine AllReadyH.cons rfl (fun K hK => ?_) AllReadyH.nil
      simp only [List.getElem_toArray, List.getElem_cons_succ, List.getElem_cons_zero]
      have fr4 : w7.frozen? ⟨b4, j * 2 + 1, none⟩ = false := (rowT HO6.out HT7.out (by simp)).frozenAt (j * 2 + 1)
      have cc4 := HBY.out w7 (HT7.out.mono (by simp))
      go_simp
      have HTW : Hid (Frm.Turn [b4] W6 (w7.setCell ⟨b4, j * 2 + 1, none⟩ (.slice (some ⟨b5, 0, none⟩) n cp5))) := Lib.hid ((HT7.out.mono (by simp)).setCell (p := ⟨b4, j * 2 + 1, none⟩) (.inl (by simp)) _)
      refine hK _ _ (HS6.out _ HTW.out) (fun hHeld => ?_)
      clear hK K
      refine wpAnyH_done (by kernel_rfl) ?_ _
      go_wp2_with fail
      go_meet
      refine ⟨b5, cp5, HIN6.out.step HTW.out (fun k hk => by simp at hk; subst hk; exact HNE.out.2.2.2.1) (by simp; exact fun e => HNE.out.1 e.symm) (by simp; exact fun e => HNE.out.2.1 e.symm), HTW.out.keep HBQ6.out (by simp; exact fun e => HNE.out.2.2.1 e.symm), ((rowT HO6.out HT7.out (by simp)).stored (j * 2 + 1) _).1, ?_, HB5.out.1, by simpa using HB5.out.2⟩
      exact rowT HO7.out ((Frm.Turn.refl [b4] w7).setCell (p := ⟨b4, j * 2 + 1, none⟩) (.inl (by simp)) _) (fun k hk => by simp [Value.ownBlock] at hk; subst hk; have h1 := HB5.out.1; have h2 := HNE.out.2.2.2.2.1; simp; omega)
  case rest =>
    obtain ⟨b5, cp5, hm⟩ := hcut
    obtain ⟨W7, rfl⟩ : ∃ W7 : World, W7 = wc := ⟨_, rfl⟩
    have HM := Lib.hid hm
    have hb5 : b5 ≠ bx ∧ b5 ≠ bz ∧ b5 ≠ bq ∧ b5 ≠ b4 := by
      have h1 := HIN6.out.lt
      have h2 := (Array.getElem?_eq_some_iff.1 HBQ6.out).1
      have h3 := HNE.out.2.2.2.2.1
      have h4 := hm.n5
      refine ⟨by omega, by omega, by omega, by omega⟩
    have hlj : (rbCells l).length = q * 2 := by rw [rbCells_length, HQ.out]
    have HS7 : Hid (∀ W, Frm.Turn [b5] W7 W → (W.cell? ⟨bx, 13, none⟩ = some (.slice (some ⟨b4, 0, none⟩) q cp4) ∧ W.cell? ⟨b4, j * 2 + 1, none⟩ = some (.slice (some ⟨b5, 0, none⟩) n cp5) ∧ W.cell? ⟨bq, 1, none⟩ = some (.int .i64 i))) := Lib.hid fun W hT => by
      refine ⟨hT.cell ?_ (by simp; exact fun e => hb5.1 e.symm), hT.cell ?_ (by simp; exact fun e => hb5.2.2.2 e.symm), hT.cell ?_ (by simp; exact fun e => hb5.2.2.1 e.symm)⟩
      · rw [hm.rin.cell, HC4.out]
        have := HSZCS.out
        simp [this]
      · rw [hm.r4.cellAt (j * 2 + 1) (by omega), List.getElem?_set, if_pos rfl, if_pos (by omega)]
      · exact Frm.cell_row _ _ _ _ _ _ hm.box
    have hmn : i.toNat < y.1.ws.length := by rw [← HN.out]; omega
    have cc5 : W7.drew.cell? ⟨b5, i.toNat, none⟩ = some (.int .u64 (y.1.ws.getD i.toNat 0)) := by
      show W7.cell? ⟨b5, i.toNat, none⟩ = _
      rw [hm.r5.cellAt i.toNat (by omega), word_at hmn]
    have fr5 : W7.drew.frozen? ⟨b5, i.toNat, none⟩ = false := hm.r5.frozenAt i.toNat
    have hi1' : i < (n : Int) := hi1
    have HB5 := Lib.hid hb5
    clear hm hb5 hlj
    go_upto_region 7 with fail
    refine wp_region_held_drew (S := fun w' => w'.cell? ⟨bx, 13, none⟩ = some (.slice (some ⟨b4, 0, none⟩) q cp4) ∧ w'.cell? ⟨b4, j * 2 + 1, none⟩ = some (.slice (some ⟨b5, 0, none⟩) n cp5) ∧ w'.cell? ⟨bq, 1, none⟩ = some (.int .i64 i)) (by kernel_rfl) ?_ (fun hHeld => ?_)
    · exact HS7.out _ ((Frm.Turn.refl _ W7).drew)
    refine wpAnyH_take (i := 0) (v := ?_) rfl (by kernel_rfl) (by kernel_rfl) (by kernel_rfl) (fun _ _ _ h => h) (Or.inl ⟨by rfl, ?_⟩) (by assumption) ?_
    rotate_left
    · (intro w hSw; (try dsimp only at hSw); go_simp; try with_reducible rfl)
    simp only [Act.put, List.getElem_toArray, List.getElem_cons_succ, List.getElem_cons_zero, List.setIfInBounds_toArray, List.set_cons_zero, List.set_cons_succ]
    refine wpAnyH_take (i := 1) (v := ?_) rfl (by kernel_rfl) (by kernel_rfl) (by kernel_rfl) (fun _ _ _ h => h) (Or.inl ⟨by rfl, ?_⟩) (by assumption) ?_
    rotate_left
    · (intro w hSw; (try dsimp only at hSw); go_simp; try with_reducible rfl)
    simp only [Act.put, List.getElem_toArray, List.getElem_cons_succ, List.getElem_cons_zero, List.setIfInBounds_toArray, List.set_cons_zero, List.set_cons_succ]
    refine wpAnyH_take (i := 2) (v := ?_) rfl (by kernel_rfl) (by kernel_rfl) (by kernel_rfl) (fun _ _ _ h => h) (Or.inl ⟨by rfl, ?_⟩) (by assumption) ?_
    rotate_left
    · (intro w hSw; (try dsimp only at hSw); go_simp; try with_reducible rfl)
    simp only [Act.put, List.getElem_toArray, List.getElem_cons_succ, List.getElem_cons_zero, List.setIfInBounds_toArray, List.set_cons_zero, List.set_cons_succ]
    refine wpAnyH_take (i := 3) (v := ?_) rfl (by kernel_rfl) (by kernel_rfl) (by kernel_rfl) (fun _ _ _ h => h) (Or.inl ⟨by rfl, ?_⟩) (by assumption) ?_
    rotate_left
    · (intro w hSw; (try dsimp only at hSw); go_simp; try with_reducible rfl)
    simp only [Act.put, List.getElem_toArray, List.getElem_cons_succ, List.getElem_cons_zero, List.setIfInBounds_toArray, List.set_cons_zero, List.set_cons_succ]
    refine wpAnyH_take (i := 4) (v := ?_) rfl (by kernel_rfl) (by kernel_rfl) (by kernel_rfl) (fun _ _ _ h => h) (Or.inl ⟨by rfl, ?_⟩) (by assumption) ?_
    rotate_left
    · (intro w hSw; (try dsimp only at hSw); go_simp; try with_reducible rfl)
    simp only [Act.put, List.getElem_toArray, List.getElem_cons_succ, List.getElem_cons_zero, List.setIfInBounds_toArray, List.set_cons_zero, List.set_cons_succ]
    refine wpAnyH_take (i := 5) (v := ?_) rfl (by kernel_rfl) (by kernel_rfl) (by kernel_rfl) (fun _ _ _ h => h) (Or.inl ⟨by rfl, ?_⟩) (by assumption) ?_
    rotate_left
    · (intro w hSw; (try dsimp only at hSw); go_simp; try with_reducible rfl)
    simp only [Act.put, List.getElem_toArray, List.getElem_cons_succ, List.getElem_cons_zero, List.setIfInBounds_toArray, List.set_cons_zero, List.set_cons_succ]
    refine wpAnyH_take (i := 6) (v := ?_) rfl (by kernel_rfl) (by kernel_rfl) (by kernel_rfl) (fun _ _ _ h => h) (Or.inl ⟨by rfl, ?_⟩) (by assumption) ?_
    rotate_left
    · (intro w hSw; (try dsimp only at hSw); go_simp; try with_reducible rfl)
    simp only [Act.put, List.getElem_toArray, List.getElem_cons_succ, List.getElem_cons_zero, List.setIfInBounds_toArray, List.set_cons_zero, List.set_cons_succ]
    refine wpAnyH_take (i := 7) (v := ?_) rfl (by kernel_rfl) (by kernel_rfl) (by kernel_rfl) (fun _ _ _ h => h) (Or.inl ⟨by rfl, ?_⟩) (by assumption) ?_
    rotate_left
    · (intro w hSw; (try dsimp only at hSw); go_simp; try with_reducible rfl)
    simp only [Act.put, List.getElem_toArray, List.getElem_cons_succ, List.getElem_cons_zero, List.setIfInBounds_toArray, List.set_cons_zero, List.set_cons_succ]
    refine wpAnyH_take (i := 8) (v := ?_) rfl (by kernel_rfl) (by kernel_rfl) (by kernel_rfl) (fun _ _ _ h => h) (Or.inl ⟨by rfl, ?_⟩) (by assumption) ?_
    rotate_left
    · (intro w hSw; (try dsimp only at hSw); go_simp; try with_reducible rfl)
    simp only [Act.put, List.getElem_toArray, List.getElem_cons_succ, List.getElem_cons_zero, List.setIfInBounds_toArray, List.set_cons_zero, List.set_cons_succ]
    refine wpAnyH_take (i := 9) (v := ?_) rfl (by kernel_rfl) (by kernel_rfl) (by kernel_rfl) (fun _ _ _ h => h) (Or.inl ⟨by rfl, ?_⟩) (by assumption) ?_
    rotate_left
    · (intro w hSw; (try dsimp only at hSw); go_simp; try with_reducible rfl)
    simp only [Act.put, List.getElem_toArray, List.getElem_cons_succ, List.getElem_cons_zero, List.setIfInBounds_toArray, List.set_cons_zero, List.set_cons_succ]
    refine wpAnyH_ready (rs := [10]) (by kernel_rfl) (by simp) ?_
    refine AllReadyH.cons rfl (fun K hK => ?_) AllReadyH.nil
    simp only [List.getElem_toArray, List.getElem_cons_succ, List.getElem_cons_zero]
    go_simp
    have HTW : Hid (Frm.Turn [b5] W7 (W7.setCell ⟨b5, i.toNat, none⟩ (.int .u64 x)).drew) := Lib.hid (((Frm.Turn.refl [b5] W7).setCell (p := ⟨b5, i.toNat, none⟩) (.inl (by simp)) _).drew)
    refine hK _ _ (HS7.out _ HTW.out) (fun hHeld => ?_)
    clear hK K cc5 fr5
    refine wpAnyH_done (by kernel_rfl) ?_ _
    have HR5 : Hid ((W7.setCell ⟨b5, i.toNat, none⟩ (.int .u64 x)).drew.ownsRow 0 31 1 (.slice (some ⟨b5, 0, none⟩) n cp5) n ((u64s y.1.ws).set i.toNat (.int .u64 x))) := Lib.hid (World.ownsRow.drew (HM.out.r5.stored i.toNat _).1)
    have hin8 := HM.out.rin.step HTW.out (fun k hk => by
      simp at hk; subst hk
      have h1 := HM.out.n5
      have h2 := HIN6.out.turn.size
      omega) (by simp; exact fun e => HB5.out.1 e.symm) (by simp; exact fun e => HB5.out.2.1 e.symm)
    generalize (W7.setCell ⟨b5, i.toNat, none⟩ (.int .u64 x)).drew = W8 at hin8 HTW HR5 ⊢
    have HSZC4 : Hid (C4.size = 20) := Lib.hid (by rw [HC4.out]; simpa using HSZCS.out)
    have HC5 : Hid (C4 = refCells A f0 f1 f2 f3 f4 f5 f6 f7 f8 (.slice (some ⟨b4, 0, none⟩) q cp4)) := Lib.hid (by rw [HC4.out, HCS.out]; simp [refCells])
    have HONEC4 : Hid (C4.all (·.oneCell') = true) := Lib.hid (by rw [HC5.out]; exact refCells_one _ _ _ _ _ _ _ _ _ _ _ _ _)
    obtain ⟨Z, z1, z2⟩ := hin8.res
    have HZ1 := Lib.hid z1
    have HZ2 := Lib.hid z2
    have hld := hin8.told HSZC4.out HFS.out
    have HIN8 := Lib.hid hin8
    clear hin8 z1 z2
    go_wp2_with (first
      | (refine wpList_load_row rfl 37 (.tmp 3) rfl bx rfl 37 C4 (0, 0) (.struct fs) HIN8.out.own HFS.out rfl (by rw [HSZC4.out]; exact info_refA) ?_)
      | (refine wpList_store_row rfl 37 (.tmp 6) (.tmp 49) rfl bz C4 rfl rfl 37 Z HZ2.out (by rw [HSZC4.out]; exact info_refA) (by rw [HZ1.out, HSZC4.out]) HONEC4.out ?_))
    have hTE : Frm.Turn [bz] W8 (W8.setRow bz C4) := setRow_turn (Frm.Turn.refl _ _) (.inl (by simp)) C4
    have hTW : Frm.Turn [b5, bz] W7 (W8.setRow bz C4) := (HTW.out.mono (by simp)).trans (hTE.mono (by simp)) (fun k hk => .inl hk)
    have hz7 := HIN6.out.lt
    have hsz := hTW.size
    have n5 := HM.out.n5
    have l5 := HM.out.l5
    have w6 := HIN6.out.turn.size
    refine bodyPost_ret (v := .agg C4) (by simp [results, Tryz.results72, asAddr, hld, Act.put]) rfl ⟨.slice (some ⟨b4, 0, none⟩) q cp4, .slice (some ⟨b5, 0, none⟩) n cp5, by rw [HC5.out], ?_, HIN8.out.end_, fun k hk => ?_, fun k hk => ?_⟩
    · have hset := rbCells_set l j y (⟨y.1.h, y.1.ws.set i.toNat x⟩, .slice (some ⟨b5, 0, none⟩) n cp5) HY.out rfl
      refine BlksAt.of_row (w6 := W7) (F := [b5, bz]) (fun z hz => ?_) (by rw [List.length_set, ← HQ.out, hset]; exact HM.out.r4) hTW (fun k hk => by
        simp [Value.ownBlock] at hk; subst hk
        simp; exact ⟨fun e => HB5.out.2.2.2 e.symm, HNE.out.2.1⟩)
      rcases List.mem_or_eq_of_mem_set hz with hz | rfl
      · exact (HB.out.rows z hz).turn HIN8.out.end_ (by simp)
      · have hr := HR5.out
        rw [← u64s_set] at hr
        have hnl : n = (y.1.ws.set i.toNat x).length := by rw [HN.out]; simp
        show WordsAt _ (.slice (some ⟨b5, 0, none⟩) n cp5) (y.1.ws.set i.toNat x)
        rw [hnl] at hr ⊢
        exact (WordsAt.own hr).turn hTE (fun k hk => by simp [Value.ownBlock] at hk; subst hk; simp; exact HB5.out.2.1)
    · simp [Value.ownBlock] at hk; subst hk
      have := HNE.out
      have := HTW.out.size
      have : W6.heap.size ≤ W7.heap.size := by omega
      exact ⟨HNE.out.2.2.2.1, by omega⟩
    · simp [Value.ownBlock] at hk; subst hk
      exact ⟨by omega, by omega⟩
end Arn
end Go.Proofs.YtpajafecodkndaaGreat

set_option linter.unusedVariables false
set_option linter.unusedSimpArgs false
namespace Go.Proofs.YtpajafecodkndaaGreat
namespace Arn
open Go.RowKit Hp Go.Maps

/-- The document's arena, by value, with its fixed words. -/
def RefS (w : World) (A : Ar) (u : Value) (G : List Nat) : Prop := ∃ f0 f1 f2 f3 f4 f5 f6 f7 f8 : Int, A.fixed = [f0, f1, f2, f3, f4, f5, f6, f7, f8] ∧ RefAt w A f0 f1 f2 f3 f4 f5 f6 f7 f8 u G
theorem RefS.turn {w w' : World} {A : Ar} {u : Value} {G F : List Nat} (h : RefS w A u G) (hT : Frm.Turn F w w') (hG : ∀ k, k ∈ G → k ∉ F) : RefS w' A u G := by
  obtain ⟨f0, f1, f2, f3, f4, f5, f6, f7, f8, h1, h2⟩ := h
  exact ⟨f0, f1, f2, f3, f4, f5, f6, f7, f8, h1, h2.turn hT hG⟩
theorem RefS.row {w : World} {A : Ar} {u : Value} {G : List Nat} (h : RefS w A u G) : ∃ CS : Array Value, u = .agg CS ∧ CS.size = 20 ∧ CS.all (·.oneCell') = true := by
  obtain ⟨f0, f1, f2, f3, f4, f5, f6, f7, f8, h1, v, l, rfl, h3, h4, h5⟩ := h
  obtain ⟨a, c, rfl⟩ := h4.form
  exact ⟨_, rfl, rfl, refCells_one _ _ _ _ _ _ _ _ _ _ _ _ _⟩
theorem RefIn.tells {w W : World} {bx bz : Nat} {CS : Array Value} (h : RefIn w bx bz CS W) (C : Array Value) (hsz : C.size = 20) {fs : Array Field} (hfs : Tryz.prog.underlying 37 = some (.struct fs)) :
    (loadVar 37 ⟨bz, 0, none⟩).run Tryz.prog (W.setRow bz C) = .ok (.agg C) (W.setRow bz C) := by
  obtain ⟨Z, z1, z2⟩ := h.res
  exact run_loadVar_row (W.setRow bz C) bz _ _ C (0, 0) (.struct fs) (setRow_heap W bz Z C _ _ z2) hfs rfl (by rw [hsz]; exact info_refA)
theorem RefIn.ends {w W : World} {bx bz : Nat} {CS : Array Value} (h : RefIn w bx bz CS W) (C : Array Value) : Frm.Turn [] w (W.setRow bz C) := setRow_turn h.turn (.inr h.nz) C
theorem RefIn.put {w W : World} {bx bz : Nat} {CS : Array Value} (h : RefIn w bx bz CS W) (C : Array Value) : RefIn w bx bz C (W.setRow bx C) ∧ Frm.Turn [bx] W (W.setRow bx C) := by
  have hT : Frm.Turn [bx] W (W.setRow bx C) := setRow_turn (Frm.Turn.refl _ _) (.inl (by simp)) C
  obtain ⟨Z, z1, z2⟩ := h.res
  exact ⟨⟨setRow_heap W bx CS C _ _ h.own, ⟨Z, z1, hT.keep z2 (by simp; exact fun e => h.ne e.symm)⟩, h.ne, h.nx, h.nz, setRow_turn h.turn (.inr h.nx) C⟩, hT⟩
theorem refSet_any (A : Ar) (u : Value) (G : List Nat) (w : World) (h : RefS w A u G) (hok : A.Ok) (blk i x : Int) (he : A.err blk i = 0) :
    Calls Tryz.prog 72 #[u, .agg #[.int .u64 blk, .int .i64 i], .int .u64 x] w fun e w' => ∃ u' G', e = .returned u' ∧ RefS w' (A.set blk i x) u' G' ∧ Frm.Turn [] w w' ∧ ∀ q, q ∈ G' → q ∈ G ∨ (w.heap.size ≤ q ∧ q < w'.heap.size) := by
  obtain ⟨f0, f1, f2, f3, f4, f5, f6, f7, f8, hfix, v, l, rfl, hAL, hB, rfl⟩ := h
  have hl := len_of hok hAL
  obtain ⟨ws, hr, hi0, hi1, _⟩ := err_row he
  by_cases hz : blk = 0
  · have hrow : A.row blk = some A.fixed := by unfold Ar.row; rw [if_pos hz]
    have hi9 : i < 9 := by
      rw [hrow] at hr
      cases hr
      rw [hfix] at hi1
      simpa using hi1
    refine (refSet_fix A f0 f1 f2 f3 f4 f5 f6 f7 f8 v l w hB (by omega) blk i x hz hi0 hi9).mono ?_
    rintro e w' ⟨rfl, hT⟩
    obtain ⟨g0, g1, g2, g3, g4, g5, g6, g7, g8, h1, h2⟩ := fix_set A f0 f1 f2 f3 f4 f5 f6 f7 f8 v x i.toNat (by omega)
    have e1 : A.set blk i x = { A with fixed := A.fixed.set i.toNat x } := by unfold Ar.set; rw [if_pos hz]
    refine ⟨_, _, rfl, ⟨g0, g1, g2, g3, g4, g5, g6, g7, g8, by rw [e1, h1, ← hfix], v, l, ?_, by rw [e1]; exact hAL, hB.step hT, rfl⟩, hT, fun q hq => .inl hq⟩
    rw [h2, e1]
    rfl
  · have hrow : A.row blk = look A.L blk := by unfold Ar.row; rw [if_neg hz]
    rw [hrow] at hr
    rcases place_of hok hAL blk with ⟨hh, _⟩ | ⟨hh, j, y, hy, hyk, hu, hyA⟩
    · rw [look_none.2 hh] at hr; cases hr
    · have hlk : look A.L blk = some y.1.ws := hok.look_some.2 ⟨y.1, List.mem_of_getElem? hyA, hyk, rfl⟩
      rw [hlk] at hr
      cases hr
      have hlen := (hok.len y.1 (List.mem_of_getElem? hyA)).2
      refine (refSet_blk A f0 f1 f2 f3 f4 f5 f6 f7 f8 v l w hB (by omega) blk i x hz j y hy hyk hu hi0 hi1 (by omega)).mono ?_
      rintro e w' ⟨v', v5, rfl, h2, hT, h4, h5⟩
      have e1 : A.set blk i x = { A with L := setW A.L blk i.toNat x } := by unfold Ar.set; rw [if_neg hz]
      have e2 := setW_place hok hyA i.toNat x
      rw [hyk] at e2
      refine ⟨_, _, rfl, ⟨f0, f1, f2, f3, f4, f5, f6, f7, f8, by rw [e1]; exact hfix, v', _, ?_, ?_, h2, rfl⟩, hT, fun q hq => ?_⟩
      · rw [e1]; rfl
      · rw [e1, List.map_set, hAL]
        show _ = setW A.L blk i.toNat x
        rw [e2, hyk]
      · rcases mem_refFoot.1 hq with hq | ⟨z, hz', hq⟩
        · exact .inr (h4 q hq)
        · rcases List.mem_or_eq_of_mem_set hz' with hz' | rfl
          · exact .inl (mem_refFoot.2 (.inr ⟨z, hz', hq⟩))
          · exact .inr (h5 q hq)
set_option maxRecDepth 100000 in
set_option maxHeartbeats 4000000 in
theorem refRead_any (A : Ar) (u : Value) (G : List Nat) (w : World) (h : RefS w A u G) (hok : A.Ok) (hf : A.faults ≤ 100000000) (ht : A.t.reads ≤ 100000000) (blk i : Int) :
    Calls Tryz.prog 117 #[u, .agg #[.int .u64 blk, .int .i64 i]] w fun e w' => ∃ u' G', e = .returned (.tuple #[u', .int .u64 (A.read blk i).2.1, .int .i64 (A.read blk i).2.2]) ∧ RefS w' (A.read blk i).1 u' G' ∧ Frm.Turn [] w w' ∧ ∀ q, q ∈ G' → q ∈ G ∨ (w.heap.size ≤ q ∧ q < w'.heap.size) := by
  obtain ⟨f0, f1, f2, f3, f4, f5, f6, f7, f8, hfix, v, l, rfl, hAL, hB, rfl⟩ := h
  obtain ⟨va, vc, rfl⟩ := hB.form
  obtain ⟨fs, hfs⟩ := struct_of under_refA
  have HG := Lib.hid (fun W (hT : Frm.Turn [] w W) => refGet_any A f0 f1 f2 f3 f4 f5 f6 f7 f8 _ l W (hB.step hT) hAL hok hfix hf blk i)
  have HB := Lib.hid hB
  have HAL := Lib.hid hAL
  have HFIX := Lib.hid hfix
  have HOK := Lib.hid hok
  have hfoot : ∀ k, k ∈ refFoot (.slice va l.length vc) l → k ∈ refFoot (.slice va l.length vc) l := fun k hk => hk
  obtain ⟨gw, HGW⟩ : ∃ x, Hid (x = A.gotW blk i) := ⟨_, Lib.hid rfl⟩
  obtain ⟨er, HER⟩ : ∃ x, Hid (x = A.err blk i) := ⟨_, Lib.hid rfl⟩
  obtain ⟨C2, HC2⟩ : ∃ C, Hid (C = refCells (A.got blk i) f0 f1 f2 f3 f4 f5 f6 f7 f8 (.slice va l.length vc)) := ⟨_, Lib.hid rfl⟩
  have HSZC2 : Hid (C2.size = 20) := Lib.hid (by rw [HC2.out]; rfl)
  have HONEC2 : Hid (C2.all (·.oneCell') = true) := Lib.hid (by rw [HC2.out]; exact refCells_one _ _ _ _ _ _ _ _ _ _ _ _ _)
  obtain ⟨CS, HCS⟩ : ∃ CS, Hid (CS = refCells A f0 f1 f2 f3 f4 f5 f6 f7 f8 (.slice va l.length vc)) := ⟨_, Lib.hid rfl⟩
  have HSZCS : Hid (CS.size = 20) := Lib.hid (by rw [HCS.out]; rfl)
  have HONECS : Hid (CS.all (·.oneCell') = true) := Lib.hid (by rw [HCS.out]; exact refCells_one _ _ _ _ _ _ _ _ _ _ _ _ _)
  have HFS := Lib.hid hfs
  rw [show refCells A f0 f1 f2 f3 f4 f5 f6 f7 f8 (.slice va l.length vc) = CS from HCS.out.symm]
  rw [← HCS.out, ← HC2.out, ← HGW.out, ← HER.out] at HG
  obtain ⟨GG, HGG⟩ : ∃ GG, Hid (GG = refFoot (.slice va l.length vc) l) := ⟨_, Lib.hid rfl⟩
  rw [← HGG.out]
  have HGL : Hid (∀ (A' : Ar) (C : Array Value) W, Frm.Turn [] w W → A'.L = A.L → A'.fixed = A.fixed → C = refCells A' f0 f1 f2 f3 f4 f5 f6 f7 f8 (.slice va l.length vc) → RefS W A' (.agg C) GG) := Lib.hid fun A' C W hT e1 e2 e3 =>
    ⟨f0, f1, f2, f3, f4, f5, f6, f7, f8, by rw [e2]; exact HFIX.out, _, l, by rw [e3], by rw [e1]; exact HAL.out, HB.out.step hT, HGG.out⟩
  clear hfs hAL hB hfix hfoot
  go_enter Tryz.func117, Tryz.ntmps117
  go_upto_region 1 with fail
  obtain ⟨hin, hbq⟩ := RefIn.start3 w CS #[.int .u64 blk, .int .i64 i] #[.int .i64 0, .int .i64 0, .int .i64 0, .int .i64 0, .int .u64 0, .int .u64 0, .int .u64 0, .int .u64 0, .int .u64 0, .int .u64 0, .int .u64 0, .int .u64 0, .int .u64 0, .slice none 0 0, .int .i64 0, .int .i64 0, .int .i64 0, .int .i64 0, .int .i64 0, .int .i64 0] rfl
  obtain ⟨bx, Hx⟩ : ∃ bx, Hid (bx = w.heap.size) := ⟨_, Lib.hid rfl⟩
  obtain ⟨bq, Hq⟩ : ∃ bq, Hid (bq = w.heap.size + 1) := ⟨_, Lib.hid rfl⟩
  obtain ⟨bz, Hz⟩ : ∃ bz, Hid (bz = w.heap.size + 2) := ⟨_, Lib.hid rfl⟩
  rw [← Hz.out, ← Hx.out] at hin
  rw [← Hq.out] at hbq
  rw [← Hz.out, ← Hq.out, ← Hx.out]
  generalize ((w.alloc (.cells CS 37)).alloc _).alloc _ = W1 at hin hbq ⊢
  have HIN := Lib.hid hin
  have HT1 := Lib.hid hin.turn
  have HBQ := Lib.hid hbq
  have a0 : W1.cell? ⟨bq, 0, none⟩ = some (.int .u64 blk) := Frm.cell_row _ _ _ _ _ _ hbq
  have a1 : W1.cell? ⟨bq, 1, none⟩ = some (.int .i64 i) := Frm.cell_row _ _ _ _ _ _ hbq
  clear hin hbq
  go_upto_region 2 with (first
    | (refine wpList_load_row rfl 37 (.tmp 2) rfl bx rfl 37 CS (0, 0) (.struct fs) HIN.out.own HFS.out rfl (by rw [HSZCS.out]; exact info_refA) ?_)
    | (go_at_call 71; (with_reducible refine (HG.out _ HT1.out).mono ?_); rintro e w2 ⟨rfl, hT⟩; have HT2 := Lib.hid hT; have HIN2 := Lib.hid (HIN.out.step hT (by simp) (by simp) (by simp)); clear hT)
    | (refine wpList_store_row rfl 37 (.tmp 2) (.tmp 13) rfl bx C2 rfl rfl 37 CS HIN2.out.own (by rw [HSZC2.out]; exact info_refA) (by rw [HSZC2.out, HSZCS.out]) HONEC2.out ?_))
  try simp only [Act.put, List.getElem_toArray, List.getElem_cons_succ, List.getElem_cons_zero, List.setIfInBounds_toArray, List.set_cons_zero, List.set_cons_succ]
  obtain ⟨hin3, ht3⟩ := HIN2.out.put C2
  have hbq3 := ht3.keep (HT2.out.keep HBQ.out (by simp)) (by rw [Hq.out, Hx.out]; simp)
  generalize w2.setRow bx C2 = W3 at hin3 ht3 hbq3 ⊢
  have HIN3 := Lib.hid hin3
  have HBQ3 := Lib.hid hbq3
  clear hin3 ht3 hbq3 a0 a1
  have a0 : W3.cell? ⟨bq, 0, none⟩ = some (.int .u64 blk) := Frm.cell_row _ _ _ _ _ _ HBQ3.out
  have a1 : W3.cell? ⟨bq, 1, none⟩ = some (.int .i64 i) := Frm.cell_row _ _ _ _ _ _ HBQ3.out
  by_cases hz : er = 0
  · have hez : (er == 0) = true := by simp [hz]
    have HZ := Lib.hid hz
    clear hz
    have hee : A.err blk i = 0 := by rw [← HER.out]; exact HZ.out
    have HC2' : Hid (C2 = refCells A f0 f1 f2 f3 f4 f5 f6 f7 f8 (.slice va l.length vc)) := Lib.hid (by rw [HC2.out]; unfold Ar.got; rw [if_pos hee])
    have HEE := Lib.hid hee
    clear hee
    have c16 : W3.cell? ⟨bx, 16, none⟩ = some (.int .i64 A.t.reads) := by rw [HIN3.out.cell, HC2'.out]; rfl
    have f16 := HIN3.out.thaw 16
    go_upto_region 4 with fail
    have hin4 := HIN3.out.set 16 (.int .i64 ((A.t.reads : Int) + 1))
    generalize W3.setCell ⟨bx, 16, none⟩ (.int .i64 ((A.t.reads : Int) + 1)) = W4 at hin4 ⊢
    rw [HC2'.out] at hin4
    obtain ⟨C3, HC3⟩ : ∃ C, Hid (C = refCells { A with t := { A.t with reads := A.t.reads + 1 } } f0 f1 f2 f3 f4 f5 f6 f7 f8 (.slice va l.length vc)) := ⟨_, Lib.hid rfl⟩
    rw [show (refCells A f0 f1 f2 f3 f4 f5 f6 f7 f8 (.slice va l.length vc)).setIfInBounds 16 (.int .i64 ((A.t.reads : Int) + 1)) = C3 by rw [HC3.out]; simp [refCells]] at hin4
    have HSZC3 : Hid (C3.size = 20) := Lib.hid (by rw [HC3.out]; rfl)
    have HONEC3 : Hid (C3.all (·.oneCell') = true) := Lib.hid (by rw [HC3.out]; exact refCells_one _ _ _ _ _ _ _ _ _ _ _ _ _)
    have HIN4 := Lib.hid hin4
    obtain ⟨Z, z1, z2⟩ := hin4.res
    have HZ1 := Lib.hid z1
    have HZ2 := Lib.hid z2
    have hld := hin4.told HSZC3.out HFS.out
    clear z1 z2 hin4 c16 f16
    go_wp2_with (first
      | (refine wpList_load_row rfl 37 (.tmp 2) rfl bx rfl 37 C3 (0, 0) (.struct fs) HIN4.out.own HFS.out rfl (by rw [HSZC3.out]; exact info_refA) ?_)
      | (refine wpList_store_row rfl 37 (.tmp 4) (.tmp 24) rfl bz C3 rfl rfl 37 Z HZ2.out (by rw [HSZC3.out]; exact info_refA) (by rw [HZ1.out, HSZC3.out]) HONEC3.out ?_))
    have hdef : A.read blk i = ({ A with t := { A.t with reads := A.t.reads + 1 } }, A.get blk i, 0) := by unfold Ar.read; rw [if_pos HEE.out]
    rw [hdef]
    refine bodyPost_ret (v := .tuple #[.agg C3, .int .u64 gw, .int .i64 er]) (by simp [results, Tryz.results117, asAddr, hld, Act.put]) rfl ⟨.agg C3, ?_, GG, HGL.out _ C3 _ HIN4.out.end_ rfl rfl HC3.out, HIN4.out.end_, fun q hq => .inl hq⟩
    simp [HZ.out, HGW.out, Ar.gotW, HEE.out]
  · have hez : (er == 0) = false := by simpa using hz
    have HNZ := Lib.hid hz
    clear hz
    obtain ⟨Z, z1, z2⟩ := HIN3.out.res
    have HZ1 := Lib.hid z1
    have HZ2 := Lib.hid z2
    have hld := HIN3.out.told HSZC2.out HFS.out
    clear z1 z2
    go_wp2_with (first
      | (refine wpList_load_row rfl 37 (.tmp 2) rfl bx rfl 37 C2 (0, 0) (.struct fs) HIN3.out.own HFS.out rfl (by rw [HSZC2.out]; exact info_refA) ?_)
      | (refine wpList_store_row rfl 37 (.tmp 4) (.tmp 24) rfl bz C2 rfl rfl 37 Z HZ2.out (by rw [HSZC2.out]; exact info_refA) (by rw [HZ1.out, HSZC2.out]) HONEC2.out ?_))
    have hee : A.err blk i ≠ 0 := by rw [← HER.out]; exact HNZ.out
    have hdef : A.read blk i = (A.miss, 0, A.err blk i) := by unfold Ar.read; rw [if_neg hee]
    rw [hdef]
    refine bodyPost_ret (v := .tuple #[.agg C2, .int .u64 gw, .int .i64 er]) (by simp [results, Tryz.results117, asAddr, hld, Act.put]) rfl ⟨.agg C2, GG, ?_, HGL.out A.miss C2 _ HIN3.out.end_ rfl rfl (by rw [HC2.out]; unfold Ar.got; rw [if_neg hee]), HIN3.out.end_, fun q hq => .inl hq⟩
    simp [HER.out, HGW.out, Ar.gotW, hee]
set_option maxRecDepth 100000 in
set_option maxHeartbeats 4000000 in
theorem refWrite_any (A : Ar) (u : Value) (G : List Nat) (w : World) (h : RefS w A u G) (hok : A.Ok) (hf : A.faults ≤ 100000000) (ht : A.t.writes ≤ 100000000) (blk i x : Int) (hlt : ∀ k, k ∈ G → k < w.heap.size) :
    Calls Tryz.prog 16 #[u, .agg #[.int .u64 blk, .int .i64 i], .int .u64 x] w fun e w' => ∃ u' G', e = .returned (.tuple #[u', .int .i64 (A.write blk i x).2]) ∧ RefS w' (A.write blk i x).1 u' G' ∧ Frm.Turn [] w w' ∧ ∀ q, q ∈ G' → q ∈ G ∨ (w.heap.size ≤ q ∧ q < w'.heap.size) := by
  obtain ⟨f0, f1, f2, f3, f4, f5, f6, f7, f8, hfix, v, l, rfl, hAL, hB, rfl⟩ := h
  obtain ⟨va, vc, rfl⟩ := hB.form
  obtain ⟨fs, hfs⟩ := struct_of under_refA
  have HG := Lib.hid (fun W (hT : Frm.Turn [] w W) => refGet_any A f0 f1 f2 f3 f4 f5 f6 f7 f8 _ l W (hB.step hT) hAL hok hfix hf blk i)
  have HB := Lib.hid hB
  have HAL := Lib.hid hAL
  have HFIX := Lib.hid hfix
  have HOK := Lib.hid hok
  have hfoot : ∀ k, k ∈ refFoot (.slice va l.length vc) l → k ∈ refFoot (.slice va l.length vc) l := fun k hk => hk
  obtain ⟨gw, HGW⟩ : ∃ x, Hid (x = A.gotW blk i) := ⟨_, Lib.hid rfl⟩
  obtain ⟨er, HER⟩ : ∃ x, Hid (x = A.err blk i) := ⟨_, Lib.hid rfl⟩
  obtain ⟨C2, HC2⟩ : ∃ C, Hid (C = refCells (A.got blk i) f0 f1 f2 f3 f4 f5 f6 f7 f8 (.slice va l.length vc)) := ⟨_, Lib.hid rfl⟩
  have HSZC2 : Hid (C2.size = 20) := Lib.hid (by rw [HC2.out]; rfl)
  have HONEC2 : Hid (C2.all (·.oneCell') = true) := Lib.hid (by rw [HC2.out]; exact refCells_one _ _ _ _ _ _ _ _ _ _ _ _ _)
  obtain ⟨CS, HCS⟩ : ∃ CS, Hid (CS = refCells A f0 f1 f2 f3 f4 f5 f6 f7 f8 (.slice va l.length vc)) := ⟨_, Lib.hid rfl⟩
  have HSZCS : Hid (CS.size = 20) := Lib.hid (by rw [HCS.out]; rfl)
  have HONECS : Hid (CS.all (·.oneCell') = true) := Lib.hid (by rw [HCS.out]; exact refCells_one _ _ _ _ _ _ _ _ _ _ _ _ _)
  have HFS := Lib.hid hfs
  rw [show refCells A f0 f1 f2 f3 f4 f5 f6 f7 f8 (.slice va l.length vc) = CS from HCS.out.symm]
  rw [← HCS.out, ← HC2.out, ← HGW.out, ← HER.out] at HG
  obtain ⟨GG, HGG⟩ : ∃ GG, Hid (GG = refFoot (.slice va l.length vc) l) := ⟨_, Lib.hid rfl⟩
  rw [← HGG.out] at hlt ⊢
  have HLT := Lib.hid hlt
  clear hlt
  have HGL : Hid (∀ (A' : Ar) (C : Array Value) W, Frm.Turn [] w W → A'.L = A.L → A'.fixed = A.fixed → C = refCells A' f0 f1 f2 f3 f4 f5 f6 f7 f8 (.slice va l.length vc) → RefS W A' (.agg C) GG) := Lib.hid fun A' C W hT e1 e2 e3 =>
    ⟨f0, f1, f2, f3, f4, f5, f6, f7, f8, by rw [e2]; exact HFIX.out, _, l, by rw [e3], by rw [e1]; exact HAL.out, HB.out.step hT, HGG.out⟩
  clear hfs hAL hB hfix hfoot
  go_enter Tryz.func16, Tryz.ntmps16
  go_upto_region 1 with fail
  obtain ⟨hin, hbq⟩ := RefIn.start3 w CS #[.int .u64 blk, .int .i64 i] #[.int .i64 0, .int .i64 0, .int .i64 0, .int .i64 0, .int .u64 0, .int .u64 0, .int .u64 0, .int .u64 0, .int .u64 0, .int .u64 0, .int .u64 0, .int .u64 0, .int .u64 0, .slice none 0 0, .int .i64 0, .int .i64 0, .int .i64 0, .int .i64 0, .int .i64 0, .int .i64 0] rfl
  obtain ⟨bx, Hx⟩ : ∃ bx, Hid (bx = w.heap.size) := ⟨_, Lib.hid rfl⟩
  obtain ⟨bq, Hq⟩ : ∃ bq, Hid (bq = w.heap.size + 1) := ⟨_, Lib.hid rfl⟩
  obtain ⟨bz, Hz⟩ : ∃ bz, Hid (bz = w.heap.size + 2) := ⟨_, Lib.hid rfl⟩
  rw [← Hz.out, ← Hx.out] at hin
  rw [← Hq.out] at hbq
  rw [← Hz.out, ← Hq.out, ← Hx.out]
  generalize ((w.alloc (.cells CS 37)).alloc _).alloc _ = W1 at hin hbq ⊢
  have HIN := Lib.hid hin
  have HT1 := Lib.hid hin.turn
  have HBQ := Lib.hid hbq
  have a0 : W1.cell? ⟨bq, 0, none⟩ = some (.int .u64 blk) := Frm.cell_row _ _ _ _ _ _ hbq
  have a1 : W1.cell? ⟨bq, 1, none⟩ = some (.int .i64 i) := Frm.cell_row _ _ _ _ _ _ hbq
  clear hin hbq
  go_upto_region 2 with (first
    | (refine wpList_load_row rfl 37 (.tmp 3) rfl bx rfl 37 CS (0, 0) (.struct fs) HIN.out.own HFS.out rfl (by rw [HSZCS.out]; exact info_refA) ?_)
    | (go_at_call 71; (with_reducible refine (HG.out _ HT1.out).mono ?_); rintro e w2 ⟨rfl, hT⟩; have HT2 := Lib.hid hT; have HIN2 := Lib.hid (HIN.out.step hT (by simp) (by simp) (by simp)); clear hT)
    | (refine wpList_store_row rfl 37 (.tmp 3) (.tmp 14) rfl bx C2 rfl rfl 37 CS HIN2.out.own (by rw [HSZC2.out]; exact info_refA) (by rw [HSZC2.out, HSZCS.out]) HONEC2.out ?_))
  try simp only [Act.put, List.getElem_toArray, List.getElem_cons_succ, List.getElem_cons_zero, List.setIfInBounds_toArray, List.set_cons_zero, List.set_cons_succ]
  obtain ⟨hin3, ht3⟩ := HIN2.out.put C2
  have hbq3 := ht3.keep (HT2.out.keep HBQ.out (by simp)) (by rw [Hq.out, Hx.out]; simp)
  generalize w2.setRow bx C2 = W3 at hin3 ht3 hbq3 ⊢
  have HIN3 := Lib.hid hin3
  have HBQ3 := Lib.hid hbq3
  clear hin3 ht3 hbq3 a0 a1
  have a0 : W3.cell? ⟨bq, 0, none⟩ = some (.int .u64 blk) := Frm.cell_row _ _ _ _ _ _ HBQ3.out
  have a1 : W3.cell? ⟨bq, 1, none⟩ = some (.int .i64 i) := Frm.cell_row _ _ _ _ _ _ HBQ3.out
  by_cases hz : er = 0
  · have hez : (er == 0) = true := by simp [hz]
    have hez' : (er != 0) = false := by simp [hz]
    have HZ := Lib.hid hz
    clear hz
    have hee : A.err blk i = 0 := by rw [← HER.out]; exact HZ.out
    have HC2' : Hid (C2 = refCells A f0 f1 f2 f3 f4 f5 f6 f7 f8 (.slice va l.length vc)) := Lib.hid (by rw [HC2.out]; unfold Ar.got; rw [if_pos hee])
    have HGW' : Hid (gw = A.get blk i) := Lib.hid (by rw [HGW.out]; unfold Ar.gotW; rw [if_pos hee])
    have HEE := Lib.hid hee
    clear hee
    have c16 : W3.cell? ⟨bx, 17, none⟩ = some (.int .i64 A.t.writes) := by rw [HIN3.out.cell, HC2'.out]; rfl
    have f16 := HIN3.out.thaw 17
    go_upto_region 5 with fail
    have hin4 := HIN3.out.set 17 (.int .i64 ((A.t.writes : Int) + 1))
    have ht4 : Frm.Turn [bx] W3 (W3.setCell ⟨bx, 17, none⟩ (.int .i64 ((A.t.writes : Int) + 1))) := (Frm.Turn.refl _ W3).setCell (p := ⟨bx, 17, none⟩) (.inl (by simp)) _
    generalize W3.setCell ⟨bx, 17, none⟩ (.int .i64 ((A.t.writes : Int) + 1)) = W4 at hin4 ht4 ⊢
    rw [HC2'.out] at hin4
    obtain ⟨C3, HC3⟩ : ∃ C, Hid (C = refCells ({ A with t := { A.t with writes := A.t.writes + 1 } }) f0 f1 f2 f3 f4 f5 f6 f7 f8 (.slice va l.length vc)) := ⟨_, Lib.hid rfl⟩
    rw [show (refCells A f0 f1 f2 f3 f4 f5 f6 f7 f8 (.slice va l.length vc)).setIfInBounds 17 (.int .i64 ((A.t.writes : Int) + 1)) = C3 by rw [HC3.out]; simp [refCells]] at hin4
    have HSZC3 : Hid (C3.size = 20) := Lib.hid (by rw [HC3.out]; rfl)
    have HONEC3 : Hid (C3.all (·.oneCell') = true) := Lib.hid (by rw [HC3.out]; exact refCells_one _ _ _ _ _ _ _ _ _ _ _ _ _)
    have HIN4 := Lib.hid hin4
    have hbq4 := ht4.keep HBQ3.out (by rw [Hq.out, Hx.out]; simp)
    clear a0 a1
    have a0 : W4.cell? ⟨bq, 0, none⟩ = some (.int .u64 blk) := Frm.cell_row _ _ _ _ _ _ hbq4
    have a1 : W4.cell? ⟨bq, 1, none⟩ = some (.int .i64 i) := Frm.cell_row _ _ _ _ _ _ hbq4
    have HST := Lib.hid (fun x => refSet_any ({ A with t := { A.t with writes := A.t.writes + 1 } }) (.agg C3) GG W4 (HGL.out ({ A with t := { A.t with writes := A.t.writes + 1 } }) C3 W4 HIN4.out.turn rfl rfl HC3.out) (HOK.out.tally A.faults _) blk i x HEE.out)
    have HBZ := Lib.hid HIN4.out.lt.2
    have HNZW := Lib.hid HIN4.out.nz
    clear hin4 ht4 hbq4 c16 f16
    go_wp2_with (first
      | (refine wpList_load_row rfl 37 (.tmp 3) rfl bx rfl 37 C3 (0, 0) (.struct fs) HIN4.out.own HFS.out rfl (by rw [HSZC3.out]; exact info_refA) ?_)
      | (go_at_call 72; (with_reducible refine (HST.out _).mono ?_); rintro e w5 ⟨u5, G5, rfl, hS5, hT5, hG5⟩; obtain ⟨C5, rfl, hz5, ho5⟩ := hS5.row; have HIN5 := Lib.hid (HIN4.out.step hT5 (by simp) (by simp) (by simp)); obtain ⟨Z, z1, z2⟩ := HIN5.out.res; have HZ1 := Lib.hid z1; have HZ2 := Lib.hid z2; have HSZC5 := Lib.hid hz5; have HONEC5 := Lib.hid ho5; have HS5 := Lib.hid hS5; have HT5 := Lib.hid hT5; have HG5 := Lib.hid hG5; clear z1 z2 hz5 ho5 hS5 hT5 hG5)
      | (refine wpList_store_row rfl 37 (.tmp 6) (.tmp 30) rfl bz C5 rfl rfl 37 Z HZ2.out (by rw [HSZC5.out]; exact info_refA) (by rw [HZ1.out, HSZC5.out]) HONEC5.out ?_))
    have hld := HIN5.out.tells C5 HSZC5.out HFS.out
    have hdef : A.write blk i x = (({ A with t := { A.t with writes := A.t.writes + 1 } } : Ar).set blk i x, 0) := by unfold Ar.write; rw [if_pos HEE.out]; unfold Ar.set; split <;> rfl
    rw [hdef]
    have hfin : RefS (w5.setRow bz C5) (({ A with t := { A.t with writes := A.t.writes + 1 } } : Ar).set blk i x) (.agg C5) G5 := by
      refine HS5.out.turn (F := [bz]) (setRow_turn (Frm.Turn.refl _ _) (.inl (by simp)) C5) (fun k hk hk' => ?_)
      simp at hk'; subst hk'
      rcases HG5.out _ hk with h1 | h1
      · have := HLT.out _ h1; have := HNZW.out; omega
      · have := HBZ.out; omega
    have hend := HIN5.out.ends C5
    refine bodyPost_ret (v := .tuple #[.agg C5, .int .i64 0]) (by simp [results, Tryz.results16, asAddr, hld, Act.put]) rfl ?_
    first | refine ⟨.agg C5, G5, ?_, hfin, hend, fun q hq => ?_⟩ | refine ⟨.agg C5, ?_, G5, hfin, hend, fun q hq => ?_⟩
    · simp [HZ.out, HGW'.out]
    · rcases HG5.out q hq with h1 | h1
      · exact .inl h1
      · refine .inr ⟨by have := HIN4.out.turn.size; omega, by simpa using h1.2⟩
  · have hez : (er == 0) = false := by simpa using hz
    have hez' : (er != 0) = true := by simpa using hz
    have HNZ := Lib.hid hz
    clear hz
    obtain ⟨Z, z1, z2⟩ := HIN3.out.res
    have HZ1 := Lib.hid z1
    have HZ2 := Lib.hid z2
    have hld := HIN3.out.told HSZC2.out HFS.out
    clear z1 z2
    go_wp2_with (first
      | (refine wpList_load_row rfl 37 (.tmp 3) rfl bx rfl 37 C2 (0, 0) (.struct fs) HIN3.out.own HFS.out rfl (by rw [HSZC2.out]; exact info_refA) ?_)
      | (refine wpList_store_row rfl 37 (.tmp 6) (.tmp 19) rfl bz C2 rfl rfl 37 Z HZ2.out (by rw [HSZC2.out]; exact info_refA) (by rw [HZ1.out, HSZC2.out]) HONEC2.out ?_))
    have hee : A.err blk i ≠ 0 := by rw [← HER.out]; exact HNZ.out
    have hdef : A.write blk i x = (A.miss, A.err blk i) := by unfold Ar.write; rw [if_neg hee]
    rw [hdef]
    refine bodyPost_ret (v := .tuple #[.agg C2, .int .i64 er]) (by simp [results, Tryz.results16, asAddr, hld, Act.put]) rfl ⟨.agg C2, GG, ?_, HGL.out A.miss C2 _ HIN3.out.end_ rfl rfl (by rw [HC2.out]; unfold Ar.got; rw [if_neg hee]), HIN3.out.end_, fun q hq => .inl hq⟩
    simp [HER.out, HGW.out, Ar.gotW, hee]
set_option maxRecDepth 100000 in
set_option maxHeartbeats 4000000 in
theorem refAdd_any (A : Ar) (u : Value) (G : List Nat) (w : World) (h : RefS w A u G) (hok : A.Ok) (hf : A.faults ≤ 100000000) (ht : A.t.adds ≤ 100000000) (blk i x : Int) (hlt : ∀ k, k ∈ G → k < w.heap.size) :
    Calls Tryz.prog 102 #[u, .agg #[.int .u64 blk, .int .i64 i], .int .u64 x] w fun e w' => ∃ u' G', e = .returned (.tuple #[u', .int .u64 (A.add blk i x).2.1, .int .i64 (A.add blk i x).2.2]) ∧ RefS w' (A.add blk i x).1 u' G' ∧ Frm.Turn [] w w' ∧ ∀ q, q ∈ G' → q ∈ G ∨ (w.heap.size ≤ q ∧ q < w'.heap.size) := by
  obtain ⟨f0, f1, f2, f3, f4, f5, f6, f7, f8, hfix, v, l, rfl, hAL, hB, rfl⟩ := h
  obtain ⟨va, vc, rfl⟩ := hB.form
  obtain ⟨fs, hfs⟩ := struct_of under_refA
  have HG := Lib.hid (fun W (hT : Frm.Turn [] w W) => refGet_any A f0 f1 f2 f3 f4 f5 f6 f7 f8 _ l W (hB.step hT) hAL hok hfix hf blk i)
  have HB := Lib.hid hB
  have HAL := Lib.hid hAL
  have HFIX := Lib.hid hfix
  have HOK := Lib.hid hok
  have hfoot : ∀ k, k ∈ refFoot (.slice va l.length vc) l → k ∈ refFoot (.slice va l.length vc) l := fun k hk => hk
  obtain ⟨gw, HGW⟩ : ∃ x, Hid (x = A.gotW blk i) := ⟨_, Lib.hid rfl⟩
  obtain ⟨er, HER⟩ : ∃ x, Hid (x = A.err blk i) := ⟨_, Lib.hid rfl⟩
  obtain ⟨C2, HC2⟩ : ∃ C, Hid (C = refCells (A.got blk i) f0 f1 f2 f3 f4 f5 f6 f7 f8 (.slice va l.length vc)) := ⟨_, Lib.hid rfl⟩
  have HSZC2 : Hid (C2.size = 20) := Lib.hid (by rw [HC2.out]; rfl)
  have HONEC2 : Hid (C2.all (·.oneCell') = true) := Lib.hid (by rw [HC2.out]; exact refCells_one _ _ _ _ _ _ _ _ _ _ _ _ _)
  obtain ⟨CS, HCS⟩ : ∃ CS, Hid (CS = refCells A f0 f1 f2 f3 f4 f5 f6 f7 f8 (.slice va l.length vc)) := ⟨_, Lib.hid rfl⟩
  have HSZCS : Hid (CS.size = 20) := Lib.hid (by rw [HCS.out]; rfl)
  have HONECS : Hid (CS.all (·.oneCell') = true) := Lib.hid (by rw [HCS.out]; exact refCells_one _ _ _ _ _ _ _ _ _ _ _ _ _)
  have HFS := Lib.hid hfs
  rw [show refCells A f0 f1 f2 f3 f4 f5 f6 f7 f8 (.slice va l.length vc) = CS from HCS.out.symm]
  rw [← HCS.out, ← HC2.out, ← HGW.out, ← HER.out] at HG
  obtain ⟨GG, HGG⟩ : ∃ GG, Hid (GG = refFoot (.slice va l.length vc) l) := ⟨_, Lib.hid rfl⟩
  rw [← HGG.out] at hlt ⊢
  have HLT := Lib.hid hlt
  clear hlt
  have HGL : Hid (∀ (A' : Ar) (C : Array Value) W, Frm.Turn [] w W → A'.L = A.L → A'.fixed = A.fixed → C = refCells A' f0 f1 f2 f3 f4 f5 f6 f7 f8 (.slice va l.length vc) → RefS W A' (.agg C) GG) := Lib.hid fun A' C W hT e1 e2 e3 =>
    ⟨f0, f1, f2, f3, f4, f5, f6, f7, f8, by rw [e2]; exact HFIX.out, _, l, by rw [e3], by rw [e1]; exact HAL.out, HB.out.step hT, HGG.out⟩
  clear hfs hAL hB hfix hfoot
  go_enter Tryz.func102, Tryz.ntmps102
  go_upto_region 1 with fail
  obtain ⟨hin, hbq⟩ := RefIn.start3 w CS #[.int .u64 blk, .int .i64 i] #[.int .i64 0, .int .i64 0, .int .i64 0, .int .i64 0, .int .u64 0, .int .u64 0, .int .u64 0, .int .u64 0, .int .u64 0, .int .u64 0, .int .u64 0, .int .u64 0, .int .u64 0, .slice none 0 0, .int .i64 0, .int .i64 0, .int .i64 0, .int .i64 0, .int .i64 0, .int .i64 0] rfl
  obtain ⟨bx, Hx⟩ : ∃ bx, Hid (bx = w.heap.size) := ⟨_, Lib.hid rfl⟩
  obtain ⟨bq, Hq⟩ : ∃ bq, Hid (bq = w.heap.size + 1) := ⟨_, Lib.hid rfl⟩
  obtain ⟨bz, Hz⟩ : ∃ bz, Hid (bz = w.heap.size + 2) := ⟨_, Lib.hid rfl⟩
  rw [← Hz.out, ← Hx.out] at hin
  rw [← Hq.out] at hbq
  rw [← Hz.out, ← Hq.out, ← Hx.out]
  generalize ((w.alloc (.cells CS 37)).alloc _).alloc _ = W1 at hin hbq ⊢
  have HIN := Lib.hid hin
  have HT1 := Lib.hid hin.turn
  have HBQ := Lib.hid hbq
  have a0 : W1.cell? ⟨bq, 0, none⟩ = some (.int .u64 blk) := Frm.cell_row _ _ _ _ _ _ hbq
  have a1 : W1.cell? ⟨bq, 1, none⟩ = some (.int .i64 i) := Frm.cell_row _ _ _ _ _ _ hbq
  clear hin hbq
  go_upto_region 2 with (first
    | (refine wpList_load_row rfl 37 (.tmp 3) rfl bx rfl 37 CS (0, 0) (.struct fs) HIN.out.own HFS.out rfl (by rw [HSZCS.out]; exact info_refA) ?_)
    | (go_at_call 71; (with_reducible refine (HG.out _ HT1.out).mono ?_); rintro e w2 ⟨rfl, hT⟩; have HT2 := Lib.hid hT; have HIN2 := Lib.hid (HIN.out.step hT (by simp) (by simp) (by simp)); clear hT)
    | (refine wpList_store_row rfl 37 (.tmp 3) (.tmp 15) rfl bx C2 rfl rfl 37 CS HIN2.out.own (by rw [HSZC2.out]; exact info_refA) (by rw [HSZC2.out, HSZCS.out]) HONEC2.out ?_))
  try simp only [Act.put, List.getElem_toArray, List.getElem_cons_succ, List.getElem_cons_zero, List.setIfInBounds_toArray, List.set_cons_zero, List.set_cons_succ]
  obtain ⟨hin3, ht3⟩ := HIN2.out.put C2
  have hbq3 := ht3.keep (HT2.out.keep HBQ.out (by simp)) (by rw [Hq.out, Hx.out]; simp)
  generalize w2.setRow bx C2 = W3 at hin3 ht3 hbq3 ⊢
  have HIN3 := Lib.hid hin3
  have HBQ3 := Lib.hid hbq3
  clear hin3 ht3 hbq3 a0 a1
  have a0 : W3.cell? ⟨bq, 0, none⟩ = some (.int .u64 blk) := Frm.cell_row _ _ _ _ _ _ HBQ3.out
  have a1 : W3.cell? ⟨bq, 1, none⟩ = some (.int .i64 i) := Frm.cell_row _ _ _ _ _ _ HBQ3.out
  by_cases hz : er = 0
  · have hez : (er == 0) = true := by simp [hz]
    have hez' : (er != 0) = false := by simp [hz]
    have HZ := Lib.hid hz
    clear hz
    have hee : A.err blk i = 0 := by rw [← HER.out]; exact HZ.out
    have HC2' : Hid (C2 = refCells A f0 f1 f2 f3 f4 f5 f6 f7 f8 (.slice va l.length vc)) := Lib.hid (by rw [HC2.out]; unfold Ar.got; rw [if_pos hee])
    have HGW' : Hid (gw = A.get blk i) := Lib.hid (by rw [HGW.out]; unfold Ar.gotW; rw [if_pos hee])
    have HEE := Lib.hid hee
    clear hee
    have c16 : W3.cell? ⟨bx, 19, none⟩ = some (.int .i64 A.t.adds) := by rw [HIN3.out.cell, HC2'.out]; rfl
    have f16 := HIN3.out.thaw 19
    go_upto_region 5 with fail
    have hin4 := HIN3.out.set 19 (.int .i64 ((A.t.adds : Int) + 1))
    have ht4 : Frm.Turn [bx] W3 (W3.setCell ⟨bx, 19, none⟩ (.int .i64 ((A.t.adds : Int) + 1))) := (Frm.Turn.refl _ W3).setCell (p := ⟨bx, 19, none⟩) (.inl (by simp)) _
    generalize W3.setCell ⟨bx, 19, none⟩ (.int .i64 ((A.t.adds : Int) + 1)) = W4 at hin4 ht4 ⊢
    rw [HC2'.out] at hin4
    obtain ⟨C3, HC3⟩ : ∃ C, Hid (C = refCells ({ A with t := { A.t with adds := A.t.adds + 1 } }) f0 f1 f2 f3 f4 f5 f6 f7 f8 (.slice va l.length vc)) := ⟨_, Lib.hid rfl⟩
    rw [show (refCells A f0 f1 f2 f3 f4 f5 f6 f7 f8 (.slice va l.length vc)).setIfInBounds 19 (.int .i64 ((A.t.adds : Int) + 1)) = C3 by rw [HC3.out]; simp [refCells]] at hin4
    have HSZC3 : Hid (C3.size = 20) := Lib.hid (by rw [HC3.out]; rfl)
    have HONEC3 : Hid (C3.all (·.oneCell') = true) := Lib.hid (by rw [HC3.out]; exact refCells_one _ _ _ _ _ _ _ _ _ _ _ _ _)
    have HIN4 := Lib.hid hin4
    have hbq4 := ht4.keep HBQ3.out (by rw [Hq.out, Hx.out]; simp)
    clear a0 a1
    have a0 : W4.cell? ⟨bq, 0, none⟩ = some (.int .u64 blk) := Frm.cell_row _ _ _ _ _ _ hbq4
    have a1 : W4.cell? ⟨bq, 1, none⟩ = some (.int .i64 i) := Frm.cell_row _ _ _ _ _ _ hbq4
    have HST := Lib.hid (fun x => refSet_any ({ A with t := { A.t with adds := A.t.adds + 1 } }) (.agg C3) GG W4 (HGL.out ({ A with t := { A.t with adds := A.t.adds + 1 } }) C3 W4 HIN4.out.turn rfl rfl HC3.out) (HOK.out.tally A.faults _) blk i x HEE.out)
    have HBZ := Lib.hid HIN4.out.lt.2
    have HNZW := Lib.hid HIN4.out.nz
    clear hin4 ht4 hbq4 c16 f16
    have hwr : IntKind.u64.wrap (gw + x) = (A.get blk i + x) % 18446744073709551616 := by rw [HGW'.out, wrap_u64]
    go_wp2_with (first
      | (refine wpList_load_row rfl 37 (.tmp 3) rfl bx rfl 37 C3 (0, 0) (.struct fs) HIN4.out.own HFS.out rfl (by rw [HSZC3.out]; exact info_refA) ?_)
      | (go_at_call 72; (with_reducible refine (HST.out _).mono ?_); rintro e w5 ⟨u5, G5, rfl, hS5, hT5, hG5⟩; obtain ⟨C5, rfl, hz5, ho5⟩ := hS5.row; have HIN5 := Lib.hid (HIN4.out.step hT5 (by simp) (by simp) (by simp)); obtain ⟨Z, z1, z2⟩ := HIN5.out.res; have HZ1 := Lib.hid z1; have HZ2 := Lib.hid z2; have HSZC5 := Lib.hid hz5; have HONEC5 := Lib.hid ho5; have HS5 := Lib.hid hS5; have HT5 := Lib.hid hT5; have HG5 := Lib.hid hG5; clear z1 z2 hz5 ho5 hS5 hT5 hG5)
      | (refine wpList_store_row rfl 37 (.tmp 6) (.tmp 33) rfl bz C5 rfl rfl 37 Z HZ2.out (by rw [HSZC5.out]; exact info_refA) (by rw [HZ1.out, HSZC5.out]) HONEC5.out ?_))
    have hld := HIN5.out.tells C5 HSZC5.out HFS.out
    have hdef : A.add blk i x = (({ A with t := { A.t with adds := A.t.adds + 1 } } : Ar).set blk i ((A.get blk i + x) % 18446744073709551616), A.get blk i, 0) := by unfold Ar.add; rw [if_pos HEE.out]; unfold Ar.set; split <;> rfl
    rw [hdef]
    have hfin : RefS (w5.setRow bz C5) (({ A with t := { A.t with adds := A.t.adds + 1 } } : Ar).set blk i ((A.get blk i + x) % 18446744073709551616)) (.agg C5) G5 := by
      refine HS5.out.turn (F := [bz]) (setRow_turn (Frm.Turn.refl _ _) (.inl (by simp)) C5) (fun k hk hk' => ?_)
      simp at hk'; subst hk'
      rcases HG5.out _ hk with h1 | h1
      · have := HLT.out _ h1; have := HNZW.out; omega
      · have := HBZ.out; omega
    have hend := HIN5.out.ends C5
    refine bodyPost_ret (v := .tuple #[.agg C5, .int .u64 gw, .int .i64 0]) (by simp [results, Tryz.results102, asAddr, hld, Act.put]) rfl ?_
    first | refine ⟨.agg C5, G5, ?_, hfin, hend, fun q hq => ?_⟩ | refine ⟨.agg C5, ?_, G5, hfin, hend, fun q hq => ?_⟩
    · simp [HZ.out, HGW'.out]
    · rcases HG5.out q hq with h1 | h1
      · exact .inl h1
      · refine .inr ⟨by have := HIN4.out.turn.size; omega, by simpa using h1.2⟩
  · have hez : (er == 0) = false := by simpa using hz
    have hez' : (er != 0) = true := by simpa using hz
    have HNZ := Lib.hid hz
    clear hz
    obtain ⟨Z, z1, z2⟩ := HIN3.out.res
    have HZ1 := Lib.hid z1
    have HZ2 := Lib.hid z2
    have hld := HIN3.out.told HSZC2.out HFS.out
    clear z1 z2
    go_wp2_with (first
      | (refine wpList_load_row rfl 37 (.tmp 3) rfl bx rfl 37 C2 (0, 0) (.struct fs) HIN3.out.own HFS.out rfl (by rw [HSZC2.out]; exact info_refA) ?_)
      | (refine wpList_store_row rfl 37 (.tmp 6) (.tmp 20) rfl bz C2 rfl rfl 37 Z HZ2.out (by rw [HSZC2.out]; exact info_refA) (by rw [HZ1.out, HSZC2.out]) HONEC2.out ?_))
    have hee : A.err blk i ≠ 0 := by rw [← HER.out]; exact HNZ.out
    have hdef : A.add blk i x = (A.miss, 0, A.err blk i) := by unfold Ar.add; rw [if_neg hee]
    rw [hdef]
    refine bodyPost_ret (v := .tuple #[.agg C2, .int .u64 0, .int .i64 er]) (by simp [results, Tryz.results102, asAddr, hld, Act.put]) rfl ⟨.agg C2, GG, ?_, HGL.out A.miss C2 _ HIN3.out.end_ rfl rfl (by rw [HC2.out]; unfold Ar.got; rw [if_neg hee]), HIN3.out.end_, fun q hq => .inl hq⟩
    simp [HER.out, HGW.out, Ar.gotW, hee]
set_option maxRecDepth 100000 in
set_option maxHeartbeats 4000000 in
theorem refSwap_any (A : Ar) (u : Value) (G : List Nat) (w : World) (h : RefS w A u G) (hok : A.Ok) (hf : A.faults ≤ 100000000) (ht : A.t.swaps ≤ 100000000) (blk i old x : Int) (hlt : ∀ k, k ∈ G → k < w.heap.size) :
    Calls Tryz.prog 219 #[u, .agg #[.int .u64 blk, .int .i64 i], .int .u64 old, .int .u64 x] w fun e w' => ∃ u' G', e = .returned (.tuple #[u', .bool (A.swap blk i old x).2.1, .int .i64 (A.swap blk i old x).2.2]) ∧ RefS w' (A.swap blk i old x).1 u' G' ∧ Frm.Turn [] w w' ∧ ∀ q, q ∈ G' → q ∈ G ∨ (w.heap.size ≤ q ∧ q < w'.heap.size) := by
  obtain ⟨f0, f1, f2, f3, f4, f5, f6, f7, f8, hfix, v, l, rfl, hAL, hB, rfl⟩ := h
  obtain ⟨va, vc, rfl⟩ := hB.form
  obtain ⟨fs, hfs⟩ := struct_of under_refA
  have HG := Lib.hid (fun W (hT : Frm.Turn [] w W) => refGet_any A f0 f1 f2 f3 f4 f5 f6 f7 f8 _ l W (hB.step hT) hAL hok hfix hf blk i)
  have HB := Lib.hid hB
  have HAL := Lib.hid hAL
  have HFIX := Lib.hid hfix
  have HOK := Lib.hid hok
  have hfoot : ∀ k, k ∈ refFoot (.slice va l.length vc) l → k ∈ refFoot (.slice va l.length vc) l := fun k hk => hk
  obtain ⟨gw, HGW⟩ : ∃ x, Hid (x = A.gotW blk i) := ⟨_, Lib.hid rfl⟩
  obtain ⟨er, HER⟩ : ∃ x, Hid (x = A.err blk i) := ⟨_, Lib.hid rfl⟩
  obtain ⟨C2, HC2⟩ : ∃ C, Hid (C = refCells (A.got blk i) f0 f1 f2 f3 f4 f5 f6 f7 f8 (.slice va l.length vc)) := ⟨_, Lib.hid rfl⟩
  have HSZC2 : Hid (C2.size = 20) := Lib.hid (by rw [HC2.out]; rfl)
  have HONEC2 : Hid (C2.all (·.oneCell') = true) := Lib.hid (by rw [HC2.out]; exact refCells_one _ _ _ _ _ _ _ _ _ _ _ _ _)
  obtain ⟨CS, HCS⟩ : ∃ CS, Hid (CS = refCells A f0 f1 f2 f3 f4 f5 f6 f7 f8 (.slice va l.length vc)) := ⟨_, Lib.hid rfl⟩
  have HSZCS : Hid (CS.size = 20) := Lib.hid (by rw [HCS.out]; rfl)
  have HONECS : Hid (CS.all (·.oneCell') = true) := Lib.hid (by rw [HCS.out]; exact refCells_one _ _ _ _ _ _ _ _ _ _ _ _ _)
  have HFS := Lib.hid hfs
  rw [show refCells A f0 f1 f2 f3 f4 f5 f6 f7 f8 (.slice va l.length vc) = CS from HCS.out.symm]
  rw [← HCS.out, ← HC2.out, ← HGW.out, ← HER.out] at HG
  obtain ⟨GG, HGG⟩ : ∃ GG, Hid (GG = refFoot (.slice va l.length vc) l) := ⟨_, Lib.hid rfl⟩
  rw [← HGG.out] at hlt ⊢
  have HLT := Lib.hid hlt
  clear hlt
  have HGL : Hid (∀ (A' : Ar) (C : Array Value) W, Frm.Turn [] w W → A'.L = A.L → A'.fixed = A.fixed → C = refCells A' f0 f1 f2 f3 f4 f5 f6 f7 f8 (.slice va l.length vc) → RefS W A' (.agg C) GG) := Lib.hid fun A' C W hT e1 e2 e3 =>
    ⟨f0, f1, f2, f3, f4, f5, f6, f7, f8, by rw [e2]; exact HFIX.out, _, l, by rw [e3], by rw [e1]; exact HAL.out, HB.out.step hT, HGG.out⟩
  clear hfs hAL hB hfix hfoot
  go_enter Tryz.func219, Tryz.ntmps219
  go_upto_region 1 with fail
  obtain ⟨hin, hbq⟩ := RefIn.start3 w CS #[.int .u64 blk, .int .i64 i] #[.int .i64 0, .int .i64 0, .int .i64 0, .int .i64 0, .int .u64 0, .int .u64 0, .int .u64 0, .int .u64 0, .int .u64 0, .int .u64 0, .int .u64 0, .int .u64 0, .int .u64 0, .slice none 0 0, .int .i64 0, .int .i64 0, .int .i64 0, .int .i64 0, .int .i64 0, .int .i64 0] rfl
  obtain ⟨bx, Hx⟩ : ∃ bx, Hid (bx = w.heap.size) := ⟨_, Lib.hid rfl⟩
  obtain ⟨bq, Hq⟩ : ∃ bq, Hid (bq = w.heap.size + 1) := ⟨_, Lib.hid rfl⟩
  obtain ⟨bz, Hz⟩ : ∃ bz, Hid (bz = w.heap.size + 2) := ⟨_, Lib.hid rfl⟩
  rw [← Hz.out, ← Hx.out] at hin
  rw [← Hq.out] at hbq
  rw [← Hz.out, ← Hq.out, ← Hx.out]
  generalize ((w.alloc (.cells CS 37)).alloc _).alloc _ = W1 at hin hbq ⊢
  have HIN := Lib.hid hin
  have HT1 := Lib.hid hin.turn
  have HBQ := Lib.hid hbq
  have a0 : W1.cell? ⟨bq, 0, none⟩ = some (.int .u64 blk) := Frm.cell_row _ _ _ _ _ _ hbq
  have a1 : W1.cell? ⟨bq, 1, none⟩ = some (.int .i64 i) := Frm.cell_row _ _ _ _ _ _ hbq
  clear hin hbq
  go_upto_region 2 with (first
    | (refine wpList_load_row rfl 37 (.tmp 4) rfl bx rfl 37 CS (0, 0) (.struct fs) HIN.out.own HFS.out rfl (by rw [HSZCS.out]; exact info_refA) ?_)
    | (go_at_call 71; (with_reducible refine (HG.out _ HT1.out).mono ?_); rintro e w2 ⟨rfl, hT⟩; have HT2 := Lib.hid hT; have HIN2 := Lib.hid (HIN.out.step hT (by simp) (by simp) (by simp)); clear hT)
    | (refine wpList_store_row rfl 37 (.tmp 4) (.tmp 17) rfl bx C2 rfl rfl 37 CS HIN2.out.own (by rw [HSZC2.out]; exact info_refA) (by rw [HSZC2.out, HSZCS.out]) HONEC2.out ?_))
  try simp only [Act.put, List.getElem_toArray, List.getElem_cons_succ, List.getElem_cons_zero, List.setIfInBounds_toArray, List.set_cons_zero, List.set_cons_succ]
  obtain ⟨hin3, ht3⟩ := HIN2.out.put C2
  have hbq3 := ht3.keep (HT2.out.keep HBQ.out (by simp)) (by rw [Hq.out, Hx.out]; simp)
  generalize w2.setRow bx C2 = W3 at hin3 ht3 hbq3 ⊢
  have HIN3 := Lib.hid hin3
  have HBQ3 := Lib.hid hbq3
  clear hin3 ht3 hbq3 a0 a1
  have a0 : W3.cell? ⟨bq, 0, none⟩ = some (.int .u64 blk) := Frm.cell_row _ _ _ _ _ _ HBQ3.out
  have a1 : W3.cell? ⟨bq, 1, none⟩ = some (.int .i64 i) := Frm.cell_row _ _ _ _ _ _ HBQ3.out
  by_cases hz : er = 0
  · have hez : (er == 0) = true := by simp [hz]
    have hez' : (er != 0) = false := by simp [hz]
    have HZ := Lib.hid hz
    clear hz
    have hee : A.err blk i = 0 := by rw [← HER.out]; exact HZ.out
    have HC2' : Hid (C2 = refCells A f0 f1 f2 f3 f4 f5 f6 f7 f8 (.slice va l.length vc)) := Lib.hid (by rw [HC2.out]; unfold Ar.got; rw [if_pos hee])
    have HGW' : Hid (gw = A.get blk i) := Lib.hid (by rw [HGW.out]; unfold Ar.gotW; rw [if_pos hee])
    have HEE := Lib.hid hee
    clear hee
    have c16 : W3.cell? ⟨bx, 18, none⟩ = some (.int .i64 A.t.swaps) := by rw [HIN3.out.cell, HC2'.out]; rfl
    have f16 := HIN3.out.thaw 18
    go_upto_region 5 with fail
    have hin4 := HIN3.out.set 18 (.int .i64 ((A.t.swaps : Int) + 1))
    have ht4 : Frm.Turn [bx] W3 (W3.setCell ⟨bx, 18, none⟩ (.int .i64 ((A.t.swaps : Int) + 1))) := (Frm.Turn.refl _ W3).setCell (p := ⟨bx, 18, none⟩) (.inl (by simp)) _
    generalize W3.setCell ⟨bx, 18, none⟩ (.int .i64 ((A.t.swaps : Int) + 1)) = W4 at hin4 ht4 ⊢
    rw [HC2'.out] at hin4
    obtain ⟨C3, HC3⟩ : ∃ C, Hid (C = refCells ({ A with t := { A.t with swaps := A.t.swaps + 1 } }) f0 f1 f2 f3 f4 f5 f6 f7 f8 (.slice va l.length vc)) := ⟨_, Lib.hid rfl⟩
    rw [show (refCells A f0 f1 f2 f3 f4 f5 f6 f7 f8 (.slice va l.length vc)).setIfInBounds 18 (.int .i64 ((A.t.swaps : Int) + 1)) = C3 by rw [HC3.out]; simp [refCells]] at hin4
    have HSZC3 : Hid (C3.size = 20) := Lib.hid (by rw [HC3.out]; rfl)
    have HONEC3 : Hid (C3.all (·.oneCell') = true) := Lib.hid (by rw [HC3.out]; exact refCells_one _ _ _ _ _ _ _ _ _ _ _ _ _)
    have HIN4 := Lib.hid hin4
    have hbq4 := ht4.keep HBQ3.out (by rw [Hq.out, Hx.out]; simp)
    clear a0 a1
    have a0 : W4.cell? ⟨bq, 0, none⟩ = some (.int .u64 blk) := Frm.cell_row _ _ _ _ _ _ hbq4
    have a1 : W4.cell? ⟨bq, 1, none⟩ = some (.int .i64 i) := Frm.cell_row _ _ _ _ _ _ hbq4
    have HST := Lib.hid (fun x => refSet_any ({ A with t := { A.t with swaps := A.t.swaps + 1 } }) (.agg C3) GG W4 (HGL.out ({ A with t := { A.t with swaps := A.t.swaps + 1 } }) C3 W4 HIN4.out.turn rfl rfl HC3.out) (HOK.out.tally A.faults _) blk i x HEE.out)
    have HBZ := Lib.hid HIN4.out.lt.2
    have HNZW := Lib.hid HIN4.out.nz
    clear hin4 ht4 hbq4 c16 f16
    by_cases hold : gw = old
    case neg =>
      have ho1 : (gw != old) = true := by simpa using hold
      have ho2 : (gw == old) = false := by simpa using hold
      have HOLD := Lib.hid hold
      clear hold
      obtain ⟨Z, z1, z2⟩ := HIN4.out.res
      have HZ1 := Lib.hid z1
      have HZ2 := Lib.hid z2
      have hld := HIN4.out.told HSZC3.out HFS.out
      clear z1 z2
      go_wp2_with (first
        | (refine wpList_load_row rfl 37 (.tmp 4) rfl bx rfl 37 C3 (0, 0) (.struct fs) HIN4.out.own HFS.out rfl (by rw [HSZC3.out]; exact info_refA) ?_)
        | (refine wpList_store_row rfl 37 (.tmp 8) (.tmp 33) rfl bz C3 rfl rfl 37 Z HZ2.out (by rw [HSZC3.out]; exact info_refA) (by rw [HZ1.out, HSZC3.out]) HONEC3.out ?_))
      have hdef : A.swap blk i old x = ({ A with t := { A.t with swaps := A.t.swaps + 1 } }, false, 0) := by unfold Ar.swap; rw [if_pos HEE.out, if_neg (by rw [← HGW'.out]; exact HOLD.out)]
      rw [hdef]
      have hfin := HGL.out ({ A with t := { A.t with swaps := A.t.swaps + 1 } } : Ar) C3 _ HIN4.out.end_ rfl rfl HC3.out
      refine bodyPost_ret (v := .tuple #[.agg C3, .bool false, .int .i64 0]) (by simp [results, Tryz.results219, asAddr, hld, Act.put]) rfl ?_
      first | exact ⟨.agg C3, GG, rfl, hfin, HIN4.out.end_, fun q hq => .inl hq⟩ | exact ⟨.agg C3, rfl, GG, hfin, HIN4.out.end_, fun q hq => .inl hq⟩
    have ho1 : (gw != old) = false := by simpa using hold
    have ho2 : (gw == old) = true := by simpa using hold
    have HOLD := Lib.hid hold
    clear hold
    go_wp2_with (first
      | (refine wpList_load_row rfl 37 (.tmp 4) rfl bx rfl 37 C3 (0, 0) (.struct fs) HIN4.out.own HFS.out rfl (by rw [HSZC3.out]; exact info_refA) ?_)
      | (go_at_call 72; (with_reducible refine (HST.out _).mono ?_); rintro e w5 ⟨u5, G5, rfl, hS5, hT5, hG5⟩; obtain ⟨C5, rfl, hz5, ho5⟩ := hS5.row; have HIN5 := Lib.hid (HIN4.out.step hT5 (by simp) (by simp) (by simp)); obtain ⟨Z, z1, z2⟩ := HIN5.out.res; have HZ1 := Lib.hid z1; have HZ2 := Lib.hid z2; have HSZC5 := Lib.hid hz5; have HONEC5 := Lib.hid ho5; have HS5 := Lib.hid hS5; have HT5 := Lib.hid hT5; have HG5 := Lib.hid hG5; clear z1 z2 hz5 ho5 hS5 hT5 hG5)
      | (refine wpList_store_row rfl 37 (.tmp 8) (.tmp 37) rfl bz C5 rfl rfl 37 Z HZ2.out (by rw [HSZC5.out]; exact info_refA) (by rw [HZ1.out, HSZC5.out]) HONEC5.out ?_))
    have hld := HIN5.out.tells C5 HSZC5.out HFS.out
    have hdef : A.swap blk i old x = (({ A with t := { A.t with swaps := A.t.swaps + 1 } } : Ar).set blk i x, true, 0) := by unfold Ar.swap; rw [if_pos HEE.out, if_pos (by rw [← HGW'.out]; exact HOLD.out)]; unfold Ar.set; split <;> rfl
    rw [hdef]
    have hfin : RefS (w5.setRow bz C5) (({ A with t := { A.t with swaps := A.t.swaps + 1 } } : Ar).set blk i x) (.agg C5) G5 := by
      refine HS5.out.turn (F := [bz]) (setRow_turn (Frm.Turn.refl _ _) (.inl (by simp)) C5) (fun k hk hk' => ?_)
      simp at hk'; subst hk'
      rcases HG5.out _ hk with h1 | h1
      · have := HLT.out _ h1; have := HNZW.out; omega
      · have := HBZ.out; omega
    have hend := HIN5.out.ends C5
    refine bodyPost_ret (v := .tuple #[.agg C5, .bool true, .int .i64 0]) (by simp [results, Tryz.results219, asAddr, hld, Act.put]) rfl ?_
    first | refine ⟨.agg C5, G5, ?_, hfin, hend, fun q hq => ?_⟩ | refine ⟨.agg C5, ?_, G5, hfin, hend, fun q hq => ?_⟩
    · simp [HZ.out, HGW'.out]
    · rcases HG5.out q hq with h1 | h1
      · exact .inl h1
      · refine .inr ⟨by have := HIN4.out.turn.size; omega, by simpa using h1.2⟩
  · have hez : (er == 0) = false := by simpa using hz
    have hez' : (er != 0) = true := by simpa using hz
    have HNZ := Lib.hid hz
    clear hz
    obtain ⟨Z, z1, z2⟩ := HIN3.out.res
    have HZ1 := Lib.hid z1
    have HZ2 := Lib.hid z2
    have hld := HIN3.out.told HSZC2.out HFS.out
    clear z1 z2
    go_wp2_with (first
      | (refine wpList_load_row rfl 37 (.tmp 4) rfl bx rfl 37 C2 (0, 0) (.struct fs) HIN3.out.own HFS.out rfl (by rw [HSZC2.out]; exact info_refA) ?_)
      | (refine wpList_store_row rfl 37 (.tmp 8) (.tmp 22) rfl bz C2 rfl rfl 37 Z HZ2.out (by rw [HSZC2.out]; exact info_refA) (by rw [HZ1.out, HSZC2.out]) HONEC2.out ?_))
    have hee : A.err blk i ≠ 0 := by rw [← HER.out]; exact HNZ.out
    have hdef : A.swap blk i old x = (A.miss, false, A.err blk i) := by unfold Ar.swap; rw [if_neg hee]
    rw [hdef]
    refine bodyPost_ret (v := .tuple #[.agg C2, .bool false, .int .i64 er]) (by simp [results, Tryz.results219, asAddr, hld, Act.put]) rfl ⟨.agg C2, GG, ?_, HGL.out A.miss C2 _ HIN3.out.end_ rfl rfl (by rw [HC2.out]; unfold Ar.got; rw [if_neg hee]), HIN3.out.end_, fun q hq => .inl hq⟩
    simp [HER.out, HGW.out, Ar.gotW, hee]
end Arn
end Go.Proofs.YtpajafecodkndaaGreat

set_option linter.unusedVariables false
set_option linter.unusedSimpArgs false
namespace Go.Proofs.YtpajafecodkndaaGreat
namespace Arn
open Go.RowKit Hp Go.Maps

theorem lay_fixed (A : Ar) (ws : List Int) : (A.lay ws).1.fixed = A.fixed := by unfold Ar.lay; split; rfl; split <;> rfl
theorem free_fixed (A : Ar) (k : Int) : (A.free k).1.fixed = A.fixed := by unfold Ar.free; split <;> rfl
theorem refLay_s (A : Ar) (u : Value) (G : List Nat) (w : World) (h : RefS w A u G) (hok : A.Ok) (hb : A.births ≤ 100000000) (hlays : A.t.lays ≤ 100000000) (x : Value) (ws : List Int) (hx : WordsAt w x ws) (hws : ws.length ≤ 9223372036854775807) :
    Calls Tryz.prog 11 #[u, x] w fun e w' => ∃ u' G', e = .returned (.tuple #[u', .int .u64 (A.lay ws).2.1, .int .i64 (A.lay ws).2.2]) ∧ RefS w' (A.lay ws).1 u' G' ∧ Frm.Turn [] w w' ∧ ∀ k, k ∈ G' → k ∈ G ∨ (w.heap.size ≤ k ∧ k < w'.heap.size) := by
  obtain ⟨f0, f1, f2, f3, f4, f5, f6, f7, f8, hfix, hr⟩ := h
  refine (refLay_any A f0 f1 f2 f3 f4 f5 f6 f7 f8 u G w hr hok hb hlays x ws hx hws).mono ?_
  rintro e w' ⟨u', G', he, h1, hT, hG⟩
  exact ⟨u', G', he, ⟨f0, f1, f2, f3, f4, f5, f6, f7, f8, by rw [lay_fixed]; exact hfix, h1⟩, hT, hG⟩
theorem refFree_s (A : Ar) (u : Value) (G : List Nat) (w : World) (h : RefS w A u G) (hok : A.Ok) (hf : A.faults ≤ 100000000) (hr : A.t.frees ≤ 100000000) (k : Int) :
    Calls Tryz.prog 131 #[u, .int .u64 k] w fun e w' => ∃ u' G', e = .returned (.tuple #[u', .int .i64 (A.free k).2]) ∧ RefS w' (A.free k).1 u' G' ∧ Frm.Turn [] w w' ∧ ∀ q, q ∈ G' → q ∈ G ∨ (w.heap.size ≤ q ∧ q < w'.heap.size) := by
  obtain ⟨f0, f1, f2, f3, f4, f5, f6, f7, f8, hfix, h1⟩ := h
  refine (refFree_any A f0 f1 f2 f3 f4 f5 f6 f7 f8 u G w h1 hok hf hr k).mono ?_
  rintro e w' ⟨u', G', he, h2, hT, hG⟩
  exact ⟨u', G', he, ⟨f0, f1, f2, f3, f4, f5, f6, f7, f8, by rw [free_fixed]; exact hfix, h2⟩, hT, hG⟩
/-- The document's arena as it begins. -/
theorem refS_new (w : World) (cap : Nat) : RefS w (Ar.new cap) (.agg #[.int .i64 cap, .int .i64 0, .int .i64 0, .int .i64 0, .int .u64 0, .int .u64 0, .int .u64 0, .int .u64 0, .int .u64 0, .int .u64 0, .int .u64 0, .int .u64 0, .int .u64 0, .slice none 0 0, .int .i64 0, .int .i64 0, .int .i64 0, .int .i64 0, .int .i64 0, .int .i64 0]) [] :=
  ⟨0, 0, 0, 0, 0, 0, 0, 0, 0, rfl, .slice none 0 0, [], by simp [refCells, Ar.new], rfl, ⟨.inl ⟨rfl, rfl⟩, by simp⟩, rfl⟩
end Arn
end Go.Proofs.YtpajafecodkndaaGreat
