/- An arena and the document's beside it, laid alike: what each call leaves. -/
/- Blocks: an arena with these blocks, and the document's. -/
import Derived.Test.YtmjdcpcndggflaaDoorQuadRows
import Derived.Test.YtmjdcpcndggflaaDoorArenaRefAt
import Derived.Deep.Cut
import Derived.Deep.RegionHeld3
import Derived.Deep.MidRow
set_option linter.unusedVariables false
set_option linter.unusedSimpArgs false
namespace Go.Proofs.YtmjdcpcndggflaaDoor
namespace Qud
open Go.RowKit Go.Maps Arn

structure LaidS (w : World) (b bm br : Nat) (A A2 : Ar) (n : Nat) (CS Z : Array Value) (G : List Nat) (W : World) : Prop where
  mem : ∃ M, Sin w b M A n W ∧ ∀ k, k ∈ bm :: br :: G → k ∉ M.foot b
  lt : ∀ k, k ∈ bm :: br :: G → k < W.heap.size
  ref : RefAt W A2 0 0 0 0 0 0 0 0 0 (.agg CS) G
  hm : W.heap[bm]? = some (.cells CS 46 (0, 0))
  hr : W.heap[br]? = some (.cells Z 46 (0, 0))
  zs : Z.size = 20
  ne : bm ≠ br
  nm : w.heap.size ≤ bm
  nr : w.heap.size ≤ br
  gm : bm ∉ G
  gr : br ∉ G
theorem ref_size {W : World} {A : Ar} {f0 f1 f2 f3 f4 f5 f6 f7 f8 : Int} {CS : Array Value} {G : List Nat} (h : RefAt W A f0 f1 f2 f3 f4 f5 f6 f7 f8 (.agg CS) G) : CS.size = 20 ∧ CS.all (·.oneCell') = true := by
  obtain ⟨v, l, h1, _, h2, _⟩ := h
  simp only [Value.agg.injEq] at h1
  obtain ⟨a, c, rfl⟩ := h2.form
  rw [h1]
  exact ⟨rfl, refCells_one _ _ _ _ _ _ _ _ _ _ _ _ _⟩
theorem LaidS.lay {w W : World} {b bm br n : Nat} {A A2 : Ar} {CS Z : Array Value} {G : List Nat} (h : LaidS w b bm br A A2 n CS Z G W) (hn : n ≤ 100000000) {v : Value} {ws : List Int} (hv : WordsAt w v ws) (hw : ∀ x, x ∈ ws → W64 x) :
    Calls Tryd.prog 25 #[.pointer (some ⟨b, 0, none⟩), v] W fun e w' => e = .returned (.tuple #[.int .u64 (A.lay ws).2.1, .int .i64 (A.lay ws).2.2]) ∧ LaidS w b bm br (A.lay ws).1 A2 (n + 1) CS Z G w' ∧ Frm.Turn [] w w' := by
  obtain ⟨M, hs, hd⟩ := h.mem
  refine (sin_lay hs hn (hv.turn hs.turn (by simp)) (fun hne k hk hk' => ?_) hw).mono ?_
  · have h1 := words_lt hv hne k hk
    have h2 := hs.new k hk'
    omega
  · rintro e w' ⟨he, M', hs', hT, hf⟩
    have hsz := hT.size
    exact ⟨he, ⟨⟨M', hs', fun k hk hk' => (hf k hk').elim (hd k hk) (fun h1 => by have := h.lt k hk; omega)⟩, fun k hk => Nat.lt_of_lt_of_le (h.lt k hk) hsz, h.ref.turn hT (fun k hk hk' => hd k (by simp [hk]) hk'), hT.keep h.hm (hd bm (by simp)), hT.keep h.hr (hd br (by simp)), h.zs, h.ne, h.nm, h.nr, h.gm, h.gr⟩, hs'.turn⟩
theorem LaidS.refLay {w W : World} {b bm br n : Nat} {A A2 : Ar} {CS Z : Array Value} {G : List Nat} (h : LaidS w b bm br A A2 n CS Z G W) (hok : A2.Ok) (hb : A2.births ≤ 100000000) (hl : A2.t.lays ≤ 100000000) {v : Value} {ws : List Int} (hv : WordsAt w v ws) (hws : ws.length ≤ 9223372036854775807) :
    Calls Tryd.prog 32 #[.agg CS, v] W fun e w' => ∃ CS' G', e = .returned (.tuple #[.agg CS', .int .u64 (A2.lay ws).2.1, .int .i64 (A2.lay ws).2.2]) ∧ w'.heap[bm]? = some (.cells CS 46 (0, 0)) ∧ CS.size = CS'.size ∧ CS'.size = 20 ∧ CS'.all (·.oneCell') = true ∧
      LaidS w b bm br A (A2.lay ws).1 n CS' Z G' (w'.setRow bm CS') ∧ Frm.Turn [] w (w'.setRow bm CS') := by
  refine (refLay_any A2 0 0 0 0 0 0 0 0 0 (.agg CS) G W h.ref hok hb hl v ws (hv.turn (by obtain ⟨M, hs, _⟩ := h.mem; exact hs.turn) (by simp)) hws).mono ?_
  rintro e w' ⟨u', G', rfl, hr, hT, hG⟩
  obtain ⟨v', l', rfl, e1, e2, e3⟩ := hr
  have hr' : RefAt w' (A2.lay ws).1 0 0 0 0 0 0 0 0 0 (.agg (refCells (A2.lay ws).1 0 0 0 0 0 0 0 0 0 v')) G' := ⟨v', l', rfl, e1, e2, e3⟩
  have hz := ref_size hr'
  have hz0 := (ref_size h.ref).1
  have hmk := hT.keep h.hm (by simp)
  have hrk := hT.keep h.hr (by simp)
  have hT1 : Frm.Turn [bm] w' (w'.setRow bm (refCells (A2.lay ws).1 0 0 0 0 0 0 0 0 0 v')) := setRow_turn (Frm.Turn.refl _ _) (.inl (by simp)) _
  have hT2 : Frm.Turn [bm] W (w'.setRow bm (refCells (A2.lay ws).1 0 0 0 0 0 0 0 0 0 v')) := (hT.mono (by simp)).trans hT1 (fun k hk => .inl hk)
  have hsz : w'.heap.size ≤ (w'.setRow bm (refCells (A2.lay ws).1 0 0 0 0 0 0 0 0 0 v')).heap.size := hT1.size
  have hKW := h.lt
  obtain ⟨M, hs, hd⟩ := h.mem
  have hWw := hT.size
  have gm' : bm ∉ G' := fun hk => by
    rcases hG bm hk with h1 | h1
    · exact h.gm h1
    · have := hKW bm (by simp); omega
  have gr' : br ∉ G' := fun hk => by
    rcases hG br hk with h1 | h1
    · exact h.gr h1
    · have := hKW br (by simp); omega
  refine ⟨_, G', rfl, hmk, by rw [hz0, hz.1], hz.1, hz.2, ⟨⟨M, hs.apart hT2 (fun k hk hk' => by simp at hk'; subst hk'; exact hd _ (by simp) hk) (fun k hk => by simp at hk; subst hk; exact h.nm), fun k hk hk' => ?_⟩, fun k hk => ?_, hr'.turn hT1 (fun k hk hk' => by simp at hk'; subst hk'; exact gm' hk), setRow_heap w' bm _ _ _ _ hmk, hT1.keep hrk (by simp; exact fun e => h.ne e.symm), h.zs, h.ne, h.nm, h.nr, gm', gr'⟩, hs.turn.trans hT2 (fun k hk => by simp at hk; subst hk; exact .inr h.nm)⟩
  · simp only [List.mem_cons] at hk
    rcases hk with rfl | rfl | hk
    · exact hd _ (by simp) hk'
    · exact hd _ (by simp) hk'
    · rcases hG k hk with h1 | h1
      · exact hd k (by simp [h1]) hk'
      · have := hs.lt hk'; omega
  · simp only [List.mem_cons] at hk
    rcases hk with rfl | rfl | hk
    · have := hKW k (by simp); omega
    · have := hKW k (by simp); omega
    · rcases hG k hk with h1 | h1
      · have := hKW k (by simp [h1]); omega
      · omega
end Qud
end Go.Proofs.YtmjdcpcndggflaaDoor

set_option linter.unusedVariables false
set_option linter.unusedSimpArgs false
namespace Go.Proofs.YtmjdcpcndggflaaDoor
namespace Qud
open Go.RowKit Go.Maps Arn

theorem sin_base {w W wc : World} {b n : Nat} {M : Mem} {A : Ar} (h : Sin W b M A n wc) (hT : Frm.Turn [] w W) : Sin w b M A n wc :=
  ⟨h.at_, fun k hk => Nat.le_trans hT.size (h.new k hk), hT.trans h.turn (by simp), h.low, h.born⟩
theorem step_store_row {P : Program} {ops : Array Oper} {o : Oper} {a : Act} {w : World} {K : Act → World → Prop} {Q : Exit → Act → World → Prop} {E : Prop}
    (hg : o.guard = none) (ty : TypeId) (x y : Operand) (hop : o.op = .store ty x y) (g : Nat) (cells : Array Value) (hx : a.eval x = .pointer (some ⟨g, 0, none⟩)) (hy : a.eval y = .agg cells) (t : TypeId) (old : Array Value) (hh : w.heap[g]? = some (.cells old t (0, 0)))
    (hi : (P.info? ty).map (·.size) = some cells.size) (hold : old.size = cells.size) (h1 : cells.all (·.oneCell') = true) (hK : K (a.put o.dst undef) (w.setRow g cells)) :
    if Region.wanted o (yielded ops a.tmps) = true then Oper.wp P o a w K Q else E := by
  have hw : Region.wanted o (yielded ops a.tmps) = true := by simp [Region.wanted, hg]
  rw [if_pos hw]
  exact wp_store_row ty x y hop g cells hx hy t old hh hi hold h1 hK
def zero20 : Array Value := #[.int .i64 0, .int .i64 0, .int .i64 0, .int .i64 0, .int .u64 0, .int .u64 0, .int .u64 0, .int .u64 0, .int .u64 0, .int .u64 0, .int .u64 0, .int .u64 0, .int .u64 0, .slice none 0 0, .int .i64 0, .int .i64 0, .int .i64 0, .int .i64 0, .int .i64 0, .int .i64 0]
def lit60 : Array Value := #[.int .i64 60000, .int .i64 0, .int .i64 0, .int .i64 0, .int .u64 0, .int .u64 0, .int .u64 0, .int .u64 0, .int .u64 0, .int .u64 0, .int .u64 0, .int .u64 0, .int .u64 0, .slice none 0 0, .int .i64 0, .int .i64 0, .int .i64 0, .int .i64 0, .int .i64 0, .int .i64 0]
theorem lit60_is : lit60 = refCells (Ar.new 60000) 0 0 0 0 0 0 0 0 0 (.slice none 0 0) := by simp [lit60, refCells, Ar.new]
theorem lit60_one : lit60.all (·.oneCell') = true := by simp [lit60, Value.oneCell']
theorem laid_start {w W0 w1 : World} {b br : Nat} {M : Mem} (hs : Sin w b M (Ar.new 60000) 0 w1) (hb : w1.heap[br]? = some (.cells zero20 46 (0, 0))) (hn : w.heap.size ≤ br) (hbr : br < W0.heap.size) (hM : ∀ k, k ∈ M.foot b → W0.heap.size ≤ k) :
    LaidS w b w1.heap.size br (Ar.new 60000) (Ar.new 60000) 0 lit60 zero20 [] ((w1.alloc (.cells zero20 46)).setRow w1.heap.size lit60) := by
  have hlt : br < w1.heap.size := (Array.getElem?_eq_some_iff.1 hb).1
  have h1 := World.alloc_heap_new w1 (.cells zero20 46)
  have hT : Frm.Turn [] w1 ((w1.alloc (.cells zero20 46)).setRow w1.heap.size lit60) := setRow_turn ((Frm.Turn.refl [] w1).alloc _) (.inr (Nat.le_refl _)) _
  have hsz : w1.heap.size < ((w1.alloc (.cells zero20 46)).setRow w1.heap.size lit60).heap.size := by simp
  refine ⟨⟨M, hs.step hT, fun k hk hk' => ?_⟩, fun k hk => ?_, ⟨.slice none 0 0, [], by rw [lit60_is], rfl, ⟨.inl ⟨rfl, rfl⟩, by simp⟩, rfl⟩, setRow_heap _ _ _ _ _ _ h1, hT.keep hb (by simp), rfl, by omega, hs.turn.size, hn, by simp, by simp⟩
  · simp only [List.mem_cons, List.not_mem_nil, or_false] at hk
    rcases hk with rfl | rfl
    · have := hs.lt hk'; omega
    · have := hM _ hk'; omega
  · simp only [List.mem_cons, List.not_mem_nil, or_false] at hk
    rcases hk with rfl | rfl
    · exact hsz
    · omega
theorem lay_faults (A : Ar) (ws : List Int) : (A.lay ws).1.faults = A.faults := by
  unfold Ar.lay
  split
  · rfl
  · split <;> rfl
/-- What Blocks leaves: an arena, and the document's of the same blocks. -/
def Told (w : World) (n : Nat) (e : Ending) (w' : World) : Prop :=
  ∃ b u A M G, e = .returned (.tuple #[.pointer (some ⟨b, 0, none⟩), .agg u]) ∧ u.size = 20 ∧ u.all (·.oneCell') = true ∧ Sin w b M A n w' ∧ RefAt w' A 0 0 0 0 0 0 0 0 0 (.agg u) G ∧ A.faults = 0
set_option maxRecDepth 100000 in
set_option maxHeartbeats 4000000 in
theorem laid_told (wv : Value) (R : List RowV) (w : World) (hw : RowsAt w wv R) (hm : R.length ≤ 10000000) (h64 : ∀ x, x ∈ R → (∀ z, z ∈ x.2 → W64 z) ∧ x.2.length ≤ 9223372036854775807) :
    Calls Tryd.prog 18 #[wv] w fun e w' => Told w R.length e w' := by
  obtain ⟨wa, wc, rfl⟩ := rows_form hw
  obtain ⟨m, HM⟩ : ∃ m, Hid (m = R.length) := ⟨_, Lib.hid rfl⟩
  have HW := Lib.hid hw
  have H64 := Lib.hid h64
  rw [← HM.out] at hm HW ⊢
  obtain ⟨fs, hfs⟩ := struct_of under_refA
  have HFS := Lib.hid hfs
  have HN : Hid (∀ W, Frm.Turn [] w W → Calls Tryd.prog 24 #[.int .i64 60000] W fun e w' => ∃ b, e = .returned (.tuple #[.pointer (some ⟨b, 0, none⟩), .int .i64 0]) ∧ (∃ M, Sin w b M (Ar.new 60000) 0 w' ∧ ∀ k, k ∈ M.foot b → W.heap.size ≤ k) ∧ Frm.Turn [] W w') :=
    Lib.hid fun W hT => (sin_new 60000 W (by omega)).mono fun e w' ⟨b, M, he, hs⟩ => ⟨b, he, ⟨M, sin_base hs hT, hs.new⟩, hs.turn⟩
  clear hw h64 hfs
  go_enter Tryd.func18, Tryd.ntmps18
  go_upto_region 1 with fail
  have hbr : (w.alloc (.cells zero20 46)).heap[w.heap.size]? = some (.cells zero20 46 (0, 0)) := World.alloc_heap_new w _
  have hT0 : Frm.Turn [] w (w.alloc (.cells zero20 46)) := (Frm.Turn.refl [] w).alloc _
  have hbz : w.heap.size < (w.alloc (.cells zero20 46)).heap.size := by simp
  unfold zero20 at hbr hT0 hbz
  generalize w.alloc (.cells _ 46) = W0 at hbr hT0 hbz ⊢
  obtain ⟨br, HBR⟩ : ∃ br, Hid (br = w.heap.size) := ⟨_, Lib.hid rfl⟩
  rw [← HBR.out] at hbr hbz ⊢
  have HB0 := Lib.hid hbr
  have HT0 := Lib.hid hT0
  have HBZ := Lib.hid hbz
  clear hbr hT0 hbz
  go_upto_region 3 with (first
    | (go_at_call 24; (with_reducible refine (HN.out _ HT0.out).mono ?_); rintro e w1 ⟨b, rfl, hS, hT⟩; have HS1 := Lib.hid hS; have HT1 := Lib.hid hT; have HB1 := Lib.hid (hT.keep HB0.out (by simp)); clear hS hT)
    | (refine wpList_store_row rfl 46 (.tmp 6) (.tmp 13) rfl w1.heap.size lit60 rfl rfl 46 zero20 (World.alloc_heap_new w1 _) info_refA rfl lit60_one ?_))
  simp only [Act.put]
  obtain ⟨M, hs1, hM1⟩ := HS1.out
  have hls := laid_start (W0 := W0) hs1 HB1.out (by rw [HBR.out]; exact Nat.le_refl _) HBZ.out hM1
  unfold zero20 at hls
  generalize (w1.alloc _).setRow w1.heap.size lit60 = W2 at hls ⊢
  generalize w1.heap.size = bm at hls ⊢
  have HLS := Lib.hid hls
  clear hls hs1 hM1
  go_wp2_with fail
  go_loopw [8, 16] (fun x i wr => ∃ j : Nat, j ≤ m ∧ i = .int .i64 j ∧ ∃ A CS G, A.faults = 0 ∧ LaidS w b bm br A A j CS zero20 G wr) (fun _ i _ => m - (intOf i).toNat)
  case atStart => exact ⟨0, Nat.zero_le _, rfl, _, _, _, rfl, HLS.out⟩
  case round =>
    obtain ⟨j, hj, rfl, A, CS, G, hF, hS⟩ := hrel
    have HF := Lib.hid hF
    clear hF
    by_cases hlt : j < m
    · obtain ⟨y, hy⟩ : ∃ y, R[j]? = some y := ⟨_, List.getElem?_eq_getElem (by rw [← HM.out]; exact hlt)⟩
      have hmem := List.mem_of_getElem? hy
      obtain ⟨og, oo, rfl, hcA⟩ := rows_cell HW.out hy
      obtain ⟨M0, hs0, hd0⟩ := hS.mem
      have hcB := hs0.turn.cell hcA (by simp)
      have hlow := hs0.low
      have hborn := hs0.born
      have hok := hs0.at_.ok
      have hv := HW.out.2 y hmem
      obtain ⟨h64, hws⟩ := H64.out y hmem
      have hb : A.births ≤ 100000000 := by omega
      have hl : A.t.lays ≤ 100000000 := by have := hlow.lays; omega
      have HL := Lib.hid (hS.lay (by omega) hv h64)
      have HR := Lib.hid (fun n' A' W' (h : LaidS w b bm br A' A n' CS zero20 G W') => h.refLay hok hb hl hv hws)
      obtain ⟨xv, hxv⟩ : ∃ xv, xv = y.1 := ⟨_, rfl⟩
      rw [← hxv] at hcB HL HR
      clear hcA hlow hborn hok hv h64 hb hl hmem hy hS hws hxv hs0 hd0
      go_wp2_with (first
        | (go_at_call 25; (with_reducible refine (HL.out).mono ?_); rintro e w2 ⟨rfl, hS2, hT2⟩; have HS2 := Lib.hid hS2; clear hS2 hT2)
        | (refine wpList_load_row rfl 46 (.tmp 6) rfl bm rfl 46 CS (0, 0) (.struct fs) HS2.out.hm HFS.out rfl (by rw [(ref_size HS2.out.ref).1]; exact info_refA) ?_)
        | (go_at_call 32; (with_reducible refine (HR.out _ _ _ HS2.out).mono ?_); rintro e w3 ⟨CS', G', rfl, hk, hsz, h20, hone, hS3, hT3⟩; have HK := Lib.hid hk; have HSZ := Lib.hid hsz; have H20 := Lib.hid h20; have HONE := Lib.hid hone; have HS3 := Lib.hid hS3; clear hk hsz h20 hone hS3 hT3)
        | (refine wpList_store_row rfl 46 (.tmp 6) (.tmp 27) rfl bm CS' rfl rfl 46 CS HK.out (by rw [H20.out]; exact info_refA) HSZ.out HONE.out ?_))
      refine ⟨⟨j + 1, by omega, by simp, _, _, _, by rw [lay_faults]; exact HF.out, HS3.out⟩, ?_⟩
      simp [intOf]; omega
    · obtain rfl : j = m := by omega
      have HS := Lib.hid hS
      clear hS hlt hj
      go_upto_region 9 with fail
      have HZ := Lib.hid (ref_size HS.out.ref)
      have HD1 : Hid (wr.drew.heap[bm]? = some (.cells CS 46 (0, 0))) := Lib.hid HS.out.hm
      have HD2 : Hid (wr.drew.heap[br]? = some (.cells zero20 46 (0, 0))) := Lib.hid HS.out.hr
      have HI20 : Hid ((Tryd.prog.info? 46).map (·.size) = some CS.toList.length) := Lib.hid (by rw [Array.length_toList, HZ.out.1]; exact info_refA)
      have hrg : ∀ W : World, W.heap[bm]? = some (.cells CS 46 (0, 0)) → W.rangeAt bm 0 CS.toList := fun W hW j u hu => by
        rw [Nat.zero_add, Frm.cell_row W bm j CS _ _ hW]
        simpa using hu
      have HRG := Lib.hid hrg
      clear hrg
      refine wp_region_held_drew (S := fun w' => w'.rangeAt bm 0 CS.toList) (by kernel_rfl) ?_ (fun hHeld => ?_)
      · exact HRG.out _ HD1.out
      refine wpAnyH_take (i := 0) (v := ?_) rfl (by kernel_rfl) (by kernel_rfl) (by kernel_rfl) (fun _ _ _ h => h) (Or.inl ⟨by rfl, ?_⟩) (by assumption) ?_
      rotate_left
      · (intro w hSw; (try dsimp only at hSw); go_simp; try with_reducible rfl)
      simp only [Act.put, List.getElem_toArray, List.getElem_cons_succ, List.getElem_cons_zero, List.setIfInBounds_toArray, List.set_cons_zero, List.set_cons_succ]
      refine wpAnyH_take (i := 1) (v := _) rfl (by kernel_rfl) (by kernel_rfl) (by kernel_rfl) (fun _ _ _ h => h)
          (yieldsIf_load_mid (by rfl) _ _ rfl bm 0 rfl CS.toList _ (fun w hw => hw) HFS.out rfl HI20.out) (by assumption) ?_
      simp only [Act.put, List.setIfInBounds_toArray, List.set_cons_zero, List.set_cons_succ, Array.toArray_toList]
      refine wpAnyH_take (i := 2) (v := ?_) rfl (by kernel_rfl) (by kernel_rfl) (by kernel_rfl) (fun _ _ _ h => h) (Or.inl ⟨by rfl, ?_⟩) (by assumption) ?_
      rotate_left
      · (intro w hSw; (try dsimp only at hSw); go_simp; try with_reducible rfl)
      simp only [Act.put, List.getElem_toArray, List.getElem_cons_succ, List.getElem_cons_zero, List.setIfInBounds_toArray, List.set_cons_zero, List.set_cons_succ]
      refine wpAnyH_ready (rs := [3]) (by kernel_rfl) (by simp) ?_
      refine AllReadyH.cons rfl (fun K hK => ?_) AllReadyH.nil
      simp only [List.getElem_toArray, List.getElem_cons_succ, List.getElem_cons_zero]
      refine wp_store_row 46 (.tmp 3) (.tmp 32) rfl br CS rfl rfl 46 zero20 HD2.out (by rw [HZ.out.1]; exact info_refA) (by rw [HZ.out.1]; rfl) HZ.out.2 ?_
      refine hK _ _ (HRG.out _ ?_) (fun hHeld => ?_)
      · exact (setRow_turn (Frm.Turn.refl [br] wr.drew) (.inl (by simp)) CS).keep HD1.out (by simp; exact HS.out.ne)
      refine wpAnyH_done (by kernel_rfl) ?_ _
      go_wp2_with fail
      have hld : (loadVar 46 ⟨br, 0, none⟩).run Tryd.prog (wr.drew.setRow br CS) = .ok (.agg CS) (wr.drew.setRow br CS) :=
        run_loadVar_row (wr.drew.setRow br CS) br _ _ CS (0, 0) (.struct fs) (setRow_heap wr.drew br zero20 CS _ _ HD2.out) HFS.out rfl (by rw [HZ.out.1]; exact info_refA)
      have hT9 : Frm.Turn [br] wr (wr.drew.setRow br CS) := setRow_turn (Frm.Turn.refl [br] wr).drew (.inl (by simp)) CS
      refine bodyPost_ret (v := .tuple #[.pointer (some ⟨b, 0, none⟩), .agg CS]) (by simp [results, Tryd.results18, asAddr, hld, Act.put]) rfl ?_
      obtain ⟨M, hs, hd⟩ := HS.out.mem
      exact ⟨b, CS, A, M, G, rfl, HZ.out.1, HZ.out.2, hs.apart hT9 (fun k hk hk' => by simp at hk'; subst hk'; exact hd _ (by simp) hk) (fun k hk => by simp at hk; subst hk; exact HS.out.nr), HS.out.ref.turn hT9 (fun k hk hk' => by simp at hk'; subst hk'; exact HS.out.gr hk), HF.out⟩
theorem laid_any (wv : Value) (R : List RowV) (w : World) (hw : RowsAt w wv R) (hm : R.length ≤ 10000000) (h64 : ∀ x, x ∈ R → (∀ z, z ∈ x.2 → W64 z) ∧ x.2.length ≤ 9223372036854775807) :
    Calls Tryd.prog 18 #[wv] w fun e w' => ∃ b u A M, e = .returned (.tuple #[.pointer (some ⟨b, 0, none⟩), .agg u]) ∧ u.size = 20 ∧ u.all (·.oneCell') = true ∧ Sin w b M A R.length w' :=
  (laid_told wv R w hw hm h64).mono fun e w' ⟨b, u, A, M, _, h1, h2, h3, h4, _⟩ => ⟨b, u, A, M, h1, h2, h3, h4⟩
end Qud
end Go.Proofs.YtmjdcpcndggflaaDoor
