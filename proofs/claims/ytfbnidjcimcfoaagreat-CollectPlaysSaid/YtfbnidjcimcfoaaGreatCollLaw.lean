/- Segments of law 12, once more: nothing was read. -/
/- What the laws of layer 13 go by: places, those that enter one behind the other, a collect behind them. -/
import Derived.Test.YtfbnidjcimcfoaaGreatCountSegsWalk
import Derived.Deep.AppendSrc
import Derived.Deep.MidRow
import Derived.Great.BuildSlice
import Derived.Test.YtfbnidjcimcfoaaGreatCollCrew
import Derived.Test.YtfbnidjcimcfoaaGreatCountBackMem
import Derived.Test.YtfbnidjcimcfoaaGreatCountTopsWalk2
import Derived.Test.YtfbnidjcimcfoaaGreatCollFindPlain
import Derived.Laws.Tables
set_option linter.unusedVariables false
set_option linter.unusedSimpArgs false
namespace Go.Proofs.YtfbnidjcimcfoaaGreat
namespace Col
open Go.RowKit Go.Maps Arn Pac Clm Cnt

/-- Between two segments. -/
def SegR (w : World) (b mb : Nat) (X : List (Nat × Obj)) (g : Nat) (v : Value) (W : World) : Prop := ∃ CS G A k, SegM w b mb X CS G A A k g v W ∧ k ≤ 2 * g ∧ SegA A g zF ∧ A.births = g ∧ A.cap = 60000 ∧ A.t.reads = 0
theorem write_reads (A : Ar) (b i v : Int) : (A.write b i v).1.t.reads = A.t.reads := by
  unfold Ar.write
  split <;> rfl
theorem add_reads (A : Ar) (b i v : Int) : (A.add b i v).1.t.reads = A.t.reads := by
  unfold Ar.add
  split <;> rfl
theorem lay_reads (A : Ar) (ws : List Int) : (A.lay ws).1.t.reads = A.t.reads := by
  unfold Ar.lay
  split
  · rfl
  · split <;> rfl
theorem seg_reads (A : Ar) (g : Nat) : (segStep A g).t.reads = A.t.reads := by
  unfold segStep
  rw [write_reads, lay_reads]
/-- What Segments tells. -/
def SegsEnd (w : World) (n : Nat) (e : Ending) (W : World) : Prop :=
  ∃ b u G A k hv, e = .returned (.tuple #[.pointer (some ⟨b, 0, none⟩), u, hv]) ∧ Kin w b (G ++ hv.ownBlock.toList) A k W ∧ k ≤ 2 * n ∧ SegA A n zF ∧ A.births = n ∧ A.cap = 60000 ∧ A.t.reads = 0 ∧ RefS W A u G ∧ W.ownsRow w.heap.size 31 1 hv n (hsV n) ∧ (∀ q, q ∈ G → w.heap.size ≤ q) ∧ (∀ q, hv.ownBlock = some q → q ∉ G)
theorem seg_start {w W : World} {b : Nat} {N : Array Value} {x : Nat} (hN : N = n20) (h : Kin w b [x] (Ar.new 60000) 0 W) (hx : W.heap[x]? = some oz) : SegR w b W.heap.size [(x, oz)] 0 (.slice none 0 0) ((W.alloc oz).setRow W.heap.size N) := by
  have h1 : (W.alloc oz).heap[W.heap.size]? = some (.cells z20 37 (0, 0)) := World.alloc_heap_new W oz
  have hT : Frm.Turn [] W ((W.alloc oz).setRow W.heap.size N) := setRow_turn ((Frm.Turn.refl [] W).alloc _) (.inr (Nat.le_refl _)) N
  have h2 := row_set N h1
  subst hN
  have hxl := (Array.getElem?_eq_some_iff.1 hx).1
  refine ⟨n20, [], Ar.new 60000, 0, ⟨?_, refS_new _ 60000, h2, World.ownsRow_nil _ _ _ _, h.turn.size, by simp, by simp [Value.ownBlock], fun p hp => ?_⟩, Nat.le_refl _, segA_new, rfl, rfl, rfl⟩
  · refine kin_adds h hT (fun q hq => ?_)
    simp only [List.map_cons, List.map_nil, Value.ownBlock, List.mem_append, List.mem_cons, List.not_mem_nil, or_false, Option.toList, List.nil_append] at hq
    rcases hq with rfl | rfl
    · exact .inl (by simp)
    · exact .inr ⟨Nat.le_refl _, (Array.getElem?_eq_some_iff.1 h2).1⟩
  · simp only [List.mem_cons, List.not_mem_nil, or_false] at hp
    subst hp
    exact ⟨hT.keep hx (by simp), by dsimp only; omega, by simp [Value.ownBlock], by simp⟩
/-- What the round goes by. -/
theorem seg_open {w W : World} {b mb g : Nat} {X : List (Nat × Obj)} {v : Value} (h : SegR w b mb X g v W) (hg : g ≤ 8) : ∃ va vc CS G A k, v = .slice va g vc ∧ SegM w b mb X CS G A A k g v W ∧ k ≤ 2 * g ∧ SegA A g zF ∧ A.births = g ∧ A.cap = 60000 ∧ CS.size = 20 ∧ CS.all (·.oneCell') = true ∧ A.t.reads = 0 := by
  obtain ⟨CS, G, A, k, S, h1, h2, h3, h4, h7⟩ := h
  obtain ⟨va, vc, rfl⟩ := Frm.row_form S.row
  obtain ⟨CS', e, h5, h6⟩ := S.ref.row
  cases e
  exact ⟨va, vc, CS, G, A, k, rfl, S, h1, h2, h3, h4, h5, h6, h7⟩
theorem segs_end {w W W' : World} {b mb k g : Nat} {CS : Array Value} {G : List Nat} {A : Ar} {v : Value} {o : Obj} (S : SegM w b mb [(w.heap.size, o)] CS G A A k g v W) (h : k ≤ 2 * g ∧ SegA A g zF ∧ A.births = g ∧ A.cap = 60000 ∧ A.t.reads = 0) (hT : Frm.Turn [w.heap.size] W W') :
    SegsEnd w g (.returned (.tuple #[.pointer (some ⟨b, 0, none⟩), .agg CS, v])) W' := by
  obtain ⟨h1, h2, h3, h4, h7⟩ := h
  have hx := (S.xs _ (List.Mem.head _)).2
  have hm := S.in_x (List.Mem.head _)
  have hg : w.heap.size ∉ G := hx.2.2
  refine ⟨b, .agg CS, G, A, k, v, rfl, (S.kin.poke hT (fun q hq => by simp at hq; subst hq; exact ⟨hm, Nat.le_refl _⟩)).sub (fun q hq => by simp at hq ⊢; exact .inr (.inr hq)), h1, h2, h3, h4, h7, S.ref.turn hT (fun q hq e => hg (by simp at e; rw [← e]; exact hq)), Frm.owns_turn S.row hT (fun q hq e => hx.2.1 (by simp at e; rw [← e]; exact hq)), fun q hq => (S.gl q hq).1, fun q hq => (S.vn q hq).2⟩
set_option maxRecDepth 100000 in
set_option maxHeartbeats 4000000 in
theorem Segments_any (n : Nat) (w : World) (hn : n ≤ 8) : Calls Tryz.prog 7 #[.int .i64 n] w (SegsEnd w n) := by
  have HN : Hid (Calls Tryz.prog 45 #[.int .i64 60000] (w.alloc oz) fun e w' => ∃ b, e = .returned (.tuple #[.pointer (some ⟨b, 0, none⟩), .int .i64 0]) ∧ Kin w b [w.heap.size] (Ar.new 60000) 0 w' ∧ w'.heap[w.heap.size]? = some oz) :=
    Lib.hid ((sin_new 60000 (w.alloc oz) (by omega)).mono fun e w' ⟨b, M, he, h2⟩ => ⟨b, he, kin_base ⟨M, h2, fun k hk => by
      simp at hk; subst hk
      have h3 := h2.turn.size
      refine ⟨fun h => ?_, by simp at h3; omega⟩
      have := h2.new _ h
      simp at this; omega⟩ ((Frm.Turn.refl [] w).alloc oz), h2.turn.keep (World.alloc_heap_new w oz) (by simp)⟩)
  unfold oz z20 at HN
  have HPW := Lib.hid (fun (g : Nat) (hg : g ≤ 8) W => Pow_any g W hg)
  obtain ⟨fs, hfs⟩ := struct_of under_refA
  have HFS := Lib.hid hfs
  obtain ⟨i0, hi, hz0, hz1, hz2⟩ := info_parts info_u64
  obtain ⟨N20, HN20⟩ : ∃ x, Hid (x = n20) := ⟨_, Lib.hid rfl⟩
  go_enter Tryz.func7, Tryz.ntmps7
  go_upto_region 2 with (go_at_call 45; (with_reducible refine (HN.out).mono ?_); rintro e w1 ⟨b, rfl, h, ho⟩; have HK := Lib.hid h; have HO := Lib.hid ho; clear h ho)
  go_upto_region 3 with (first
    | (refine wpList_buildTo rfl 37 #[(0, .const (.int .i64 60000))] rfl (some 18) rfl N20 (by rw [HN20.out]; kernel_rfl) ?_)
    | (refine wpList_store_row rfl 37 (.tmp 7) (.tmp 18) rfl w1.heap.size N20 rfl rfl 37 _ (World.alloc_heap_new w1 _) (by rw [HN20.out, n20_facts.1]; exact info_refA) (by rw [HN20.out]; rfl) (by rw [HN20.out]; exact n20_facts.2) ?_))
  have HS0 := Lib.hid (seg_start HN20.out HK.out HO.out)
  unfold oz z20 at HS0
  generalize World.setRow _ w1.heap.size N20 = w2 at HS0 ⊢
  clear HN HN20 HO HK
  generalize w1.heap.size = mb at HS0 ⊢
  clear w1
  go_wp2_with fail
  go_loopw [8, 20] (fun v i wr => ∃ g : Nat, g ≤ n ∧ i = .int .i64 g ∧ SegR w b mb [(w.heap.size, oz)] g v wr) (fun _ i _ => n - (intOf i).toNat)
  case atStart => exact ⟨0, Nat.zero_le _, rfl, HS0.out⟩
  case round =>
    obtain ⟨g, hg, rfl, hrel⟩ := hrel
    clear HS0
    by_cases hlt : g < n
    · obtain ⟨va, vc, CS, G, A, k, rfl, S, h1, h2, h3, h4, h5, h6, h7⟩ := seg_open hrel (by omega)
      have h8 : g < 8 := by omega
      have hp := pow_le h8
      have HP := Lib.hid (HPW.out g (by omega))
      obtain ⟨z, hz⟩ : ∃ z : Nat, z = 7 * 2 ^ g := ⟨_, rfl⟩
      have hm := fun W => made_words z (by omega) W
      have HLY := Lib.hid (seg_lay S h2 h8 h3 h4 (by omega) z hz)
      have HML := Lib.hid (fun (Xx : List (Nat × Obj)) (W' : World) (A' : Ar) (k' : Nat) (u : Value) (S' : SegM w b mb Xx CS G A' A k' g (.slice va g vc) W') (hw : WordsAt W' u (List.replicate (7 * 2 ^ g) 0)) => seg_mlay S' h2 h8 h3 h4 (by have := (kin_low S.kin).lays; omega) hw)
      have HLW := Lib.hid (h2.lay h8 h3 h4)
      have ez : (z : Int) = 7 * ((2 ^ g : Nat) : Int) := by omega
      have p0 : (1 : Int) ≤ ((2 ^ g : Nat) : Int) := by omega
      have p1 : ((2 ^ g : Nat) : Int) ≤ 128 := by omega
      have HK2 : Hid (k + 2 ≤ 2 * (g + 1)) := Lib.hid (by omega)
      have HSZ := Lib.hid (And.intro h5 h6)
      have HSO := Lib.hid S.own
      have HSW := Lib.hid S.kin.turn
      have HKL : Hid (k ≤ 100) := Lib.hid (by omega)
      have H8 := Lib.hid h8
      have H7 := Lib.hid h7
      have hgn : (g : Int) < (n : Int) := by omega
      have hg8 : (g : Int) ≤ 7 := by omega
      rw [ez] at hm
      clear hrel S h1 h2 h3 h4 h5 h6 h7 hp ez hz
      generalize ((2 ^ g : Nat) : Int) = p at HP hm p0 p1
      go_upto_region 10 with (first
        | (go_at_call 46; (with_reducible refine (HP.out _).mono ?_); rintro e w3 ⟨rfl, rfl⟩)
        | (go_at_call 8; (with_reducible refine (HLY.out).mono ?_); rintro e w3 ⟨rfl, hs, hw⟩; have HO3 := Lib.hid hs.own; have HM3 := Lib.hid (HML.out _ _ _ _ _ hs hw); clear hs hw)
        | (refine wpList_load_row rfl 37 (.tmp 7) rfl mb rfl 37 CS (0, 0) (.struct fs) HO3.out HFS.out rfl (by rw [HSZ.out.1]; exact info_refA) ?_)
        | (go_at_call 9; (with_reducible refine (HM3.out).mono ?_); rintro e w4 ⟨CS4, G4, rfl, hz4, ho4, hc4, hs⟩; have HZ4 := Lib.hid hz4; have HN4 := Lib.hid ho4; have HC4 := Lib.hid hc4; have HS4 := Lib.hid hs; clear hz4 ho4 hc4 hs)
        | (refine wpList_store_row rfl 37 (.tmp 7) (.tmp 37) rfl mb CS4 rfl rfl 37 CS HC4.out (by rw [HZ4.out]; exact info_refA) (by rw [HZ4.out, HSZ.out.1]) HN4.out ?_))
      generalize World.setRow w4 mb CS4 = w5 at HS4 ⊢
      have hx5 := World.alloc_heap_new w5 (.cells #[.int .u64 0, .int .i64 (1 + (g : Int))] 66)
      have HS5 := Lib.hid (HS4.out.add ((Frm.Turn.refl [] w5).alloc (.cells #[.int .u64 0, .int .i64 (1 + (g : Int))] 66)) (Nat.le_refl _) hx5)
      have HLO := Lib.hid (kin_low HS4.out.kin)
      clear HS4 HC4 HM3 HO3 HLY HML HP hx5 hm
      have HWR := Lib.hid (seg_write HS5.out (by have := HKL.out; omega) HLW.out.2.2.2.1 H8.out)
      go_upto_region 12 with (first
        | (go_at_call 13; (with_reducible refine (HWR.out).mono ?_); rintro e w6 ⟨rfl, hs⟩; have HS6 := Lib.hid hs; clear hs))
      have hx6 := (HS6.out.xs _ (List.Mem.head _)).1
      have q0 : w6.cell? ⟨w5.heap.size, 0, none⟩ = some (.int .u64 0) := (Frm.cell_row _ _ 0 _ _ _ hx6).trans rfl
      have q1 : w6.cell? ⟨w5.heap.size, 1, none⟩ = some (.int .i64 (1 + (g : Int))) := (Frm.cell_row _ _ 1 _ _ _ hx6).trans rfl
      have HO6 := Lib.hid HS6.out.own
      have HMW := Lib.hid (seg_mwrite HS6.out HLW.out.2.1 (by have := HLO.out.faults; have := HKL.out; omega) (by have := HLO.out.writes; have := HKL.out; omega) HLW.out.2.2.2.1)
      clear hx6 HWR HS5
      go_upto_region 13 with (first
        | (refine wpList_load_row rfl 37 (.tmp 7) rfl mb rfl 37 CS4 (0, 0) (.struct fs) HO6.out HFS.out rfl (by rw [HZ4.out]; exact info_refA) ?_)
        | (go_at_call 14; (with_reducible refine (HMW.out).mono ?_); rintro e w7 ⟨CS7, G7, rfl, hz7, ho7, hc7, hs⟩; have HZ7 := Lib.hid hz7; have HN7 := Lib.hid ho7; have HC7 := Lib.hid hc7; have HS7 := Lib.hid hs.less; clear hz7 ho7 hc7 hs)
        | (refine wpList_store_row rfl 37 (.tmp 7) (.tmp 52) rfl mb CS7 rfl rfl 37 CS4 HC7.out (by rw [HZ7.out]; exact info_refA) (by rw [HZ7.out, HZ4.out]) HN7.out ?_))
      generalize World.setRow w7 mb CS7 = w8 at HS7 ⊢
      have HR8 := Lib.hid (Frm.owns_turn HS7.out.row ((Frm.Turn.refl [] w8).alloc (.cells #[.int .u64 (hS g)] 31)) (by simp))
      have HB8 : Hid (w.heap.size ≤ (w8.alloc (.cells #[.int .u64 (hS g)] 31)).heap.size) := Lib.hid (by have := HS7.out.kin.turn.size; simp; omega)
      clear HMW HO6 HS6 q0 q1 HC7
      go_wp2_with (at_builtin; go_must (refine wpList_append_own_at _ rfl (.tmp 54) (.tmp 56) 25 rfl w.heap.size 31 i0 (.int .u64 0) 1 8 under_u64s hi hz0 hz1 hz2 rfl (by decide) (.slice va g vc) g (hsV g) rfl HR8.out ⟨w8.heap.size, 0, none⟩ 1 1 [.int .u64 (hS g)] rfl rfl (Dr.one_new _ _ _) (by simp [Value.oneCell']) (by unfold maxLen; omega) (by omega) HB8.out ?_); intro v9 w9 hown9 hg9 _ hl9; have HO9 := Lib.hid hown9; have HG9 := Lib.hid hg9; have HL9 := Lib.hid hl9; clear hown9 hg9 hl9)
      refine ⟨⟨g + 1, by omega, by simp, ?_⟩, ?_⟩
      · exact ⟨CS7, G7, segStep A g, k + 1 + 1, HS7.out.grow ((Frm.Turn.refl [] w8).alloc _) HG9.out HL9.out HO9.out, HK2.out, HLW.out.2.2.2.2.1, HLW.out.2.2.2.2.2.1, HLW.out.2.2.2.2.2.2, (seg_reads A g).trans H7.out⟩
      · simp [intOf]; omega
    · obtain rfl : g = n := by omega
      obtain ⟨va, vc, CS, G, A, k, rfl, S, h1, h2, h3, h4, h5, h6, h7⟩ := seg_open hrel (by omega)
      have hlt' : ¬ (g : Int) < (g : Int) := by omega
      have HS := Lib.hid S
      have HX := Lib.hid (And.intro h1 (And.intro h2 (And.intro h3 (And.intro h4 h7))))
      have HSZ := Lib.hid (And.intro h5 h6)
      have hx := (S.xs _ (List.Mem.head _)).1
      have HRB := Lib.hid hx
      have HNE : Hid (mb ≠ w.heap.size) := Lib.hid (fun e => (S.xs _ (List.Mem.head _)).2.1 e.symm)
      clear hrel S h1 h2 h3 h4 h5 h6 h7 hx hlt
      go_upto_region 15 with fail
      refine wp_region_held_drew (S := fun W' => Frm.Turn [w.heap.size] wr W') (by kernel_rfl) ?_ (fun hHeld => ?_)
      · exact (Frm.Turn.refl _ wr).drew
      refine wpAnyH_take (i := 0) (v := ?_) rfl (by kernel_rfl) (by kernel_rfl) (by kernel_rfl) (fun _ _ _ h => h) (Or.inl ⟨by rfl, ?_⟩) (by assumption) ?_
      rotate_left
      · (intro w hSw; (try dsimp only at hSw); go_simp; try with_reducible rfl)
      try simp only [Act.put, List.getElem_toArray, List.getElem_cons_succ, List.getElem_cons_zero, List.setIfInBounds_toArray, List.set_cons_zero, List.set_cons_succ]
      refine' wpAnyH_take (i := 1) (v := _) rfl (by kernel_rfl) (by kernel_rfl) (by kernel_rfl) (fun _ _ _ h => h) (yieldsIf_load_mid (by rfl) 37 (.tmp 7) rfl mb 0 rfl CS.toList (.struct fs) (fun w' hw => range_of (hw.keep HS.out.own (by simpa using HNE.out))) HFS.out rfl (by rw [Array.length_toList, HSZ.out.1]; exact info_refA)) (by assumption) ?_
      try simp only [Act.put, List.getElem_toArray, List.getElem_cons_succ, List.getElem_cons_zero, List.setIfInBounds_toArray, List.set_cons_zero, List.set_cons_succ]
      rw [Array.toArray_toList]
      refine wpAnyH_take (i := 2) (v := ?_) rfl (by kernel_rfl) (by kernel_rfl) (by kernel_rfl) (fun _ _ _ h => h) (Or.inl ⟨by rfl, ?_⟩) (by assumption) ?_
      rotate_left
      · (intro w hSw; (try dsimp only at hSw); go_simp; try with_reducible rfl)
      try simp only [Act.put, List.getElem_toArray, List.getElem_cons_succ, List.getElem_cons_zero, List.setIfInBounds_toArray, List.set_cons_zero, List.set_cons_succ]
      refine wpAnyH_take (i := 3) (v := ?_) rfl (by kernel_rfl) (by kernel_rfl) (by kernel_rfl) (fun _ _ _ h => h) (Or.inl ⟨by rfl, ?_⟩) (by assumption) ?_
      rotate_left
      · (intro w hSw; (try dsimp only at hSw); go_simp; try with_reducible rfl)
      try simp only [Act.put, List.getElem_toArray, List.getElem_cons_succ, List.getElem_cons_zero, List.setIfInBounds_toArray, List.set_cons_zero, List.set_cons_succ]
      refine wpAnyH_ready (rs := [4]) (by kernel_rfl) (by simp) ?_
      refine AllReadyH.cons rfl (fun K hK => ?_) AllReadyH.nil
      try simp only [List.getElem_toArray, List.getElem_cons_succ, List.getElem_cons_zero]
      rw [if_pos (by rfl)]
      refine wp_store_row 37 (.tmp 3) (.tmp 60) rfl w.heap.size CS rfl rfl 37 z20 ((Frm.Turn.refl [] wr).drew.keep HRB.out (by simp)) (by rw [HSZ.out.1]; exact info_refA) (by rw [HSZ.out.1]; rfl) HSZ.out.2 ?_
      refine hK.out _ _ (setRow_turn ((Frm.Turn.refl _ wr).drew) (.inl (by simp)) CS) (fun hHeld4 => ?_)
      clear hK K
      try simp only [Act.put, List.getElem_toArray, List.getElem_cons_succ, List.getElem_cons_zero, List.setIfInBounds_toArray, List.set_cons_zero, List.set_cons_succ]
      refine wpAnyH_take (i := 5) (v := ?_) rfl (by kernel_rfl) (by kernel_rfl) (by kernel_rfl) (fun _ _ _ h => h) (Or.inl ⟨by rfl, ?_⟩) (by assumption) ?_
      rotate_left
      · (intro w hSw; (try dsimp only at hSw); go_simp; try with_reducible rfl)
      try simp only [Act.put, List.getElem_toArray, List.getElem_cons_succ, List.getElem_cons_zero, List.setIfInBounds_toArray, List.set_cons_zero, List.set_cons_succ]
      refine wpAnyH_done (by kernel_rfl) ?_ _
      go_wp2_with fail
      have hT := hHeld4
      have hrow : (wr.drew.setRow w.heap.size CS).heap[w.heap.size]? = some (.cells CS 37 (0, 0)) := row_set CS ((Frm.Turn.refl [] wr).drew.keep HRB.out (by simp))
      have HROW := Lib.hid hrow
      have hld : (loadVar 37 ⟨w.heap.size, 0, none⟩).run Tryz.prog (wr.drew.setRow w.heap.size CS) = .ok (.agg CS) (wr.drew.setRow w.heap.size CS) := run_loadVar_row _ _ _ _ CS (0, 0) (.struct fs) hrow HFS.out rfl (by rw [HSZ.out.1]; exact info_refA)
      refine bodyPost_ret (v := .tuple #[.pointer (some ⟨b, 0, none⟩), .agg CS, .slice va g vc]) (by simp [results, Tryz.results7, asAddr, hld, Act.put]) rfl ?_
      exact segs_end HS.out HX.out hHeld4
end Col
end Go.Proofs.YtfbnidjcimcfoaaGreat

set_option linter.unusedVariables false
set_option linter.unusedSimpArgs false
namespace Go.Proofs.YtfbnidjcimcfoaaGreat
namespace Col
open Go.RowKit Go.Maps Arn Pac Clm Cnt

variable {w W W' : World} {r b n k N kh m : Nat} {K : List Nat} {A : Ar} {C : Co} {v : Value} {f : Nat → Nat → Int} {base : Nat} {X X' : List (Nat × Obj)} {rr qq : Nat → Nat} {c : Nat → Option Ct} {sl : Nat → Nat} {ohs : Obj}
/-! ### rows made -/
theorem info_cts : (Tryz.prog.info? 93).map (fun i => (i.zero, i.size, i.bytes)) = some (some (.pointer none), 1, 8) := by kernel_rfl
theorem under_bools : Tryz.prog.underlying 84 = some (.slice 4) := by kernel_rfl
theorem info_bool : (Tryz.prog.info? 4).map (fun i => (i.zero, i.size, i.bytes)) = some (some (.bool false), 1, 1) := by kernel_rfl
theorem made_bools (n : Nat) (hn : n ≤ 60000) (w : World) : (Instr.makeSlice 84 (.int .i64 (n : Int)) (.int .i64 (n : Int))).run Tryz.prog w = .ok (.slice (some ⟨w.heap.size, 0, none⟩) n n) (w.alloc (oBools (fun _ => false) n)) := by
  obtain ⟨i, h1, h2, h3, h4⟩ := Dr.info_parts info_bool
  have hr := run_make (P := Tryz.prog) w 84 4 i (.bool false) under_bools h1 h2 .i64 .i64 n n (by omega) (by omega) (by rw [h4]; omega) (by omega)
  simp only [Int.toNat_natCast, h3, Nat.mul_one] at hr
  have e : madeCells #[.bool false] n = (bools (fun _ => false) n).toArray := by
    apply Array.toList_inj.1
    rw [toList_madeCells_one]
    simp only [bools]
    apply List.ext_getElem?
    intro j
    by_cases h : j < n <;> simp [h]
  unfold oBools
  rw [← e]
  exact hr
/-! ### two places -/
theorem size_u64 (w : World) : (sizeOf 31).run Tryz.prog w = .ok 1 w := by
  have hi : (Tryz.prog.info? 31).map (·.size) = some 1 := by kernel_rfl
  cases hq : Tryz.prog.info? 31 with
  | none => simp [hq] at hi
  | some i =>
    have hs : i.size = 1 := by simpa [hq] using hi
    simp [sizeOf, typeInfo, hq, hs]
theorem size_int (w : World) : (sizeOf 3).run Tryz.prog w = .ok 1 w := by
  have hi : (Tryz.prog.info? 3).map (·.size) = some 1 := by kernel_rfl
  cases hq : Tryz.prog.info? 3 with
  | none => simp [hq] at hi
  | some i =>
    have hs : i.size = 1 := by simpa [hq] using hi
    simp [sizeOf, typeInfo, hq, hs]
theorem equal2_at (D : Nat) (w : World) (a0 a1 b0 b1 : Int)
    (e0 : ∀ x y : Int, (Op.equalIn D 31 (.int .u64 x) (.int .u64 y)).run Tryz.prog w = .ok (x == y) w)
    (e1 : ∀ x y : Int, (Op.equalIn D 3 (.int .i64 x) (.int .i64 y)).run Tryz.prog w = .ok (x == y) w) :
    (Op.equalIn (D + 1) 46 (.agg #[.int .u64 a0, .int .i64 a1]) (.agg #[.int .u64 b0, .int .i64 b1])).run Tryz.prog w = .ok (a0 == b0 && a1 == b1) w := by
  have p0 : ∀ x y : Int, (part 31 #[.int .u64 x, .int .i64 y] 0).run Tryz.prog w = .ok (.int .u64 x) w := fun x y => by kernel_rfl
  have p1 : ∀ x y : Int, (part 3 #[.int .u64 x, .int .i64 y] 1).run Tryz.prog w = .ok (.int .i64 y) w := fun x y => by kernel_rfl
  simp only [Op.equalIn, Sem.run_bind, run_underlying Tryz.underlying46, Result.andThen_ok, size_u64, size_int, Std.Legacy.Range.forIn_eq_forIn_range', Std.Legacy.Range.size]
  cases h0 : (a0 == b0) <;> cases h1 : (a1 == b1) <;> simp [List.range', Sem.run_bind, p0, p1, e0, e1, h0, h1, size_u64, size_int]
theorem equal2 (w : World) (a0 a1 b0 b1 : Int) (b : Bool) (h : (a0 == b0 && a1 == b1) = b) :
    (Op.equalIn 10000 46 (.agg #[.int .u64 a0, .int .i64 a1]) (.agg #[.int .u64 b0, .int .i64 b1])).run Tryz.prog w = .ok b w := by
  rw [← h]
  exact equal2_at 9999 w _ _ _ _ (fun x y => run_equalIn_int w 9998 31 .u64 .u64 x y Tryz.underlying31) (fun x y => run_equalIn_int w 9998 3 .i64 .i64 x y Tryz.underlying3)
theorem row_cells {W : World} {base size n : Nat} {e : TypeId} {v : Value} {xs : List Value} (h : W.ownsRow base e size v n xs) (hn : n ≠ 0) : ∃ g c, v = .slice (some ⟨g, 0, none⟩) n c ∧ ∀ (i : Nat) x, xs[i]? = some x → W.cell? ⟨g, i, none⟩ = some x := by
  rcases h.2 with ⟨_, hz⟩ | ⟨g, cap, cur, rfl, h3, h4, h5, h6, h7, h8⟩
  · exact absurd hz hn
  · refine ⟨g, cap, rfl, fun i x hx => ?_⟩
    rw [Frm.cell_row _ _ i _ _ _ h4]
    rw [← h8, List.getElem?_take] at hx
    split at hx
    · simpa using hx
    · cases hx
/-- Segments, with what the laws of layer 13 need of it. -/
theorem segsN (n : Nat) (w0 w : World) (ht : Frm.Turn [] w0 w) (hn : 0 < n) (h8 : n ≤ 8) : Calls Tryz.prog 7 #[.int .i64 n] w fun e W =>
    ∃ b CS kh c ohs A k K, e = .returned (.tuple #[.pointer (some ⟨b, 0, none⟩), .agg CS, .slice (some ⟨kh, 0, none⟩) n c]) ∧ CS.size = 20 ∧ CS.all (·.oneCell') = true ∧ Kin w0 b K A k W ∧ kh ∈ K ∧ W.heap[kh]? = some ohs ∧ HsO ohs kh n ∧ w0.heap.size ≤ kh ∧ k ≤ 16 ∧ SegA A n zF ∧ A.t.reads = 0 := by
  refine (Col.Segments_any n w (by omega)).mono ?_
  rintro e W ⟨b, u, G, A, k, hv, rfl, h1, h2, h3, h4, h5, h5', h6, h7, h8, h9⟩
  obtain ⟨CS, rfl, z1, z2⟩ := h6.row
  obtain ⟨kh, c, o, rfl, g1, g2, g3⟩ := hs_obj h7 (by omega)
  have := ht.size
  exact ⟨b, CS, kh, c, o, A, k, _, rfl, z1, z2, kin_base h1 ht, by simp [Value.ownBlock], g1, g2, by omega, by omega, h3, h5'⟩
set_option maxRecDepth 100000 in
set_option maxHeartbeats 4000000 in
/-- place of law 13. -/
theorem place13 {kh c : Nat} (s : Nat) (z : Int) (W : World) (hz : z % 15 = s) (z0 : 0 ≤ z) (z1 : z < 256) (hg : sgN s < n) (hn : n ≤ 8) (h : HsAt W kh n) :
    Calls Tryz.prog 39 #[.slice (some ⟨kh, 0, none⟩) n c, .int .u8 z] W fun e w' => e = .returned (.agg #[.int .u64 (hS (sgN s)), .int .i64 s]) ∧ Frm.Turn [] W w' := by
  have hs : s < 255 := by omega
  have HS := Lib.hid (fun W => RSegment_any s W hs)
  have hc := fun o => ((Frm.Turn.refl [] W).alloc o).cell (h _ hg) (by simp)
  have HT : Hid (∀ o, Frm.Turn [] W (W.alloc o)) := Lib.hid (fun o => (Frm.Turn.refl [] W).alloc o)
  have HT2 : Hid (∀ o a u a' u', a.block = W.heap.size → a'.block = W.heap.size → Frm.Turn [] W (((W.alloc o).setCell a u).setCell a' u')) := Lib.hid (fun o a u a' u' h1 h2 => ((HT.out o).setCell (.inr (by omega)) u).setCell (.inr (by omega)) u')
  have g3 : ¬ (n : Int) ≤ (sgN s : Int) := by omega
  have g4 : (0 : Int) ≤ (sgN s : Int) := by omega
  have g5 : (sgN s : Int) < (n : Int) := by omega
  have g6 : (sgN s : Int) ≤ 8 := by omega
  have e15 : IntKind.u8.wrap (z % 15) = (s : Int) := by rw [hz, IntKind.wrap_u8]; omega
  have w15 : IntKind.i64.wrap (s : Int) = (s : Int) := by rw [IntKind.wrap_i64]; omega
  have z5 : z.tmod 15 = (s : Int) := by rw [Int.tmod_eq_emod_of_nonneg z0]; exact hz
  have s0 : (0 : Int) ≤ (s : Int) := by omega
  have s1 : (s : Int) < 15 := by omega
  clear h hs hg
  go_enter Tryz.func39, Tryz.ntmps39
  go_wp2_with (go_at_call 74; (with_reducible refine (HS.out _).mono ?_); rintro e w1 ⟨rfl, rfl⟩)
  have hld := load_plc (World.alloc_heap_new W (.cells #[.int .u64 (hS (sgN s)), .int .i64 s] 46))
  refine bodyPost_ret (v := .agg #[.int .u64 (hS (sgN s)), .int .i64 s]) (by simp [results, Tryz.results39, asAddr, hld, Act.put]) rfl ⟨rfl, ?_⟩
  exact HT.out _

/-! ### those that enter one behind the other -/
/-- m have entered. -/
def EntR (w : World) (b : Nat) (X : List (Nat × Obj)) (n : Nat) (sl : Nat → Nat) (m : Nat) (W : World) : Prop :=
  ∃ rr qq c A k, Crew w b X 1 rr qq c A k W ∧ k ≤ 20 + 10 * m ∧ SegA A n (fun g j => ((tF sl m g j : Nat) : Int))
/-- While the next one enters: behind j steps. -/
def EntM (w : World) (b : Nat) (X : List (Nat × Obj)) (n : Nat) (sl : Nat → Nat) (m r : Nat) (j : Nat) (W : World) : Prop :=
  ∃ rr qq c A k, Crew w b X 1 rr qq c A k W ∧ rr 0 = r ∧ c 0 = some (enC (sl m) j) ∧ k ≤ 20 + 10 * m + j ∧ SegA A n (fun g y => ((tF sl m g y + con (sl m) 0 (min j (kN (sl m))) g y : Nat) : Int))
theorem ent_first {K : List Nat} (h : Kin w b K A k W) (hxs : ∀ p, p ∈ X → p.1 ∈ K ∧ W.heap[p.1]? = some p.2 ∧ w.heap.size ≤ p.1) (hd : (X.map Prod.fst).Nodup) {x : Nat} (hx : x ∈ K) (hk : k ≤ 20) (I : SegA A n zF) : EntR w b X n sl 0 W := by
  refine ⟨_, _, _, A, k, crew_new h hxs hd hx, hk, ?_⟩
  rw [tF_zero]; exact I
theorem ent_start (h : EntR w b X n sl m W) (hs : sl m < 255) {q : Nat} (hm : MadeC W b ⟨hS (sgN (sl m)), sl m, 0, kN (sl m), 1⟩ r q W') : EntM w b X n sl m r 0 W' := by
  obtain ⟨rr, qq, c, A, k, S, hk, I⟩ := h
  have e : (⟨hS (sgN (sl m)), sl m, 0, kN (sl m), 1⟩ : Ct) = enC (sl m) 0 := by unfold enC; simp
  rw [e] at hm
  refine ⟨_, _, _, A, k, S.made (i := 0) hm (enC_fit hs 0), upd_at _ _ _, upd_at _ _ _, by omega, ?_⟩
  have e2 : (fun g y => ((tF sl m g y + con (sl m) 0 (min 0 (kN (sl m))) g y : Nat) : Int)) = fun g y => ((tF sl m g y : Nat) : Int) := by
    funext g y
    rw [Nat.zero_min, con_none (Nat.le_refl _)]; rfl
  rw [e2]; exact I
theorem ent_step {j : Nat} (h : EntM w b X n sl m r j W) (hs : sl m < 255) (hn : sgN (sl m) < n) (hm : m ≤ 40) (hj : j ≤ 20) :
    Calls Tryz.prog 42 #[.pointer (some ⟨r, 0, none⟩)] W fun e w' => e = .returned (.tuple #[]) ∧ EntM w b X n sl m r (j + 1) w' := by
  obtain ⟨rr, qq, c, A, k, S, rfl, hc, hk, I⟩ := h
  refine (S.step (by omega) (by omega) hc).mono ?_
  rintro e w' ⟨he, S'⟩
  refine ⟨he, rr, qq, _, _, _, S', rfl, ?_, by omega, enC_seg I hs hn (fun g j => by have := tF_le sl m g j; omega)⟩
  rw [upd_at, enC_step]
theorem ent_end (h : EntM w b X n sl m r 9 W) (hs : sl m < 255) : EntR w b X n sl (m + 1) W := by
  obtain ⟨rr, qq, c, A, k, S, _, hc, hk, I⟩ := h
  refine ⟨rr, qq, c, A, k, S, by omega, ?_⟩
  have hk9 : min 9 (kN (sl m)) = kN (sl m) := by have := (kN_le hs).2; omega
  rw [hk9] at I
  exact I
theorem EntR.x (h : EntR w b X n sl m W) {x : Nat} {o : Obj} (hx : (x, o) ∈ X) : W.heap[x]? = some o := by
  obtain ⟨rr, qq, c, A, k, S, _⟩ := h
  exact S.x hx
theorem EntR.since (h : EntR w b X n sl m W) : Frm.Turn [] w W := by
  obtain ⟨rr, qq, c, A, k, S, _⟩ := h
  exact S.kin.turn
theorem EntR.turn (h : EntR w b X n sl m W) (ht : Frm.Turn [] W W') : EntR w b X n sl m W' := by
  obtain ⟨rr, qq, c, A, k, S, h1, h2⟩ := h
  exact ⟨rr, qq, c, A, k, S.turn ht, h1, h2⟩
/-! ### a collect when nothing turns -/
theorem lo_fin : ∀ g : Fin 4, ∀ v : Fin 16, loN g.val v.val ≤ 1000 := by decide +kernel
/-- So many steps. -/
def iterO (n : Nat) (f : Nat → Nat → Int) : Nat → Co
  | 0 => Co.new
  | j + 1 => (iterO n f j).step n f
theorem iter_fit (hn : n ≤ 4) : ∀ j, (iterO n f j).Fit n
  | 0 => fit_new n
  | j + 1 => fit_step hn (iter_fit hn j)
/-- How many of the first j steps read. -/
def rdO (n : Nat) (f : Nat → Nat → Int) : Nat → Nat
  | 0 => 0
  | j + 1 => rdO n f j + (if (iterO n f j).ph = 2 then 0 else 1)
/-- Behind j steps, of R reads and those of the steps. -/
def ColR (w : World) (b : Nat) (X : List (Nat × Obj)) (n : Nat) (f : Nat → Nat → Int) (k0 R r j : Nat) (W : World) : Prop :=
  ∃ v V rr qq c A k, CoObj w.heap.size r b (iterO n f j) v V ∧ Crew w b (V ++ X) 1 rr qq c A k W ∧ k ≤ k0 + j ∧ SegA A n f ∧ A.t.reads = R + rdO n f j
theorem col_step {k0 R j : Nat} (h : ColR w b X n f k0 R r j W) (hn : n ≤ 4) (hk : k0 + j ≤ 100000) : Calls Tryz.prog 34 #[.pointer (some ⟨r, 0, none⟩)] W fun e w' => e = .returned (.tuple #[]) ∧ ColR w b X n f k0 R r (j + 1) w' := by
  obtain ⟨v, V, rr, qq, c, A, k, O, S, h1, h2, h3⟩ := h
  have F := iter_fit (f := f) hn j
  refine (co_step O S (by omega) hn F h2).mono ?_
  rintro e w' ⟨he, v', V', O', S'⟩
  obtain ⟨a1, a2, _⟩ := acc_seg hn F h2
  refine ⟨he, v', V', rr, qq, c, _, _, O', S', by omega, a1, ?_⟩
  rw [a2, h3]
  show _ = R + (rdO n f j + _)
  omega
theorem ColR.turn {k0 R j : Nat} (h : ColR w b X n f k0 R r j W) (ht : Frm.Turn [] W W') : ColR w b X n f k0 R r j W' := by
  obtain ⟨v, V, rr, qq, c, A, k, O, S, h1⟩ := h
  exact ⟨v, V, rr, qq, c, A, k, O, S.turn ht, h1⟩
theorem col_new {k0 R : Nat} (S : Crew w b X 1 rr qq c A k W) (hk : k ≤ k0) (I : SegA A n f) (hR : A.t.reads = R) : Calls Tryz.prog 32 #[.pointer (some ⟨b, 0, none⟩)] W fun e w' => ∃ r, e = .returned (.pointer (some ⟨r, 0, none⟩)) ∧ ColR w b X n f k0 R r 0 w' := by
  refine (co_new S).mono ?_
  rintro e w' ⟨r, V, he, O, S', _⟩
  exact ⟨r, he, _, V, rr, qq, c, A, k, O, S', by omega, I, hR⟩
theorem ColR.done {k0 R j : Nat} (h : ColR w b X n f k0 R r j W) (hn : n ≤ 4) : Calls Tryz.prog 33 #[.pointer (some ⟨r, 0, none⟩)] W fun e w' => e = .returned (.bool (decide ((iterO n f j).ph = 2))) ∧ W = w' := by
  obtain ⟨v, V, rr, qq, c, A, k, O, S, h1⟩ := h
  exact co_done O S (iter_fit hn j).ph
theorem ColR.places {k0 R j : Nat} (h : ColR w b X n f k0 R r j W) (hn : n ≤ 4) : Calls Tryz.prog 37 #[.pointer (some ⟨r, 0, none⟩)] W fun e w' => ∃ u, e = .returned u ∧ w'.ownsRow W.heap.size 46 2 u (iterO n f j).L.length (plCells (iterO n f j).L) ∧ Frm.Turn [] W w' := by
  obtain ⟨v, V, rr, qq, c, A, k, O, S, h1⟩ := h
  have F := iter_fit (f := f) hn j
  refine co_places O S ?_
  have h2 := F.few
  have h3 : (iterO n f j).pos ≤ 65536 := by
    have hp := pow16 (show (iterO n f j).g ≤ 4 by have := F.gn; omega)
    by_cases p0 : (iterO n f j).ph = 0
    · rw [pos_0 p0]; omega
    · by_cases p1 : (iterO n f j).ph = 1
      · rw [pos_1 p1]
        obtain ⟨l1, l2, l3, l4⟩ := F.look p1
        obtain ⟨_, w2, _, _⟩ := way (show (iterO n f j).g < 4 by omega) l2 l3
        have h9 := lo_fin ⟨(iterO n f j).g, by omega⟩ ⟨(iterO n f j).node, by have : 2 ^ (iterO n f j).g ≤ 2 ^ 3 := Nat.pow_le_pow_right (by omega) (by omega); omega⟩
        dsimp only at h9
        omega
      · rw [pos_2 (by have := F.ph; omega)]; omega
  omega
theorem ColR.seg {k0 R j g : Nat} (h : ColR w b X n f k0 R r j W) (hg : g < 8) : Calls Tryz.prog 38 #[.pointer (some ⟨r, 0, none⟩), .int .i64 g] W fun e w' => e = .returned (.int .u64 (sv (iterO n f j).m g)) ∧ W = w' := by
  obtain ⟨v, V, rr, qq, c, A, k, O, S, h1⟩ := h
  exact seg_in (co_at O S) hg
theorem ColR.tally {k0 R j : Nat} (h : ColR w b X n f k0 R r j W) : ∃ t0 t1 t3 t4 t5 : Int, Calls Tryz.prog 73 #[.pointer (some ⟨b, 0, none⟩)] W fun e w' => e = .returned (.agg #[.int .i64 t0, .int .i64 t1, .int .i64 ((R + rdO n f j : Nat) : Int), .int .i64 t3, .int .i64 t4, .int .i64 t5]) ∧ Frm.Turn [] W w' := by
  obtain ⟨v, V, rr, qq, c, A, k, O, S, h1, h2, h3⟩ := h
  have := crew_reads S
  rw [h3] at this
  exact this
theorem ColR.x {k0 R j : Nat} (h : ColR w b X n f k0 R r j W) {x : Nat} {o : Obj} (hx : (x, o) ∈ X) : W.heap[x]? = some o := by
  obtain ⟨v, V, rr, qq, c, A, k, O, S, _⟩ := h
  exact S.x (List.mem_append_right _ hx)
theorem ColR.since {k0 R j : Nat} (h : ColR w b X n f k0 R r j W) : Frm.Turn [] w W := by
  obtain ⟨v, V, rr, qq, c, A, k, O, S, _⟩ := h
  exact S.kin.turn
theorem ColR.ent {k0 R j : Nat} (h : ColR w b X n f k0 R r j W) : ∃ rr qq c A k, Crew w b X 1 rr qq c A k W ∧ k ≤ k0 + j ∧ SegA A n f := by
  obtain ⟨v, V, rr, qq, c, A, k, O, S, h1, h2, _⟩ := h
  exact ⟨rr, qq, c, A, k, Crew.drop S, h1, h2⟩
end Col
end Go.Proofs.YtfbnidjcimcfoaaGreat
