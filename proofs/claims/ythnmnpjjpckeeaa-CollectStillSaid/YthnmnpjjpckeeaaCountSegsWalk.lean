/- Segments of law 12: an arena with so many segments, and the document's. -/
import Derived.Test.YthnmnpjjpckeeaaCountSegs
import Derived.Deep.AppendSrc
import Derived.Deep.MidRow
import Derived.Great.BuildSlice
set_option linter.unusedVariables false
set_option linter.unusedSimpArgs false
namespace Go.Proofs.Ythnmnpjjpckeeaa
namespace Cnt
open Go.RowKit Go.Maps Arn Pac Clm

/-- What Segments tells. -/
def SegsEnd (w : World) (n : Nat) (e : Ending) (W : World) : Prop :=
  ∃ b u G A k hv, e = .returned (.tuple #[.pointer (some ⟨b, 0, none⟩), u, hv]) ∧ Kin w b (G ++ hv.ownBlock.toList) A k W ∧ k ≤ 2 * n ∧ SegA A n zF ∧ A.births = n ∧ A.cap = 60000 ∧ RefS W A u G ∧ W.ownsRow w.heap.size 25 1 hv n (hsV n) ∧ (∀ q, q ∈ G → w.heap.size ≤ q) ∧ (∀ q, hv.ownBlock = some q → q ∉ G)
def z20 : Array Value := #[.int .i64 0, .int .i64 0, .int .i64 0, .int .i64 0, .int .u64 0, .int .u64 0, .int .u64 0, .int .u64 0, .int .u64 0, .int .u64 0, .int .u64 0, .int .u64 0, .int .u64 0, .slice none 0 0, .int .i64 0, .int .i64 0, .int .i64 0, .int .i64 0, .int .i64 0, .int .i64 0]
def n20 : Array Value := #[.int .i64 60000, .int .i64 0, .int .i64 0, .int .i64 0, .int .u64 0, .int .u64 0, .int .u64 0, .int .u64 0, .int .u64 0, .int .u64 0, .int .u64 0, .int .u64 0, .int .u64 0, .slice none 0 0, .int .i64 0, .int .i64 0, .int .i64 0, .int .i64 0, .int .i64 0, .int .i64 0]
def oz : Obj := .cells z20 31
theorem seg_start {w W : World} {b : Nat} {N : Array Value} {x : Nat} (hN : N = n20) (h : Kin w b [x] (Ar.new 60000) 0 W) (hx : W.heap[x]? = some oz) : SegR w b W.heap.size [(x, oz)] 0 (.slice none 0 0) ((W.alloc oz).setRow W.heap.size N) := by
  have h1 : (W.alloc oz).heap[W.heap.size]? = some (.cells z20 31 (0, 0)) := World.alloc_heap_new W oz
  have hT : Frm.Turn [] W ((W.alloc oz).setRow W.heap.size N) := setRow_turn ((Frm.Turn.refl [] W).alloc _) (.inr (Nat.le_refl _)) N
  have h2 := row_set N h1
  subst hN
  have hxl := (Array.getElem?_eq_some_iff.1 hx).1
  refine ⟨n20, [], Ar.new 60000, 0, ⟨?_, refS_new _ 60000, h2, World.ownsRow_nil _ _ _ _, h.turn.size, by simp, by simp [Value.ownBlock], fun p hp => ?_⟩, Nat.le_refl _, segA_new, rfl, rfl⟩
  · refine kin_adds h hT (fun q hq => ?_)
    simp only [List.map_cons, List.map_nil, Value.ownBlock, List.mem_append, List.mem_cons, List.not_mem_nil, or_false, Option.toList, List.nil_append] at hq
    rcases hq with rfl | rfl
    · exact .inl (by simp)
    · exact .inr ⟨Nat.le_refl _, (Array.getElem?_eq_some_iff.1 h2).1⟩
  · simp only [List.mem_cons, List.not_mem_nil, or_false] at hp
    subst hp
    exact ⟨hT.keep hx (by simp), by dsimp only; omega, by simp [Value.ownBlock], by simp⟩
theorem n20_facts : n20.size = 20 ∧ n20.all (·.oneCell') = true := ⟨by kernel_rfl, by kernel_rfl⟩
/-- What the round goes by. -/
theorem seg_open {w W : World} {b mb g : Nat} {X : List (Nat × Obj)} {v : Value} (h : SegR w b mb X g v W) (hg : g ≤ 8) : ∃ va vc CS G A k, v = .slice va g vc ∧ SegM w b mb X CS G A A k g v W ∧ k ≤ 2 * g ∧ SegA A g zF ∧ A.births = g ∧ A.cap = 60000 ∧ CS.size = 20 ∧ CS.all (·.oneCell') = true := by
  obtain ⟨CS, G, A, k, S, h1, h2, h3, h4⟩ := h
  obtain ⟨va, vc, rfl⟩ := Frm.row_form S.row
  obtain ⟨CS', e, h5, h6⟩ := S.ref.row
  cases e
  exact ⟨va, vc, CS, G, A, k, rfl, S, h1, h2, h3, h4, h5, h6⟩
theorem segs_end {w W W' : World} {b mb k g : Nat} {CS : Array Value} {G : List Nat} {A : Ar} {v : Value} {o : Obj} (S : SegM w b mb [(w.heap.size, o)] CS G A A k g v W) (h : k ≤ 2 * g ∧ SegA A g zF ∧ A.births = g ∧ A.cap = 60000) (hT : Frm.Turn [w.heap.size] W W') :
    SegsEnd w g (.returned (.tuple #[.pointer (some ⟨b, 0, none⟩), .agg CS, v])) W' := by
  obtain ⟨h1, h2, h3, h4⟩ := h
  have hx := (S.xs _ (List.Mem.head _)).2
  have hm := S.in_x (List.Mem.head _)
  have hg : w.heap.size ∉ G := hx.2.2
  refine ⟨b, .agg CS, G, A, k, v, rfl, (S.kin.poke hT (fun q hq => by simp at hq; subst hq; exact ⟨hm, Nat.le_refl _⟩)).sub (fun q hq => by simp at hq ⊢; exact .inr (.inr hq)), h1, h2, h3, h4, S.ref.turn hT (fun q hq e => hg (by simp at e; rw [← e]; exact hq)), Frm.owns_turn S.row hT (fun q hq e => hx.2.1 (by simp at e; rw [← e]; exact hq)), fun q hq => (S.gl q hq).1, fun q hq => (S.vn q hq).2⟩
theorem range_of {W : World} {k : Nat} {t : TypeId} {cs : Array Value} (h : W.heap[k]? = some (.cells cs t (0, 0))) : W.rangeAt k 0 cs.toList :=
  fun j v hv => by rw [Nat.zero_add, Frm.cell_row _ _ _ _ _ _ h]; simpa using hv
set_option maxRecDepth 100000 in
set_option maxHeartbeats 4000000 in
theorem Segments_any (n : Nat) (w : World) (hn : n ≤ 8) : Calls Try.prog 6 #[.int .i64 n] w (SegsEnd w n) := by
  have HN : Hid (Calls Try.prog 21 #[.int .i64 60000] (w.alloc oz) fun e w' => ∃ b, e = .returned (.tuple #[.pointer (some ⟨b, 0, none⟩), .int .i64 0]) ∧ Kin w b [w.heap.size] (Ar.new 60000) 0 w' ∧ w'.heap[w.heap.size]? = some oz) :=
    Lib.hid ((sin_new 60000 (w.alloc oz) (by omega)).mono fun e w' ⟨b, M, he, h2⟩ => ⟨b, he, kin_base ⟨M, h2, fun k hk => by
      simp at hk; subst hk
      have h3 := h2.turn.size
      refine ⟨fun h => ?_, by simp at h3; omega⟩
      have := h2.new _ h
      simp at this; omega⟩ ((Frm.Turn.refl [] w).alloc oz), h2.turn.keep (World.alloc_heap_new w oz) (by simp)⟩)
  unfold oz z20 at HN
  have HPW := Lib.hid (fun (g : Nat) (hg : g ≤ 8) W => Pow_any g W hg)
  obtain ⟨fs, hfs⟩ := struct_of under_refA
  have HFS := Lib.hid hfs
  obtain ⟨i0, hi, hz0, hz1, hz2⟩ := info_parts info_u64
  obtain ⟨N20, HN20⟩ : ∃ x, Hid (x = n20) := ⟨_, Lib.hid rfl⟩
  go_enter Try.func6, Try.ntmps6
  go_upto_region 2 with (go_at_call 21; (with_reducible refine (HN.out).mono ?_); rintro e w1 ⟨b, rfl, h, ho⟩; have HK := Lib.hid h; have HO := Lib.hid ho; clear h ho)
  go_upto_region 3 with (first
    | (refine wpList_buildTo rfl 31 #[(0, .const (.int .i64 60000))] rfl (some 18) rfl N20 (by rw [HN20.out]; kernel_rfl) ?_)
    | (refine wpList_store_row rfl 31 (.tmp 7) (.tmp 18) rfl w1.heap.size N20 rfl rfl 31 _ (World.alloc_heap_new w1 _) (by rw [HN20.out, n20_facts.1]; exact info_refA) (by rw [HN20.out]; rfl) (by rw [HN20.out]; exact n20_facts.2) ?_))
  have HS0 := Lib.hid (seg_start HN20.out HK.out HO.out)
  unfold oz z20 at HS0
  generalize World.setRow _ w1.heap.size N20 = w2 at HS0 ⊢
  clear HN HN20 HO HK
  generalize w1.heap.size = mb at HS0 ⊢
  clear w1
  go_wp2_with fail
  go_loopw [8, 20] (fun v i wr => ∃ g : Nat, g ≤ n ∧ i = .int .i64 g ∧ SegR w b mb [(w.heap.size, oz)] g v wr) (fun _ i _ => n - (intOf i).toNat)
  case atStart => exact ⟨0, Nat.zero_le _, rfl, HS0.out⟩
  case round =>
    obtain ⟨g, hg, rfl, hrel⟩ := hrel
    clear HS0
    by_cases hlt : g < n
    · obtain ⟨va, vc, CS, G, A, k, rfl, S, h1, h2, h3, h4, h5, h6⟩ := seg_open hrel (by omega)
      have h8 : g < 8 := by omega
      have hp := pow_le h8
      have HP := Lib.hid (HPW.out g (by omega))
      obtain ⟨z, hz⟩ : ∃ z : Nat, z = 7 * 2 ^ g := ⟨_, rfl⟩
      have hm := fun W => made_words z (by omega) W
      have HLY := Lib.hid (seg_lay S h2 h8 h3 h4 (by omega) z hz)
      have HML := Lib.hid (fun (Xx : List (Nat × Obj)) (W' : World) (A' : Ar) (k' : Nat) (u : Value) (S' : SegM w b mb Xx CS G A' A k' g (.slice va g vc) W') (hw : WordsAt W' u (List.replicate (7 * 2 ^ g) 0)) => seg_mlay S' h2 h8 h3 h4 (by have := (kin_low S.kin).lays; omega) hw)
      have HLW := Lib.hid (h2.lay h8 h3 h4)
      have ez : (z : Int) = 7 * ((2 ^ g : Nat) : Int) := by omega
      have p0 : (1 : Int) ≤ ((2 ^ g : Nat) : Int) := by omega
      have p1 : ((2 ^ g : Nat) : Int) ≤ 128 := by omega
      have HK2 : Hid (k + 2 ≤ 2 * (g + 1)) := Lib.hid (by omega)
      have HSZ := Lib.hid (And.intro h5 h6)
      have HSO := Lib.hid S.own
      have HSW := Lib.hid S.kin.turn
      have HKL : Hid (k ≤ 100) := Lib.hid (by omega)
      have H8 := Lib.hid h8
      have hgn : (g : Int) < (n : Int) := by omega
      have hg8 : (g : Int) ≤ 7 := by omega
      rw [ez] at hm
      clear hrel S h1 h2 h3 h4 h5 h6 hp ez hz
      generalize ((2 ^ g : Nat) : Int) = p at HP hm p0 p1
      go_upto_region 10 with (first
        | (go_at_call 22; (with_reducible refine (HP.out _).mono ?_); rintro e w3 ⟨rfl, rfl⟩)
        | (go_at_call 23; (with_reducible refine (HLY.out).mono ?_); rintro e w3 ⟨rfl, hs, hw⟩; have HO3 := Lib.hid hs.own; have HM3 := Lib.hid (HML.out _ _ _ _ _ hs hw); clear hs hw)
        | (refine wpList_load_row rfl 31 (.tmp 7) rfl mb rfl 31 CS (0, 0) (.struct fs) HO3.out HFS.out rfl (by rw [HSZ.out.1]; exact info_refA) ?_)
        | (go_at_call 24; (with_reducible refine (HM3.out).mono ?_); rintro e w4 ⟨CS4, G4, rfl, hz4, ho4, hc4, hs⟩; have HZ4 := Lib.hid hz4; have HN4 := Lib.hid ho4; have HC4 := Lib.hid hc4; have HS4 := Lib.hid hs; clear hz4 ho4 hc4 hs)
        | (refine wpList_store_row rfl 31 (.tmp 7) (.tmp 37) rfl mb CS4 rfl rfl 31 CS HC4.out (by rw [HZ4.out]; exact info_refA) (by rw [HZ4.out, HSZ.out.1]) HN4.out ?_))
      generalize World.setRow w4 mb CS4 = w5 at HS4 ⊢
      have hx5 := World.alloc_heap_new w5 (.cells #[.int .u64 0, .int .i64 (1 + (g : Int))] 65)
      have HS5 := Lib.hid (HS4.out.add ((Frm.Turn.refl [] w5).alloc (.cells #[.int .u64 0, .int .i64 (1 + (g : Int))] 65)) (Nat.le_refl _) hx5)
      have HLO := Lib.hid (kin_low HS4.out.kin)
      clear HS4 HC4 HM3 HO3 HLY HML HP hx5 hm
      have HWR := Lib.hid (seg_write HS5.out (by have := HKL.out; omega) HLW.out.2.2.2.1 H8.out)
      go_upto_region 12 with (first
        | (go_at_call 25; (with_reducible refine (HWR.out).mono ?_); rintro e w6 ⟨rfl, hs⟩; have HS6 := Lib.hid hs; clear hs))
      have hx6 := (HS6.out.xs _ (List.Mem.head _)).1
      have q0 : w6.cell? ⟨w5.heap.size, 0, none⟩ = some (.int .u64 0) := (Frm.cell_row _ _ 0 _ _ _ hx6).trans rfl
      have q1 : w6.cell? ⟨w5.heap.size, 1, none⟩ = some (.int .i64 (1 + (g : Int))) := (Frm.cell_row _ _ 1 _ _ _ hx6).trans rfl
      have HO6 := Lib.hid HS6.out.own
      have HMW := Lib.hid (seg_mwrite HS6.out HLW.out.2.1 (by have := HLO.out.faults; have := HKL.out; omega) (by have := HLO.out.writes; have := HKL.out; omega) HLW.out.2.2.2.1)
      clear hx6 HWR HS5
      go_upto_region 13 with (first
        | (refine wpList_load_row rfl 31 (.tmp 7) rfl mb rfl 31 CS4 (0, 0) (.struct fs) HO6.out HFS.out rfl (by rw [HZ4.out]; exact info_refA) ?_)
        | (go_at_call 26; (with_reducible refine (HMW.out).mono ?_); rintro e w7 ⟨CS7, G7, rfl, hz7, ho7, hc7, hs⟩; have HZ7 := Lib.hid hz7; have HN7 := Lib.hid ho7; have HC7 := Lib.hid hc7; have HS7 := Lib.hid hs.less; clear hz7 ho7 hc7 hs)
        | (refine wpList_store_row rfl 31 (.tmp 7) (.tmp 52) rfl mb CS7 rfl rfl 31 CS4 HC7.out (by rw [HZ7.out]; exact info_refA) (by rw [HZ7.out, HZ4.out]) HN7.out ?_))
      generalize World.setRow w7 mb CS7 = w8 at HS7 ⊢
      have HR8 := Lib.hid (Frm.owns_turn HS7.out.row ((Frm.Turn.refl [] w8).alloc (.cells #[.int .u64 (hS g)] 25)) (by simp))
      have HB8 : Hid (w.heap.size ≤ (w8.alloc (.cells #[.int .u64 (hS g)] 25)).heap.size) := Lib.hid (by have := HS7.out.kin.turn.size; simp; omega)
      clear HMW HO6 HS6 q0 q1 HC7
      go_wp2_with (at_builtin; go_must (refine wpList_append_own_at _ rfl (.tmp 54) (.tmp 56) 32 rfl w.heap.size 25 i0 (.int .u64 0) 1 8 under_u64s hi hz0 hz1 hz2 rfl (by decide) (.slice va g vc) g (hsV g) rfl HR8.out ⟨w8.heap.size, 0, none⟩ 1 1 [.int .u64 (hS g)] rfl rfl (Dr.one_new _ _ _) (by simp [Value.oneCell']) (by unfold maxLen; omega) (by omega) HB8.out ?_); intro v9 w9 hown9 hg9 _ hl9; have HO9 := Lib.hid hown9; have HG9 := Lib.hid hg9; have HL9 := Lib.hid hl9; clear hown9 hg9 hl9)
      refine ⟨⟨g + 1, by omega, by simp, ?_⟩, ?_⟩
      · exact ⟨CS7, G7, segStep A g, k + 1 + 1, HS7.out.grow ((Frm.Turn.refl [] w8).alloc _) HG9.out HL9.out HO9.out, HK2.out, HLW.out.2.2.2.2.1, HLW.out.2.2.2.2.2.1, HLW.out.2.2.2.2.2.2⟩
      · simp [intOf]; omega
    · obtain rfl : g = n := by omega
      obtain ⟨va, vc, CS, G, A, k, rfl, S, h1, h2, h3, h4, h5, h6⟩ := seg_open hrel (by omega)
      have hlt' : ¬ (g : Int) < (g : Int) := by omega
      have HS := Lib.hid S
      have HX := Lib.hid (And.intro h1 (And.intro h2 (And.intro h3 h4)))
      have HSZ := Lib.hid (And.intro h5 h6)
      have hx := (S.xs _ (List.Mem.head _)).1
      have HRB := Lib.hid hx
      have HNE : Hid (mb ≠ w.heap.size) := Lib.hid (fun e => (S.xs _ (List.Mem.head _)).2.1 e.symm)
      clear hrel S h1 h2 h3 h4 h5 h6 hx hlt
      go_upto_region 15 with fail
      refine wp_region_held_drew (S := fun W' => Frm.Turn [w.heap.size] wr W') (by kernel_rfl) ?_ (fun hHeld => ?_)
      · exact (Frm.Turn.refl _ wr).drew
      refine wpAnyH_take (i := 0) (v := ?_) rfl (by kernel_rfl) (by kernel_rfl) (by kernel_rfl) (fun _ _ _ h => h) (Or.inl ⟨by rfl, ?_⟩) (by assumption) ?_
      rotate_left
      · (intro w hSw; (try dsimp only at hSw); go_simp; try with_reducible rfl)
      try simp only [Act.put, List.getElem_toArray, List.getElem_cons_succ, List.getElem_cons_zero, List.setIfInBounds_toArray, List.set_cons_zero, List.set_cons_succ]
      refine' wpAnyH_take (i := 1) (v := _) rfl (by kernel_rfl) (by kernel_rfl) (by kernel_rfl) (fun _ _ _ h => h) (yieldsIf_load_mid (by rfl) 31 (.tmp 7) rfl mb 0 rfl CS.toList (.struct fs) (fun w' hw => range_of (hw.keep HS.out.own (by simpa using HNE.out))) HFS.out rfl (by rw [Array.length_toList, HSZ.out.1]; exact info_refA)) (by assumption) ?_
      try simp only [Act.put, List.getElem_toArray, List.getElem_cons_succ, List.getElem_cons_zero, List.setIfInBounds_toArray, List.set_cons_zero, List.set_cons_succ]
      rw [Array.toArray_toList]
      refine wpAnyH_take (i := 2) (v := ?_) rfl (by kernel_rfl) (by kernel_rfl) (by kernel_rfl) (fun _ _ _ h => h) (Or.inl ⟨by rfl, ?_⟩) (by assumption) ?_
      rotate_left
      · (intro w hSw; (try dsimp only at hSw); go_simp; try with_reducible rfl)
      try simp only [Act.put, List.getElem_toArray, List.getElem_cons_succ, List.getElem_cons_zero, List.setIfInBounds_toArray, List.set_cons_zero, List.set_cons_succ]
      refine wpAnyH_take (i := 3) (v := ?_) rfl (by kernel_rfl) (by kernel_rfl) (by kernel_rfl) (fun _ _ _ h => h) (Or.inl ⟨by rfl, ?_⟩) (by assumption) ?_
      rotate_left
      · (intro w hSw; (try dsimp only at hSw); go_simp; try with_reducible rfl)
      try simp only [Act.put, List.getElem_toArray, List.getElem_cons_succ, List.getElem_cons_zero, List.setIfInBounds_toArray, List.set_cons_zero, List.set_cons_succ]
      refine wpAnyH_ready (rs := [4]) (by kernel_rfl) (by simp) ?_
      refine AllReadyH.cons rfl (fun K hK => ?_) AllReadyH.nil
      try simp only [List.getElem_toArray, List.getElem_cons_succ, List.getElem_cons_zero]
      rw [if_pos (by rfl)]
      refine wp_store_row 31 (.tmp 3) (.tmp 60) rfl w.heap.size CS rfl rfl 31 z20 ((Frm.Turn.refl [] wr).drew.keep HRB.out (by simp)) (by rw [HSZ.out.1]; exact info_refA) (by rw [HSZ.out.1]; rfl) HSZ.out.2 ?_
      refine hK.out _ _ (setRow_turn ((Frm.Turn.refl _ wr).drew) (.inl (by simp)) CS) (fun hHeld4 => ?_)
      clear hK K
      try simp only [Act.put, List.getElem_toArray, List.getElem_cons_succ, List.getElem_cons_zero, List.setIfInBounds_toArray, List.set_cons_zero, List.set_cons_succ]
      refine wpAnyH_take (i := 5) (v := ?_) rfl (by kernel_rfl) (by kernel_rfl) (by kernel_rfl) (fun _ _ _ h => h) (Or.inl ⟨by rfl, ?_⟩) (by assumption) ?_
      rotate_left
      · (intro w hSw; (try dsimp only at hSw); go_simp; try with_reducible rfl)
      try simp only [Act.put, List.getElem_toArray, List.getElem_cons_succ, List.getElem_cons_zero, List.setIfInBounds_toArray, List.set_cons_zero, List.set_cons_succ]
      refine wpAnyH_done (by kernel_rfl) ?_ _
      go_wp2_with fail
      have hT := hHeld4
      have hrow : (wr.drew.setRow w.heap.size CS).heap[w.heap.size]? = some (.cells CS 31 (0, 0)) := row_set CS ((Frm.Turn.refl [] wr).drew.keep HRB.out (by simp))
      have HROW := Lib.hid hrow
      have hld : (loadVar 31 ⟨w.heap.size, 0, none⟩).run Try.prog (wr.drew.setRow w.heap.size CS) = .ok (.agg CS) (wr.drew.setRow w.heap.size CS) := run_loadVar_row _ _ _ _ CS (0, 0) (.struct fs) hrow HFS.out rfl (by rw [HSZ.out.1]; exact info_refA)
      refine bodyPost_ret (v := .tuple #[.pointer (some ⟨b, 0, none⟩), .agg CS, .slice va g vc]) (by simp [results, Try.results6, asAddr, hld, Act.put]) rfl ?_
      exact segs_end HS.out HX.out hHeld4
end Cnt
end Go.Proofs.Ythnmnpjjpckeeaa
