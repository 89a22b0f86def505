/- The walk of HoldPlays. -/
import Derived.Test.YtlghinjggkgfmaaGreatHoldMid6
import Derived.Test.YtlghinjggkgfmaaGreatHoldGreat
import Derived.Test.YtlghinjggkgfmaaGreatHoldNil
import Derived.Test.YtlghinjggkgfmaaGreatHoldFirst
import Derived.Great.BuildSlice
import Derived.Deep.CutBlock
import Derived.Deep.QuietTactic
import Derived.BigQuiet
import Derived.Deep.MidRow
import Derived.Laws.StructEq
set_option linter.unusedVariables false
set_option linter.unusedSimpArgs false
namespace Go.Proofs.YtlghinjggkgfmaaGreat
namespace Hld
open Go.RowKit Go.Maps Arn Pac Clm Cnt Evn Sta

variable {w W W' : World} {b k n r q eb mb : Nat} {A B : Ar} {ps : List Part}
theorem quiet_at {P : Program} {f : FuncId} {args : Array Value} {w : World} {n : Nat} {v : Value}
    (h : Calls P f args (w.drewN n) fun e w' => e = .returned v ∧ w.drewN n = w') : Calls P f args (w.drewN n) fun e w'' => e = .returned v ∧ ∃ m, w'' = w.drewN m :=
  h.mono fun _ _ ⟨he, hm⟩ => ⟨he, n, hm.symm⟩
theorem jobL_one (z : Nat → Nat → Int) (i : Nat) : (jobL z i).toArray.all (·.oneCell') = true := by simp [jobL, Value.oneCell']
theorem range_turn {g o : Nat} {vs : List Value} (h : W.rangeAt g o vs) (ht : Frm.Turn [] W W') : W'.rangeAt g o vs := fun j v hv => ht.cell (h j v hv) (by simp)
theorem under_job : Arn.structB (Tryz.prog.underlying 106) = true := by kernel_rfl
theorem info_job : (Tryz.prog.info? 106).map (·.size) = some 5 := by kernel_rfl
theorem jobL_info (z : Nat → Nat → Int) (i : Nat) : (Tryz.prog.info? 106).map (·.size) = some (jobL z i).toArray.size := info_job
theorem jobL_size (z : Nat → Nat → Int) (i : Nat) {a b c d e : Value} : (jobL z i).toArray.size = (#[a, b, c, d, e] : Array Value).size := rfl
theorem info_plc : (Tryz.prog.info? 83).map (fun i => (i.zero, i.size, i.bytes)) = some (some (.agg #[.int .u64 0, .int .i64 0]), 2, 16) := by kernel_rfl
theorem under_plc : Tryz.prog.underlying 68 = some (.slice 83) := by kernel_rfl
theorem fill_pl : Instr.fill (fun i => some (i * 2, 2)) ((Array.range (3 * 2)).map ((Value.agg #[.int .u64 0, .int .i64 0]).cells[· % (Value.agg #[.int .u64 0, .int .i64 0]).cells.size]!)) [(0, .agg #[.int .u64 65537, .int .i64 0]), (1, .agg #[.int .u64 131074, .int .i64 1]), (2, .agg #[.int .u64 131074, .int .i64 2])] = some #[.int .u64 65537, .int .i64 0, .int .u64 131074, .int .i64 1, .int .u64 131074, .int .i64 2] := by kernel_rfl
/-- A job's numbers are those of the case. -/
structure JSpec (z : Nat → Nat → Int) (xs : List Int) (t : Nat) (j : Jb) : Prop where
  kd : j.kd = md (z t 0) 3
  sl : j.sl = md (z t 1) 3
  h : j.h = xs.getD (md (z t 2) xs.length) 0
  n : j.n = z t 3
  R : j.R = z t 4
theorem perm6 {a c d e f g : Part} (S : Stash w b A k [a, c, d, e, f, g] W) : Stash w b A k [g, f, d, a, e, c] W := by
  refine S.perm ?_
  have h1 : [a, c, d, e, f, g].Perm [g, a, c, d, e, f] := List.perm_middle (l₁ := [a, c, d, e, f]) (l₂ := [])
  have h2 : [a, c, d, e, f].Perm [f, a, c, d, e] := List.perm_middle (l₁ := [a, c, d, e]) (l₂ := [])
  have h3 : [a, c, d, e].Perm [d, a, c, e] := List.perm_middle (l₁ := [a, c]) (l₂ := [e])
  have h4 : [c, e].Perm [e, c] := List.Perm.swap ..
  exact h1.trans ((h2.trans ((h3.trans ((h4.cons a).cons d)).cons f)).cons g)
/-- While the machines are made: behind i of them. -/
def PL2 (w : World) (b mb : Nat) (rest : List Part) (z : Nat → Nat → Int) (xs : List Int) (k0 i : Nat) (s12 : Value) (W : World) : Prop :=
  ∃ A k CM GM js, Stash w b A k (js.flatMap (Jb.pts w b) ++ (mP mb A CM GM :: olP w s12 js :: rest)) W ∧ js.length = i ∧ (∀ t j, js[t]? = some j → JSpec z xs t j ∧ j.Ok 0) ∧ k ≤ k0
/-- While they are picked: behind p picks. -/
def PL3 (w : World) (b mb : Nat) (rest : List Part) (z : Nat → Nat → Int) (xs : List Int) (js0 : List Jb) (k0 p : Nat) (W : World) : Prop :=
  ∃ A k CM GM js, Stash w b A k (js.flatMap (Jb.pts w b) ++ (mP mb A CM GM :: rest)) W ∧ js.length = js0.length ∧ oneCells js = oneCells js0 ∧ (∀ t j, js[t]? = some j → JSpec z xs t j ∧ j.Ok p) ∧ k ≤ k0 + p
set_option maxRecDepth 100000 in
set_option maxHeartbeats 40000000 in
theorem plays14_any (w : World) (vW vL vP vR : Value) (u : Nat → Value) (l : Nat → List Int) (zJ : Nat → Nat → Int) (zP zR : Nat → Int) (nW nL nP nR : Nat)
    (hW : LstC w vW u l nW) (hl : ∀ i, i < nW → ∀ x, x ∈ l i → W64 x) (hL : JobC w vL zJ nL) (hR64 : ∀ i, i < nL → W64 (zJ i 4)) (hP : KindC .u8 w vP zP nP) (hPr : ∀ i, i < nP → 0 ≤ zP i ∧ zP i < 256) (hR : KindC .u64 w vR zR nR) (hR2 : ∀ i, i < nR → W64 (zR i)) (hs : nP + nR + sumL l nW ≤ 40000000) (hnL : nL ≤ 40000000) :
    Calls Tryz.prog 7 #[caseV vW vL vP vR] w fun e w' => e = .returned (.bool true) ∧ Frm.Turn [] w w' := by
  have HW := Lib.hid hW
  have HL := Lib.hid hL
  have HP := Lib.hid hP
  have HR := Lib.hid hR
  have HLX := Lib.hid hl
  have HZ := Lib.hid (And.intro hR64 (And.intro hPr hR2))
  obtain ⟨⟨aW, cW, rfl⟩, -⟩ := hW
  obtain ⟨⟨aL, cL, rfl⟩, -⟩ := hL
  obtain ⟨⟨aP, cP, rfl⟩, -⟩ := hP
  obtain ⟨⟨aR, cR, rfl⟩, -⟩ := hR
  unfold caseV
  obtain ⟨wB, HwB⟩ : ∃ x, Hid (w.alloc (.cells #[.slice aW nW cW, .slice aL nL cL, .slice aP nP cP, .slice aR nR cR] 96) = x) := ⟨_, Lib.hid rfl⟩
  have HTB : Hid (Frm.Turn [] w wB) := Lib.hid (by rw [← HwB.out]; exact (Frm.Turn.refl [] w).alloc _)
  have hnB : wB.heap[w.heap.size]? = some (.cells #[.slice aW nW cW, .slice aL nL cL, .slice aP nP cP, .slice aR nR cR] 96 (0, 0)) := by rw [← HwB.out]; exact World.alloc_heap_new w _
  have HCB : Hid (∀ W', Frm.Turn [] wB W' → W'.cell? ⟨w.heap.size, 0, none⟩ = some (.slice aW nW cW) ∧ W'.cell? ⟨w.heap.size, 1, none⟩ = some (.slice aL nL cL) ∧ W'.cell? ⟨w.heap.size, 2, none⟩ = some (.slice aP nP cP) ∧ W'.cell? ⟨w.heap.size, 3, none⟩ = some (.slice aR nR cR)) := Lib.hid (fun W' hT => by
    have h := hT.keep hnB (by simp)
    exact ⟨(Frm.cell_row _ _ 0 _ _ _ h).trans rfl, (Frm.cell_row _ _ 1 _ _ _ h).trans rfl, (Frm.cell_row _ _ 2 _ _ _ h).trans rfl, (Frm.cell_row _ _ 3 _ _ _ h).trans rfl⟩)
  have HF := Lib.hid (first14 wB)
  have HGR := Lib.hid (fun W' (hT : Frm.Turn [] wB W') => great_any (aL := aL) (aP := aP) (aR := aR) (cL := cL) (cP := cP) (cR := cR) (nL := nL) (nP := nP) (nR := nR) (HW.out.turn (HTB.out.trans hT (by simp))) hs hnL)
  have e2' : ((2 : Nat) : Int) = 2 := rfl
  have hsg := fun w1 hT => segs14 2 wB w1 hT (by omega) (by omega)
  rw [e2'] at hsg
  have HSGF := Lib.hid hsg
  obtain ⟨fs, hfs⟩ := struct_of under_refA
  have HFS := Lib.hid hfs
  have HSB := Lib.hid (And.intro hs hnL)
  clear hsg hfs hl hR64 hPr hR2 hs hnL hnB
  go_enter Tryz.func7, Tryz.ntmps7
  go_upto_region 1 with fail
  rw [HwB.out]
  go_upto_region 3 with (go_at_call 37; (with_reducible refine (HF.out).mono ?_); rintro e w1 ⟨rfl, hT⟩; have HT1 := Lib.hid hT; obtain ⟨c0, c1, c2, c3⟩ := HCB.out w1 hT; clear hT)
  unfold caseV at HGR
  by_cases hg : greatB nP nR nL nW l = true
  · rw [hg] at HGR
    clear HW HL HP HR HLX HZ HSGF HFS HSB
    go_wp2_with (go_at_call 38; (with_reducible refine (HGR.out _ HT1.out).mono ?_); rintro e w2 ⟨rfl, hT⟩; have HT2 := Lib.hid hT; clear hT)
    go_ret
    exact ⟨rfl, (HTB.out.trans HT1.out (by simp)).trans HT2.out (by simp)⟩
  · have hg' : greatB nP nR nL nW l = false := by simpa using hg
    rw [hg'] at HGR
    have hgs : nP + nR + sumL l nW ≤ 500 ∧ nL ≤ 8 ∧ 0 < nW ∧ 0 < nR := by
      unfold greatB at hg'
      simp only [Bool.or_eq_false_iff, decide_eq_false_iff_not] at hg'
      omega
    have HS := Lib.hid hgs
    clear hg hg' hgs HSB
    go_upto_region 6 with (first
      | (go_at_call 38; (with_reducible refine (HGR.out _ HT1.out).mono ?_); rintro e w2 ⟨rfl, hT⟩; have HSG := Lib.hid (HSGF.out w2 (HT1.out.trans hT (by simp))); clear hT)
      | (go_at_call 39; (with_reducible refine (HSG.out).mono ?_); rintro e w3 ⟨b, CS, G, kh, kc, ohs, A0, k0, rfl, y1, y2, y3, y4, y5, y6, y7, y8⟩; have HZZ1 := Lib.hid y1; have HZZ2 := Lib.hid y2; have HO := Lib.hid y3; have HQ := Lib.hid y4; have HS3 := Lib.hid y8; clear y1 y2 y3 y4 y5 y6 y7 y8)
      | (refine wpList_store_row rfl 67 (.tmp 4) (.tmp 40) rfl w3.heap.size CS rfl rfl 67 _ (World.alloc_heap_new w3 _) (by rw [HZZ1.out]; exact info_refA) (by rw [HZZ1.out]; rfl) HZZ2.out ?_))
    have hL1 := mstart HS3.out (z := zA20)
    unfold zA20 at hL1
    generalize World.setRow _ w3.heap.size CS = w4 at hL1 ⊢
    generalize w3.heap.size = mb at hL1 ⊢
    have HS4 := Lib.hid hL1
    obtain ⟨c0, c1, c2, c3⟩ := HCB.out w4 hL1.kin.turn
    clear HF HGR HSGF HSG HS3 HZZ1 HZZ2 HT1 hL1
    have hn0 : (nW : Int) ≤ 500 := by
      have h1 := HS.out.1
      have : ∀ n, n ≤ sumL l n := by
        intro n
        induction n with
        | zero => exact Nat.zero_le _
        | succ n ih => show n + 1 ≤ sumL l n + (10 + (l n).length); omega
      have := this nW
      omega
    obtain ⟨i0, hi, hz0, hz1, hz2⟩ := info_parts info_u64
    have e10 : (10 : Int) = 10 := rfl
    go_wp2_with fail
    go_loopw [45, 6] (fun i s6 wr => ∃ j : Nat, j ≤ nW ∧ i = .int .i64 j ∧ PL1 wB b mb [bkP kh ohs, sgP A0 CS G] j s6 wr) (fun i _ _ => nW - (intOf i).toNat)
    case atStart => exact ⟨0, Nat.zero_le _, rfl, A0, k0, CS, G, [], HS4.out, rfl, by simp, by have := HQ.out; omega⟩
    case round =>
      obtain ⟨j, hj, rfl, A, k, CM, GM, xs, hS, hx1, hx2, hk⟩ := hrel
      clear HS4
      by_cases hlt : j < nW
      · skip
        -- [[loop1
        as_aux_lemma =>
        obtain ⟨-, hrw, hwd⟩ := HW.out
        rcases hrw with e0 | ⟨ga, gc, e0, hcell⟩
        · omega
        cases e0
        have hsum : (l j).length ≤ 500 := by
          have h1 : sumL l (j + 1) ≤ sumL l nW := sumL_le l hlt
          have h2 : sumL l (j + 1) = sumL l j + (10 + (l j).length) := rfl
          have := HS.out.1
          omega
        have hcj := (HTB.out.trans hS.kin.turn (by simp)).cell (hcell j hlt) (by simp)
        have hwj : ∀ W', Frm.Turn [] wB W' → WordsAt W' (u j) (l j) := fun W' hT => (hwd j hlt).turn (HTB.out.trans hT (by simp)) (by simp)
        have HWJ := Lib.hid hwj
        obtain ⟨vs, vc, hv6⟩ : ∃ ao c, u6 = .slice ao xs.length c := Frm.row_form (hS.on (rwP wB.heap.size u6 xs) (by simp))
        subst hv6
        have hj1 : (j : Int) < (nW : Int) := by omega
        have hj0 : (0 : Int) ≤ (j : Int) := by omega
        have hb0 : A.births ≤ 1000 := by have := hS.kin.born; omega
        have h64 : W64 (A.lay (l j)).2.1 := lay64 (sta_lim hS (by omega)).1.ok (by omega) (l j)
        have HLB := Lib.hid (sta_lim hS (by omega))
        have hlow : l j ≠ [] → ∀ q, (u j).ownBlock = some q → q < wB.heap.size := fun hne q hq => by have := words_low (hwd j hlt) hne hq; have := HTB.out.size; omega
        have HLY := Lib.hid (lay_o hS (by omega) (hwj wr hS.kin.turn) hlow (HLX.out j hlt))
        have hx3 : ∀ x, x ∈ xs ++ [(A.lay (l j)).2.1] → W64 x := fun x hx => by
          rcases List.mem_append.1 hx with hx | hx
          · exact hx2 x hx
          · rw [List.mem_singleton.1 hx]; exact h64
        have HX := Lib.hid (And.intro hx1 (And.intro hx3 hk))
        have HLT := Lib.hid hlt
        have hml := fun W' (h : Stash wB b (A.lay (l j)).1 (k + 1) (mP mb A CM GM :: rwP wB.heap.size (.slice vs xs.length vc) xs :: [bkP kh ohs, sgP A0 CS G]) W') => mlay_h (mb := mb) (B := A) (CM := CM) (GM := GM) h (by simp) HLB.out (HWJ.out W' h.kin.turn) (by omega)
        obtain ⟨vu, vj, ej⟩ : ∃ a c, u j = .slice a (l j).length c := by
          rcases hwd j hlt with ⟨e, e'⟩ | ⟨a, c, e, _⟩
          · exact ⟨none, 0, by rw [e, e']; rfl⟩
          · exact ⟨_, _, e⟩
        rw [ej] at hcj HLY hml
        have HML := Lib.hid hml
        obtain ⟨A', hA'⟩ : ∃ x, x = (A.lay (l j)).1 := ⟨_, rfl⟩
        rw [← hA'] at HLY HML
        generalize (A.lay (l j)).2.1 = x at HLY HML HX h64 hx3
        generalize (A.lay (l j)).2.2 = y at HLY HML
        clear hS hcell hwd hwj hsum hj hlt hx1 hx2 hx3 hk hb0 h64 hlow hml ej hA'
        go_upto_region 12 with (first
          | (go_at_call 40; (with_reducible refine (HLY.out).mono ?_); rintro e w5 ⟨rfl, hS5⟩; have HS5 := Lib.hid hS5; have HMR := Lib.hid (mp_row (mb := mb) (B := A) (CM := CM) (GM := GM) hS5 (by simp)); have HMC := Lib.hid (HML.out w5 hS5); clear hS5)
          | (refine wpList_load_row rfl 67 (.tmp 4) rfl mb rfl 67 CM (0, 0) (.struct fs) HMR.out.1 HFS.out rfl (by rw [HMR.out.2.1]; exact info_refA) ?_)
          | (go_at_call 41; (with_reducible refine (HMC.out).mono ?_); rintro e w6 ⟨CM6, GM6, rfl, hN⟩; have HN := Lib.hid hN; have HMR6 := Lib.hid (hN.2.2.2.1.keep HMR.out.1 (by simp)); clear hN)
          | (refine wpList_store_row rfl 67 (.tmp 4) (.tmp 59) rfl mb CM6 rfl rfl 67 CM HMR6.out (by rw [HN.out.1]; exact info_refA) (by rw [HN.out.1, HMR.out.2.1]) HN.out.2.1 ?_))
        have hS7 := mput HS5.out HN.out
        generalize World.setRow _ mb CM6 = w7 at hS7 ⊢
        have HS7 := Lib.hid hS7
        have HRW := Lib.hid (Frm.owns_turn (hS7.on (rwP wB.heap.size (.slice vs xs.length vc) xs) (by simp)) ((Frm.Turn.refl [] w7).alloc (.cells #[.int .u64 x] 25)) (by simp))
        have HB8 : Hid (wB.heap.size ≤ (w7.alloc (.cells #[.int .u64 x] 25)).heap.size) := Lib.hid (by have := hS7.kin.turn.size; simp; omega)
        have HMO := Lib.hid (fun (W3 : World) (v' : Value) => row_more (v' := v') (W3 := W3) (x := x) hS7 ((Frm.Turn.refl [] w7).alloc (.cells #[.int .u64 x] 25)))
        clear HLY HML HMC HS5 HN HMR HMR6 HLB HWJ hS7 hcj
        have hxl : xs.length ≤ 1000 := by have := HX.out.1; omega
        go_wp2_with (first
          | (at_builtin; go_must (refine wpList_append_own_at _ rfl (.tmp 62) (.tmp 64) 24 rfl wB.heap.size 25 i0 (.int .u64 0) 1 8 under_u64s hi hz0 hz1 hz2 rfl (by decide) (.slice vs xs.length vc) xs.length (u64s xs) rfl HRW.out ⟨w7.heap.size, 0, none⟩ 1 1 [.int .u64 x] rfl rfl (Dr.one_new _ _ _) (by simp [Value.oneCell']) (by unfold maxLen; omega) (by omega) HB8.out ?_); intro v9 w9 hown9 hg9 _ hl9; obtain ⟨va, vc9, rfl⟩ := Frm.row_form hown9; have HS9 := Lib.hid (HMO.out w9 (.slice va (xs.length + 1) vc9) hg9 hl9 hown9); clear hown9 hg9 hl9))
        refine ⟨⟨j + 1, HLT.out, by simp, A', _, CM6, GM6, _, HS9.out, by rw [List.length_append, HX.out.1]; rfl, HX.out.2.1, by have := HX.out.2.2; omega⟩, ?_⟩
        have := HLT.out
        simp [intOf]; omega
        -- ]]loop1
      · skip
        as_aux_lemma =>
        obtain rfl : j = nW := by omega
        have HKK : Hid (∀ W', Frm.Turn [] wr W' → W'.cell? ⟨kh, 0, none⟩ = some (.int .u64 65537) ∧ W'.cell? ⟨kh, 1, none⟩ = some (.int .u64 131074)) := Lib.hid (fun W' hT => by
          have h := HO.out _ ((hS.still hT).on (bkP kh ohs) (by simp))
          exact ⟨h 0 (by omega), h 1 (by omega)⟩)
        have HS4 := Lib.hid hS
        have HX := Lib.hid (And.intro hx1 (And.intro hx2 hk))
        obtain ⟨c0, c1, c2, c3⟩ := HCB.out wr hS.kin.turn
        have HXX : Hid ((xs.length : Int) = (j : Int)) := Lib.hid (by omega)
        clear hS hx1 hx2 hk HW HLX hj
        go_upto_region 14 with fail
        go_cut [11] (fun s11 W2 => ∃ pl, s11 = .slice (some ⟨pl, 0, none⟩) 3 3 ∧ PL2 wB b mb [rwP wB.heap.size u6 xs, bkP pl oPl] zJ xs (4 + j) 0 (.slice none 0 0) W2)
        case first =>
          -- [[reg14
          as_aux_lemma =>
          obtain ⟨ip, hip, hpz0, hpz1, hpz2⟩ := info_parts info_plc
          refine wp_region_held_drew (S := fun W' => Frm.Turn [] wr W') (by kernel_rfl) ?_ (fun hHeld => ?_)
          · exact (Frm.Turn.refl [] wr).drew
          refine wpAnyH_take (i := 0) (v := ?_) rfl (by kernel_rfl) (by kernel_rfl) (by kernel_rfl) (fun _ _ _ h => h) (Or.inl ⟨by rfl, ?_⟩) (by assumption) ?_
          rotate_left
          · (intro w hSw; (try dsimp only at hSw); go_simp; try with_reducible rfl)
          try simp only [Act.put, List.getElem_toArray, List.getElem_cons_succ, List.getElem_cons_zero, List.setIfInBounds_toArray, List.set_cons_zero, List.set_cons_succ]
          refine wpAnyH_take (i := 1) (v := ?_) rfl (by kernel_rfl) (by kernel_rfl) (by kernel_rfl) (fun _ _ _ h => h) (Or.inl ⟨by rfl, ?_⟩) (by assumption) ?_
          rotate_left
          · (intro w hSw; (try dsimp only at hSw); go_simp; try with_reducible rfl)
          try simp only [Act.put, List.getElem_toArray, List.getElem_cons_succ, List.getElem_cons_zero, List.setIfInBounds_toArray, List.set_cons_zero, List.set_cons_succ]
          refine wpAnyH_take (i := 2) (v := ?_) rfl (by kernel_rfl) (by kernel_rfl) (by kernel_rfl) (fun _ _ _ h => h) (Or.inl ⟨by rfl, ?_⟩) (by assumption) ?_
          rotate_left
          · (intro w hSw; (try dsimp only at hSw); obtain ⟨k0, k1⟩ := HKK.out w hSw; go_simp; try with_reducible rfl)
          try simp only [Act.put, List.getElem_toArray, List.getElem_cons_succ, List.getElem_cons_zero, List.setIfInBounds_toArray, List.set_cons_zero, List.set_cons_succ]
          refine wpAnyH_take (i := 3) (v := ?_) rfl (by kernel_rfl) (by kernel_rfl) (by kernel_rfl) (fun _ _ _ h => h) (Or.inl ⟨by rfl, ?_⟩) (by assumption) ?_
          rotate_left
          · (intro w hSw; (try dsimp only at hSw); go_simp; try with_reducible rfl)
          try simp only [Act.put, List.getElem_toArray, List.getElem_cons_succ, List.getElem_cons_zero, List.setIfInBounds_toArray, List.set_cons_zero, List.set_cons_succ]
          refine wpAnyH_take (i := 4) (v := ?_) rfl (by kernel_rfl) (by kernel_rfl) (by kernel_rfl) (fun _ _ _ h => h) (Or.inl ⟨by rfl, ?_⟩) (by assumption) ?_
          rotate_left
          · (intro w hSw; (try dsimp only at hSw); go_simp; try with_reducible rfl)
          try simp only [Act.put, List.getElem_toArray, List.getElem_cons_succ, List.getElem_cons_zero, List.setIfInBounds_toArray, List.set_cons_zero, List.set_cons_succ]
          refine wpAnyH_take (i := 5) (v := ?_) rfl (by kernel_rfl) (by kernel_rfl) (by kernel_rfl) (fun _ _ _ h => h) (Or.inl ⟨by rfl, ?_⟩) (by assumption) ?_
          rotate_left
          · (intro w hSw; (try dsimp only at hSw); go_simp; try with_reducible rfl)
          try simp only [Act.put, List.getElem_toArray, List.getElem_cons_succ, List.getElem_cons_zero, List.setIfInBounds_toArray, List.set_cons_zero, List.set_cons_succ]
          refine wpAnyH_take (i := 6) (v := ?_) rfl (by kernel_rfl) (by kernel_rfl) (by kernel_rfl) (fun _ _ _ h => h) (Or.inl ⟨by rfl, ?_⟩) (by assumption) ?_
          rotate_left
          · (intro w hSw; (try dsimp only at hSw); obtain ⟨k0, k1⟩ := HKK.out w hSw; go_simp; try with_reducible rfl)
          try simp only [Act.put, List.getElem_toArray, List.getElem_cons_succ, List.getElem_cons_zero, List.setIfInBounds_toArray, List.set_cons_zero, List.set_cons_succ]
          refine wpAnyH_take (i := 7) (v := ?_) rfl (by kernel_rfl) (by kernel_rfl) (by kernel_rfl) (fun _ _ _ h => h) (Or.inl ⟨by rfl, ?_⟩) (by assumption) ?_
          rotate_left
          · (intro w hSw; (try dsimp only at hSw); go_simp; try with_reducible rfl)
          try simp only [Act.put, List.getElem_toArray, List.getElem_cons_succ, List.getElem_cons_zero, List.setIfInBounds_toArray, List.set_cons_zero, List.set_cons_succ]
          refine wpAnyH_take (i := 8) (v := ?_) rfl (by kernel_rfl) (by kernel_rfl) (by kernel_rfl) (fun _ _ _ h => h) (Or.inl ⟨by rfl, ?_⟩) (by assumption) ?_
          rotate_left
          · (intro w hSw; (try dsimp only at hSw); go_simp; try with_reducible rfl)
          try simp only [Act.put, List.getElem_toArray, List.getElem_cons_succ, List.getElem_cons_zero, List.setIfInBounds_toArray, List.set_cons_zero, List.set_cons_succ]
          refine wpAnyH_take (i := 9) (v := ?_) rfl (by kernel_rfl) (by kernel_rfl) (by kernel_rfl) (fun _ _ _ h => h) (Or.inl ⟨by rfl, ?_⟩) (by assumption) ?_
          rotate_left
          · (intro w hSw; (try dsimp only at hSw); go_simp; try with_reducible rfl)
          try simp only [Act.put, List.getElem_toArray, List.getElem_cons_succ, List.getElem_cons_zero, List.setIfInBounds_toArray, List.set_cons_zero, List.set_cons_succ]
          refine wpAnyH_take (i := 10) (v := ?_) rfl (by kernel_rfl) (by kernel_rfl) (by kernel_rfl) (fun _ _ _ h => h) (Or.inl ⟨by rfl, ?_⟩) (by assumption) ?_
          rotate_left
          · (intro w hSw; (try dsimp only at hSw); obtain ⟨k0, k1⟩ := HKK.out w hSw; go_simp; try with_reducible rfl)
          try simp only [Act.put, List.getElem_toArray, List.getElem_cons_succ, List.getElem_cons_zero, List.setIfInBounds_toArray, List.set_cons_zero, List.set_cons_succ]
          refine wpAnyH_take (i := 11) (v := ?_) rfl (by kernel_rfl) (by kernel_rfl) (by kernel_rfl) (fun _ _ _ h => h) (Or.inl ⟨by rfl, ?_⟩) (by assumption) ?_
          rotate_left
          · (intro w hSw; (try dsimp only at hSw); go_simp; try with_reducible rfl)
          try simp only [Act.put, List.getElem_toArray, List.getElem_cons_succ, List.getElem_cons_zero, List.setIfInBounds_toArray, List.set_cons_zero, List.set_cons_succ]
          refine wpAnyH_ready (rs := [12]) (by kernel_rfl) (by simp) ?_
          refine AllReadyH.cons rfl (fun K hK => ?_) AllReadyH.nil
          try simp only [List.getElem_toArray, List.getElem_cons_succ, List.getElem_cons_zero]
          rw [if_pos (by rfl)]
          refine wp_buildSlice 68 83 3 #[(0, .tmp 70), (1, .tmp 74), (2, .tmp 78)] rfl #[.int .u64 65537, .int .i64 0, .int .u64 131074, .int .i64 1, .int .u64 131074, .int .i64 2] ip (.agg #[.int .u64 0, .int .i64 0]) under_plc hip hpz0 (by rw [hpz1]; decide) (by rw [hpz1]; decide) (by rw [hpz1]; simp only [List.map_toArray, List.map_cons, List.map_nil]; exact fill_pl) ?_
          have hS12 := add_h (HS4.out.still hHeld) oPl (World.alloc_heap_new _ _)
          have hS13 : Stash wB b A k (olP wB (.slice none 0 0) [] :: bkP wr.drew.heap.size oPl :: mP mb A CM GM :: rwP wB.heap.size u6 xs :: [bkP kh ohs, sgP A0 CS G]) _ := hS12.add (Frm.Turn.refl [] _) (olP_fra _ _ _) (World.ownsRow_nil _ _ _ _) (by simp [olP, Value.ownBlock]) (by simp [olP, Value.ownBlock]) (by simp [olP, Value.ownBlock])
          have hS14 : Stash wB b A k (sgP A0 CS G :: bkP kh ohs :: [mP mb A CM GM, olP wB (.slice none 0 0) [], rwP wB.heap.size u6 xs, bkP wr.drew.heap.size oPl]) _ := perm6 hS13
          have HL2 : Hid (PL2 wB b mb [rwP wB.heap.size u6 xs, bkP wr.drew.heap.size oPl] zJ xs (4 + j) 0 (.slice none 0 0) (wr.drew.alloc oPl)) := Lib.hid ⟨A, k, CM, GM, [], hS14.drop.drop, rfl, by simp, HX.out.2.2⟩
          refine hK.out _ _ (hHeld.alloc _) (fun hHeld1 => ?_)
          clear hK K
          try simp only [Act.put, List.getElem_toArray, List.getElem_cons_succ, List.getElem_cons_zero, List.setIfInBounds_toArray, List.set_cons_zero, List.set_cons_succ]
          refine wpAnyH_take (i := 13) (v := ?_) rfl (by kernel_rfl) (by kernel_rfl) (by kernel_rfl) (fun _ _ _ h => h) (Or.inl ⟨by rfl, ?_⟩) (by assumption) ?_
          rotate_left
          · (intro w hSw; (try dsimp only at hSw); go_simp; try with_reducible rfl)
          try simp only [Act.put, List.getElem_toArray, List.getElem_cons_succ, List.getElem_cons_zero, List.setIfInBounds_toArray, List.set_cons_zero, List.set_cons_succ]
          refine wpAnyH_done (by kernel_rfl) ?_ _
          go_wp2_with fail
          go_meet
          exact ⟨_, rfl, HL2.out⟩
          -- ]]reg14
        case rest =>
          as_aux_lemma =>
          obtain ⟨pl, rfl, hL2⟩ := hcut
          have HL0 := Lib.hid hL2
          have hTc : Frm.Turn [] wB wc := by obtain ⟨Ax, kx, CMx, GMx, jsx, hSx, -⟩ := hL2; exact hSx.kin.turn
          clear c0 c1 c2 c3
          obtain ⟨c0, c1, c2, c3⟩ := HCB.out wc hTc
          clear HS4 HKK HO hL2 HQ hTc
          obtain ⟨fsJ, hfsJ⟩ := struct_of under_job
          have HFJ := Lib.hid hfsJ
          clear hfsJ
          have hnL8 : (nL : Int) ≤ 8 := by have := HS.out.2.1; omega
          go_wp2_with fail
          go_loopw [83, 12] (fun i s12 wz => ∃ t : Nat, t ≤ nL ∧ i = .int .i64 t ∧ PL2 wB b mb [rwP wB.heap.size u6 xs, bkP pl oPl] zJ xs (4 + j) t s12 wz) (fun i _ _ => nL - (intOf i).toNat)
          case atStart => exact ⟨0, Nat.zero_le _, rfl, HL0.out⟩
          case round =>
            obtain ⟨t, ht, rfl, A2, k2, CM2, GM2, js, hS, h1, h2, h3⟩ := hrel
            clear HL0
            by_cases hlt : t < nL
            · skip
              as_aux_lemma =>
              obtain ⟨-, hrw⟩ := HL.out
              rcases hrw with e0 | ⟨g, o, gc, e0, hcell⟩
              · omega
              cases e0
              have hrg := range_turn (hcell t hlt) (HTB.out.trans hS.kin.turn (by simp))
              have HRG := Lib.hid hrg
              have ht1 : (t : Int) < (nL : Int) := by omega
              have ht0 : (0 : Int) ≤ (t : Int) := by omega
              have HLT := Lib.hid hlt
              have HS5 := Lib.hid hS
              have HJ := Lib.hid (And.intro h1 (And.intro h2 h3))
              obtain ⟨q0, q1, q2⟩ := md_facts (zJ t 1) 3 (by omega) (by omega)
              obtain ⟨r0, r1, r2⟩ := md_facts (zJ t 2) xs.length (by have := HS.out.2.2.1; have := HXX.out; omega) (by have := HXX.out; omega)
              clear hrg hcell hS h1 h2 h3 ht hlt
              go_upto_region 19 with (first
                | (refine wpList_load_mid rfl 106 (.tmp 85) rfl g (o + t * 5) rfl (jobL zJ t) (.struct fsJ) HRG.out HFJ.out rfl info_job ?_)
                | (refine wpList_store_row rfl 106 (.tmp 14) (.tmp 86) rfl wr.heap.size (jobL zJ t).toArray rfl rfl 106 _ (World.alloc_heap_new wr _) (jobL_info zJ t) (jobL_size zJ t) (jobL_one zJ t) ?_))
              have hT5 : Frm.Turn [] wr (World.setRow (wr.alloc (.cells #[.int .i64 0, .int .i64 0, .int .i64 0, .int .i64 0, .int .u64 0] 106)) wr.heap.size (jobL zJ t).toArray) := setRow_turn ((Frm.Turn.refl [] wr).alloc _) (.inr (Nat.le_refl _)) _
              have hj5 := Cnt.row_set (jobL zJ t).toArray (World.alloc_heap_new wr (.cells #[.int .i64 0, .int .i64 0, .int .i64 0, .int .i64 0, .int .u64 0] 106))
              generalize hw5 : World.setRow _ wr.heap.size (jobL zJ t).toArray = w5 at hT5 hj5 ⊢
              have HS6 := Lib.hid (HS5.out.still hT5)
              have hbs := wordsAt_cell (words_row (HS6.out.on (rwP wB.heap.size u6 xs) (by simp))) (by have := HS.out.2.2.1; have := HXX.out; omega)
              obtain ⟨gb, cb, ebs, hbs⟩ := hbs
              subst ebs
              have HCL : Hid (∀ W', Frm.Turn [] w5 W' → (W'.cell? ⟨wr.heap.size, 1, none⟩ = some (.int .i64 (zJ t 1)) ∧ W'.cell? ⟨wr.heap.size, 2, none⟩ = some (.int .i64 (zJ t 2))) ∧ (W'.cell? ⟨pl, md (zJ t 1) 3 * 2, none⟩ = some (.int .u64 (sgQ (md (zJ t 1) 3))) ∧ W'.cell? ⟨pl, md (zJ t 1) 3 * 2 + 1, none⟩ = some (.int .i64 (md (zJ t 1) 3 : Nat))) ∧ W'.cell? (gb.add (md (zJ t 2) xs.length)) = some (.int .u64 (xs.getD (md (zJ t 2) xs.length) 0))) := Lib.hid (fun W' hT => by
                have h5 := hT.keep hj5 (by simp)
                exact ⟨⟨(Frm.cell_row _ _ 1 _ _ _ h5).trans rfl, (Frm.cell_row _ _ 2 _ _ _ h5).trans rfl⟩, pl_cells (HS6.out.still hT) (by simp) q0, hT.cell (hbs _ _ (u64s_get r0)) (by simp)⟩)
              obtain ⟨hh, HHH⟩ : ∃ x, Hid (x = xs.getD (md (zJ t 2) xs.length) 0) := ⟨_, Lib.hid rfl⟩
              rw [← HHH.out] at HCL
              have HJ5 := Lib.hid hj5
              have q3 : ((md (zJ t 1) 3 : Nat) : Int) < 3 := by omega
              have q4 : (0 : Int) ≤ ((md (zJ t 1) 3 : Nat) : Int) := by omega
              have r3 : ((md (zJ t 2) xs.length : Nat) : Int) < (xs.length : Int) := by omega
              have r4 : (0 : Int) ≤ ((md (zJ t 2) xs.length : Nat) : Int) := by omega
              have hxl : (xs.length : Int) ≤ 500 := by have := HXX.out; omega
              have hxn : ¬ xs = [] := by rintro rfl; have := HS.out.2.2.1; have := HXX.out; simp at this; omega
              have q1' : (IntKind.u64.wrap (zJ t 1)).tmod 3 = ((md (zJ t 1) 3 : Nat) : Int) := q1
              have hxl0 : IntKind.u64.wrap (xs.length : Int) = (xs.length : Int) := by rw [IntKind.wrap_u64]; omega
              obtain ⟨jb, hjb⟩ : ∃ x, x = wr.heap.size := ⟨_, rfl⟩
              rw [← hjb] at HCL HJ5 ⊢
              clear hbs hj5 hw5 hjb HRG
              simp only [Act.put, Array.toArray_toList, List.setIfInBounds_toArray, List.set_cons_zero, List.set_cons_succ]
              go_cut [15, 16] (fun s15 s16 W2 => ∃ pb, s15 = .pointer (some ⟨pb, 0, none⟩) ∧ s16 = .int .u64 hh ∧ Frm.Turn [] w5 W2 ∧ W2.heap[pb]? = some (.cells #[.int .u64 (sgQ (md (zJ t 1) 3)), .int .i64 (md (zJ t 1) 3 : Nat)] 83 (0, 0)) ∧ w5.heap.size ≤ pb)
              case first =>
                -- [[reg19
                as_aux_lemma =>
                refine wp_region_held_drew (S := fun W' => Frm.Turn [] w5 W') (by kernel_rfl) ?_ (fun hHeld => ?_)
                · exact (Frm.Turn.refl [] w5).drew
                refine wpAnyH_take (i := 0) (v := ?_) rfl (by kernel_rfl) (by kernel_rfl) (by kernel_rfl) (fun _ _ _ h => h) (Or.inl ⟨by rfl, ?_⟩) (by assumption) ?_
                rotate_left
                · (intro w hSw; (try dsimp only at hSw); go_simp; try with_reducible rfl)
                try simp only [Act.put, List.getElem_toArray, List.getElem_cons_succ, List.getElem_cons_zero, List.setIfInBounds_toArray, List.set_cons_zero, List.set_cons_succ]
                refine wpAnyH_take (i := 1) (v := ?_) rfl (by kernel_rfl) (by kernel_rfl) (by kernel_rfl) (fun _ _ _ h => h) (Or.inl ⟨by rfl, ?_⟩) (by assumption) ?_
                rotate_left
                · (intro w hSw; (try dsimp only at hSw); go_simp; try with_reducible rfl)
                try simp only [Act.put, List.getElem_toArray, List.getElem_cons_succ, List.getElem_cons_zero, List.setIfInBounds_toArray, List.set_cons_zero, List.set_cons_succ]
                refine wpAnyH_take (i := 2) (v := ?_) rfl (by kernel_rfl) (by kernel_rfl) (by kernel_rfl) (fun _ _ _ h => h) (Or.inl ⟨by rfl, ?_⟩) (by assumption) ?_
                rotate_left
                · (intro w hSw; (try dsimp only at hSw); obtain ⟨⟨k0, k1⟩, ⟨k2, k3⟩, k4⟩ := HCL.out w hSw; go_simp; try with_reducible rfl)
                try simp only [Act.put, List.getElem_toArray, List.getElem_cons_succ, List.getElem_cons_zero, List.setIfInBounds_toArray, List.set_cons_zero, List.set_cons_succ]
                refine wpAnyH_take (i := 3) (v := ?_) rfl (by kernel_rfl) (by kernel_rfl) (by kernel_rfl) (fun _ _ _ h => h) (Or.inl ⟨by rfl, ?_⟩) (by assumption) ?_
                rotate_left
                · (intro w hSw; (try dsimp only at hSw); go_simp; try with_reducible rfl)
                try simp only [Act.put, List.getElem_toArray, List.getElem_cons_succ, List.getElem_cons_zero, List.setIfInBounds_toArray, List.set_cons_zero, List.set_cons_succ]
                refine wpAnyH_take (i := 4) (v := ?_) rfl (by kernel_rfl) (by kernel_rfl) (by kernel_rfl) (fun _ _ _ h => h) (Or.inl ⟨by rfl, ?_⟩) (by assumption) ?_
                rotate_left
                · (intro w hSw; (try dsimp only at hSw); go_simp; try with_reducible rfl)
                try simp only [Act.put, List.getElem_toArray, List.getElem_cons_succ, List.getElem_cons_zero, List.setIfInBounds_toArray, List.set_cons_zero, List.set_cons_succ]
                refine wpAnyH_take (i := 5) (v := ?_) rfl (by kernel_rfl) (by kernel_rfl) (by kernel_rfl) (fun _ _ _ h => h) (Or.inl ⟨by rfl, ?_⟩) (by assumption) ?_
                rotate_left
                · (intro w hSw; (try dsimp only at hSw); go_simp; try with_reducible rfl)
                try simp only [Act.put, List.getElem_toArray, List.getElem_cons_succ, List.getElem_cons_zero, List.setIfInBounds_toArray, List.set_cons_zero, List.set_cons_succ]
                refine wpAnyH_take (i := 6) (v := ?_) rfl (by kernel_rfl) (by kernel_rfl) (by kernel_rfl) (fun _ _ _ h => h) (Or.inl ⟨by rfl, ?_⟩) (by assumption) ?_
                rotate_left
                · (intro w hSw; (try dsimp only at hSw); go_simp; try with_reducible rfl)
                try simp only [Act.put, List.getElem_toArray, List.getElem_cons_succ, List.getElem_cons_zero, List.setIfInBounds_toArray, List.set_cons_zero, List.set_cons_succ]
                refine wpAnyH_take (i := 7) (v := ?_) rfl (by kernel_rfl) (by kernel_rfl) (by kernel_rfl) (fun _ _ _ h => h) (Or.inl ⟨by rfl, ?_⟩) (by assumption) ?_
                rotate_left
                · (intro w hSw; (try dsimp only at hSw); obtain ⟨⟨k0, k1⟩, ⟨k2, k3⟩, k4⟩ := HCL.out w hSw; go_simp; try with_reducible rfl)
                try simp only [Act.put, List.getElem_toArray, List.getElem_cons_succ, List.getElem_cons_zero, List.setIfInBounds_toArray, List.set_cons_zero, List.set_cons_succ]
                refine wpAnyH_take (i := 8) (v := ?_) rfl (by kernel_rfl) (by kernel_rfl) (by kernel_rfl) (fun _ _ _ h => h) (Or.inl ⟨by rfl, ?_⟩) (by assumption) ?_
                rotate_left
                · (intro w hSw; (try dsimp only at hSw); go_simp; try with_reducible rfl)
                try simp only [Act.put, List.getElem_toArray, List.getElem_cons_succ, List.getElem_cons_zero, List.setIfInBounds_toArray, List.set_cons_zero, List.set_cons_succ]
                refine wpAnyH_take (i := 9) (v := ?_) rfl (by kernel_rfl) (by kernel_rfl) (by kernel_rfl) (fun _ _ _ h => h) (Or.inl ⟨by rfl, ?_⟩) (by assumption) ?_
                rotate_left
                · (intro w hSw; (try dsimp only at hSw); go_simp; try with_reducible rfl)
                try simp only [Act.put, List.getElem_toArray, List.getElem_cons_succ, List.getElem_cons_zero, List.setIfInBounds_toArray, List.set_cons_zero, List.set_cons_succ]
                refine wpAnyH_take (i := 10) (v := ?_) rfl (by kernel_rfl) (by kernel_rfl) (by kernel_rfl) (fun _ _ _ h => h) (Or.inl ⟨by rfl, ?_⟩) (by assumption) ?_
                rotate_left
                · (intro w hSw; (try dsimp only at hSw); obtain ⟨⟨k0, k1⟩, ⟨k2, k3⟩, k4⟩ := HCL.out w hSw; go_simp; try with_reducible rfl)
                try simp only [Act.put, List.getElem_toArray, List.getElem_cons_succ, List.getElem_cons_zero, List.setIfInBounds_toArray, List.set_cons_zero, List.set_cons_succ]
                refine wpAnyH_take (i := 11) (v := ?_) rfl (by kernel_rfl) (by kernel_rfl) (by kernel_rfl) (fun _ _ _ h => h) (Or.inl ⟨by rfl, ?_⟩) (by assumption) ?_
                rotate_left
                · (intro w hSw; (try dsimp only at hSw); go_simp; try with_reducible rfl)
                try simp only [Act.put, List.getElem_toArray, List.getElem_cons_succ, List.getElem_cons_zero, List.setIfInBounds_toArray, List.set_cons_zero, List.set_cons_succ]
                refine wpAnyH_take (i := 12) (v := ?_) rfl (by kernel_rfl) (by kernel_rfl) (by kernel_rfl) (fun _ _ _ h => h) (Or.inl ⟨by rfl, ?_⟩) (by assumption) ?_
                rotate_left
                · (intro w hSw; (try dsimp only at hSw); go_simp; try with_reducible rfl)
                try simp only [Act.put, List.getElem_toArray, List.getElem_cons_succ, List.getElem_cons_zero, List.setIfInBounds_toArray, List.set_cons_zero, List.set_cons_succ]
                refine wpAnyH_take (i := 13) (v := ?_) rfl (by kernel_rfl) (by kernel_rfl) (by kernel_rfl) (fun _ _ _ h => h) (Or.inl ⟨by rfl, ?_⟩) (by assumption) ?_
                rotate_left
                · (intro w hSw; (try dsimp only at hSw); go_simp; try with_reducible rfl)
                try simp only [Act.put, List.getElem_toArray, List.getElem_cons_succ, List.getElem_cons_zero, List.setIfInBounds_toArray, List.set_cons_zero, List.set_cons_succ]
                refine wpAnyH_take (i := 14) (v := ?_) rfl (by kernel_rfl) (by kernel_rfl) (by kernel_rfl) (fun _ _ _ h => h) (Or.inl ⟨by rfl, ?_⟩) (by assumption) ?_
                rotate_left
                · (intro w hSw; (try dsimp only at hSw); go_simp; try with_reducible rfl)
                try simp only [Act.put, List.getElem_toArray, List.getElem_cons_succ, List.getElem_cons_zero, List.setIfInBounds_toArray, List.set_cons_zero, List.set_cons_succ]
                refine wpAnyH_take (i := 15) (v := ?_) rfl (by kernel_rfl) (by kernel_rfl) (by kernel_rfl) (fun _ _ _ h => h) (Or.inl ⟨by rfl, ?_⟩) (by assumption) ?_
                rotate_left
                · (intro w hSw; (try dsimp only at hSw); go_simp; try with_reducible rfl)
                try simp only [Act.put, List.getElem_toArray, List.getElem_cons_succ, List.getElem_cons_zero, List.setIfInBounds_toArray, List.set_cons_zero, List.set_cons_succ]
                refine wpAnyH_take (i := 16) (v := ?_) rfl (by kernel_rfl) (by kernel_rfl) (by kernel_rfl) (fun _ _ _ h => h) (Or.inl ⟨by rfl, ?_⟩) (by assumption) ?_
                rotate_left
                · (intro w hSw; (try dsimp only at hSw); go_simp; try with_reducible rfl)
                try simp only [Act.put, List.getElem_toArray, List.getElem_cons_succ, List.getElem_cons_zero, List.setIfInBounds_toArray, List.set_cons_zero, List.set_cons_succ]
                refine wpAnyH_take (i := 17) (v := ?_) rfl (by kernel_rfl) (by kernel_rfl) (by kernel_rfl) (fun _ _ _ h => h) (Or.inl ⟨by rfl, ?_⟩) (by assumption) ?_
                rotate_left
                · (intro w hSw; (try dsimp only at hSw); go_simp; try with_reducible rfl)
                try simp only [Act.put, List.getElem_toArray, List.getElem_cons_succ, List.getElem_cons_zero, List.setIfInBounds_toArray, List.set_cons_zero, List.set_cons_succ]
                refine wpAnyH_take (i := 18) (v := ?_) rfl (by kernel_rfl) (by kernel_rfl) (by kernel_rfl) (fun _ _ _ h => h) (Or.inl ⟨by rfl, ?_⟩) (by assumption) ?_
                rotate_left
                · (intro w hSw; (try dsimp only at hSw); obtain ⟨⟨k0, k1⟩, ⟨k2, k3⟩, k4⟩ := HCL.out w hSw; go_simp; try with_reducible rfl)
                try simp only [Act.put, List.getElem_toArray, List.getElem_cons_succ, List.getElem_cons_zero, List.setIfInBounds_toArray, List.set_cons_zero, List.set_cons_succ]
                refine wpAnyH_ready (rs := [19]) (by kernel_rfl) (by simp) ?_
                refine AllReadyH.cons rfl (fun K hK => ?_) AllReadyH.nil
                try simp only [List.getElem_toArray, List.getElem_cons_succ, List.getElem_cons_zero]
                go_simp
                refine hK.out _ _ (hHeld.alloc _) (fun hHeld1 => ?_)
                clear hK K
                try simp only [Act.put, List.getElem_toArray, List.getElem_cons_succ, List.getElem_cons_zero, List.setIfInBounds_toArray, List.set_cons_zero, List.set_cons_succ]
                refine wpAnyH_ready (rs := [20]) (by kernel_rfl) (by simp) ?_
                refine AllReadyH.cons rfl (fun K hK => ?_) AllReadyH.nil
                try simp only [List.getElem_toArray, List.getElem_cons_succ, List.getElem_cons_zero]
                go_simp
                refine hK.out _ _ (((Frm.Turn.refl [] w5).alloc _).drew) (fun hHeld2 => ?_)
                clear hK K
                try simp only [Act.put, List.getElem_toArray, List.getElem_cons_succ, List.getElem_cons_zero, List.setIfInBounds_toArray, List.set_cons_zero, List.set_cons_succ]
                refine wpAnyH_take (i := 21) (v := ?_) rfl (by kernel_rfl) (by kernel_rfl) (by kernel_rfl) (fun _ _ _ h => h) (Or.inl ⟨by rfl, ?_⟩) (by assumption) ?_
                rotate_left
                · (intro w hSw; (try dsimp only at hSw); go_simp; try with_reducible rfl)
                try simp only [Act.put, List.getElem_toArray, List.getElem_cons_succ, List.getElem_cons_zero, List.setIfInBounds_toArray, List.set_cons_zero, List.set_cons_succ]
                refine wpAnyH_done (by kernel_rfl) ?_ _
                go_wp2_with fail
                go_meet
                exact ⟨_, rfl, rfl, hHeld2, World.alloc_heap_new w5 _, Nat.le_refl _⟩
                -- ]]reg19
              case rest =>
                as_aux_lemma =>
                obtain ⟨pb, rfl, rfl, hTc, hpb, hpb2⟩ := hcut
                have HS7 := Lib.hid (HS6.out.still hTc)
                have HJ7 := Lib.hid (hTc.keep HJ5.out (by simp))
                have HPB := Lib.hid hpb
                obtain ⟨N24, HN24⟩ : ∃ x, Hid (x = zE24) := ⟨_, Lib.hid rfl⟩
                have hb24 : Tryz.prog.built 77 [] = some N24 := by rw [HN24.out]; kernel_rfl
                clear hTc hpb hpb2 HCL HJ5 HS6 HS5
                go_upto_region 21 with (refine wpList_buildTo rfl 77 #[] rfl (some _) rfl N24 (by simp only [List.map_toArray, List.map_cons, List.map_nil]; exact hb24) ?_)
                have hS8 := add_h (fresh_h HS7.out HN24.out) (oneO (one0 wc.heap.size)) (World.alloc_heap_new _ _)
                have hT8 : Frm.Turn [] wc ((wc.alloc (.cells N24 77)).alloc (oneO (one0 wc.heap.size))) := ((Frm.Turn.refl [] wc).alloc _).alloc _
                rw [World.size_alloc] at hS8
                unfold oneO one0 at hS8 hT8
                generalize hw8 : World.alloc (wc.alloc (.cells N24 77)) _ = w8 at hS8 hT8 ⊢
                obtain ⟨eb, heb⟩ : ∃ x, x = wc.heap.size := ⟨_, rfl⟩
                rw [← heb] at hS8 ⊢
                have hj8 := hT8.keep HJ7.out (by simp)
                have j0 : w8.cell? ⟨jb, 0, none⟩ = some (.int .i64 (zJ t 0)) := (Frm.cell_row _ _ 0 _ _ _ hj8).trans rfl
                have j3 : w8.cell? ⟨jb, 3, none⟩ = some (.int .i64 (zJ t 3)) := (Frm.cell_row _ _ 3 _ _ _ hj8).trans rfl
                have j4 : w8.cell? ⟨jb, 4, none⟩ = some (.int .u64 (zJ t 4)) := (Frm.cell_row _ _ 4 _ _ _ hj8).trans rfl
                have hp8 := hT8.keep HPB.out (by simp)
                have p0 := (Frm.cell_row _ _ 0 _ _ _ hp8).trans rfl
                have p1 := (Frm.cell_row _ _ 1 _ _ _ hp8).trans rfl
                have HS8 := Lib.hid hS8
                obtain ⟨k0', k1, k2'⟩ := md_facts (zJ t 0) 3 (by omega) (by omega)
                have k1' : (IntKind.u64.wrap (zJ t 0)).tmod 3 = ((md (zJ t 0) 3 : Nat) : Int) := k1
                clear hw8 heb hS8 hT8 hj8 hp8 HS7 HJ7 HPB hb24 HN24 k1
                go_upto_region 23 with fail
                obtain ⟨kd, hkd⟩ : ∃ x, x = md (zJ t 0) 3 := ⟨_, rfl⟩
                obtain ⟨sl, hsl⟩ : ∃ x, x = md (zJ t 1) 3 := ⟨_, rfl⟩
                have HKS := Lib.hid (And.intro hkd (And.intro hsl (And.intro k0' q0)))
                rw [← hkd] at k1' ⊢
                rw [← hsl] at p0 p1
                have HE8 : Hid (Stash wB b A2 k2 (bkP (eb + 1) (oneO (one0 eb)) :: enP eb E00 zA20 (.slice none 0 0) [] :: (js.flatMap (Jb.pts wB b) ++ [mP mb A2 CM2 GM2, olP wB u12 js, rwP wB.heap.size (.slice (some gb) xs.length cb) xs, bkP pl oPl])) w8) := HS8
                have HRL := Lib.hid r0
                clear HS8 hkd hsl k0' k2' q0 q1 q1' q2 q3 q4 r0 r1 r2 r3 r4 j0
                obtain ⟨i1, hi1, hz3, hz4, hz5⟩ := info_parts info_one
                have HNJ : Hid (∀ kk, kk < 3 → kk = md (zJ t 0) 3 → ∀ r, JSpec zJ xs t (newJ kk sl hh (zJ t 4) (zJ t 3) eb r) ∧ (newJ kk sl hh (zJ t 4) (zJ t 3) eb r).Ok 0) := Lib.hid (fun kk h3 hk r => ⟨⟨hk, HKS.out.2.1, HHH.out, rfl, rfl⟩, newJ_ok kk (by have := HKS.out.2.2.2; have := HKS.out.2.1; omega) h3 (by rw [HHH.out, List.getD_eq_getElem?_getD, List.getElem?_eq_getElem HRL.out]; exact HX.out.2.1 _ (List.getElem_mem _)) (HZ.out.1 t HLT.out)⟩)
                have hk3 : kd = 0 ∨ kd = 1 ∨ kd = 2 := by have := HKS.out; omega
                rcases hk3 with hk | hk | hk
                · subst hk
                  -- [[arm0
                  as_aux_lemma =>
                  have HG := Lib.hid (gnew_h HE8.out (sgQ sl) sl)
                  go_upto_region 27 with (go_at_call 42; (with_reducible refine (HG.out).mono ?_); rintro e w9 ⟨r, rfl, hS9⟩; have HS9 := Lib.hid hS9; have d9 := cell_h (x := eb + 1) (i := 0) (l := one0 eb) (t := 111) (show Stash wB b A2 k2 (gpP r b (Gp.new (sgQ sl) sl) :: bkP (eb + 1) (.cells (one0 eb).toArray 111) :: _) w9 from hS9) (by simp) rfl; have f9 := thaw_h (x := eb + 1) (i := 0) (l := one0 eb) (t := 111) (show Stash wB b A2 k2 (gpP r b (Gp.new (sgQ sl) sl) :: bkP (eb + 1) (.cells (one0 eb).toArray 111) :: _) w9 from hS9) (by simp); clear hS9)
                  have hM := made_g (h := hh) (R := zJ t 4) (nn := zJ t 3) HS9.out
                  generalize World.setCell w9 _ _ = w10 at hM ⊢
                  have hx10 : w10.heap[eb + 1]? = some (.cells #[.pointer (some ⟨r, 0, none⟩), .pointer none, .pointer none, .pointer (some ⟨eb, 0, none⟩)] 111 (0, 0)) := hM.on (bkP (eb + 1) (oneO (newJ 0 sl hh (zJ t 4) (zJ t 3) eb r).cells)) (by simp)
                  have x0 := (Frm.cell_row _ _ 0 _ _ _ hx10).trans rfl
                  have x1 := (Frm.cell_row _ _ 1 _ _ _ hx10).trans rfl
                  have x2 := (Frm.cell_row _ _ 2 _ _ _ hx10).trans rfl
                  have x3 := (Frm.cell_row _ _ 3 _ _ _ hx10).trans rfl
                  obtain ⟨vo, vc, hv12⟩ : ∃ ao c, u12 = .slice ao js.length c := Frm.row_form (ol_row hM (v := u12) (js := js) (by simp))
                  subst hv12
                  have HRA := Lib.hid (Frm.owns_turn (ol_row hM (v := .slice vo js.length vc) (js := js) (by simp)) ((Frm.Turn.refl [] w10).alloc (.cells #[.pointer (some ⟨r, 0, none⟩), .pointer none, .pointer none, .pointer (some ⟨eb, 0, none⟩)] 111)) (by simp))
                  have HB10 : Hid (wB.heap.size ≤ (w10.alloc (.cells #[.pointer (some ⟨r, 0, none⟩), .pointer none, .pointer none, .pointer (some ⟨eb, 0, none⟩)] 111)).heap.size) := Lib.hid (by have := hM.kin.turn.size; rw [World.size_alloc]; omega)
                  have HC10 := Lib.hid (four_new w10 (.pointer (some ⟨r, 0, none⟩)) (.pointer none) (.pointer none) (.pointer (some ⟨eb, 0, none⟩)) 111)
                  have HM10 := Lib.hid hM
                  have hjs : js.length ≤ 8 := by have := HJ.out.1; have := HLT.out; omega
                  clear hM hx10 HG HS9 HE8
                  go_wp2_with (at_builtin; go_must (refine wpList_append_own_at _ rfl (.tmp 134) (.tmp 136) 104 rfl wB.heap.size 111 i1 (.agg #[.pointer none, .pointer none, .pointer none, .pointer none]) 4 32 under_ones hi1 hz3 hz4 hz5 rfl (by decide) (.slice vo js.length vc) js.length (oneCells js) rfl HRA.out ⟨w10.heap.size, 0, none⟩ 1 1 [.pointer (some ⟨r, 0, none⟩), .pointer none, .pointer none, .pointer (some ⟨eb, 0, none⟩)] rfl rfl HC10.out (by simp [Value.oneCell']) (by unfold maxLen; omega) (by omega) HB10.out ?_); intro v11 w11 hown11 hg11 _ hl11; have HS11 := Lib.hid (ol_next (v' := v11) HM10.out ((Frm.Turn.refl [] w10).alloc _) hg11 hl11 hown11); clear hown11 hg11 hl11)
                  refine ⟨⟨t + 1, HLT.out, by simp, A2, k2, CM2, GM2, _, HS11.out, by rw [List.length_append, HJ.out.1]; rfl, js_next HJ.out.2.1 (by rw [HJ.out.1]; exact HNJ.out 0 (by omega) HKS.out.1 r), HJ.out.2.2⟩, ?_⟩
                  have := HLT.out
                  simp [intOf]; omega
                  -- ]]arm0
                · subst hk
                  -- [[arm1
                  as_aux_lemma =>
                  have HG := Lib.hid (fnew_h HE8.out (sgQ sl) sl (zJ t 4) hh (zJ t 3))
                  go_upto_region 27 with (go_at_call 43; (with_reducible refine (HG.out).mono ?_); rintro e w9 ⟨r, rfl, hS9⟩; have HS9 := Lib.hid hS9; have d9 := cell_h (x := eb + 1) (i := 1) (l := one0 eb) (t := 111) (show Stash wB b A2 k2 (feP r b (.slice none 0 0) (Fe.new (sgQ sl) sl (zJ t 4) hh (zJ t 3)) :: rwP wB.heap.size (.slice none 0 0) [] :: bkP (eb + 1) (.cells (one0 eb).toArray 111) :: _) w9 from hS9) (by simp) rfl; have f9 := thaw_h (x := eb + 1) (i := 1) (l := one0 eb) (t := 111) (show Stash wB b A2 k2 (feP r b (.slice none 0 0) (Fe.new (sgQ sl) sl (zJ t 4) hh (zJ t 3)) :: rwP wB.heap.size (.slice none 0 0) [] :: bkP (eb + 1) (.cells (one0 eb).toArray 111) :: _) w9 from hS9) (by simp); clear hS9)
                  have hM := made_f (h := hh) (R := zJ t 4) (nn := zJ t 3) HS9.out
                  generalize World.setCell w9 _ _ = w10 at hM ⊢
                  have hx10 : w10.heap[eb + 1]? = some (.cells #[.pointer none, .pointer (some ⟨r, 0, none⟩), .pointer none, .pointer (some ⟨eb, 0, none⟩)] 111 (0, 0)) := hM.on (bkP (eb + 1) (oneO (newJ 1 sl hh (zJ t 4) (zJ t 3) eb r).cells)) (by simp)
                  have x0 := (Frm.cell_row _ _ 0 _ _ _ hx10).trans rfl
                  have x1 := (Frm.cell_row _ _ 1 _ _ _ hx10).trans rfl
                  have x2 := (Frm.cell_row _ _ 2 _ _ _ hx10).trans rfl
                  have x3 := (Frm.cell_row _ _ 3 _ _ _ hx10).trans rfl
                  obtain ⟨vo, vc, hv12⟩ : ∃ ao c, u12 = .slice ao js.length c := Frm.row_form (ol_row hM (v := u12) (js := js) (by simp))
                  subst hv12
                  have HRA := Lib.hid (Frm.owns_turn (ol_row hM (v := .slice vo js.length vc) (js := js) (by simp)) ((Frm.Turn.refl [] w10).alloc (.cells #[.pointer none, .pointer (some ⟨r, 0, none⟩), .pointer none, .pointer (some ⟨eb, 0, none⟩)] 111)) (by simp))
                  have HB10 : Hid (wB.heap.size ≤ (w10.alloc (.cells #[.pointer none, .pointer (some ⟨r, 0, none⟩), .pointer none, .pointer (some ⟨eb, 0, none⟩)] 111)).heap.size) := Lib.hid (by have := hM.kin.turn.size; rw [World.size_alloc]; omega)
                  have HC10 := Lib.hid (four_new w10 (.pointer none) (.pointer (some ⟨r, 0, none⟩)) (.pointer none) (.pointer (some ⟨eb, 0, none⟩)) 111)
                  have HM10 := Lib.hid hM
                  have hjs : js.length ≤ 8 := by have := HJ.out.1; have := HLT.out; omega
                  clear hM hx10 HG HS9 HE8
                  go_wp2_with (at_builtin; go_must (refine wpList_append_own_at _ rfl (.tmp 134) (.tmp 136) 104 rfl wB.heap.size 111 i1 (.agg #[.pointer none, .pointer none, .pointer none, .pointer none]) 4 32 under_ones hi1 hz3 hz4 hz5 rfl (by decide) (.slice vo js.length vc) js.length (oneCells js) rfl HRA.out ⟨w10.heap.size, 0, none⟩ 1 1 [.pointer none, .pointer (some ⟨r, 0, none⟩), .pointer none, .pointer (some ⟨eb, 0, none⟩)] rfl rfl HC10.out (by simp [Value.oneCell']) (by unfold maxLen; omega) (by omega) HB10.out ?_); intro v11 w11 hown11 hg11 _ hl11; have HS11 := Lib.hid (ol_next (v' := v11) HM10.out ((Frm.Turn.refl [] w10).alloc _) hg11 hl11 hown11); clear hown11 hg11 hl11)
                  refine ⟨⟨t + 1, HLT.out, by simp, A2, k2, CM2, GM2, _, HS11.out, by rw [List.length_append, HJ.out.1]; rfl, js_next HJ.out.2.1 (by rw [HJ.out.1]; exact HNJ.out 1 (by omega) HKS.out.1 r), HJ.out.2.2⟩, ?_⟩
                  have := HLT.out
                  simp [intOf]; omega
                  -- ]]arm1
                · subst hk
                  -- [[arm2
                  as_aux_lemma =>
                  have HG := Lib.hid (cnew_h HE8.out (sgQ sl) sl)
                  go_upto_region 27 with (go_at_call 44; (with_reducible refine (HG.out).mono ?_); rintro e w9 ⟨r, rfl, hS9⟩; have HS9 := Lib.hid hS9; have d9 := cell_h (x := eb + 1) (i := 2) (l := one0 eb) (t := 111) (show Stash wB b A2 k2 (crP r b ⟨1, sgQ sl, sl⟩ :: bkP (eb + 1) (.cells (one0 eb).toArray 111) :: _) w9 from hS9) (by simp) rfl; have f9 := thaw_h (x := eb + 1) (i := 2) (l := one0 eb) (t := 111) (show Stash wB b A2 k2 (crP r b ⟨1, sgQ sl, sl⟩ :: bkP (eb + 1) (.cells (one0 eb).toArray 111) :: _) w9 from hS9) (by simp); clear hS9)
                  have hM := made_c (h := hh) (R := zJ t 4) (nn := zJ t 3) HS9.out
                  generalize World.setCell w9 _ _ = w10 at hM ⊢
                  have hx10 : w10.heap[eb + 1]? = some (.cells #[.pointer none, .pointer none, .pointer (some ⟨r, 0, none⟩), .pointer (some ⟨eb, 0, none⟩)] 111 (0, 0)) := hM.on (bkP (eb + 1) (oneO (newJ 2 sl hh (zJ t 4) (zJ t 3) eb r).cells)) (by simp)
                  have x0 := (Frm.cell_row _ _ 0 _ _ _ hx10).trans rfl
                  have x1 := (Frm.cell_row _ _ 1 _ _ _ hx10).trans rfl
                  have x2 := (Frm.cell_row _ _ 2 _ _ _ hx10).trans rfl
                  have x3 := (Frm.cell_row _ _ 3 _ _ _ hx10).trans rfl
                  obtain ⟨vo, vc, hv12⟩ : ∃ ao c, u12 = .slice ao js.length c := Frm.row_form (ol_row hM (v := u12) (js := js) (by simp))
                  subst hv12
                  have HRA := Lib.hid (Frm.owns_turn (ol_row hM (v := .slice vo js.length vc) (js := js) (by simp)) ((Frm.Turn.refl [] w10).alloc (.cells #[.pointer none, .pointer none, .pointer (some ⟨r, 0, none⟩), .pointer (some ⟨eb, 0, none⟩)] 111)) (by simp))
                  have HB10 : Hid (wB.heap.size ≤ (w10.alloc (.cells #[.pointer none, .pointer none, .pointer (some ⟨r, 0, none⟩), .pointer (some ⟨eb, 0, none⟩)] 111)).heap.size) := Lib.hid (by have := hM.kin.turn.size; rw [World.size_alloc]; omega)
                  have HC10 := Lib.hid (four_new w10 (.pointer none) (.pointer none) (.pointer (some ⟨r, 0, none⟩)) (.pointer (some ⟨eb, 0, none⟩)) 111)
                  have HM10 := Lib.hid hM
                  have hjs : js.length ≤ 8 := by have := HJ.out.1; have := HLT.out; omega
                  clear hM hx10 HG HS9 HE8
                  go_wp2_with (at_builtin; go_must (refine wpList_append_own_at _ rfl (.tmp 134) (.tmp 136) 104 rfl wB.heap.size 111 i1 (.agg #[.pointer none, .pointer none, .pointer none, .pointer none]) 4 32 under_ones hi1 hz3 hz4 hz5 rfl (by decide) (.slice vo js.length vc) js.length (oneCells js) rfl HRA.out ⟨w10.heap.size, 0, none⟩ 1 1 [.pointer none, .pointer none, .pointer (some ⟨r, 0, none⟩), .pointer (some ⟨eb, 0, none⟩)] rfl rfl HC10.out (by simp [Value.oneCell']) (by unfold maxLen; omega) (by omega) HB10.out ?_); intro v11 w11 hown11 hg11 _ hl11; have HS11 := Lib.hid (ol_next (v' := v11) HM10.out ((Frm.Turn.refl [] w10).alloc _) hg11 hl11 hown11); clear hown11 hg11 hl11)
                  refine ⟨⟨t + 1, HLT.out, by simp, A2, k2, CM2, GM2, _, HS11.out, by rw [List.length_append, HJ.out.1]; rfl, js_next HJ.out.2.1 (by rw [HJ.out.1]; exact HNJ.out 2 (by omega) HKS.out.1 r), HJ.out.2.2⟩, ?_⟩
                  have := HLT.out
                  simp [intOf]; omega
                  -- ]]arm2
            · skip
              as_aux_lemma =>
              obtain rfl : t = nL := by omega
              have hkB : 4 + j ≤ 504 := by have := HS.out.1; have := HXX.out; omega
              have HP0 : Hid (PL3 wB b mb [olP wB u12 js, rwP wB.heap.size u6 xs, bkP pl oPl] zJ xs js (4 + j) 0 wr) := Lib.hid ⟨A2, k2, CM2, GM2, js, hS, rfl, rfl, h2, by omega⟩
              have hTc : Frm.Turn [] wB wr := hS.kin.turn
              clear c0 c1 c2 c3
              obtain ⟨c0, c1, c2, c3⟩ := HCB.out wr hTc
              have HL8 := Lib.hid (And.intro h1 hkB)
              have hnP : (nP : Int) ≤ 500 := by have := HS.out.1; omega
              have hjl : js.length ≤ 8 := by have := HS.out.2.1; omega
              obtain ⟨vo, vc, hv12⟩ : ∃ ao c, u12 = .slice ao js.length c := Frm.row_form (ol_row hS (v := u12) (js := js) (by simp))
              subst hv12
              have HJE : Hid (js.length = t) := Lib.hid h1
              clear hS h1 h2 h3 hTc ht hlt HFJ
              go_wp2_with fail
              go_loopw [142] (fun i wz => ∃ p : Nat, p ≤ nP ∧ i = .int .i64 p ∧ PL3 wB b mb [olP wB (.slice vo js.length vc) js, rwP wB.heap.size u6 xs, bkP pl oPl] zJ xs js (4 + j) p wz) (fun i _ => nP - (intOf i).toNat)
              case atStart => exact ⟨0, Nat.zero_le _, rfl, HP0.out⟩
              case round =>
                obtain ⟨p, hp, rfl, A3, k3, CM3, GM3, ks, hS, e1, e2, e3, e4⟩ := hrel
                clear HP0
                by_cases hlt : p < nP
                · skip
                  as_aux_lemma =>
                  have hrp := HP.out.2
                  rcases hrp with e0 | ⟨g, gc, e0, hcell⟩
                  · omega
                  cases e0
                  have hcp := (HTB.out.trans hS.kin.turn (by simp)).cell (hcell p hlt) (by simp)
                  have hz := HZ.out.2.1 p hlt
                  have hp1 : (p : Int) < (nP : Int) := by omega
                  have hp0 : (0 : Int) ≤ (p : Int) := by omega
                  obtain ⟨ix, hix⟩ : ∃ ix : Nat, ix = (zP p).toNat % (js.length + 1) := ⟨_, rfl⟩
                  have hixl : ix < js.length + 1 := by rw [hix]; exact Nat.mod_lt _ (by omega)
                  have hm1 : (zP p).tmod ((js.length : Int) + 1) = (ix : Int) := by
                    obtain ⟨zn, hzn⟩ := Int.eq_ofNat_of_zero_le hz.1
                    rw [hix, hzn, Int.tmod_eq_emod_of_nonneg (by omega), Int.toNat_natCast]; first | rfl | (push_cast; rfl) | simp
                  have HCB3 := Lib.hid (HCB.out wr hS.kin.turn)
                  have HLT := Lib.hid hlt
                  have HS3 := Lib.hid hS
                  have HE := Lib.hid (And.intro e1 (And.intro e2 (And.intro e3 e4)))
                  clear c0 c1 c2 c3
                  obtain ⟨c0, c1, c2, c3⟩ := HCB3.out
                  clear hcell hS e1 e2 e3 e4 hp hlt hix
                  by_cases hroot : ix = js.length
                  · subst hroot
                    -- [[root
                    as_aux_lemma =>
                    obtain ⟨-, hrr⟩ := HR.out
                    rcases hrr with e0 | ⟨gR, gRc, e0, hcell⟩
                    · have := HS.out.2.2.2; omega
                    cases e0
                    have hrm : p % nR < nR := Nat.mod_lt _ HS.out.2.2.2
                    have hcr := (HTB.out.trans HS3.out.kin.turn (by simp)).cell (hcell _ hrm) (by simp)
                    have hm2 : (p : Int).tmod (nR : Int) = ((p % nR : Nat) : Int) := by rw [Int.tmod_eq_emod_of_nonneg (by omega)]; omega
                    have hx64 := HZ.out.2.2 _ hrm
                    have hm3 : ((p % nR : Nat) : Int) < (nR : Int) := by omega
                    have hm4 : (0 : Int) ≤ ((p % nR : Nat) : Int) := by omega
                    have hm5 : ¬ nR = 0 := by have := HS.out.2.2.2; omega
                    have HWR := Lib.hid (fun W' (hT : Frm.Turn [] wr W') => write_h (HS3.out.still hT) (by have := HE.out.2.2.2; have := HL8.out; have := HS.out.1; have := HLT.out; omega) 0 0 (zR (p % nR)) w64_zero (wf_small (by omega) (by omega)) hx64)
                    have HLB := Lib.hid (sta_lim HS3.out (by have := HE.out.2.2.2; have := HL8.out; have := HS.out.1; have := HLT.out; omega))
                    generalize zR (p % nR) = x at hcr HWR
                    clear hcell hx64 hrm
                    go_upto_region 34 with fail
                    go_quiet (fail)
                    have HML := Lib.hid (fun W' (h : Stash wB b (A3.write 0 0 x).1 (k3 + 1) (ks.flatMap (Jb.pts wB b) ++ (mP mb A3 CM3 GM3 :: [olP wB (.slice vo js.length vc) js, rwP wB.heap.size u6 xs, bkP pl oPl])) W') => mwrite_h (mb := mb) (B := A3) (CM := CM3) (GM := GM3) (x := x) h (by simp) HLB.out)
                    have HTQ := Lib.hid (show Frm.Turn [] wr (wr.drewN nq) from (Frm.Turn.refl [] wr).drewN nq)
                    have HP5 : Hid (∀ (CN : Array Value) (GN : List Nat) (W' : World), Stash wB b (A3.write 0 0 x).1 (k3 + 1) (ks.flatMap (Jb.pts wB b) ++ (mP mb (A3.write 0 0 x).1 CN GN :: [olP wB (.slice vo js.length vc) js, rwP wB.heap.size u6 xs, bkP pl oPl])) W' → PL3 wB b mb [olP wB (.slice vo js.length vc) js, rwP wB.heap.size u6 xs, bkP pl oPl] zJ xs js (4 + j) (p + 1) W') := Lib.hid (fun CN GN W' h => ⟨_, _, CN, GN, ks, h, HE.out.1, HE.out.2.1, fun t j ht => ⟨(HE.out.2.2.1 t j ht).1, (HE.out.2.2.1 t j ht).2.more (by omega)⟩, by have := HE.out.2.2.2; omega⟩)
                    go_wp2_with (first
                      | (go_at_call 28; (with_reducible refine (HWR.out _ HTQ.out).mono ?_); rintro e w5 ⟨rfl, hS5⟩; have HS5 := Lib.hid hS5; have HMR := Lib.hid (mp_row (mb := mb) (B := A3) (CM := CM3) (GM := GM3) hS5 (by simp)); have HMC := Lib.hid (HML.out w5 hS5); clear hS5)
                      | (refine wpList_load_row rfl 67 (.tmp 4) rfl mb rfl 67 CM3 (0, 0) (.struct fs) HMR.out.1 HFS.out rfl (by rw [HMR.out.2.1]; exact info_refA) ?_)
                      | (go_at_call 29; (with_reducible refine (HMC.out).mono ?_); rintro e w6 ⟨CM6, GM6, rfl, hN⟩; have HN := Lib.hid hN; have HMR6 := Lib.hid (hN.2.2.2.1.keep HMR.out.1 (by simp)); clear hN)
                      | (refine wpList_store_row rfl 67 (.tmp 4) (.tmp 175) rfl mb CM6 rfl rfl 67 CM3 HMR6.out (by rw [HN.out.1]; exact info_refA) (by rw [HN.out.1, HMR.out.2.1]) HN.out.2.1 ?_))
                    refine ⟨⟨p + 1, HLT.out, by simp, HP5.out CM6 GM6 _ (mput_at HS5.out HN.out)⟩, ?_⟩
                    have := HLT.out
                    simp [intOf]; omega
                    -- ]]root
                  · skip
                    as_aux_lemma =>
                    have hil : ix < js.length := by omega
                    obtain ⟨l1, jj, l2, hks, hl1⟩ := list_split (l := ks) (i := ix) (by rw [HE.out.1]; exact hil)
                    subst hks
                    obtain ⟨JS, JO⟩ := HE.out.2.2.1 ix jj (by rw [← hl1]; simp)
                    have HJO := Lib.hid (And.intro JS JO)
                    obtain ⟨-, hrw⟩ := HL.out
                    rcases hrw with e0 | ⟨gJ, oJ, gc2, e0, hcell⟩
                    · have := HJE.out; omega
                    cases e0
                    have hrg := range_turn (hcell ix (by have := HJE.out; omega)) (HTB.out.trans HS3.out.kin.turn (by simp))
                    obtain ⟨gl, cl, evo⟩ := ol_form (v := .slice vo js.length vc) (js := js) HS3.out (by simp) (by omega)
                    cases evo
                    have hoc : ∀ W', Frm.Turn [] wr W' → ∀ i u, i < 4 → jj.cells[i]? = some u → W'.cell? ⟨gl, ix * 4 + i, none⟩ = some u := fun W' hT i u hi hu => ol_cell (js := js) (c := vc) (HS3.out.still hT) (by simp) (by rw [← HE.out.2.1, ← hl1, oneCells_get _ _ _ _ hi]; exact hu)
                    have hjc : ∀ W', Frm.Turn [] wr W' → W'.rangeAt gJ (oJ + ix * 5) (jobL zJ ix) := fun W' hT => range_turn hrg hT
                    have hk3 : jj.kd = 0 ∨ jj.kd = 1 ∨ jj.kd = 2 := by have := JO.kd; omega
                    have HIL := Lib.hid (And.intro hil hl1)
                    have hix1 : (ix : Int) < (js.length : Int) := by omega
                    have hix0 : (0 : Int) ≤ (ix : Int) := by omega
                    have hixt : (ix : Int) < (t : Int) := by have := HJE.out; omega
                    have hixn : ¬ (ix : Int) = (js.length : Int) := by omega
                    have HG4 : Hid (∃ g0 g1 g2, g0 = pK 0 jj.kd jj.r ∧ g1 = pK 1 jj.kd jj.r ∧ g2 = pK 2 jj.kd jj.r) := Lib.hid ⟨_, _, _, rfl, rfl, rfl⟩
                    obtain ⟨g0, g1, g2, eg0, eg1, eg2⟩ := HG4.out
                    have H4 : Hid ((#[g0, g1, g2, .pointer (some ⟨jj.e, 0, none⟩)] : Array Value).all (·.oneCell') = true) := Lib.hid (by rw [eg0, eg1, eg2]; exact one4 (pK_one _ _ _) (pK_one _ _ _) (pK_one _ _ _) rfl)
                    have HCC : Hid (∀ W', Frm.Turn [] wr W' → (W'.cell? ⟨gl, ix * 4, none⟩ = some g0 ∧ W'.cell? ⟨gl, ix * 4 + 1, none⟩ = some g1 ∧ W'.cell? ⟨gl, ix * 4 + 2, none⟩ = some g2 ∧ W'.cell? ⟨gl, ix * 4 + 3, none⟩ = some (.pointer (some ⟨jj.e, 0, none⟩))) ∧ (W'.cell? ⟨gJ, oJ + ix * 5, none⟩ = some (.int .i64 (zJ ix 0)) ∧ W'.cell? ⟨gJ, oJ + ix * 5 + 1, none⟩ = some (.int .i64 (zJ ix 1)) ∧ W'.cell? ⟨gJ, oJ + ix * 5 + 2, none⟩ = some (.int .i64 (zJ ix 2)) ∧ W'.cell? ⟨gJ, oJ + ix * 5 + 3, none⟩ = some (.int .i64 (zJ ix 3)) ∧ W'.cell? ⟨gJ, oJ + ix * 5 + 4, none⟩ = some (.int .u64 (zJ ix 4)))) := Lib.hid (fun W' hT => by
                      have h0 := hoc W' hT
                      have h1 := hjc W' hT
                      have hc : jj.cells = [g0, g1, g2, .pointer (some ⟨jj.e, 0, none⟩)] := by rw [eg0, eg1, eg2]; rfl
                      rw [hc] at h0
                      exact ⟨⟨h0 0 _ (by omega) rfl, h0 1 _ (by omega) rfl, h0 2 _ (by omega) rfl, h0 3 _ (by omega) rfl⟩, h1 0 _ rfl, h1 1 _ rfl, h1 2 _ rfl, h1 3 _ rfl, h1 4 _ rfl⟩)
                    have HCB4 := Lib.hid (fun W' (hT : Frm.Turn [] wr W') => HCB.out W' (HS3.out.kin.turn.trans hT (by simp)))
                    have HEG := Lib.hid (And.intro eg0 (And.intro eg1 eg2))
                    have HK3 := Lib.hid hk3
                    clear hcell hrg JS JO hil hl1 hoc hjc eg0 eg1 eg2 hk3 HG4
                    go_upto_region 37 with fail
                    go_cut [22, 23] (fun s22 s23 W2 => ∃ x2 j2, s22 = .pointer (some ⟨x2, 0, none⟩) ∧ s23 = .pointer (some ⟨j2, 0, none⟩) ∧ Frm.Turn [] wr W2 ∧ W2.heap[x2]? = some (.cells #[g0, g1, g2, .pointer (some ⟨jj.e, 0, none⟩)] 111 (0, 0)) ∧ W2.heap[j2]? = some (.cells #[.int .i64 (zJ ix 0), .int .i64 (zJ ix 1), .int .i64 (zJ ix 2), .int .i64 (zJ ix 3), .int .u64 (zJ ix 4)] 106 (0, 0)) ∧ wr.heap.size ≤ x2 ∧ wr.heap.size ≤ j2 ∧ x2 ≠ j2)
                    case first =>
                      -- [[reg37
                      as_aux_lemma =>
                      refine wp_region_held_drew (S := fun W' => Frm.Turn [] wr W') (by kernel_rfl) ?_ (fun hHeld => ?_)
                      · exact (Frm.Turn.refl [] wr).drew
                      refine wpAnyH_take (i := 0) (v := ?_) rfl (by kernel_rfl) (by kernel_rfl) (by kernel_rfl) (fun _ _ _ h => h) (Or.inl ⟨by rfl, ?_⟩) (by assumption) ?_
                      rotate_left
                      · (intro w hSw; (try dsimp only at hSw); go_simp; try with_reducible rfl)
                      try simp only [Act.put, List.getElem_toArray, List.getElem_cons_succ, List.getElem_cons_zero, List.setIfInBounds_toArray, List.set_cons_zero, List.set_cons_succ]
                      refine wpAnyH_take (i := 1) (v := ?_) rfl (by kernel_rfl) (by kernel_rfl) (by kernel_rfl) (fun _ _ _ h => h) (Or.inl ⟨by rfl, ?_⟩) (by assumption) ?_
                      rotate_left
                      · (intro w hSw; (try dsimp only at hSw); go_simp; try with_reducible rfl)
                      try simp only [Act.put, List.getElem_toArray, List.getElem_cons_succ, List.getElem_cons_zero, List.setIfInBounds_toArray, List.set_cons_zero, List.set_cons_succ]
                      refine wpAnyH_take (i := 2) (v := ?_) rfl (by kernel_rfl) (by kernel_rfl) (by kernel_rfl) (fun _ _ _ h => h) (Or.inl ⟨by rfl, ?_⟩) (by assumption) ?_
                      rotate_left
                      · (intro w hSw; (try dsimp only at hSw); go_simp; try with_reducible rfl)
                      try simp only [Act.put, List.getElem_toArray, List.getElem_cons_succ, List.getElem_cons_zero, List.setIfInBounds_toArray, List.set_cons_zero, List.set_cons_succ]
                      refine wpAnyH_take (i := 3) (v := ?_) rfl (by kernel_rfl) (by kernel_rfl) (by kernel_rfl) (fun _ _ _ h => h) (Or.inl ⟨by rfl, ?_⟩) (by assumption) ?_
                      rotate_left
                      · (intro w hSw; (try dsimp only at hSw); obtain ⟨⟨a0, a1, a2, a3⟩, b0, b1, b2, b3, b4⟩ := HCC.out w hSw; go_simp; try with_reducible rfl)
                      try simp only [Act.put, List.getElem_toArray, List.getElem_cons_succ, List.getElem_cons_zero, List.setIfInBounds_toArray, List.set_cons_zero, List.set_cons_succ]
                      refine wpAnyH_take (i := 4) (v := ?_) rfl (by kernel_rfl) (by kernel_rfl) (by kernel_rfl) (fun _ _ _ h => h) (Or.inl ⟨by rfl, ?_⟩) (by assumption) ?_
                      rotate_left
                      · (intro w hSw; (try dsimp only at hSw); go_simp; try with_reducible rfl)
                      try simp only [Act.put, List.getElem_toArray, List.getElem_cons_succ, List.getElem_cons_zero, List.setIfInBounds_toArray, List.set_cons_zero, List.set_cons_succ]
                      refine wpAnyH_take (i := 5) (v := ?_) rfl (by kernel_rfl) (by kernel_rfl) (by kernel_rfl) (fun _ _ _ h => h) (Or.inl ⟨by rfl, ?_⟩) (by assumption) ?_
                      rotate_left
                      · (intro w hSw; (try dsimp only at hSw); obtain ⟨d0, d1, d2, d3⟩ := HCB4.out w hSw; go_simp; try with_reducible rfl)
                      try simp only [Act.put, List.getElem_toArray, List.getElem_cons_succ, List.getElem_cons_zero, List.setIfInBounds_toArray, List.set_cons_zero, List.set_cons_succ]
                      refine wpAnyH_take (i := 6) (v := ?_) rfl (by kernel_rfl) (by kernel_rfl) (by kernel_rfl) (fun _ _ _ h => h) (Or.inl ⟨by rfl, ?_⟩) (by assumption) ?_
                      rotate_left
                      · (intro w hSw; (try dsimp only at hSw); go_simp; try with_reducible rfl)
                      try simp only [Act.put, List.getElem_toArray, List.getElem_cons_succ, List.getElem_cons_zero, List.setIfInBounds_toArray, List.set_cons_zero, List.set_cons_succ]
                      refine wpAnyH_take (i := 7) (v := ?_) rfl (by kernel_rfl) (by kernel_rfl) (by kernel_rfl) (fun _ _ _ h => h) (Or.inl ⟨by rfl, ?_⟩) (by assumption) ?_
                      rotate_left
                      · (intro w hSw; (try dsimp only at hSw); go_simp; try with_reducible rfl)
                      try simp only [Act.put, List.getElem_toArray, List.getElem_cons_succ, List.getElem_cons_zero, List.setIfInBounds_toArray, List.set_cons_zero, List.set_cons_succ]
                      refine wpAnyH_take (i := 8) (v := ?_) rfl (by kernel_rfl) (by kernel_rfl) (by kernel_rfl) (fun _ _ _ h => h) (Or.inl ⟨by rfl, ?_⟩) (by assumption) ?_
                      rotate_left
                      · (intro w hSw; (try dsimp only at hSw); obtain ⟨⟨a0, a1, a2, a3⟩, b0, b1, b2, b3, b4⟩ := HCC.out w hSw; go_simp; try with_reducible rfl)
                      try simp only [Act.put, List.getElem_toArray, List.getElem_cons_succ, List.getElem_cons_zero, List.setIfInBounds_toArray, List.set_cons_zero, List.set_cons_succ]
                      refine wpAnyH_ready (rs := [9, 10]) (by kernel_rfl) (by simp) ?_
                      refine (AllReadyH.cons rfl (fun K hK => ?_) (AllReadyH.cons rfl (fun K hK => ?_) AllReadyH.nil))
                      · try simp only [List.getElem_toArray, List.getElem_cons_succ, List.getElem_cons_zero]
                        go_simp
                        refine hK.out _ _ (hHeld.alloc _) (fun hHeld1 => ?_)
                        clear hK K
                        try simp only [Act.put, List.getElem_toArray, List.getElem_cons_succ, List.getElem_cons_zero, List.setIfInBounds_toArray, List.set_cons_zero, List.set_cons_succ]
                        refine wpAnyH_ready (rs := [10]) (by kernel_rfl) (by simp) ?_
                        refine AllReadyH.cons rfl (fun K hK => ?_) AllReadyH.nil
                        try simp only [List.getElem_toArray, List.getElem_cons_succ, List.getElem_cons_zero]
                        go_simp
                        refine hK.out _ _ (hHeld1.alloc _) (fun hHeld2 => ?_)
                        clear hK K
                        try simp only [Act.put, List.getElem_toArray, List.getElem_cons_succ, List.getElem_cons_zero, List.setIfInBounds_toArray, List.set_cons_zero, List.set_cons_succ]
                        refine wpAnyH_ready (rs := [11]) (by kernel_rfl) (by simp) ?_
                        refine AllReadyH.cons rfl (fun K hK => ?_) AllReadyH.nil
                        try simp only [List.getElem_toArray, List.getElem_cons_succ, List.getElem_cons_zero]
                        rw [if_pos (by rfl)]
                        refine wp_store_row 111 (.tmp 22) (.tmp 180) rfl wr.heap.size #[g0, g1, g2, .pointer (some ⟨jj.e, 0, none⟩)] rfl rfl 111 #[.pointer none, .pointer none, .pointer none, .pointer none] (two_first wr _ _) info_one4 rfl H4.out ?_
                        refine hK.out _ _ (setRow_turn hHeld2 (.inr (Nat.le_refl _)) _) (fun hHeld3 => ?_)
                        clear hK K
                        try simp only [Act.put, List.getElem_toArray, List.getElem_cons_succ, List.getElem_cons_zero, List.setIfInBounds_toArray, List.set_cons_zero, List.set_cons_succ]
                        refine wpAnyH_ready (rs := [12]) (by kernel_rfl) (by simp) ?_
                        refine AllReadyH.cons rfl (fun K hK => ?_) AllReadyH.nil
                        try simp only [List.getElem_toArray, List.getElem_cons_succ, List.getElem_cons_zero]
                        rw [if_pos (by rfl)]
                        refine wp_store_row 106 (.tmp 23) (.tmp 185) rfl (wr.heap.size + 1) #[.int .i64 (zJ ix 0), .int .i64 (zJ ix 1), .int .i64 (zJ ix 2), .int .i64 (zJ ix 3), .int .u64 (zJ ix 4)] rfl rfl 106 #[.int .i64 0, .int .i64 0, .int .i64 0, .int .i64 0, .int .u64 0] (row_other _ (two_second wr _ _) (by omega)) info_job rfl (by simp [Value.oneCell']) ?_
                        refine hK.out _ _ (setRow_turn hHeld3 (.inr (Nat.le_succ _)) _) (fun hHeld4 => ?_)
                        clear hK K
                        try simp only [Act.put, List.getElem_toArray, List.getElem_cons_succ, List.getElem_cons_zero, List.setIfInBounds_toArray, List.set_cons_zero, List.set_cons_succ]
                        refine wpAnyH_done (by kernel_rfl) ?_ _
                        go_wp2_with fail
                        go_meet
                        exact ⟨wr.heap.size, (wr.heap.size + 1), rfl, rfl, hHeld4, row_other _ (Cnt.row_set _ (two_first wr _ _)) (by omega), Cnt.row_set _ (row_other _ (two_second wr _ _) (by omega)), (Nat.le_refl _), (Nat.le_succ _), by omega⟩
                      · try simp only [List.getElem_toArray, List.getElem_cons_succ, List.getElem_cons_zero]
                        go_simp
                        refine hK.out _ _ (hHeld.alloc _) (fun hHeld1 => ?_)
                        clear hK K
                        try simp only [Act.put, List.getElem_toArray, List.getElem_cons_succ, List.getElem_cons_zero, List.setIfInBounds_toArray, List.set_cons_zero, List.set_cons_succ]
                        refine wpAnyH_ready (rs := [9]) (by kernel_rfl) (by simp) ?_
                        refine AllReadyH.cons rfl (fun K hK => ?_) AllReadyH.nil
                        try simp only [List.getElem_toArray, List.getElem_cons_succ, List.getElem_cons_zero]
                        go_simp
                        refine hK.out _ _ (hHeld1.alloc _) (fun hHeld2 => ?_)
                        clear hK K
                        try simp only [Act.put, List.getElem_toArray, List.getElem_cons_succ, List.getElem_cons_zero, List.setIfInBounds_toArray, List.set_cons_zero, List.set_cons_succ]
                        refine wpAnyH_ready (rs := [11]) (by kernel_rfl) (by simp) ?_
                        refine AllReadyH.cons rfl (fun K hK => ?_) AllReadyH.nil
                        try simp only [List.getElem_toArray, List.getElem_cons_succ, List.getElem_cons_zero]
                        rw [if_pos (by rfl)]
                        refine wp_store_row 111 (.tmp 22) (.tmp 180) rfl (wr.heap.size + 1) #[g0, g1, g2, .pointer (some ⟨jj.e, 0, none⟩)] rfl rfl 111 #[.pointer none, .pointer none, .pointer none, .pointer none] (two_second wr _ _) info_one4 rfl H4.out ?_
                        refine hK.out _ _ (setRow_turn hHeld2 (.inr (Nat.le_succ _)) _) (fun hHeld3 => ?_)
                        clear hK K
                        try simp only [Act.put, List.getElem_toArray, List.getElem_cons_succ, List.getElem_cons_zero, List.setIfInBounds_toArray, List.set_cons_zero, List.set_cons_succ]
                        refine wpAnyH_ready (rs := [12]) (by kernel_rfl) (by simp) ?_
                        refine AllReadyH.cons rfl (fun K hK => ?_) AllReadyH.nil
                        try simp only [List.getElem_toArray, List.getElem_cons_succ, List.getElem_cons_zero]
                        rw [if_pos (by rfl)]
                        refine wp_store_row 106 (.tmp 23) (.tmp 185) rfl wr.heap.size #[.int .i64 (zJ ix 0), .int .i64 (zJ ix 1), .int .i64 (zJ ix 2), .int .i64 (zJ ix 3), .int .u64 (zJ ix 4)] rfl rfl 106 #[.int .i64 0, .int .i64 0, .int .i64 0, .int .i64 0, .int .u64 0] (row_other _ (two_first wr _ _) (by omega)) info_job rfl (by simp [Value.oneCell']) ?_
                        refine hK.out _ _ (setRow_turn hHeld3 (.inr (Nat.le_refl _)) _) (fun hHeld4 => ?_)
                        clear hK K
                        try simp only [Act.put, List.getElem_toArray, List.getElem_cons_succ, List.getElem_cons_zero, List.setIfInBounds_toArray, List.set_cons_zero, List.set_cons_succ]
                        refine wpAnyH_done (by kernel_rfl) ?_ _
                        go_wp2_with fail
                        go_meet
                        exact ⟨(wr.heap.size + 1), wr.heap.size, rfl, rfl, hHeld4, row_other _ (Cnt.row_set _ (two_second wr _ _)) (by omega), Cnt.row_set _ (row_other _ (two_first wr _ _) (by omega)), (Nat.le_succ _), (Nat.le_refl _), by omega⟩
                      -- ]]reg37
                    case rest =>
                      -- [[pick
                      as_aux_lemma =>
                      obtain ⟨x2, j2, rfl, rfl, hTc, hx2, hj2, n1, n2, n3⟩ := hcut
                      have HTC := Lib.hid hTc
                      have HS4 := Lib.hid (HS3.out.still hTc)
                      have HX2 := Lib.hid (And.intro hx2 (And.intro hj2 (And.intro n1 n2)))
                      obtain ⟨q0, q1, q2⟩ := md_facts (zJ ix 1) 3 (by omega) (by omega)
                      obtain ⟨r0, r1, r2⟩ := md_facts (zJ ix 2) xs.length (by have := HS.out.2.2.1; have := HXX.out; omega) (by have := HXX.out; omega)
                      obtain ⟨gb, cb, ebs, hbs⟩ := wordsAt_cell (words_row (HS4.out.on (rwP wB.heap.size u6 xs) (by simp))) (by have := HS.out.2.2.1; have := HXX.out; omega)
                      subst ebs
                      have HCL : Hid (∀ W', Frm.Turn [] wc W' → (W'.cell? ⟨j2, 1, none⟩ = some (.int .i64 (zJ ix 1)) ∧ W'.cell? ⟨j2, 2, none⟩ = some (.int .i64 (zJ ix 2))) ∧ (W'.cell? ⟨pl, md (zJ ix 1) 3 * 2, none⟩ = some (.int .u64 (sgQ (md (zJ ix 1) 3))) ∧ W'.cell? ⟨pl, md (zJ ix 1) 3 * 2 + 1, none⟩ = some (.int .i64 (md (zJ ix 1) 3 : Nat))) ∧ W'.cell? (gb.add (md (zJ ix 2) xs.length)) = some (.int .u64 (xs.getD (md (zJ ix 2) xs.length) 0))) := Lib.hid (fun W' hT => by
                        have h5 := hT.keep hj2 (by simp)
                        exact ⟨⟨(Frm.cell_row _ _ 1 _ _ _ h5).trans rfl, (Frm.cell_row _ _ 2 _ _ _ h5).trans rfl⟩, pl_cells (HS4.out.still hT) (by simp) q0, hT.cell (hbs _ _ (u64s_get r0)) (by simp)⟩)
                      obtain ⟨hh, HHH⟩ : ∃ x, Hid (x = xs.getD (md (zJ ix 2) xs.length) 0) := ⟨_, Lib.hid rfl⟩
                      rw [← HHH.out] at HCL
                      have q3 : ((md (zJ ix 1) 3 : Nat) : Int) < 3 := by omega
                      have q4 : (0 : Int) ≤ ((md (zJ ix 1) 3 : Nat) : Int) := by omega
                      have r3 : ((md (zJ ix 2) xs.length : Nat) : Int) < (xs.length : Int) := by omega
                      have r4 : (0 : Int) ≤ ((md (zJ ix 2) xs.length : Nat) : Int) := by omega
                      have hxl : (xs.length : Int) ≤ 500 := by have := HXX.out; omega
                      have hxn : ¬ xs = [] := by rintro rfl; have := HS.out.2.2.1; have := HXX.out; simp at this; omega
                      have q1' : (IntKind.u64.wrap (zJ ix 1)).tmod 3 = ((md (zJ ix 1) 3 : Nat) : Int) := q1
                      have hxl0 : IntKind.u64.wrap (xs.length : Int) = (xs.length : Int) := by rw [IntKind.wrap_u64]; omega
                      clear hbs hTc hx2 hj2 n1 n2 n3 HCC HCB4 H4
                      go_upto_region 38 with fail
                      go_cut [24, 25] (fun s24 s25 W2 => ∃ pb, s24 = .pointer (some ⟨pb, 0, none⟩) ∧ s25 = .int .u64 hh ∧ Frm.Turn [] wc W2 ∧ W2.heap[pb]? = some (.cells #[.int .u64 (sgQ (md (zJ ix 1) 3)), .int .i64 (md (zJ ix 1) 3 : Nat)] 83 (0, 0)) ∧ wc.heap.size ≤ pb)
                      case first =>
                        -- [[reg38
                        as_aux_lemma =>
                        refine wp_region_held_drew (S := fun W' => Frm.Turn [] wc W') (by kernel_rfl) ?_ (fun hHeld => ?_)
                        · exact (Frm.Turn.refl [] wc).drew
                        refine wpAnyH_take (i := 0) (v := ?_) rfl (by kernel_rfl) (by kernel_rfl) (by kernel_rfl) (fun _ _ _ h => h) (Or.inl ⟨by rfl, ?_⟩) (by assumption) ?_
                        rotate_left
                        · (intro w hSw; (try dsimp only at hSw); go_simp; try with_reducible rfl)
                        try simp only [Act.put, List.getElem_toArray, List.getElem_cons_succ, List.getElem_cons_zero, List.setIfInBounds_toArray, List.set_cons_zero, List.set_cons_succ]
                        refine wpAnyH_take (i := 1) (v := ?_) rfl (by kernel_rfl) (by kernel_rfl) (by kernel_rfl) (fun _ _ _ h => h) (Or.inl ⟨by rfl, ?_⟩) (by assumption) ?_
                        rotate_left
                        · (intro w hSw; (try dsimp only at hSw); go_simp; try with_reducible rfl)
                        try simp only [Act.put, List.getElem_toArray, List.getElem_cons_succ, List.getElem_cons_zero, List.setIfInBounds_toArray, List.set_cons_zero, List.set_cons_succ]
                        refine wpAnyH_take (i := 2) (v := ?_) rfl (by kernel_rfl) (by kernel_rfl) (by kernel_rfl) (fun _ _ _ h => h) (Or.inl ⟨by rfl, ?_⟩) (by assumption) ?_
                        rotate_left
                        · (intro w hSw; (try dsimp only at hSw); obtain ⟨⟨k0, k1⟩, ⟨k2, k3⟩, k4⟩ := HCL.out w hSw; go_simp; try with_reducible rfl)
                        try simp only [Act.put, List.getElem_toArray, List.getElem_cons_succ, List.getElem_cons_zero, List.setIfInBounds_toArray, List.set_cons_zero, List.set_cons_succ]
                        refine wpAnyH_take (i := 3) (v := ?_) rfl (by kernel_rfl) (by kernel_rfl) (by kernel_rfl) (fun _ _ _ h => h) (Or.inl ⟨by rfl, ?_⟩) (by assumption) ?_
                        rotate_left
                        · (intro w hSw; (try dsimp only at hSw); go_simp; try with_reducible rfl)
                        try simp only [Act.put, List.getElem_toArray, List.getElem_cons_succ, List.getElem_cons_zero, List.setIfInBounds_toArray, List.set_cons_zero, List.set_cons_succ]
                        refine wpAnyH_take (i := 4) (v := ?_) rfl (by kernel_rfl) (by kernel_rfl) (by kernel_rfl) (fun _ _ _ h => h) (Or.inl ⟨by rfl, ?_⟩) (by assumption) ?_
                        rotate_left
                        · (intro w hSw; (try dsimp only at hSw); go_simp; try with_reducible rfl)
                        try simp only [Act.put, List.getElem_toArray, List.getElem_cons_succ, List.getElem_cons_zero, List.setIfInBounds_toArray, List.set_cons_zero, List.set_cons_succ]
                        refine wpAnyH_take (i := 5) (v := ?_) rfl (by kernel_rfl) (by kernel_rfl) (by kernel_rfl) (fun _ _ _ h => h) (Or.inl ⟨by rfl, ?_⟩) (by assumption) ?_
                        rotate_left
                        · (intro w hSw; (try dsimp only at hSw); go_simp; try with_reducible rfl)
                        try simp only [Act.put, List.getElem_toArray, List.getElem_cons_succ, List.getElem_cons_zero, List.setIfInBounds_toArray, List.set_cons_zero, List.set_cons_succ]
                        refine wpAnyH_take (i := 6) (v := ?_) rfl (by kernel_rfl) (by kernel_rfl) (by kernel_rfl) (fun _ _ _ h => h) (Or.inl ⟨by rfl, ?_⟩) (by assumption) ?_
                        rotate_left
                        · (intro w hSw; (try dsimp only at hSw); go_simp; try with_reducible rfl)
                        try simp only [Act.put, List.getElem_toArray, List.getElem_cons_succ, List.getElem_cons_zero, List.setIfInBounds_toArray, List.set_cons_zero, List.set_cons_succ]
                        refine wpAnyH_take (i := 7) (v := ?_) rfl (by kernel_rfl) (by kernel_rfl) (by kernel_rfl) (fun _ _ _ h => h) (Or.inl ⟨by rfl, ?_⟩) (by assumption) ?_
                        rotate_left
                        · (intro w hSw; (try dsimp only at hSw); obtain ⟨⟨k0, k1⟩, ⟨k2, k3⟩, k4⟩ := HCL.out w hSw; go_simp; try with_reducible rfl)
                        try simp only [Act.put, List.getElem_toArray, List.getElem_cons_succ, List.getElem_cons_zero, List.setIfInBounds_toArray, List.set_cons_zero, List.set_cons_succ]
                        refine wpAnyH_take (i := 8) (v := ?_) rfl (by kernel_rfl) (by kernel_rfl) (by kernel_rfl) (fun _ _ _ h => h) (Or.inl ⟨by rfl, ?_⟩) (by assumption) ?_
                        rotate_left
                        · (intro w hSw; (try dsimp only at hSw); go_simp; try with_reducible rfl)
                        try simp only [Act.put, List.getElem_toArray, List.getElem_cons_succ, List.getElem_cons_zero, List.setIfInBounds_toArray, List.set_cons_zero, List.set_cons_succ]
                        refine wpAnyH_take (i := 9) (v := ?_) rfl (by kernel_rfl) (by kernel_rfl) (by kernel_rfl) (fun _ _ _ h => h) (Or.inl ⟨by rfl, ?_⟩) (by assumption) ?_
                        rotate_left
                        · (intro w hSw; (try dsimp only at hSw); go_simp; try with_reducible rfl)
                        try simp only [Act.put, List.getElem_toArray, List.getElem_cons_succ, List.getElem_cons_zero, List.setIfInBounds_toArray, List.set_cons_zero, List.set_cons_succ]
                        refine wpAnyH_take (i := 10) (v := ?_) rfl (by kernel_rfl) (by kernel_rfl) (by kernel_rfl) (fun _ _ _ h => h) (Or.inl ⟨by rfl, ?_⟩) (by assumption) ?_
                        rotate_left
                        · (intro w hSw; (try dsimp only at hSw); obtain ⟨⟨k0, k1⟩, ⟨k2, k3⟩, k4⟩ := HCL.out w hSw; go_simp; try with_reducible rfl)
                        try simp only [Act.put, List.getElem_toArray, List.getElem_cons_succ, List.getElem_cons_zero, List.setIfInBounds_toArray, List.set_cons_zero, List.set_cons_succ]
                        refine wpAnyH_take (i := 11) (v := ?_) rfl (by kernel_rfl) (by kernel_rfl) (by kernel_rfl) (fun _ _ _ h => h) (Or.inl ⟨by rfl, ?_⟩) (by assumption) ?_
                        rotate_left
                        · (intro w hSw; (try dsimp only at hSw); go_simp; try with_reducible rfl)
                        try simp only [Act.put, List.getElem_toArray, List.getElem_cons_succ, List.getElem_cons_zero, List.setIfInBounds_toArray, List.set_cons_zero, List.set_cons_succ]
                        refine wpAnyH_take (i := 12) (v := ?_) rfl (by kernel_rfl) (by kernel_rfl) (by kernel_rfl) (fun _ _ _ h => h) (Or.inl ⟨by rfl, ?_⟩) (by assumption) ?_
                        rotate_left
                        · (intro w hSw; (try dsimp only at hSw); go_simp; try with_reducible rfl)
                        try simp only [Act.put, List.getElem_toArray, List.getElem_cons_succ, List.getElem_cons_zero, List.setIfInBounds_toArray, List.set_cons_zero, List.set_cons_succ]
                        refine wpAnyH_take (i := 13) (v := ?_) rfl (by kernel_rfl) (by kernel_rfl) (by kernel_rfl) (fun _ _ _ h => h) (Or.inl ⟨by rfl, ?_⟩) (by assumption) ?_
                        rotate_left
                        · (intro w hSw; (try dsimp only at hSw); go_simp; try with_reducible rfl)
                        try simp only [Act.put, List.getElem_toArray, List.getElem_cons_succ, List.getElem_cons_zero, List.setIfInBounds_toArray, List.set_cons_zero, List.set_cons_succ]
                        refine wpAnyH_take (i := 14) (v := ?_) rfl (by kernel_rfl) (by kernel_rfl) (by kernel_rfl) (fun _ _ _ h => h) (Or.inl ⟨by rfl, ?_⟩) (by assumption) ?_
                        rotate_left
                        · (intro w hSw; (try dsimp only at hSw); go_simp; try with_reducible rfl)
                        try simp only [Act.put, List.getElem_toArray, List.getElem_cons_succ, List.getElem_cons_zero, List.setIfInBounds_toArray, List.set_cons_zero, List.set_cons_succ]
                        refine wpAnyH_take (i := 15) (v := ?_) rfl (by kernel_rfl) (by kernel_rfl) (by kernel_rfl) (fun _ _ _ h => h) (Or.inl ⟨by rfl, ?_⟩) (by assumption) ?_
                        rotate_left
                        · (intro w hSw; (try dsimp only at hSw); go_simp; try with_reducible rfl)
                        try simp only [Act.put, List.getElem_toArray, List.getElem_cons_succ, List.getElem_cons_zero, List.setIfInBounds_toArray, List.set_cons_zero, List.set_cons_succ]
                        refine wpAnyH_take (i := 16) (v := ?_) rfl (by kernel_rfl) (by kernel_rfl) (by kernel_rfl) (fun _ _ _ h => h) (Or.inl ⟨by rfl, ?_⟩) (by assumption) ?_
                        rotate_left
                        · (intro w hSw; (try dsimp only at hSw); go_simp; try with_reducible rfl)
                        try simp only [Act.put, List.getElem_toArray, List.getElem_cons_succ, List.getElem_cons_zero, List.setIfInBounds_toArray, List.set_cons_zero, List.set_cons_succ]
                        refine wpAnyH_take (i := 17) (v := ?_) rfl (by kernel_rfl) (by kernel_rfl) (by kernel_rfl) (fun _ _ _ h => h) (Or.inl ⟨by rfl, ?_⟩) (by assumption) ?_
                        rotate_left
                        · (intro w hSw; (try dsimp only at hSw); go_simp; try with_reducible rfl)
                        try simp only [Act.put, List.getElem_toArray, List.getElem_cons_succ, List.getElem_cons_zero, List.setIfInBounds_toArray, List.set_cons_zero, List.set_cons_succ]
                        refine wpAnyH_take (i := 18) (v := ?_) rfl (by kernel_rfl) (by kernel_rfl) (by kernel_rfl) (fun _ _ _ h => h) (Or.inl ⟨by rfl, ?_⟩) (by assumption) ?_
                        rotate_left
                        · (intro w hSw; (try dsimp only at hSw); obtain ⟨⟨k0, k1⟩, ⟨k2, k3⟩, k4⟩ := HCL.out w hSw; go_simp; try with_reducible rfl)
                        try simp only [Act.put, List.getElem_toArray, List.getElem_cons_succ, List.getElem_cons_zero, List.setIfInBounds_toArray, List.set_cons_zero, List.set_cons_succ]
                        refine wpAnyH_ready (rs := [19]) (by kernel_rfl) (by simp) ?_
                        refine AllReadyH.cons rfl (fun K hK => ?_) AllReadyH.nil
                        try simp only [List.getElem_toArray, List.getElem_cons_succ, List.getElem_cons_zero]
                        go_simp
                        refine hK.out _ _ (hHeld.alloc _) (fun hHeld1 => ?_)
                        clear hK K
                        try simp only [Act.put, List.getElem_toArray, List.getElem_cons_succ, List.getElem_cons_zero, List.setIfInBounds_toArray, List.set_cons_zero, List.set_cons_succ]
                        refine wpAnyH_ready (rs := [20]) (by kernel_rfl) (by simp) ?_
                        refine AllReadyH.cons rfl (fun K hK => ?_) AllReadyH.nil
                        try simp only [List.getElem_toArray, List.getElem_cons_succ, List.getElem_cons_zero]
                        go_simp
                        refine hK.out _ _ (((Frm.Turn.refl [] wc).alloc _).drew) (fun hHeld2 => ?_)
                        clear hK K
                        try simp only [Act.put, List.getElem_toArray, List.getElem_cons_succ, List.getElem_cons_zero, List.setIfInBounds_toArray, List.set_cons_zero, List.set_cons_succ]
                        refine wpAnyH_take (i := 21) (v := ?_) rfl (by kernel_rfl) (by kernel_rfl) (by kernel_rfl) (fun _ _ _ h => h) (Or.inl ⟨by rfl, ?_⟩) (by assumption) ?_
                        rotate_left
                        · (intro w hSw; (try dsimp only at hSw); go_simp; try with_reducible rfl)
                        try simp only [Act.put, List.getElem_toArray, List.getElem_cons_succ, List.getElem_cons_zero, List.setIfInBounds_toArray, List.set_cons_zero, List.set_cons_succ]
                        refine wpAnyH_done (by kernel_rfl) ?_ _
                        go_wp2_with fail
                        go_meet
                        exact ⟨_, rfl, rfl, hHeld2, World.alloc_heap_new wc _, Nat.le_refl _⟩
                        -- ]]reg38
                      case rest =>
                        as_aux_lemma =>
                        obtain ⟨pb, rfl, rfl, hTc, hpb, n4⟩ := hcut
                        have hx3 := hTc.keep HX2.out.1 (by simp)
                        have hj3 := hTc.keep HX2.out.2.1 (by simp)
                        have hS5 := tm_add HS3.out (HTC.out.trans hTc (by simp)) hx3 hj3 hpb HX2.out.2.2.1 HX2.out.2.2.2 (Nat.le_trans HTC.out.size n4)
                        obtain ⟨slE, hhE⟩ : jj.sl = md (zJ ix 1) 3 ∧ jj.h = hh := ⟨HJO.out.1.sl, by rw [HHH.out]; exact HJO.out.1.h⟩
                        rw [← slE] at hS5
                        have HS5 := Lib.hid hS5
                        have HMR := Lib.hid (mp_row (mb := mb) (B := A3) (CM := CM3) (GM := GM3) hS5 (by simp))
                        have HBG := Lib.hid (begin_s hS5)
                        have HSE := Lib.hid (And.intro slE hhE)
                        have hxc := (Frm.cell_row _ _ 3 _ _ _ hx3).trans rfl
                        clear hTc hx3 hj3 hpb n4 hS5 slE hhE HTC HX2 HCL q0 q1 q2 q3 q4 r0 r1 r2 r3 r4 q1' hxl0 c0 c1 c2 c3
                        have HMM : Hid (tmP x2 j2 pb (.cells #[g0, g1, g2, .pointer (some ⟨jj.e, 0, none⟩)] 111) (.cells #[.int .i64 (zJ ix 0), .int .i64 (zJ ix 1), .int .i64 (zJ ix 2), .int .i64 (zJ ix 3), .int .u64 (zJ ix 4)] 106) (.cells #[.int .u64 (sgQ jj.sl), .int .i64 (jj.sl : Nat)] 83) ∈ ([olP wB (.slice (some ⟨gl, 0, none⟩) js.length vc) js, rwP wB.heap.size (.slice (some gb) xs.length cb) xs, bkP pl oPl] ++ [tmP x2 j2 pb (.cells #[g0, g1, g2, .pointer (some ⟨jj.e, 0, none⟩)] 111) (.cells #[.int .i64 (zJ ix 0), .int .i64 (zJ ix 1), .int .i64 (zJ ix 2), .int .i64 (zJ ix 3), .int .u64 (zJ ix 4)] 106) (.cells #[.int .u64 (sgQ jj.sl), .int .i64 (jj.sl : Nat)] 83)])) := Lib.hid (List.mem_append_right _ (List.mem_singleton_self _))
                        obtain ⟨rs, hrs⟩ : ∃ x, x = ([olP wB (.slice (some ⟨gl, 0, none⟩) js.length vc) js, rwP wB.heap.size (.slice (some gb) xs.length cb) xs, bkP pl oPl] ++ [tmP x2 j2 pb (.cells #[g0, g1, g2, .pointer (some ⟨jj.e, 0, none⟩)] 111) (.cells #[.int .i64 (zJ ix 0), .int .i64 (zJ ix 1), .int .i64 (zJ ix 2), .int .i64 (zJ ix 3), .int .u64 (zJ ix 4)] 106) (.cells #[.int .u64 (sgQ jj.sl), .int .i64 (jj.sl : Nat)] 83)]) := ⟨_, rfl⟩
                        rw [← hrs] at HMM HBG
                        have HRS := Lib.hid hrs
                        have hkb : k3 ≤ 5000 ∧ p ≤ 500 := by have := HE.out.2.2.2; have := HL8.out; have := HS.out.1; have := HLT.out; omega
                        have HKB := Lib.hid hkb
                        clear hrs hkb HS5
                        go_upto_block 7 with (first
                          | (refine wpList_load_row rfl 67 (.tmp 4) rfl mb rfl 67 CM3 (0, 0) (.struct fs) HMR.out.1 HFS.out rfl (by rw [HMR.out.2.1]; exact info_refA) ?_)
                          | (go_at_call 31; (with_reducible refine (HBG.out).mono ?_); rintro e w6 ⟨rfl, hS6⟩; have HS6 := Lib.hid hS6; clear hS6))
                        obtain ⟨⟨x0, x1, x22, x3⟩, ⟨j3, j4⟩, p0, p1⟩ := tm_cells HS6.out (List.mem_cons_of_mem _ (List.mem_append_right _ (List.mem_append_right _ (List.mem_cons_of_mem _ HMM.out)))) (Frm.Turn.refl [] w6)
                        clear hxc HBG
                        go_cut [] (fun W2 => PMid wB b mb rs A3 (k3 + 1) CM3 GM3 l1 jj l2 (p + 1) W2)
                        case first =>
                          obtain ⟨eg0, eg1, eg2⟩ := HEG.out
                          have hk3 := HK3.out
                          rcases hk3 with hk | hk | hk
                          · -- [[sw0
                            as_aux_lemma =>
                            obtain rfl : g0 = .pointer (some ⟨jj.r, 0, none⟩) := by rw [eg0, hk]; rfl
                            have HAR := Lib.hid (arm_g HS6.out HJO.out.2 hk (by have := HKB.out; omega))
                            clear eg0 eg1 eg2 HEG HK3 HMR
                            go_upto_region 43 with (first
                              | (go_at_call 45; (with_reducible refine (HAR.out).mono ?_); rintro e w7 ⟨rfl, A7, ps7, hS7, hm7, rt, ou, d, h7⟩; have H7 := Lib.hid (h7 w7 (Frm.Turn.refl [] w7)); obtain ⟨⟨x0, x1, x22, x3⟩, ⟨j3, j4⟩, p0, p1⟩ := tm_cells hS7 (hm7 _ HMM.out) (Frm.Turn.refl [] w7); clear hS7 hm7 h7)
                              | (go_at_call 46; (with_reducible refine (H7.out).mono ?_); rintro e w8 ⟨rfl, hP8, h8⟩; have HP8 := Lib.hid hP8; have H8 := Lib.hid h8; obtain ⟨⟨x0, x1, x22, x3⟩, ⟨j3, j4⟩, p0, p1⟩ := pmid_tm hP8 HMM.out (Frm.Turn.refl [] w8); have c23 := (h8 w8 (Frm.Turn.refl [] w8)).2.2.2; clear hP8 h8))
                            cases d
                            · go_quiet (first
                                | (go_at_call 47; exact quiet_at (H8.out _ ((Frm.Turn.refl [] w8).drewN _)).1)
                                | (go_at_call 48; exact quiet_at (H8.out _ ((Frm.Turn.refl [] w8).drewN _)).2.1)
                                | (go_at_call 49; exact quiet_at (H8.out _ ((Frm.Turn.refl [] w8).drewN _)).2.2.1))
                              go_wp2
                              go_meet
                              exact pmid_still HP8.out (by repeat (first | exact Frm.Turn.refl [] _ | apply Frm.Turn.drewN | apply Frm.Turn.drew))
                            · go_quiet (first
                                | (go_at_call 47; exact quiet_at (H8.out _ ((Frm.Turn.refl [] w8).drewN _)).1)
                                | (go_at_call 48; exact quiet_at (H8.out _ ((Frm.Turn.refl [] w8).drewN _)).2.1)
                                | (go_at_call 49; exact quiet_at (H8.out _ ((Frm.Turn.refl [] w8).drewN _)).2.2.1))
                              go_wp2
                              go_meet
                              exact pmid_still HP8.out (by repeat (first | exact Frm.Turn.refl [] _ | apply Frm.Turn.drewN | apply Frm.Turn.drew))
                            -- ]]sw0
                          · -- [[sw1
                            as_aux_lemma =>
                            obtain rfl : g0 = .pointer none := by rw [eg0, hk]; rfl
                            obtain rfl : g1 = .pointer (some ⟨jj.r, 0, none⟩) := by rw [eg1, hk]; rfl
                            have HAR := Lib.hid (arm_f HS6.out HJO.out.2 hk (by have := HKB.out; omega) HKB.out.2)
                            rw [HJO.out.1.R, HJO.out.1.n, HSE.out.2] at HAR
                            clear eg0 eg1 eg2 HEG HK3 HMR
                            go_upto_region 48 with (first
                              | (go_at_call 50; (with_reducible refine (HAR.out).mono ?_); rintro e w7 ⟨rfl, A7, ps7, hS7, hm7, ou, d, h7⟩; have H7 := Lib.hid (h7 w7 (Frm.Turn.refl [] w7)); obtain ⟨⟨x0, x1, x22, x3⟩, ⟨j3, j4⟩, p0, p1⟩ := tm_cells hS7 (hm7 _ HMM.out) (Frm.Turn.refl [] w7); clear hS7 hm7 h7)
                              | (go_at_call 51; (with_reducible refine (H7.out).mono ?_); rintro e w8 ⟨vr, rfl, hP8, h8⟩; have HP8 := Lib.hid hP8; have H8 := Lib.hid h8; have HTM := Lib.hid (fun W' (hT : Frm.Turn [] w8 W') => pmid_tm hP8 HMM.out hT); clear hP8 h8 x0 x1 x22 x3 j3 j4 p0 p1))
                            cases d
                            · skip
                              refine wp_region_held_drew (S := fun W' => Frm.Turn [] w8 W') (by kernel_rfl) ?_ (fun hHeld => ?_)
                              · exact (Frm.Turn.refl [] w8).drew
                              refine wpAnyH_take (i := 0) (v := ?_) rfl (by kernel_rfl) (by kernel_rfl) (by kernel_rfl) (fun _ _ _ h => h) (Or.inl ⟨by rfl, ?_⟩) (by assumption) ?_
                              rotate_left
                              · (intro w hSw; (try dsimp only at hSw); go_simp; try with_reducible rfl)
                              try simp only [Act.put, List.getElem_toArray, List.getElem_cons_succ, List.getElem_cons_zero, List.setIfInBounds_toArray, List.set_cons_zero, List.set_cons_succ]
                              refine wpAnyH_take (i := 1) (v := ?_) rfl (by kernel_rfl) (by kernel_rfl) (by kernel_rfl) (fun _ _ _ h => h) (Or.inl ⟨by rfl, ?_⟩) (by assumption) ?_
                              rotate_left
                              · (intro w hSw; (try dsimp only at hSw); obtain ⟨⟨x0, x1, x22, x3⟩, -⟩ := HTM.out w hSw; go_simp; try with_reducible rfl)
                              try simp only [Act.put, List.getElem_toArray, List.getElem_cons_succ, List.getElem_cons_zero, List.setIfInBounds_toArray, List.set_cons_zero, List.set_cons_succ]
                              refine wpAnyH_take (i := 3) (v := ?_) rfl (by kernel_rfl) (by kernel_rfl) (by kernel_rfl) (fun _ _ _ h => h) (Or.inl ⟨by rfl, ?_⟩) (by assumption) ?_
                              rotate_left
                              · (intro w hSw; (try dsimp only at hSw); go_simp; try with_reducible rfl)
                              try simp only [Act.put, List.getElem_toArray, List.getElem_cons_succ, List.getElem_cons_zero, List.setIfInBounds_toArray, List.set_cons_zero, List.set_cons_succ]
                              refine wpAnyH_ready (rs := [2]) (by kernel_rfl) (by simp) ?_
                              refine AllReadyH.cons rfl (fun K hK => ?_) AllReadyH.nil
                              try simp only [List.getElem_toArray, List.getElem_cons_succ, List.getElem_cons_zero]
                              go_simp
                              (go_at_call 53; (with_reducible refine ((H8.out _ hHeld).1).mono ?_); rintro e w9 ⟨hT9, vm, rfl, hW9⟩; have HT9 := Lib.hid (hHeld.trans hT9 (by simp)); have HW9 := Lib.hid hW9; clear hT9 hW9)
                              try go_wp2_with fail
                              refine hK.out _ _ (HT9.out) (fun hHeld1 => ?_)
                              clear hK K
                              try simp only [Act.put, List.getElem_toArray, List.getElem_cons_succ, List.getElem_cons_zero, List.setIfInBounds_toArray, List.set_cons_zero, List.set_cons_succ]
                              refine wpAnyH_ready (rs := [4]) (by kernel_rfl) (by simp) ?_
                              refine AllReadyH.cons rfl (fun K hK => ?_) AllReadyH.nil
                              try simp only [List.getElem_toArray, List.getElem_cons_succ, List.getElem_cons_zero]
                              go_simp
                              (go_at_call 52; (with_reducible refine (HW9.out).mono ?_); rintro e w10 ⟨rfl, hT10⟩; have HT10 := Lib.hid (HT9.out.trans hT10 (by simp)); clear hT10)
                              try go_wp2_with fail
                              refine hK.out _ _ (HT10.out) (fun hHeld2 => ?_)
                              clear hK K
                              try simp only [Act.put, List.getElem_toArray, List.getElem_cons_succ, List.getElem_cons_zero, List.setIfInBounds_toArray, List.set_cons_zero, List.set_cons_succ]
                              refine wpAnyH_take (i := 5) (v := ?_) rfl (by kernel_rfl) (by kernel_rfl) (by kernel_rfl) (fun _ _ _ h => h) (Or.inl ⟨by rfl, ?_⟩) (by assumption) ?_
                              rotate_left
                              · (intro w hSw; (try dsimp only at hSw); go_simp; try with_reducible rfl)
                              try simp only [Act.put, List.getElem_toArray, List.getElem_cons_succ, List.getElem_cons_zero, List.setIfInBounds_toArray, List.set_cons_zero, List.set_cons_succ]
                              refine wpAnyH_take (i := 6) (v := ?_) rfl (by kernel_rfl) (by kernel_rfl) (by kernel_rfl) (fun _ _ _ h => h) (Or.inl ⟨by rfl, ?_⟩) (by assumption) ?_
                              rotate_left
                              · (intro w hSw; (try dsimp only at hSw); go_simp; try with_reducible rfl)
                              try simp only [Act.put, List.getElem_toArray, List.getElem_cons_succ, List.getElem_cons_zero, List.setIfInBounds_toArray, List.set_cons_zero, List.set_cons_succ]
                              refine wpAnyH_take (i := 7) (v := ?_) rfl (by kernel_rfl) (by kernel_rfl) (by kernel_rfl) (fun _ _ _ h => h) (Or.inl ⟨by rfl, ?_⟩) (by assumption) ?_
                              rotate_left
                              · (intro w hSw; (try dsimp only at hSw); go_simp; try with_reducible rfl)
                              try simp only [Act.put, List.getElem_toArray, List.getElem_cons_succ, List.getElem_cons_zero, List.setIfInBounds_toArray, List.set_cons_zero, List.set_cons_succ]
                              refine wpAnyH_take (i := 8) (v := ?_) rfl (by kernel_rfl) (by kernel_rfl) (by kernel_rfl) (fun _ _ _ h => h) (Or.inl ⟨by rfl, ?_⟩) (by assumption) ?_
                              rotate_left
                              · (intro w hSw; (try dsimp only at hSw); obtain ⟨⟨x0, x1, x22, x3⟩, -⟩ := HTM.out w hSw; go_simp; try with_reducible rfl)
                              try simp only [Act.put, List.getElem_toArray, List.getElem_cons_succ, List.getElem_cons_zero, List.setIfInBounds_toArray, List.set_cons_zero, List.set_cons_succ]
                              refine wpAnyH_take (i := 10) (v := ?_) rfl (by kernel_rfl) (by kernel_rfl) (by kernel_rfl) (fun _ _ _ h => h) (Or.inl ⟨by rfl, ?_⟩) (by assumption) ?_
                              rotate_left
                              · (intro w hSw; (try dsimp only at hSw); go_simp; try with_reducible rfl)
                              try simp only [Act.put, List.getElem_toArray, List.getElem_cons_succ, List.getElem_cons_zero, List.setIfInBounds_toArray, List.set_cons_zero, List.set_cons_succ]
                              refine wpAnyH_ready (rs := [9]) (by kernel_rfl) (by simp) ?_
                              refine AllReadyH.cons rfl (fun K hK => ?_) AllReadyH.nil
                              try simp only [List.getElem_toArray, List.getElem_cons_succ, List.getElem_cons_zero]
                              go_simp
                              (go_at_call 54; (with_reducible refine ((H8.out _ HT10.out).2.1).mono ?_); rintro e w11 ⟨rfl, rfl⟩)
                              try go_wp2_with fail
                              refine hK.out _ _ (HT10.out) (fun hHeld3 => ?_)
                              clear hK K
                              try simp only [Act.put, List.getElem_toArray, List.getElem_cons_succ, List.getElem_cons_zero, List.setIfInBounds_toArray, List.set_cons_zero, List.set_cons_succ]
                              refine wpAnyH_take (i := 11) (v := ?_) rfl (by kernel_rfl) (by kernel_rfl) (by kernel_rfl) (fun _ _ _ h => h) (Or.inl ⟨by rfl, ?_⟩) (by assumption) ?_
                              rotate_left
                              · (intro w hSw; (try dsimp only at hSw); go_simp; try with_reducible rfl)
                              try simp only [Act.put, List.getElem_toArray, List.getElem_cons_succ, List.getElem_cons_zero, List.setIfInBounds_toArray, List.set_cons_zero, List.set_cons_succ]
                              refine wpAnyH_take (i := 12) (v := ?_) rfl (by kernel_rfl) (by kernel_rfl) (by kernel_rfl) (fun _ _ _ h => h) (Or.inl ⟨by rfl, ?_⟩) (by assumption) ?_
                              rotate_left
                              · (intro w hSw; (try dsimp only at hSw); go_simp; try with_reducible rfl)
                              try simp only [Act.put, List.getElem_toArray, List.getElem_cons_succ, List.getElem_cons_zero, List.setIfInBounds_toArray, List.set_cons_zero, List.set_cons_succ]
                              refine wpAnyH_take (i := 13) (v := ?_) rfl (by kernel_rfl) (by kernel_rfl) (by kernel_rfl) (fun _ _ _ h => h) (Or.inl ⟨by rfl, ?_⟩) (by assumption) ?_
                              rotate_left
                              · (intro w hSw; (try dsimp only at hSw); go_simp; try with_reducible rfl)
                              try simp only [Act.put, List.getElem_toArray, List.getElem_cons_succ, List.getElem_cons_zero, List.setIfInBounds_toArray, List.set_cons_zero, List.set_cons_succ]
                              refine wpAnyH_take (i := 14) (v := ?_) rfl (by kernel_rfl) (by kernel_rfl) (by kernel_rfl) (fun _ _ _ h => h) (Or.inl ⟨by rfl, ?_⟩) (by assumption) ?_
                              rotate_left
                              · (intro w hSw; (try dsimp only at hSw); go_simp; try with_reducible rfl)
                              try simp only [Act.put, List.getElem_toArray, List.getElem_cons_succ, List.getElem_cons_zero, List.setIfInBounds_toArray, List.set_cons_zero, List.set_cons_succ]
                              refine wpAnyH_take (i := 15) (v := ?_) rfl (by kernel_rfl) (by kernel_rfl) (by kernel_rfl) (fun _ _ _ h => h) (Or.inl ⟨by rfl, ?_⟩) (by assumption) ?_
                              rotate_left
                              · (intro w hSw; (try dsimp only at hSw); obtain ⟨⟨x0, x1, x22, x3⟩, -⟩ := HTM.out w hSw; go_simp; try with_reducible rfl)
                              try simp only [Act.put, List.getElem_toArray, List.getElem_cons_succ, List.getElem_cons_zero, List.setIfInBounds_toArray, List.set_cons_zero, List.set_cons_succ]
                              refine wpAnyH_take (i := 17) (v := ?_) rfl (by kernel_rfl) (by kernel_rfl) (by kernel_rfl) (fun _ _ _ h => h) (Or.inl ⟨by rfl, ?_⟩) (by assumption) ?_
                              rotate_left
                              · (intro w hSw; (try dsimp only at hSw); go_simp; try with_reducible rfl)
                              try simp only [Act.put, List.getElem_toArray, List.getElem_cons_succ, List.getElem_cons_zero, List.setIfInBounds_toArray, List.set_cons_zero, List.set_cons_succ]
                              refine wpAnyH_take (i := 18) (v := ?_) rfl (by kernel_rfl) (by kernel_rfl) (by kernel_rfl) (fun _ _ _ h => h) (Or.inl ⟨by rfl, ?_⟩) (by assumption) ?_
                              rotate_left
                              · (intro w hSw; (try dsimp only at hSw); obtain ⟨⟨x0, x1, x22, x3⟩, -⟩ := HTM.out w hSw; go_simp; try with_reducible rfl)
                              try simp only [Act.put, List.getElem_toArray, List.getElem_cons_succ, List.getElem_cons_zero, List.setIfInBounds_toArray, List.set_cons_zero, List.set_cons_succ]
                              refine wpAnyH_take (i := 19) (v := ?_) rfl (by kernel_rfl) (by kernel_rfl) (by kernel_rfl) (fun _ _ _ h => h) (Or.inl ⟨by rfl, ?_⟩) (by assumption) ?_
                              rotate_left
                              · (intro w hSw; (try dsimp only at hSw); go_simp; try with_reducible rfl)
                              try simp only [Act.put, List.getElem_toArray, List.getElem_cons_succ, List.getElem_cons_zero, List.setIfInBounds_toArray, List.set_cons_zero, List.set_cons_succ]
                              refine wpAnyH_take (i := 20) (v := ?_) rfl (by kernel_rfl) (by kernel_rfl) (by kernel_rfl) (fun _ _ _ h => h) (Or.inl ⟨by rfl, ?_⟩) (by assumption) ?_
                              rotate_left
                              · (intro w hSw; (try dsimp only at hSw); go_simp; try with_reducible rfl)
                              try simp only [Act.put, List.getElem_toArray, List.getElem_cons_succ, List.getElem_cons_zero, List.setIfInBounds_toArray, List.set_cons_zero, List.set_cons_succ]
                              refine wpAnyH_take (i := 21) (v := ?_) rfl (by kernel_rfl) (by kernel_rfl) (by kernel_rfl) (fun _ _ _ h => h) (Or.inl ⟨by rfl, ?_⟩) (by assumption) ?_
                              rotate_left
                              · (intro w hSw; (try dsimp only at hSw); have c23 := (H8.out w hSw).2.2.2; go_simp; try with_reducible rfl)
                              try simp only [Act.put, List.getElem_toArray, List.getElem_cons_succ, List.getElem_cons_zero, List.setIfInBounds_toArray, List.set_cons_zero, List.set_cons_succ]
                              refine wpAnyH_ready (rs := [16]) (by kernel_rfl) (by simp) ?_
                              refine AllReadyH.cons rfl (fun K hK => ?_) AllReadyH.nil
                              try simp only [List.getElem_toArray, List.getElem_cons_succ, List.getElem_cons_zero]
                              go_simp
                              (go_at_call 55; (with_reducible refine ((H8.out _ HT10.out).2.2.1).mono ?_); rintro e w12 ⟨rfl, rfl⟩)
                              try go_wp2_with fail
                              refine hK.out _ _ (HT10.out) (fun hHeld4 => ?_)
                              clear hK K
                              try simp only [Act.put, List.getElem_toArray, List.getElem_cons_succ, List.getElem_cons_zero, List.setIfInBounds_toArray, List.set_cons_zero, List.set_cons_succ]
                              refine wpAnyH_take (i := 22) (v := ?_) rfl (by kernel_rfl) (by kernel_rfl) (by kernel_rfl) (fun _ _ _ h => h) (Or.inl ⟨by rfl, ?_⟩) (by assumption) ?_
                              rotate_left
                              · (intro w hSw; (try dsimp only at hSw); go_simp; try with_reducible rfl)
                              try simp only [Act.put, List.getElem_toArray, List.getElem_cons_succ, List.getElem_cons_zero, List.setIfInBounds_toArray, List.set_cons_zero, List.set_cons_succ]
                              refine wpAnyH_take (i := 23) (v := ?_) rfl (by kernel_rfl) (by kernel_rfl) (by kernel_rfl) (fun _ _ _ h => h) (Or.inl ⟨by rfl, ?_⟩) (by assumption) ?_
                              rotate_left
                              · (intro w hSw; (try dsimp only at hSw); go_simp; try with_reducible rfl)
                              try simp only [Act.put, List.getElem_toArray, List.getElem_cons_succ, List.getElem_cons_zero, List.setIfInBounds_toArray, List.set_cons_zero, List.set_cons_succ]
                              refine wpAnyH_done (by kernel_rfl) ?_ _
                              go_wp2
                              go_meet
                              exact pmid_still HP8.out hHeld4
                            · skip
                              refine wp_region_held_drew (S := fun W' => Frm.Turn [] w8 W') (by kernel_rfl) ?_ (fun hHeld => ?_)
                              · exact (Frm.Turn.refl [] w8).drew
                              refine wpAnyH_take (i := 0) (v := ?_) rfl (by kernel_rfl) (by kernel_rfl) (by kernel_rfl) (fun _ _ _ h => h) (Or.inl ⟨by rfl, ?_⟩) (by assumption) ?_
                              rotate_left
                              · (intro w hSw; (try dsimp only at hSw); go_simp; try with_reducible rfl)
                              try simp only [Act.put, List.getElem_toArray, List.getElem_cons_succ, List.getElem_cons_zero, List.setIfInBounds_toArray, List.set_cons_zero, List.set_cons_succ]
                              refine wpAnyH_take (i := 1) (v := ?_) rfl (by kernel_rfl) (by kernel_rfl) (by kernel_rfl) (fun _ _ _ h => h) (Or.inl ⟨by rfl, ?_⟩) (by assumption) ?_
                              rotate_left
                              · (intro w hSw; (try dsimp only at hSw); obtain ⟨⟨x0, x1, x22, x3⟩, -⟩ := HTM.out w hSw; go_simp; try with_reducible rfl)
                              try simp only [Act.put, List.getElem_toArray, List.getElem_cons_succ, List.getElem_cons_zero, List.setIfInBounds_toArray, List.set_cons_zero, List.set_cons_succ]
                              refine wpAnyH_take (i := 3) (v := ?_) rfl (by kernel_rfl) (by kernel_rfl) (by kernel_rfl) (fun _ _ _ h => h) (Or.inl ⟨by rfl, ?_⟩) (by assumption) ?_
                              rotate_left
                              · (intro w hSw; (try dsimp only at hSw); go_simp; try with_reducible rfl)
                              try simp only [Act.put, List.getElem_toArray, List.getElem_cons_succ, List.getElem_cons_zero, List.setIfInBounds_toArray, List.set_cons_zero, List.set_cons_succ]
                              refine wpAnyH_ready (rs := [2]) (by kernel_rfl) (by simp) ?_
                              refine AllReadyH.cons rfl (fun K hK => ?_) AllReadyH.nil
                              try simp only [List.getElem_toArray, List.getElem_cons_succ, List.getElem_cons_zero]
                              go_simp
                              (go_at_call 53; (with_reducible refine ((H8.out _ hHeld).1).mono ?_); rintro e w9 ⟨hT9, vm, rfl, hW9⟩; have HT9 := Lib.hid (hHeld.trans hT9 (by simp)); have HW9 := Lib.hid hW9; clear hT9 hW9)
                              try go_wp2_with fail
                              refine hK.out _ _ (HT9.out) (fun hHeld1 => ?_)
                              clear hK K
                              try simp only [Act.put, List.getElem_toArray, List.getElem_cons_succ, List.getElem_cons_zero, List.setIfInBounds_toArray, List.set_cons_zero, List.set_cons_succ]
                              refine wpAnyH_ready (rs := [4]) (by kernel_rfl) (by simp) ?_
                              refine AllReadyH.cons rfl (fun K hK => ?_) AllReadyH.nil
                              try simp only [List.getElem_toArray, List.getElem_cons_succ, List.getElem_cons_zero]
                              go_simp
                              (go_at_call 52; (with_reducible refine (HW9.out).mono ?_); rintro e w10 ⟨rfl, hT10⟩; have HT10 := Lib.hid (HT9.out.trans hT10 (by simp)); clear hT10)
                              try go_wp2_with fail
                              refine hK.out _ _ (HT10.out) (fun hHeld2 => ?_)
                              clear hK K
                              try simp only [Act.put, List.getElem_toArray, List.getElem_cons_succ, List.getElem_cons_zero, List.setIfInBounds_toArray, List.set_cons_zero, List.set_cons_succ]
                              refine wpAnyH_take (i := 5) (v := ?_) rfl (by kernel_rfl) (by kernel_rfl) (by kernel_rfl) (fun _ _ _ h => h) (Or.inl ⟨by rfl, ?_⟩) (by assumption) ?_
                              rotate_left
                              · (intro w hSw; (try dsimp only at hSw); go_simp; try with_reducible rfl)
                              try simp only [Act.put, List.getElem_toArray, List.getElem_cons_succ, List.getElem_cons_zero, List.setIfInBounds_toArray, List.set_cons_zero, List.set_cons_succ]
                              refine wpAnyH_take (i := 6) (v := ?_) rfl (by kernel_rfl) (by kernel_rfl) (by kernel_rfl) (fun _ _ _ h => h) (Or.inl ⟨by rfl, ?_⟩) (by assumption) ?_
                              rotate_left
                              · (intro w hSw; (try dsimp only at hSw); go_simp; try with_reducible rfl)
                              try simp only [Act.put, List.getElem_toArray, List.getElem_cons_succ, List.getElem_cons_zero, List.setIfInBounds_toArray, List.set_cons_zero, List.set_cons_succ]
                              refine wpAnyH_take (i := 7) (v := ?_) rfl (by kernel_rfl) (by kernel_rfl) (by kernel_rfl) (fun _ _ _ h => h) (Or.inl ⟨by rfl, ?_⟩) (by assumption) ?_
                              rotate_left
                              · (intro w hSw; (try dsimp only at hSw); go_simp; try with_reducible rfl)
                              try simp only [Act.put, List.getElem_toArray, List.getElem_cons_succ, List.getElem_cons_zero, List.setIfInBounds_toArray, List.set_cons_zero, List.set_cons_succ]
                              refine wpAnyH_take (i := 8) (v := ?_) rfl (by kernel_rfl) (by kernel_rfl) (by kernel_rfl) (fun _ _ _ h => h) (Or.inl ⟨by rfl, ?_⟩) (by assumption) ?_
                              rotate_left
                              · (intro w hSw; (try dsimp only at hSw); obtain ⟨⟨x0, x1, x22, x3⟩, -⟩ := HTM.out w hSw; go_simp; try with_reducible rfl)
                              try simp only [Act.put, List.getElem_toArray, List.getElem_cons_succ, List.getElem_cons_zero, List.setIfInBounds_toArray, List.set_cons_zero, List.set_cons_succ]
                              refine wpAnyH_take (i := 10) (v := ?_) rfl (by kernel_rfl) (by kernel_rfl) (by kernel_rfl) (fun _ _ _ h => h) (Or.inl ⟨by rfl, ?_⟩) (by assumption) ?_
                              rotate_left
                              · (intro w hSw; (try dsimp only at hSw); go_simp; try with_reducible rfl)
                              try simp only [Act.put, List.getElem_toArray, List.getElem_cons_succ, List.getElem_cons_zero, List.setIfInBounds_toArray, List.set_cons_zero, List.set_cons_succ]
                              refine wpAnyH_ready (rs := [9]) (by kernel_rfl) (by simp) ?_
                              refine AllReadyH.cons rfl (fun K hK => ?_) AllReadyH.nil
                              try simp only [List.getElem_toArray, List.getElem_cons_succ, List.getElem_cons_zero]
                              go_simp
                              (go_at_call 54; (with_reducible refine ((H8.out _ HT10.out).2.1).mono ?_); rintro e w11 ⟨rfl, rfl⟩)
                              try go_wp2_with fail
                              refine hK.out _ _ (HT10.out) (fun hHeld3 => ?_)
                              clear hK K
                              try simp only [Act.put, List.getElem_toArray, List.getElem_cons_succ, List.getElem_cons_zero, List.setIfInBounds_toArray, List.set_cons_zero, List.set_cons_succ]
                              refine wpAnyH_take (i := 11) (v := ?_) rfl (by kernel_rfl) (by kernel_rfl) (by kernel_rfl) (fun _ _ _ h => h) (Or.inl ⟨by rfl, ?_⟩) (by assumption) ?_
                              rotate_left
                              · (intro w hSw; (try dsimp only at hSw); go_simp; try with_reducible rfl)
                              try simp only [Act.put, List.getElem_toArray, List.getElem_cons_succ, List.getElem_cons_zero, List.setIfInBounds_toArray, List.set_cons_zero, List.set_cons_succ]
                              refine wpAnyH_take (i := 12) (v := ?_) rfl (by kernel_rfl) (by kernel_rfl) (by kernel_rfl) (fun _ _ _ h => h) (Or.inl ⟨by rfl, ?_⟩) (by assumption) ?_
                              rotate_left
                              · (intro w hSw; (try dsimp only at hSw); go_simp; try with_reducible rfl)
                              try simp only [Act.put, List.getElem_toArray, List.getElem_cons_succ, List.getElem_cons_zero, List.setIfInBounds_toArray, List.set_cons_zero, List.set_cons_succ]
                              refine wpAnyH_take (i := 13) (v := ?_) rfl (by kernel_rfl) (by kernel_rfl) (by kernel_rfl) (fun _ _ _ h => h) (Or.inl ⟨by rfl, ?_⟩) (by assumption) ?_
                              rotate_left
                              · (intro w hSw; (try dsimp only at hSw); go_simp; try with_reducible rfl)
                              try simp only [Act.put, List.getElem_toArray, List.getElem_cons_succ, List.getElem_cons_zero, List.setIfInBounds_toArray, List.set_cons_zero, List.set_cons_succ]
                              refine wpAnyH_take (i := 14) (v := ?_) rfl (by kernel_rfl) (by kernel_rfl) (by kernel_rfl) (fun _ _ _ h => h) (Or.inl ⟨by rfl, ?_⟩) (by assumption) ?_
                              rotate_left
                              · (intro w hSw; (try dsimp only at hSw); go_simp; try with_reducible rfl)
                              try simp only [Act.put, List.getElem_toArray, List.getElem_cons_succ, List.getElem_cons_zero, List.setIfInBounds_toArray, List.set_cons_zero, List.set_cons_succ]
                              refine wpAnyH_take (i := 15) (v := ?_) rfl (by kernel_rfl) (by kernel_rfl) (by kernel_rfl) (fun _ _ _ h => h) (Or.inl ⟨by rfl, ?_⟩) (by assumption) ?_
                              rotate_left
                              · (intro w hSw; (try dsimp only at hSw); obtain ⟨⟨x0, x1, x22, x3⟩, -⟩ := HTM.out w hSw; go_simp; try with_reducible rfl)
                              try simp only [Act.put, List.getElem_toArray, List.getElem_cons_succ, List.getElem_cons_zero, List.setIfInBounds_toArray, List.set_cons_zero, List.set_cons_succ]
                              refine wpAnyH_take (i := 17) (v := ?_) rfl (by kernel_rfl) (by kernel_rfl) (by kernel_rfl) (fun _ _ _ h => h) (Or.inl ⟨by rfl, ?_⟩) (by assumption) ?_
                              rotate_left
                              · (intro w hSw; (try dsimp only at hSw); go_simp; try with_reducible rfl)
                              try simp only [Act.put, List.getElem_toArray, List.getElem_cons_succ, List.getElem_cons_zero, List.setIfInBounds_toArray, List.set_cons_zero, List.set_cons_succ]
                              refine wpAnyH_take (i := 18) (v := ?_) rfl (by kernel_rfl) (by kernel_rfl) (by kernel_rfl) (fun _ _ _ h => h) (Or.inl ⟨by rfl, ?_⟩) (by assumption) ?_
                              rotate_left
                              · (intro w hSw; (try dsimp only at hSw); obtain ⟨⟨x0, x1, x22, x3⟩, -⟩ := HTM.out w hSw; go_simp; try with_reducible rfl)
                              try simp only [Act.put, List.getElem_toArray, List.getElem_cons_succ, List.getElem_cons_zero, List.setIfInBounds_toArray, List.set_cons_zero, List.set_cons_succ]
                              refine wpAnyH_take (i := 19) (v := ?_) rfl (by kernel_rfl) (by kernel_rfl) (by kernel_rfl) (fun _ _ _ h => h) (Or.inl ⟨by rfl, ?_⟩) (by assumption) ?_
                              rotate_left
                              · (intro w hSw; (try dsimp only at hSw); go_simp; try with_reducible rfl)
                              try simp only [Act.put, List.getElem_toArray, List.getElem_cons_succ, List.getElem_cons_zero, List.setIfInBounds_toArray, List.set_cons_zero, List.set_cons_succ]
                              refine wpAnyH_take (i := 20) (v := ?_) rfl (by kernel_rfl) (by kernel_rfl) (by kernel_rfl) (fun _ _ _ h => h) (Or.inl ⟨by rfl, ?_⟩) (by assumption) ?_
                              rotate_left
                              · (intro w hSw; (try dsimp only at hSw); go_simp; try with_reducible rfl)
                              try simp only [Act.put, List.getElem_toArray, List.getElem_cons_succ, List.getElem_cons_zero, List.setIfInBounds_toArray, List.set_cons_zero, List.set_cons_succ]
                              refine wpAnyH_take (i := 21) (v := ?_) rfl (by kernel_rfl) (by kernel_rfl) (by kernel_rfl) (fun _ _ _ h => h) (Or.inl ⟨by rfl, ?_⟩) (by assumption) ?_
                              rotate_left
                              · (intro w hSw; (try dsimp only at hSw); have c23 := (H8.out w hSw).2.2.2; go_simp; try with_reducible rfl)
                              try simp only [Act.put, List.getElem_toArray, List.getElem_cons_succ, List.getElem_cons_zero, List.setIfInBounds_toArray, List.set_cons_zero, List.set_cons_succ]
                              refine wpAnyH_ready (rs := [16]) (by kernel_rfl) (by simp) ?_
                              refine AllReadyH.cons rfl (fun K hK => ?_) AllReadyH.nil
                              try simp only [List.getElem_toArray, List.getElem_cons_succ, List.getElem_cons_zero]
                              go_simp
                              (go_at_call 55; (with_reducible refine ((H8.out _ HT10.out).2.2.1).mono ?_); rintro e w12 ⟨rfl, rfl⟩)
                              try go_wp2_with fail
                              refine hK.out _ _ (HT10.out) (fun hHeld4 => ?_)
                              clear hK K
                              try simp only [Act.put, List.getElem_toArray, List.getElem_cons_succ, List.getElem_cons_zero, List.setIfInBounds_toArray, List.set_cons_zero, List.set_cons_succ]
                              refine wpAnyH_take (i := 22) (v := ?_) rfl (by kernel_rfl) (by kernel_rfl) (by kernel_rfl) (fun _ _ _ h => h) (Or.inl ⟨by rfl, ?_⟩) (by assumption) ?_
                              rotate_left
                              · (intro w hSw; (try dsimp only at hSw); go_simp; try with_reducible rfl)
                              try simp only [Act.put, List.getElem_toArray, List.getElem_cons_succ, List.getElem_cons_zero, List.setIfInBounds_toArray, List.set_cons_zero, List.set_cons_succ]
                              refine wpAnyH_take (i := 23) (v := ?_) rfl (by kernel_rfl) (by kernel_rfl) (by kernel_rfl) (fun _ _ _ h => h) (Or.inl ⟨by rfl, ?_⟩) (by assumption) ?_
                              rotate_left
                              · (intro w hSw; (try dsimp only at hSw); go_simp; try with_reducible rfl)
                              try simp only [Act.put, List.getElem_toArray, List.getElem_cons_succ, List.getElem_cons_zero, List.setIfInBounds_toArray, List.set_cons_zero, List.set_cons_succ]
                              refine wpAnyH_done (by kernel_rfl) ?_ _
                              go_wp2
                              go_meet
                              exact pmid_still HP8.out hHeld4
                            -- ]]sw1
                          · -- [[sw2
                            as_aux_lemma =>
                            obtain rfl : g0 = .pointer none := by rw [eg0, hk]; rfl
                            obtain rfl : g1 = .pointer none := by rw [eg1, hk]; rfl
                            obtain rfl : g2 = .pointer (some ⟨jj.r, 0, none⟩) := by rw [eg2, hk]; rfl
                            have HAR := Lib.hid (arm_c HS6.out HJO.out.2 hk (by have := HKB.out; omega))
                            clear eg0 eg1 eg2 HEG HK3 HMR
                            go_upto_region 53 with (first
                              | (go_at_call 56; (with_reducible refine (HAR.out).mono ?_); rintro e w7 ⟨rfl, A7, ps7, hS7, hm7, d, h7⟩; have H7 := Lib.hid (h7 w7 (Frm.Turn.refl [] w7)); obtain ⟨⟨x0, x1, x22, x3⟩, ⟨j3, j4⟩, p0, p1⟩ := tm_cells hS7 (hm7 _ HMM.out) (Frm.Turn.refl [] w7); clear hS7 hm7 h7)
                              | (go_at_call 57; (with_reducible refine (H7.out).mono ?_); rintro e w8 ⟨rfl, hP8, h8⟩; have HP8 := Lib.hid hP8; have H8 := Lib.hid h8; obtain ⟨⟨x0, x1, x22, x3⟩, ⟨j3, j4⟩, p0, p1⟩ := pmid_tm hP8 HMM.out (Frm.Turn.refl [] w8); have c23 := (h8 w8 (Frm.Turn.refl [] w8)).2; clear hP8 h8))
                            cases d
                            · go_quiet (first | (go_at_call 58; exact quiet_at (H8.out _ ((Frm.Turn.refl [] w8).drewN _)).1))
                              go_wp2
                              go_meet
                              exact pmid_still HP8.out (by repeat (first | exact Frm.Turn.refl [] _ | apply Frm.Turn.drewN | apply Frm.Turn.drew))
                            · go_quiet (first | (go_at_call 58; exact quiet_at (H8.out _ ((Frm.Turn.refl [] w8).drewN _)).1))
                              go_wp2
                              go_meet
                              exact pmid_still HP8.out (by repeat (first | exact Frm.Turn.refl [] _ | apply Frm.Turn.drewN | apply Frm.Turn.drew))
                            -- ]]sw2
                        case rest =>
                          -- [[swr
                          as_aux_lemma =>
                          obtain ⟨⟨x0, x1, x22, x3⟩, -⟩ := pmid_tm hcut HMM.out (Frm.Turn.refl [] wc)
                          clear x0 x1 x22
                          rw [HRS.out] at hcut
                          obtain ⟨A6, CS6, G6, jn, y1, y2, y3, y4, y5, y6, y7, y8, e1, e2, e3, e4, e5⟩ := pmid_facts hcut
                          have HY1 := Lib.hid y1
                          have HY2 := Lib.hid y2
                          have HY3 := Lib.hid y3
                          have HY4 := Lib.hid y4
                          have HY5 := Lib.hid y5
                          have HMR6 := Lib.hid (mp_row (mb := mb) (B := A6) (CM := CS6) (GM := G6) y6 (by simp))
                          have HSM := Lib.hid (sta_same (mb := mb) (A := A6) (CS := CS6) (G := G6) y6 (by simp))
                          have HPL : Hid (∀ W', Frm.Turn [] (World.setRow wc mb CS6) W' → PL3 wB b mb [olP wB (.slice (some ⟨gl, 0, none⟩) js.length vc) js, rwP wB.heap.size (.slice (some gb) xs.length cb) xs, bkP pl oPl] zJ xs js (4 + j) (p + 1) W') := Lib.hid (fun W' hT => ⟨A6, k3 + 1, CS6, G6, l1 ++ jn :: l2, y6.still hT, by rw [← HE.out.1]; simp, by rw [y7]; exact HE.out.2.1, list_put (fun t x ht => ⟨(HE.out.2.2.1 t x ht).1, (HE.out.2.2.1 t x ht).2.more (Nat.le_succ p)⟩) ⟨by rw [HIL.out.2]; exact ⟨by rw [e1]; exact HJO.out.1.kd, by rw [e2]; exact HJO.out.1.sl, by rw [e3]; exact HJO.out.1.h, by rw [e4]; exact HJO.out.1.n, by rw [e5]; exact HJO.out.1.R⟩, y8⟩, by have := HE.out.2.2.2; omega⟩)
                          clear hcut y1 y2 y3 y4 y5 y6 y7 y8 e1 e2 e3 e4 e5 HS6 HRS
                          go_wp2_with (first
                            | (refine wpList_load_mid rfl 67 (.tmp 312) rfl jj.e 0 rfl CS6.toList (.struct fs) HY1.out HFS.out rfl (by rw [Array.length_toList, HY2.out]; exact info_refA) ?_; rw [Array.toArray_toList])
                            | (refine wpList_store_row rfl 67 (.tmp 4) (.tmp 313) rfl mb CS6 rfl rfl 67 CM3 HY4.out (by rw [HY2.out]; exact info_refA) (by rw [HY2.out, HY5.out]) HY3.out ?_)
                            | (refine wpList_load_row rfl 67 (.tmp 4) rfl mb rfl 67 CS6 (0, 0) (.struct fs) HMR6.out.1 HFS.out rfl (by rw [HMR6.out.2.1]; exact info_refA) ?_)
                            | (go_at_call 34; (with_reducible refine (HSM.out).mono ?_); rintro e w9 ⟨rfl, hT⟩; have HP9 := Lib.hid (HPL.out w9 hT); clear hT))
                          refine ⟨⟨p + 1, HLT.out, by simp, HP9.out⟩, ?_⟩
                          have := HLT.out
                          simp [intOf]; omega
                          -- ]]swr
                      -- ]]pick
                · obtain rfl : p = nP := by omega
                  have HTE := Lib.hid (HTB.out.trans hS.kin.turn (by simp))
                  -- [[endn
                  as_aux_lemma =>
                  clear hS e1 e2 e3 e4 hlt hp
                  go_upto_region 65 with (first
                    | (go_at_call 45; (with_reducible refine (gstep_nil _).mono ?_); rintro e w5 ⟨rfl, hT⟩; have HT5 := Lib.hid (HTE.out.trans hT (by simp)); clear hT)
                    | (go_at_call 50; (with_reducible refine (fstep_nil _).mono ?_); rintro e w6 ⟨rfl, hT⟩; have HT6 := Lib.hid (HT5.out.trans hT (by simp)); clear hT)
                    | (go_at_call 56; (with_reducible refine (cstep_nil _).mono ?_); rintro e w7 ⟨rfl, hT⟩; have HT7 := Lib.hid (HT6.out.trans hT (by simp)); clear hT))
                  go_wp2_with (first
                    | (go_at_call 49; (with_reducible refine (gdone_nil _).mono ?_); rintro e w8 ⟨rfl, hT⟩; have HT8 := Lib.hid (HT7.out.trans hT (by simp)); clear hT)
                    | (go_at_call 55; (with_reducible refine (fdone_nil _).mono ?_); rintro e w9 ⟨rfl, hT⟩; have HT9 := Lib.hid (HT8.out.trans hT (by simp)); clear hT)
                    | (go_at_call 58; (with_reducible refine (cdone_nil _).mono ?_); rintro e w10 ⟨rfl, hT⟩; have HT10 := Lib.hid (HT9.out.trans hT (by simp)); clear hT)
                    | (go_at_call 47; (with_reducible refine (groot_nil _).mono ?_); rintro e w11 ⟨rfl, hT⟩; have HT11 := Lib.hid (HT10.out.trans hT (by simp)); clear hT)
                    | (go_at_call 48; (with_reducible refine (gout_nil _).mono ?_); rintro e w12 ⟨rfl, hT⟩; have HT12 := Lib.hid (HT11.out.trans hT (by simp)); clear hT)
                    | (go_at_call 54; (with_reducible refine (fout_nil _).mono ?_); rintro e w13 ⟨rfl, hT⟩; have HT13 := Lib.hid (HT12.out.trans hT (by simp)); clear hT)
                    | (go_at_call 53; (with_reducible refine (fwords_nil _).mono ?_); rintro e w14 ⟨rfl, hT⟩; have HT14 := Lib.hid (HT13.out.trans hT (by simp)); clear hT))
                  go_ret
                  exact ⟨rfl, HT14.out⟩
                  -- ]]endn
end Hld
end Go.Proofs.YtlghinjggkgfmaaGreat
