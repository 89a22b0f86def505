/- The walk of law 15's set. -/
import Derived.Test.YtpajafecodkndaaGreatAttSetMem
import Derived.Deep.CutBlock
import Derived.Deep.QuietTactic
import Derived.BigQuiet
import Derived.Deep.MidRow
import Derived.Laws.StructEq
set_option linter.unusedVariables false
set_option linter.unusedSimpArgs false
namespace Go.Proofs.YtpajafecodkndaaGreat
namespace Att
open Go.RowKit Go.Maps Arn Pac Clm Cnt Sta Hld

variable {w W W' : World} {b k n r mb : Nat} {A B : Ar} {ps X rest : List Part}
def SetEnd (w : World) (H : Nat → Int) (I : Nat → Bool) (e : Ending) (W : World) : Prop :=
  ∃ wS b CS G A k pl ao c xs, e = .returned (.tuple #[.pointer (some ⟨b, 0, none⟩), .agg CS, .slice (some ⟨pl, 0, none⟩) 3 3, .slice ao xs.length c]) ∧ CS.size = 20 ∧ CS.all (·.oneCell') = true ∧ Frm.Turn [] w wS ∧ SetA A (slotF (fun i => blk xs (H i)) I 3) xs ∧ xs.length ≤ 100 ∧ k ≤ 300 ∧ Stash wS b A k [sgP A CS G, rwP wS.heap.size (.slice ao xs.length c) xs, bkP pl oPl] W
set_option maxRecDepth 100000 in
set_option maxHeartbeats 40000000 in
theorem set_any (w : World) (vW vP : Value) (H : Nat → Int) (I : Nat → Bool) (vL : Nat → Value) (M : Nat → Int) (u : Nat → Value) (l : Nat → List Int) (nW : Nat) (hW : LstC w vW u l nW) (hl : ∀ i, i < nW → ∀ x, x ∈ l i → W64 x) (hH : ∀ i, i < 6 → 0 ≤ H i ∧ H i < 256) (hs : nW ≤ 100 ∧ sumL l nW ≤ 500) :
    Calls Tryz.prog 50 #[.agg #[vW, .int .u8 (H 0), .int .u8 (H 1), .int .u8 (H 2), .int .u8 (H 3), .int .u8 (H 4), .int .u8 (H 5), .bool (I 0), .bool (I 1), .bool (I 2), vL 0, vL 1, vL 2, .int .i64 (M 0), .int .i64 (M 1), .int .i64 (M 2), vP]] w (SetEnd w H I) := by
  have HW := Lib.hid hW
  have HLX := Lib.hid hl
  have HHX := Lib.hid hH
  have HS := Lib.hid hs
  obtain ⟨⟨aW, cW, rfl⟩, -⟩ := hW
  obtain ⟨wB, HwB⟩ : ∃ x, Hid (w.alloc (.cells #[.slice aW nW cW, .int .u8 (H 0), .int .u8 (H 1), .int .u8 (H 2), .int .u8 (H 3), .int .u8 (H 4), .int .u8 (H 5), .bool (I 0), .bool (I 1), .bool (I 2), vL 0, vL 1, vL 2, .int .i64 (M 0), .int .i64 (M 1), .int .i64 (M 2), vP] 109) = x) := ⟨_, Lib.hid rfl⟩
  have HTB : Hid (Frm.Turn [] w wB) := Lib.hid (by rw [← HwB.out]; exact (Frm.Turn.refl [] w).alloc _)
  have hnB : wB.heap[w.heap.size]? = some (caseO (.slice aW nW cW) H I vL M vP) := by rw [← HwB.out]; exact World.alloc_heap_new w _
  have HCB : Hid (∀ W', Frm.Turn [] wB W' → W'.heap[w.heap.size]? = some (caseO (.slice aW nW cW) H I vL M vP)) := Lib.hid (fun W' hT => hT.keep hnB (by simp))
  have hsg := segs15 wB rzO
  unfold rzO zA20 at hsg
  have HSG := Lib.hid hsg
  obtain ⟨fs, hfs⟩ := struct_of under_refA
  have HFS := Lib.hid hfs
  clear hsg hfs hl hH hs hnB
  go_enter Tryz.func50, Tryz.ntmps50
  go_upto_region 1 with fail
  rw [HwB.out]
  go_upto_region 2 with (first
    | (go_at_call 9; (with_reducible refine (HSG.out).mono ?_); rintro e w3 ⟨b, CS, G, kh, kc, ohs, A0, k0, rfl, y1, y2, y3, y4, y5, y6, y7, y8⟩; have HZZ1 := Lib.hid y1; have HZZ2 := Lib.hid y2; have HO := Lib.hid y3; have HQ := Lib.hid y4; have HA0 := Lib.hid y5; have HS3 := Lib.hid y8; clear y1 y2 y3 y4 y5 y6 y7 y8)
    | (refine wpList_store_row rfl 37 (.tmp 7) (.tmp 27) rfl w3.heap.size CS rfl rfl 37 _ (World.alloc_heap_new w3 _) (by rw [HZZ1.out]; exact info_refA) (by rw [HZZ1.out]; rfl) HZZ2.out ?_))
  have hL1 := mstart15 HS3.out (CS := CS) (G := G) (by simp) (z := zA20)
  unfold zA20 at hL1
  generalize World.setRow _ w3.heap.size CS = w4 at hL1 ⊢
  generalize w3.heap.size = mb at hL1 ⊢
  have HS4 := Lib.hid hL1
  have c0 : w4.cell? ⟨w.heap.size, 0, none⟩ = some (.slice aW nW cW) := case_cell (HCB.out w4 hL1.kin.turn) 0
  clear HSG HS3 HZZ1 HZZ2 hL1
  have hn0 : (nW : Int) ≤ 100 := by have := HS.out.1; omega
  obtain ⟨i0, hi, hz0, hz1, hz2⟩ := info_parts info_u64
  have e10 : (10 : Int) = 10 := rfl
  obtain ⟨rb, hrb⟩ : ∃ x, x = w.heap.size + 1 := ⟨_, rfl⟩
  have HRB : Hid (rb = wB.heap.size) := Lib.hid (by rw [hrb, ← HwB.out]; exact (World.size_alloc _ _).symm)
  rw [← hrb]
  clear hrb
  have HS4' : Hid (Stash wB b A0 k0 (mP mb A0 CS G :: rwP wB.heap.size (.slice none 0 0) [] :: [bkP kh ohs, sgP A0 CS G, bkP rb rzO]) w4) := Lib.hid (by rw [HRB.out]; exact HS4.out)
  clear HS4
  go_wp2_with fail
  go_loopw [32, 9] (fun i s9 wr => ∃ j : Nat, j ≤ nW ∧ i = .int .i64 j ∧ PS1 wB b mb [bkP kh ohs, sgP A0 CS G, bkP rb rzO] j s9 wr) (fun i _ _ => nW - (intOf i).toNat)
  case atStart => exact ⟨0, Nat.zero_le _, rfl, A0, k0, CS, G, [], HS4'.out, by simp, setA_start HA0.out, by have := HQ.out; omega⟩
  case round =>
    obtain ⟨j, hj, rfl, A, k, CM, GM, xs, hS, hx1, hA, hk⟩ := hrel
    clear HS4' c0
    by_cases hlt : j < nW
    · skip
      -- [[loop1
      as_aux_lemma =>
      obtain ⟨-, hrw, hwd⟩ := HW.out
      rcases hrw with e0 | ⟨ga, gc, e0, hcell⟩
      · omega
      cases e0
      have hsum : (l j).length ≤ 500 := by
        have h1 : sumL l (j + 1) ≤ sumL l nW := sumL_le l hlt
        have h2 : sumL l (j + 1) = sumL l j + (10 + (l j).length) := rfl
        have := HS.out.2
        omega
      have hcj := (HTB.out.trans hS.kin.turn (by simp)).cell (hcell j hlt) (by simp)
      have hwj : ∀ W', Frm.Turn [] wB W' → WordsAt W' (u j) (l j) := fun W' hT => (hwd j hlt).turn (HTB.out.trans hT (by simp)) (by simp)
      have HWJ := Lib.hid hwj
      obtain ⟨vs, vc, hv6⟩ : ∃ ao c, u9 = .slice ao xs.length c := Frm.row_form (hS.on (rwP wB.heap.size u9 xs) (by simp))
      subst hv6
      have hj1 : (j : Int) < (nW : Int) := by omega
      have hj0 : (0 : Int) ≤ (j : Int) := by omega
      have hb0 : A.births ≤ 1000 := by have := hS.kin.born; have := HS.out.1; omega
      have h64 : W64 (A.lay (l j)).2.1 := lay64 (sta_lim hS (by have := HS.out.1; omega)).1.ok (by omega) (l j)
      have HLB := Lib.hid (sta_lim hS (by have := HS.out.1; omega))
      have hlow : l j ≠ [] → ∀ q, (u j).ownBlock = some q → q < wB.heap.size := fun hne q hq => by have := words_low (hwd j hlt) hne hq; have := HTB.out.size; omega
      have HLY := Lib.hid (lay_o hS (by have := HS.out.1; omega) (hwj wr hS.kin.turn) hlow (HLX.out j hlt))
      have HNA := Lib.hid (hA.lay (ws := l j) (by omega) (HLX.out j hlt))
      have HX := Lib.hid (And.intro hx1 hk)
      have HLT := Lib.hid hlt
      have hml := fun W' (h : Stash wB b (A.lay (l j)).1 (k + 1) (mP mb A CM GM :: rwP wB.heap.size (.slice vs xs.length vc) xs :: [bkP kh ohs, sgP A0 CS G, bkP rb rzO]) W') => mlay_h (mb := mb) (B := A) (CM := CM) (GM := GM) h (by simp) HLB.out (HWJ.out W' h.kin.turn) (by omega)
      obtain ⟨vu, vj, ej⟩ : ∃ a c, u j = .slice a (l j).length c := by
        rcases hwd j hlt with ⟨e, e'⟩ | ⟨a, c, e, _⟩
        · exact ⟨none, 0, by rw [e, e']; rfl⟩
        · exact ⟨_, _, e⟩
      rw [ej] at hcj HLY hml
      have HML := Lib.hid hml
      obtain ⟨A', hA'⟩ : ∃ x, x = (A.lay (l j)).1 := ⟨_, rfl⟩
      rw [← hA'] at HLY HML HNA
      generalize (A.lay (l j)).2.1 = x at HLY HML HNA h64
      generalize (A.lay (l j)).2.2 = y at HLY HML
      clear hS hcell hwd hwj hsum hj hlt hx1 hk hb0 hlow hml ej hA' hA
      go_upto_region 8 with (first
        | (go_at_call 10; (with_reducible refine (HLY.out).mono ?_); rintro e w5 ⟨rfl, hS5⟩; have HS5 := Lib.hid hS5; have HMR := Lib.hid (mp_row (mb := mb) (B := A) (CM := CM) (GM := GM) hS5 (by simp)); have HMC := Lib.hid (HML.out w5 hS5); clear hS5)
        | (refine wpList_load_row rfl 37 (.tmp 7) rfl mb rfl 37 CM (0, 0) (.struct fs) HMR.out.1 HFS.out rfl (by rw [HMR.out.2.1]; exact info_refA) ?_)
        | (go_at_call 11; (with_reducible refine (HMC.out).mono ?_); rintro e w6 ⟨CM6, GM6, rfl, hN⟩; have HN := Lib.hid hN; have HMR6 := Lib.hid (hN.2.2.2.1.keep HMR.out.1 (by simp)); clear hN)
        | (refine wpList_store_row rfl 37 (.tmp 7) (.tmp 46) rfl mb CM6 rfl rfl 37 CM HMR6.out (by rw [HN.out.1]; exact info_refA) (by rw [HN.out.1, HMR.out.2.1]) HN.out.2.1 ?_))
      have hS7 := mput HS5.out HN.out
      generalize World.setRow _ mb CM6 = w7 at hS7 ⊢
      have HS7 := Lib.hid hS7
      by_cases hx0 : x = 0
      · rw [if_pos hx0] at HNA
        clear HLY HML HMC HS5 HN HMR HMR6 HLB HWJ hcj h64
        subst hx0
        go_wp2_with fail
        refine ⟨⟨j + 1, HLT.out, by simp, A', _, CM6, GM6, xs, HS7.out.still (by repeat (first | exact Frm.Turn.refl [] _ | apply Frm.Turn.drewN | apply Frm.Turn.drew)), by have := HX.out.1; omega, HNA.out, by have := HX.out.2; omega⟩, ?_⟩
        have := HLT.out
        simp [intOf]; omega
      · rw [if_neg hx0] at HNA
        have HRW := Lib.hid (Frm.owns_turn (hS7.on (rwP wB.heap.size (.slice vs xs.length vc) xs) (by simp)) ((Frm.Turn.refl [] w7).alloc (.cells #[.int .u64 x] 31)) (by simp))
        have HB8 : Hid (wB.heap.size ≤ (w7.alloc (.cells #[.int .u64 x] 31)).heap.size) := Lib.hid (by have := hS7.kin.turn.size; simp; omega)
        have HMO := Lib.hid (fun (W3 : World) (v' : Value) => row_more (v' := v') (W3 := W3) (x := x) hS7 ((Frm.Turn.refl [] w7).alloc (.cells #[.int .u64 x] 31)))
        clear HLY HML HMC HS5 HN HMR HMR6 HLB HWJ hS7 hcj
        have hxl : xs.length ≤ 1000 := by have := HX.out.1; have := HLT.out; have := HS.out.1; omega
        go_wp2_with (first
          | (at_builtin; go_must (refine wpList_append_own_at _ rfl (.tmp 51) (.tmp 53) 25 rfl wB.heap.size 31 i0 (.int .u64 0) 1 8 under_u64s hi hz0 hz1 hz2 rfl (by decide) (.slice vs xs.length vc) xs.length (u64s xs) rfl HRW.out ⟨w7.heap.size, 0, none⟩ 1 1 [.int .u64 x] rfl rfl (Dr.one_new _ _ _) (by simp [Value.oneCell']) (by unfold maxLen; omega) (by omega) HB8.out ?_); intro v9 w9 hown9 hg9 _ hl9; obtain ⟨va, vc9, rfl⟩ := Frm.row_form hown9; have HS9 := Lib.hid (HMO.out w9 (.slice va (xs.length + 1) vc9) hg9 hl9 hown9); clear hown9 hg9 hl9))
        refine ⟨⟨j + 1, HLT.out, by simp, A', _, CM6, GM6, _, HS9.out, by rw [List.length_append]; have := HX.out.1; simp; omega, HNA.out, by have := HX.out.2; omega⟩, ?_⟩
        have := HLT.out
        simp [intOf]; omega
      -- ]]loop1
    · skip
      -- [[rest
      as_aux_lemma =>
      obtain rfl : j = nW := by omega
      obtain ⟨va, vc, hv6⟩ : ∃ ao c, u9 = .slice ao xs.length c := Frm.row_form (hS.on (rwP wB.heap.size u9 xs) (by simp))
      subst hv6
      have HSA := Lib.hid hS
      have HAA := Lib.hid hA
      have HX := Lib.hid (And.intro hx1 hk)
      have HPL := Lib.hid (places_any (kc := kc) (HO.out _ (hS.on (bkP kh ohs) (by simp))))
      have c0 : wr.cell? ⟨w.heap.size, 0, none⟩ = some (.slice aW j cW) := case_cell (HCB.out wr hS.kin.turn) 0
      clear hS hA hx1 hk HW HLX hj hlt HO HQ HA0
      go_upto_region 12 with (go_at_call 97; (with_reducible refine (HPL.out).mono ?_); rintro e w5 ⟨pl, rfl, hpl, hT5, hge⟩; have HS5 := Lib.hid (perm_set (add_bk HSA.out hT5 hpl hge)); clear hpl hT5 hge)
      clear HPL HSA c0
      have hx100 : xs.length ≤ 100 := by have := HX.out.1; have := HS.out.1; omega
      have HXL := Lib.hid hx100
      have HP5 : Hid (PS2 wB b mb [] [bkP rb rzO, rwP wB.heap.size (.slice va xs.length vc) xs, bkP pl oPl] xs (slotF (fun i => blk xs (H i)) I 0) (4 * 0) w5) := Lib.hid ⟨A, k, CM, GM, HS5.out, HAA.out, by have := HX.out.2; have := HS.out.1; omega⟩
      clear HS5 HAA hx100
      obtain ⟨H', hH'⟩ : ∃ x : Nat → Int, x = fun i => blk xs (H i) := ⟨_, rfl⟩
      have HHE := Lib.hid hH'
      rw [← hH'] at HP5
      have HRM : Hid (bkP pl oPl ∈ [bkP rb rzO, rwP wB.heap.size (.slice va xs.length vc) xs, bkP pl oPl] ∧ rwP wB.heap.size (.slice va xs.length vc) xs ∈ [bkP rb rzO, rwP wB.heap.size (.slice va xs.length vc) xs, bkP pl oPl]) := Lib.hid ⟨by simp, by simp⟩
      obtain ⟨R, hR⟩ : ∃ x, x = [bkP rb rzO, rwP wB.heap.size (.slice va xs.length vc) xs, bkP pl oPl] := ⟨_, rfl⟩
      have HRE := Lib.hid hR
      rw [← hR] at HP5 HRM
      clear hH' hR
      go_wp2_with fail
      go_loopw [60] (fun i wz => ∃ t : Nat, t ≤ 3 ∧ i = .int .i64 t ∧ PS2 wB b mb [] R xs (slotF H' I t) (4 * t) wz) (fun i _ => 3 - (intOf i).toNat)
      case atStart => exact ⟨0, Nat.zero_le _, rfl, HP5.out⟩
      case round =>
        obtain ⟨t, ht, rfl, hP⟩ := hrel
        clear HP5
        by_cases hlt : t < 3
        · skip
          -- [[slot
          as_aux_lemma =>
          obtain ⟨f1, f2, f3, f4, f5⟩ := sg_fin3 ⟨t, hlt⟩
          dsimp only at f1 f2 f3 f4 f5
          have HF := Lib.hid (And.intro f1 (And.intro f3 f5))
          have HPZ := Lib.hid hP
          obtain ⟨p0, p1⟩ : wr.cell? ⟨pl, t * 2, none⟩ = some (.int .u64 (hS (sgN t))) ∧ wr.cell? ⟨pl, t * 2 + 1, none⟩ = some (.int .i64 (t : Int)) := by
            obtain ⟨A1, k1, CM1, GM1, S1, -⟩ := hP
            rw [f2]
            exact pl_cells S1 (by simp; exact .inr HRM.out.1) hlt
          have ht3 : (t : Int) < 3 := by omega
          have ht0 : (0 : Int) ≤ (t : Int) := by omega
          have HLT := Lib.hid hlt
          have HB1 : Hid (∀ o, Frm.Turn [] wr (wr.alloc o)) := Lib.hid (fun o => (Frm.Turn.refl [] wr).alloc o)
          clear f1 f2 f3 f4 f5 hP ht hlt
          go_upto_region 15 with fail
          have hP6 : PS2 wB b mb [bkP wr.heap.size (plO t)] R xs (slotF H' I t) (4 * t) (wr.alloc (plO t)) := HPZ.out.add (HB1.out _) (World.alloc_heap_new _ _) (Nat.le_refl _)
          unfold plO at hP6
          generalize World.alloc wr _ = w6 at hP6 ⊢
          generalize wr.heap.size = pb at hP6 ⊢
          have HP6 : Hid (PS2 wB b mb [bkP pb (plO t)] R xs (holdF H' t (slotF H' I t) 0) (4 * t + 0) w6) := Lib.hid hP6
          clear hP6 HPZ p0 p1 HB1
          go_wp2_with fail
          go_loopw [65] (fun i wz => ∃ y : Nat, y ≤ 2 ∧ i = .int .i64 y ∧ PS2 wB b mb [bkP pb (plO t)] R xs (holdF H' t (slotF H' I t) y) (4 * t + y) wz) (fun i _ => 2 - (intOf i).toNat)
          case atStart => exact ⟨0, Nat.zero_le _, rfl, HP6.out⟩
          case round =>
            obtain ⟨y, hy, rfl, hP⟩ := hrel
            clear HP6
            by_cases hlt : y < 2
            · skip
              -- [[hold
              as_aux_lemma =>
              have hy2 : (y : Int) < 2 := by omega
              have hy0 : (0 : Int) ≤ (y : Int) := by omega
              have HLY := Lib.hid hlt
              obtain ⟨p0, p1⟩ : wr.cell? ⟨pb, 0, none⟩ = some (.int .u64 (hS (sgN t))) ∧ wr.cell? ⟨pb, 1, none⟩ = some (.int .i64 (t : Int)) := by
                obtain ⟨A1, k1, CM1, GM1, S1, -⟩ := hP
                exact plO_cells (S1.on (bkP pb (plO t)) (by simp))
              obtain ⟨J, hJ⟩ : ∃ x : Nat, x = 5 * ofN t + (3 + y) := ⟨_, rfl⟩
              have HJ := Lib.hid hJ
              have HJL : Hid (J < 7 * 2 ^ sgN t) := Lib.hid (by have := HF.out.2.1; omega)
              have HWD := Lib.hid (fun W => by
                have h := RWord_f (hS (sgN t)) t (3 + (y : Int)) W (by have := HLT.out; omega) (by omega) (by omega)
                rwa [show (5 * (ofN t : Int) + (3 + (y : Int))) = (J : Int) by omega] at h)
              have HPZ := Lib.hid hP
              clear hP hy hlt hJ
              go_upto_region 19 with (go_at_call 52; (with_reducible refine (HWD.out _).mono ?_); rintro e w7 ⟨rfl, hT7⟩; have HT7 := Lib.hid hT7; clear hT7)
              have hP8 : PS2 wB b mb [bkP w7.heap.size (adO (sgN t) J), bkP pb (plO t)] R xs (holdF H' t (slotF H' I t) y) (4 * t + y) (w7.alloc (adO (sgN t) J)) := (HPZ.out.still HT7.out).add ((Frm.Turn.refl [] w7).alloc _) (World.alloc_heap_new _ _) (Nat.le_refl _)
              unfold adO at hP8
              generalize World.alloc w7 _ = w8 at hP8 ⊢
              generalize w7.heap.size = xb at hP8 ⊢
              have HP8 : Hid (PS2 wB b mb [bkP xb (adO (sgN t) J), bkP pb (plO t)] R xs (holdF H' t (slotF H' I t) y) (4 * t + y) w8) := Lib.hid hP8
              clear hP8 HPZ HT7 HWD p0 p1
              obtain ⟨ix, hix⟩ : ∃ x : Nat, x = 2 * t + y := ⟨_, rfl⟩
              have HIX := Lib.hid hix
              clear hix
              have hH9 : ∀ W', Frm.Turn [] wB W' → W'.cell? ⟨w.heap.size, 1 + ix, none⟩ = some (.int .u8 (H ix)) := fun W' hT => case_H (HCB.out W' hT) (by have := HLT.out; have := HLY.out; have := HIX.out; omega)
              have HPP : Hid (∀ W', W'.heap[xb]? = some (adO (sgN t) J) → Frm.Turn [] wB W' → (W'.cell? ⟨xb, 0, none⟩ = some (.int .u64 (hS (sgN t))) ∧ W'.cell? ⟨xb, 1, none⟩ = some (.int .i64 (J : Int))) ∧ W'.cell? ⟨w.heap.size, 1 + ix, none⟩ = some (.int .u8 (H ix))) := Lib.hid (fun W' h1 h2 => ⟨ad_cells h1, hH9 W' h2⟩)
              have HPD := Lib.hid (HP8.out.still ((Frm.Turn.refl [] w8).drew))
              have HPQ : Hid ((w8.drew.cell? ⟨xb, 0, none⟩ = some (.int .u64 (hS (sgN t))) ∧ w8.drew.cell? ⟨xb, 1, none⟩ = some (.int .i64 (J : Int))) ∧ w8.drew.cell? ⟨w.heap.size, 1 + ix, none⟩ = some (.int .u8 (H ix))) := Lib.hid (by
                obtain ⟨A1, k1, CM1, GM1, S1, -⟩ := HPD.out
                exact HPP.out _ (S1.on (bkP xb (adO (sgN t) J)) (by simp)) S1.kin.turn)
              have hHr := HHX.out ix (by have := HLT.out; have := HLY.out; have := HIX.out; omega)
              have HBK : Hid (∀ W', PS2 wB b mb [bkP xb (adO (sgN t) J), bkP pb (plO t)] R xs (holdF H' t (slotF H' I t) y) (4 * t + y) W' → Calls Tryz.prog 51 #[.slice va xs.length vc, .int .u8 (H ix)] W' fun e w' => e = .returned (.int .u64 (blk xs (H ix))) ∧ W' = w') := Lib.hid (fun W' h => by
                obtain ⟨A1, k1, CM1, GM1, S1, -⟩ := h
                exact block_any (words_row (S1.on (rwP wB.heap.size (.slice va xs.length vc) xs) (by simp; exact .inr (.inr (.inr HRM.out.2))))) (by have := HXL.out; omega) hHr.1 hHr.2)
              have hB1 := HBK.out _ HPD.out
              have h64 : W64 (blk xs (H ix)) := by
                obtain ⟨A1, k1, CM1, GM1, S1, hA1, -⟩ := HPD.out
                exact blk_64 hA1.w64 _
              have HFE : Hid (upd2 (holdF H' t (slotF H' I t) y) (sgN t) J (blk xs (H ix)) = holdF H' t (slotF H' I t) (y + 1)) := Lib.hid (by rw [HJ.out, HHE.out, HIX.out]; rfl)
              have hWR := ps_write HPD.out HF.out.1 HJL.out h64 (by have := HLT.out; have := HLY.out; have := HIX.out; omega)
              rw [HFE.out] at hWR
              have HB1 := Lib.hid hB1
              have HWR := Lib.hid hWR
              have hw1 : IntKind.i64.wrap (2 * (t : Int)) = 2 * (t : Int) := by have := HLT.out; rw [IntKind.wrap_i64]; omega
              have hw2 : IntKind.i64.wrap (2 * (t : Int) + (y : Int)) = (ix : Int) := by have := HLT.out; have := HLY.out; have := HIX.out; rw [IntKind.wrap_i64]; omega
              have hix6 : (ix : Int) < 6 := by have := HLT.out; have := HLY.out; have := HIX.out; omega
              have hix0 : (0 : Int) ≤ (ix : Int) := by omega
              clear hH9 hHr hB1 h64 hWR
              refine wp_region_held_drew (S := fun W' => (W'.cell? ⟨xb, 0, none⟩ = some (.int .u64 (hS (sgN t))) ∧ W'.cell? ⟨xb, 1, none⟩ = some (.int .i64 (J : Int))) ∧ W'.cell? ⟨w.heap.size, 1 + ix, none⟩ = some (.int .u8 (H ix))) (by kernel_rfl) ?_ (fun hHeld => ?_)
              · exact HPQ.out
              refine wpAnyH_take (i := 0) (v := ?_) rfl (by kernel_rfl) (by kernel_rfl) (by kernel_rfl) (fun _ _ _ h => h) (Or.inl ⟨by rfl, ?_⟩) (by assumption) ?_
              rotate_left
              · (intro w hSw; (try dsimp only at hSw); go_simp; try with_reducible rfl)
              try simp only [Act.put, List.getElem_toArray, List.getElem_cons_succ, List.getElem_cons_zero, List.setIfInBounds_toArray, List.set_cons_zero, List.set_cons_succ]
              refine wpAnyH_take (i := 1) (v := ?_) rfl (by kernel_rfl) (by kernel_rfl) (by kernel_rfl) (fun _ _ _ h => h) (Or.inl ⟨by rfl, ?_⟩) (by assumption) ?_
              rotate_left
              · (intro w hSw; (try dsimp only at hSw); obtain ⟨⟨x0, x1⟩, -⟩ := hSw; go_simp; try with_reducible rfl)
              try simp only [Act.put, List.getElem_toArray, List.getElem_cons_succ, List.getElem_cons_zero, List.setIfInBounds_toArray, List.set_cons_zero, List.set_cons_succ]
              refine wpAnyH_take (i := 2) (v := ?_) rfl (by kernel_rfl) (by kernel_rfl) (by kernel_rfl) (fun _ _ _ h => h) (Or.inl ⟨by rfl, ?_⟩) (by assumption) ?_
              rotate_left
              · (intro w hSw; (try dsimp only at hSw); go_simp; try with_reducible rfl)
              try simp only [Act.put, List.getElem_toArray, List.getElem_cons_succ, List.getElem_cons_zero, List.setIfInBounds_toArray, List.set_cons_zero, List.set_cons_succ]
              refine wpAnyH_take (i := 3) (v := ?_) rfl (by kernel_rfl) (by kernel_rfl) (by kernel_rfl) (fun _ _ _ h => h) (Or.inl ⟨by rfl, ?_⟩) (by assumption) ?_
              rotate_left
              · (intro w hSw; (try dsimp only at hSw); go_simp; try with_reducible rfl)
              try simp only [Act.put, List.getElem_toArray, List.getElem_cons_succ, List.getElem_cons_zero, List.setIfInBounds_toArray, List.set_cons_zero, List.set_cons_succ]
              refine wpAnyH_take (i := 4) (v := ?_) rfl (by kernel_rfl) (by kernel_rfl) (by kernel_rfl) (fun _ _ _ h => h) (Or.inl ⟨by rfl, ?_⟩) (by assumption) ?_
              rotate_left
              · (intro w hSw; (try dsimp only at hSw); go_simp; try with_reducible rfl)
              try simp only [Act.put, List.getElem_toArray, List.getElem_cons_succ, List.getElem_cons_zero, List.setIfInBounds_toArray, List.set_cons_zero, List.set_cons_succ]
              refine wpAnyH_take (i := 5) (v := ?_) rfl (by kernel_rfl) (by kernel_rfl) (by kernel_rfl) (fun _ _ _ h => h) (Or.inl ⟨by rfl, ?_⟩) (by assumption) ?_
              rotate_left
              · (intro w hSw; (try dsimp only at hSw); go_simp; try with_reducible rfl)
              try simp only [Act.put, List.getElem_toArray, List.getElem_cons_succ, List.getElem_cons_zero, List.setIfInBounds_toArray, List.set_cons_zero, List.set_cons_succ]
              refine wpAnyH_take (i := 6) (v := ?_) rfl (by kernel_rfl) (by kernel_rfl) (by kernel_rfl) (fun _ _ _ h => h) (Or.inl ⟨by rfl, ?_⟩) (by assumption) ?_
              rotate_left
              · (intro w hSw; (try dsimp only at hSw); go_simp; try with_reducible rfl)
              try simp only [Act.put, List.getElem_toArray, List.getElem_cons_succ, List.getElem_cons_zero, List.setIfInBounds_toArray, List.set_cons_zero, List.set_cons_succ]
              refine wpAnyH_take (i := 7) (v := ?_) rfl (by kernel_rfl) (by kernel_rfl) (by kernel_rfl) (fun _ _ _ h => h) (Or.inl ⟨by rfl, ?_⟩) (by assumption) ?_
              rotate_left
              · (intro w hSw; (try dsimp only at hSw); go_simp; try with_reducible rfl)
              try simp only [Act.put, List.getElem_toArray, List.getElem_cons_succ, List.getElem_cons_zero, List.setIfInBounds_toArray, List.set_cons_zero, List.set_cons_succ]
              refine wpAnyH_take (i := 8) (v := ?_) rfl (by kernel_rfl) (by kernel_rfl) (by kernel_rfl) (fun _ _ _ h => h) (Or.inl ⟨by rfl, ?_⟩) (by assumption) ?_
              rotate_left
              · (intro w hSw; (try dsimp only at hSw); go_simp; try with_reducible rfl)
              try simp only [Act.put, List.getElem_toArray, List.getElem_cons_succ, List.getElem_cons_zero, List.setIfInBounds_toArray, List.set_cons_zero, List.set_cons_succ]
              refine wpAnyH_take (i := 9) (v := ?_) rfl (by kernel_rfl) (by kernel_rfl) (by kernel_rfl) (fun _ _ _ h => h) (Or.inl ⟨by rfl, ?_⟩) (by assumption) ?_
              rotate_left
              · (intro w hSw; (try dsimp only at hSw); obtain ⟨-, h9⟩ := hSw; go_simp; try with_reducible rfl)
              try simp only [Act.put, List.getElem_toArray, List.getElem_cons_succ, List.getElem_cons_zero, List.setIfInBounds_toArray, List.set_cons_zero, List.set_cons_succ]
              refine wpAnyH_ready (rs := [10]) (by kernel_rfl) (by simp) ?_
              refine AllReadyH.cons rfl (fun K hK => ?_) AllReadyH.nil
              try simp only [List.getElem_toArray, List.getElem_cons_succ, List.getElem_cons_zero]
              go_simp
              (go_at_call 51; (with_reducible refine (HB1.out).mono ?_); rintro e w9 ⟨rfl, rfl⟩)
              try go_wp2_with fail
              refine hK.out _ _ (HPQ.out) (fun hHeld1 => ?_)
              clear hK K
              try simp only [Act.put, List.getElem_toArray, List.getElem_cons_succ, List.getElem_cons_zero, List.setIfInBounds_toArray, List.set_cons_zero, List.set_cons_succ]
              refine wpAnyH_ready (rs := [11]) (by kernel_rfl) (by simp) ?_
              refine AllReadyH.cons rfl (fun K hK => ?_) AllReadyH.nil
              try simp only [List.getElem_toArray, List.getElem_cons_succ, List.getElem_cons_zero]
              go_simp
              (go_at_call 15; (with_reducible refine (HWR.out).mono ?_); rintro e w9 ⟨z9, rfl, A9, k9, CM9, GM9, hS9, hA9, hk9, hL9⟩; have HS9 := Lib.hid hS9; have HA9 := Lib.hid hA9; have HK9 := Lib.hid hk9; have HL9 := Lib.hid hL9; clear hS9 hA9 hk9 hL9)
              try go_wp2_with fail
              refine hK.out _ _ (HPP.out _ (HS9.out.on (bkP xb (adO (sgN t) J)) (by simp)) HS9.out.kin.turn) (fun hHeld2 => ?_)
              clear hK K
              try simp only [Act.put, List.getElem_toArray, List.getElem_cons_succ, List.getElem_cons_zero, List.setIfInBounds_toArray, List.set_cons_zero, List.set_cons_succ]
              refine wpAnyH_done (by kernel_rfl) ?_ _
              go_upto_region 20 with fail
              have HSD := Lib.hid (HS9.out.still ((Frm.Turn.refl [] w9).drew))
              have HMR := Lib.hid (ps_row HSD.out)
              have HPQ := Lib.hid (HPP.out _ (HSD.out.on (bkP xb (adO (sgN t) J)) (by simp)) HSD.out.kin.turn)
              have hB2 : Calls Tryz.prog 51 #[.slice va xs.length vc, .int .u8 (H ix)] w9.drew fun e w' => e = .returned (.int .u64 (blk xs (H ix))) ∧ w9.drew = w' := block_any (words_row (HSD.out.on (rwP wB.heap.size (.slice va xs.length vc) xs) (by simp; exact .inr (.inr (.inr HRM.out.2))))) (by have := HXL.out; omega) (HHX.out ix (by have := HLT.out; have := HLY.out; have := HIX.out; omega)).1 (HHX.out ix (by have := HLT.out; have := HLY.out; have := HIX.out; omega)).2
              have HB2 := Lib.hid hB2
              have hmw := mwrite15 (mb := mb) (B := A9) (CM := CM9) (GM := GM9) (blk := hS (sgN t)) (i := (J : Int)) (x := blk xs (H ix)) HSD.out (by simp) HL9.out
              have HMW := Lib.hid hmw
              have HEND : Hid (∀ W1 CM' GM' W', Frm.Turn [] w9.drew W1 → MNext W1 CM' (A9.write (hS (sgN t)) J (blk xs (H ix))).1 GM9 GM' W' → PS2 wB b mb [bkP pb (plO t)] R xs (holdF H' t (slotF H' I t) (y + 1)) (4 * t + (y + 1)) (W'.setRow mb CM')) := Lib.hid (fun W1 CM' GM' W' hT hN => (ps_end HSD.out HA9.out HK9.out hT hN).drop)
              clear hB2 hmw HBK HFE HA9 HK9 HS9 HL9
              generalize (A9.write (hS (sgN t)) J (blk xs (H ix))).1 = A10 at HMW HEND HSD
              generalize (A9.write (hS (sgN t)) J (blk xs (H ix))).2 = z10 at HMW
              generalize blk xs (H ix) = bv at HMW HB2
              skip
              -- [[reg20
              as_aux_lemma =>
              refine wp_region_held_drew (S := fun W' => (W'.cell? ⟨xb, 0, none⟩ = some (.int .u64 (hS (sgN t))) ∧ W'.cell? ⟨xb, 1, none⟩ = some (.int .i64 (J : Int))) ∧ W'.cell? ⟨w.heap.size, 1 + ix, none⟩ = some (.int .u8 (H ix))) (by kernel_rfl) ?_ (fun hHeld => ?_)
              · exact HPQ.out
              refine wpAnyH_take (i := 1) (v := ?_) rfl (by kernel_rfl) (by kernel_rfl) (by kernel_rfl) (fun _ _ _ h => h) (Or.inl ⟨by rfl, ?_⟩) (by assumption) ?_
              rotate_left
              · (intro w hSw; (try dsimp only at hSw); obtain ⟨⟨x0, x1⟩, -⟩ := hSw; go_simp; try with_reducible rfl)
              try simp only [Act.put, List.getElem_toArray, List.getElem_cons_succ, List.getElem_cons_zero, List.setIfInBounds_toArray, List.set_cons_zero, List.set_cons_succ]
              refine wpAnyH_take (i := 2) (v := ?_) rfl (by kernel_rfl) (by kernel_rfl) (by kernel_rfl) (fun _ _ _ h => h) (Or.inl ⟨by rfl, ?_⟩) (by assumption) ?_
              rotate_left
              · (intro w hSw; (try dsimp only at hSw); go_simp; try with_reducible rfl)
              try simp only [Act.put, List.getElem_toArray, List.getElem_cons_succ, List.getElem_cons_zero, List.setIfInBounds_toArray, List.set_cons_zero, List.set_cons_succ]
              refine wpAnyH_take (i := 3) (v := ?_) rfl (by kernel_rfl) (by kernel_rfl) (by kernel_rfl) (fun _ _ _ h => h) (Or.inl ⟨by rfl, ?_⟩) (by assumption) ?_
              rotate_left
              · (intro w hSw; (try dsimp only at hSw); go_simp; try with_reducible rfl)
              try simp only [Act.put, List.getElem_toArray, List.getElem_cons_succ, List.getElem_cons_zero, List.setIfInBounds_toArray, List.set_cons_zero, List.set_cons_succ]
              refine wpAnyH_take (i := 4) (v := ?_) rfl (by kernel_rfl) (by kernel_rfl) (by kernel_rfl) (fun _ _ _ h => h) (Or.inl ⟨by rfl, ?_⟩) (by assumption) ?_
              rotate_left
              · (intro w hSw; (try dsimp only at hSw); go_simp; try with_reducible rfl)
              try simp only [Act.put, List.getElem_toArray, List.getElem_cons_succ, List.getElem_cons_zero, List.setIfInBounds_toArray, List.set_cons_zero, List.set_cons_succ]
              refine wpAnyH_take (i := 5) (v := ?_) rfl (by kernel_rfl) (by kernel_rfl) (by kernel_rfl) (fun _ _ _ h => h) (Or.inl ⟨by rfl, ?_⟩) (by assumption) ?_
              rotate_left
              · (intro w hSw; (try dsimp only at hSw); go_simp; try with_reducible rfl)
              try simp only [Act.put, List.getElem_toArray, List.getElem_cons_succ, List.getElem_cons_zero, List.setIfInBounds_toArray, List.set_cons_zero, List.set_cons_succ]
              refine wpAnyH_take (i := 6) (v := ?_) rfl (by kernel_rfl) (by kernel_rfl) (by kernel_rfl) (fun _ _ _ h => h) (Or.inl ⟨by rfl, ?_⟩) (by assumption) ?_
              rotate_left
              · (intro w hSw; (try dsimp only at hSw); go_simp; try with_reducible rfl)
              try simp only [Act.put, List.getElem_toArray, List.getElem_cons_succ, List.getElem_cons_zero, List.setIfInBounds_toArray, List.set_cons_zero, List.set_cons_succ]
              refine wpAnyH_take (i := 7) (v := ?_) rfl (by kernel_rfl) (by kernel_rfl) (by kernel_rfl) (fun _ _ _ h => h) (Or.inl ⟨by rfl, ?_⟩) (by assumption) ?_
              rotate_left
              · (intro w hSw; (try dsimp only at hSw); go_simp; try with_reducible rfl)
              try simp only [Act.put, List.getElem_toArray, List.getElem_cons_succ, List.getElem_cons_zero, List.setIfInBounds_toArray, List.set_cons_zero, List.set_cons_succ]
              refine wpAnyH_take (i := 8) (v := ?_) rfl (by kernel_rfl) (by kernel_rfl) (by kernel_rfl) (fun _ _ _ h => h) (Or.inl ⟨by rfl, ?_⟩) (by assumption) ?_
              rotate_left
              · (intro w hSw; (try dsimp only at hSw); go_simp; try with_reducible rfl)
              try simp only [Act.put, List.getElem_toArray, List.getElem_cons_succ, List.getElem_cons_zero, List.setIfInBounds_toArray, List.set_cons_zero, List.set_cons_succ]
              refine wpAnyH_take (i := 9) (v := ?_) rfl (by kernel_rfl) (by kernel_rfl) (by kernel_rfl) (fun _ _ _ h => h) (Or.inl ⟨by rfl, ?_⟩) (by assumption) ?_
              rotate_left
              · (intro w hSw; (try dsimp only at hSw); obtain ⟨-, h9⟩ := hSw; go_simp; try with_reducible rfl)
              try simp only [Act.put, List.getElem_toArray, List.getElem_cons_succ, List.getElem_cons_zero, List.setIfInBounds_toArray, List.set_cons_zero, List.set_cons_succ]
              refine wpAnyH_ready (rs := [0, 10]) (by kernel_rfl) (by simp) ?_
              refine (AllReadyH.cons rfl (fun K hK => ?_) (AllReadyH.cons rfl (fun K hK => ?_) AllReadyH.nil))
              · try simp only [List.getElem_toArray, List.getElem_cons_succ, List.getElem_cons_zero]
                rw [if_pos (by rfl)]
                refine wp_load_row 37 (.tmp 7) rfl mb rfl 37 CM9 (0, 0) (.struct fs) HMR.out.1 HFS.out rfl (by rw [HMR.out.2.1]; exact info_refA) ?_
                refine hK.out _ _ (HPQ.out) (fun hHeld1 => ?_)
                clear hK K
                try simp only [Act.put, List.getElem_toArray, List.getElem_cons_succ, List.getElem_cons_zero, List.setIfInBounds_toArray, List.set_cons_zero, List.set_cons_succ]
                refine wpAnyH_ready (rs := [10]) (by kernel_rfl) (by simp) ?_
                refine AllReadyH.cons rfl (fun K hK => ?_) AllReadyH.nil
                try simp only [List.getElem_toArray, List.getElem_cons_succ, List.getElem_cons_zero]
                go_simp
                (go_at_call 51; (with_reducible refine (HB2.out).mono ?_); rintro e w10 ⟨rfl, rfl⟩)
                try go_wp2_with fail
                refine hK.out _ _ (HPQ.out) (fun hHeld2 => ?_)
                clear hK K
                try simp only [Act.put, List.getElem_toArray, List.getElem_cons_succ, List.getElem_cons_zero, List.setIfInBounds_toArray, List.set_cons_zero, List.set_cons_succ]
                refine wpAnyH_ready (rs := [11]) (by kernel_rfl) (by simp) ?_
                refine AllReadyH.cons rfl (fun K hK => ?_) AllReadyH.nil
                try simp only [List.getElem_toArray, List.getElem_cons_succ, List.getElem_cons_zero]
                go_simp
                (go_at_call 16; (with_reducible refine (HMW.out).mono ?_); rintro e w10 ⟨CM10, GM10, rfl, hN⟩; have HN := Lib.hid hN; have HMR10 := Lib.hid (hN.2.2.2.1.keep HMR.out.1 (by simp)); clear hN)
                try go_wp2_with fail
                have HS10 := HSD.out.still HN.out.2.2.2.1
                refine hK.out _ _ (HPP.out _ (HS10.on (bkP xb (adO (sgN t) J)) (by simp)) HS10.kin.turn) (fun hHeld3 => ?_)
                clear hK K
                try simp only [Act.put, List.getElem_toArray, List.getElem_cons_succ, List.getElem_cons_zero, List.setIfInBounds_toArray, List.set_cons_zero, List.set_cons_succ]
                refine wpAnyH_take (i := 12) (v := ?_) rfl (by kernel_rfl) (by kernel_rfl) (by kernel_rfl) (fun _ _ _ h => h) (Or.inl ⟨by rfl, ?_⟩) (by assumption) ?_
                rotate_left
                · (intro w hSw; (try dsimp only at hSw); go_simp; try with_reducible rfl)
                try simp only [Act.put, List.getElem_toArray, List.getElem_cons_succ, List.getElem_cons_zero, List.setIfInBounds_toArray, List.set_cons_zero, List.set_cons_succ]
                refine wpAnyH_take (i := 13) (v := ?_) rfl (by kernel_rfl) (by kernel_rfl) (by kernel_rfl) (fun _ _ _ h => h) (Or.inl ⟨by rfl, ?_⟩) (by assumption) ?_
                rotate_left
                · (intro w hSw; (try dsimp only at hSw); go_simp; try with_reducible rfl)
                try simp only [Act.put, List.getElem_toArray, List.getElem_cons_succ, List.getElem_cons_zero, List.setIfInBounds_toArray, List.set_cons_zero, List.set_cons_succ]
                refine wpAnyH_take (i := 14) (v := ?_) rfl (by kernel_rfl) (by kernel_rfl) (by kernel_rfl) (fun _ _ _ h => h) (Or.inl ⟨by rfl, ?_⟩) (by assumption) ?_
                rotate_left
                · (intro w hSw; (try dsimp only at hSw); go_simp; try with_reducible rfl)
                try simp only [Act.put, List.getElem_toArray, List.getElem_cons_succ, List.getElem_cons_zero, List.setIfInBounds_toArray, List.set_cons_zero, List.set_cons_succ]
                refine wpAnyH_ready (rs := [15]) (by kernel_rfl) (by simp) ?_
                refine AllReadyH.cons rfl (fun K hK => ?_) AllReadyH.nil
                try simp only [List.getElem_toArray, List.getElem_cons_succ, List.getElem_cons_zero]
                rw [if_pos (by rfl)]
                refine wp_store_row 37 (.tmp 7) (.tmp 97) rfl mb CM10 rfl rfl 37 CM9 HMR10.out (by rw [HN.out.1]; exact info_refA) (by rw [HN.out.1, HMR.out.2.1]) HN.out.2.1 ?_
                have HS11 := mput15 HSD.out HN.out
                refine hK.out _ _ (HPP.out _ (HS11.on (bkP xb (adO (sgN t) J)) (by simp)) HS11.kin.turn) (fun hHeld4 => ?_)
                clear hK K
                try simp only [Act.put, List.getElem_toArray, List.getElem_cons_succ, List.getElem_cons_zero, List.setIfInBounds_toArray, List.set_cons_zero, List.set_cons_succ]
                refine wpAnyH_done (by kernel_rfl) ?_ _
                go_wp2_with fail
                refine ⟨⟨y + 1, HLY.out, by simp, HEND.out _ _ _ _ (Frm.Turn.refl [] _) HN.out⟩, ?_⟩
                have := HLY.out
                simp [intOf]; omega
              · try simp only [List.getElem_toArray, List.getElem_cons_succ, List.getElem_cons_zero]
                go_simp
                (go_at_call 51; (with_reducible refine (HB2.out).mono ?_); rintro e w10 ⟨rfl, rfl⟩)
                try go_wp2_with fail
                refine hK.out _ _ (HPQ.out) (fun hHeld1 => ?_)
                clear hK K
                try simp only [Act.put, List.getElem_toArray, List.getElem_cons_succ, List.getElem_cons_zero, List.setIfInBounds_toArray, List.set_cons_zero, List.set_cons_succ]
                refine wpAnyH_ready (rs := [0]) (by kernel_rfl) (by simp) ?_
                refine AllReadyH.cons rfl (fun K hK => ?_) AllReadyH.nil
                try simp only [List.getElem_toArray, List.getElem_cons_succ, List.getElem_cons_zero]
                rw [if_pos (by rfl)]
                refine wp_load_row 37 (.tmp 7) rfl mb rfl 37 CM9 (0, 0) (.struct fs) HMR.out.1 HFS.out rfl (by rw [HMR.out.2.1]; exact info_refA) ?_
                refine hK.out _ _ (HPQ.out) (fun hHeld2 => ?_)
                clear hK K
                try simp only [Act.put, List.getElem_toArray, List.getElem_cons_succ, List.getElem_cons_zero, List.setIfInBounds_toArray, List.set_cons_zero, List.set_cons_succ]
                refine wpAnyH_ready (rs := [11]) (by kernel_rfl) (by simp) ?_
                refine AllReadyH.cons rfl (fun K hK => ?_) AllReadyH.nil
                try simp only [List.getElem_toArray, List.getElem_cons_succ, List.getElem_cons_zero]
                go_simp
                (go_at_call 16; (with_reducible refine (HMW.out).mono ?_); rintro e w10 ⟨CM10, GM10, rfl, hN⟩; have HN := Lib.hid hN; have HMR10 := Lib.hid (hN.2.2.2.1.keep HMR.out.1 (by simp)); clear hN)
                try go_wp2_with fail
                have HS10 := HSD.out.still HN.out.2.2.2.1
                refine hK.out _ _ (HPP.out _ (HS10.on (bkP xb (adO (sgN t) J)) (by simp)) HS10.kin.turn) (fun hHeld3 => ?_)
                clear hK K
                try simp only [Act.put, List.getElem_toArray, List.getElem_cons_succ, List.getElem_cons_zero, List.setIfInBounds_toArray, List.set_cons_zero, List.set_cons_succ]
                refine wpAnyH_take (i := 12) (v := ?_) rfl (by kernel_rfl) (by kernel_rfl) (by kernel_rfl) (fun _ _ _ h => h) (Or.inl ⟨by rfl, ?_⟩) (by assumption) ?_
                rotate_left
                · (intro w hSw; (try dsimp only at hSw); go_simp; try with_reducible rfl)
                try simp only [Act.put, List.getElem_toArray, List.getElem_cons_succ, List.getElem_cons_zero, List.setIfInBounds_toArray, List.set_cons_zero, List.set_cons_succ]
                refine wpAnyH_take (i := 13) (v := ?_) rfl (by kernel_rfl) (by kernel_rfl) (by kernel_rfl) (fun _ _ _ h => h) (Or.inl ⟨by rfl, ?_⟩) (by assumption) ?_
                rotate_left
                · (intro w hSw; (try dsimp only at hSw); go_simp; try with_reducible rfl)
                try simp only [Act.put, List.getElem_toArray, List.getElem_cons_succ, List.getElem_cons_zero, List.setIfInBounds_toArray, List.set_cons_zero, List.set_cons_succ]
                refine wpAnyH_take (i := 14) (v := ?_) rfl (by kernel_rfl) (by kernel_rfl) (by kernel_rfl) (fun _ _ _ h => h) (Or.inl ⟨by rfl, ?_⟩) (by assumption) ?_
                rotate_left
                · (intro w hSw; (try dsimp only at hSw); go_simp; try with_reducible rfl)
                try simp only [Act.put, List.getElem_toArray, List.getElem_cons_succ, List.getElem_cons_zero, List.setIfInBounds_toArray, List.set_cons_zero, List.set_cons_succ]
                refine wpAnyH_ready (rs := [15]) (by kernel_rfl) (by simp) ?_
                refine AllReadyH.cons rfl (fun K hK => ?_) AllReadyH.nil
                try simp only [List.getElem_toArray, List.getElem_cons_succ, List.getElem_cons_zero]
                rw [if_pos (by rfl)]
                refine wp_store_row 37 (.tmp 7) (.tmp 97) rfl mb CM10 rfl rfl 37 CM9 HMR10.out (by rw [HN.out.1]; exact info_refA) (by rw [HN.out.1, HMR.out.2.1]) HN.out.2.1 ?_
                have HS11 := mput15 HSD.out HN.out
                refine hK.out _ _ (HPP.out _ (HS11.on (bkP xb (adO (sgN t) J)) (by simp)) HS11.kin.turn) (fun hHeld4 => ?_)
                clear hK K
                try simp only [Act.put, List.getElem_toArray, List.getElem_cons_succ, List.getElem_cons_zero, List.setIfInBounds_toArray, List.set_cons_zero, List.set_cons_succ]
                refine wpAnyH_done (by kernel_rfl) ?_ _
                go_wp2_with fail
                refine ⟨⟨y + 1, HLY.out, by simp, HEND.out _ _ _ _ (Frm.Turn.refl [] _) HN.out⟩, ?_⟩
                have := HLY.out
                simp [intOf]; omega
              -- ]]reg20
              -- ]]hold
            · skip
              -- [[path
              as_aux_lemma =>
              obtain rfl : y = 2 := by omega
              obtain ⟨p0, p1⟩ : wr.cell? ⟨pb, 0, none⟩ = some (.int .u64 (hS (sgN t))) ∧ wr.cell? ⟨pb, 1, none⟩ = some (.int .i64 (t : Int)) := by
                obtain ⟨A1, k1, CM1, GM1, S1, -⟩ := hP
                exact plO_cells (S1.on (bkP pb (plO t)) (by simp))
              have HSEG := Lib.hid (fun W => RSegment_any t W (by have := HLT.out; omega))
              have HPA := Lib.hid (fun W => RPath_any t W (by have := HLT.out; omega))
              have HPZ := Lib.hid hP
              have hg1 : (sgN t : Int) ≤ 1 := by have := HF.out.1; omega
              have hg0 : (0 : Int) ≤ (sgN t : Int) := by omega
              clear hP hy hlt
              go_upto_region 23 with (go_at_call 98; (with_reducible refine (HSEG.out _).mono ?_); rintro e w5 ⟨rfl, rfl⟩)
              go_upto_region 24 with (go_at_call 99; (with_reducible refine (HPA.out _).mono ?_); rintro e w6 ⟨vp, rfl, gq, cq, rfl, hrow, hT6⟩; have HP6 := Lib.hid (HPZ.out.row hT6 hrow); clear hrow hT6)
              have hP7 : PS2 wB b mb [roP wB.heap.size 3 1 (sgN t + 1) (.slice (some ⟨gq, 0, none⟩) (sgN t + 1) cq) ((List.range (sgN t + 1)).map fun i => .int .i64 (ndN t i)), bkP pb (plO t)] R xs (pathF I t (holdF H' t (slotF H' I t) 2) 0) (4 * t + 2 + 0) w6 := by rw [pathF_0]; exact HP6.out
              have HP7 := Lib.hid hP7
              clear hP7 HP6 HPZ p0 p1
              obtain ⟨XR, hXR⟩ : ∃ x, x = roP wB.heap.size 3 1 (sgN t + 1) (.slice (some ⟨gq, 0, none⟩) (sgN t + 1) cq) ((List.range (sgN t + 1)).map fun i => .int .i64 (ndN t i)) := ⟨_, rfl⟩
              have HXR := Lib.hid hXR
              rw [← hXR] at HP7
              clear hXR
              go_wp2_with fail
              go_loopw [110] (fun i wz => ∃ z : Nat, z ≤ sgN t + 1 ∧ i = .int .i64 z ∧ PS2 wB b mb [XR, bkP pb (plO t)] R xs (pathF I t (holdF H' t (slotF H' I t) 2) z) (4 * t + 2 + z) wz) (fun i _ => sgN t + 1 - (intOf i).toNat)
              case atStart => exact ⟨0, Nat.zero_le _, rfl, HP7.out⟩
              case round =>
                obtain ⟨z, hz, rfl, hP⟩ := hrel
                clear HP7
                by_cases hlz : z < sgN t + 1
                · skip
                  -- [[node
                  as_aux_lemma =>
                  obtain ⟨p0, p1, nd, cI⟩ : wr.cell? ⟨pb, 0, none⟩ = some (.int .u64 (hS (sgN t))) ∧ wr.cell? ⟨pb, 1, none⟩ = some (.int .i64 (t : Int)) ∧ wr.cell? ⟨gq, z, none⟩ = some (.int .i64 (ndN t z)) ∧ wr.cell? ⟨w.heap.size, 7 + t, none⟩ = some (.bool (I t)) := by
                    obtain ⟨A1, k1, CM1, GM1, S1, -⟩ := hP
                    obtain ⟨h1, h2⟩ := plO_cells (S1.on (bkP pb (plO t)) (by simp))
                    have h3 : wr.ownsRow wB.heap.size 3 1 (.slice (some ⟨gq, 0, none⟩) (sgN t + 1) cq) (sgN t + 1) ((List.range (sgN t + 1)).map fun i => .int .i64 (ndN t i)) := by
                      have := S1.on XR (by simp)
                      rw [HXR.out] at this
                      exact this
                    have h4 := h3.cellAt z (by omega)
                    refine ⟨h1, h2, h4.trans (by simp [hlz]), case_I (HCB.out wr S1.kin.turn) HLT.out⟩
                  obtain ⟨g1, g2, g3⟩ := HF.out.2.2 ⟨z, by have := HF.out.1; omega⟩ (by show z ≤ sgN t; omega)
                  dsimp only at g1 g2 g3
                  have hz1 : (z : Int) < ((sgN t + 1 : Nat) : Int) := by omega
                  have hz0' : (0 : Int) ≤ (z : Int) := by omega
                  have HLZ := Lib.hid hlz
                  have HPZ := Lib.hid hP
                  by_cases hI : I t = true
                  · rw [hI] at cI
                    have HCT := Lib.hid (fun W => RCounter_any (hS (sgN t)) (sgN t) (ndN t z) W (by omega) (by omega))
                    rw [← g2] at HCT
                    have HG1 := Lib.hid g1
                    have hfe : ∀ f, pathF I t f (z + 1) = upd2 (pathF I t f z) (sgN t) (adN t z) ((pathF I t f z (sgN t) (adN t z) + 1) % 18446744073709551616) := fun f => by unfold pathF; rw [if_pos hI, if_pos hI]; rfl
                    have HFE := Lib.hid hfe
                    clear hP hz hlz hI g1 g2 g3 hfe
                    generalize adN t z = J at HCT HG1 HFE
                    go_upto_region 28 with (go_at_call 100; (with_reducible refine (HCT.out _).mono ?_); rintro e w7 ⟨rfl, hT7⟩; have HT7 := Lib.hid hT7; clear hT7)
                    have hP8 : PS2 wB b mb [bkP w7.heap.size (adO (sgN t) J), XR, bkP pb (plO t)] R xs (pathF I t (holdF H' t (slotF H' I t) 2) z) (4 * t + 2 + z) (w7.alloc (adO (sgN t) J)) := (HPZ.out.still HT7.out).add ((Frm.Turn.refl [] w7).alloc _) (World.alloc_heap_new _ _) (Nat.le_refl _)
                    unfold adO at hP8
                    generalize World.alloc w7 _ = w8 at hP8 ⊢
                    generalize w7.heap.size = xb at hP8 ⊢
                    have HP8 : Hid (PS2 wB b mb [bkP xb (adO (sgN t) J), XR, bkP pb (plO t)] R xs (pathF I t (holdF H' t (slotF H' I t) 2) z) (4 * t + 2 + z) w8) := Lib.hid hP8
                    obtain ⟨x0, x1⟩ : w8.cell? ⟨xb, 0, none⟩ = some (.int .u64 (hS (sgN t))) ∧ w8.cell? ⟨xb, 1, none⟩ = some (.int .i64 (J : Int)) := by
                      obtain ⟨A1, k1, CM1, GM1, S1, -⟩ := HP8.out
                      exact ad_cells (S1.on (bkP xb (adO (sgN t) J)) (by simp))
                    have hAD := ps_add HP8.out HF.out.1 HG1.out (by have := HLT.out; have := HLZ.out; have := HF.out.1; omega)
                    rw [← HFE.out] at hAD
                    have HAD := Lib.hid hAD
                    clear hP8 HPZ HT7 HCT p0 p1 nd cI hAD
                    go_upto_region 29 with (go_at_call 101; (with_reducible refine (HAD.out).mono ?_); rintro e w9 ⟨z9, y9, rfl, A9, k9, CM9, GM9, hS9, hA9, hk9, hL9, hl9⟩; have HSD := Lib.hid hS9; have HA9 := Lib.hid hA9; have HK9 := Lib.hid hk9; have HL9 := Lib.hid (And.intro hL9 hl9); have HMR := Lib.hid (ps_row hS9); clear hS9 hA9 hk9 hL9 hl9)
                    obtain ⟨x0, x1⟩ := ad_cells (HSD.out.on (bkP xb (adO (sgN t) J)) (by simp))
                    have hmw := madd15 (mb := mb) (B := A9) (CM := CM9) (GM := GM9) (blk := hS (sgN t)) (i := (J : Int)) (x := 1) HSD.out (by simp) HL9.out.1 HL9.out.2
                    have HMW := Lib.hid hmw
                    have HEND : Hid (∀ W1 CM' GM' W', Frm.Turn [] w9 W1 → MNext W1 CM' (A9.add (hS (sgN t)) J 1).1 GM9 GM' W' → PS2 wB b mb [XR, bkP pb (plO t)] R xs (pathF I t (holdF H' t (slotF H' I t) 2) (z + 1)) (4 * t + 2 + (z + 1)) (W'.setRow mb CM')) := Lib.hid (fun W1 CM' GM' W' hT hN => (ps_end HSD.out HA9.out HK9.out hT hN).drop)
                    clear hmw HA9 HK9 HL9 HAD HP8 HFE
                    generalize (A9.add (hS (sgN t)) J 1).1 = A10 at HMW HEND HSD
                    generalize (A9.add (hS (sgN t)) J 1).2.1 = z10 at HMW
                    generalize (A9.add (hS (sgN t)) J 1).2.2 = z11 at HMW
                    go_upto_region 30 with (first
                      | (refine wpList_load_row rfl 37 (.tmp 7) rfl mb rfl 37 CM9 (0, 0) (.struct fs) HMR.out.1 HFS.out rfl (by rw [HMR.out.2.1]; exact info_refA) ?_)
                      | (go_at_call 102; (with_reducible refine (HMW.out).mono ?_); rintro e w10 ⟨CM10, GM10, rfl, hN⟩; have HN := Lib.hid hN; have HMR10 := Lib.hid (hN.2.2.2.1.keep HMR.out.1 (by simp)); clear hN)
                      | (refine wpList_store_row rfl 37 (.tmp 7) (.tmp 130) rfl mb CM10 rfl rfl 37 CM9 HMR10.out (by rw [HN.out.1]; exact info_refA) (by rw [HN.out.1, HMR.out.2.1]) HN.out.2.1 ?_))
                    have HPE := Lib.hid (HEND.out _ _ _ _ (Frm.Turn.refl [] _) HN.out)
                    generalize World.setRow _ mb CM10 = w11 at HPE ⊢
                    clear HMW HEND HSD HMR HMR10 HN x0 x1
                    go_wp2_with fail
                    refine ⟨⟨z + 1, by have := HLZ.out; omega, by simp, HPE.out⟩, ?_⟩
                    have := HLZ.out
                    simp [intOf]; omega
                  · have hI' : I t = false := by simpa using hI
                    rw [hI'] at cI
                    have hfe : ∀ f, pathF I t f (z + 1) = pathF I t f z := fun f => by unfold pathF; rw [if_neg hI, if_neg hI]
                    have HFE := Lib.hid hfe
                    clear hP hz hlz hI hI' g1 g2 g3 hfe
                    go_wp2_with fail
                    refine ⟨⟨z + 1, by have := HLZ.out; omega, by simp, ?_⟩, ?_⟩
                    · rw [HFE.out]
                      obtain ⟨A1, k1, CM1, GM1, S1, hA1, hk1⟩ := HPZ.out
                      exact ⟨A1, k1, CM1, GM1, S1.still (by repeat (first | exact Frm.Turn.refl [] _ | apply Frm.Turn.drewN | apply Frm.Turn.drew)), hA1, by omega⟩
                    · have := HLZ.out
                      simp [intOf]; omega
                  -- ]]node
                · skip
                  as_aux_lemma =>
                  obtain rfl : z = sgN t + 1 := by omega
                  have HPE : Hid (PS2 wB b mb [] R xs (slotF H' I (t + 1)) (4 * (t + 1)) wr) := Lib.hid (by
                    rw [pathF_end] at hP
                    obtain ⟨A1, k1, CM1, GM1, S1, hA1, hk1⟩ := hP
                    exact ⟨A1, k1, CM1, GM1, S1.drop.drop, hA1, by have := HF.out.1; omega⟩)
                  clear hP hz hlz
                  go_wp2_with fail
                  refine ⟨⟨t + 1, HLT.out, by simp, HPE.out⟩, ?_⟩
                  have := HLT.out
                  simp [intOf]; omega
              -- ]]path
          -- ]]slot
        · skip
          -- [[end
          as_aux_lemma =>
          obtain rfl : t = 3 := by omega
          obtain ⟨A9, k9, CM9, GM9, hS9, hA9, hk9⟩ := hP
          rw [HRE.out] at hS9
          have HSD := Lib.hid hS9
          have HMR := Lib.hid (mp_row (mb := mb) (B := A9) (CM := CM9) (GM := GM9) hS9 (by simp))
          have HRB2 : Hid (wr.heap[rb]? = some rzO) := Lib.hid (hS9.on (bkP rb rzO) (by simp))
          have HNE : Hid (mb ≠ rb) := Lib.hid (by
            have h := (List.pairwise_cons.1 hS9.off).1 (bkP rb rzO) (by simp)
            have := (h.1 mb (by simp [mP])).1
            simpa [bkP] using this)
          have HEND : Hid (∀ W', Frm.Turn [rb] wr W' → SetEnd w H I (.returned (.tuple #[.pointer (some ⟨b, 0, none⟩), .agg CM9, .slice (some ⟨pl, 0, none⟩) 3 3, .slice va xs.length vc])) W') := Lib.hid (fun W' hT =>
            ⟨wB, b, CM9, GM9, A9, k9, pl, va, vc, xs, rfl, HMR.out.2.1, HMR.out.2.2, HTB.out, by rw [← HHE.out]; exact hA9, HXL.out, by omega, set_end HSD.out hT⟩)
          have hrz : rzO = .cells zA20 37 (0, 0) := rfl
          rw [hrz] at HRB2
          have hz20 : zA20.size = 20 := by kernel_rfl
          have HZ20 := Lib.hid hz20
          clear hS9 hA9 hk9 ht hlt HSD HRE HRM hrz hz20 HS HX
          go_upto_region 32 with fail
          refine wp_region_held_drew (S := fun W' => Frm.Turn [rb] wr W') (by kernel_rfl) ?_ (fun hHeld => ?_)
          · exact (Frm.Turn.refl _ wr).drew
          refine wpAnyH_take (i := 0) (v := ?_) rfl (by kernel_rfl) (by kernel_rfl) (by kernel_rfl) (fun _ _ _ h => h) (Or.inl ⟨by rfl, ?_⟩) (by assumption) ?_
          rotate_left
          · (intro w hSw; (try dsimp only at hSw); go_simp; try with_reducible rfl)
          try simp only [Act.put, List.getElem_toArray, List.getElem_cons_succ, List.getElem_cons_zero, List.setIfInBounds_toArray, List.set_cons_zero, List.set_cons_succ]
          refine' wpAnyH_take (i := 1) (v := _) rfl (by kernel_rfl) (by kernel_rfl) (by kernel_rfl) (fun _ _ _ h => h) (yieldsIf_load_mid (by rfl) 37 (.tmp 7) rfl mb 0 rfl CM9.toList (.struct fs) (fun w' hw => range_of (hw.keep HMR.out.1 (by simpa using HNE.out))) HFS.out rfl (by rw [Array.length_toList, HMR.out.2.1]; exact info_refA)) (by assumption) ?_
          try simp only [Act.put, List.getElem_toArray, List.getElem_cons_succ, List.getElem_cons_zero, List.setIfInBounds_toArray, List.set_cons_zero, List.set_cons_succ]
          rw [Array.toArray_toList]
          refine wpAnyH_take (i := 2) (v := ?_) rfl (by kernel_rfl) (by kernel_rfl) (by kernel_rfl) (fun _ _ _ h => h) (Or.inl ⟨by rfl, ?_⟩) (by assumption) ?_
          rotate_left
          · (intro w hSw; (try dsimp only at hSw); go_simp; try with_reducible rfl)
          try simp only [Act.put, List.getElem_toArray, List.getElem_cons_succ, List.getElem_cons_zero, List.setIfInBounds_toArray, List.set_cons_zero, List.set_cons_succ]
          refine wpAnyH_take (i := 3) (v := ?_) rfl (by kernel_rfl) (by kernel_rfl) (by kernel_rfl) (fun _ _ _ h => h) (Or.inl ⟨by rfl, ?_⟩) (by assumption) ?_
          rotate_left
          · (intro w hSw; (try dsimp only at hSw); go_simp; try with_reducible rfl)
          try simp only [Act.put, List.getElem_toArray, List.getElem_cons_succ, List.getElem_cons_zero, List.setIfInBounds_toArray, List.set_cons_zero, List.set_cons_succ]
          refine wpAnyH_take (i := 4) (v := ?_) rfl (by kernel_rfl) (by kernel_rfl) (by kernel_rfl) (fun _ _ _ h => h) (Or.inl ⟨by rfl, ?_⟩) (by assumption) ?_
          rotate_left
          · (intro w hSw; (try dsimp only at hSw); go_simp; try with_reducible rfl)
          try simp only [Act.put, List.getElem_toArray, List.getElem_cons_succ, List.getElem_cons_zero, List.setIfInBounds_toArray, List.set_cons_zero, List.set_cons_succ]
          refine wpAnyH_ready (rs := [5]) (by kernel_rfl) (by simp) ?_
          refine AllReadyH.cons rfl (fun K hK => ?_) AllReadyH.nil
          try simp only [List.getElem_toArray, List.getElem_cons_succ, List.getElem_cons_zero]
          rw [if_pos (by rfl)]
          refine wp_store_row 37 (.tmp 3) (.tmp 136) rfl rb CM9 rfl rfl 37 zA20 ((Frm.Turn.refl [] wr).drew.keep HRB2.out (by simp)) (by rw [HMR.out.2.1]; exact info_refA) (by rw [HMR.out.2.1, HZ20.out]) HMR.out.2.2 ?_
          refine hK.out _ _ (setRow_turn ((Frm.Turn.refl _ wr).drew) (.inl (by simp)) CM9) (fun hHeld5 => ?_)
          clear hK K
          try simp only [Act.put, List.getElem_toArray, List.getElem_cons_succ, List.getElem_cons_zero, List.setIfInBounds_toArray, List.set_cons_zero, List.set_cons_succ]
          refine wpAnyH_take (i := 6) (v := ?_) rfl (by kernel_rfl) (by kernel_rfl) (by kernel_rfl) (fun _ _ _ h => h) (Or.inl ⟨by rfl, ?_⟩) (by assumption) ?_
          rotate_left
          · (intro w hSw; (try dsimp only at hSw); go_simp; try with_reducible rfl)
          try simp only [Act.put, List.getElem_toArray, List.getElem_cons_succ, List.getElem_cons_zero, List.setIfInBounds_toArray, List.set_cons_zero, List.set_cons_succ]
          refine wpAnyH_take (i := 7) (v := ?_) rfl (by kernel_rfl) (by kernel_rfl) (by kernel_rfl) (fun _ _ _ h => h) (Or.inl ⟨by rfl, ?_⟩) (by assumption) ?_
          rotate_left
          · (intro w hSw; (try dsimp only at hSw); go_simp; try with_reducible rfl)
          try simp only [Act.put, List.getElem_toArray, List.getElem_cons_succ, List.getElem_cons_zero, List.setIfInBounds_toArray, List.set_cons_zero, List.set_cons_succ]
          refine wpAnyH_done (by kernel_rfl) ?_ _
          go_wp2_with fail
          have hrow : (wr.drew.setRow rb CM9).heap[rb]? = some (.cells CM9 37 (0, 0)) := Cnt.row_set CM9 ((Frm.Turn.refl [] wr).drew.keep HRB2.out (by simp))
          have hld : (loadVar 37 ⟨rb, 0, none⟩).run Tryz.prog (wr.drew.setRow rb CM9) = .ok (.agg CM9) (wr.drew.setRow rb CM9) := run_loadVar_row _ _ _ _ CM9 (0, 0) (.struct fs) hrow HFS.out rfl (by rw [HMR.out.2.1]; exact info_refA)
          refine bodyPost_ret (v := .tuple #[.pointer (some ⟨b, 0, none⟩), .agg CM9, .slice (some ⟨pl, 0, none⟩) 3 3, .slice va xs.length vc]) (by simp [results, Tryz.results50, asAddr, hld, Act.put]) rfl ?_
          exact HEND.out _ hHeld5
          -- ]]end
      -- ]]rest
end Att
end Go.Proofs.YtpajafecodkndaaGreat
