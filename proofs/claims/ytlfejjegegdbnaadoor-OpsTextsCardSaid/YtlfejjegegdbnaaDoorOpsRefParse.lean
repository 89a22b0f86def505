/- The document's Parse: the walk. -/
import Derived.Test.YtlfejjegegdbnaaDoorOpsWordsOf
import Derived.Test.YtlfejjegegdbnaaDoorOpsNumber
import Derived.Test.YtlfejjegegdbnaaDoorOpsRefText
import Derived.Test.YtlfejjegegdbnaaDoorOpsParse
import Derived.Deep.RegionHeld3
set_option linter.unusedVariables false
set_option linter.unusedSimpArgs false
namespace Go.Proofs.YtlfejjegegdbnaaDoor
namespace Ops
open Go.RowKit Go.Lib

theorem info_int : (Tryd.prog.info? 3).map (fun i => (i.zero, i.size, i.bytes)) = some (some (.int .i64 0), 1, 8) := by kernel_rfl
def intV (n : Int) : Value := .int .i64 n
theorem _root_.Go.World.ownsRow.new_of {w : World} {base : Nat} {e : TypeId} {size : Nat} {v : Value} {n : Nat} {xs : List Value} (h : w.ownsRow base e size v n xs) : ∀ q, q ∈ v.ownBlock.toList → base ≤ q := by
  intro q hq
  simp at hq
  exact (h.lt q hq).1
/-- Numbers read so far. -/
def NumsAt (ws : List (List UInt8)) (w1 : World) (v i : Value) (wr : World) : Prop := ∃ k : Nat, k ≤ ws.length ∧ i = .int .i64 k ∧ wr.ownsRow w1.heap.size 3 1 v k ((ws.take k).map (fun x => intV (numOf x))) ∧ Frm.Turn [] w1 wr
/-- None of those that were tried. -/
def TriedAt (l : List UInt8) (w2 : World) (c : Value) (wr : World) : Prop := ∃ k : Nat, k ≤ 15 ∧ c = .int .i64 k ∧ (∀ j, j < k → opT.fits l j = false) ∧ Frm.Turn [] w2 wr
theorem opT_len : opT.length = 15 := rfl
theorem cand_uses (k : Nat) (hk : k < 15) (ns : List Int) :
    (usesOf k = 0 → opT.cK k ns = 0 ∧ opT.cA k ns = 0 ∧ opT.cB k ns = 0 ∧ opT.a3 k = 0) ∧
    (usesOf k = 1 → opT.cK k ns = ns.getD 0 0 ∧ opT.cA k ns = 0 ∧ opT.cB k ns = 0 ∧ opT.a3 k = 1) ∧
    (usesOf k = 2 → opT.cK k ns = 0 ∧ opT.cA k ns = ns.getD 0 0 ∧ opT.cB k ns = 0 ∧ opT.a3 k = 1) ∧
    (usesOf k = 3 → opT.cK k ns = ns.getD 0 0 ∧ opT.cA k ns = ns.getD 1 0 ∧ opT.cB k ns = 0 ∧ opT.a3 k = 2) ∧
    (usesOf k = 7 → opT.cK k ns = ns.getD 0 0 ∧ opT.cA k ns = ns.getD 1 0 ∧ opT.cB k ns = ns.getD 2 0 ∧ opT.a3 k = 3) := by
  obtain ⟨h0, h1, h2⟩ := uses_pos k hk
  unfold Tab.cK Tab.cA Tab.cB Tab.a3 Tab.a2 Tab.a1
  simp only [h0, h1, h2]
  refine ⟨?_, ?_, ?_, ?_, ?_⟩ <;> (intro e; rw [e]; simp)
theorem fits_no {l : List UInt8} {k : Nat} (h : (opT.nm k == (wordsOf l).headD []) = false ∨ opT.a3 k ≠ (wordsOf l).length - 1 ∨ opT.rightB k (opT.cK k (numsOf l)) (opT.cA k (numsOf l)) (opT.cB k (numsOf l)) = false) : opT.fits l k = false := by
  unfold Tab.fits
  rcases h with h | h | h
  · rw [h]; rfl
  · rw [show (opT.a3 k == (wordsOf l).length - 1) = false by rw [beq_eq_false_iff_ne]; exact h]; simp
  · rw [h]; simp
theorem fits_yes {l : List UInt8} {k : Nat} (h1 : opT.nm k = (wordsOf l).headD []) (h2 : opT.a3 k = (wordsOf l).length - 1) (h3 : opT.rightB k (opT.cK k (numsOf l)) (opT.cA k (numsOf l)) (opT.cB k (numsOf l)) = true) : opT.fits l k = true := by
  unfold Tab.fits
  rw [h1, h2, h3]; simp

set_option maxRecDepth 100000 in
set_option maxHeartbeats 8000000 in
theorem refParse_any (s : ByteArray) (w : World) (hs : s.size ≤ 1000) :
    Calls Tryd.prog 21 #[.string s] w fun e w' => e = .returned (opPV (opT.parse s.data.toList)) ∧ Frm.Turn [] w w' := by
  obtain ⟨i0, hi, hz0, hz1, hz2⟩ := info_parts info_int
  have HT0 := Lib.hid ((Frm.Turn.refl [] w).alloc (.cells #[.int .i64 0, .int .i64 0, .int .i64 0, .int .i64 0] 23))
  have HB0 : Hid ((w.alloc (.cells #[.int .i64 0, .int .i64 0, .int .i64 0, .int .i64 0] 23)).heap[w.heap.size]? = some (.cells #[.int .i64 0, .int .i64 0, .int .i64 0, .int .i64 0] 23 (0, 0))) := Lib.hid (World.alloc_heap_new w _)
  have HWD := Lib.hid (words_any s (w.alloc (.cells #[.int .i64 0, .int .i64 0, .int .i64 0, .int .i64 0] 23)) hs)
  obtain ⟨l, hl⟩ : ∃ l, l = s.data.toList := ⟨_, rfl⟩
  rw [← hl] at HWD ⊢
  have hll : l.length ≤ 1000 := by rw [hl]; simpa using hs
  have hwc := words_count l
  have hwe := words_each l
  have hwl := words_len l
  have HNB : Hid (∀ x, x ∈ (wordsOf l).tail → ∀ W, Calls Tryd.prog 35 #[.string ⟨x.toArray⟩] W fun e w' => e = .returned (.int .i64 (numOf x)) ∧ W = w') :=
    Lib.hid (fun x hx W => number_list x W (by have := hwe x (List.mem_of_mem_tail hx); omega))
  obtain ⟨w0, ts, hws⟩ : ∃ w0 ts, wordsOf l = w0 :: ts := by
    cases h : wordsOf l with
    | nil => rw [h] at hwl; simp at hwl
    | cons a r => exact ⟨a, r, rfl⟩
  have hns : numsOf l = ts.map numOf ++ [0, 0, 0] := by unfold numsOf; rw [hws]; rfl
  have hhd : (wordsOf l).headD [] = w0 := by rw [hws]; rfl
  have hln : (wordsOf l).length - 1 = ts.length := by rw [hws]; simp
  rw [hws] at HWD HNB hwc
  simp only [List.tail_cons] at HNB
  have htl : ts.length ≤ 1000 := by simp at hwc; omega
  have HNS := Lib.hid hns
  have HHD := Lib.hid hhd
  have HLN := Lib.hid hln
  clear hws hns hhd hln hwe hwl hwc hl hll hs
  go_enter Tryd.func21, Tryd.ntmps21
  go_upto_region 3 with (go_at_call 34; (with_reducible refine (HWD.out).mono ?_); rintro e w1 ⟨v, rfl, ho, hT⟩; simp only [List.length_cons] at ho; obtain ⟨g, cap, rfl, hgb, hgl⟩ := ho.form (by omega); have HO1 := Lib.hid ho; have HT1 := Lib.hid (HT0.out.trans hT (by simp)); have HB1 := Lib.hid (hT.keep HB0.out (by simp)); clear ho hT)
  have HCW : Hid (∀ W', Frm.Turn [] w1 W' → ∀ j x, (w0 :: ts)[j]? = some x → W'.cell? ⟨g, j, none⟩ = some (.string ⟨x.toArray⟩)) := by
    refine Lib.hid (fun W' hT j x hx => hT.cell ?_ (by simp))
    have hj : j < (w0 :: ts).length := (List.getElem?_eq_some_iff.1 hx).1
    rw [HO1.out.cellAt j (by simpa using hj), List.getElem?_map, hx]
    rfl
  have hcap : ts.length + 1 ≤ cap := by
    rcases HO1.out.2 with ⟨h, _⟩ | ⟨g', cap', cur, h, _, _, h1, _⟩
    · cases h
    · simp at h; omega
  obtain ⟨o, ho⟩ : ∃ o : Nat, o = if cap = 1 then 0 else 1 := ⟨_, rfl⟩
  have ho1 : ts ≠ [] → o = 1 := by
    intro h
    have : 0 < ts.length := List.length_pos_iff.2 h
    rw [ho, if_neg (by omega)]
  have hsl : ∀ W : World, (Instr.slice 62 (.slice (some ⟨g, 0, none⟩) (ts.length + 1) cap) (some (.int .i64 1)) none none).run Tryd.prog W = .ok (.slice (some ⟨g, o, none⟩) ts.length (cap - 1)) W := fun W => by
    by_cases hc : cap = 1
    · have h0 : ts.length = 0 := by omega
      rw [if_pos hc] at ho
      subst hc
      subst ho
      go_simp
    · rw [if_neg hc] at ho
      subst ho
      go_simp
      intro h
      exfalso
      omega
  have HO1' := Lib.hid ho1
  clear ho ho1 hcap
  go_upto_region 4 with fail
  go_loopw [5, 17] (fun v i wr => NumsAt ts w1 v i wr) (fun _ i _ => ts.length - (RowKit.intOf i).toNat)
  case atStart => exact ⟨0, Nat.zero_le _, rfl, World.ownsRow_nil _ _ _ _, Frm.Turn.refl _ _⟩
  case round =>
    obtain ⟨k, hk, rfl, hown, hT⟩ := hrel
    have HO := Lib.hid hown
    have HTr := Lib.hid hT
    obtain ⟨ao, cn, rfl⟩ := Frm.row_form hown
    clear hown hT
    by_cases hlt : k < ts.length
    · obtain ⟨x, hx⟩ : ∃ x, x = ts[k] := ⟨_, rfl⟩
      have hxm : x ∈ ts := by rw [hx]; exact List.getElem_mem hlt
      have ho1 : o = 1 := HO1'.out (List.ne_nil_of_length_pos (by omega))
      subst ho1
      have hcell := HCW.out _ HTr.out (k + 1) x (by rw [List.getElem?_cons_succ, List.getElem?_eq_getElem hlt, hx])
      rw [show k + 1 = 1 + k from by omega] at hcell
      have HNC := Lib.hid (HNB.out x hxm wr)
      have HX := Lib.hid hx
      clear hx hxm
      go_wp2_with (first
        | (go_at_call 35; (with_reducible refine (HNC.out).mono ?_); rintro e w2 ⟨rfl, rfl⟩)
        | (at_builtin; refine wpList_append_own _ rfl (.tmp 21) (.tmp 24) 64 rfl w1.heap.size 3 i0 (.int .i64 0) 1 8 Tryd.underlying64 hi hz0 hz1 hz2 rfl (by decide) _ _ _ rfl (HO.out.alloc _) ⟨wr.heap.size, 0, none⟩ 1 1 [.int .i64 (numOf x)] rfl rfl ?c1 ?c2 ?c3 ?c4 ?c5 ?_))
      case c1 => intro j u hj; match j, hj with | 0, hj => (simp at hj; subst hj; go_simp) | j + 1, hj => simp at hj
      case c2 => intro u hu; simp at hu; subst hu; rfl
      case c3 => unfold maxLen; omega
      case c4 => omega
      case c5 => have := HTr.out.size; simp; omega
      intro v' w1' hown' hgrow _
      have HO1b := Lib.hid hown'
      have HT1b := Lib.hid ((HTr.out.alloc (.cells #[.int .i64 (numOf x)] 3)).trans (Frm.Turn.of_grown hgrow) (fun q hq => .inr (HO.out.new_of q hq)))
      obtain ⟨ao2, cn2, rfl⟩ := Frm.row_form hown'
      clear hown' hgrow
      go_wp2
      go_roundw
      case rel =>
        refine ⟨k + 1, by omega, by go_num, ?_, HT1b.out⟩
        have h1 := HO1b.out
        rw [List.take_succ_eq_append_getElem hlt, List.map_append, ← HX.out, List.map_take]
        exact h1
      case measure => simp [RowKit.intOf]; omega
    · have hke : k = ts.length := by omega
      subst hke
      go_wp2_with (at_builtin; refine wpList_append_own _ rfl (.tmp 27) (.tmp 28) 64 rfl w1.heap.size 3 i0 (.int .i64 0) 1 8 Tryd.underlying64 hi hz0 hz1 hz2 rfl (by decide) _ _ _ rfl (HO.out.alloc _) ⟨wr.heap.size, 0, none⟩ 3 3 [.int .i64 0, .int .i64 0, .int .i64 0] rfl rfl ?d1 ?d2 ?d3 ?d4 ?d5 ?_)
      case d1 => intro j u hj; match j, hj with | 0, hj => (simp at hj; subst hj; go_simp) | 1, hj => (simp at hj; subst hj; go_simp) | 2, hj => (simp at hj; subst hj; go_simp) | j + 3, hj => simp at hj
      case d2 => intro u hu; simp at hu; subst hu; rfl
      case d3 => unfold maxLen; omega
      case d4 => omega
      case d5 => have := HTr.out.size; simp; omega
      intro v' w2 hown' hgrow _
      obtain ⟨gn, cn2, rfl, hgn, _⟩ := hown'.form (by omega)
      have hT2 := (HTr.out.alloc (.cells #[.int .i64 0, .int .i64 0, .int .i64 0] 3)).trans (Frm.Turn.of_grown hgrow) (fun q hq => .inr (HO.out.new_of q hq))
      have HT2 := Lib.hid (HT1.out.trans hT2 (by simp))
      have HB2 := Lib.hid (hT2.keep HB1.out (by simp))
      have HW0 : Hid (∀ W', Frm.Turn [] w2 W' → W'.cell? ⟨g, 0, none⟩ = some (.string ⟨w0.toArray⟩)) := Lib.hid (fun W' h => HCW.out _ (hT2.trans h (by simp)) 0 w0 rfl)
      have HNC : Hid (∀ W', Frm.Turn [] w2 W' → ∀ j : Nat, j < 3 → W'.cell? ⟨gn, j, none⟩ = some (.int .i64 ((numsOf l).getD j 0))) := by
        refine Lib.hid (fun W' h j hj => h.cell ?_ (by simp))
        have h1 := hown'.cellAt j (by omega)
        rw [h1, HNS.out]
        have e : (List.map (fun x => intV (numOf x)) ts ++ [.int .i64 0, .int .i64 0, .int .i64 0]) = (ts.map numOf ++ [0, 0, 0]).map intV := by
          simp [intV]
        rw [e, List.getElem?_map, List.getD, List.getElem?_eq_getElem (by simp; omega)]
        rfl
      obtain ⟨N0, hN0⟩ : ∃ n, n = (numsOf l).getD 0 0 := ⟨_, rfl⟩
      obtain ⟨N1, hN1⟩ : ∃ n, n = (numsOf l).getD 1 0 := ⟨_, rfl⟩
      obtain ⟨N2, hN2⟩ : ∃ n, n = (numsOf l).getD 2 0 := ⟨_, rfl⟩
      have HNX : Hid (∀ W', Frm.Turn [] w2 W' → W'.cell? ⟨gn, 0, none⟩ = some (.int .i64 N0) ∧ W'.cell? ⟨gn, 1, none⟩ = some (.int .i64 N1) ∧ W'.cell? ⟨gn, 2, none⟩ = some (.int .i64 N2)) := Lib.hid (fun W' h => ⟨by rw [hN0]; exact HNC.out W' h 0 (by omega), by rw [hN1]; exact HNC.out W' h 1 (by omega), by rw [hN2]; exact HNC.out W' h 2 (by omega)⟩)
      have E0 := Lib.hid hN0
      have E1 := Lib.hid hN1
      have E2 := Lib.hid hN2
      clear hN0 hN1 hN2 hown' hgrow hT2 HNC HO HTr HCW HB1 HT1 HO1 HO1' hsl
      go_upto_region 10 with fail
      go_loopw [8] (fun c wr => TriedAt l w2 c wr) (fun c _ => (16 - RowKit.intOf c).toNat)
      case atStart => exact ⟨0, by omega, rfl, fun j hj => absurd hj (by omega), Frm.Turn.refl _ _⟩
      case round =>
        obtain ⟨k, hk, rfl, htd, hT⟩ := hrel
        have HTD := Lib.hid htd
        have HTr := Lib.hid hT
        clear htd hT
        by_cases hlt : k < 15
        · have HNM : Hid (∀ W, Calls Tryd.prog 36 #[.int .i64 (k : Nat)] W fun e w' => e = .returned (.string ⟨(opT.nm k).toArray⟩) ∧ Frm.Turn [] W w') := Lib.hid (fun W => by have := name_any (k : Nat) W (by omega); simpa using this)
          have HUS : Hid (∀ W, Calls Tryd.prog 29 #[.int .i64 (k : Nat)] W fun e w' => e = .returned (.int .i64 (usesOf k)) ∧ Frm.Turn [] W w') := Lib.hid (fun W => by have := uses_any (k : Nat) W (by omega); simpa using this)
          have k15 : (k : Int) < 15 := by omega
          cases hnm : (opT.nm k == w0)
          · have hnm2 : (opT.nm k != w0) = true := by unfold bne; rw [hnm]; rfl
            have HNW := Lib.hid hnm
            go_upto_region 12 with fail
            go_region_held3 (fun w' => w'.cell? ⟨g, 0, none⟩ = some (.string ⟨w0.toArray⟩))
              (first | exact HW0.out _ (HTr.out.drew) | exact HW0.out _ R1.out | go_keep)
              (first
                | (go_at_call 36; (with_reducible refine (HNM.out _).mono ?_); rintro e r1 ⟨rfl, hT⟩; have R1 := Lib.hid ((HTr.out.drew).trans hT (by simp)); clear hT))
            go_wp2
            go_roundw
            case rel =>
              refine ⟨k + 1, by omega, by go_num, fun j hj => ?_, R1.out⟩
              rcases Nat.lt_succ_iff_lt_or_eq.1 hj with h | rfl
              · exact HTD.out j h
              · exact fits_no (.inl (by rw [HHD.out]; exact HNW.out))
            case measure => simp [RowKit.intOf]; omega
          · have hnm2 : (opT.nm k != w0) = false := by unfold bne; rw [hnm]; rfl
            have HNW := Lib.hid (beq_iff_eq.1 hnm)
            obtain ⟨u, hue⟩ : ∃ u, u = usesOf k := ⟨_, rfl⟩
            have hu := uses_vals k hlt
            rw [← hue] at hu HUS
            have HUE := Lib.hid hue
            clear hue
            go_upto_region 12 with fail
            go_region_held3 (fun w' => w'.cell? ⟨g, 0, none⟩ = some (.string ⟨w0.toArray⟩))
              (first | exact HW0.out _ (HTr.out.drew) | exact HW0.out _ R1.out | go_keep)
              (first
                | (go_at_call 36; (with_reducible refine (HNM.out _).mono ?_); rintro e r1 ⟨rfl, hT⟩; have R1 := Lib.hid ((HTr.out.drew).trans hT (by simp)); clear hT))
            have hbo : w2.heap.size ≤ r1.heap.size := R1.out.size
            go_upto_region 16 with (go_at_call 29; (with_reducible refine (HUS.out _).mono ?_); rintro e r2 ⟨rfl, hT⟩; have R2 := Lib.hid ((R1.out.alloc (.cells #[.int .i64 (k : Nat), .int .i64 0, .int .i64 0, .int .i64 0] 23)).trans hT (by simp)); have HBO2 := Lib.hid (hT.keep (World.alloc_heap_new r1 _) (by simp)); obtain ⟨⟨p0, p1, p2, p3⟩, q0, q1, q2, q3⟩ := blk4 HBO2.out; obtain ⟨n0, n1, n2⟩ := HNX.out _ R2.out; clear hT)
            clear hnm hnm2
            rcases hu with rfl | rfl | rfl | rfl | rfl
            · have hu := HUE.out.symm
              have hca := (cand_uses k hlt (numsOf l)).1 hu
              (try simp only [← E0.out, ← E1.out, ← E2.out] at hca)
              have hS0 := HBO2.out
              have R3 := Lib.hid R2.out
              have HS3 := Lib.hid hS0
              have HRR := Lib.hid (refRight_any (k : Nat) 0 0 0 r2)
              have HCA := Lib.hid hca
              clear hca hS0
              cases hat : decide ((0 : Nat) = ts.length)
              · have hq : ((0 : Int) == (ts.length : Int)) = false := by simp at hat; rw [beq_eq_false_iff_ne]; omega
                have HAT := Lib.hid hat
                clear hat HRR
                go_wp2
                go_roundw
                case rel =>
                  refine ⟨k + 1, by omega, by go_num, fun j hj => ?_, R3.out⟩
                  rcases Nat.lt_succ_iff_lt_or_eq.1 hj with h | rfl
                  · exact HTD.out j h
                  · exact fits_no (.inr (.inl (by rw [HCA.out.2.2.2, HLN.out]; have := HAT.out; simp at this; exact this)))
                case measure => simp [RowKit.intOf]; omega
              · have hq : ((0 : Int) == (ts.length : Int)) = true := by simp at hat; rw [beq_iff_eq]; omega
                have HAT := Lib.hid hat
                clear hat
                cases hrr : opT.rightB (k : Nat) 0 0 0
                · have HRF : Hid (opT.rightB (k : Nat) (opT.cK k (numsOf l)) (opT.cA k (numsOf l)) (opT.cB k (numsOf l)) = false) := Lib.hid (by rw [HCA.out.1, HCA.out.2.1, HCA.out.2.2.1]; exact hrr)
                  rw [hrr] at HRR
                  clear hrr
                  go_wp2_with (go_at_call 11; (with_reducible refine (HRR.out).mono ?_); rintro e r4 ⟨rfl, hT⟩; have R4 := Lib.hid (R3.out.trans hT (by simp)); clear hT)
                  go_roundw
                  case rel =>
                    refine ⟨k + 1, by omega, by go_num, fun j hj => ?_, R4.out⟩
                    rcases Nat.lt_succ_iff_lt_or_eq.1 hj with h | rfl
                    · exact HTD.out j h
                    · exact fits_no (.inr (.inr HRF.out))
                  case measure => simp [RowKit.intOf]; omega
                · have HRF : Hid (opT.parse l = some (k, 0, 0, 0)) := Lib.hid (by
                    have h3 : opT.rightB (k : Nat) (opT.cK k (numsOf l)) (opT.cA k (numsOf l)) (opT.cB k (numsOf l)) = true := by rw [HCA.out.1, HCA.out.2.1, HCA.out.2.2.1]; exact hrr
                    have hf := fits_yes (l := l) (k := k) (HNW.out.trans HHD.out.symm) (by rw [HCA.out.2.2.2, HLN.out]; have := HAT.out; simpa using this) h3
                    have := fits_parse opT_good hf
                    rw [HCA.out.1, HCA.out.2.1, HCA.out.2.2.1] at this
                    exact this)
                  rw [hrr] at HRR
                  clear hrr
                  go_wp2_with (go_at_call 11; (with_reducible refine (HRR.out).mono ?_); rintro e r4 ⟨rfl, hT⟩; obtain ⟨⟨y0, y1, y2, y3⟩, _⟩ := blk4 (hT.keep HS3.out (by simp)); have R4 := Lib.hid (R3.out.trans hT (by simp)); obtain ⟨⟨z0, z1, z2, z3⟩, f0, f1, f2, f3⟩ := blk4 (R4.out.keep HB2.out (by simp)); clear hT)
                  rw [HRF.out]
                  exact bodyPost_ret (v := .tuple #[.agg #[.int .i64 (k : Nat), .int .i64 0, .int .i64 0, .int .i64 0], .bool true]) (by simp [results, Tryd.results21, go_sem, z0, z1, z2, z3]) rfl ⟨rfl, (((((HT2.out.trans R4.out (by simp)).setCell (p := ⟨w.heap.size, 0, none⟩) (.inr (Nat.le_refl _)) _).setCell (p := ⟨w.heap.size, 1, none⟩) (.inr (Nat.le_refl _)) _).setCell (p := ⟨w.heap.size, 2, none⟩) (.inr (Nat.le_refl _)) _).setCell (p := ⟨w.heap.size, 3, none⟩) (.inr (Nat.le_refl _)) _)⟩
            · have hu := HUE.out.symm
              have hca := (cand_uses k hlt (numsOf l)).2.1 hu
              (try simp only [← E0.out, ← E1.out, ← E2.out] at hca)
              have hS0 := HBO2.out
              have hS1 : (r2.setCell ⟨r1.heap.size, 1, none⟩ (.int .i64 N0)).heap[r1.heap.size]? = some (.cells #[.int .i64 (k : Nat), .int .i64 N0, .int .i64 0, .int .i64 0] 23 (0, 0)) := by rw [Frm.heap_set _ _ _ _ _ _ _ hS0]; rfl
              have R3 := Lib.hid (R2.out.setCell (p := ⟨r1.heap.size, 1, none⟩) (.inr hbo) (.int .i64 N0))
              have HS3 := Lib.hid hS1
              have HRR := Lib.hid (refRight_any (k : Nat) N0 0 0 (r2.setCell ⟨r1.heap.size, 1, none⟩ (.int .i64 N0)))
              have HCA := Lib.hid hca
              clear hca hS0 hS1
              cases hat : decide ((1 : Nat) = ts.length)
              · have hq : ((1 : Int) == (ts.length : Int)) = false := by simp at hat; rw [beq_eq_false_iff_ne]; omega
                have HAT := Lib.hid hat
                clear hat HRR
                go_wp2
                go_roundw
                case rel =>
                  refine ⟨k + 1, by omega, by go_num, fun j hj => ?_, R3.out⟩
                  rcases Nat.lt_succ_iff_lt_or_eq.1 hj with h | rfl
                  · exact HTD.out j h
                  · exact fits_no (.inr (.inl (by rw [HCA.out.2.2.2, HLN.out]; have := HAT.out; simp at this; exact this)))
                case measure => simp [RowKit.intOf]; omega
              · have hq : ((1 : Int) == (ts.length : Int)) = true := by simp at hat; rw [beq_iff_eq]; omega
                have HAT := Lib.hid hat
                clear hat
                cases hrr : opT.rightB (k : Nat) N0 0 0
                · have HRF : Hid (opT.rightB (k : Nat) (opT.cK k (numsOf l)) (opT.cA k (numsOf l)) (opT.cB k (numsOf l)) = false) := Lib.hid (by rw [HCA.out.1, HCA.out.2.1, HCA.out.2.2.1]; exact hrr)
                  rw [hrr] at HRR
                  clear hrr
                  go_wp2_with (go_at_call 11; (with_reducible refine (HRR.out).mono ?_); rintro e r4 ⟨rfl, hT⟩; have R4 := Lib.hid (R3.out.trans hT (by simp)); clear hT)
                  go_roundw
                  case rel =>
                    refine ⟨k + 1, by omega, by go_num, fun j hj => ?_, R4.out⟩
                    rcases Nat.lt_succ_iff_lt_or_eq.1 hj with h | rfl
                    · exact HTD.out j h
                    · exact fits_no (.inr (.inr HRF.out))
                  case measure => simp [RowKit.intOf]; omega
                · have HRF : Hid (opT.parse l = some (k, N0, 0, 0)) := Lib.hid (by
                    have h3 : opT.rightB (k : Nat) (opT.cK k (numsOf l)) (opT.cA k (numsOf l)) (opT.cB k (numsOf l)) = true := by rw [HCA.out.1, HCA.out.2.1, HCA.out.2.2.1]; exact hrr
                    have hf := fits_yes (l := l) (k := k) (HNW.out.trans HHD.out.symm) (by rw [HCA.out.2.2.2, HLN.out]; have := HAT.out; simpa using this) h3
                    have := fits_parse opT_good hf
                    rw [HCA.out.1, HCA.out.2.1, HCA.out.2.2.1] at this
                    exact this)
                  rw [hrr] at HRR
                  clear hrr
                  go_wp2_with (go_at_call 11; (with_reducible refine (HRR.out).mono ?_); rintro e r4 ⟨rfl, hT⟩; obtain ⟨⟨y0, y1, y2, y3⟩, _⟩ := blk4 (hT.keep HS3.out (by simp)); have R4 := Lib.hid (R3.out.trans hT (by simp)); obtain ⟨⟨z0, z1, z2, z3⟩, f0, f1, f2, f3⟩ := blk4 (R4.out.keep HB2.out (by simp)); clear hT)
                  rw [HRF.out]
                  exact bodyPost_ret (v := .tuple #[.agg #[.int .i64 (k : Nat), .int .i64 N0, .int .i64 0, .int .i64 0], .bool true]) (by simp [results, Tryd.results21, go_sem, z0, z1, z2, z3]) rfl ⟨rfl, (((((HT2.out.trans R4.out (by simp)).setCell (p := ⟨w.heap.size, 0, none⟩) (.inr (Nat.le_refl _)) _).setCell (p := ⟨w.heap.size, 1, none⟩) (.inr (Nat.le_refl _)) _).setCell (p := ⟨w.heap.size, 2, none⟩) (.inr (Nat.le_refl _)) _).setCell (p := ⟨w.heap.size, 3, none⟩) (.inr (Nat.le_refl _)) _)⟩
            · have hu := HUE.out.symm
              have hca := (cand_uses k hlt (numsOf l)).2.2.1 hu
              (try simp only [← E0.out, ← E1.out, ← E2.out] at hca)
              have hS0 := HBO2.out
              have hS1 : (r2.setCell ⟨r1.heap.size, 2, none⟩ (.int .i64 N0)).heap[r1.heap.size]? = some (.cells #[.int .i64 (k : Nat), .int .i64 0, .int .i64 N0, .int .i64 0] 23 (0, 0)) := by rw [Frm.heap_set _ _ _ _ _ _ _ hS0]; rfl
              have R3 := Lib.hid (R2.out.setCell (p := ⟨r1.heap.size, 2, none⟩) (.inr hbo) (.int .i64 N0))
              have HS3 := Lib.hid hS1
              have HRR := Lib.hid (refRight_any (k : Nat) 0 N0 0 (r2.setCell ⟨r1.heap.size, 2, none⟩ (.int .i64 N0)))
              have HCA := Lib.hid hca
              clear hca hS0 hS1
              cases hat : decide ((1 : Nat) = ts.length)
              · have hq : ((1 : Int) == (ts.length : Int)) = false := by simp at hat; rw [beq_eq_false_iff_ne]; omega
                have HAT := Lib.hid hat
                clear hat HRR
                go_wp2
                go_roundw
                case rel =>
                  refine ⟨k + 1, by omega, by go_num, fun j hj => ?_, R3.out⟩
                  rcases Nat.lt_succ_iff_lt_or_eq.1 hj with h | rfl
                  · exact HTD.out j h
                  · exact fits_no (.inr (.inl (by rw [HCA.out.2.2.2, HLN.out]; have := HAT.out; simp at this; exact this)))
                case measure => simp [RowKit.intOf]; omega
              · have hq : ((1 : Int) == (ts.length : Int)) = true := by simp at hat; rw [beq_iff_eq]; omega
                have HAT := Lib.hid hat
                clear hat
                cases hrr : opT.rightB (k : Nat) 0 N0 0
                · have HRF : Hid (opT.rightB (k : Nat) (opT.cK k (numsOf l)) (opT.cA k (numsOf l)) (opT.cB k (numsOf l)) = false) := Lib.hid (by rw [HCA.out.1, HCA.out.2.1, HCA.out.2.2.1]; exact hrr)
                  rw [hrr] at HRR
                  clear hrr
                  go_wp2_with (go_at_call 11; (with_reducible refine (HRR.out).mono ?_); rintro e r4 ⟨rfl, hT⟩; have R4 := Lib.hid (R3.out.trans hT (by simp)); clear hT)
                  go_roundw
                  case rel =>
                    refine ⟨k + 1, by omega, by go_num, fun j hj => ?_, R4.out⟩
                    rcases Nat.lt_succ_iff_lt_or_eq.1 hj with h | rfl
                    · exact HTD.out j h
                    · exact fits_no (.inr (.inr HRF.out))
                  case measure => simp [RowKit.intOf]; omega
                · have HRF : Hid (opT.parse l = some (k, 0, N0, 0)) := Lib.hid (by
                    have h3 : opT.rightB (k : Nat) (opT.cK k (numsOf l)) (opT.cA k (numsOf l)) (opT.cB k (numsOf l)) = true := by rw [HCA.out.1, HCA.out.2.1, HCA.out.2.2.1]; exact hrr
                    have hf := fits_yes (l := l) (k := k) (HNW.out.trans HHD.out.symm) (by rw [HCA.out.2.2.2, HLN.out]; have := HAT.out; simpa using this) h3
                    have := fits_parse opT_good hf
                    rw [HCA.out.1, HCA.out.2.1, HCA.out.2.2.1] at this
                    exact this)
                  rw [hrr] at HRR
                  clear hrr
                  go_wp2_with (go_at_call 11; (with_reducible refine (HRR.out).mono ?_); rintro e r4 ⟨rfl, hT⟩; obtain ⟨⟨y0, y1, y2, y3⟩, _⟩ := blk4 (hT.keep HS3.out (by simp)); have R4 := Lib.hid (R3.out.trans hT (by simp)); obtain ⟨⟨z0, z1, z2, z3⟩, f0, f1, f2, f3⟩ := blk4 (R4.out.keep HB2.out (by simp)); clear hT)
                  rw [HRF.out]
                  exact bodyPost_ret (v := .tuple #[.agg #[.int .i64 (k : Nat), .int .i64 0, .int .i64 N0, .int .i64 0], .bool true]) (by simp [results, Tryd.results21, go_sem, z0, z1, z2, z3]) rfl ⟨rfl, (((((HT2.out.trans R4.out (by simp)).setCell (p := ⟨w.heap.size, 0, none⟩) (.inr (Nat.le_refl _)) _).setCell (p := ⟨w.heap.size, 1, none⟩) (.inr (Nat.le_refl _)) _).setCell (p := ⟨w.heap.size, 2, none⟩) (.inr (Nat.le_refl _)) _).setCell (p := ⟨w.heap.size, 3, none⟩) (.inr (Nat.le_refl _)) _)⟩
            · have hu := HUE.out.symm
              have hca := (cand_uses k hlt (numsOf l)).2.2.2.1 hu
              (try simp only [← E0.out, ← E1.out, ← E2.out] at hca)
              have hS0 := HBO2.out
              have hS1 : (r2.setCell ⟨r1.heap.size, 1, none⟩ (.int .i64 N0)).heap[r1.heap.size]? = some (.cells #[.int .i64 (k : Nat), .int .i64 N0, .int .i64 0, .int .i64 0] 23 (0, 0)) := by rw [Frm.heap_set _ _ _ _ _ _ _ hS0]; rfl
              have hS2 : ((r2.setCell ⟨r1.heap.size, 1, none⟩ (.int .i64 N0)).setCell ⟨r1.heap.size, 2, none⟩ (.int .i64 N1)).heap[r1.heap.size]? = some (.cells #[.int .i64 (k : Nat), .int .i64 N0, .int .i64 N1, .int .i64 0] 23 (0, 0)) := by rw [Frm.heap_set _ _ _ _ _ _ _ hS1]; rfl
              have R3 := Lib.hid ((R2.out.setCell (p := ⟨r1.heap.size, 1, none⟩) (.inr hbo) (.int .i64 N0)).setCell (p := ⟨r1.heap.size, 2, none⟩) (.inr hbo) (.int .i64 N1))
              have HS3 := Lib.hid hS2
              have HRR := Lib.hid (refRight_any (k : Nat) N0 N1 0 ((r2.setCell ⟨r1.heap.size, 1, none⟩ (.int .i64 N0)).setCell ⟨r1.heap.size, 2, none⟩ (.int .i64 N1)))
              have HCA := Lib.hid hca
              clear hca hS0 hS1 hS2
              cases hat : decide ((2 : Nat) = ts.length)
              · have hq : ((2 : Int) == (ts.length : Int)) = false := by simp at hat; rw [beq_eq_false_iff_ne]; omega
                have HAT := Lib.hid hat
                clear hat HRR
                go_wp2
                go_roundw
                case rel =>
                  refine ⟨k + 1, by omega, by go_num, fun j hj => ?_, R3.out⟩
                  rcases Nat.lt_succ_iff_lt_or_eq.1 hj with h | rfl
                  · exact HTD.out j h
                  · exact fits_no (.inr (.inl (by rw [HCA.out.2.2.2, HLN.out]; have := HAT.out; simp at this; exact this)))
                case measure => simp [RowKit.intOf]; omega
              · have hq : ((2 : Int) == (ts.length : Int)) = true := by simp at hat; rw [beq_iff_eq]; omega
                have HAT := Lib.hid hat
                clear hat
                cases hrr : opT.rightB (k : Nat) N0 N1 0
                · have HRF : Hid (opT.rightB (k : Nat) (opT.cK k (numsOf l)) (opT.cA k (numsOf l)) (opT.cB k (numsOf l)) = false) := Lib.hid (by rw [HCA.out.1, HCA.out.2.1, HCA.out.2.2.1]; exact hrr)
                  rw [hrr] at HRR
                  clear hrr
                  go_wp2_with (go_at_call 11; (with_reducible refine (HRR.out).mono ?_); rintro e r4 ⟨rfl, hT⟩; have R4 := Lib.hid (R3.out.trans hT (by simp)); clear hT)
                  go_roundw
                  case rel =>
                    refine ⟨k + 1, by omega, by go_num, fun j hj => ?_, R4.out⟩
                    rcases Nat.lt_succ_iff_lt_or_eq.1 hj with h | rfl
                    · exact HTD.out j h
                    · exact fits_no (.inr (.inr HRF.out))
                  case measure => simp [RowKit.intOf]; omega
                · have HRF : Hid (opT.parse l = some (k, N0, N1, 0)) := Lib.hid (by
                    have h3 : opT.rightB (k : Nat) (opT.cK k (numsOf l)) (opT.cA k (numsOf l)) (opT.cB k (numsOf l)) = true := by rw [HCA.out.1, HCA.out.2.1, HCA.out.2.2.1]; exact hrr
                    have hf := fits_yes (l := l) (k := k) (HNW.out.trans HHD.out.symm) (by rw [HCA.out.2.2.2, HLN.out]; have := HAT.out; simpa using this) h3
                    have := fits_parse opT_good hf
                    rw [HCA.out.1, HCA.out.2.1, HCA.out.2.2.1] at this
                    exact this)
                  rw [hrr] at HRR
                  clear hrr
                  go_wp2_with (go_at_call 11; (with_reducible refine (HRR.out).mono ?_); rintro e r4 ⟨rfl, hT⟩; obtain ⟨⟨y0, y1, y2, y3⟩, _⟩ := blk4 (hT.keep HS3.out (by simp)); have R4 := Lib.hid (R3.out.trans hT (by simp)); obtain ⟨⟨z0, z1, z2, z3⟩, f0, f1, f2, f3⟩ := blk4 (R4.out.keep HB2.out (by simp)); clear hT)
                  rw [HRF.out]
                  exact bodyPost_ret (v := .tuple #[.agg #[.int .i64 (k : Nat), .int .i64 N0, .int .i64 N1, .int .i64 0], .bool true]) (by simp [results, Tryd.results21, go_sem, z0, z1, z2, z3]) rfl ⟨rfl, (((((HT2.out.trans R4.out (by simp)).setCell (p := ⟨w.heap.size, 0, none⟩) (.inr (Nat.le_refl _)) _).setCell (p := ⟨w.heap.size, 1, none⟩) (.inr (Nat.le_refl _)) _).setCell (p := ⟨w.heap.size, 2, none⟩) (.inr (Nat.le_refl _)) _).setCell (p := ⟨w.heap.size, 3, none⟩) (.inr (Nat.le_refl _)) _)⟩
            · have hu := HUE.out.symm
              have hca := (cand_uses k hlt (numsOf l)).2.2.2.2 hu
              (try simp only [← E0.out, ← E1.out, ← E2.out] at hca)
              have hS0 := HBO2.out
              have hS1 : (r2.setCell ⟨r1.heap.size, 1, none⟩ (.int .i64 N0)).heap[r1.heap.size]? = some (.cells #[.int .i64 (k : Nat), .int .i64 N0, .int .i64 0, .int .i64 0] 23 (0, 0)) := by rw [Frm.heap_set _ _ _ _ _ _ _ hS0]; rfl
              have hS2 : ((r2.setCell ⟨r1.heap.size, 1, none⟩ (.int .i64 N0)).setCell ⟨r1.heap.size, 2, none⟩ (.int .i64 N1)).heap[r1.heap.size]? = some (.cells #[.int .i64 (k : Nat), .int .i64 N0, .int .i64 N1, .int .i64 0] 23 (0, 0)) := by rw [Frm.heap_set _ _ _ _ _ _ _ hS1]; rfl
              have hS3 : (((r2.setCell ⟨r1.heap.size, 1, none⟩ (.int .i64 N0)).setCell ⟨r1.heap.size, 2, none⟩ (.int .i64 N1)).setCell ⟨r1.heap.size, 3, none⟩ (.int .i64 N2)).heap[r1.heap.size]? = some (.cells #[.int .i64 (k : Nat), .int .i64 N0, .int .i64 N1, .int .i64 N2] 23 (0, 0)) := by rw [Frm.heap_set _ _ _ _ _ _ _ hS2]; rfl
              have R3 := Lib.hid (((R2.out.setCell (p := ⟨r1.heap.size, 1, none⟩) (.inr hbo) (.int .i64 N0)).setCell (p := ⟨r1.heap.size, 2, none⟩) (.inr hbo) (.int .i64 N1)).setCell (p := ⟨r1.heap.size, 3, none⟩) (.inr hbo) (.int .i64 N2))
              have HS3 := Lib.hid hS3
              have HRR := Lib.hid (refRight_any (k : Nat) N0 N1 N2 (((r2.setCell ⟨r1.heap.size, 1, none⟩ (.int .i64 N0)).setCell ⟨r1.heap.size, 2, none⟩ (.int .i64 N1)).setCell ⟨r1.heap.size, 3, none⟩ (.int .i64 N2)))
              have HCA := Lib.hid hca
              clear hca hS0 hS1 hS2 hS3
              cases hat : decide ((3 : Nat) = ts.length)
              · have hq : ((3 : Int) == (ts.length : Int)) = false := by simp at hat; rw [beq_eq_false_iff_ne]; omega
                have HAT := Lib.hid hat
                clear hat HRR
                go_wp2
                go_roundw
                case rel =>
                  refine ⟨k + 1, by omega, by go_num, fun j hj => ?_, R3.out⟩
                  rcases Nat.lt_succ_iff_lt_or_eq.1 hj with h | rfl
                  · exact HTD.out j h
                  · exact fits_no (.inr (.inl (by rw [HCA.out.2.2.2, HLN.out]; have := HAT.out; simp at this; exact this)))
                case measure => simp [RowKit.intOf]; omega
              · have hq : ((3 : Int) == (ts.length : Int)) = true := by simp at hat; rw [beq_iff_eq]; omega
                have HAT := Lib.hid hat
                clear hat
                cases hrr : opT.rightB (k : Nat) N0 N1 N2
                · have HRF : Hid (opT.rightB (k : Nat) (opT.cK k (numsOf l)) (opT.cA k (numsOf l)) (opT.cB k (numsOf l)) = false) := Lib.hid (by rw [HCA.out.1, HCA.out.2.1, HCA.out.2.2.1]; exact hrr)
                  rw [hrr] at HRR
                  clear hrr
                  go_wp2_with (go_at_call 11; (with_reducible refine (HRR.out).mono ?_); rintro e r4 ⟨rfl, hT⟩; have R4 := Lib.hid (R3.out.trans hT (by simp)); clear hT)
                  go_roundw
                  case rel =>
                    refine ⟨k + 1, by omega, by go_num, fun j hj => ?_, R4.out⟩
                    rcases Nat.lt_succ_iff_lt_or_eq.1 hj with h | rfl
                    · exact HTD.out j h
                    · exact fits_no (.inr (.inr HRF.out))
                  case measure => simp [RowKit.intOf]; omega
                · have HRF : Hid (opT.parse l = some (k, N0, N1, N2)) := Lib.hid (by
                    have h3 : opT.rightB (k : Nat) (opT.cK k (numsOf l)) (opT.cA k (numsOf l)) (opT.cB k (numsOf l)) = true := by rw [HCA.out.1, HCA.out.2.1, HCA.out.2.2.1]; exact hrr
                    have hf := fits_yes (l := l) (k := k) (HNW.out.trans HHD.out.symm) (by rw [HCA.out.2.2.2, HLN.out]; have := HAT.out; simpa using this) h3
                    have := fits_parse opT_good hf
                    rw [HCA.out.1, HCA.out.2.1, HCA.out.2.2.1] at this
                    exact this)
                  rw [hrr] at HRR
                  clear hrr
                  go_wp2_with (go_at_call 11; (with_reducible refine (HRR.out).mono ?_); rintro e r4 ⟨rfl, hT⟩; obtain ⟨⟨y0, y1, y2, y3⟩, _⟩ := blk4 (hT.keep HS3.out (by simp)); have R4 := Lib.hid (R3.out.trans hT (by simp)); obtain ⟨⟨z0, z1, z2, z3⟩, f0, f1, f2, f3⟩ := blk4 (R4.out.keep HB2.out (by simp)); clear hT)
                  rw [HRF.out]
                  exact bodyPost_ret (v := .tuple #[.agg #[.int .i64 (k : Nat), .int .i64 N0, .int .i64 N1, .int .i64 N2], .bool true]) (by simp [results, Tryd.results21, go_sem, z0, z1, z2, z3]) rfl ⟨rfl, (((((HT2.out.trans R4.out (by simp)).setCell (p := ⟨w.heap.size, 0, none⟩) (.inr (Nat.le_refl _)) _).setCell (p := ⟨w.heap.size, 1, none⟩) (.inr (Nat.le_refl _)) _).setCell (p := ⟨w.heap.size, 2, none⟩) (.inr (Nat.le_refl _)) _).setCell (p := ⟨w.heap.size, 3, none⟩) (.inr (Nat.le_refl _)) _)⟩
        · have hke : k = 15 := by omega
          subst hke
          have HPN := Lib.hid (parse_not opT_good (l := l) (fun c hc => HTD.out c hc))
          obtain ⟨⟨z0, z1, z2, z3⟩, f0, f1, f2, f3⟩ := blk4 (HTr.out.keep HB2.out (by simp))
          go_wp2
          rw [HPN.out]
          exact bodyPost_ret (v := .tuple #[.agg #[.int .i64 0, .int .i64 0, .int .i64 0, .int .i64 0], .bool false]) (by simp [results, Tryd.results21, go_sem, z0, z1, z2, z3]) rfl ⟨rfl, (((((HT2.out.trans HTr.out (by simp)).setCell (p := ⟨w.heap.size, 0, none⟩) (.inr (Nat.le_refl _)) _).setCell (p := ⟨w.heap.size, 1, none⟩) (.inr (Nat.le_refl _)) _).setCell (p := ⟨w.heap.size, 2, none⟩) (.inr (Nat.le_refl _)) _).setCell (p := ⟨w.heap.size, 3, none⟩) (.inr (Nat.le_refl _)) _)⟩
end Ops
end Go.Proofs.YtlfejjegegdbnaaDoor
