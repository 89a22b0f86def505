/- The walk of CountBack. -/
import Derived.Test.YtolcpfidmpoipaaCountBackMem
import Derived.Test.YtolcpfidmpoipaaArenaBlocks
set_option linter.unusedVariables false
set_option linter.unusedSimpArgs false
namespace Go.Proofs.Ytolcpfidmpoipaa
namespace Cnt
open Go.RowKit Go.Maps Arn Pac Clm

variable {w W W' : World} {b kh cb ib pb n k m i : Nat} {rr qq : Nat → Nat} {c : Nat → Option Ct} {A : Ar} {C : Ct} {ohs op : Obj} {sl : Nat → Nat} {inn : Nat → Bool}
theorem under_cts : Try.prog.underlying 35 = some (.slice 40) := by kernel_rfl
theorem info_cts : (Try.prog.info? 40).map (fun i => (i.zero, i.size, i.bytes)) = some (some (.pointer none), 1, 8) := by kernel_rfl
theorem under_bools : Try.prog.underlying 36 = some (.slice 4) := by kernel_rfl
theorem info_bool : (Try.prog.info? 4).map (fun i => (i.zero, i.size, i.bytes)) = some (some (.bool false), 1, 1) := by kernel_rfl
theorem made_cts (x n : Nat) (hn : n ≤ 60000) (w : World) : (Instr.makeSlice 35 (.int .i64 (n : Int)) (.int .i64 (n : Int))).run Try.prog w = .ok (.slice (some ⟨w.heap.size, 0, none⟩) n n) (w.alloc (oPtrs (fun _ => x) (fun _ => none) n)) := by
  obtain ⟨i, h1, h2, h3, h4⟩ := Dr.info_parts info_cts
  have hr := run_make (P := Try.prog) w 35 40 i (.pointer none) under_cts h1 h2 .i64 .i64 n n (by omega) (by omega) (by rw [h4]; omega) (by omega)
  simp only [Int.toNat_natCast, h3, Nat.mul_one] at hr
  have e : madeCells #[.pointer none] n = (ptrsC (fun _ => x) (fun _ => none) n).toArray := by
    apply Array.toList_inj.1
    rw [toList_madeCells_one]
    simp only [ptrsC]
    apply List.ext_getElem?
    intro j
    by_cases h : j < n <;> simp [h]
  unfold oPtrs
  rw [← e]
  exact hr
theorem made_bools (n : Nat) (hn : n ≤ 60000) (w : World) : (Instr.makeSlice 36 (.int .i64 (n : Int)) (.int .i64 (n : Int))).run Try.prog w = .ok (.slice (some ⟨w.heap.size, 0, none⟩) n n) (w.alloc (oBools (fun _ => false) n)) := by
  obtain ⟨i, h1, h2, h3, h4⟩ := Dr.info_parts info_bool
  have hr := run_make (P := Try.prog) w 36 4 i (.bool false) under_bools h1 h2 .i64 .i64 n n (by omega) (by omega) (by rw [h4]; omega) (by omega)
  simp only [Int.toNat_natCast, h3, Nat.mul_one] at hr
  have e : madeCells #[.bool false] n = (bools (fun _ => false) n).toArray := by
    apply Array.toList_inj.1
    rw [toList_madeCells_one]
    simp only [bools]
    apply List.ext_getElem?
    intro j
    by_cases h : j < n <;> simp [h]
  unfold oBools
  rw [← e]
  exact hr
theorem back_start {K : List Nat} (hk : Kin w b K A k W) (hkh : kh ∈ K) (ho : W.heap[kh]? = some ohs) (hl : w.heap.size ≤ kh) (h8 : k ≤ 8) (I : SegA A 4 zF) (hn : n ≤ 12) (hs : ∀ i, sl i < 15) (x : Nat) :
    BackR w b kh W.heap.size (W.heap.size + 1) ohs sl n 0 ((W.alloc (oPtrs (fun _ => x) (fun _ => none) n)).alloc (oBools (fun _ => false) n)) := by
  have l1 := hk.lt hkh
  have l2 := hk.turn.size
  have e1 := World.alloc_heap_new W (oPtrs (fun _ => x) (fun _ => none) n)
  have e2 := World.alloc_heap_new (W.alloc (oPtrs (fun _ => x) (fun _ => none) n)) (oBools (fun _ => false) n)
  rw [World.size_alloc] at e2
  have e1' := ((Frm.Turn.refl [] (W.alloc (oPtrs (fun _ => x) (fun _ => none) n))).alloc (oBools (fun _ => false) n)).keep e1 (by simp)
  have hT : Frm.Turn [] W ((W.alloc (oPtrs (fun _ => x) (fun _ => none) n)).alloc (oBools (fun _ => false) n)) := ((Frm.Turn.refl [] W).alloc _).alloc _
  have b4 := (Array.getElem?_eq_some_iff.1 e1').1
  have b5 := (Array.getElem?_eq_some_iff.1 e2).1
  have hk' : Kin w b (W.heap.size :: (W.heap.size + 1) :: K) A k _ := kin_adds hk hT (fun q hq => by
    simp only [List.mem_cons] at hq
    rcases hq with rfl | rfl | h
    · exact .inr ⟨Nat.le_refl _, b4⟩
    · exact .inr ⟨by omega, b5⟩
    · exact .inl h)
  have hp : ptrsC (fun _ => x) (fun _ => none) n = ptrsC (fun _ => kh) (fun _ => none) n := rfl
  refine ⟨fun _ => kh, fun _ => kh, fun _ => none, fun _ => false, A, k, ⟨crew_new hk' (fun p hp => ?_) ?_ (x := kh) (by simp [hkh]), I.congr (fun g j _ _ => ?_), fun i C _ hc => (by cases hc), hn, hs⟩, by omega, fun i _ _ => ⟨fun _ => rfl, fun C hc => (by cases hc)⟩⟩
  · simp only [backX, List.mem_cons, List.not_mem_nil, or_false] at hp
    rcases hp with rfl | rfl | rfl
    · exact ⟨by simp [hkh], hT.keep ho (by simp), hl⟩
    · exact ⟨by simp, e1', by dsimp only; omega⟩
    · exact ⟨by simp, e2, by dsimp only; omega⟩
  · simp only [backX, List.map_cons, List.map_nil, List.nodup_cons, List.mem_cons, List.not_mem_nil, or_false, not_or, not_false_eq_true, and_true, List.nodup_nil]
    exact ⟨⟨by omega, by omega⟩, by omega⟩
  · rw [all_thru (sl := sl) (fun i C _ hc => (by cases hc)) (fun i _ C hc => (by cases hc))]; rfl
theorem gotCells_len (l : List Got) : (gotCells l).length = l.length * 2 := by
  induction l with
  | nil => rfl
  | cons x t ih => simp only [gotCells, List.flatMap_cons, List.length_append, List.length_cons, List.length_nil] at ih ⊢; omega
theorem gotCells_get : ∀ (l : List Got) (i : Nat) (y : Got), l[i]? = some y → (gotCells l)[i * 2]? = some (.int .u64 y.1.h) ∧ (gotCells l)[i * 2 + 1]? = some (.slice (some ⟨y.2.1, 0, none⟩) y.1.ws.length y.2.2) := by
  intro l
  induction l with
  | nil => intro i y h; simp at h
  | cons x t ih =>
    intro i y h
    cases i with
    | zero => simp at h; subst h; simp [gotCells]
    | succ i =>
      simp at h
      have := ih i y h
      have e : (i + 1) * 2 = i * 2 + 2 := by omega
      have e2 : (i + 1) * 2 + 1 = (i * 2 + 1) + 2 := by omega
      rw [e2, e]
      simpa [gotCells] using this
/-- At the end: the blocks, and no fault. -/
theorem fin_blocks (h : FinR w b kh cb ib ohs sl n n W) : (Calls Try.prog 12 #[.pointer (some ⟨b, 0, none⟩), .int .i64 9] W fun e w' => ∃ v ys, e = .returned v ∧ w'.ownsRow W.heap.size 45 2 v ys.length (gotCells ys) ∧
      ys.length ≤ 9 ∧ (∀ y, y ∈ ys → HasRow w' y ∧ y.1.ws.length ≤ 2048 ∧ ∀ (u : Nat) (x : Int), y.1.ws[u]? = some x → x = 0) ∧ Frm.Turn [] W w') ∧
    ∀ W', Frm.Turn [] W W' → Calls Try.prog 13 #[.pointer (some ⟨b, 0, none⟩)] W' fun e w' => e = .returned (.int .i64 0) ∧ W' = w' := by
  obtain ⟨rr, qq, c, inn, A, k, S, h1, h2, h3⟩ := h
  refine ⟨?_, fun W' hT => (S.crew.turn hT).faults S.seg.clean⟩
  obtain ⟨M, hs, _⟩ := S.crew.kin
  refine (blocks_any hs.at_ 9).mono ?_
  rintro e w' ⟨v, ys, he, h4, h5, h6, h7⟩
  have hz := fun g j => all_thru S.gd h3 g j
  refine ⟨v, ys, he, h4, ?_, fun y hy => ⟨h6 y hy, ?_⟩, h7⟩
  · have := congrArg List.length h5
    rw [List.length_map, List.length_take] at this
    have e9 : (9 : Int).toNat = 9 := rfl
    omega
  · have hm : y.1 ∈ A.L := List.mem_of_mem_take (by rw [← h5]; exact List.mem_map_of_mem hy)
    refine ⟨(S.seg.ok.len _ hm).2, fun u x hx => ?_⟩
    rw [S.seg.L] at hm
    obtain ⟨g, hg, e⟩ := List.mem_map.1 hm
    rw [← e] at hx
    simp only [rowF, List.getElem?_map] at hx
    obtain ⟨q, hq, hq2⟩ := Option.map_eq_some_iff.1 hx
    rw [hz] at hq2
    exact hq2.symm
set_option maxRecDepth 100000 in
set_option maxHeartbeats 4000000 in
theorem back_any (v1 v2 : Value) (z1 z2 : Nat → Int) (n m : Nat) (w : World) (hb1 : BytesC w v1 z1 n) (hz1 : ∀ i, i < n → 0 ≤ z1 i ∧ z1 i < 256) (hb2 : BytesC w v2 z2 m) (hz2 : ∀ i, i < m → 0 ≤ z2 i ∧ z2 i < 256) (hn : n ≤ 9223372036854775807) (hm : m ≤ 9223372036854775807) :
    Calls Try.prog 3 #[v1, v2] w fun e w' => e = .returned (.bool true) ∧ Frm.Turn [] w w' := by
  have HF := Lib.hid (first_any w)
  obtain ⟨⟨ao1, vc1, rfl⟩, hb1'⟩ := hb1
  obtain ⟨⟨ao2, vc2, rfl⟩, hb2'⟩ := hb2
  have HB1 := Lib.hid hb1'
  have HB2 := Lib.hid hb2'
  have HZ1 := Lib.hid hz1
  have HZ2 := Lib.hid hz2
  clear hb1' hb2' hz1 hz2
  by_cases hbad : n = 0 ∨ 12 < n ∨ 300 < m
  · have hc : n = 0 ∨ (((n : Int) == 0) = false ∧ (12 : Int) < (n : Int)) ∨ (((n : Int) == 0) = false ∧ ¬ (12 : Int) < (n : Int) ∧ (300 : Int) < (m : Int)) := by
      by_cases h0 : n = 0
      · left; omega
      · have h0' : ((n : Int) == 0) = false := by simpa using h0
        by_cases h1 : 12 < n
        · exact .inr (.inl ⟨h0', by omega⟩)
        · exact .inr (.inr ⟨h0', by omega, by omega⟩)
    clear hbad HB1 HB2 HZ1 HZ2 hn hm
    rcases hc with rfl | ⟨h, h1⟩ | ⟨h, h1, h2⟩
    all_goals
      go_enter Try.func3, Try.ntmps3
      go_wp2_with (first
        | (go_at_call 5; (with_reducible refine (HF.out).mono ?_); rintro e w1 ⟨rfl, hT⟩; have HT1 := Lib.hid hT; clear hT))
      go_ret
      exact ⟨rfl, HT1.out⟩
  · obtain ⟨h0, h1, h2⟩ : n ≠ 0 ∧ n ≤ 12 ∧ m ≤ 300 := ⟨by omega, by omega, by omega⟩
    have g0 : ((n : Int) == 0) = false := by simpa using h0
    have g1 : ¬ (12 : Int) < (n : Int) := by omega
    have g2 : ¬ (300 : Int) < (m : Int) := by omega
    have HN0 := Lib.hid h0
    have HN12 := Lib.hid h1
    have HM := Lib.hid h2
    obtain ⟨fs, hfs⟩ := struct_of under_refA
    have HFS := Lib.hid hfs
    have hmc := made_cts 0 n (by omega)
    have hmb := made_bools n (by omega)
    obtain ⟨sl, HSL⟩ : ∃ sl : Nat → Nat, Hid (sl = fun i => (z1 i % 15).toNat) := ⟨_, Lib.hid rfl⟩
    have HS15 : Hid (∀ i, sl i < 15) := Lib.hid (fun i => by rw [HSL.out]; dsimp only; omega)
    clear hn hm hbad h0 h1 h2
    go_enter Try.func3, Try.ntmps3
    go_upto_region 6 with (first
      | (go_at_call 5; (with_reducible refine (HF.out).mono ?_); rintro e w1 ⟨rfl, hT⟩; have HT1 := Lib.hid hT; have HSG := Lib.hid (segs4 w w1 hT); clear hT)
      | (go_at_call 6; (with_reducible refine (HSG.out).mono ?_); rintro e w2 ⟨b, CS, kh, c, ohs, A, k, K, rfl, q1, q2, q3, q4, q5, q6, q7, q8, q9⟩; have HZZ1 := Lib.hid q1; have HZZ2 := Lib.hid q2; have HQ := Lib.hid (And.intro q3 (And.intro q4 (And.intro q5 (And.intro q7 (And.intro q8 q9))))); have HO := Lib.hid q6; clear q1 q2 q3 q4 q5 q6 q7 q8 q9)
      | (refine wpList_store_row rfl 31 (.tmp 6) (.tmp 38) rfl w2.heap.size CS rfl rfl 31 _ (World.alloc_heap_new w2 _) (by rw [HZZ1.out]; exact info_refA) (by rw [HZZ1.out]; rfl) HZZ2.out ?_))
    generalize hw5 : World.setRow _ w2.heap.size CS = w5
    have HT5 : Hid (Frm.Turn [] w2 w5) := Lib.hid (by rw [← hw5]; exact setRow_turn ((Frm.Turn.refl [] w2).alloc _) (.inr (Nat.le_refl _)) CS)
    obtain ⟨q1, q2, q3, q4, q5, q6⟩ := HQ.out
    have hst := back_start (sl := sl) (q1.step HT5.out) q2 (HT5.out.keep q3 (by simp)) q4 q5 q6 HN12.out HS15.out 0
    have HHO := HO
    clear hw5 HSG HF HQ HT5 HZZ1 HZZ2 q1 q2 q3 q4 q5 q6 HO
    go_wp2_with fail
    generalize w5.heap.size + 1 = ib at hst ⊢
    generalize w5.heap.size = cb at hst ⊢
    go_loopw [48] (fun i wr => ∃ j : Nat, j ≤ m ∧ i = .int .i64 j ∧ BackR w b kh cb ib ohs sl n j wr) (fun i _ => m - (intOf i).toNat)
    case atStart => exact ⟨0, Nat.zero_le _, rfl, hst⟩
    case round =>
      obtain ⟨j, hj, rfl, hrel⟩ := hrel
      clear hst hmc hmb
      by_cases hlt : j < m
      · obtain ⟨rr, qq, c0, inn, A0, k0, S, r2, r3⟩ := hrel
        rcases HB2.out with e | ⟨ga2, gc2, e, hcell2⟩
        · omega
        cases e
        rcases HB1.out with e | ⟨ga1, gc1, e, hcell1⟩
        · exact absurd e HN0.out
        cases e
        have hc2 := S.crew.kin.turn.cell (hcell2 j hlt) (by simp)
        obtain ⟨y0, y1⟩ := HZ2.out j hlt
        obtain ⟨i, hi⟩ : ∃ i : Nat, z2 j % (n : Int) = (i : Int) := ⟨(z2 j % (n : Int)).toNat, by have := Int.emod_nonneg (z2 j) (show (n : Int) ≠ 0 by have := HN0.out; omega); omega⟩
        have hin : i < n := by have := Int.emod_lt_of_pos (z2 j) (show (0 : Int) < n by have := HN0.out; omega); omega
        have hc1 := S.crew.kin.turn.cell (hcell1 i hin) (by simp)
        obtain ⟨x0, x1⟩ := HZ1.out i hin
        have h15 := HS15.out i
        have hsl : (sl i : Int) = z1 i % 15 := by rw [HSL.out]; dsimp only; omega
        have h4 := sg_lt4 ⟨sl i, h15⟩
        dsimp only at h4
        have hhs := HHO.out _ (S.crew.x (x := kh) (o := ohs) (by simp [backX]))
        have HPL : Hid (Calls Try.prog 7 #[.slice (some ⟨kh, 0, none⟩) 4 c, .int .i64 (z1 i % 15)] wr fun e w' => e = .returned (.agg #[.int .u64 (hS (sgN (sl i))), .int .i64 (sl i)]) ∧ Frm.Turn [] wr w') := Lib.hid (by
          have := place_any (kh := kh) (c := c) (sl i) wr (by omega) h4 (by omega) hhs
          rw [hsl] at this
          rw [hsl]
          exact this)
        have HS := Lib.hid (And.intro S (And.intro r2 r3))
        have hj1 : (j : Int) < (m : Int) := by omega
        have hj300 : (j : Int) ≤ 300 := by have := HM.out; omega
        have hin1 : (i : Int) < (n : Int) := by omega
        have hi0 : (0 : Int) ≤ (i : Int) := by omega
        have HJ := Lib.hid (And.intro hlt (And.intro h15 (And.intro h4 hin)))
        have hn0 : (0 : Int) < (n : Int) := by omega
        clear hcell1 hcell2 S r2 r3 hsl h4 h15 hlt hj hhs hin
        generalize z2 j = zj at hc2 y0 y1 hi
        generalize z1 i = zi at hc1 x0 x1 HPL
        obtain ⟨dn, HDN⟩ : ∃ dn, Hid (dn = doneO (c0 i)) := ⟨_, Lib.hid rfl⟩
        obtain ⟨pv, HPV⟩ : ∃ pv, Hid (pv = ptrV rr c0 i) := ⟨_, Lib.hid rfl⟩
        have HMO := Lib.hid (fun w3 (hT : Frm.Turn [] wr w3) => HS.out.1.more hT (oPlace (sgN (sl i)) (sl i)))
        have HPT : Hid (∀ w3, Frm.Turn [] wr w3 → (w3.alloc (.cells #[.int .u64 (hS (sgN (sl i))), .int .i64 (sl i)] 38)).cell? ⟨cb, i, none⟩ = some pv ∧ Calls Try.prog 8 #[pv] (w3.alloc (.cells #[.int .u64 (hS (sgN (sl i))), .int .i64 (sl i)] 38)) fun e w' => e = .returned (.bool dn) ∧ (w3.alloc (.cells #[.int .u64 (hS (sgN (sl i))), .int .i64 (sl i)] 38)) = w') := Lib.hid (fun w3 hT => by
          have h1 := HMO.out w3 hT
          rw [HPV.out, HDN.out]
          exact ⟨(h1.ptr (cb := cb) (by simp [backX]) HJ.out.2.2.2).1, h1.done HJ.out.2.2.2⟩)
        go_upto_if 69 with (first
          | (go_at_call 7; (with_reducible refine (HPL.out).mono ?_); rintro e w3 ⟨rfl, hT⟩; have HT3 := Lib.hid hT; have c3 := (HPT.out w3 hT).1; clear hT)
          | (go_at_call 8; (with_reducible refine ((HPT.out w3 HT3.out).2).mono ?_); rintro e w4 ⟨rfl, rfl⟩))
        have HS3 := Lib.hid (HMO.out w3 HT3.out)
        clear HMO HPT HPL
        have hin := (HS3.out.in_ (ib := ib) (inn := inn) (by simp [backX]) HJ.out.2.2.2).1
        have HIN : Hid ((w3.alloc (.cells #[.int .u64 (hS (sgN (sl i))), .int .i64 (sl i)] 38)).cell? ⟨ib, i, none⟩ = some (.bool (inn i))) := Lib.hid hin
        clear hin
        have HEX := Lib.hid (fun W => exitX (b := b) (s := sl i) (by have := HJ.out.2.1; omega) W)
        have HEN := Lib.hid (fun W => enterX (b := b) (s := sl i) (by have := HJ.out.2.1; omega) W)
        have HF : Hid (∀ w5, Frm.Turn [] (w3.alloc (.cells #[.int .u64 (hS (sgN (sl i))), .int .i64 (sl i)] 38)) w5 → w5.cell? ⟨cb, i, none⟩ = some pv ∧ w5.frozen? ⟨cb, i, none⟩ = false ∧ w5.cell? ⟨ib, i, none⟩ = some (.bool (inn i)) ∧ w5.frozen? ⟨ib, i, none⟩ = false ∧ cb ≠ ib) := Lib.hid (fun w5 hT => by
          have h1 := HS3.out.turn hT
          have h2 := h1.ptr (cb := cb) (by simp [backX]) HJ.out.2.2.2
          have h3 := h1.in_ (ib := ib) (inn := inn) (by simp [backX]) HJ.out.2.2.2
          rw [HPV.out]
          exact ⟨h2.1, h2.2, h3.1, h3.2, (back_ne h1.crew).2.2.2.2⟩)
        go_cut [] (fun W2 => BackM w b kh cb ib w3.heap.size ohs (oPlace (sgN (sl i)) (sl i)) sl n j i W2)
        case first =>
          cases dn with
          | false =>
            go_wp2_with fail
            go_meet
            exact back_on HS3.out HS.out.2.1 HS.out.2.2 HDN.out.symm
          | true =>
            have hin := HIN.out
            cases hiv : inn i with
            | true =>
              rw [hiv] at hin HF
              have HIV := Lib.hid hiv
              clear hiv
              go_wp2_with (go_at_call 9; (with_reducible refine (HEX.out _).mono ?_); rintro e w5 ⟨r, q, rfl, hm⟩; have HM5 := Lib.hid hm; obtain ⟨a1, a2, a3, a4, a5⟩ := HF.out w5 hm.2.2.2.2.2.2; have a6 : ib ≠ cb := fun e => a5 e.symm; clear hm)
              go_meet
              exact back_exit HS3.out HS.out.2.1 HS.out.2.2 HJ.out.2.2.2 HDN.out.symm HIV.out HM5.out
            | false =>
              rw [hiv] at hin HF
              have HIV := Lib.hid hiv
              clear hiv
              go_wp2_with (go_at_call 10; (with_reducible refine (HEN.out _).mono ?_); rintro e w5 ⟨r, q, rfl, hm⟩; have HM5 := Lib.hid hm; obtain ⟨a1, a2, a3, a4, a5⟩ := HF.out w5 hm.2.2.2.2.2.2; have a6 : ib ≠ cb := fun e => a5 e.symm; clear hm)
              go_meet
              exact back_enter HS3.out HS.out.2.1 HS.out.2.2 HJ.out.2.2.2 HDN.out.symm HIV.out HM5.out
        case rest =>
          obtain ⟨r, c5, hst⟩ := hcut.step HJ.out.2.2.2 (by have := HJ.out.1; have := HM.out; omega)
          have HST := Lib.hid hst
          clear hcut hst HF HEX HEN HIN HS3 HS c3
          go_wp2_with (go_at_call 11; (with_reducible refine (HST.out).mono ?_); rintro e w6 ⟨rfl, h⟩; have HR6 := Lib.hid h; clear h)
          refine ⟨⟨j + 1, by have := HJ.out.1; omega, by simp, HR6.out⟩, ?_⟩
          have := HJ.out.1
          simp [intOf]; omega
      · obtain rfl : j = m := by omega
        have hlt' : ¬ (j : Int) < (j : Int) := by omega
        have hst := fin_first hrel HM.out
        clear hrel hlt hj HB2 HZ2
        go_wp2_with fail
        go_loopw [102] (fun i wr => ∃ lo : Nat, lo ≤ n ∧ i = .int .i64 lo ∧ FinR w b kh cb ib ohs sl n lo wr) (fun i _ => n - (intOf i).toNat)
        case atStart => exact ⟨0, Nat.zero_le _, rfl, hst⟩
        case round =>
          obtain ⟨lo, hlo, rfl, hrel⟩ := hrel
          clear hst
          by_cases hlt : lo < n
          · rcases HB1.out with e | ⟨ga1, gc1, e, hcell1⟩
            · exact absurd e HN0.out
            cases e
            obtain ⟨hh, hT0⟩ := hrel.hs
            have hc1 := hT0.cell (hcell1 lo hlt) (by simp)
            obtain ⟨x0, x1⟩ := HZ1.out lo hlt
            have h15 := HS15.out lo
            have hsl : (sl lo : Int) = z1 lo % 15 := by rw [HSL.out]; dsimp only; omega
            have h4 := sg_lt4 ⟨sl lo, h15⟩
            dsimp only at h4
            have hhs := HHO.out _ hh
            have HPL : Hid (Calls Try.prog 7 #[.slice (some ⟨kh, 0, none⟩) 4 c, .int .i64 (z1 lo % 15)] wr fun e w' => e = .returned (.agg #[.int .u64 (hS (sgN (sl lo))), .int .i64 (sl lo)]) ∧ Frm.Turn [] wr w') := Lib.hid (by
              have := place_any (kh := kh) (c := c) (sl lo) wr (by omega) h4 (by omega) hhs
              rw [hsl] at this
              rw [hsl]
              exact this)
            have HR := Lib.hid hrel
            have HJ := Lib.hid (And.intro hlt (And.intro h15 h4))
            have hlo1 : (lo : Int) < (n : Int) := by omega
            have hlo0 : (0 : Int) ≤ (lo : Int) := by omega
            have hlo12 : (lo : Int) ≤ 12 := by have := HN12.out; omega
            clear hcell1 hrel hsl h4 h15 hlt hlo hhs hh hT0
            generalize z1 lo = zi at hc1 x0 x1 HPL
            go_wp2_with (go_at_call 7; (with_reducible refine (HPL.out).mono ?_); rintro e w3 ⟨rfl, hT⟩; have HT3 := Lib.hid hT; have HM3 := Lib.hid (fin_start HR.out hT (oPlace (sgN (sl lo)) (sl lo))); clear hT)
            have HM3' : Hid (FinM w b kh cb ib w3.heap.size ohs (oPlace (sgN (sl lo)) (sl lo)) sl n lo false 0 (w3.alloc (.cells #[.int .u64 (hS (sgN (sl lo))), .int .i64 (sl lo)] 38))) := HM3
            clear HPL HR HM3 HT3
            generalize w3.heap.size = pb at HM3' ⊢
            go_loopw [113] (fun i wz => ∃ y : Nat, y ≤ 20 ∧ i = .int .i64 y ∧ FinM w b kh cb ib pb ohs (oPlace (sgN (sl lo)) (sl lo)) sl n lo false y wz) (fun i _ => 20 - (intOf i).toNat)
            case atStart => exact ⟨0, Nat.zero_le _, rfl, HM3'.out⟩
            case round =>
              obtain ⟨y, hy, rfl, hmid⟩ := hrel
              clear HM3'
              by_cases hlt2 : y < 20
              · obtain ⟨pv, c5, hst⟩ := hmid.step HJ.out.1 (by omega)
                have HST := Lib.hid hst
                have hy1 : (y : Int) < 20 := by omega
                clear hmid hst
                go_wp2_with (go_at_call 11; (with_reducible refine (HST.out).mono ?_); rintro e w5 ⟨rfl, hg⟩; have HG5 := Lib.hid hg; clear hg)
                refine ⟨⟨y + 1, by omega, by simp, HG5.out⟩, ?_⟩
                simp [intOf]; omega
              · obtain rfl : y = 20 := by omega
                have hlt3 : ¬ ((20 : Nat) : Int) < 20 := by omega
                have hpl := hmid.place
                obtain ⟨iv, ci, hf, ht⟩ := fin_stay hmid HJ.out.1
                have HF := Lib.hid hf
                have HT := Lib.hid ht
                have HPLC := Lib.hid hpl
                have HEX := Lib.hid (fun W => exitX (b := b) (s := sl lo) (by have := HJ.out.2.1; omega) W)
                clear hmid hf ht hpl hlt2 hy
                go_upto_if 124 with fail
                go_cut [] (fun W2 => FinM w b kh cb ib pb ohs (oPlace (sgN (sl lo)) (sl lo)) sl n lo true 0 W2)
                case first =>
                  cases iv with
                  | false =>
                    go_wp2_with fail
                    go_meet
                    exact HF.out (by trivial)
                  | true =>
                    have p0 : wr.cell? ⟨pb, 0, none⟩ = some (.int .u64 (hS (sgN (sl lo)))) := (Frm.cell_row _ _ 0 _ _ _ HPLC.out).trans rfl
                    have p1 : wr.cell? ⟨pb, 1, none⟩ = some (.int .i64 (sl lo)) := (Frm.cell_row _ _ 1 _ _ _ HPLC.out).trans rfl
                    go_wp2_with (go_at_call 9; (with_reducible refine (HEX.out _).mono ?_); rintro e w5 ⟨r, q, rfl, hm⟩; have HM5 := Lib.hid hm; obtain ⟨⟨pv, a1, a2⟩, _⟩ := HT.out (by trivial) r q w5 hm; clear hm)
                    go_meet
                    exact (HT.out (by trivial) r q w5 HM5.out).2
                case rest =>
                  have hst := hcut
                  clear hcut HF HT HEX HPLC ci
                  go_wp2_with fail
                  go_loopw [131] (fun i wz => ∃ y : Nat, y ≤ 20 ∧ i = .int .i64 y ∧ FinM w b kh cb ib pb ohs (oPlace (sgN (sl lo)) (sl lo)) sl n lo true y wz) (fun i _ => 20 - (intOf i).toNat)
                  case atStart => exact ⟨0, Nat.zero_le _, rfl, hst⟩
                  case round =>
                    obtain ⟨y, hy, rfl, hmid⟩ := hrel
                    clear hst
                    by_cases hlt2 : y < 20
                    · obtain ⟨pv, c5, hst⟩ := hmid.step HJ.out.1 (by omega)
                      have HST := Lib.hid hst
                      have hy1 : (y : Int) < 20 := by omega
                      clear hmid hst
                      go_wp2_with (go_at_call 11; (with_reducible refine (HST.out).mono ?_); rintro e w5 ⟨rfl, hg⟩; have HG5 := Lib.hid hg; clear hg)
                      refine ⟨⟨y + 1, by omega, by simp, HG5.out⟩, ?_⟩
                      simp [intOf]; omega
                    · obtain rfl : y = 20 := by omega
                      have hlt3 : ¬ ((20 : Nat) : Int) < 20 := by omega
                      obtain ⟨hr, pv, c5, hd⟩ := fin_end hmid HJ.out.1
                      have HR6 := Lib.hid hr
                      have HD := Lib.hid hd
                      clear hmid hr hd hlt2 hy
                      go_wp2_with (go_at_call 8; (with_reducible refine (HD.out).mono ?_); rintro e w5 ⟨rfl, rfl⟩)
                      refine ⟨⟨lo + 1, by have := HJ.out.1; omega, by simp, HR6.out⟩, ?_⟩
                      have := HJ.out.1
                      simp [intOf]; omega
          · obtain rfl : lo = n := by omega
            have hlt' : ¬ (lo : Int) < (lo : Int) := by omega
            obtain ⟨hbl, hfa⟩ := fin_blocks hrel
            have HBL := Lib.hid hbl
            have HFA := Lib.hid hfa
            have HTW := Lib.hid hrel.hs.2
            clear hrel hbl hfa hlt hlo HB1 HZ1
            go_wp2_with (go_at_call 12; (with_reducible refine (HBL.out).mono ?_); rintro e w6 ⟨v6, ys, rfl, r1, r2, r3, r4⟩; obtain ⟨va, vc, rfl⟩ := Frm.row_form r1; have HY := Lib.hid (And.intro r1 (And.intro r2 r3)); have HT6 := Lib.hid r4; clear r1 r2 r3 r4)
            have hst : Frm.Turn [] w6 w6 := Frm.Turn.refl [] w6
            clear HBL
            go_loopw [149] (fun i wz => ∃ y : Nat, y ≤ ys.length ∧ i = .int .i64 y ∧ Frm.Turn [] w6 wz) (fun i _ => ys.length - (intOf i).toNat)
            case atStart => exact ⟨0, Nat.zero_le _, rfl, hst⟩
            case round =>
              obtain ⟨y, hy, rfl, hT⟩ := hrel
              clear hst
              by_cases hlt : y < ys.length
              · obtain ⟨r1, r2, r3⟩ := HY.out
                obtain ⟨g, hg⟩ : ∃ g, va = some ⟨g, 0, none⟩ := by
                  rcases r1.2 with ⟨e, e2⟩ | ⟨g, cap, cur, e, _⟩
                  · omega
                  · cases e; exact ⟨g, rfl⟩
                subst hg
                obtain ⟨yy, hyy⟩ : ∃ yy, ys[y]? = some yy := ⟨ys[y], by simp [hlt]⟩
                obtain ⟨t1, t2, t3⟩ := r3 yy (List.mem_of_getElem? hyy)
                have p0 := (r1.cellAt (y * 2) (by omega)).trans (gotCells_get ys y yy hyy).1
                have p1 := (r1.cellAt (y * 2 + 1) (by omega)).trans (gotCells_get ys y yy hyy).2
                have p0 := hT.cell p0 (by simp)
                have p1 := hT.cell p1 (by simp)
                have p0 : wr.cell? ⟨g, y * 2, none⟩ = some (.int .u64 yy.1.h) := p0
                have p1 : wr.cell? ⟨g, y * 2 + 1, none⟩ = some (.slice (some ⟨yy.2.1, 0, none⟩) yy.1.ws.length yy.2.2) := p1
                have HWD : Hid (∀ (u : Nat), u < yy.1.ws.length → ∀ W', Frm.Turn [] w6 W' → W'.cell? ⟨yy.2.1, u, none⟩ = some (.int .u64 0)) := Lib.hid (fun u hu W' hT' => by
                  have h1 := t1.cellAt u (by omega)
                  have h2 : (u64s yy.1.ws)[u]? = some (.int .u64 0) := by
                    unfold u64s
                    rw [List.getElem?_map, List.getElem?_eq_getElem hu]
                    rw [t3 u _ (List.getElem?_eq_getElem hu)]
                    rfl
                  exact hT'.cell (h1.trans h2) (by simp))
                have HT7 := Lib.hid hT
                have hy1 : (y : Int) < (ys.length : Int) := by omega
                have hy9 : (y : Int) ≤ 9 := by omega
                have hy0 : (0 : Int) ≤ (y : Int) := by omega
                have HYL := Lib.hid hlt
                clear r1 r2 r3 t1 t3 hT hlt hyy hy
                go_wp2_with fail
                have hst : Frm.Turn [] w6 (wr.alloc (.cells #[.int .u64 yy.1.h, .slice (some ⟨yy.2.1, 0, none⟩) yy.1.ws.length yy.2.2] 45)) := HT7.out.alloc _
                go_loopw [156] (fun i wz => ∃ u : Nat, u ≤ yy.1.ws.length ∧ i = .int .i64 u ∧ Frm.Turn [] w6 wz) (fun i _ => yy.1.ws.length - (intOf i).toNat)
                case atStart => exact ⟨0, Nat.zero_le _, rfl, hst⟩
                case round =>
                  obtain ⟨u, hu, rfl, hT⟩ := hrel
                  clear hst p0 p1
                  by_cases hlt : u < yy.1.ws.length
                  · have c1 := HWD.out u hlt wr hT
                    have hu1 : (u : Int) < (yy.1.ws.length : Int) := by omega
                    have hu2 : (u : Int) ≤ 2048 := by omega
                    have hu0 : (0 : Int) ≤ (u : Int) := by omega
                    have HT8 := Lib.hid hT
                    have HU := Lib.hid hlt
                    clear hT hlt hu
                    go_wp2_with fail
                    refine ⟨⟨u + 1, by have := HU.out; omega, by simp, HT8.out⟩, ?_⟩
                    have := HU.out
                    simp [intOf]; omega
                  · obtain rfl : u = yy.1.ws.length := by omega
                    have hlt' : ¬ (yy.1.ws.length : Int) < (yy.1.ws.length : Int) := by omega
                    have HT8 := Lib.hid hT
                    clear hT hlt hu
                    go_wp2_with fail
                    refine ⟨⟨y + 1, by have := HYL.out; omega, by simp, HT8.out⟩, ?_⟩
                    have := HYL.out
                    simp [intOf]; omega
              · obtain rfl : y = ys.length := by omega
                have hlt' : ¬ (ys.length : Int) < (ys.length : Int) := by omega
                have HFA2 := Lib.hid (HFA.out wr (HT6.out.trans hT (by simp)))
                have HTE := Lib.hid (HTW.out.trans (HT6.out.trans hT (by simp)) (by simp))
                clear hlt hy hT
                go_wp2_with (go_at_call 13; (with_reducible refine (HFA2.out).mono ?_); rintro e w8 ⟨rfl, rfl⟩)
                go_ret
                exact ⟨rfl, HTE.out⟩
end Cnt
end Go.Proofs.Ytolcpfidmpoipaa
