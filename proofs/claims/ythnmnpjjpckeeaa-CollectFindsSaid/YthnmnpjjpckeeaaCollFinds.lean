/- The walk of CollectFinds. -/
import Derived.Test.YthnmnpjjpckeeaaCollFindMem
import Derived.BigRegion
set_option linter.unusedVariables false
set_option linter.unusedSimpArgs false
namespace Go.Proofs.Ythnmnpjjpckeeaa
namespace Col
open Go.RowKit Go.Maps Arn Pac Clm Cnt

variable {w W W' : World} {b kh cb ib ab sb n k m i r R R0 : Nat} {rr qq : Nat → Nat} {c : Nat → Option Ct} {A : Ar} {D : Ct} {C : Co} {v : Value} {V : List (Nat × Obj)} {ohs : Obj} {sl : Nat → Nat} {inn al so : Nat → Bool}
/-- Three rows of the same, wherever they lie. -/
def ThreeC (n : Nat) (W : World) (v1 v2 v3 : Value) (W' : World) : Prop :=
  ∃ x y z, v1 = .slice (some ⟨x, 0, none⟩) n n ∧ v2 = .slice (some ⟨y, 0, none⟩) n n ∧ v3 = .slice (some ⟨z, 0, none⟩) n n ∧ x ≠ y ∧ x ≠ z ∧ y ≠ z ∧ W.heap.size ≤ x ∧ W.heap.size ≤ y ∧ W.heap.size ≤ z ∧ W'.heap[x]? = some (oBools (fun _ => false) n) ∧ W'.heap[y]? = some (oBools (fun _ => false) n) ∧ W'.heap[z]? = some (oBools (fun _ => false) n) ∧ Frm.Turn [] W W'
theorem three_c (n : Nat) (W : World) : ∀ x y z : Nat, (x ≠ y ∧ x ≠ z ∧ y ≠ z) → (x = W.heap.size ∨ x = W.heap.size + 1 ∨ x = W.heap.size + 2) → (y = W.heap.size ∨ y = W.heap.size + 1 ∨ y = W.heap.size + 2) → (z = W.heap.size ∨ z = W.heap.size + 1 ∨ z = W.heap.size + 2) →
    ThreeC n W (.slice (some ⟨x, 0, none⟩) n n) (.slice (some ⟨y, 0, none⟩) n n) (.slice (some ⟨z, 0, none⟩) n n) (((W.alloc (oBools (fun _ => false) n)).alloc (oBools (fun _ => false) n)).alloc (oBools (fun _ => false) n)).drew := by
  intro x y z ⟨h1, h2, h3⟩ hx hy hz
  have e1 := World.alloc_heap_new W (oBools (fun _ => false) n)
  have e2 := World.alloc_heap_new (W.alloc (oBools (fun _ => false) n)) (oBools (fun _ => false) n)
  have e3 := World.alloc_heap_new ((W.alloc (oBools (fun _ => false) n)).alloc (oBools (fun _ => false) n)) (oBools (fun _ => false) n)
  simp only [World.size_alloc] at e2 e3
  have key : ∀ q, (q = W.heap.size ∨ q = W.heap.size + 1 ∨ q = W.heap.size + 2) → ((((W.alloc (oBools (fun _ => false) n)).alloc (oBools (fun _ => false) n)).alloc (oBools (fun _ => false) n)).drew).heap[q]? = some (oBools (fun _ => false) n) := fun q hq => by
    rcases hq with rfl | rfl | rfl
    · exact (((Frm.Turn.refl [] _).alloc _).alloc _).keep e1 (by simp)
    · exact ((Frm.Turn.refl [] _).alloc _).keep e2 (by simp)
    · exact e3
  exact ⟨x, y, z, rfl, rfl, rfl, h1, h2, h3, by omega, by omega, by omega, key x hx, key y hy, key z hz, ((((Frm.Turn.refl [] W).alloc _).alloc _).alloc _).drew⟩
theorem find_start {x0 : Nat} {v1 v2 v3 : Value} (O : CoObj w.heap.size r b Co.new v V) (S : Crew w b (V ++ [(kh, ohs)]) n rr qq (fun _ => none) A k W) (hk : k ≤ 20) (I : SegA A 4 zF) (hR : A.t.reads = R0) (hn : n ≤ 12) (hs : ∀ i, sl i < 15)
    (h : ThreeC n (W.alloc (oPtrs (fun _ => x0) (fun _ => none) n)) v1 v2 v3 W') :
    ∃ ib ab sb, v1 = .slice (some ⟨ib, 0, none⟩) n n ∧ v2 = .slice (some ⟨ab, 0, none⟩) n n ∧ v3 = .slice (some ⟨sb, 0, none⟩) n n ∧ FinR w b kh W.heap.size ib ab sb ohs sl n 0 r R0 W' ∧ ∃ t0 t1 t3 t4 t5 : Int, Calls Try.prog 8 #[.pointer (some ⟨b, 0, none⟩)] W' fun e w' => e = .returned (.agg #[.int .i64 t0, .int .i64 t1, .int .i64 R0, .int .i64 t3, .int .i64 t4, .int .i64 t5]) ∧ Frm.Turn [] W' w' := by
  obtain ⟨ib, ab, sb, rfl, rfl, rfl, n1, n2, n3, l1, l2, l3, h1, h2, h3, hT⟩ := h
  refine ⟨ib, ab, sb, rfl, rfl, rfl, ?_⟩
  have hsz : (W.alloc (oPtrs (fun _ => x0) (fun _ => none) n)).heap.size = W.heap.size + 1 := by simp
  have T1 : Frm.Turn [] W (W.alloc (oPtrs (fun _ => x0) (fun _ => none) n)) := (Frm.Turn.refl [] W).alloc _
  have S1 : Crew w b ((W.heap.size, oPtrs (fun _ => x0) (fun _ => none) n) :: (V ++ [(kh, ohs)])) n rr qq (fun _ => none) A k (W.alloc (oPtrs (fun _ => x0) (fun _ => none) n)) := S.more T1 (Nat.le_refl _) (World.alloc_heap_new W _)
  have hws := S1.kin.turn.size
  have hlt : ∀ p, p ∈ (W.heap.size, oPtrs (fun _ => x0) (fun _ => none) n) :: (V ++ [(kh, ohs)]) → p.1 < (W.alloc (oPtrs (fun _ => x0) (fun _ => none) n)).heap.size := fun p hp => S1.kin.lt (in_x hp)
  have S2 : Crew w b ((ib, oBools (fun _ => false) n) :: (ab, oBools (fun _ => false) n) :: (sb, oBools (fun _ => false) n) :: (W.heap.size, oPtrs (fun _ => x0) (fun _ => none) n) :: (V ++ [(kh, ohs)])) n rr qq (fun _ => none) A k W' := by
    have S1' := S1.turn hT
    have b1 := (Array.getElem?_eq_some_iff.1 h1).1
    have b2 := (Array.getElem?_eq_some_iff.1 h2).1
    have b3 := (Array.getElem?_eq_some_iff.1 h3).1
    refine ⟨kin_adds S1.kin hT (fun q hq => ?_), fun p hp => ?_, ?_, fun i D hi hc => (by cases hc), fun i j D E _ _ _ hc => (by cases hc), fun i D p _ hc => (by cases hc)⟩
    · simp only [crewK, List.map_cons, List.cons_append, List.mem_cons] at hq
      rcases hq with rfl | rfl | rfl | hq
      · exact .inr ⟨l1, b1⟩
      · exact .inr ⟨l2, b2⟩
      · exact .inr ⟨l3, b3⟩
      · refine .inl ?_
        simp only [crewK, List.map_cons, List.cons_append, List.mem_cons]
        exact hq
    · simp only [List.mem_cons] at hp
      rcases hp with rfl | rfl | rfl | hp
      · exact ⟨h1, by dsimp only; omega⟩
      · exact ⟨h2, by dsimp only; omega⟩
      · exact ⟨h3, by dsimp only; omega⟩
      · exact S1'.xs p (by simpa using hp)
    · have hd := S1.dist
      have hnew : ∀ q, (W.alloc (oPtrs (fun _ => x0) (fun _ => none) n)).heap.size ≤ q → q ∉ ((W.heap.size, oPtrs (fun _ => x0) (fun _ => none) n) :: (V ++ [(kh, ohs)])).map Prod.fst := fun q hq hm => by
        obtain ⟨p, hp, e⟩ := List.mem_map.1 hm
        have := hlt p hp
        omega
      rw [List.map_cons, List.map_cons, List.map_cons, List.nodup_cons, List.nodup_cons, List.nodup_cons]
      refine ⟨fun hm => ?_, fun hm => ?_, hnew sb l3, hd⟩
      · rcases List.mem_cons.1 hm with e | hm
        · exact n1 e
        · rcases List.mem_cons.1 hm with e | hm
          · exact n2 e
          · exact hnew ib l1 hm
      · rcases List.mem_cons.1 hm with e | hm
        · exact n3 e
        · exact hnew ab l2 hm
  have S3 : Crew w b (V ++ findX kh W.heap.size ib ab sb ohs (fun _ => x0) (fun _ => none) (fun _ => false) (fun _ => false) (fun _ => false) n) n rr qq (fun _ => none) A k W' := by
    refine Crew.perm S2 ?_
    have e1 : ((ib, oBools (fun _ => false) n) :: (ab, oBools (fun _ => false) n) :: (sb, oBools (fun _ => false) n) :: (W.heap.size, oPtrs (fun _ => x0) (fun _ => none) n) :: (V ++ [(kh, ohs)])).Perm ((V ++ [(kh, ohs)]) ++ [(ib, oBools (fun _ => false) n), (ab, oBools (fun _ => false) n), (sb, oBools (fun _ => false) n), (W.heap.size, oPtrs (fun _ => x0) (fun _ => none) n)]) := List.perm_append_comm (l₁ := [(ib, oBools (fun _ => false) n), (ab, oBools (fun _ => false) n), (sb, oBools (fun _ => false) n), (W.heap.size, oPtrs (fun _ => x0) (fun _ => none) n)]) (l₂ := V ++ [(kh, ohs)])
    refine e1.trans ?_
    rw [List.append_assoc]
    refine List.Perm.append_left V ?_
    unfold findX
    refine List.Perm.cons _ ?_
    exact List.perm_append_comm (l₁ := [(ib, oBools (fun _ => false) n), (ab, oBools (fun _ => false) n), (sb, oBools (fun _ => false) n)]) (l₂ := [(W.heap.size, oPtrs (fun _ => x0) (fun _ => none) n)])
  have G : Gd sl (fun _ => none) n := fun i D _ hc => (by cases hc)
  have hp : Cp (fun _ => false) (fun _ => none) 0 n := fun i _ _ => ⟨fun _ => rfl, fun D hc => (by cases hc)⟩
  have htl := crew_reads S3
  rw [hR] at htl
  refine ⟨⟨v, Co.new, V, rr, qq, fun _ => none, fun _ => false, fun _ => false, fun _ => false, A, k, 0, ⟨O, ?_, I.congr (fun g j _ _ => ?_), G, hn, hs⟩, hp, ?_, hR, by omega⟩, htl⟩
  · have e : oPtrs rr (fun _ => none) n = oPtrs (fun _ => x0) (fun _ => none) n := rfl
    have e2 : findX kh W.heap.size ib ab sb ohs rr (fun _ => none) (fun _ => false) (fun _ => false) (fun _ => false) n = findX kh W.heap.size ib ab sb ohs (fun _ => x0) (fun _ => none) (fun _ => false) (fun _ => false) (fun _ => false) n := by unfold findX; rw [e]
    rw [e2]; exact S3
  · rw [all_thru (sl := sl) G (fun i _ C hc => (by cases hc))]; rfl
  · exact fi_same (fi_new (sl := sl) G hp) (fun i hi => rfl) (fun i hi => rfl)
set_option maxRecDepth 100000 in
set_option maxHeartbeats 8000000 in
theorem finds_any (v1 v2 : Value) (z1 z2 : Nat → Int) (n m : Nat) (w : World) (hb1 : BytesC w v1 z1 n) (hz1 : ∀ i, i < n → 0 ≤ z1 i ∧ z1 i < 256) (hb2 : BytesC w v2 z2 m) (hz2 : ∀ i, i < m → 0 ≤ z2 i ∧ z2 i < 256) (hn : n ≤ 9223372036854775807) (hm : m ≤ 9223372036854775807) :
    Calls Try.prog 3 #[v1, v2] w fun e w' => e = .returned (.bool true) ∧ Frm.Turn [] w w' := by
  have HF := Lib.hid (first13 w)
  have HB0 := Lib.hid hb1
  obtain ⟨⟨ao1, vc1, rfl⟩, hb1'⟩ := hb1
  obtain ⟨⟨ao2, vc2, rfl⟩, hb2'⟩ := hb2
  have HB1 := Lib.hid hb1'
  have HB2 := Lib.hid hb2'
  have HZ1 := Lib.hid hz1
  have HZ2 := Lib.hid hz2
  clear hb1' hb2' hz1 hz2
  by_cases hbad : 12 < n ∨ 400 < m
  · have hc : ((12 : Int) < (n : Int)) ∨ (¬ (12 : Int) < (n : Int) ∧ (400 : Int) < (m : Int)) := by omega
    clear hbad HB0 HB1 HB2 HZ1 HZ2 hn hm
    rcases hc with h1 | ⟨h1, h2⟩
    all_goals
      go_enter Try.func3, Try.ntmps3
      go_wp2_with (first
        | (go_at_call 5; (with_reducible refine (HF.out).mono ?_); rintro e w1 ⟨rfl, hT⟩; have HT1 := Lib.hid hT; clear hT))
      go_ret
      exact ⟨rfl, HT1.out⟩
  · obtain ⟨h1, h2⟩ : n ≤ 12 ∧ m ≤ 400 := ⟨by omega, by omega⟩
    have g1 : ¬ (12 : Int) < (n : Int) := by omega
    have g2 : ¬ (400 : Int) < (m : Int) := by omega
    have HN12 := Lib.hid h1
    have HM := Lib.hid h2
    obtain ⟨fs, hfs⟩ := struct_of under_refA
    have HFS := Lib.hid hfs
    have hmc := Col.made_cts 0 n (by omega)
    have hmb := Col.made_bools n (by omega)
    obtain ⟨sl, HSL⟩ : ∃ sl : Nat → Nat, Hid (sl = fun i => (z1 i % 15).toNat) := ⟨_, Lib.hid rfl⟩
    have HS15 : Hid (∀ i, sl i < 15) := Lib.hid (fun i => by rw [HSL.out]; dsimp only; omega)
    have HSE : Hid (∀ i, i < n → z1 i % 15 = (sl i : Int)) := Lib.hid (fun i hi => by rw [HSL.out]; dsimp only; have := HZ1.out i hi; omega)
    have e4 : ((4 : Nat) : Int) = 4 := rfl
    clear hn hm hbad h1 h2 HSL
    go_enter Try.func3, Try.ntmps3
    go_upto_region 6 with (first
      | (go_at_call 5; (with_reducible refine (HF.out).mono ?_); rintro e w1 ⟨rfl, hT⟩; have HT1 := Lib.hid hT; have hsg := segsN 4 w w1 hT (by omega) (by omega); rw [e4] at hsg; have HSG := Lib.hid hsg; clear hT hsg)
      | (go_at_call 6; (with_reducible refine (HSG.out).mono ?_); rintro e w2 ⟨b, CS, kh, kc, ohs, A, k, K, rfl, z1, z2, z3, z4, z5, z6, z7, z8, z9, z10⟩; have HZZ1 := Lib.hid z1; have HZZ2 := Lib.hid z2; have HQ := Lib.hid (And.intro z3 (And.intro z4 (And.intro z5 (And.intro z7 (And.intro z8 (And.intro z9 z10)))))); have HO := Lib.hid z6; clear z1 z2 z3 z4 z5 z6 z7 z8 z9 z10)
      | (refine wpList_store_row rfl 31 (.tmp 6) (.tmp 31) rfl w2.heap.size CS rfl rfl 31 _ (World.alloc_heap_new w2 _) (by rw [HZZ1.out]; exact info_refA) (by rw [HZZ1.out]; rfl) HZZ2.out ?_))
    generalize hw5 : World.setRow _ w2.heap.size CS = w5
    have HT5 : Hid (Frm.Turn [] w2 w5) := Lib.hid (by rw [← hw5]; exact setRow_turn ((Frm.Turn.refl [] w2).alloc _) (.inr (Nat.le_refl _)) CS)
    obtain ⟨q1, q2, q3, q4, q5, q6, q7⟩ := HQ.out
    have hcr : Crew w b [(kh, ohs)] n (fun _ => kh) (fun _ => kh) (fun _ => none) A k w5 := crew_new (q1.step HT5.out) (fun p hp => by rw [List.mem_singleton.1 hp]; exact ⟨q2, HT5.out.keep q3 (by simp), q4⟩) (by simp) q2
    have HN := Lib.hid (co_new hcr)
    have HQ2 := Lib.hid (And.intro (show k ≤ 20 by omega) (And.intro q6 q7))
    clear hw5 HF HSG HQ HT5 HZZ1 HZZ2 q1 q2 q3 q4 q5 q6 q7 hcr
    go_upto_region 8 with (go_at_call 7; (with_reducible refine (HN.out).mono ?_); rintro e w6 ⟨r, V, rfl, hO6, hS6, hT6⟩; have HC6 := Lib.hid (And.intro hO6 hS6); clear hO6 hS6 hT6)
    clear HN
    go_cut [10, 11, 12] (fun s10 s11 s12 W2 => ThreeC n (w6.alloc (oPtrs (fun _ => 0) (fun _ => none) n)) s10 s11 s12 W2)
    case first =>
      have HTC := Lib.hid (three_c n (w6.alloc (oPtrs (fun _ => 0) (fun _ => none) n)))
      go_region
      all_goals go_wp2_with fail
      all_goals go_meet
      all_goals exact HTC.out _ _ _ ⟨by simp <;> omega, by simp <;> omega, by simp <;> omega⟩ (by simp) (by simp) (by simp)
    case rest =>
      obtain ⟨ib, ab, sb, rfl, rfl, rfl, hst, t0, t1, t3, t4, t5, htl⟩ := find_start (sl := sl) HC6.out.1 HC6.out.2 HQ2.out.1 HQ2.out.2.1 HQ2.out.2.2 HN12.out HS15.out hcut
      have HTL := Lib.hid htl
      have HST := Lib.hid hst
      have hfd : ∀ (t0 t1 t2 t3 t4 t5 : Int) (W : World), (Instr.field 29 (.agg #[.int .i64 t0, .int .i64 t1, .int .i64 t2, .int .i64 t3, .int .i64 t4, .int .i64 t5]) 2).run Try.prog W = .ok (.int .i64 t2) W := fun t0 t1 t2 t3 t4 t5 W => by kernel_rfl
      clear htl hst hcut HC6 HQ2 hmc hmb
      generalize w6.heap.size = cb at HST ⊢
      go_wp2_with (go_at_call 8; (with_reducible refine HTL.out.mono ?_); rintro e w8 ⟨rfl, hT⟩; have HS8 := Lib.hid (HST.out.turn hT); clear hT)
      clear HTL HST
      go_loopw [8, 13, 52] (fun cv rd i wr => ∃ (j r R0 : Nat), j ≤ m ∧ i = .int .i64 j ∧ cv = .pointer (some ⟨r, 0, none⟩) ∧ rd = .int .i64 R0 ∧ FinR w b kh cb ib ab sb ohs sl n j r R0 wr) (fun _ _ i _ => m - (intOf i).toNat)
      case atStart => exact ⟨0, r, 0, Nat.zero_le _, rfl, rfl, rfl, HS8.out⟩
      case round =>
        obtain ⟨j, r, R0, hj, rfl, rfl, rfl, hrel⟩ := hrel
        clear HS8
        obtain ⟨v, C, V, rr, qq, c, inn, al, so, A, k, R, S, hp, I, hR, hk⟩ := hrel
        have HI := Lib.hid (And.intro hp (And.intro I (And.intro hR hk)))
        have HS := Lib.hid S
        have hR0 : R0 ≤ 1000 := by
          have := (kin_low S.crew.kin).reads
          have := HM.out
          omega
        have r0 : (0 : Int) ≤ (R0 : Int) := by omega
        have r1 : (R0 : Int) ≤ 1000 := by omega
        have hRR : ((A.t.reads : Nat) : Int) - (R0 : Int) = (R : Int) := by omega
        have hRb : (A.t.reads : Int) ≤ 1000 := by
          have := (kin_low S.crew.kin).reads
          have := HM.out
          omega
        have hRa : (0 : Int) ≤ (A.t.reads : Int) := by omega
        by_cases hlt : j < m
        · rcases HB2.out with e | ⟨ga2, gc2, e, hcell2⟩
          · omega
          cases e
          have hc2 := S.crew.kin.turn.cell (hcell2 j hlt) (by simp)
          obtain ⟨y0, y1⟩ := HZ2.out j hlt
          have n0 : (0 : Int) ≤ (n : Int) := by omega
          have n12 : (n : Int) ≤ 12 := by have := HN12.out; omega
          obtain ⟨p, hpp⟩ : ∃ p : Nat, z2 j % (1 + (n : Int)) = (p : Int) := ⟨(z2 j % (1 + (n : Int))).toNat, by have := Int.emod_nonneg (z2 j) (show (1 + (n : Int)) ≠ 0 by omega); omega⟩
          have hpn : p < 1 + n := by have := Int.emod_lt_of_pos (z2 j) (show (0 : Int) < 1 + n by omega); omega
          have hj1 : (j : Int) < (m : Int) := by omega
          have hj4 : (j : Int) ≤ 400 := by have := HM.out; omega
          have HLT := Lib.hid hlt
          have hz1n : (0 : Int) < 1 + (n : Int) := by omega
          clear hlt hj hcell2 hp I hR hk hR0
          generalize z2 j = zj at hc2 y0 y1 hpp
          by_cases hp0 : p = 0
          · subst hp0
            have e0 : ((0 : Nat) : Int) = 0 := rfl
            rw [e0] at hpp
            have HDN := Lib.hid (co_done S.obj S.crew HI.out.2.1.fit.ph)
            obtain ⟨t0, t1, t3, t4, t5, htl⟩ := crew_reads S.crew
            have HTL := Lib.hid htl
            clear S hpn htl
            by_cases hph : C.ph = 2
            · rw [decide_eq_true hph] at HDN
              have HFD : Hid (∀ W, Frm.Turn [] wr W → Calls Try.prog 10 #[.pointer (some ⟨r, 0, none⟩), .slice (some ⟨kh, 0, none⟩) 4 kc, .slice ao1 n vc1, .slice (some ⟨ab, 0, none⟩) n n, .slice (some ⟨sb, 0, none⟩) n n, .int .i64 R] W fun e w' => e = .returned (.bool true) ∧ Frm.Turn [] W w') := Lib.hid (fun W hT => fs_found (HS.out.turn hT) HI.out.2.1 hph HO.out HB0.out HZ1.out HSE.out)
              have HNW : Hid (∀ W, Frm.Turn [] wr W → Calls Try.prog 7 #[.pointer (some ⟨b, 0, none⟩)] W fun e w' => ∃ r2 V2, e = .returned (.pointer (some ⟨r2, 0, none⟩)) ∧ FS w b kh cb ib ab sb ohs sl n r2 (.slice none 0 0) Co.new V2 rr qq c inn al so A k w' ∧ Frm.Turn [] W w') := Lib.hid (fun W hT => fs_new (HS.out.turn hT))
              clear hph
              go_upto_region 19 with (first
                | (go_at_call 9; (with_reducible refine (HDN.out).mono ?_); rintro e w9 ⟨rfl, rfl⟩)
                | (go_at_call 10; (with_reducible refine (HFD.out _ HT10.out).mono ?_); rintro e w11 ⟨rfl, hT⟩; have HT11 := Lib.hid hT; clear hT)
                | (go_at_call 7; (with_reducible refine (HNW.out _ (HT10.out.trans HT11.out (by simp))).mono ?_); rintro e w12 ⟨r2, V2, rfl, hF, hT⟩; obtain ⟨u0, u1, u3, u4, u5, htl2⟩ := crew_reads hF.crew; have HF12 := Lib.hid hF; have HTL2 := Lib.hid htl2; clear hF hT htl2)
                | (go_at_call 8; (with_reducible refine (HTL2.out).mono ?_); rintro e w13 ⟨rfl, hT⟩; have HF13 := Lib.hid (HF12.out.turn hT); clear hT)
                | (go_at_call 8; (with_reducible refine (HTL.out).mono ?_); rintro e w10 ⟨rfl, hT⟩; have HT10 := Lib.hid hT; clear hT))
              clear HDN HTL HTL2 HFD HNW HF12 HT10 HT11 HS
              go_wp2_with fail
              have HF14 : Hid (FS w b kh cb ib ab sb ohs sl n r2 (.slice none 0 0) Co.new V2 rr qq c inn (flA inn c al 0) (flS inn c so 0) A k w13) := Lib.hid (by
                have e1 : flA inn c al 0 = al := by funext j; unfold flA; rw [if_neg (by omega)]
                have e2 : flS inn c so 0 = so := by funext j; unfold flS; rw [if_neg (by omega)]
                rw [e1, e2]; exact HF13.out)
              clear HF13
              go_loopw [85] (fun i wz => ∃ y : Nat, y ≤ n ∧ i = .int .i64 y ∧ FS w b kh cb ib ab sb ohs sl n r2 (.slice none 0 0) Co.new V2 rr qq c inn (flA inn c al y) (flS inn c so y) A k wz) (fun i _ => n - (intOf i).toNat)
              case atStart => exact ⟨0, Nat.zero_le _, rfl, HF14.out⟩
              case round =>
                obtain ⟨y, hy, rfl, hrel⟩ := hrel
                clear HF14
                by_cases hlt : y < n
                · have HFS2 := Lib.hid hrel
                  obtain ⟨d1, d2, d3, d4, d5, d6⟩ := hrel.ne
                  have d7 : sb ≠ ab := fun e => d6 e.symm
                  have hy1 : (y : Int) < (n : Int) := by omega
                  have hyy0 : (0 : Int) ≤ (y : Int) := by omega
                  have HLY := Lib.hid hlt
                  obtain ⟨pv, HPV⟩ : ∃ pv, Hid (pv = ptrV rr c y) := ⟨_, Lib.hid rfl⟩
                  obtain ⟨dn, HDV⟩ : ∃ dn, Hid (dn = doneC (c y)) := ⟨_, Lib.hid rfl⟩
                  have HLD : Hid (∀ W, Frm.Turn [ab, sb] wr W → W.cell? ⟨ib, y, none⟩ = some (.bool (inn y)) ∧ W.cell? ⟨cb, y, none⟩ = some pv) := Lib.hid (fun W hT => by
                    rw [HPV.out]
                    exact ⟨hT.cell (hrel.in_ hlt).1 (by simp; exact ⟨d4, d5⟩), hT.cell (hrel.ptr hlt).1 (by simp; exact ⟨d2, d3⟩)⟩)
                  have HDC : Hid (∀ W, Frm.Turn [] wr W → Calls Try.prog 11 #[pv] W fun e w' => e = .returned (.bool dn) ∧ W = w') := Lib.hid (fun W hT => by
                    rw [HPV.out, HDV.out]
                    exact (hrel.turn hT).done hlt)
                  have hda := hrel.al_ hlt
                  have hds := hrel.so_ hlt
                  obtain ⟨a0, a1⟩ := hda
                  obtain ⟨s0, s1⟩ := hds
                  have hN : ∀ x1 x2 : Bool, x1 = (inn y && dn) → x2 = (inn y || !dn) → FS w b kh cb ib ab sb ohs sl n r2 (.slice none 0 0) Co.new V2 rr qq c inn (flA inn c al (y + 1)) (flS inn c so (y + 1)) A k ((wr.setCell ⟨ab, y, none⟩ (.bool x1)).setCell ⟨sb, y, none⟩ (.bool x2)).drew := fun x1 x2 h1 h2 => by
                    rw [flA_succ, flS_succ, ← HDV.out, ← h1, ← h2]
                    exact ((hrel.putAl hlt x1).putSo hlt x2).turn (Frm.Turn.refl [] _).drew
                  have HNX := Lib.hid hN
                  clear hrel hlt hy hN
                  go_upto_region 22 with fail
                  cases hiv : inn y with
                  | true =>
                    refine wp_region_held_drew (S := fun W' => Frm.Turn [ab, sb] wr W') (by kernel_rfl) ?_ (fun hHeld => ?_)
                    · exact ((Frm.Turn.refl _ wr).drew)
                    refine wpAnyH_take (i := 0) (v := ?_) rfl (by kernel_rfl) (by kernel_rfl) (by kernel_rfl) (fun _ _ _ h => h) (Or.inl ⟨by rfl, ?_⟩) (by assumption) ?_
                    rotate_left
                    · (intro w hSw; (try dsimp only at hSw); go_simp; try with_reducible rfl)
                    try simp only [Act.put, List.getElem_toArray, List.getElem_cons_succ, List.getElem_cons_zero, List.setIfInBounds_toArray, List.set_cons_zero, List.set_cons_succ]
                    refine wpAnyH_take (i := 1) (v := ?_) rfl (by kernel_rfl) (by kernel_rfl) (by kernel_rfl) (fun _ _ _ h => h) (Or.inl ⟨by rfl, ?_⟩) (by assumption) ?_
                    rotate_left
                    · (intro w hSw; (try dsimp only at hSw); go_simp; try with_reducible rfl)
                    try simp only [Act.put, List.getElem_toArray, List.getElem_cons_succ, List.getElem_cons_zero, List.setIfInBounds_toArray, List.set_cons_zero, List.set_cons_succ]
                    refine wpAnyH_take (i := 2) (v := ?_) rfl (by kernel_rfl) (by kernel_rfl) (by kernel_rfl) (fun _ _ _ h => h) (Or.inl ⟨by rfl, ?_⟩) (by assumption) ?_
                    rotate_left
                    · (intro w hSw; (try dsimp only at hSw); go_simp; try with_reducible rfl)
                    try simp only [Act.put, List.getElem_toArray, List.getElem_cons_succ, List.getElem_cons_zero, List.setIfInBounds_toArray, List.set_cons_zero, List.set_cons_succ]
                    refine wpAnyH_take (i := 3) (v := ?_) rfl (by kernel_rfl) (by kernel_rfl) (by kernel_rfl) (fun _ _ _ h => h) (Or.inl ⟨by rfl, ?_⟩) (by assumption) ?_
                    rotate_left
                    · (intro w hSw; (try dsimp only at hSw); go_simp; try with_reducible rfl)
                    try simp only [Act.put, List.getElem_toArray, List.getElem_cons_succ, List.getElem_cons_zero, List.setIfInBounds_toArray, List.set_cons_zero, List.set_cons_succ]
                    refine wpAnyH_take (i := 4) (v := ?_) rfl (by kernel_rfl) (by kernel_rfl) (by kernel_rfl) (fun _ _ _ h => h) (Or.inl ⟨by rfl, ?_⟩) (by assumption) ?_
                    rotate_left
                    · (intro w hSw; (try dsimp only at hSw); go_simp; try with_reducible rfl)
                    try simp only [Act.put, List.getElem_toArray, List.getElem_cons_succ, List.getElem_cons_zero, List.setIfInBounds_toArray, List.set_cons_zero, List.set_cons_succ]
                    refine wpAnyH_take (i := 5) (v := ?_) rfl (by kernel_rfl) (by kernel_rfl) (by kernel_rfl) (fun _ _ _ h => h) (Or.inl ⟨by rfl, ?_⟩) (by assumption) ?_
                    rotate_left
                    · (intro w hSw; (try dsimp only at hSw); go_simp; try with_reducible rfl)
                    try simp only [Act.put, List.getElem_toArray, List.getElem_cons_succ, List.getElem_cons_zero, List.setIfInBounds_toArray, List.set_cons_zero, List.set_cons_succ]
                    refine wpAnyH_take (i := 6) (v := ?_) rfl (by kernel_rfl) (by kernel_rfl) (by kernel_rfl) (fun _ _ _ h => h) (Or.inl ⟨by rfl, ?_⟩) (by assumption) ?_
                    rotate_left
                    · (intro w hSw; (try dsimp only at hSw); go_simp; try with_reducible rfl)
                    try simp only [Act.put, List.getElem_toArray, List.getElem_cons_succ, List.getElem_cons_zero, List.setIfInBounds_toArray, List.set_cons_zero, List.set_cons_succ]
                    refine wpAnyH_take (i := 7) (v := ?_) rfl (by kernel_rfl) (by kernel_rfl) (by kernel_rfl) (fun _ _ _ h => h) (Or.inl ⟨by rfl, ?_⟩) (by assumption) ?_
                    rotate_left
                    · (intro w hSw; (try dsimp only at hSw); obtain ⟨p0, p1⟩ := HLD.out w hSw; rw [hiv] at p0; go_simp; try with_reducible rfl)
                    try simp only [Act.put, List.getElem_toArray, List.getElem_cons_succ, List.getElem_cons_zero, List.setIfInBounds_toArray, List.set_cons_zero, List.set_cons_succ]
                    refine wpAnyH_take (i := 8) (v := ?_) rfl (by kernel_rfl) (by kernel_rfl) (by kernel_rfl) (fun _ _ _ h => h) (Or.inl ⟨by rfl, ?_⟩) (by assumption) ?_
                    rotate_left
                    · (intro w hSw; (try dsimp only at hSw); go_simp; try with_reducible rfl)
                    try simp only [Act.put, List.getElem_toArray, List.getElem_cons_succ, List.getElem_cons_zero, List.setIfInBounds_toArray, List.set_cons_zero, List.set_cons_succ]
                    refine wpAnyH_take (i := 9) (v := ?_) rfl (by kernel_rfl) (by kernel_rfl) (by kernel_rfl) (fun _ _ _ h => h) (Or.inl ⟨by rfl, ?_⟩) (by assumption) ?_
                    rotate_left
                    · (intro w hSw; (try dsimp only at hSw); go_simp; try with_reducible rfl)
                    try simp only [Act.put, List.getElem_toArray, List.getElem_cons_succ, List.getElem_cons_zero, List.setIfInBounds_toArray, List.set_cons_zero, List.set_cons_succ]
                    refine wpAnyH_take (i := 10) (v := ?_) rfl (by kernel_rfl) (by kernel_rfl) (by kernel_rfl) (fun _ _ _ h => h) (Or.inl ⟨by rfl, ?_⟩) (by assumption) ?_
                    rotate_left
                    · (intro w hSw; (try dsimp only at hSw); go_simp; try with_reducible rfl)
                    try simp only [Act.put, List.getElem_toArray, List.getElem_cons_succ, List.getElem_cons_zero, List.setIfInBounds_toArray, List.set_cons_zero, List.set_cons_succ]
                    refine wpAnyH_take (i := 11) (v := ?_) rfl (by kernel_rfl) (by kernel_rfl) (by kernel_rfl) (fun _ _ _ h => h) (Or.inl ⟨by rfl, ?_⟩) (by assumption) ?_
                    rotate_left
                    · (intro w hSw; (try dsimp only at hSw); go_simp; try with_reducible rfl)
                    try simp only [Act.put, List.getElem_toArray, List.getElem_cons_succ, List.getElem_cons_zero, List.setIfInBounds_toArray, List.set_cons_zero, List.set_cons_succ]
                    refine wpAnyH_take (i := 12) (v := ?_) rfl (by kernel_rfl) (by kernel_rfl) (by kernel_rfl) (fun _ _ _ h => h) (Or.inl ⟨by rfl, ?_⟩) (by assumption) ?_
                    rotate_left
                    · (intro w hSw; (try dsimp only at hSw); obtain ⟨p0, p1⟩ := HLD.out w hSw; go_simp; try with_reducible rfl)
                    try simp only [Act.put, List.getElem_toArray, List.getElem_cons_succ, List.getElem_cons_zero, List.setIfInBounds_toArray, List.set_cons_zero, List.set_cons_succ]
                    refine wpAnyH_take (i := 15) (v := ?_) rfl (by kernel_rfl) (by kernel_rfl) (by kernel_rfl) (fun _ _ _ h => h) (Or.inl ⟨by rfl, ?_⟩) (by assumption) ?_
                    rotate_left
                    · (intro w hSw; (try dsimp only at hSw); go_simp; try with_reducible rfl)
                    try simp only [Act.put, List.getElem_toArray, List.getElem_cons_succ, List.getElem_cons_zero, List.setIfInBounds_toArray, List.set_cons_zero, List.set_cons_succ]
                    refine wpAnyH_take (i := 16) (v := ?_) rfl (by kernel_rfl) (by kernel_rfl) (by kernel_rfl) (fun _ _ _ h => h) (Or.inl ⟨by rfl, ?_⟩) (by assumption) ?_
                    rotate_left
                    · (intro w hSw; (try dsimp only at hSw); go_simp; try with_reducible rfl)
                    try simp only [Act.put, List.getElem_toArray, List.getElem_cons_succ, List.getElem_cons_zero, List.setIfInBounds_toArray, List.set_cons_zero, List.set_cons_succ]
                    refine wpAnyH_take (i := 17) (v := ?_) rfl (by kernel_rfl) (by kernel_rfl) (by kernel_rfl) (fun _ _ _ h => h) (Or.inl ⟨by rfl, ?_⟩) (by assumption) ?_
                    rotate_left
                    · (intro w hSw; (try dsimp only at hSw); go_simp; try with_reducible rfl)
                    try simp only [Act.put, List.getElem_toArray, List.getElem_cons_succ, List.getElem_cons_zero, List.setIfInBounds_toArray, List.set_cons_zero, List.set_cons_succ]
                    refine wpAnyH_take (i := 18) (v := ?_) rfl (by kernel_rfl) (by kernel_rfl) (by kernel_rfl) (fun _ _ _ h => h) (Or.inl ⟨by rfl, ?_⟩) (by assumption) ?_
                    rotate_left
                    · (intro w hSw; (try dsimp only at hSw); obtain ⟨p0, p1⟩ := HLD.out w hSw; rw [hiv] at p0; go_simp; try with_reducible rfl)
                    try simp only [Act.put, List.getElem_toArray, List.getElem_cons_succ, List.getElem_cons_zero, List.setIfInBounds_toArray, List.set_cons_zero, List.set_cons_succ]
                    refine wpAnyH_ready (rs := [13]) (by kernel_rfl) (by simp) ?_
                    refine AllReadyH.cons rfl (fun K hK => ?_) AllReadyH.nil
                    try simp only [List.getElem_toArray, List.getElem_cons_succ, List.getElem_cons_zero]
                    go_simp
                    (go_at_call 11; (with_reducible refine (HDC.out _ (Frm.Turn.refl [] wr).drew).mono ?_); rintro e wd ⟨rfl, rfl⟩)
                    try go_wp2_with fail
                    refine hK.out _ _ (hHeld) (fun hHeld1 => ?_)
                    clear hK K
                    try simp only [Act.put, List.getElem_toArray, List.getElem_cons_succ, List.getElem_cons_zero, List.setIfInBounds_toArray, List.set_cons_zero, List.set_cons_succ]
                    refine wpAnyH_take (i := 14) (v := ?_) rfl (by kernel_rfl) (by kernel_rfl) (by kernel_rfl) (fun _ _ _ h => h) (Or.inl ⟨by rfl, ?_⟩) (by assumption) ?_
                    rotate_left
                    · (intro w hSw; (try dsimp only at hSw); go_simp; try with_reducible rfl)
                    try simp only [Act.put, List.getElem_toArray, List.getElem_cons_succ, List.getElem_cons_zero, List.setIfInBounds_toArray, List.set_cons_zero, List.set_cons_succ]
                    refine wpAnyH_take (i := 19) (v := ?_) rfl (by kernel_rfl) (by kernel_rfl) (by kernel_rfl) (fun _ _ _ h => h) (Or.inl ⟨by rfl, ?_⟩) (by assumption) ?_
                    rotate_left
                    · (intro w hSw; (try dsimp only at hSw); go_simp; try with_reducible rfl)
                    try simp only [Act.put, List.getElem_toArray, List.getElem_cons_succ, List.getElem_cons_zero, List.setIfInBounds_toArray, List.set_cons_zero, List.set_cons_succ]
                    refine wpAnyH_take (i := 20) (v := undef) rfl (by kernel_rfl) (by kernel_rfl) (by kernel_rfl) (fun _ _ _ h => h) (Or.inr ⟨by rfl, rfl⟩) (by assumption) ?_
                    try simp only [Act.put, List.getElem_toArray, List.getElem_cons_succ, List.getElem_cons_zero, List.setIfInBounds_toArray, List.set_cons_zero, List.set_cons_succ]
                    refine wpAnyH_take (i := 21) (v := undef) rfl (by kernel_rfl) (by kernel_rfl) (by kernel_rfl) (fun _ _ _ h => h) (Or.inr ⟨by rfl, rfl⟩) (by assumption) ?_
                    try simp only [Act.put, List.getElem_toArray, List.getElem_cons_succ, List.getElem_cons_zero, List.setIfInBounds_toArray, List.set_cons_zero, List.set_cons_succ]
                    refine wpAnyH_take (i := 22) (v := undef) rfl (by kernel_rfl) (by kernel_rfl) (by kernel_rfl) (fun _ _ _ h => h) (Or.inr ⟨by rfl, rfl⟩) (by assumption) ?_
                    try simp only [Act.put, List.getElem_toArray, List.getElem_cons_succ, List.getElem_cons_zero, List.setIfInBounds_toArray, List.set_cons_zero, List.set_cons_succ]
                    refine wpAnyH_take (i := 23) (v := undef) rfl (by kernel_rfl) (by kernel_rfl) (by kernel_rfl) (fun _ _ _ h => h) (Or.inr ⟨by rfl, rfl⟩) (by assumption) ?_
                    try simp only [Act.put, List.getElem_toArray, List.getElem_cons_succ, List.getElem_cons_zero, List.setIfInBounds_toArray, List.set_cons_zero, List.set_cons_succ]
                    refine wpAnyH_take (i := 24) (v := undef) rfl (by kernel_rfl) (by kernel_rfl) (by kernel_rfl) (fun _ _ _ h => h) (Or.inr ⟨by rfl, rfl⟩) (by assumption) ?_
                    try simp only [Act.put, List.getElem_toArray, List.getElem_cons_succ, List.getElem_cons_zero, List.setIfInBounds_toArray, List.set_cons_zero, List.set_cons_succ]
                    refine wpAnyH_take (i := 25) (v := undef) rfl (by kernel_rfl) (by kernel_rfl) (by kernel_rfl) (fun _ _ _ h => h) (Or.inr ⟨by rfl, rfl⟩) (by assumption) ?_
                    try simp only [Act.put, List.getElem_toArray, List.getElem_cons_succ, List.getElem_cons_zero, List.setIfInBounds_toArray, List.set_cons_zero, List.set_cons_succ]
                    refine wpAnyH_take (i := 26) (v := ?_) rfl (by kernel_rfl) (by kernel_rfl) (by kernel_rfl) (fun _ _ _ h => h) (Or.inl ⟨by rfl, ?_⟩) (by assumption) ?_
                    rotate_left
                    · (intro w hSw; (try dsimp only at hSw); go_simp; try with_reducible rfl)
                    try simp only [Act.put, List.getElem_toArray, List.getElem_cons_succ, List.getElem_cons_zero, List.setIfInBounds_toArray, List.set_cons_zero, List.set_cons_succ]
                    refine wpAnyH_take (i := 27) (v := ?_) rfl (by kernel_rfl) (by kernel_rfl) (by kernel_rfl) (fun _ _ _ h => h) (Or.inl ⟨by rfl, ?_⟩) (by assumption) ?_
                    rotate_left
                    · (intro w hSw; (try dsimp only at hSw); go_simp; try with_reducible rfl)
                    try simp only [Act.put, List.getElem_toArray, List.getElem_cons_succ, List.getElem_cons_zero, List.setIfInBounds_toArray, List.set_cons_zero, List.set_cons_succ]
                    refine wpAnyH_ready (rs := [28]) (by kernel_rfl) (by simp) ?_
                    refine AllReadyH.cons rfl (fun K hK => ?_) AllReadyH.nil
                    try simp only [List.getElem_toArray, List.getElem_cons_succ, List.getElem_cons_zero]
                    go_simp
                    refine hK.out _ _ ((hHeld1.setCell (p := ⟨ab, y, none⟩) (.inl (by simp)) _)) (fun hHeld2 => ?_)
                    clear hK K
                    try simp only [Act.put, List.getElem_toArray, List.getElem_cons_succ, List.getElem_cons_zero, List.setIfInBounds_toArray, List.set_cons_zero, List.set_cons_succ]
                    refine wpAnyH_take (i := 29) (v := ?_) rfl (by kernel_rfl) (by kernel_rfl) (by kernel_rfl) (fun _ _ _ h => h) (Or.inl ⟨by rfl, ?_⟩) (by assumption) ?_
                    rotate_left
                    · (intro w hSw; (try dsimp only at hSw); go_simp; try with_reducible rfl)
                    try simp only [Act.put, List.getElem_toArray, List.getElem_cons_succ, List.getElem_cons_zero, List.setIfInBounds_toArray, List.set_cons_zero, List.set_cons_succ]
                    refine wpAnyH_ready (rs := [30]) (by kernel_rfl) (by simp) ?_
                    refine AllReadyH.cons rfl (fun K hK => ?_) AllReadyH.nil
                    try simp only [List.getElem_toArray, List.getElem_cons_succ, List.getElem_cons_zero]
                    go_simp
                    refine hK.out _ _ ((hHeld2.setCell (p := ⟨sb, y, none⟩) (.inl (by simp)) _)) (fun hHeld3 => ?_)
                    clear hK K
                    try simp only [Act.put, List.getElem_toArray, List.getElem_cons_succ, List.getElem_cons_zero, List.setIfInBounds_toArray, List.set_cons_zero, List.set_cons_succ]
                    refine wpAnyH_done (by kernel_rfl) ?_ _
                    go_wp2_with fail
                    refine ⟨⟨y + 1, by have := HLY.out; omega, by simp, HNX.out _ _ (by rw [hiv]; simp) (by rw [hiv]; simp)⟩, ?_⟩
                    have := HLY.out
                    simp [intOf]; omega
                  | false =>
                    refine wp_region_held_drew (S := fun W' => Frm.Turn [ab, sb] wr W') (by kernel_rfl) ?_ (fun hHeld => ?_)
                    · exact ((Frm.Turn.refl _ wr).drew)
                    refine wpAnyH_take (i := 0) (v := ?_) rfl (by kernel_rfl) (by kernel_rfl) (by kernel_rfl) (fun _ _ _ h => h) (Or.inl ⟨by rfl, ?_⟩) (by assumption) ?_
                    rotate_left
                    · (intro w hSw; (try dsimp only at hSw); go_simp; try with_reducible rfl)
                    try simp only [Act.put, List.getElem_toArray, List.getElem_cons_succ, List.getElem_cons_zero, List.setIfInBounds_toArray, List.set_cons_zero, List.set_cons_succ]
                    refine wpAnyH_take (i := 1) (v := ?_) rfl (by kernel_rfl) (by kernel_rfl) (by kernel_rfl) (fun _ _ _ h => h) (Or.inl ⟨by rfl, ?_⟩) (by assumption) ?_
                    rotate_left
                    · (intro w hSw; (try dsimp only at hSw); go_simp; try with_reducible rfl)
                    try simp only [Act.put, List.getElem_toArray, List.getElem_cons_succ, List.getElem_cons_zero, List.setIfInBounds_toArray, List.set_cons_zero, List.set_cons_succ]
                    refine wpAnyH_take (i := 2) (v := ?_) rfl (by kernel_rfl) (by kernel_rfl) (by kernel_rfl) (fun _ _ _ h => h) (Or.inl ⟨by rfl, ?_⟩) (by assumption) ?_
                    rotate_left
                    · (intro w hSw; (try dsimp only at hSw); go_simp; try with_reducible rfl)
                    try simp only [Act.put, List.getElem_toArray, List.getElem_cons_succ, List.getElem_cons_zero, List.setIfInBounds_toArray, List.set_cons_zero, List.set_cons_succ]
                    refine wpAnyH_take (i := 3) (v := ?_) rfl (by kernel_rfl) (by kernel_rfl) (by kernel_rfl) (fun _ _ _ h => h) (Or.inl ⟨by rfl, ?_⟩) (by assumption) ?_
                    rotate_left
                    · (intro w hSw; (try dsimp only at hSw); go_simp; try with_reducible rfl)
                    try simp only [Act.put, List.getElem_toArray, List.getElem_cons_succ, List.getElem_cons_zero, List.setIfInBounds_toArray, List.set_cons_zero, List.set_cons_succ]
                    refine wpAnyH_take (i := 4) (v := ?_) rfl (by kernel_rfl) (by kernel_rfl) (by kernel_rfl) (fun _ _ _ h => h) (Or.inl ⟨by rfl, ?_⟩) (by assumption) ?_
                    rotate_left
                    · (intro w hSw; (try dsimp only at hSw); go_simp; try with_reducible rfl)
                    try simp only [Act.put, List.getElem_toArray, List.getElem_cons_succ, List.getElem_cons_zero, List.setIfInBounds_toArray, List.set_cons_zero, List.set_cons_succ]
                    refine wpAnyH_take (i := 5) (v := ?_) rfl (by kernel_rfl) (by kernel_rfl) (by kernel_rfl) (fun _ _ _ h => h) (Or.inl ⟨by rfl, ?_⟩) (by assumption) ?_
                    rotate_left
                    · (intro w hSw; (try dsimp only at hSw); go_simp; try with_reducible rfl)
                    try simp only [Act.put, List.getElem_toArray, List.getElem_cons_succ, List.getElem_cons_zero, List.setIfInBounds_toArray, List.set_cons_zero, List.set_cons_succ]
                    refine wpAnyH_take (i := 6) (v := ?_) rfl (by kernel_rfl) (by kernel_rfl) (by kernel_rfl) (fun _ _ _ h => h) (Or.inl ⟨by rfl, ?_⟩) (by assumption) ?_
                    rotate_left
                    · (intro w hSw; (try dsimp only at hSw); go_simp; try with_reducible rfl)
                    try simp only [Act.put, List.getElem_toArray, List.getElem_cons_succ, List.getElem_cons_zero, List.setIfInBounds_toArray, List.set_cons_zero, List.set_cons_succ]
                    refine wpAnyH_take (i := 7) (v := ?_) rfl (by kernel_rfl) (by kernel_rfl) (by kernel_rfl) (fun _ _ _ h => h) (Or.inl ⟨by rfl, ?_⟩) (by assumption) ?_
                    rotate_left
                    · (intro w hSw; (try dsimp only at hSw); obtain ⟨p0, p1⟩ := HLD.out w hSw; rw [hiv] at p0; go_simp; try with_reducible rfl)
                    try simp only [Act.put, List.getElem_toArray, List.getElem_cons_succ, List.getElem_cons_zero, List.setIfInBounds_toArray, List.set_cons_zero, List.set_cons_succ]
                    refine wpAnyH_take (i := 8) (v := ?_) rfl (by kernel_rfl) (by kernel_rfl) (by kernel_rfl) (fun _ _ _ h => h) (Or.inl ⟨by rfl, ?_⟩) (by assumption) ?_
                    rotate_left
                    · (intro w hSw; (try dsimp only at hSw); go_simp; try with_reducible rfl)
                    try simp only [Act.put, List.getElem_toArray, List.getElem_cons_succ, List.getElem_cons_zero, List.setIfInBounds_toArray, List.set_cons_zero, List.set_cons_succ]
                    refine wpAnyH_take (i := 9) (v := undef) rfl (by kernel_rfl) (by kernel_rfl) (by kernel_rfl) (fun _ _ _ h => h) (Or.inr ⟨by rfl, rfl⟩) (by assumption) ?_
                    try simp only [Act.put, List.getElem_toArray, List.getElem_cons_succ, List.getElem_cons_zero, List.setIfInBounds_toArray, List.set_cons_zero, List.set_cons_succ]
                    refine wpAnyH_take (i := 10) (v := undef) rfl (by kernel_rfl) (by kernel_rfl) (by kernel_rfl) (fun _ _ _ h => h) (Or.inr ⟨by rfl, rfl⟩) (by assumption) ?_
                    try simp only [Act.put, List.getElem_toArray, List.getElem_cons_succ, List.getElem_cons_zero, List.setIfInBounds_toArray, List.set_cons_zero, List.set_cons_succ]
                    refine wpAnyH_take (i := 11) (v := undef) rfl (by kernel_rfl) (by kernel_rfl) (by kernel_rfl) (fun _ _ _ h => h) (Or.inr ⟨by rfl, rfl⟩) (by assumption) ?_
                    try simp only [Act.put, List.getElem_toArray, List.getElem_cons_succ, List.getElem_cons_zero, List.setIfInBounds_toArray, List.set_cons_zero, List.set_cons_succ]
                    refine wpAnyH_take (i := 12) (v := undef) rfl (by kernel_rfl) (by kernel_rfl) (by kernel_rfl) (fun _ _ _ h => h) (Or.inr ⟨by rfl, rfl⟩) (by assumption) ?_
                    try simp only [Act.put, List.getElem_toArray, List.getElem_cons_succ, List.getElem_cons_zero, List.setIfInBounds_toArray, List.set_cons_zero, List.set_cons_succ]
                    refine wpAnyH_take (i := 13) (v := undef) rfl (by kernel_rfl) (by kernel_rfl) (by kernel_rfl) (fun _ _ _ h => h) (Or.inr ⟨by rfl, rfl⟩) (by assumption) ?_
                    try simp only [Act.put, List.getElem_toArray, List.getElem_cons_succ, List.getElem_cons_zero, List.setIfInBounds_toArray, List.set_cons_zero, List.set_cons_succ]
                    refine wpAnyH_take (i := 14) (v := ?_) rfl (by kernel_rfl) (by kernel_rfl) (by kernel_rfl) (fun _ _ _ h => h) (Or.inl ⟨by rfl, ?_⟩) (by assumption) ?_
                    rotate_left
                    · (intro w hSw; (try dsimp only at hSw); go_simp; try with_reducible rfl)
                    try simp only [Act.put, List.getElem_toArray, List.getElem_cons_succ, List.getElem_cons_zero, List.setIfInBounds_toArray, List.set_cons_zero, List.set_cons_succ]
                    refine wpAnyH_take (i := 15) (v := ?_) rfl (by kernel_rfl) (by kernel_rfl) (by kernel_rfl) (fun _ _ _ h => h) (Or.inl ⟨by rfl, ?_⟩) (by assumption) ?_
                    rotate_left
                    · (intro w hSw; (try dsimp only at hSw); go_simp; try with_reducible rfl)
                    try simp only [Act.put, List.getElem_toArray, List.getElem_cons_succ, List.getElem_cons_zero, List.setIfInBounds_toArray, List.set_cons_zero, List.set_cons_succ]
                    refine wpAnyH_take (i := 16) (v := ?_) rfl (by kernel_rfl) (by kernel_rfl) (by kernel_rfl) (fun _ _ _ h => h) (Or.inl ⟨by rfl, ?_⟩) (by assumption) ?_
                    rotate_left
                    · (intro w hSw; (try dsimp only at hSw); go_simp; try with_reducible rfl)
                    try simp only [Act.put, List.getElem_toArray, List.getElem_cons_succ, List.getElem_cons_zero, List.setIfInBounds_toArray, List.set_cons_zero, List.set_cons_succ]
                    refine wpAnyH_take (i := 17) (v := ?_) rfl (by kernel_rfl) (by kernel_rfl) (by kernel_rfl) (fun _ _ _ h => h) (Or.inl ⟨by rfl, ?_⟩) (by assumption) ?_
                    rotate_left
                    · (intro w hSw; (try dsimp only at hSw); go_simp; try with_reducible rfl)
                    try simp only [Act.put, List.getElem_toArray, List.getElem_cons_succ, List.getElem_cons_zero, List.setIfInBounds_toArray, List.set_cons_zero, List.set_cons_succ]
                    refine wpAnyH_take (i := 18) (v := ?_) rfl (by kernel_rfl) (by kernel_rfl) (by kernel_rfl) (fun _ _ _ h => h) (Or.inl ⟨by rfl, ?_⟩) (by assumption) ?_
                    rotate_left
                    · (intro w hSw; (try dsimp only at hSw); obtain ⟨p0, p1⟩ := HLD.out w hSw; rw [hiv] at p0; go_simp; try with_reducible rfl)
                    try simp only [Act.put, List.getElem_toArray, List.getElem_cons_succ, List.getElem_cons_zero, List.setIfInBounds_toArray, List.set_cons_zero, List.set_cons_succ]
                    refine wpAnyH_take (i := 19) (v := ?_) rfl (by kernel_rfl) (by kernel_rfl) (by kernel_rfl) (fun _ _ _ h => h) (Or.inl ⟨by rfl, ?_⟩) (by assumption) ?_
                    rotate_left
                    · (intro w hSw; (try dsimp only at hSw); go_simp; try with_reducible rfl)
                    try simp only [Act.put, List.getElem_toArray, List.getElem_cons_succ, List.getElem_cons_zero, List.setIfInBounds_toArray, List.set_cons_zero, List.set_cons_succ]
                    refine wpAnyH_take (i := 20) (v := ?_) rfl (by kernel_rfl) (by kernel_rfl) (by kernel_rfl) (fun _ _ _ h => h) (Or.inl ⟨by rfl, ?_⟩) (by assumption) ?_
                    rotate_left
                    · (intro w hSw; (try dsimp only at hSw); go_simp; try with_reducible rfl)
                    try simp only [Act.put, List.getElem_toArray, List.getElem_cons_succ, List.getElem_cons_zero, List.setIfInBounds_toArray, List.set_cons_zero, List.set_cons_succ]
                    refine wpAnyH_take (i := 21) (v := ?_) rfl (by kernel_rfl) (by kernel_rfl) (by kernel_rfl) (fun _ _ _ h => h) (Or.inl ⟨by rfl, ?_⟩) (by assumption) ?_
                    rotate_left
                    · (intro w hSw; (try dsimp only at hSw); go_simp; try with_reducible rfl)
                    try simp only [Act.put, List.getElem_toArray, List.getElem_cons_succ, List.getElem_cons_zero, List.setIfInBounds_toArray, List.set_cons_zero, List.set_cons_succ]
                    refine wpAnyH_take (i := 22) (v := ?_) rfl (by kernel_rfl) (by kernel_rfl) (by kernel_rfl) (fun _ _ _ h => h) (Or.inl ⟨by rfl, ?_⟩) (by assumption) ?_
                    rotate_left
                    · (intro w hSw; (try dsimp only at hSw); go_simp; try with_reducible rfl)
                    try simp only [Act.put, List.getElem_toArray, List.getElem_cons_succ, List.getElem_cons_zero, List.setIfInBounds_toArray, List.set_cons_zero, List.set_cons_succ]
                    refine wpAnyH_take (i := 23) (v := ?_) rfl (by kernel_rfl) (by kernel_rfl) (by kernel_rfl) (fun _ _ _ h => h) (Or.inl ⟨by rfl, ?_⟩) (by assumption) ?_
                    rotate_left
                    · (intro w hSw; (try dsimp only at hSw); obtain ⟨p0, p1⟩ := HLD.out w hSw; go_simp; try with_reducible rfl)
                    try simp only [Act.put, List.getElem_toArray, List.getElem_cons_succ, List.getElem_cons_zero, List.setIfInBounds_toArray, List.set_cons_zero, List.set_cons_succ]
                    refine wpAnyH_ready (rs := [24]) (by kernel_rfl) (by simp) ?_
                    refine AllReadyH.cons rfl (fun K hK => ?_) AllReadyH.nil
                    try simp only [List.getElem_toArray, List.getElem_cons_succ, List.getElem_cons_zero]
                    go_simp
                    (go_at_call 11; (with_reducible refine (HDC.out _ (Frm.Turn.refl [] wr).drew).mono ?_); rintro e wd ⟨rfl, rfl⟩)
                    try go_wp2_with fail
                    refine hK.out _ _ (hHeld) (fun hHeld1 => ?_)
                    clear hK K
                    try simp only [Act.put, List.getElem_toArray, List.getElem_cons_succ, List.getElem_cons_zero, List.setIfInBounds_toArray, List.set_cons_zero, List.set_cons_succ]
                    refine wpAnyH_take (i := 25) (v := ?_) rfl (by kernel_rfl) (by kernel_rfl) (by kernel_rfl) (fun _ _ _ h => h) (Or.inl ⟨by rfl, ?_⟩) (by assumption) ?_
                    rotate_left
                    · (intro w hSw; (try dsimp only at hSw); go_simp; try with_reducible rfl)
                    try simp only [Act.put, List.getElem_toArray, List.getElem_cons_succ, List.getElem_cons_zero, List.setIfInBounds_toArray, List.set_cons_zero, List.set_cons_succ]
                    refine wpAnyH_take (i := 26) (v := ?_) rfl (by kernel_rfl) (by kernel_rfl) (by kernel_rfl) (fun _ _ _ h => h) (Or.inl ⟨by rfl, ?_⟩) (by assumption) ?_
                    rotate_left
                    · (intro w hSw; (try dsimp only at hSw); go_simp; try with_reducible rfl)
                    try simp only [Act.put, List.getElem_toArray, List.getElem_cons_succ, List.getElem_cons_zero, List.setIfInBounds_toArray, List.set_cons_zero, List.set_cons_succ]
                    refine wpAnyH_take (i := 27) (v := ?_) rfl (by kernel_rfl) (by kernel_rfl) (by kernel_rfl) (fun _ _ _ h => h) (Or.inl ⟨by rfl, ?_⟩) (by assumption) ?_
                    rotate_left
                    · (intro w hSw; (try dsimp only at hSw); go_simp; try with_reducible rfl)
                    try simp only [Act.put, List.getElem_toArray, List.getElem_cons_succ, List.getElem_cons_zero, List.setIfInBounds_toArray, List.set_cons_zero, List.set_cons_succ]
                    refine wpAnyH_ready (rs := [28]) (by kernel_rfl) (by simp) ?_
                    refine AllReadyH.cons rfl (fun K hK => ?_) AllReadyH.nil
                    try simp only [List.getElem_toArray, List.getElem_cons_succ, List.getElem_cons_zero]
                    go_simp
                    refine hK.out _ _ ((hHeld1.setCell (p := ⟨ab, y, none⟩) (.inl (by simp)) _)) (fun hHeld2 => ?_)
                    clear hK K
                    try simp only [Act.put, List.getElem_toArray, List.getElem_cons_succ, List.getElem_cons_zero, List.setIfInBounds_toArray, List.set_cons_zero, List.set_cons_succ]
                    refine wpAnyH_take (i := 29) (v := ?_) rfl (by kernel_rfl) (by kernel_rfl) (by kernel_rfl) (fun _ _ _ h => h) (Or.inl ⟨by rfl, ?_⟩) (by assumption) ?_
                    rotate_left
                    · (intro w hSw; (try dsimp only at hSw); go_simp; try with_reducible rfl)
                    try simp only [Act.put, List.getElem_toArray, List.getElem_cons_succ, List.getElem_cons_zero, List.setIfInBounds_toArray, List.set_cons_zero, List.set_cons_succ]
                    refine wpAnyH_ready (rs := [30]) (by kernel_rfl) (by simp) ?_
                    refine AllReadyH.cons rfl (fun K hK => ?_) AllReadyH.nil
                    try simp only [List.getElem_toArray, List.getElem_cons_succ, List.getElem_cons_zero]
                    go_simp
                    refine hK.out _ _ ((hHeld2.setCell (p := ⟨sb, y, none⟩) (.inl (by simp)) _)) (fun hHeld3 => ?_)
                    clear hK K
                    try simp only [Act.put, List.getElem_toArray, List.getElem_cons_succ, List.getElem_cons_zero, List.setIfInBounds_toArray, List.set_cons_zero, List.set_cons_succ]
                    refine wpAnyH_done (by kernel_rfl) ?_ _
                    go_wp2_with fail
                    refine ⟨⟨y + 1, by have := HLY.out; omega, by simp, HNX.out _ _ (by rw [hiv]; simp) (by rw [hiv]; simp)⟩, ?_⟩
                    have := HLY.out
                    simp [intOf]; omega
                · obtain rfl : y = n := by omega
                  have hyy : ¬ (y : Int) < (y : Int) := by omega
                  have HSP := Lib.hid (fin_collect (R0 := A.t.reads) (m := j) hrel HI.out.1 (fi_same (fi_new hrel.gd HI.out.1) (fun i hi => by unfold flA; rw [if_pos hi]) (fun i hi => by unfold flS; rw [if_pos hi])) rfl HI.out.2.2.2 (by have := HLT.out; have := HM.out; omega) (by decide))
                  clear hrel hlt hy
                  go_wp2_with (go_at_call 12; (with_reducible refine (HSP.out).mono ?_); rintro e w15 ⟨rfl, h⟩; have HR15 := Lib.hid h; clear h)
                  refine ⟨⟨j + 1, r2, A.t.reads, by have := HLT.out; omega, by simp, rfl, rfl, HR15.out⟩, ?_⟩
                  have := HLT.out
                  simp [intOf]; omega
            · rw [decide_eq_false hph] at HDN
              have HSP := Lib.hid (fin_collect (m := j) HS.out HI.out.1 HI.out.2.1 HI.out.2.2.1 HI.out.2.2.2 (by have := HLT.out; have := HM.out; omega) hph)
              clear hph HTL HS HI
              go_wp2_with (first
                | (go_at_call 9; (with_reducible refine (HDN.out).mono ?_); rintro e w9 ⟨rfl, rfl⟩)
                | (go_at_call 12; (with_reducible refine (HSP.out).mono ?_); rintro e w15 ⟨rfl, h⟩; have HR15 := Lib.hid h; clear h))
              refine ⟨⟨j + 1, r, R0, by have := HLT.out; omega, by simp, rfl, rfl, HR15.out⟩, ?_⟩
              have := HLT.out
              simp [intOf]; omega
          · obtain ⟨q, rfl⟩ : ∃ q, p = q + 1 := ⟨p - 1, by omega⟩
            have hqn : q < n := by omega
            obtain ⟨ip, hip⟩ : ∃ ip : Int, ip = ((q + 1 : Nat) : Int) := ⟨_, rfl⟩
            rw [← hip] at hpp
            have i0 : (ip == 0) = false := by simpa using (by omega : ¬ ip = 0)
            have i1 : ip - 1 = (q : Int) := by omega
            have i2 : ip ≤ 12 := by omega
            have i3 : 0 ≤ ip := by omega
            have hw' : IntKind.i64.wrap (q : Int) = (q : Int) := by rw [IntKind.wrap_i64]; omega
            have q0 : (0 : Int) ≤ (q : Int) := by omega
            have q1 : (q : Int) < (n : Int) := by omega
            rcases HB1.out with e | ⟨ga1, gc1, e, hcell1⟩
            · omega
            cases e
            have hc1 := S.crew.kin.turn.cell (hcell1 q hqn) (by simp)
            obtain ⟨x0, x1⟩ := HZ1.out q hqn
            have hse := HSE.out q hqn
            have h15 := HS15.out q
            have h4 := sg_lt4 ⟨sl q, h15⟩
            dsimp only at h4
            have HPL := Lib.hid (place13 (n := 4) (kh := kh) (c := kc) (sl q) (z1 q) wr hse x0 x1 h4 (by omega) (HO.out _ S.hs))
            obtain ⟨dn, HDN⟩ : ∃ dn, Hid (dn = doneC (c q)) := ⟨_, Lib.hid rfl⟩
            obtain ⟨pv, HPV⟩ : ∃ pv, Hid (pv = ptrV rr c q) := ⟨_, Lib.hid rfl⟩
            have hpv := (S.ptr hqn).1
            rw [← HPV.out] at hpv
            have HDC : Hid (Calls Try.prog 11 #[pv] wr fun e w' => e = .returned (.bool dn) ∧ wr = w') := Lib.hid (by rw [HPV.out, HDN.out]; exact S.done hqn)
            have hin := (S.in_ hqn).1
            have HQN := Lib.hid (And.intro hqn h15)
            have HEX := Lib.hid (fun W => exit9 (b := b) (s := sl q) (by have := h15; omega) W)
            have HEN := Lib.hid (fun W => enterX (b := b) (s := sl q) (by have := h15; omega) W)
            have HFW : Hid (∀ w5, Frm.Turn [] wr w5 → w5.cell? ⟨cb, q, none⟩ = some pv ∧ w5.frozen? ⟨cb, q, none⟩ = false ∧ w5.cell? ⟨ib, q, none⟩ = some (.bool (inn q)) ∧ w5.frozen? ⟨ib, q, none⟩ = false ∧ cb ≠ ib) := Lib.hid (fun w5 hT => by
              have h1 := HS.out.turn hT
              have h2 := h1.ptr hqn
              have h3 := h1.in_ hqn
              rw [HPV.out]
              exact ⟨h2.1, h2.2, h3.1, h3.2, h1.ne.1⟩)
            generalize z1 q = zq at hc1 x0 x1 HPL hse
            clear S hpn hp0 hip hcell1 hqn h15 h4
            go_upto_if 126 with (go_at_call 11; (with_reducible refine (HDC.out).mono ?_); rintro e w4 ⟨rfl, rfl⟩)
            clear HDC
            go_cut [] (fun W2 => FinM w b kh cb ib ab sb ohs sl n j r R0 q W2)
            case first =>
              cases dn with
              | false =>
                go_wp2_with fail
                go_meet
                exact fin_on HS.out HI.out.2.2.2 HI.out.1 HI.out.2.1 HI.out.2.2.1 HDN.out.symm
              | true =>
                cases hiv : inn q with
                | true =>
                  rw [hiv] at hin HFW
                  have HIV := Lib.hid hiv
                  clear hiv
                  go_wp2_with (first
                    | (go_at_call 14; (with_reducible refine (HPL.out).mono ?_); rintro e w5 ⟨rfl, hT⟩; have HT5 := Lib.hid hT; clear hT)
                    | (go_at_call 13; (with_reducible refine (HEX.out _).mono ?_); rintro e w6 ⟨r2, q2, rfl, hm⟩; have HM6 := Lib.hid (hm.pre HT5.out); obtain ⟨a1, a2, a3, a4, a5⟩ := HFW.out w6 (HT5.out.trans hm.2.2.2.2.2.2 (by simp)); have a6 : ib ≠ cb := fun e => a5 e.symm; clear hm))
                  go_meet
                  exact fin_exit HS.out HI.out.2.2.2 HI.out.1 HI.out.2.1 HI.out.2.2.1 HQN.out.1 HDN.out.symm HIV.out HM6.out
                | false =>
                  rw [hiv] at hin HFW
                  have HIV := Lib.hid hiv
                  clear hiv
                  go_wp2_with (first
                    | (go_at_call 14; (with_reducible refine (HPL.out).mono ?_); rintro e w5 ⟨rfl, hT⟩; have HT5 := Lib.hid hT; clear hT)
                    | (go_at_call 15; (with_reducible refine (HEN.out _).mono ?_); rintro e w6 ⟨r2, q2, rfl, hm⟩; have HM6 := Lib.hid (hm.pre HT5.out); obtain ⟨a1, a2, a3, a4, a5⟩ := HFW.out w6 (HT5.out.trans hm.2.2.2.2.2.2 (by simp)); have a6 : ib ≠ cb := fun e => a5 e.symm; clear hm))
                  go_meet
                  exact fin_enter HS.out HI.out.2.2.2 HI.out.1 HI.out.2.1 HI.out.2.2.1 HQN.out.1 HDN.out.symm HIV.out HM6.out
            case rest =>
              obtain ⟨xa, ya, k1, k2, k3, k4, k5⟩ := hcut.cells HQN.out.1
              obtain ⟨r2, k6, hst⟩ := hcut.step HQN.out.1 (by have := HLT.out; have := HM.out; omega)
              have k7 : sb ≠ ab := fun e => k5 e.symm
              have HSP := Lib.hid hst
              clear hcut hst HFW HEX HEN HS HI HPL hin hpv hc1 hc2
              go_wp2_with (go_at_call 16; (with_reducible refine (HSP.out).mono ?_); rintro e w7 ⟨rfl, h⟩; have HR7 := Lib.hid h; clear h)
              refine ⟨⟨j + 1, r, R0, by have := HLT.out; omega, by simp, rfl, rfl, HR7.out⟩, ?_⟩
              have := HLT.out
              simp [intOf]; omega
        · obtain rfl : j = m := by omega
          have hjj : ¬ (j : Int) < (j : Int) := by omega
          have HDN := Lib.hid (co_done S.obj S.crew I.fit.ph)
          obtain ⟨t0, t1, t3, t4, t5, htl⟩ := crew_reads S.crew
          have HTL := Lib.hid htl
          have HTW := Lib.hid S.crew.kin.turn
          have HFO : Hid (C.ph = 2 → ∀ W, Frm.Turn [] wr W → Calls Try.prog 10 #[.pointer (some ⟨r, 0, none⟩), .slice (some ⟨kh, 0, none⟩) 4 kc, .slice ao1 n vc1, .slice (some ⟨ab, 0, none⟩) n n, .slice (some ⟨sb, 0, none⟩) n n, .int .i64 R] W fun e w' => e = .returned (.bool true) ∧ Frm.Turn [] W w') := Lib.hid (fun h W hT => fs_found (S.turn hT) I h HO.out HB0.out HZ1.out HSE.out)
          clear S hp I hR hk hR0 htl hlt hj HS HI
          by_cases hph : C.ph = 2
          · rw [decide_eq_true hph] at HDN
            have HFD := Lib.hid (HFO.out hph)
            clear HFO hph
            go_wp2_with (first
              | (go_at_call 9; (with_reducible refine (HDN.out).mono ?_); rintro e w9 ⟨rfl, rfl⟩)
              | (go_at_call 8; (with_reducible refine (HTL.out).mono ?_); rintro e w10 ⟨rfl, hT⟩; have HT10 := Lib.hid hT; clear hT)
              | (go_at_call 10; (with_reducible refine (HFD.out _ HT10.out).mono ?_); rintro e w11 ⟨rfl, hT⟩; have HT11 := Lib.hid hT; clear hT))
            go_ret
            exact ⟨rfl, HTW.out.trans (HT10.out.trans HT11.out (by simp)) (by simp)⟩
          · rw [decide_eq_false hph] at HDN
            clear HFO hph
            go_wp2_with (first
              | (go_at_call 9; (with_reducible refine (HDN.out).mono ?_); rintro e w9 ⟨rfl, rfl⟩))
            go_ret
            exact ⟨rfl, HTW.out⟩
end Col
end Go.Proofs.Ythnmnpjjpckeeaa
