/- The walk of CountTops, whole. -/
import Derived.Test.YtolcpfidmpoipaaCountTopsWalk
set_option linter.unusedVariables false
set_option linter.unusedSimpArgs false
namespace Go.Proofs.Ytolcpfidmpoipaa
namespace Cnt
open Go.RowKit Go.Maps Arn Pac Clm

variable {w W W' : World} {b kh tb ob pb n k m : Nat} {rr qq : Nat → Nat} {c : Nat → Option Ct} {A : Ar} {ohs : Obj} {sl : Nat → Nat}
def HsO (o : Obj) (kh n : Nat) : Prop := ∀ W : World, W.heap[kh]? = some o → HsAt W kh n
theorem hs_obj {base : Nat} {v : Value} (h : W.ownsRow base 25 1 v n (hsV n)) (hn : 0 < n) : ∃ kh c o, v = .slice (some ⟨kh, 0, none⟩) n c ∧ W.heap[kh]? = some o ∧ HsO o kh n ∧ base ≤ kh := by
  rcases h.2 with ⟨hv, hz⟩ | ⟨g, cap, cur, rfl, hb, hh, h1, h2, h3, h4⟩
  · omega
  · refine ⟨g, cap, _, rfl, hh, fun W' hW x hx => ?_, hb⟩
    rw [Frm.cell_row _ _ _ _ _ _ hW]
    have e : (cur.toList.take (n * 1))[x]? = some (.int .u64 (hS x)) := by rw [h4]; exact hsV_get hx
    rw [List.getElem?_take] at e
    split at e
    · simpa using e
    · cases e
/-- Segments, with what the laws of layer 12 need of it. -/
theorem segs4 (w0 w : World) (ht : Frm.Turn [] w0 w) : Calls Try.prog 6 #[.int .i64 4] w fun e W =>
    ∃ b CS kh c ohs A k K, e = .returned (.tuple #[.pointer (some ⟨b, 0, none⟩), .agg CS, .slice (some ⟨kh, 0, none⟩) 4 c]) ∧ CS.size = 20 ∧ CS.all (·.oneCell') = true ∧ Kin w0 b K A k W ∧ kh ∈ K ∧ W.heap[kh]? = some ohs ∧ HsO ohs kh 4 ∧ w0.heap.size ≤ kh ∧ k ≤ 8 ∧ SegA A 4 zF := by
  refine (Segments_any 4 w (by omega)).mono ?_
  rintro e W ⟨b, u, G, A, k, hv, rfl, h1, h2, h3, h4, h5, h6, h7, h8, h9⟩
  obtain ⟨CS, rfl, z1, z2⟩ := h6.row
  obtain ⟨kh, c, o, rfl, g1, g2, g3⟩ := hs_obj h7 (by omega)
  have := ht.size
  exact ⟨b, CS, kh, c, o, A, k, _, rfl, z1, z2, kin_base h1 ht, by simp [Value.ownBlock], g1, g2, by omega, by omega, h3⟩
theorem top_start {K : List Nat} (hk : Kin w b K A k W) (hkh : kh ∈ K) (ho : W.heap[kh]? = some ohs) (hl : w.heap.size ≤ kh) (h8 : k ≤ 8) (I : SegA A 4 zF) {v u : Value} (h2 : TwoC 4 15 W v u W') :
    ∃ tb ob, v = .slice (some ⟨tb, 0, none⟩) 4 4 ∧ u = .slice (some ⟨ob, 0, none⟩) 15 15 ∧ TopR w b kh tb ob ohs sl 0 W' := by
  obtain ⟨tb, ob, rfl, rfl, a1, a2, a3, a4, a5, a6⟩ := h2
  have l1 := hk.lt hkh
  have l2 := hk.turn.size
  have b4 := (Array.getElem?_eq_some_iff.1 a4).1
  have b5 := (Array.getElem?_eq_some_iff.1 a5).1
  have hk' : Kin w b (tb :: ob :: K) A k W' := kin_adds hk a6 (fun q hq => by
    simp only [List.mem_cons] at hq
    rcases hq with rfl | rfl | h
    · exact .inr ⟨a2, b4⟩
    · exact .inr ⟨a3, b5⟩
    · exact .inl h)
  refine ⟨tb, ob, rfl, rfl, fun _ => kh, fun _ => kh, fun _ => none, A, k, crew_new hk' (fun p hp => ?_) ?_ (x := kh) (by simp [hkh]), by omega, by rw [tF_zero]; exact I⟩
  · simp only [topX, List.mem_cons, List.not_mem_nil, or_false] at hp
    rcases hp with rfl | rfl | rfl
    · exact ⟨by simp [hkh], a6.keep ho (by simp), hl⟩
    · exact ⟨by simp, a4, by dsimp only; omega⟩
    · exact ⟨by simp, a5, by dsimp only; omega⟩
  · simp only [topX, List.map_cons, List.map_nil, List.nodup_cons, List.mem_cons, List.not_mem_nil, or_false, not_or, not_false_eq_true, and_true, List.nodup_nil]
    exact ⟨⟨by omega, by omega⟩, a1⟩
def oPlace (g s : Nat) : Obj := .cells #[.int .u64 (hS g), .int .i64 s] 38
theorem mid_start {r q j : Nat} (S : Crew w b (topX kh tb ob ohs (topN sl j) (ownN sl j)) 1 rr qq c A k W) (hk : k ≤ 20 + 10 * j) (I : SegA A 4 (fun g y => ((tF sl j g y : Nat) : Int))) {W3 W4 : World} (hT : Frm.Turn [] W W3) (hs : sl j < 15)
    (hm : MadeC (W3.alloc (oPlace (sgN (sl j)) (sl j))) b ⟨hS (sgN (sl j)), sl j, 0, kN (sl j), 1⟩ r q W4) : MidR w b kh tb ob W3.heap.size ohs (oPlace (sgN (sl j)) (sl j)) sl j r q 0 W4 := by
  have S3 := (S.turn hT).more ((Frm.Turn.refl [] W3).alloc (oPlace (sgN (sl j)) (sl j))) (Nat.le_refl _) (World.alloc_heap_new W3 _)
  have e : (⟨hS (sgN (sl j)), sl j, 0, kN (sl j), 1⟩ : Ct) = enC (sl j) 0 := by unfold enC; simp
  rw [e] at hm
  have S4 := S3.made (i := 0) hm (enC_fit (by omega) 0)
  refine ⟨_, _, _, A, k, S4, upd_at _ _ _, upd_at _ _ _, by omega, ?_⟩
  have e2 : (fun g y => ((tF sl j g y + con (sl j) 0 (min 0 (kN (sl j))) g y : Nat) : Int)) = fun g y => ((tF sl j g y : Nat) : Int) := by
    funext g y
    rw [Nat.zero_min, con_none (Nat.le_refl _)]; rfl
  rw [e2]; exact I
/-- While the counters are read: y of them were. -/
def RdR (w : World) (b kh tb ob : Nat) (ohs : Obj) (sl : Nat → Nat) (m y : Nat) (W : World) : Prop :=
  ∃ rr qq c A k, Crew w b (topX kh tb ob ohs (topN sl m) (ownN sl m)) 1 rr qq c A k W ∧ k ≤ 500 + y ∧ SegA A 4 (fun g j => ((tF sl m g j : Nat) : Int))
theorem RdR.crew {y : Nat} (h : RdR w b kh tb ob ohs sl m y W) : W.heap[kh]? = some ohs ∧ W.heap[tb]? = some (oNums (topN sl m) 4) ∧ W.heap[ob]? = some (oNums (ownN sl m) 15) := by
  obtain ⟨rr, qq, c, A, k, S, _⟩ := h
  exact ⟨S.x (x := kh) (by simp [topX]), S.x (x := tb) (by simp [topX]), S.x (x := ob) (by simp [topX])⟩
theorem RdR.turn {y : Nat} (h : RdR w b kh tb ob ohs sl m y W) (ht : Frm.Turn [] W W') : RdR w b kh tb ob ohs sl m y W' := by
  obtain ⟨rr, qq, c, A, k, S, h1, h2⟩ := h
  exact ⟨rr, qq, c, A, k, S.turn ht, h1, h2⟩
theorem RdR.read {y g j : Nat} (h : RdR w b kh tb ob ohs sl m y W) (hy : y ≤ 100) (hg : g < 4) (hj : j < 7 * 2 ^ g) : Calls Try.prog 15 #[.pointer (some ⟨b, 0, none⟩), .agg #[.int .u64 (hS g), .int .i64 j]] W fun e w' => e = .returned (.tuple #[.int .u64 (tF sl m g j : Nat), .int .i64 0]) ∧ RdR w b kh tb ob ohs sl m (y + 1) w' := by
  obtain ⟨rr, qq, c, A, k, S, h1, h2⟩ := h
  have hp := pow_le (g := g) (by omega)
  refine (S.read (by omega) (hS g) j (hS_64 (by omega)) (by omega) (by omega)).mono ?_
  rintro e w' ⟨he, S'⟩
  obtain ⟨e1, e2, _⟩ := h2.read hg hj
  rw [e1] at he
  exact ⟨he, rr, qq, c, _, _, S', by omega, e2⟩
theorem MidR.crew {op : Obj} {r q j j' : Nat} (h : MidR w b kh tb ob pb ohs op sl j r q j' W) : W.heap[pb]? = some op ∧ W.heap[tb]? = some (oNums (topN sl j) 4) ∧ W.heap[ob]? = some (oNums (ownN sl j) 15) ∧ tb ≠ ob ∧ pb ≠ tb := by
  obtain ⟨rr, qq, c, A, k, S, _⟩ := h
  have hd := S.dist
  simp only [topX, List.map_cons, List.map_nil, List.nodup_cons, List.mem_cons, List.not_mem_nil, or_false, not_or, not_false_eq_true, and_true, List.nodup_nil] at hd
  exact ⟨S.x (x := pb) (by simp), S.x (x := tb) (by simp [topX]), S.x (x := ob) (by simp [topX]), hd.2.2, hd.1.2.1⟩
set_option maxRecDepth 100000 in
set_option maxHeartbeats 4000000 in
theorem tops_any (v : Value) (z : Nat → Int) (m : Nat) (w : World) (hb : BytesC w v z m) (hz : ∀ i, i < m → 0 ≤ z i ∧ z i < 256) (hm : m ≤ 9223372036854775807) :
    Calls Try.prog 4 #[v] w fun e w' => e = .returned (.bool true) ∧ Frm.Turn [] w w' := by
  have HF := Lib.hid (first_any w)
  obtain ⟨⟨ao, vc, rfl⟩, hb2⟩ := hb
  have HB := Lib.hid hb2
  have HZ := Lib.hid hz
  clear hb2 hz
  by_cases hbig : 40 < m
  · have hbig' : (40 : Int) < (m : Int) := by omega
    go_enter Try.func4, Try.ntmps4
    go_wp2_with (first
      | (go_at_call 5; (with_reducible refine (HF.out).mono ?_); rintro e w1 ⟨rfl, hT⟩; have HT1 := Lib.hid hT; clear hT))
    go_ret
    exact ⟨rfl, HT1.out⟩
  · have hbig' : ¬ (40 : Int) < (m : Int) := by omega
    have HM : Hid (m ≤ 40) := Lib.hid (by omega)
    obtain ⟨fs, hfs⟩ := struct_of under_refA
    have HFS := Lib.hid hfs
    have hm4 : ∀ W : World, (Instr.makeSlice 48 (.int .i64 4) (.int .i64 4)).run Try.prog W = .ok (.slice (some ⟨W.heap.size, 0, none⟩) 4 4) (W.alloc (.cells (nums (fun _ => 0) 4).toArray 3)) := made_nums 4 (by omega)
    have hm15 : ∀ W : World, (Instr.makeSlice 48 (.int .i64 15) (.int .i64 15)).run Try.prog W = .ok (.slice (some ⟨W.heap.size, 0, none⟩) 15 15) (W.alloc (.cells (nums (fun _ => 0) 15).toArray 3)) := made_nums 15 (by omega)
    clear hm hbig
    obtain ⟨sl, HSL⟩ : ∃ sl : Nat → Nat, Hid (sl = fun i => (z i % 15).toNat) := ⟨_, Lib.hid rfl⟩
    have HS15 : Hid (∀ i, sl i < 15) := Lib.hid (fun i => by rw [HSL.out]; dsimp only; omega)
    go_enter Try.func4, Try.ntmps4
    go_upto_region 6 with (first
      | (go_at_call 5; (with_reducible refine (HF.out).mono ?_); rintro e w1 ⟨rfl, hT⟩; have HT1 := Lib.hid hT; have HSG := Lib.hid (segs4 w w1 hT); clear hT)
      | (go_at_call 6; (with_reducible refine (HSG.out).mono ?_); rintro e w2 ⟨b, CS, kh, c, ohs, A, k, K, rfl, z1, z2, z3, z4, z5, z6, z7, z8, z9⟩; have HZ1 := Lib.hid z1; have HZ2 := Lib.hid z2; have HQ := Lib.hid (And.intro z3 (And.intro z4 (And.intro z5 (And.intro z7 (And.intro z8 z9))))); have HO := Lib.hid z6; clear z1 z2 z3 z4 z5 z6 z7 z8 z9)
      | (refine wpList_store_row rfl 31 (.tmp 4) (.tmp 30) rfl w2.heap.size CS rfl rfl 31 _ (World.alloc_heap_new w2 _) (by rw [HZ1.out]; exact info_refA) (by rw [HZ1.out]; rfl) HZ2.out ?_))
    generalize hw5 : World.setRow _ w2.heap.size CS = w5
    have HT5 : Hid (Frm.Turn [] w2 w5) := Lib.hid (by rw [← hw5]; exact setRow_turn ((Frm.Turn.refl [] w2).alloc _) (.inr (Nat.le_refl _)) CS)
    have HTC := Lib.hid (two_c 4 15 w5)
    clear hw5 HSG HF
    go_cut [6, 7] (fun s6 s7 W2 => TwoC 4 15 w5 s6 s7 W2)
    case first =>
      go_region
      all_goals go_wp2_with fail
      all_goals go_meet
      all_goals first
        | exact HTC.out.1
        | exact HTC.out.2
    case rest =>
      obtain ⟨q1, q2, q3, q4, q5, q6⟩ := HQ.out
      obtain ⟨tb, ob, rfl, rfl, hst⟩ := top_start (sl := sl) (q1.step HT5.out) q2 (HT5.out.keep q3 (by simp)) q4 q5 q6 hcut
      have HHO := HO
      clear hcut q1 q2 q3 q4 q5 q6 HTC HQ HO HT5 HZ1 HZ2 hm4 hm15
      go_wp2_with fail
      go_loopw [36] (fun i wr => ∃ j : Nat, j ≤ m ∧ i = .int .i64 j ∧ TopR w b kh tb ob ohs sl j wr) (fun i _ => m - (intOf i).toNat)
      case atStart => exact ⟨0, Nat.zero_le _, rfl, hst⟩
      case round =>
        obtain ⟨j, hj, rfl, hrel⟩ := hrel
        clear hst
        by_cases hlt : j < m
        · obtain ⟨rr, qq, c0, A0, k0, S, r2, r3⟩ := hrel
          rcases HB.out with e | ⟨ga, gc, e, hcell⟩
          · omega
          cases e
          have hc1 := S.kin.turn.cell (hcell j hlt) (by simp)
          obtain ⟨z0, z1⟩ := HZ.out j hlt
          have h15 := HS15.out j
          have hsl : (sl j : Int) = z j % 15 := by rw [HSL.out]; dsimp only; omega
          have h4 := sg_lt4 ⟨sl j, h15⟩
          dsimp only at h4
          have HHS := Lib.hid (HHO.out _ (S.x (x := kh) (o := ohs) (by simp [topX])))
          have HPL : Hid (Calls Try.prog 7 #[.slice (some ⟨kh, 0, none⟩) 4 c, .int .i64 (z j % 15)] wr fun e w' => e = .returned (.agg #[.int .u64 (hS (sgN (sl j))), .int .i64 (sl j)]) ∧ Frm.Turn [] wr w') := Lib.hid (by
            have := place_any (kh := kh) (c := c) (sl j) wr (by omega) h4 (by omega) HHS.out
            rw [hsl] at this
            rw [hsl]
            exact this)
          have HH := Lib.hid (And.intro S (And.intro r2 r3))
          have hj1 : (j : Int) < (m : Int) := by omega
          have hj40 : (j : Int) ≤ 40 := by have := HM.out; omega
          have HSLJ := Lib.hid hsl
          have HJ := Lib.hid (And.intro hlt (And.intro h15 h4))
          clear hcell S r2 r3 hsl h4 h15 hlt hj
          generalize z j = zj at hc1 z0 z1 HPL HSLJ
          have HEN : Hid (∀ w3, Frm.Turn [] wr w3 → Calls Try.prog 10 #[.pointer (some ⟨b, 0, none⟩), .agg #[.int .u64 (hS (sgN (sl j))), .int .i64 (sl j)]] (w3.alloc (.cells #[.int .u64 (hS (sgN (sl j))), .int .i64 (sl j)] 38)) fun e w' => ∃ r q, e = .returned (.pointer (some ⟨r, 0, none⟩)) ∧ MidR w b kh tb ob w3.heap.size ohs (oPlace (sgN (sl j)) (sl j)) sl j r q 0 w') := Lib.hid (fun w3 hT => by
            refine (enterC_any (b := b) (hS (sgN (sl j))) (sl j) _ (by have := HJ.out.2.1; omega)).mono ?_
            rintro e w' ⟨r, q, he, hm⟩
            exact ⟨r, q, he, mid_start HH.out.1 HH.out.2.1 HH.out.2.2 hT HJ.out.2.1 hm⟩)
          go_wp2_with (first
            | (go_at_call 7; (with_reducible refine (HPL.out).mono ?_); rintro e w3 ⟨rfl, hT⟩; have HT3 := Lib.hid hT; clear hT)
            | (go_at_call 10; (with_reducible refine (HEN.out w3 HT3.out).mono ?_); rintro e w4 ⟨r, q, rfl, h⟩; have HM4 := Lib.hid h; clear h))
          clear HPL HT3 HHS HEN HH
          generalize w3.heap.size = pb at HM4 ⊢
          go_loopw [48] (fun i wz => ∃ y : Nat, y ≤ 9 ∧ i = .int .i64 y ∧ MidR w b kh tb ob pb ohs (oPlace (sgN (sl j)) (sl j)) sl j r q y wz) (fun i _ => 9 - (intOf i).toNat)
          case atStart => exact ⟨0, Nat.zero_le _, rfl, HM4.out⟩
          case round =>
            obtain ⟨y, hy, rfl, hmid⟩ := hrel
            clear HM4
            by_cases hlt2 : y < 9
            · have HST := Lib.hid (mid_step hmid HJ.out.2.1 (by have := HJ.out.1; have := HM.out; omega) (by omega))
              have hy1 : (y : Int) < 9 := by omega
              clear hmid
              go_wp2_with (go_at_call 11; (with_reducible refine (HST.out).mono ?_); rintro e w5 ⟨rfl, hg⟩; have HG5 := Lib.hid hg; clear hg)
              refine ⟨⟨y + 1, by omega, by simp, HG5.out⟩, ?_⟩
              simp [intOf]; omega
            · obtain rfl : y = 9 := by omega
              obtain ⟨x1, x2, x3, x4, x5⟩ := hmid.crew
              obtain ⟨a0, a1⟩ := cell_of (i := sgN (sl j)) x2 (row_get HJ.out.2.2)
              obtain ⟨b0, b1⟩ := cell_of (i := sl j) x3 (row_get HJ.out.2.1)
              have a0 : wr.cell? ⟨tb, sgN (sl j), none⟩ = some (.int .i64 (topN sl j (sgN (sl j)))) := a0
              have b0 : wr.cell? ⟨ob, sl j, none⟩ = some (.int .i64 (ownN sl j (sl j))) := b0
              have p1 : wr.cell? ⟨pb, 1, none⟩ = some (.int .i64 (sl j)) := (Frm.cell_row _ _ 1 _ _ _ x1).trans rfl
              have HSG := Lib.hid (fun W => RSegment_any (sl j) W (by have := HJ.out.2.1; omega))
              have HME := Lib.hid (mid_end hmid HJ.out.2.1)
              have n1 := topN_le sl j (sgN (sl j))
              have n2 := ownN_le sl j (sl j)
              have g4 : (sgN (sl j) : Int) < 4 := by have := HJ.out.2.2; omega
              have s15 : (sl j : Int) < 15 := by have := HJ.out.2.1; omega
              have g0 : (0 : Int) ≤ (sgN (sl j) : Int) := by omega
              have s0 : (0 : Int) ≤ (sl j : Int) := by omega
              have hx5 : tb ≠ pb := fun e => x5 e.symm
              have hx6 : ob ≠ tb := fun e => x4 e.symm
              obtain ⟨tv, htv⟩ : ∃ tv : Int, tv = (topN sl j (sgN (sl j)) : Int) := ⟨_, rfl⟩
              obtain ⟨ov, hov⟩ : ∃ ov : Int, ov = (ownN sl j (sl j) : Int) := ⟨_, rfl⟩
              have t0 : 0 ≤ tv := by omega
              have t1 : tv ≤ 40 := by omega
              have o0 : 0 ≤ ov := by omega
              have o1 : ov ≤ 40 := by omega
              rw [show ((topN sl j (sgN (sl j)) + 1 : Nat) : Int) = tv + 1 by omega, show ((ownN sl j (sl j) + 1 : Nat) : Int) = ov + 1 by omega] at HME
              rw [← htv] at a0
              rw [← hov] at b0
              clear hmid x1 x2 x3 n1 n2 htv hov hlt2
              generalize sgN (sl j) = gs at a0 a1 HME g4 g0 HSG
              generalize sl j = ss at b0 b1 p1 HME s15 s0 HSG
              go_wp2_with (go_at_call 14; (with_reducible refine (HSG.out _).mono ?_); rintro e w5 ⟨rfl, rfl⟩)
              refine ⟨⟨j + 1, by have := HJ.out.1; omega, by simp, HME.out⟩, ?_⟩
              have := HJ.out.1
              simp [intOf]; omega
        · obtain rfl : j = m := by omega
          have hlt' : ¬ (j : Int) < (j : Int) := by omega
          obtain ⟨rr, qq, c0, A0, k0, S, r2, r3⟩ := hrel
          have hst : RdR w b kh tb ob ohs sl j 0 wr := ⟨rr, qq, c0, A0, k0, S, by have := HM.out; omega, r3⟩
          clear S r2 r3 hlt hj HB HZ
          go_wp2_with fail
          go_loopw [73] (fun i wz => ∃ y : Nat, y ≤ 4 ∧ i = .int .i64 y ∧ RdR w b kh tb ob ohs sl j y wz) (fun i _ => 4 - (intOf i).toNat)
          case atStart => exact ⟨0, Nat.zero_le _, rfl, hst⟩
          case round =>
            obtain ⟨y, hy, rfl, hr⟩ := hrel
            clear hst
            by_cases hlt2 : y < 4
            · have hp := pow_le (g := y) (by omega)
              have HRD := Lib.hid (fun W' (hT : Frm.Turn [] wr W') => (hr.turn hT).read (g := y) (j := 5 * 2 ^ y + 1) (by omega) hlt2 (by omega))
              rw [tF_top HS15.out j hlt2] at HRD
              have HCN : Hid (∀ W, Calls Try.prog 16 #[.int .u64 (hS y), .int .i64 y, .int .i64 1] W fun e w' => e = .returned (.agg #[.int .u64 (hS y), .int .i64 ((5 * 2 ^ y + 1 : Nat) : Int)]) ∧ Frm.Turn [] W w') := Lib.hid (fun W => RCounter_any (hS y) y 1 W (by omega) (by omega))
              obtain ⟨x1, x2, x3⟩ := hr.crew
              have h1 := HHO.out _ x1 y hlt2
              have y4 : (y : Int) < 4 := by omega
              have y0 : (0 : Int) ≤ (y : Int) := by omega
              have hv := topN_le sl j y
              have hm40 := HM.out
              have HTP : Hid (∀ w', RdR w b kh tb ob ohs sl j (y + 1) w' → w'.cell? ⟨tb, y, none⟩ = some (.int .i64 (topN sl j y))) := Lib.hid (fun w' h => (cell_of (h.crew).2.1 (row_get hlt2)).1)
              obtain ⟨tv, htv⟩ : ∃ tv : Int, tv = (topN sl j y : Int) := ⟨_, rfl⟩
              rw [← htv] at HRD HTP
              have t0 : 0 ≤ tv := by omega
              have t1 : tv ≤ 40 := by omega
              clear hr x1 x2 x3 hv htv hm40 hp
              generalize ((5 * 2 ^ y + 1 : Nat) : Int) = ad at HRD HCN
              generalize hS y = hh at HRD HCN h1
              have HY := Lib.hid hlt2
              clear hlt2 hy
              go_wp2_with (first
                | (go_at_call 16; (with_reducible refine (HCN.out _).mono ?_); rintro e w3 ⟨rfl, hT⟩; have HT3 := Lib.hid hT; clear hT)
                | (go_at_call 15; (with_reducible refine (HRD.out _ HT3.out).mono ?_); rintro e w4 ⟨rfl, h⟩; have HR4 := Lib.hid h; have c4 := HTP.out _ h; clear h))
              refine ⟨⟨y + 1, by have := HY.out; omega, by simp, HR4.out⟩, ?_⟩
              have := HY.out
              simp [intOf]; omega
            · obtain rfl : y = 4 := by omega
              have hlt3 : ¬ ((4 : Nat) : Int) < 4 := by omega
              clear hlt2 hy
              have hst : RdR w b kh tb ob ohs sl j (4 + 0) wr := hr
              clear hr
              go_wp2_with fail
              go_loopw [95] (fun i wz => ∃ y : Nat, y ≤ 15 ∧ i = .int .i64 y ∧ RdR w b kh tb ob ohs sl j (4 + y) wz) (fun i _ => 15 - (intOf i).toNat)
              case atStart => exact ⟨0, Nat.zero_le _, rfl, hst⟩
              case round =>
                obtain ⟨y, hy, rfl, hr⟩ := hrel
                clear hst
                by_cases hlt2 : y < 15
                · have h4 := sg_lt4 ⟨y, hlt2⟩
                  dsimp only at h4
                  have hp := pow_le (g := sgN y) (by omega)
                  obtain ⟨q1, q2, q3, q4, q5⟩ := sg_facts (s := y) (by omega)
                  have hlt7 : 5 * 2 ^ sgN y + (y + 1) < 7 * 2 ^ sgN y := by omega
                  have HRD := Lib.hid (fun W' (hT : Frm.Turn [] wr W') => (hr.turn hT).read (g := sgN y) (j := 5 * 2 ^ sgN y + (y + 1)) (by omega) h4 hlt7)
                  rw [tF_own HS15.out j hlt2] at HRD
                  have HCN : Hid (∀ W, Calls Try.prog 16 #[.int .u64 (hS (sgN y)), .int .i64 (sgN y), .int .i64 ((y : Int) + 1)] W fun e w' => e = .returned (.agg #[.int .u64 (hS (sgN y)), .int .i64 ((5 * 2 ^ sgN y + (y + 1) : Nat) : Int)]) ∧ Frm.Turn [] W w') := Lib.hid (fun W => RCounter_any (hS (sgN y)) (sgN y) (y + 1) W (by omega) (by omega))
                  have HSE := Lib.hid (fun W => RSegment_any y W (by omega))
                  have HPT := Lib.hid (fun W => RPath_any y W (by omega))
                  obtain ⟨x1, x2, x3⟩ := hr.crew
                  have HHR : Hid (∀ W', Frm.Turn [] wr W' → W'.cell? ⟨kh, sgN y, none⟩ = some (.int .u64 (hS (sgN y)))) := Lib.hid (fun W' hT => HHO.out _ (hT.keep x1 (by simp)) (sgN y) h4)
                  have y15 : (y : Int) < 15 := by omega
                  have y0 : (0 : Int) ≤ (y : Int) := by omega
                  have g4 : (sgN y : Int) < 4 := by omega
                  have g0 : (0 : Int) ≤ (sgN y : Int) := by omega
                  have hv := ownN_le sl j y
                  have hm40 := HM.out
                  have HTP : Hid (∀ w', RdR w b kh tb ob ohs sl j (4 + y + 1) w' → w'.cell? ⟨ob, y, none⟩ = some (.int .i64 (ownN sl j y))) := Lib.hid (fun w' h => (cell_of (h.crew).2.2 (row_get hlt2)).1)
                  obtain ⟨tv, htv⟩ : ∃ tv : Int, tv = (ownN sl j y : Int) := ⟨_, rfl⟩
                  rw [← htv] at HRD HTP
                  have t0 : 0 ≤ tv := by omega
                  have t1 : tv ≤ 40 := by omega
                  have hcd := HHR.out _ (Frm.Turn.refl [] wr).drew
                  have HY := Lib.hid hlt2
                  clear hr x1 x2 x3 hv htv hm40 hp hlt7 q1 q2 q3 q4 q5 h4 hlt2 hy
                  generalize ((5 * 2 ^ sgN y + (y + 1) : Nat) : Int) = ad at HRD HCN
                  generalize hS (sgN y) = hh at HRD HCN HHR hcd
                  go_upto_region 31 with (go_at_call 14; (with_reducible refine (HSE.out _).mono ?_); rintro e w3 ⟨rfl, rfl⟩)
                  go_cut [20] (fun s20 W2 => s20 = .int .u64 tv ∧ RdR w b kh tb ob ohs sl j (4 + y + 1) W2)
                  case first =>
                    go_region_with (first
                      | (go_at_call 17; (with_reducible refine (HPT.out _).mono ?_); rintro e w3 ⟨v3, rfl, g3, c3, rfl, hrow, hT⟩; have HT3 := Lib.hid (((Frm.Turn.refl [] wr).drew).trans hT (by simp)); have k1 := HHR.out _ HT3.out; have k2 := (hrow.cellAt 0 (by omega)).trans (row_get (i := 0) (by omega)); have k3 : w3.cell? ⟨g3, 0, none⟩ = some (.int .i64 ((y : Int) + 1)) := k2.trans (by simp [ndN]); clear hrow hT k2)
                      | (go_at_call 16; (with_reducible refine (HCN.out _).mono ?_); rintro e w4 ⟨rfl, hT⟩; have HT4 := Lib.hid (HT3.out.trans hT (by simp)); clear hT)
                      | (go_at_call 15; (with_reducible refine (HRD.out _ HT4.out).mono ?_); rintro e w5 ⟨rfl, h⟩; have HR5 := Lib.hid h; clear h))
                    all_goals go_wp2_with fail
                    all_goals go_meet
                    all_goals exact ⟨rfl, HR5.out⟩
                  case rest =>
                    obtain ⟨rfl, hr⟩ := hcut
                    have c4 := HTP.out _ hr
                    have HR5 := Lib.hid hr
                    clear hr
                    go_wp2_with fail
                    refine ⟨⟨y + 1, by have := HY.out; omega, by simp, HR5.out⟩, ?_⟩
                    have := HY.out
                    simp [intOf]; omega
                · obtain rfl : y = 15 := by omega
                  have hlt3 : ¬ ((15 : Nat) : Int) < 15 := by omega
                  obtain ⟨rr, qq, c0, A0, k0, S, _, I⟩ := hr
                  have HFA := Lib.hid (S.faults I.clean)
                  have HT := Lib.hid S.kin.turn
                  clear hlt2 hy S
                  go_wp2_with (go_at_call 13; (with_reducible refine (HFA.out).mono ?_); rintro e w5 ⟨rfl, rfl⟩)
                  go_ret
                  exact ⟨rfl, HT.out⟩
end Cnt
end Go.Proofs.Ytolcpfidmpoipaa
