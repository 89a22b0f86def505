/- The walk of HoldWins. -/
import Derived.Test.YtfbnidjcimcfoaaHoldFirst
set_option linter.unusedVariables false
set_option linter.unusedSimpArgs false
namespace Go.Proofs.Ytfbnidjcimcfoaa
namespace Hld
open Go.RowKit Go.Maps Arn Pac Clm Cnt Sta

variable {w W W' : World} {b k n r : Nat} {A : Ar} {ps : List Part} {sg h rt ha hb : Int} {bw : List Int}
def w12 : List Int := [1, 2]
theorem w12_64 : ∀ v, v ∈ w12 → W64 v := by
  intro v hv
  simp [w12] at hv
  rcases hv with rfl | rfl <;> exact ⟨by omega, by omega⟩
theorem two_words {W : World} {g : Nat} (h : W.heap[g]? = some (.cells #[.int .u64 1, .int .u64 2] 26 (0, 0))) : WordsAt W (.slice (some ⟨g, 0, none⟩) 2 2) w12 := by
  refine .inr ⟨⟨g, 0, none⟩, 2, rfl, fun j u hu => ?_⟩
  have e : (⟨g, 0, none⟩ : Addr).add j = ⟨g, j, none⟩ := by
    unfold Addr.add; split
    · rename_i e; simp [e]
    · simp
  rw [e, Frm.cell_row _ _ j _ _ _ h]
  have : j = 0 ∨ j = 1 ∨ 2 ≤ j := by omega
  rcases this with rfl | rfl | h4
  · exact hu
  · exact hu
  · rw [List.getElem?_eq_none (by simpa [u64s, w12] using h4)] at hu; cases hu
/-- The block of the place, the row of handles. -/
def tailP (pb kh : Nat) (ohs : Obj) : List Part := [bkP pb (.cells #[.int .u64 65537, .int .i64 0] 36), bkP kh ohs]
/-- Between two picks (what was seen so far: hd). -/
structure WR (w : World) (b rf rg pb kh : Nat) (ohs : Obj) (R : Int) (fe : Bool) (A : Ar) (k : Nat) (rt ha hb : Int) (G : Gp) (F : Fe) (v : Value) (hd : Bool) (W : World) : Prop where
  st : Stash w b A k (feP rf b v F :: rwP w.heap.size v F.ws :: gpP rg b G :: tailP pb kh ohs) W
  hv : HV A 65537 131074 rt ha hb w12
  fit : G.Fit
  len : F.ws.length ≤ 2
  fi : fe = true → FI F 65537 131074 R hb hd
  gi : fe = false → GI G 65537 ha hd
/-- What is seen. -/
def seen (fe : Bool) (R rt ha hb : Int) (G : Gp) : Bool := if fe then (hb == 131074 && rt == R) else (G.root != 0 && (ha == G.root / 1048576 && rt == G.root))
variable {rf rg pb kh : Nat} {ohs : Obj} {R : Int} {fe hd : Bool} {G : Gp} {F : Fe} {v : Value}
theorem wr_root (H : WR w b rf rg pb kh ohs R fe A k rt ha hb G F v hd W) (hk : k ≤ 10000) {x : Int} (hx : W64 x) :
    Calls Try.prog 8 #[.pointer (some ⟨b, 0, none⟩), .agg #[.int .u64 0, .int .i64 0], .int .u64 x] W fun e w' => e = .returned (.int .i64 (A.write 0 0 x).2) ∧ WR w b rf rg pb kh ohs R fe (A.write 0 0 x).1 (k + 1) x ha hb G F v (hd || seen fe R x ha hb G) w' := by
  obtain ⟨h1, h2, h3, h4, h5, h6⟩ := H
  refine (write_h h1 (by omega) 0 0 x w64_zero (wf_small (by omega) (by omega)) hx).mono ?_
  rintro e w' ⟨he, hS⟩
  exact ⟨he, hS, h2.put0 hx, h3, h4, fun e => fi_more (h5 e) (fun h => by simp [h]), fun e => gi_more (h6 e) (fun h => by simp [h])⟩
theorem wr_fstep (H : WR w b rf rg pb kh ohs R true A k rt ha hb G F v hd W) (hk : k ≤ 10000) (hR : 0 ≤ R) :
    Calls Try.prog 11 #[.pointer (some ⟨rf, 0, none⟩)] W fun e w' => e = .returned (.tuple #[]) ∧ ∃ A' hb' F' v', WR w b rf rg pb kh ohs R true A' (k + 1) rt ha hb' G F' v' (hd || seen true R rt ha hb' G) w' := by
  obtain ⟨h1, h2, h3, h4, h5, h6⟩ := H
  refine (fstep_h h1 (by omega) (h5 rfl).fit (by omega)).mono ?_
  rintro e w' ⟨he, v', hS⟩
  obtain ⟨hb', V, I⟩ := fi_step h2 (h5 rfl) hR
  exact ⟨he, _, hb', _, v', hS, V, h3, fi_len I, fun _ => I, fun e => by cases e⟩
theorem wr_gstep (H : WR w b rf rg pb kh ohs R false A k rt ha hb G F v hd W) (hk : k ≤ 10000) :
    Calls Try.prog 12 #[.pointer (some ⟨rg, 0, none⟩)] W fun e w' => e = .returned (.tuple #[]) ∧ ∃ A' ha' G', WR w b rf rg pb kh ohs R false A' (k + 1) rt ha' hb G' F v (hd || seen false R rt ha' hb G') w' := by
  obtain ⟨h1, h2, h3, h4, h5, h6⟩ := H
  have h1' : Stash w b A k (gpP rg b G :: (feP rf b v F :: rwP w.heap.size v F.ws :: tailP pb kh ohs)) W := h1.perm (List.perm_middle (l₁ := [feP rf b v F, rwP w.heap.size v F.ws]))
  refine (gstep_h h1' (by omega) h3).mono ?_
  rintro e w' ⟨he, hS⟩
  obtain ⟨ha', V, I⟩ := gi_step h2 (h6 rfl)
  have hS' := hS.perm (List.perm_middle (l₁ := [feP rf b v F, rwP w.heap.size v F.ws])).symm
  exact ⟨he, _, ha', _, hS', V, h3.step h2.ok, h4, fun e => (by cases e), fun _ => I⟩
theorem WR.still (H : WR w b rf rg pb kh ohs R fe A k rt ha hb G F v hd W) (hT : Frm.Turn [] W W') : WR w b rf rg pb kh ohs R fe A k rt ha hb G F v hd W' := by
  obtain ⟨h1, h2, h3, h4, h5, h6⟩ := H
  exact ⟨h1.still hT, h2, h3, h4, h5, h6⟩
theorem wr_read (H : WR w b rf rg pb kh ohs R fe A k rt ha hb G F v hd W) (hk : k ≤ 10000) (blk i : Int) (hb64 : W64 blk) (hi : (Lit.int .i64 i).wf = true) :
    Calls Try.prog 13 #[.pointer (some ⟨b, 0, none⟩), .agg #[.int .u64 blk, .int .i64 i]] W fun e w' => e = .returned (.tuple #[.int .u64 (A.read blk i).2.1, .int .i64 (A.read blk i).2.2]) ∧ WR w b rf rg pb kh ohs R fe (A.read blk i).1 (k + 1) rt ha hb G F v hd w' := by
  obtain ⟨h1, h2, h3, h4, h5, h6⟩ := H
  refine (read_h h1 (by omega) blk i hb64 hi).mono ?_
  rintro e w' ⟨he, hS⟩
  exact ⟨he, hS, h2.read blk i, h3, h4, h5, h6⟩
theorem wr_0 (H : WR w b rf rg pb kh ohs R fe A k rt ha hb G F v hd W) (hk : k ≤ 10000) :
    Calls Try.prog 13 #[.pointer (some ⟨b, 0, none⟩), .agg #[.int .u64 0, .int .i64 0]] W fun e w' => e = .returned (.tuple #[.int .u64 rt, .int .i64 0]) ∧ ∃ A', WR w b rf rg pb kh ohs R fe A' (k + 1) rt ha hb G F v hd w' := by
  have := wr_read H hk 0 0 w64_zero (wf_small (by omega) (by omega))
  rw [H.hv.root] at this
  exact this.mono fun e w' ⟨he, h⟩ => ⟨he, _, h⟩
theorem wr_3 (H : WR w b rf rg pb kh ohs R fe A k rt ha hb G F v hd W) (hk : k ≤ 10000) :
    Calls Try.prog 13 #[.pointer (some ⟨b, 0, none⟩), .agg #[.int .u64 65537, .int .i64 3]] W fun e w' => e = .returned (.tuple #[.int .u64 ha, .int .i64 0]) ∧ ∃ A', WR w b rf rg pb kh ohs R fe A' (k + 1) rt ha hb G F v hd w' := by
  have := wr_read H hk 65537 3 sg_64 (wf_small (by omega) (by omega))
  rw [H.hv.holdA] at this
  exact this.mono fun e w' ⟨he, h⟩ => ⟨he, _, h⟩
theorem wr_4 (H : WR w b rf rg pb kh ohs R fe A k rt ha hb G F v hd W) (hk : k ≤ 10000) :
    Calls Try.prog 13 #[.pointer (some ⟨b, 0, none⟩), .agg #[.int .u64 65537, .int .i64 4]] W fun e w' => e = .returned (.tuple #[.int .u64 hb, .int .i64 0]) ∧ ∃ A', WR w b rf rg pb kh ohs R fe A' (k + 1) rt ha hb G F v hd w' := by
  have := wr_read H hk 65537 4 sg_64 (wf_small (by omega) (by omega))
  rw [H.hv.holdB] at this
  exact this.mono fun e w' ⟨he, h⟩ => ⟨he, _, h⟩
theorem WR.pl (H : WR w b rf rg pb kh ohs R fe A k rt ha hb G F v hd W) : W.cell? ⟨pb, 0, none⟩ = some (.int .u64 65537) ∧ W.cell? ⟨pb, 1, none⟩ = some (.int .i64 0) := by
  have h := H.st.on (bkP pb (.cells #[.int .u64 65537, .int .i64 0] 36)) (by simp [tailP])
  exact ⟨(Frm.cell_row _ _ 0 _ _ _ h).trans rfl, (Frm.cell_row _ _ 1 _ _ _ h).trans rfl⟩
/-- The words of slot 0. -/
theorem RWord_0 (f : Int) (W : World) (hf : f = 3 ∨ f = 4) : Calls Try.prog 14 #[.agg #[.int .u64 65537, .int .i64 0], .int .i64 f] W fun e w' => e = .returned (.agg #[.int .u64 65537, .int .i64 f]) ∧ Frm.Turn [] W w' := by
  have h := RWord_f 65537 0 f W (by omega) (by omega) (by omega)
  have e : 5 * ((ofN 0 : Nat) : Int) + f = f := by rw [of0]; simp
  rw [e] at h
  exact h
/-- What the loop goes by. -/
def WL (w : World) (b rf rg pb kh : Nat) (ohs : Obj) (R : Int) (fe : Bool) (k0 : Nat) (hd : Bool) (W : World) : Prop := ∃ A k rt ha hb G F v, WR w b rf rg pb kh ohs R fe A k rt ha hb G F v hd W ∧ k ≤ k0
set_option maxRecDepth 100000 in
set_option maxHeartbeats 8000000 in
theorem wins_any (v1 v2 : Value) (z1 z2 : Nat → Int) (n m : Nat) (fe : Bool) (w : World) (hb1 : KindC .u64 w v1 z1 n) (hz1 : ∀ i, i < n → W64 (z1 i)) (hb2 : KindC .u8 w v2 z2 m) (hz2 : ∀ i, i < m → 0 ≤ z2 i ∧ z2 i < 256) (hn : n ≤ 9223372036854775807) (hm : m ≤ 9223372036854775807) :
    Calls Try.prog 3 #[v1, v2, .bool fe] w fun e w' => e = .returned (.bool true) ∧ Frm.Turn [] w w' := by
  have HF := Lib.hid (first14 w)
  obtain ⟨⟨ao1, vc1, rfl⟩, hb1'⟩ := hb1
  obtain ⟨⟨ao2, vc2, rfl⟩, hb2'⟩ := hb2
  by_cases hbad : 100 < m ∨ n = 0 ∨ 100 < n
  · have hc : ((100 : Int) < (m : Int)) ∨ (¬ (100 : Int) < (m : Int) ∧ n = 0) ∨ (¬ (100 : Int) < (m : Int) ∧ n ≠ 0 ∧ (100 : Int) < (n : Int)) := by omega
    clear hbad hb1' hb2' hz1 hz2
    rcases hc with h1 | ⟨h1, rfl⟩ | ⟨h1, h2, h3⟩
    · go_enter Try.func3, Try.ntmps3
      go_wp2_with (go_at_call 5; (with_reducible refine (HF.out).mono ?_); rintro e w1 ⟨rfl, hT⟩; have HT1 := Lib.hid hT; clear hT)
      go_ret
      exact ⟨rfl, HT1.out⟩
    · go_enter Try.func3, Try.ntmps3
      go_wp2_with (go_at_call 5; (with_reducible refine (HF.out).mono ?_); rintro e w1 ⟨rfl, hT⟩; have HT1 := Lib.hid hT; clear hT)
      go_ret
      exact ⟨rfl, HT1.out⟩
    · have h4 : ((n : Int) == 0) = false := by simpa using h2
      go_enter Try.func3, Try.ntmps3
      go_wp2_with (go_at_call 5; (with_reducible refine (HF.out).mono ?_); rintro e w1 ⟨rfl, hT⟩; have HT1 := Lib.hid hT; clear hT)
      go_ret
      exact ⟨rfl, HT1.out⟩
  · obtain ⟨g1, g2, g3⟩ : m ≤ 100 ∧ n ≠ 0 ∧ n ≤ 100 := ⟨by omega, by omega, by omega⟩
    have HB2 := Lib.hid hb2'
    rcases hb1' with e0 | ⟨ga, gc, e0, hcell⟩
    · exact absurd e0 g2
    cases e0
    have HB1 := Lib.hid hcell
    have HZ1 := Lib.hid hz1
    have HZ2 := Lib.hid hz2
    have HNM : Hid (m ≤ 100 ∧ n ≠ 0 ∧ n ≤ 100) := Lib.hid ⟨g1, g2, g3⟩
    have i1 : ¬ (100 : Int) < (m : Int) := by omega
    have i2 : ¬ (100 : Int) < (n : Int) := by omega
    have i3 : ((n : Int) == 0) = false := by simpa using g2
    have i4 : (0 : Int) < (n : Int) := by omega
    have i5 : (n : Int) ≤ 100 := by omega
    have i6 : 0 < n := by omega
    have hR0 := hcell 0 (by omega)
    have hR64 := hz1 0 (by omega)
    rw [add_0] at hR0
    obtain ⟨R, HR⟩ : ∃ R, Hid (R = z1 0) := ⟨_, Lib.hid rfl⟩
    rw [← HR.out] at hR0 hR64
    have HR64 := Lib.hid hR64
    have HC0 := Lib.hid hR0
    have e1' : ((1 : Nat) : Int) = 1 := rfl
    have hsg := fun w1 hT => segs14 1 w w1 hT (by omega) (by omega)
    rw [e1'] at hsg
    obtain ⟨fs, hfs⟩ := struct_of under_refA
    have HFS := Lib.hid hfs
    have HSGF := Lib.hid hsg
    clear hbad hb2' hz1 hz2 hcell g1 g2 g3 hn hm hfs hsg hR64 hR0
    go_enter Try.func3, Try.ntmps3
    go_upto_region 6 with (first
      | (go_at_call 5; (with_reducible refine (HF.out).mono ?_); rintro e w1 ⟨rfl, hT⟩; have HSG := Lib.hid (HSGF.out w1 hT); clear hT)
      | (go_at_call 6; (with_reducible refine (HSG.out).mono ?_); rintro e w2 ⟨b, CS, G, kh, kc, ohs, A, k, rfl, y1, y2, y3, y4, y5, y6, y7, y8⟩; have HZZ1 := Lib.hid y1; have HZZ2 := Lib.hid y2; have HO := Lib.hid y3; have HQ := Lib.hid (And.intro y4 (And.intro y5 (And.intro y6 y7))); have HS2 := Lib.hid y8; clear y1 y2 y3 y4 y5 y6 y7 y8)
      | (refine wpList_store_row rfl 32 (.tmp 8) (.tmp 42) rfl w2.heap.size CS rfl rfl 32 _ (World.alloc_heap_new w2 _) (by rw [HZZ1.out]; exact info_refA) (by rw [HZZ1.out]; rfl) HZZ2.out ?_))
    generalize hw3 : World.setRow _ w2.heap.size CS = w3
    have HT3 : Hid (Frm.Turn [] w2 w3) := Lib.hid (by rw [← hw3]; exact setRow_turn ((Frm.Turn.refl [] w2).alloc _) (.inr (Nat.le_refl _)) CS)
    have HS3 := Lib.hid ((HS2.out.perm (List.Perm.swap ..)).drop.still HT3.out)
    have hk0 : w3.cell? ⟨kh, 0, none⟩ = some (.int .u64 65537) := (HO.out _ (HS3.out.on (bkP kh ohs) (by simp))) 0 (by omega)
    clear hw3 HSG HSGF HS2 HT3 HZZ1 HZZ2 HFS HF
    have HS4 := Lib.hid (add_h HS3.out (.cells #[.int .u64 65537, .int .i64 0] 36) (World.alloc_heap_new _ _))
    have HS5 := Lib.hid (add_h HS4.out (.cells #[.int .u64 1, .int .u64 2] 26) (World.alloc_heap_new _ _))
    rw [World.size_alloc] at HS5
    have HLY : Hid (Calls Try.prog 7 #[.pointer (some ⟨b, 0, none⟩), .slice (some ⟨w3.heap.size + 1, 0, none⟩) 2 2] ((w3.alloc (.cells #[.int .u64 65537, .int .i64 0] 36)).alloc (.cells #[.int .u64 1, .int .u64 2] 26)) fun e w' => e = .returned (.tuple #[.int .u64 131074, .int .i64 0]) ∧ ∃ A', Stash w b A' (k + 1) (tailP w3.heap.size kh ohs) w' ∧ HV A' 65537 131074 (A.fixed.getD 0 0) 0 0 w12) := Lib.hid (by
      obtain ⟨q1, q2, q3, q4⟩ := HQ.out
      obtain ⟨v1, v2⟩ := hv_start (bw := w12) q2 q3 q4 (by decide) (by decide) w12_64
      refine (lay_h HS5.out (by omega) (two_words (HS5.out.on _ (List.mem_cons_self ..))) (fun q hq => ?_) w12_64).mono ?_
      · simp [Value.ownBlock] at hq; subst hq
        exact mem_feet (List.mem_cons_self ..) (in_own (by simp [bkP]))
      · rintro e w' ⟨he, hS⟩
        rw [v1] at he
        exact ⟨he, _, hS.drop, v2⟩)
    go_upto_region 8 with (go_at_call 7; (with_reducible refine (HLY.out).mono ?_); rintro e w6 ⟨rfl, A6, hS, hV⟩; have HS6 := Lib.hid hS; have HV6 := Lib.hid hV; clear hS hV)
    generalize w3.heap.size = pb at HS6 ⊢
    clear HLY HS5 HS4 HS3 hk0
    have HWR := Lib.hid (write_h HS6.out (by have := HQ.out.1; omega) 0 0 R w64_zero (wf_small (by omega) (by omega)) HR64.out)
    have hR6 := HS6.out.kin.turn.cell HC0.out (by simp)
    go_upto_region 9 with (go_at_call 8; (with_reducible refine (HWR.out).mono ?_); rintro e w7 ⟨rfl, hS⟩; have HS7 := Lib.hid hS; have HV7 := Lib.hid (HV6.out.put0 HR64.out); clear hS)
    generalize (A6.write 0 0 R).1 = A7 at HS7 HV7
    clear HWR HS6 HV6 hR6
    have HD := Lib.hid ((Frm.Turn.refl [] w7).drew)
    have HSD := Lib.hid (HS7.out.still HD.out)
    have HPL : Hid (∀ W' A' k' ps', Stash w b A' k' (ps' ++ tailP pb kh ohs) W' → W'.cell? ⟨pb, 0, none⟩ = some (.int .u64 65537) ∧ W'.cell? ⟨pb, 1, none⟩ = some (.int .i64 0) ∧ W'.cell? ga = some (.int .u64 R)) := Lib.hid (fun W' A' k' ps' hS => by
      have h := hS.on (bkP pb (.cells #[.int .u64 65537, .int .i64 0] 36)) (by simp [tailP])
      exact ⟨(Frm.cell_row _ _ 0 _ _ _ h).trans rfl, (Frm.cell_row _ _ 1 _ _ _ h).trans rfl, hS.kin.turn.cell HC0.out (by simp)⟩)
    obtain ⟨p0, p1, p2⟩ := HPL.out _ _ _ [] HSD.out
    have HNG := Lib.hid (gnew_h HSD.out 65537 0)
    have HNG : Hid (Calls Try.prog 9 #[.pointer (some ⟨b, 0, none⟩), .agg #[.int .u64 65537, .int .i64 0]] w7.drew _) := HNG
    have HNF : Hid (∀ W' A' k' ps', Stash w b A' k' ps' W' → Calls Try.prog 10 #[.pointer (some ⟨b, 0, none⟩), .agg #[.int .u64 65537, .int .i64 0], .int .u64 R, .int .u64 131074, .int .i64 2] W' fun e w' => ∃ r, e = .returned (.pointer (some ⟨r, 0, none⟩)) ∧ Stash w b A' k' (feP r b (.slice none 0 0) (Fe.new 65537 0 R 131074 2) :: rwP w.heap.size (.slice none 0 0) [] :: ps') w') := Lib.hid (fun W' A' k' ps' hS => fnew_h hS 65537 0 R 131074 2)
    go_cut [13, 14] (fun s13 s14 W2 => ∃ rg rf, s13 = .pointer (some ⟨rg, 0, none⟩) ∧ s14 = .pointer (some ⟨rf, 0, none⟩) ∧ Stash w b A7 (k + 1 + 1) (feP rf b (.slice none 0 0) (Fe.new 65537 0 R 131074 2) :: rwP w.heap.size (.slice none 0 0) [] :: gpP rg b (Gp.new 65537 0) :: tailP pb kh ohs) W2)
    case first =>
      refine wp_region_held_drew (S := fun W' => W'.cell? ⟨pb, 0, none⟩ = some (.int .u64 65537) ∧ W'.cell? ⟨pb, 1, none⟩ = some (.int .i64 0) ∧ W'.cell? ga = some (.int .u64 R)) (by kernel_rfl) ?_ (fun hHeld => ?_)
      · exact ⟨p0, p1, p2⟩
      refine wpAnyH_take (i := 0) (v := ?_) rfl (by kernel_rfl) (by kernel_rfl) (by kernel_rfl) (fun _ _ _ h => h) (Or.inl ⟨by rfl, ?_⟩) (by assumption) ?_
      rotate_left
      · (intro w hSw; (try dsimp only at hSw); go_simp; try with_reducible rfl)
      try simp only [Act.put, List.getElem_toArray, List.getElem_cons_succ, List.getElem_cons_zero, List.setIfInBounds_toArray, List.set_cons_zero, List.set_cons_succ]
      refine wpAnyH_take (i := 1) (v := ?_) rfl (by kernel_rfl) (by kernel_rfl) (by kernel_rfl) (fun _ _ _ h => h) (Or.inl ⟨by rfl, ?_⟩) (by assumption) ?_
      rotate_left
      · (intro w hSw; (try dsimp only at hSw); obtain ⟨q0, q1, q2⟩ := hSw; go_simp; try with_reducible rfl)
      try simp only [Act.put, List.getElem_toArray, List.getElem_cons_succ, List.getElem_cons_zero, List.setIfInBounds_toArray, List.set_cons_zero, List.set_cons_succ]
      refine wpAnyH_take (i := 3) (v := ?_) rfl (by kernel_rfl) (by kernel_rfl) (by kernel_rfl) (fun _ _ _ h => h) (Or.inl ⟨by rfl, ?_⟩) (by assumption) ?_
      rotate_left
      · (intro w hSw; (try dsimp only at hSw); go_simp; try with_reducible rfl)
      try simp only [Act.put, List.getElem_toArray, List.getElem_cons_succ, List.getElem_cons_zero, List.setIfInBounds_toArray, List.set_cons_zero, List.set_cons_succ]
      refine wpAnyH_take (i := 4) (v := ?_) rfl (by kernel_rfl) (by kernel_rfl) (by kernel_rfl) (fun _ _ _ h => h) (Or.inl ⟨by rfl, ?_⟩) (by assumption) ?_
      rotate_left
      · (intro w hSw; (try dsimp only at hSw); obtain ⟨q0, q1, q2⟩ := hSw; go_simp; try with_reducible rfl)
      try simp only [Act.put, List.getElem_toArray, List.getElem_cons_succ, List.getElem_cons_zero, List.setIfInBounds_toArray, List.set_cons_zero, List.set_cons_succ]
      refine wpAnyH_take (i := 5) (v := ?_) rfl (by kernel_rfl) (by kernel_rfl) (by kernel_rfl) (fun _ _ _ h => h) (Or.inl ⟨by rfl, ?_⟩) (by assumption) ?_
      rotate_left
      · (intro w hSw; (try dsimp only at hSw); go_simp; try with_reducible rfl)
      try simp only [Act.put, List.getElem_toArray, List.getElem_cons_succ, List.getElem_cons_zero, List.setIfInBounds_toArray, List.set_cons_zero, List.set_cons_succ]
      refine wpAnyH_take (i := 6) (v := ?_) rfl (by kernel_rfl) (by kernel_rfl) (by kernel_rfl) (fun _ _ _ h => h) (Or.inl ⟨by rfl, ?_⟩) (by assumption) ?_
      rotate_left
      · (intro w hSw; (try dsimp only at hSw); go_simp; try with_reducible rfl)
      try simp only [Act.put, List.getElem_toArray, List.getElem_cons_succ, List.getElem_cons_zero, List.setIfInBounds_toArray, List.set_cons_zero, List.set_cons_succ]
      refine wpAnyH_take (i := 7) (v := ?_) rfl (by kernel_rfl) (by kernel_rfl) (by kernel_rfl) (fun _ _ _ h => h) (Or.inl ⟨by rfl, ?_⟩) (by assumption) ?_
      rotate_left
      · (intro w hSw; (try dsimp only at hSw); obtain ⟨q0, q1, q2⟩ := hSw; go_simp; try with_reducible rfl)
      try simp only [Act.put, List.getElem_toArray, List.getElem_cons_succ, List.getElem_cons_zero, List.setIfInBounds_toArray, List.set_cons_zero, List.set_cons_succ]
      refine wpAnyH_take (i := 8) (v := ?_) rfl (by kernel_rfl) (by kernel_rfl) (by kernel_rfl) (fun _ _ _ h => h) (Or.inl ⟨by rfl, ?_⟩) (by assumption) ?_
      rotate_left
      · (intro w hSw; (try dsimp only at hSw); go_simp; try with_reducible rfl)
      try simp only [Act.put, List.getElem_toArray, List.getElem_cons_succ, List.getElem_cons_zero, List.setIfInBounds_toArray, List.set_cons_zero, List.set_cons_succ]
      refine wpAnyH_ready (rs := [2]) (by kernel_rfl) (by simp) ?_
      refine AllReadyH.cons rfl (fun K hK => ?_) AllReadyH.nil
      try simp only [List.getElem_toArray, List.getElem_cons_succ, List.getElem_cons_zero]
      go_simp
      (go_at_call 9; (with_reducible refine (HNG.out).mono ?_); rintro e w10 ⟨rg, rfl, hS⟩; have HS10 := Lib.hid hS; have hp10 := HPL.out _ _ _ [gpP rg b (Gp.new 65537 0)] hS; have HNF10 := Lib.hid (HNF.out _ _ _ _ hS); clear hS)
      try go_wp2_with fail
      refine hK.out _ _ (hp10) (fun hHeld1 => ?_)
      clear hK K
      try simp only [Act.put, List.getElem_toArray, List.getElem_cons_succ, List.getElem_cons_zero, List.setIfInBounds_toArray, List.set_cons_zero, List.set_cons_succ]
      refine wpAnyH_ready (rs := [9]) (by kernel_rfl) (by simp) ?_
      refine AllReadyH.cons rfl (fun K hK => ?_) AllReadyH.nil
      try simp only [List.getElem_toArray, List.getElem_cons_succ, List.getElem_cons_zero]
      go_simp
      (go_at_call 10; (with_reducible refine (HNF10.out).mono ?_); rintro e w11 ⟨rf, rfl, hS⟩; have HS11 := Lib.hid hS; have hp11 := HPL.out _ _ _ [feP rf b (.slice none 0 0) (Fe.new 65537 0 R 131074 2), rwP w.heap.size (.slice none 0 0) [], gpP rg b (Gp.new 65537 0)] hS; clear hS)
      try go_wp2_with fail
      refine hK.out _ _ (hp11) (fun hHeld2 => ?_)
      clear hK K
      try simp only [Act.put, List.getElem_toArray, List.getElem_cons_succ, List.getElem_cons_zero, List.setIfInBounds_toArray, List.set_cons_zero, List.set_cons_succ]
      refine wpAnyH_take (i := 10) (v := ?_) rfl (by kernel_rfl) (by kernel_rfl) (by kernel_rfl) (fun _ _ _ h => h) (Or.inl ⟨by rfl, ?_⟩) (by assumption) ?_
      rotate_left
      · (intro w hSw; (try dsimp only at hSw); go_simp; try with_reducible rfl)
      try simp only [Act.put, List.getElem_toArray, List.getElem_cons_succ, List.getElem_cons_zero, List.setIfInBounds_toArray, List.set_cons_zero, List.set_cons_succ]
      refine wpAnyH_take (i := 11) (v := ?_) rfl (by kernel_rfl) (by kernel_rfl) (by kernel_rfl) (fun _ _ _ h => h) (Or.inl ⟨by rfl, ?_⟩) (by assumption) ?_
      rotate_left
      · (intro w hSw; (try dsimp only at hSw); go_simp; try with_reducible rfl)
      try simp only [Act.put, List.getElem_toArray, List.getElem_cons_succ, List.getElem_cons_zero, List.setIfInBounds_toArray, List.set_cons_zero, List.set_cons_succ]
      refine wpAnyH_done (by kernel_rfl) ?_ _
      go_wp2_with fail
      go_meet
      exact ⟨rg, rf, rfl, rfl, HS11.out⟩
    case rest =>
      obtain ⟨rg, rf, rfl, rfl, hS⟩ := hcut
      have HL0 : Hid (WL w b rf rg pb kh ohs R fe 10 false wc) := Lib.hid (by
        have hF64 := HR64.out
        refine ⟨A7, _, _, _, _, Gp.new 65537 0, Fe.new 65537 0 R 131074 2, _, ⟨hS, HV7.out, ⟨by show (65537 : Int) ≠ 0; omega, sg_64, by show 0 < 255; omega, w64_zero, by show (0 : Int) ≤ 0 ∧ (0 : Int) ≤ 2; omega⟩, by simp [Fe.new], fun _ => ⟨⟨by show (65537 : Int) ≠ 0; omega, sg_64, by show 0 < 255; omega, h_64, hF64, by simp [Fe.new], by show (0 : Int) ≤ 0 ∧ (0 : Int) ≤ 2; omega⟩, rfl, rfl, rfl, rfl, rfl, .inl ⟨rfl, rfl, rfl⟩⟩, fun _ => ⟨⟨by show (65537 : Int) ≠ 0; omega, sg_64, by show 0 < 255; omega, w64_zero, by show (0 : Int) ≤ 0 ∧ (0 : Int) ≤ 2; omega⟩, rfl, rfl, .inl ⟨rfl, rfl⟩⟩⟩, by have := HQ.out.1; omega⟩)
      clear HS7 HV7 HD HSD HPL p0 p1 p2 HNG HNF hS HQ HO
      go_wp2_with fail
      go_loopw [15, 72] (fun held i wr => ∃ (j : Nat) (hd : Bool), j ≤ m ∧ i = .int .i64 j ∧ held = .bool hd ∧ WL w b rf rg pb kh ohs R fe (10 + 4 * j) hd wr) (fun _ i _ => m - (intOf i).toNat)
      case atStart => exact ⟨0, false, Nat.zero_le _, rfl, rfl, HL0.out⟩
      case round =>
        obtain ⟨j, hd, hj, rfl, rfl, hrel⟩ := hrel
        clear HL0
        by_cases hlt : j < m
        · rcases HB2.out with e0 | ⟨ga2, gc2, e0, hcell2⟩
          · omega
          cases e0
          have hT0 : Frm.Turn [] w wr := by obtain ⟨A, k, rt, ha, hb, G, F, v, h, -⟩ := hrel; exact h.st.kin.turn
          have hcj := hT0.cell (hcell2 j hlt) (by simp)
          obtain ⟨y0, y1⟩ := HZ2.out j hlt
          have HLT := Lib.hid hlt
          have hj1 : (j : Int) < (m : Int) := by omega
          have hj0 : (0 : Int) ≤ (j : Int) := by omega
          have hj9 : (j : Int) ≤ 100 := by have := HNM.out; omega
          clear hcell2 hT0 hlt hj
          generalize z2 j = zj at hcj y0 y1
          obtain ⟨q, HQ⟩ : ∃ q, Hid (q = zj % 3) := ⟨_, Lib.hid rfl⟩
          have q1 : zj % 3 = q := HQ.out.symm
          have q2 : zj.tmod 3 = q := by rw [Int.tmod_eq_emod_of_nonneg y0]; exact q1
          have q3 : IntKind.u8.wrap q = q := by rw [IntKind.wrap_u8]; have := HQ.out; omega
          have HW3 := Lib.hid (fun W => RWord_0 3 W (.inl rfl))
          have HW4 := Lib.hid (fun W => RWord_0 4 W (.inr rfl))
          have HREL := Lib.hid hrel
          have HRG : Hid (0 ≤ R ∧ ∀ (W : World), Frm.Turn [] w W → W.cell? ga = some (.int .u64 R)) := Lib.hid ⟨HR64.out.1, fun W hT => hT.cell HC0.out (by simp)⟩
          clear hrel
          go_upto_if 79 with fail
          go_cut [] (fun W2 => ∃ A k rt ha hb G F v, WR w b rf rg pb kh ohs R fe A k rt ha hb G F v (hd || seen fe R rt ha hb G) W2 ∧ k ≤ 10 + 4 * j + 1)
          case first =>
            obtain ⟨A, k, rt, ha, hb, G, F, v, hW, hk⟩ := HREL.out
            have hk2 : k ≤ 10000 := by have := HNM.out; have := HLT.out; omega
            by_cases hz : q = 0
            · have hzb : (q == 0) = true := by simpa using hz
              have hjn : j % n < n := Nat.mod_lt _ (by have := HNM.out; omega)
              have hcr := hW.st.kin.turn.cell (HB1.out (j % n) hjn) (by simp)
              have hx64 := HZ1.out (j % n) hjn
              have r1 : (j : Int).tmod (n : Int) = ((j % n : Nat) : Int) := by rw [Int.tmod_eq_emod_of_nonneg hj0]; simp
              have r2 : (j : Int) % (n : Int) = ((j % n : Nat) : Int) := by simp
              have r3 : (0 : Int) ≤ ((j % n : Nat) : Int) := by omega
              have r4 : ((j % n : Nat) : Int) < (n : Int) := by omega
              have HST := Lib.hid (wr_root hW hk2 hx64)
              have HK := Lib.hid hk
              clear hW hk hk2 hjn hx64 hz
              generalize z1 (j % n) = x at hcr HST
              generalize j % n = jn at hcr r1 r2 r3 r4
              go_wp2_with (go_at_call 8; (with_reducible refine (HST.out).mono ?_); rintro e w9 ⟨rfl, hS⟩; have HS9 := Lib.hid hS; clear hS)
              go_meet
              exact ⟨_, _, _, _, _, _, _, _, HS9.out, by have := HK.out; omega⟩
            · have hzb : (q == 0) = false := by simpa using hz
              have HK := Lib.hid hk
              cases fe with
              | true =>
                have HST := Lib.hid (wr_fstep hW hk2 HRG.out.1)
                clear hW hk hk2 hz
                go_wp2_with (go_at_call 11; (with_reducible refine (HST.out).mono ?_); rintro e w9 ⟨rfl, hS⟩; have HS9 := Lib.hid hS; clear hS)
                go_meet
                obtain ⟨A', hb', F', v', h⟩ := HS9.out
                exact ⟨_, _, _, _, _, _, _, _, h, by have := HK.out; omega⟩
              | false =>
                have HST := Lib.hid (wr_gstep hW hk2)
                clear hW hk hk2 hz
                go_wp2_with (go_at_call 12; (with_reducible refine (HST.out).mono ?_); rintro e w9 ⟨rfl, hS⟩; have HS9 := Lib.hid hS; clear hS)
                go_meet
                obtain ⟨A', ha', G', h⟩ := HS9.out
                exact ⟨_, _, _, _, _, _, _, _, h, by have := HK.out; omega⟩
          case rest =>
            obtain ⟨A, k, rt, ha, hb, G, F, v, hW, hk⟩ := hcut
            have hk2 : k ≤ 9000 := by have := HNM.out; have := HLT.out; omega
            have HK := Lib.hid (And.intro hk hk2)
            have HR0 := Lib.hid (wr_0 hW (by omega))
            clear hW hk hk2 HREL
            go_upto_region 20 with (go_at_call 13; (with_reducible refine (HR0.out).mono ?_); rintro e w10 ⟨rfl, A10, hS⟩; have HS10 := Lib.hid hS; obtain ⟨p0, p1⟩ := hS.pl; clear hS)
            have HR3 : Hid (∀ W', Frm.Turn [] w10 W' → Calls Try.prog 13 #[.pointer (some ⟨b, 0, none⟩), .agg #[.int .u64 65537, .int .i64 3]] W' fun e w' => e = .returned (.tuple #[.int .u64 ha, .int .i64 0]) ∧ ∃ A', WR w b rf rg pb kh ohs R fe A' (k + 1 + 1) rt ha hb G F v (hd || seen fe R rt ha hb G) w') := Lib.hid (fun W' hT => wr_3 (HS10.out.still hT) (by have := HK.out.2; omega))
            clear HR0
            go_upto_region 21 with (first
              | (go_at_call 14; (with_reducible refine (HW3.out _).mono ?_); rintro e w11 ⟨rfl, hT⟩; have HT11 := Lib.hid hT; clear hT)
              | (go_at_call 13; (with_reducible refine (HR3.out _ HT11.out).mono ?_); rintro e w12 ⟨rfl, A12, hS⟩; have HS12 := Lib.hid hS; obtain ⟨p0', p1'⟩ := hS.pl; clear hS))
            have HR4 : Hid (∀ W', Frm.Turn [] w12 W' → Calls Try.prog 13 #[.pointer (some ⟨b, 0, none⟩), .agg #[.int .u64 65537, .int .i64 4]] W' fun e w' => e = .returned (.tuple #[.int .u64 hb, .int .i64 0]) ∧ ∃ A', WR w b rf rg pb kh ohs R fe A' (k + 1 + 1 + 1) rt ha hb G F v (hd || seen fe R rt ha hb G) w') := Lib.hid (fun W' hT => wr_4 (HS12.out.still hT) (by have := HK.out.2; omega))
            clear HR3 HS10 HT11 p0 p1
            go_upto_region 22 with (first
              | (go_at_call 14; (with_reducible refine (HW4.out _).mono ?_); rintro e w13 ⟨rfl, hT⟩; have HT13 := Lib.hid hT; clear hT)
              | (go_at_call 13; (with_reducible refine (HR4.out _ HT13.out).mono ?_); rintro e w14 ⟨rfl, A14, hS⟩; have HS14 := Lib.hid hS; clear hS))
            clear HR4 HS12 HT13 p0' p1' HW3 HW4
            have HWE : Hid (WL w b rf rg pb kh ohs R fe (10 + 4 * (j + 1)) (hd || seen fe R rt ha hb G) w14) := Lib.hid ⟨A14, _, _, _, _, _, _, _, HS14.out, by have := HK.out.1; omega⟩
            cases fe with
            | true =>
              have hc0 := HRG.out.2 _ HS14.out.st.kin.turn
              clear HS14
              cases hd with
              | true =>
                have hs : (true || seen true R rt ha hb G) = true := by simp [seen]
                rw [hs] at HWE
                go_wp2_with fail
                refine ⟨⟨j + 1, _, HLT.out, by simp, rfl, HWE.out⟩, ?_⟩
                have := HLT.out
                simp [intOf]; omega
              | false =>
                cases h1 : (hb == 131074) with
                | true =>
                  cases h2 : (rt == R) with
                  | true =>
                    have hs : (false || seen true R rt ha hb G) = true := by simp [seen, h1, h2]
                    rw [hs] at HWE
                    go_wp2_with fail
                    refine ⟨⟨j + 1, _, HLT.out, by simp, rfl, HWE.out⟩, ?_⟩
                    have := HLT.out
                    simp [intOf]; omega
                  | false =>
                    have hs : (false || seen true R rt ha hb G) = false := by simp [seen, h1, h2]
                    rw [hs] at HWE
                    go_wp2_with fail
                    refine ⟨⟨j + 1, _, HLT.out, by simp, rfl, HWE.out⟩, ?_⟩
                    have := HLT.out
                    simp [intOf]; omega
                | false =>
                  have hs : (false || seen true R rt ha hb G) = false := by simp [seen, h1]
                  rw [hs] at HWE
                  go_wp2_with fail
                  refine ⟨⟨j + 1, _, HLT.out, by simp, rfl, HWE.out⟩, ?_⟩
                  have := HLT.out
                  simp [intOf]; omega
            | false =>
              have HRT : Hid (Calls Try.prog 15 #[.pointer (some ⟨rg, 0, none⟩)] w14 fun e w' => e = .returned (.int .u64 G.root) ∧ w14 = w') := Lib.hid (groot_h HS14.out.st (g := nxG rg G.st) (by exact List.mem_cons_of_mem _ (List.mem_cons_of_mem _ (List.mem_cons_self ..))))
              have hg64 := HS14.out.fit.root
              obtain ⟨hg0, hg1⟩ := hg64
              clear HS14
              cases hd with
              | true =>
                have hs : (true || seen false R rt ha hb G) = true := by simp [seen]
                rw [hs] at HWE
                go_wp2_with fail
                refine ⟨⟨j + 1, _, HLT.out, by simp, rfl, HWE.out⟩, ?_⟩
                have := HLT.out
                simp [intOf]; omega
              | false =>
                cases h0 : (G.root != 0) with
                | false =>
                  have hs : (false || seen false R rt ha hb G) = false := by simp [seen, h0]
                  rw [hs] at HWE
                  go_wp2_with (go_at_call 15; (with_reducible refine (HRT.out).mono ?_); rintro e w15 ⟨rfl, rfl⟩)
                  refine ⟨⟨j + 1, _, HLT.out, by simp, rfl, HWE.out⟩, ?_⟩
                  have := HLT.out
                  simp [intOf]; omega
                | true =>
                  cases h1 : (ha == G.root / 1048576) with
                  | false =>
                    have hs : (false || seen false R rt ha hb G) = false := by simp [seen, h0, h1]
                    rw [hs] at HWE
                    go_wp2_with (go_at_call 15; (with_reducible refine (HRT.out).mono ?_); rintro e w15 ⟨rfl, rfl⟩)
                    refine ⟨⟨j + 1, _, HLT.out, by simp, rfl, HWE.out⟩, ?_⟩
                    have := HLT.out
                    simp [intOf]; omega
                  | true =>
                    cases h2 : (rt == G.root) with
                    | true =>
                      have hs : (false || seen false R rt ha hb G) = true := by simp [seen, h0, h1, h2]
                      rw [hs] at HWE
                      go_wp2_with (go_at_call 15; (with_reducible refine (HRT.out).mono ?_); rintro e w15 ⟨rfl, rfl⟩)
                      refine ⟨⟨j + 1, _, HLT.out, by simp, rfl, HWE.out⟩, ?_⟩
                      have := HLT.out
                      simp [intOf]; omega
                    | false =>
                      have hs : (false || seen false R rt ha hb G) = false := by simp [seen, h0, h1, h2]
                      rw [hs] at HWE
                      go_wp2_with (go_at_call 15; (with_reducible refine (HRT.out).mono ?_); rintro e w15 ⟨rfl, rfl⟩)
                      refine ⟨⟨j + 1, _, HLT.out, by simp, rfl, HWE.out⟩, ?_⟩
                      have := HLT.out
                      simp [intOf]; omega
        · obtain rfl : j = m := by omega
          have hj1 : ¬ (j : Int) < (j : Int) := by omega
          obtain ⟨A, k, rt, ha, hb, G, F, v, hW, hk⟩ := hrel
          have HTW := Lib.hid hW.st.kin.turn
          clear hlt hj hk
          cases fe with
          | true =>
            have hfi := hW.fi rfl
            have HFO := Lib.hid (fout_h hW.st (g := nxF rf F.st) (v := v) (List.mem_cons_self ..))
            have HFW := Lib.hid (fwords_h hW.st (g := nxF rf F.st) (v := v) (base := w.heap.size) (List.mem_cons_self ..) (List.mem_cons_of_mem _ (List.mem_cons_self ..)) (by have := hW.len; omega))
            by_cases ho : F.out = 1
            · obtain ⟨rfl, hws⟩ := fi_end hfi ho
              have hws' : F.ws = w12 := hws
              rw [hws'] at HFW
              rw [ho] at HFO
              clear hW hfi ho hws hws'
              go_wp2_with (first
                | (go_at_call 16; (with_reducible refine (HFO.out).mono ?_); rintro e w19 ⟨rfl, rfl⟩)
                | (go_at_call 18; (with_reducible refine (HFW.out).mono ?_); rintro e w20 ⟨ao, ac, rfl, hws, -, hT⟩; have HTB := Lib.hid (hT.alloc (.cells #[.int .u64 1, .int .u64 2] 26)); have HAL := Lib.hid (words_alike (hws.turn ((Frm.Turn.refl [] w20).alloc (.cells #[.int .u64 1, .int .u64 2] 26)) (by simp)) (two_words (World.alloc_heap_new w20 (.cells #[.int .u64 1, .int .u64 2] 26))) (by decide)); clear hws hT)
                | (go_at_call 17; (with_reducible refine (HAL.out).mono ?_); rintro e w21 ⟨rfl, hT⟩; have HT21 := Lib.hid (HTB.out.trans hT (by simp)); clear hT))
              go_ret
              exact ⟨rfl, HTW.out.trans HT21.out (by simp)⟩
            · have hob : (F.out != 1) = true := by simpa using ho
              clear hW hfi ho HFW
              generalize F.out = fo at HFO hob
              go_wp2_with (go_at_call 16; (with_reducible refine (HFO.out).mono ?_); rintro e w19 ⟨rfl, rfl⟩)
              go_ret
              exact ⟨rfl, HTW.out⟩
          | false =>
            have hgi := hW.gi rfl
            have hmem : gpP rg b G ∈ feP rf b v F :: rwP w.heap.size v F.ws :: gpP rg b G :: tailP pb kh ohs := List.mem_cons_of_mem _ (List.mem_cons_of_mem _ (List.mem_cons_self ..))
            have HGO := Lib.hid (gout_h hW.st (g := nxG rg G.st) hmem)
            have HGR := Lib.hid (groot_h hW.st (g := nxG rg G.st) hmem)
            have hg64 := hW.fit.root
            obtain ⟨hg0, hg1⟩ := hg64
            by_cases ho : G.out = 1
            · have hen := gi_end hgi ho
              rw [ho] at HGO
              clear hW hgi ho hmem
              generalize G.root = gr at HGR hg0 hg1 hen
              cases hd with
              | true =>
                go_wp2_with (go_at_call 19; (with_reducible refine (HGO.out).mono ?_); rintro e w19 ⟨rfl, rfl⟩)
                go_ret
                exact ⟨rfl, HTW.out⟩
              | false =>
                have h0 : (gr / 1048576 == 0) = true := by
                  rcases hen with h | h
                  · cases h
                  · simpa using h
                clear hen
                go_wp2_with (first
                  | (go_at_call 19; (with_reducible refine (HGO.out).mono ?_); rintro e w19 ⟨rfl, rfl⟩)
                  | (go_at_call 15; (with_reducible refine (HGR.out).mono ?_); rintro e w19 ⟨rfl, rfl⟩))
                go_ret
                exact ⟨rfl, HTW.out⟩
            · have hob : (G.out != 1) = true := by simpa using ho
              clear hW hgi ho HGR hmem hg0 hg1
              generalize G.out = fo at HGO hob
              go_wp2_with (go_at_call 19; (with_reducible refine (HGO.out).mono ?_); rintro e w19 ⟨rfl, rfl⟩)
              go_ret
              exact ⟨rfl, HTW.out⟩
end Hld
end Go.Proofs.Ytfbnidjcimcfoaa
