/- A count made, stepped, asked. -/
/- A count made, stepped, asked. -/
/- Enter and Exit. -/
import Derived.Test.YtfbnidjcimcfoaaGreatCountMem
set_option linter.unusedVariables false
set_option linter.unusedSimpArgs false
namespace Go.Proofs.YtfbnidjcimcfoaaGreat
namespace Cnt
open Go.RowKit Go.Maps Arn Pac Clm

variable {w W W' : World} {r b q c n : Nat} {M : Mem} {A : Ar} {C : Ct} {g : Value}
/-- Behind a step of a count. -/
def CtAfter (w : World) (b r q : Nat) (M : Mem) (A' : Ar) (n : Nat) (C' : Ct) (W w' : World) : Prop :=
  ∃ M', Sin w b M' A' n w' ∧ CtAt w' r b q C' ∧ r ∉ M'.foot b ∧ q ∉ M'.foot b ∧ Frm.Turn (r :: M.foot b) W w' ∧ ∀ k, k ∈ M'.foot b → k ∈ M.foot b ∨ W.heap.size ≤ k
theorem after_ct {W1 W2 W3 : World} {A' : Ar} {m : Nat} {C' : Ct} (hr : r ∉ M.foot b) (hq : q ∉ M.foot b) (hl : r < W.heap.size) (hlq : q < W.heap.size) (hw : w.heap.size ≤ r) (h1 : Frm.Turn [] W W1) (h2 : After w b M A' m W1 W2) (h3 : Frm.Turn [r] W2 W3) (hc : CtAt W3 r b q C') : CtAfter w b r q M A' m C' W W3 := by
  obtain ⟨M', hs, hT, hf⟩ := h2
  have s1 := h1.size
  have hr' : r ∉ M'.foot b := fun hk => by
    rcases hf r hk with e | e
    · exact hr e
    · omega
  have hq' : q ∉ M'.foot b := fun hk => by
    rcases hf q hk with e | e
    · exact hq e
    · omega
  refine ⟨M', hs.apart h3 (fun k hk hk' => by simp at hk'; subst hk'; exact hr' hk) (fun k hk => by simp at hk; subst hk; exact hw), hc, hr', hq', ?_, fun k hk => (hf k hk).imp id (fun e => by omega)⟩
  refine (h1.mono (by simp)).trans ((hT.mono (fun k hk => List.mem_cons_of_mem r hk)).trans h3 (fun k hk => .inl (by simp at hk; subst hk; simp))) (fun k hk => .inl hk)
theorem body_aft {A' : Ar} {m : Nat} {W1 W2 : World} (hr : r ∉ M.foot b) (hc : CtBody W r b q c g C) (h1 : Frm.Turn [] W W1) (h2 : After w b M A' m W1 W2) : CtBody W2 r b q c g C := by
  obtain ⟨M', hs, hT, hf⟩ := h2
  exact (hc.turn h1 (by simp)).turn hT hr
theorem path_aft {A' : Ar} {m : Nat} {W1 W2 : World} {s : Nat} (hq : q ∉ M.foot b) (hc : PathAt W q s) (h1 : Frm.Turn [] W W1) (h2 : After w b M A' m W1 W2) : PathAt W2 q s := by
  obtain ⟨M', hs, hT, hf⟩ := h2
  exact (hc.turn h1 (by simp)).turn hT hq
/-- An address that was just laid. -/
def AdrAt (W0 : World) (x : Nat) (seg ad : Int) (W : World) : Prop := W.heap[x]? = some (.cells #[.int .u64 seg, .int .i64 ad] 66 (0, 0)) ∧ W0.heap.size ≤ x ∧ Frm.Turn [] W0 W
theorem AdrAt.told {W0 W : World} {x : Nat} {seg ad : Int} (h : AdrAt W0 x seg ad W) : (loadVar 66 ⟨x, 0, none⟩).run Tryz.prog W = .ok (.agg #[.int .u64 seg, .int .i64 ad]) W := load_adr h.1
set_option maxRecDepth 100000 in
set_option maxHeartbeats 4000000 in
theorem add_any (h : Sin w b M A n W) (hn : n ≤ 10000000) (hc : CtAt W r b q C) (hr : r ∉ M.foot b) (hq : q ∉ M.foot b) (hrq : r ≠ q) (hw : w.heap.size ≤ r) (hf : C.Fit) (hlt : C.first < C.last) :
    Calls Tryz.prog 121 #[.pointer (some ⟨r, 0, none⟩)] W fun e w' => e = .returned (.tuple #[]) ∧ CtAfter w b r q M (A.add C.seg (adN C.slot C.first) C.more).1 (n + 1) { C with first := C.first + 1 } W w' := by
  have hk : C.first < kN C.slot := by have := hf.last; omega
  have hk8 := (kN_le hf.slot).2
  obtain ⟨n1, n2⟩ := nd_facts hf.slot hk
  have hz : (C.seg != 0) = true := by simpa using hf.non
  have hgs := sg_facts hf.slot
  have hp := pow_le hgs.1
  have HSG := Lib.hid (fun W => Segment_n C.slot W hf.slot)
  have HCT := Lib.hid (fun W => Counter_n C.seg (sgN C.slot) (ndN C.slot C.first) W hgs.1 n1 n2 hz)
  have HAD := Lib.hid (fun W' (hT : Frm.Turn [] W W') => sin_add (h.step hT) (by omega) C.seg (adN C.slot C.first : Int) C.more hf.seg (wf_small (by omega) (by unfold adN; omega)) hf.more)
  obtain ⟨c, hcb⟩ := hc.body
  have hpt := hc.path C.first hk
  have HCB := Lib.hid hcb
  have HPT := Lib.hid hc.path
  have HR := Lib.hid hr
  have HQ := Lib.hid hq
  have HW := Lib.hid hw
  have HRQ := Lib.hid hrq
  have HLQ := Lib.hid hc.lt.2
  have HF1 : Hid ((C.first : Int) < (kN C.slot : Int)) := Lib.hid (by omega)
  have b0 : (0 : Int) ≤ (C.first : Int) := by omega
  have b1 : (C.first : Int) ≤ 8 := by omega
  have e1 : ((C.first + 1 : Nat) : Int) = (C.first : Int) + 1 := by omega
  have hix : (C.first : Int) < (kN C.slot : Int) := by omega
  obtain ⟨ad, HY⟩ : ∃ y : Int, Hid (y = (adN C.slot C.first : Int)) := ⟨_, Lib.hid rfl⟩
  have HCT : Hid (∀ W, Calls Tryz.prog 136 #[.int .u64 C.seg, .int .i64 (sgN C.slot), .int .i64 (ndN C.slot C.first)] W fun e w' => e = .returned (.tuple #[.agg #[.int .u64 C.seg, .int .i64 ad], .bool true]) ∧ Frm.Turn [] W w') := Lib.hid (fun W => by rw [HY.out]; exact HCT.out W)
  rw [← HY.out] at HAD ⊢
  obtain ⟨A', HA⟩ : ∃ v, Hid (v = (A.add C.seg ad C.more).1) := ⟨_, Lib.hid rfl⟩
  obtain ⟨vv, HV⟩ : ∃ v, Hid (v = (A.add C.seg ad C.more).2.1) := ⟨_, Lib.hid rfl⟩
  obtain ⟨ee, HE⟩ : ∃ v, Hid (v = (A.add C.seg ad C.more).2.2) := ⟨_, Lib.hid rfl⟩
  rw [← HA.out, ← HV.out, ← HE.out] at HAD
  rw [← HA.out]
  have HTD := Lib.hid ((Frm.Turn.refl [] W).drew)
  have HG5 : Hid (∀ Wx, CtBody Wx r b q c (nxC r C) C → Calls Tryz.prog 101 #[.pointer (some ⟨r, 0, none⟩)] (Wx.setCell ⟨r, 5, none⟩ (.int .i64 ((C.first : Int) + 1))) fun e w' => e = .returned (.tuple #[]) ∧ CtBody w' r b q c (nxC r { C with first := C.first + 1 }) { C with first := C.first + 1 } ∧ Frm.Turn [r] Wx w') := Lib.hid (fun Wx hb => by
    have h5 := hb.set5 (C.first + 1)
    rw [e1] at h5
    exact (goOn_any h5).mono (fun e w' ⟨he, h1, h2⟩ => ⟨he, h1, (turn_set Wx r 5 _).trans h2 (fun k hk => .inl hk)⟩))
  obtain ⟨c0, c1, c2, c3, c4, c5, c6, c7⟩ := hcb.cells
  clear h hc hr hq hrq hw hf hlt hk hk8 n1 n2 hz hgs hp HA HV HE HY hcb e1
  go_enter Tryz.func121, Tryz.ntmps121
  go_upto_region 1 with (go_at_call 102; (with_reducible refine (HSG.out _).mono ?_); rintro e w1 ⟨rfl, rfl⟩)
  go_cut [5, 6] (fun s5 s6 W2 => ∃ x, s5 = .pointer (some ⟨x, 0, none⟩) ∧ s6 = .bool true ∧ AdrAt W x C.seg ad W2)
  case first =>
    have HX : Hid (∀ W', Frm.Turn [] W W' → W'.cell? ⟨r, 2, none⟩ = some (.int .u64 C.seg) ∧ W'.cell? ⟨r, 4, none⟩ = some (.slice (some ⟨q, 0, none⟩) (kN C.slot) c) ∧ W'.cell? ⟨r, 5, none⟩ = some (.int .i64 C.first) ∧ W'.cell? ⟨q, C.first, none⟩ = some (.int .i64 (ndN C.slot C.first))) := Lib.hid (fun W' hT => by
      obtain ⟨x0, x1, x2, x3, x4, x5, x6, x7⟩ := (HCB.out.turn hT (by simp)).cells
      exact ⟨x2, x4, x5, hT.cell hpt (by simp)⟩)
    refine wp_region_held_drew (S := fun W' => Frm.Turn [] W W') (by kernel_rfl) ?_ (fun hHeld => ?_)
    · exact HTD.out
    refine wpAnyH_take (i := 0) (v := ?_) rfl (by kernel_rfl) (by kernel_rfl) (by kernel_rfl) (fun _ _ _ h => h) (Or.inl ⟨by rfl, ?_⟩) (by assumption) ?_
    rotate_left
    · (intro w hSw; (try dsimp only at hSw); go_simp; try with_reducible rfl)
    try simp only [Act.put, List.getElem_toArray, List.getElem_cons_succ, List.getElem_cons_zero, List.setIfInBounds_toArray, List.set_cons_zero, List.set_cons_succ]
    refine wpAnyH_take (i := 1) (v := ?_) rfl (by kernel_rfl) (by kernel_rfl) (by kernel_rfl) (fun _ _ _ h => h) (Or.inl ⟨by rfl, ?_⟩) (by assumption) ?_
    rotate_left
    · (intro w hSw; (try dsimp only at hSw); go_simp; try with_reducible rfl)
    try simp only [Act.put, List.getElem_toArray, List.getElem_cons_succ, List.getElem_cons_zero, List.setIfInBounds_toArray, List.set_cons_zero, List.set_cons_succ]
    refine wpAnyH_take (i := 2) (v := ?_) rfl (by kernel_rfl) (by kernel_rfl) (by kernel_rfl) (fun _ _ _ h => h) (Or.inl ⟨by rfl, ?_⟩) (by assumption) ?_
    rotate_left
    · (intro w hSw; (try dsimp only at hSw); go_simp; try with_reducible rfl)
    try simp only [Act.put, List.getElem_toArray, List.getElem_cons_succ, List.getElem_cons_zero, List.setIfInBounds_toArray, List.set_cons_zero, List.set_cons_succ]
    refine wpAnyH_take (i := 3) (v := ?_) rfl (by kernel_rfl) (by kernel_rfl) (by kernel_rfl) (fun _ _ _ h => h) (Or.inl ⟨by rfl, ?_⟩) (by assumption) ?_
    rotate_left
    · (intro w hSw; (try dsimp only at hSw); go_simp; try with_reducible rfl)
    try simp only [Act.put, List.getElem_toArray, List.getElem_cons_succ, List.getElem_cons_zero, List.setIfInBounds_toArray, List.set_cons_zero, List.set_cons_succ]
    refine wpAnyH_take (i := 4) (v := ?_) rfl (by kernel_rfl) (by kernel_rfl) (by kernel_rfl) (fun _ _ _ h => h) (Or.inl ⟨by rfl, ?_⟩) (by assumption) ?_
    rotate_left
    · (intro w hSw; (try dsimp only at hSw); obtain ⟨x2, x4, x5, xp⟩ := HX.out w hSw; go_simp; try with_reducible rfl)
    try simp only [Act.put, List.getElem_toArray, List.getElem_cons_succ, List.getElem_cons_zero, List.setIfInBounds_toArray, List.set_cons_zero, List.set_cons_succ]
    refine wpAnyH_take (i := 5) (v := ?_) rfl (by kernel_rfl) (by kernel_rfl) (by kernel_rfl) (fun _ _ _ h => h) (Or.inl ⟨by rfl, ?_⟩) (by assumption) ?_
    rotate_left
    · (intro w hSw; (try dsimp only at hSw); go_simp; try with_reducible rfl)
    try simp only [Act.put, List.getElem_toArray, List.getElem_cons_succ, List.getElem_cons_zero, List.setIfInBounds_toArray, List.set_cons_zero, List.set_cons_succ]
    refine wpAnyH_take (i := 6) (v := ?_) rfl (by kernel_rfl) (by kernel_rfl) (by kernel_rfl) (fun _ _ _ h => h) (Or.inl ⟨by rfl, ?_⟩) (by assumption) ?_
    rotate_left
    · (intro w hSw; (try dsimp only at hSw); go_simp; try with_reducible rfl)
    try simp only [Act.put, List.getElem_toArray, List.getElem_cons_succ, List.getElem_cons_zero, List.setIfInBounds_toArray, List.set_cons_zero, List.set_cons_succ]
    refine wpAnyH_take (i := 7) (v := ?_) rfl (by kernel_rfl) (by kernel_rfl) (by kernel_rfl) (fun _ _ _ h => h) (Or.inl ⟨by rfl, ?_⟩) (by assumption) ?_
    rotate_left
    · (intro w hSw; (try dsimp only at hSw); go_simp; try with_reducible rfl)
    try simp only [Act.put, List.getElem_toArray, List.getElem_cons_succ, List.getElem_cons_zero, List.setIfInBounds_toArray, List.set_cons_zero, List.set_cons_succ]
    refine wpAnyH_take (i := 8) (v := ?_) rfl (by kernel_rfl) (by kernel_rfl) (by kernel_rfl) (fun _ _ _ h => h) (Or.inl ⟨by rfl, ?_⟩) (by assumption) ?_
    rotate_left
    · (intro w hSw; (try dsimp only at hSw); go_simp; try with_reducible rfl)
    try simp only [Act.put, List.getElem_toArray, List.getElem_cons_succ, List.getElem_cons_zero, List.setIfInBounds_toArray, List.set_cons_zero, List.set_cons_succ]
    refine wpAnyH_take (i := 9) (v := ?_) rfl (by kernel_rfl) (by kernel_rfl) (by kernel_rfl) (fun _ _ _ h => h) (Or.inl ⟨by rfl, ?_⟩) (by assumption) ?_
    rotate_left
    · (intro w hSw; (try dsimp only at hSw); obtain ⟨x2, x4, x5, xp⟩ := HX.out w hSw; go_simp; try with_reducible rfl)
    try simp only [Act.put, List.getElem_toArray, List.getElem_cons_succ, List.getElem_cons_zero, List.setIfInBounds_toArray, List.set_cons_zero, List.set_cons_succ]
    refine wpAnyH_take (i := 10) (v := ?_) rfl (by kernel_rfl) (by kernel_rfl) (by kernel_rfl) (fun _ _ _ h => h) (Or.inl ⟨by rfl, ?_⟩) (by assumption) ?_
    rotate_left
    · (intro w hSw; (try dsimp only at hSw); go_simp; try with_reducible rfl)
    try simp only [Act.put, List.getElem_toArray, List.getElem_cons_succ, List.getElem_cons_zero, List.setIfInBounds_toArray, List.set_cons_zero, List.set_cons_succ]
    refine wpAnyH_take (i := 11) (v := ?_) rfl (by kernel_rfl) (by kernel_rfl) (by kernel_rfl) (fun _ _ _ h => h) (Or.inl ⟨by rfl, ?_⟩) (by assumption) ?_
    rotate_left
    · (intro w hSw; (try dsimp only at hSw); go_simp; try with_reducible rfl)
    try simp only [Act.put, List.getElem_toArray, List.getElem_cons_succ, List.getElem_cons_zero, List.setIfInBounds_toArray, List.set_cons_zero, List.set_cons_succ]
    refine wpAnyH_take (i := 12) (v := ?_) rfl (by kernel_rfl) (by kernel_rfl) (by kernel_rfl) (fun _ _ _ h => h) (Or.inl ⟨by rfl, ?_⟩) (by assumption) ?_
    rotate_left
    · (intro w hSw; (try dsimp only at hSw); go_simp; try with_reducible rfl)
    try simp only [Act.put, List.getElem_toArray, List.getElem_cons_succ, List.getElem_cons_zero, List.setIfInBounds_toArray, List.set_cons_zero, List.set_cons_succ]
    refine wpAnyH_take (i := 13) (v := ?_) rfl (by kernel_rfl) (by kernel_rfl) (by kernel_rfl) (fun _ _ _ h => h) (Or.inl ⟨by rfl, ?_⟩) (by assumption) ?_
    rotate_left
    · (intro w hSw; (try dsimp only at hSw); obtain ⟨x2, x4, x5, xp⟩ := HX.out w hSw; go_simp; try with_reducible rfl)
    try simp only [Act.put, List.getElem_toArray, List.getElem_cons_succ, List.getElem_cons_zero, List.setIfInBounds_toArray, List.set_cons_zero, List.set_cons_succ]
    refine wpAnyH_take (i := 14) (v := ?_) rfl (by kernel_rfl) (by kernel_rfl) (by kernel_rfl) (fun _ _ _ h => h) (Or.inl ⟨by rfl, ?_⟩) (by assumption) ?_
    rotate_left
    · (intro w hSw; (try dsimp only at hSw); go_simp; try with_reducible rfl)
    try simp only [Act.put, List.getElem_toArray, List.getElem_cons_succ, List.getElem_cons_zero, List.setIfInBounds_toArray, List.set_cons_zero, List.set_cons_succ]
    refine wpAnyH_take (i := 15) (v := ?_) rfl (by kernel_rfl) (by kernel_rfl) (by kernel_rfl) (fun _ _ _ h => h) (Or.inl ⟨by rfl, ?_⟩) (by assumption) ?_
    rotate_left
    · (intro w hSw; (try dsimp only at hSw); obtain ⟨x2, x4, x5, xp⟩ := HX.out w hSw; go_simp; try with_reducible rfl)
    try simp only [Act.put, List.getElem_toArray, List.getElem_cons_succ, List.getElem_cons_zero, List.setIfInBounds_toArray, List.set_cons_zero, List.set_cons_succ]
    refine wpAnyH_ready (rs := [16, 20]) (by kernel_rfl) (by simp) ?_
    refine (AllReadyH.cons rfl (fun K hK => ?_) (AllReadyH.cons rfl (fun K hK => ?_) AllReadyH.nil))
    · try simp only [List.getElem_toArray, List.getElem_cons_succ, List.getElem_cons_zero]
      go_simp
      (go_at_call 136; (with_reducible refine (HCT.out _).mono ?_); rintro e w2 ⟨rfl, hT2⟩)
      try go_wp2_with fail
      refine hK.out _ _ (hHeld.trans hT2 (by simp)) (fun hHeld2 => ?_)
      clear hK K
      try simp only [Act.put, List.getElem_toArray, List.getElem_cons_succ, List.getElem_cons_zero, List.setIfInBounds_toArray, List.set_cons_zero, List.set_cons_succ]
      refine wpAnyH_take (i := 17) (v := ?_) rfl (by kernel_rfl) (by kernel_rfl) (by kernel_rfl) (fun _ _ _ h => h) (Or.inl ⟨by rfl, ?_⟩) (by assumption) ?_
      rotate_left
      · (intro w hSw; (try dsimp only at hSw); go_simp; try with_reducible rfl)
      try simp only [Act.put, List.getElem_toArray, List.getElem_cons_succ, List.getElem_cons_zero, List.setIfInBounds_toArray, List.set_cons_zero, List.set_cons_succ]
      refine wpAnyH_take (i := 18) (v := ?_) rfl (by kernel_rfl) (by kernel_rfl) (by kernel_rfl) (fun _ _ _ h => h) (Or.inl ⟨by rfl, ?_⟩) (by assumption) ?_
      rotate_left
      · (intro w hSw; (try dsimp only at hSw); go_simp; try with_reducible rfl)
      try simp only [Act.put, List.getElem_toArray, List.getElem_cons_succ, List.getElem_cons_zero, List.setIfInBounds_toArray, List.set_cons_zero, List.set_cons_succ]
      refine wpAnyH_take (i := 19) (v := ?_) rfl (by kernel_rfl) (by kernel_rfl) (by kernel_rfl) (fun _ _ _ h => h) (Or.inl ⟨by rfl, ?_⟩) (by assumption) ?_
      rotate_left
      · (intro w hSw; (try dsimp only at hSw); go_simp; try with_reducible rfl)
      try simp only [Act.put, List.getElem_toArray, List.getElem_cons_succ, List.getElem_cons_zero, List.setIfInBounds_toArray, List.set_cons_zero, List.set_cons_succ]
      refine wpAnyH_ready (rs := [20]) (by kernel_rfl) (by simp) ?_
      refine AllReadyH.cons rfl (fun K hK => ?_) AllReadyH.nil
      skip
      try simp only [List.getElem_toArray, List.getElem_cons_succ, List.getElem_cons_zero]
      go_simp
      refine hK.out _ _ (hHeld2.alloc _) (fun hHeld3 => ?_)
      clear hK K
      try simp only [Act.put, List.getElem_toArray, List.getElem_cons_succ, List.getElem_cons_zero, List.setIfInBounds_toArray, List.set_cons_zero, List.set_cons_succ]
      refine wpAnyH_ready (rs := [21]) (by kernel_rfl) (by simp) ?_
      refine AllReadyH.cons rfl (fun K hK => ?_) AllReadyH.nil
      skip
      try simp only [List.getElem_toArray, List.getElem_cons_succ, List.getElem_cons_zero]
      go_simp
      refine hK.out _ _ (hHeld2.alloc _) (fun hHeld4 => ?_)
      clear hK K
      try simp only [Act.put, List.getElem_toArray, List.getElem_cons_succ, List.getElem_cons_zero, List.setIfInBounds_toArray, List.set_cons_zero, List.set_cons_succ]
      refine wpAnyH_take (i := 22) (v := ?_) rfl (by kernel_rfl) (by kernel_rfl) (by kernel_rfl) (fun _ _ _ h => h) (Or.inl ⟨by rfl, ?_⟩) (by assumption) ?_
      rotate_left
      · (intro w hSw; (try dsimp only at hSw); go_simp; try with_reducible rfl)
      try simp only [Act.put, List.getElem_toArray, List.getElem_cons_succ, List.getElem_cons_zero, List.setIfInBounds_toArray, List.set_cons_zero, List.set_cons_succ]
      refine wpAnyH_done (by kernel_rfl) ?_ _
      go_wp2_with fail
      go_meet
      exact ⟨_, rfl, rfl, World.alloc_heap_new w2 _, hHeld2.size, hHeld2.alloc _⟩
    · try simp only [List.getElem_toArray, List.getElem_cons_succ, List.getElem_cons_zero]
      go_simp
      refine hK.out _ _ (hHeld.alloc _) (fun hHeld1 => ?_)
      clear hK K
      try simp only [Act.put, List.getElem_toArray, List.getElem_cons_succ, List.getElem_cons_zero, List.setIfInBounds_toArray, List.set_cons_zero, List.set_cons_succ]
      refine wpAnyH_ready (rs := [16]) (by kernel_rfl) (by simp) ?_
      refine AllReadyH.cons rfl (fun K hK => ?_) AllReadyH.nil
      skip
      try simp only [List.getElem_toArray, List.getElem_cons_succ, List.getElem_cons_zero]
      go_simp
      (go_at_call 136; (with_reducible refine (HCT.out _).mono ?_); rintro e w2 ⟨rfl, hT2⟩)
      have hn2 := hT2.keep (World.alloc_heap_new W.drew _) (by simp)
      have n0 : w2.cell? ⟨W.heap.size, 0, none⟩ = some (.int .u64 0) := (Frm.cell_row _ _ 0 _ _ _ hn2).trans rfl
      have n1 : w2.cell? ⟨W.heap.size, 1, none⟩ = some (.int .i64 0) := (Frm.cell_row _ _ 1 _ _ _ hn2).trans rfl
      have f0 : w2.frozen? ⟨W.heap.size, 0, none⟩ = false := Frm.frozen_row _ _ 0 _ _ hn2
      have f1 : w2.frozen? ⟨W.heap.size, 1, none⟩ = false := Frm.frozen_row _ _ 1 _ _ hn2
      have HN2 := Lib.hid hn2
      clear hn2
      try go_wp2_with fail
      refine hK.out _ _ (hHeld1.trans hT2 (by simp)) (fun hHeld2 => ?_)
      clear hK K
      try simp only [Act.put, List.getElem_toArray, List.getElem_cons_succ, List.getElem_cons_zero, List.setIfInBounds_toArray, List.set_cons_zero, List.set_cons_succ]
      refine wpAnyH_take (i := 17) (v := ?_) rfl (by kernel_rfl) (by kernel_rfl) (by kernel_rfl) (fun _ _ _ h => h) (Or.inl ⟨by rfl, ?_⟩) (by assumption) ?_
      rotate_left
      · (intro w hSw; (try dsimp only at hSw); go_simp; try with_reducible rfl)
      try simp only [Act.put, List.getElem_toArray, List.getElem_cons_succ, List.getElem_cons_zero, List.setIfInBounds_toArray, List.set_cons_zero, List.set_cons_succ]
      refine wpAnyH_take (i := 18) (v := ?_) rfl (by kernel_rfl) (by kernel_rfl) (by kernel_rfl) (fun _ _ _ h => h) (Or.inl ⟨by rfl, ?_⟩) (by assumption) ?_
      rotate_left
      · (intro w hSw; (try dsimp only at hSw); go_simp; try with_reducible rfl)
      try simp only [Act.put, List.getElem_toArray, List.getElem_cons_succ, List.getElem_cons_zero, List.setIfInBounds_toArray, List.set_cons_zero, List.set_cons_succ]
      refine wpAnyH_take (i := 19) (v := ?_) rfl (by kernel_rfl) (by kernel_rfl) (by kernel_rfl) (fun _ _ _ h => h) (Or.inl ⟨by rfl, ?_⟩) (by assumption) ?_
      rotate_left
      · (intro w hSw; (try dsimp only at hSw); go_simp; try with_reducible rfl)
      try simp only [Act.put, List.getElem_toArray, List.getElem_cons_succ, List.getElem_cons_zero, List.setIfInBounds_toArray, List.set_cons_zero, List.set_cons_succ]
      refine wpAnyH_ready (rs := [21]) (by kernel_rfl) (by simp) ?_
      refine AllReadyH.cons rfl (fun K hK => ?_) AllReadyH.nil
      skip
      try simp only [List.getElem_toArray, List.getElem_cons_succ, List.getElem_cons_zero]
      go_simp
      refine hK.out _ _ ((hHeld2.setCell (p := ⟨W.heap.size, 0, none⟩) (.inr (Nat.le_refl _)) _).setCell (p := ⟨W.heap.size, 1, none⟩) (.inr (Nat.le_refl _)) _) (fun hHeld4 => ?_)
      clear hK K
      try simp only [Act.put, List.getElem_toArray, List.getElem_cons_succ, List.getElem_cons_zero, List.setIfInBounds_toArray, List.set_cons_zero, List.set_cons_succ]
      refine wpAnyH_take (i := 22) (v := ?_) rfl (by kernel_rfl) (by kernel_rfl) (by kernel_rfl) (fun _ _ _ h => h) (Or.inl ⟨by rfl, ?_⟩) (by assumption) ?_
      rotate_left
      · (intro w hSw; (try dsimp only at hSw); go_simp; try with_reducible rfl)
      try simp only [Act.put, List.getElem_toArray, List.getElem_cons_succ, List.getElem_cons_zero, List.setIfInBounds_toArray, List.set_cons_zero, List.set_cons_succ]
      refine wpAnyH_done (by kernel_rfl) ?_ _
      go_wp2_with fail
      go_meet
      have h1 := Frm.heap_set _ _ 0 _ _ _ (.int .u64 C.seg) HN2.out
      have h2 := Frm.heap_set _ _ 1 _ _ _ (.int .i64 ad) h1
      exact ⟨_, rfl, rfl, h2.trans (by simp), Nat.le_refl _, (hHeld2.setCell (p := ⟨W.heap.size, 0, none⟩) (.inr (Nat.le_refl _)) _).setCell (p := ⟨W.heap.size, 1, none⟩) (.inr (Nat.le_refl _)) _⟩
  case rest =>
    obtain ⟨x, rfl, rfl, hx⟩ := hcut
    clear HCT HSG
    have hTD := hx.2.2.drew
    have hxd : AdrAt W x C.seg ad wc.drew := ⟨(Frm.Turn.refl [] wc).drew.keep hx.1 (by simp), hx.2.1, hTD⟩
    obtain ⟨x0, x1, x2, x3, x4, x5, x6, x7⟩ := (HCB.out.turn hTD (by simp)).cells
    have p0 : wc.drew.cell? ⟨x, 0, none⟩ = some (.int .u64 C.seg) := (Frm.cell_row _ _ 0 _ _ _ hxd.1).trans rfl
    have p1 : wc.drew.cell? ⟨x, 1, none⟩ = some (.int .i64 ad) := (Frm.cell_row _ _ 1 _ _ _ hxd.1).trans rfl
    have HAX := Lib.hid (HAD.out _ hTD)
    have HTX := Lib.hid hTD
    clear hx HAD hTD hxd
    go_wp2_with fail
    go_cut [] (fun W2 => After w b M A' (n + 1) wc.drew W2)
    case first =>
      go_region_with (go_at_call 137; (with_reducible refine (HAX.out).mono ?_); rintro e w1 ⟨rfl, ha⟩; have HA1 := Lib.hid ha; clear ha)
      all_goals go_wp2_with fail
      all_goals go_meet
      all_goals exact HA1.out
    case rest =>
      have hb := body_aft HR.out HCB.out HTX.out hcut
      have hp := path_aft HQ.out HPT.out HTX.out hcut
      obtain ⟨y0, y1, y2, y3, y4, y5, y6, y7⟩ := hb.cells
      have f5 := hb.thaw 5
      have HG6 := Lib.hid (HG5.out _ hb)
      have HAF := Lib.hid hcut
      have HPP := Lib.hid hp
      clear hb hp hcut HG5
      go_wp2_with (go_at_call 101; (with_reducible refine (HG6.out).mono ?_); rintro e w1 ⟨rfl, hb, hT⟩)
      go_end0
      exact ⟨rfl, after_ct HR.out HQ.out HCB.out.lt HLQ.out HW.out HTX.out HAF.out hT ⟨⟨_, hb⟩, HPP.out.turn hT (by simpa using fun e => HRQ.out e.symm)⟩⟩
end Cnt
end Go.Proofs.YtfbnidjcimcfoaaGreat

set_option linter.unusedVariables false
set_option linter.unusedSimpArgs false
namespace Go.Proofs.YtfbnidjcimcfoaaGreat
namespace Cnt
open Go.RowKit Go.Maps Arn Pac Clm

variable {w W W' : World} {r b q c n : Nat} {M : Mem} {A : Ar} {C : Ct} {g : Value}
theorem enters_add : Enters Tryz.prog 121 := enters_of Tryz.func121 (by kernel_rfl) rfl
theorem gearC_any (h : Sin w b M A n W) (hn : n ≤ 10000000) (hc : CtAt W r b q C) (hr : r ∉ M.foot b) (hq : q ∉ M.foot b) (hrq : r ≠ q) (hw : w.heap.size ≤ r) (hf : C.Fit) :
    Calls Tryz.prog 59 #[.pointer (some ⟨r, 0, none⟩)] W fun e w' => e = .returned (.tuple #[]) ∧ CtAfter w b r q M (C.step A).1 (n + 1) (C.step A).2 W w' := by
  obtain ⟨c, hcb⟩ := hc.body
  refine gstep_any r (nxC r C) W hcb.cells.1 ?_
  unfold Ct.step
  by_cases hlt : C.first < C.last
  · rw [if_pos hlt]
    rw [show nxC r C = .func (.func 121) #[.pointer (some ⟨r, 0, none⟩)] #[] by unfold nxC; rw [if_pos hlt]]
    exact call_fn #[.pointer (some ⟨r, 0, none⟩)] #[] W enters_add (add_any h hn hc hr hq hrq hw hf hlt)
  · rw [if_neg hlt]
    rw [show nxC r C = .nilFunc by unfold nxC; rw [if_neg hlt]]
    refine (call_none W).mono ?_
    rintro e w' ⟨he, rfl⟩
    exact ⟨he, M, h.more (by omega), hc, hr, hq, Frm.Turn.refl _ _, fun k hk => .inl hk⟩
theorem stepC_any (h : Sin w b M A n W) (hn : n ≤ 10000000) (hc : CtAt W r b q C) (hr : r ∉ M.foot b) (hq : q ∉ M.foot b) (hrq : r ≠ q) (hw : w.heap.size ≤ r) (hf : C.Fit) :
    Calls Tryz.prog 42 #[.pointer (some ⟨r, 0, none⟩)] W fun e w' => e = .returned (.tuple #[]) ∧ CtAfter w b r q M (C.step A).1 (n + 1) (C.step A).2 W w' := by
  have H := Lib.hid (gearC_any h hn hc hr hq hrq hw hf)
  generalize (C.step A).1 = A' at H ⊢
  generalize (C.step A).2 = C' at H ⊢
  clear h hc hr hq hrq hw hf
  go_enter Tryz.func42, Tryz.ntmps42
  go_wp2_with (go_at_call 59; (with_reducible refine (H.out).mono ?_); rintro e w1 ⟨rfl, ha⟩)
  go_end0
  exact ⟨rfl, ha⟩
theorem stepC_nil (W : World) : Calls Tryz.prog 42 #[.pointer none] W fun e w' => e = .returned (.tuple #[]) ∧ W = w' := by
  go_enter Tryz.func42, Tryz.ntmps42
  go_wp2
  go_end0
  exact ⟨rfl, rfl⟩
theorem idle_nxC (r : Nat) : idle (nxC r C) = decide (C.last ≤ C.first) := by
  unfold nxC
  by_cases h : C.first < C.last
  · rw [if_pos h]
    have : ¬ C.last ≤ C.first := by omega
    simp [idle, this]
  · rw [if_neg h]
    have : C.last ≤ C.first := by omega
    simp [idle, this]
/-- A count that was just made. -/
def MadeC (W : World) (b : Nat) (C : Ct) (r q : Nat) (w' : World) : Prop := CtAt w' r b q C ∧ W.heap.size ≤ r ∧ r < w'.heap.size ∧ W.heap.size ≤ q ∧ q < w'.heap.size ∧ r ≠ q ∧ Frm.Turn [] W w'
theorem MadeC.pre {W0 : World} (h : MadeC W b C r q W') (ht : Frm.Turn [] W0 W) : MadeC W0 b C r q W' := by
  obtain ⟨h1, h2, h3, h4, h5, h6, h7⟩ := h
  have := ht.size
  exact ⟨h1, by omega, h3, by omega, h5, h6, ht.trans h7 (by simp)⟩
set_option maxRecDepth 100000 in
set_option maxHeartbeats 4000000 in
theorem newC_any (seg : Int) (s : Nat) (x y : Int) (more : Int) (W : World) (hs : s < 255) (x0 : -1000000 ≤ x) (x1 : x ≤ 1000000) (y0 : -1000000 ≤ y) (y1 : y ≤ 1000000) :
    Calls Tryz.prog 78 #[.pointer (some ⟨b, 0, none⟩), .agg #[.int .u64 seg, .int .i64 s], .int .i64 x, .int .i64 y, .int .u64 more] W fun e w' =>
      ∃ r q, e = .returned (.pointer (some ⟨r, 0, none⟩)) ∧ MadeC W b ⟨seg, s, min x.toNat (kN s), min y.toNat (kN s), more⟩ r q w' := by
  have HP := Lib.hid (fun W => Path_n s W hs)
  have hk8 := (kN_le hs).2
  have H1 := Lib.hid (fun W => held_any x (kN s) W x0 x1 (by omega))
  have H2 := Lib.hid (fun W => held_any y (kN s) W y0 y1 (by omega))
  generalize hf : min x.toNat (kN s) = f at H1 ⊢
  generalize hl : min y.toNat (kN s) = l at H2 ⊢
  have HA0 := Lib.hid (World.alloc_heap_new W (.cells #[.int .u64 seg, .int .i64 s] 46))
  have HTA := Lib.hid ((Frm.Turn.refl [] W).alloc (.cells #[.int .u64 seg, .int .i64 s] 46))
  have p1 : (W.alloc (.cells #[.int .u64 seg, .int .i64 s] 46)).cell? ⟨W.heap.size, 1, none⟩ = some (.int .i64 s) := (Frm.cell_row _ _ 1 _ _ _ HA0.out).trans rfl
  clear hf hl hs hk8 x0 x1 y0 y1
  go_enter Tryz.func78, Tryz.ntmps78
  go_upto_region 2 with (go_at_call 79; (with_reducible refine (HP.out _).mono ?_); rintro e w1 ⟨q, c, rfl, hq1, hq2, hpt, hT⟩)
  have hT1 := HTA.out.trans hT (by simp)
  have ha1 := hT.keep HA0.out (by simp)
  have HQ1 : Hid (W.heap.size < q) := Lib.hid (by simp at hq1; omega)
  have HQ2 := Lib.hid hq2
  have HPT := Lib.hid hpt
  have HT1 := Lib.hid hT1
  have HD := Lib.hid ((Frm.Turn.refl [] w1).drew)
  have hd0 := HD.out.keep ha1 (by simp)
  have d0 : w1.drew.cell? ⟨W.heap.size, 0, none⟩ = some (.int .u64 seg) := (Frm.cell_row _ _ 0 _ _ _ hd0).trans rfl
  have d1 : w1.drew.cell? ⟨W.heap.size, 1, none⟩ = some (.int .i64 s) := (Frm.cell_row _ _ 1 _ _ _ hd0).trans rfl
  clear hq1 hq2 hpt hT hT1 ha1 hd0 HP
  go_cut [12] (fun s12 W2 => ∃ r, s12 = .pointer (some ⟨r, 0, none⟩) ∧ CtBody W2 r b q c .nilFunc ⟨seg, s, f, l, more⟩ ∧ w1.heap.size ≤ r ∧ Frm.Turn [] w1 W2)
  case first =>
    go_region_with (first
      | (go_at_call 100; (with_reducible refine (H1.out _).mono ?_); rintro e w2 ⟨rfl, rfl⟩)
      | (go_at_call 100; (with_reducible refine (H2.out _).mono ?_); rintro e w2 ⟨rfl, rfl⟩))
    all_goals go_wp2_with fail
    all_goals go_meet
    all_goals exact ⟨_, rfl, World.alloc_heap_new _ _, by simp, HD.out.alloc _⟩
  case rest =>
    obtain ⟨r, rfl, hb, hr, hT⟩ := hcut
    have HG := Lib.hid (goOn_any hb)
    have HB := Lib.hid hb
    have HRR := Lib.hid hr
    have HT2 := Lib.hid hT
    clear hb hr hT
    go_wp2_with (go_at_call 101; (with_reducible refine (HG.out).mono ?_); rintro e w3 ⟨rfl, hb, hT⟩; have HB3 := Lib.hid hb; have HT3 := Lib.hid hT; clear hb hT)
    go_ret
    have z1 := HT1.out.size
    have z2 := HT2.out.size
    have z3 := HT3.out.size
    have z4 := HRR.out
    have z5 := HQ1.out
    have z6 := HQ2.out
    refine ⟨r, q, rfl, ⟨⟨_, HB3.out⟩, (HPT.out.turn HT2.out (by simp)).turn HT3.out (by simp; omega)⟩, by omega, HB3.out.lt, by omega, by omega, by omega, ?_⟩
    exact (HT1.out.trans HT2.out (by simp)).trans HT3.out (fun k hk => .inr (by simp at hk; omega))
end Cnt
end Go.Proofs.YtfbnidjcimcfoaaGreat

set_option linter.unusedVariables false
set_option linter.unusedSimpArgs false
namespace Go.Proofs.YtfbnidjcimcfoaaGreat
namespace Cnt
open Go.RowKit Go.Maps Arn Pac Clm

variable {w W W' : World} {r b q c n : Nat} {M : Mem} {A : Ar} {C : Ct} {g : Value}
set_option maxRecDepth 100000 in
theorem exitC_any (seg : Int) (s : Nat) (x y : Int) (W : World) (hs : s < 255) (x0 : -1000000 ≤ x) (x1 : x ≤ 1000000) (y0 : -1000000 ≤ y) (y1 : y ≤ 1000000) :
    Calls Tryz.prog 41 #[.pointer (some ⟨b, 0, none⟩), .agg #[.int .u64 seg, .int .i64 s], .int .i64 x, .int .i64 y] W fun e w' =>
      ∃ r q, e = .returned (.pointer (some ⟨r, 0, none⟩)) ∧ MadeC W b ⟨seg, s, min x.toNat (kN s), min y.toNat (kN s), 18446744073709551615⟩ r q w' := by
  have HN := Lib.hid (fun W => newC_any (b := b) seg s x y 18446744073709551615 W hs x0 x1 y0 y1)
  generalize min x.toNat (kN s) = f at HN ⊢
  generalize min y.toNat (kN s) = l at HN ⊢
  have HA0 := World.alloc_heap_new W (.cells #[.int .u64 seg, .int .i64 s] 46)
  have HTA := Lib.hid ((Frm.Turn.refl [] W).alloc (.cells #[.int .u64 seg, .int .i64 s] 46))
  have hld := load_plc HA0
  have p0 : (W.alloc (.cells #[.int .u64 seg, .int .i64 s] 46)).cell? ⟨W.heap.size, 0, none⟩ = some (.int .u64 seg) := (Frm.cell_row _ _ 0 _ _ _ HA0).trans rfl
  have p1 : (W.alloc (.cells #[.int .u64 seg, .int .i64 s] 46)).cell? ⟨W.heap.size, 1, none⟩ = some (.int .i64 s) := (Frm.cell_row _ _ 1 _ _ _ HA0).trans rfl
  clear HA0
  go_enter Tryz.func41, Tryz.ntmps41
  go_wp2_with (go_at_call 78; (with_reducible refine (HN.out _).mono ?_); rintro e w1 ⟨r, q, rfl, hm⟩)
  go_ret
  exact ⟨r, q, rfl, hm.pre HTA.out⟩
set_option maxRecDepth 100000 in
set_option maxHeartbeats 4000000 in
theorem enterC_any (seg : Int) (s : Nat) (W : World) (hs : s < 255) :
    Calls Tryz.prog 40 #[.pointer (some ⟨b, 0, none⟩), .agg #[.int .u64 seg, .int .i64 s]] W fun e w' =>
      ∃ r q, e = .returned (.pointer (some ⟨r, 0, none⟩)) ∧ MadeC W b ⟨seg, s, 0, kN s, 1⟩ r q w' := by
  have hk8 := (kN_le hs).2
  have HP := Lib.hid (fun W => Path_n s W hs)
  have HN : Hid (∀ W, Calls Tryz.prog 78 #[.pointer (some ⟨b, 0, none⟩), .agg #[.int .u64 seg, .int .i64 s], .int .i64 0, .int .i64 (kN s), .int .u64 1] W fun e w' =>
      ∃ r q, e = .returned (.pointer (some ⟨r, 0, none⟩)) ∧ MadeC W b ⟨seg, s, 0, kN s, 1⟩ r q w') := Lib.hid (fun W => by
    have := newC_any (b := b) seg s 0 (kN s) 1 W hs (by omega) (by omega) (by omega) (by omega)
    simp only [Int.toNat_natCast, Nat.min_self] at this
    have e0 : min (0 : Int).toNat (kN s) = 0 := by simp
    rw [e0] at this
    exact this)
  have HA0 := Lib.hid (World.alloc_heap_new W (.cells #[.int .u64 seg, .int .i64 s] 46))
  have HTA := Lib.hid (((Frm.Turn.refl [] W).alloc (.cells #[.int .u64 seg, .int .i64 s] 46)).drew)
  have HD : Hid (Frm.Turn [] (W.alloc (.cells #[.int .u64 seg, .int .i64 s] 46)) (W.alloc (.cells #[.int .u64 seg, .int .i64 s] 46)).drew) := Lib.hid ((Frm.Turn.refl [] _).drew)
  have hd0 := HD.out.keep HA0.out (by simp)
  have HH := Lib.hid hd0
  have d0 : (W.alloc (.cells #[.int .u64 seg, .int .i64 s] 46)).drew.cell? ⟨W.heap.size, 0, none⟩ = some (.int .u64 seg) := (Frm.cell_row _ _ 0 _ _ _ hd0).trans rfl
  have d1 : (W.alloc (.cells #[.int .u64 seg, .int .i64 s] 46)).drew.cell? ⟨W.heap.size, 1, none⟩ = some (.int .i64 s) := (Frm.cell_row _ _ 1 _ _ _ hd0).trans rfl
  clear hd0 hk8
  go_enter Tryz.func40, Tryz.ntmps40
  go_wp2_with fail
  go_region_with (first
    | (go_at_call 79; (with_reducible refine (HP.out _).mono ?_); rintro e w1 ⟨q0, c, rfl, hq1, hq2, hpt, hT⟩; have HT1 := Lib.hid hT; have hd1 := hT.keep HH.out (by simp); have k0 : w1.cell? ⟨W.heap.size, 0, none⟩ = some (.int .u64 seg) := (Frm.cell_row _ _ 0 _ _ _ hd1).trans rfl; have k1 : w1.cell? ⟨W.heap.size, 1, none⟩ = some (.int .i64 s) := (Frm.cell_row _ _ 1 _ _ _ hd1).trans rfl; clear hq1 hq2 hpt hT hd1)
    | (go_at_call 78; (with_reducible refine (HN.out _).mono ?_); rintro e w2 ⟨r, q, rfl, hm⟩; have HM := Lib.hid hm; clear hm))
  all_goals go_wp2_with fail
  all_goals go_ret
  all_goals exact ⟨r, q, rfl, HM.out.pre (HTA.out.trans HT1.out (by simp))⟩
end Cnt
end Go.Proofs.YtfbnidjcimcfoaaGreat
