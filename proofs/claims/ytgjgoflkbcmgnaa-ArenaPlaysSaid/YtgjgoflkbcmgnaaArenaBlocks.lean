/- Blocks of the laws: the first blocks of an arena, as a list. -/
import Derived.Test.YtgjgoflkbcmgnaaArenaIter
set_option linter.unusedVariables false
set_option linter.unusedSimpArgs false
namespace Go.Proofs.Ytgjgoflkbcmgnaa
namespace Arn
open Go.RowKit Hp Go.Maps Go.Shelf
attribute [local go_sem] Oper.semAt_some

def gotCells (l : List Got) : List Value := l.flatMap fun x => [.int .u64 x.1.h, .slice (some ⟨x.2.1, 0, none⟩) x.1.ws.length x.2.2]
theorem gotCells_snoc (l : List Got) (x : Got) : gotCells (l ++ [x]) = gotCells l ++ [.int .u64 x.1.h, .slice (some ⟨x.2.1, 0, none⟩) x.1.ws.length x.2.2] := by simp [gotCells]
theorem info_blk : (Try.prog.info? 70).map (fun i => (i.zero, i.size, i.bytes)) = some (some (.agg #[.int .u64 0, .slice none 0 0]), 2, 32) := by kernel_rfl
theorem under_blks : Try.prog.underlying 44 = some (.slice 70) := by kernel_rfl
theorem cell_two_new (w : World) (x y : Value) (t : TypeId) : ∀ j u, [x, y][j]? = some u → (w.alloc (.cells #[x, y] t)).cell? ((⟨w.heap.size, 0, none⟩ : Addr).add j) = some u := by
  intro j u hj
  match j, hj with
  | 0, hj =>
    simp at hj; subst hj
    have hb := World.alloc_heap_new w (.cells #[x, y] t)
    show (w.alloc (.cells #[x, y] t)).cell? ⟨w.heap.size, 0, none⟩ = _
    unfold World.cell?
    rw [hb]; rfl
  | 1, hj =>
    simp at hj; subst hj
    have hb := World.alloc_heap_new w (.cells #[x, y] t)
    show (w.alloc (.cells #[x, y] t)).cell? ⟨w.heap.size, 1, none⟩ = _
    unfold World.cell?
    rw [hb]; rfl

structure BlkAt (w : World) (base Bl Bq : Nat) (most : Int) (L : List Blk) (pre : List Got) (W : World) : Prop where
  box : ∃ v, Boxed W Bl 44 v ∧ W.ownsRow base 70 2 v pre.length (gotCells pre) ∧ True
  q : Boxed W Bq 3 (.int .i64 most)
  rows : ∀ x, x ∈ pre → HasRow W x
  below : Below w.heap.size w W
  come : pre.map Prod.fst = L.take pre.length
  few : pre.length ≤ most.toNat
  big : base ≤ W.heap.size
theorem HasRow.cells {W : World} {x : Got} (h : HasRow W x) : ∃ cur, W.heap[x.2.1]? = some (.cells cur 29 (0, 0)) := by
  rcases h.2 with ⟨e, _⟩ | ⟨g, cap, cur, e, _, hg, _⟩
  · cases e
  · cases e; exact ⟨cur, hg⟩
theorem BlkAt.own (w : World) (base Bl Bq : Nat) (most : Int) (L : List Blk) {B : Nat} (hB : w.heap.size ≤ B) : OwnFrom B (BlkAt w base Bl Bq most L) := fun s X Y row hs hg hr =>
  ⟨holdsRow_own base Bl 44 70 2 (fun s : List Got => s.length) gotCells (fun _ _ => True) s X Y row hs.box hg (fun r e => (hr r e).2),
    boxed_own (β := List Got) Bq 3 (fun _ => .int .i64 most) s X Y row hs.q hg (fun r e => (hr r e).2),
    fun x hx => (hs.rows x hx).turn (Frm.Turn.of_grown hg) (fun hk => by
      simp at hk
      obtain ⟨_, o, ho, hc⟩ := hr _ hk
      obtain ⟨cur, hcur⟩ := (hs.rows x hx).cells
      rw [hcur] at ho; cases ho; cases hc),
    ownFrom_below (β := List Got) (Nat.le_refl _) hB s X Y row hs.below hg hr, hs.come, hs.few, Nat.le_trans hs.big hg.size⟩
theorem ownsRow_base {W : World} {base : Nat} {e : TypeId} {size n : Nat} {v : Value} {xs : List Value} (h : W.ownsRow 0 e size v n xs) (hb : ∀ k, v.ownBlock = some k → base ≤ k) : W.ownsRow base e size v n xs :=
  ⟨h.1, h.2.imp id fun ⟨g, cap, cur, he, _, r⟩ => ⟨g, cap, cur, he, hb g (by rw [he]; rfl), r⟩⟩
theorem ownsRow_zero {W : World} {base : Nat} {e : TypeId} {size n : Nat} {v : Value} {xs : List Value} (h : W.ownsRow base e size v n xs) : W.ownsRow 0 e size v n xs :=
  ⟨h.1, h.2.imp id fun ⟨g, cap, cur, he, _, r⟩ => ⟨g, cap, cur, he, Nat.zero_le _, r⟩⟩
theorem gives_own (L : List Blk) (B : Nat) (pre : List Got) : OwnFrom B (Gives L pre) := fun x X Y row hs hg hr =>
  ⟨hs.1.turn (Frm.Turn.of_grown hg) (fun hk => by
      simp at hk
      obtain ⟨_, o, ho, hc⟩ := hr _ hk
      obtain ⟨cur, hcur⟩ := hs.1.cells
      rw [hcur] at ho; cases ho; cases hc), hs.2⟩
/-- One append. -/
theorem BlkAt.step {w W w1 : World} {base Bl Bq : Nat} {most : Int} {L : List Blk} {pre : List Got} {x : Got} {v v' : Value} {tmp : Obj} (hw : w.heap.size ≤ Bl) (hwb : w.heap.size ≤ base) (hq : Bl ≠ Bq) (h : BlkAt w base Bl Bq most L pre W) (hv : Boxed W Bl 44 v) (hrow : W.ownsRow base 70 2 v pre.length (gotCells pre)) (hg : Gives L pre x W) (hm : pre.length + 1 ≤ most.toNat)
    (hown' : w1.ownsRow base 70 2 v' (pre.length + 1) (gotCells pre ++ [.int .u64 x.1.h, .slice (some ⟨x.2.1, 0, none⟩) x.1.ws.length x.2.2])) (hgrow : (W.alloc tmp).grownBy w1 v.ownBlock) :
    BlkAt w base Bl Bq most L (pre ++ [x]) (w1.setCell ⟨Bl, 0, none⟩ v') ∧ KeepsOthers W (w1.setCell ⟨Bl, 0, none⟩ v') ∧ Frm.Turn (Bl :: v.ownBlock.toList) W (w1.setCell ⟨Bl, 0, none⟩ v') := by
  obtain ⟨_, hv2, hr2, hk2, _⟩ := hv.appended (n₀ := 0) (by decide) (ownsRow_zero hrow) (Nat.zero_le _) (Nat.zero_le _) (ownsRow_zero hown') hgrow
  have T : Frm.Turn (Bl :: v.ownBlock.toList) W (w1.setCell ⟨Bl, 0, none⟩ v') :=
    ((((Frm.Turn.refl [] W).alloc tmp).mono (by simp)).trans ((Frm.Turn.of_grown hgrow).mono (G := Bl :: v.ownBlock.toList) (by simp +contextual)) (fun k hk => Or.inl hk)).setCell (p := ⟨Bl, 0, none⟩) (by simp) _
  have hno : ∀ y : Got, HasRow W y → y.2.1 ∉ Bl :: v.ownBlock.toList := fun y hy hk => by
    obtain ⟨cur, hcur⟩ := hy.cells
    simp at hk
    rcases hk with hk | hk
    · rw [hk, show W.heap[Bl]? = _ from hv] at hcur
      simp at hcur
    · rcases hrow.2 with ⟨rfl, _⟩ | ⟨g, cap, cur', rfl, _, hgb, _⟩
      · simp [Value.ownBlock] at hk
      · simp [Value.ownBlock] at hk
        rw [← hk, hgb] at hcur
        simp at hcur
  have hbase : ∀ k, v.ownBlock = some k → base ≤ k := fun k hk => (hrow.lt k hk).1
  refine ⟨⟨⟨v', hv2, ?_, trivial⟩, ?_, fun y hy => ?_, ?_, ?_, ?_, Nat.le_trans h.big T.size⟩, hk2, T⟩
  · rw [gotCells_snoc]
    have := ownsRow_base hr2 (fun k hk => (hown'.lt k hk).1)
    simpa using this
  · refine T.keep (show _ = _ from h.q) (fun hk => ?_)
    simp at hk
    rcases hk with hk | hk
    · exact hq hk.symm
    · rcases hrow.2 with ⟨rfl, _⟩ | ⟨g, cap, cur', rfl, _, hgb, _⟩
      · simp [Value.ownBlock] at hk
      · simp [Value.ownBlock] at hk
        have hqb := h.q
        unfold Boxed at hqb
        rw [← hk, hgb] at hqb
        simp at hqb
  · rcases List.mem_append.1 hy with hy | hy
    · exact (h.rows y hy).turn T (hno y (h.rows y hy))
    · simp at hy; subst hy
      exact hg.1.turn T (hno y hg.1)
  · refine h.below.trans (T.below h.below.size (fun k hk => ?_))
    simp at hk
    rcases hk with rfl | hk
    · exact hw
    · have := hbase k hk; omega
  · rw [List.map_append, h.come, List.length_append, List.length_singleton, List.take_add_one, hg.2.1]; rfl
  · simpa using hm

set_option maxRecDepth 100000 in
set_option maxHeartbeats 4000000 in
theorem blocks_any {w : World} {b : Nat} {M : Mem} {A : Ar} (h : ArAt w b M A) (most : Int) :
    Calls Try.prog 22 #[.pointer (some ⟨b, 0, none⟩), .int .i64 most] w fun e w' => ∃ v ys, e = .returned v ∧ w'.ownsRow w.heap.size 70 2 v ys.length (gotCells ys) ∧
      ys.map Prod.fst = A.L.take most.toNat ∧ (∀ y, y ∈ ys → HasRow w' y) ∧ Frm.Turn [] w w' := by
  obtain ⟨i0, hi, hz0, hz1, hz2⟩ := info_parts info_blk
  have T2 : Frm.Turn [] w ((w.alloc (.cells #[.int .i64 most] 3)).alloc (.cells #[.slice none 0 0] 44)) := ((Frm.Turn.refl [] w).alloc _).alloc _
  have HAll := Lib.hid (all_any (h.step T2))
  have h64 : ∀ x, x ∈ A.L → W64 x.h ∧ x.ws.length ≤ 2048 := fun x hx => by
    have := h.ok.hnd x hx; have := h.ok.births; have := h.ok.len x hx; unfold W64; omega
  have hlen : A.L.length ≤ 60000 := by
    have h3 := length_le_used (fun x hx => (h.ok.len x hx).1)
    have h4 := h.ok.top
    have h5 := h.ok.peak
    have h6 := h.ok.cap
    omega
  refine callsIn_wide.1 (?_ : CallsIn Fence.wide 6 _ _ _ _ _)
  refine callsIn_of_wp_marks Try.func22 rfl trivial ?_ rfl
  simp only [Try.ntmps22, List.size_toArray, List.length_cons, List.length_nil, Nat.reduceAdd, Nat.reduceSub, Array.replicate_succ, Array.replicate_zero, List.push_toArray, List.append_toArray, List.nil_append, List.cons_append]
  gi_wp2_with (refine ⟨trivial, ?_⟩; gi_at_call 43; refine (callsIn_wide.2 HAll.out).mono ?_; rintro e W0 ⟨Bk, Bm, m, kv, B, rfl, hA, hF, hT⟩)
  have b0 : Boxed W0 w.heap.size 3 (.int .i64 most) := hT.keep (show _ = _ from (Boxed.new w 3 (.int .i64 most)).alloc _) (by simp)
  have b1 : Boxed W0 (w.heap.size + 1) 44 (.slice none 0 0) := hT.keep (by
    have := Boxed.new (w.alloc (.cells #[.int .i64 most] 3)) 44 (.slice none 0 0)
    rw [World.size_alloc] at this
    exact this) (by simp)
  have hTw : Frm.Turn [] w W0 := T2.trans hT (by simp)
  have hs0 := hTw.size
  have hs1 := hT.size
  simp at hs1
  have hF' : ∀ k, k ∈ allFoot Bk Bm m kv B → w.heap.size + 2 ≤ k ∧ k < W0.heap.size := fun k hk => by
    have h1 := hF k hk
    simp at h1
    exact ⟨by omega, hA.lt hk⟩
  have hA0 := Lib.hid hA
  have hB0 : Below w.heap.size w W0 := hTw.below (Nat.le_refl _) (by simp)
  have HO := Lib.hid (BlkAt.own w W0.heap.size (w.heap.size + 1) w.heap.size most A.L hs0)
  refine Told.wp_told (n := 6) (by omega) (gf := 61) (lb := #[.pointer (some ⟨Bk, 0, none⟩), .pointer (some ⟨Bm, 0, none⟩)]) rfl (enters_of Try.func61 (by kernel_rfl) rfl)
    (encs := gotEnc) (Kp := KeepsAll (allFoot Bk Bm m kv B)) (G := Gives A.L) (S := fun xs => xs.map Prod.fst = A.L) (Sp := fun pre => True) (w0 := W0)
    (fun l J Jx W hW hJ _ hY hj0 => (iter1_in 5 (by omega) l Bk Bm m kv B A.L h64 hlen J Jx hY W hJ (hA0.out.turn (Frm.Turn.of_below (F := []) hW) (by simp)) hj0).mono (by rintro e W' ⟨h1, ⟨xs, h2, h3⟩ | ⟨pre, _, h3⟩⟩; exact ⟨h1, .inl ⟨xs, h2, h3⟩⟩; exact ⟨h1, .inr ⟨pre, trivial, h3⟩⟩))
    KeepsAll.trans
    (fun W l o o' hl ho hc hw => ⟨[l], fun k hk hk' => by have := (hF' k hk').2; simp at hk; omega, Frm.Turn.of_grown (grownBy_putObj' W l o')⟩)
    (Below.refl _ _) (fun _ => rfl)
    (BlkAt w W0.heap.size (w.heap.size + 1) w.heap.size most A.L)
    (fun c pre' W => c = .exit 0 ∧ ∃ pre x, pre' = pre ++ [x] ∧ BlkAt w W0.heap.size (w.heap.size + 1) w.heap.size most A.L pre W ∧ most ≤ pre.length)
    HO.out
    (fun c s X Y row hs hg hr => ⟨hs.1, hs.2.elim fun pre h => h.elim fun x h => ⟨pre, x, h.1, HO.out pre X Y row h.2.1 hg hr, h.2.2⟩⟩)
    (fun pre => gives_own A.L _ pre)
    ⟨⟨_, b1, World.ownsRow_nil _ _ _ _, trivial⟩, b0, by simp, hB0, rfl, Nat.zero_le _, Nat.le_refl _⟩
    (fun x => { tmps := #[.pointer (some ⟨b, 0, none⟩), .int .i64 most, undef, .pointer (some ⟨w.heap.size, 0, none⟩), .slice none 0 0, .pointer (some ⟨w.heap.size + 1, 0, none⟩), .int .u64 x.1.h, .slice (some ⟨x.2.1, 0, none⟩) x.1.ws.length x.2.2, .pointer (some ⟨b, 0, none⟩), .func (.func 61) #[] #[.pointer (some ⟨Bk, 0, none⟩), .pointer (some ⟨Bm, 0, none⟩)], .int .u64 x.1.h, .slice (some ⟨x.2.1, 0, none⟩) x.1.ws.length x.2.2, undef, undef, undef, undef, undef, undef, undef, undef, undef, undef, undef], defers := [] }) ?assign ?body ?done ?stop
  case assign =>
    intro l x W K hK
    unfold gotEnc
    gi_wp2
    exact hK
  case body =>
    rintro l pre x W hI hgx
    obtain ⟨v, hv, hrow, _⟩ := hI.box
    obtain ⟨a0, c0, rfl⟩ : ∃ a c, v = .slice a pre.length c := by
      rcases ownsRow_shape hrow with ⟨rfl, e⟩ | ⟨g, cap, rfl, _⟩
      · exact ⟨none, 0, by rw [e]⟩
      · exact ⟨_, _, rfl⟩
    have hc := hv.cell
    have hq := hI.q.cell
    have hsz := hI.big
    have hlen' : pre.length ≤ 60000 := by
      have := congrArg List.length hI.come
      simp at this
      omega
    by_cases hm : most ≤ pre.length
    · have HI := Lib.hid hI
      clear hI hgx hrow hv
      gi_wp2
      exact ⟨KeepsFrom.refl _ _, rfl, pre, x, rfl, HI.out, hm⟩
    · have hm' : ¬ (most : Int) ≤ ((pre.length : Nat) : Int) := hm
      have HI := Lib.hid hI
      have HG := Lib.hid hgx
      have hmt : pre.length + 1 ≤ most.toNat := by omega
      clear hI hgx
      gi_wp2_with (gi_at_builtin; refine wpListIn_append_own _ rfl _ _ 44 rfl W0.heap.size 70 i0 (.agg #[.int .u64 0, .slice none 0 0]) 2 32 under_blks hi hz0 hz1 hz2 rfl (by decide) _ _ _ rfl (hrow.alloc _) ⟨W.heap.size, 0, none⟩ 1 1 [.int .u64 x.1.h, .slice (some ⟨x.2.1, 0, none⟩) x.1.ws.length x.2.2] rfl rfl (cell_two_new _ _ _ _) (by simp [Value.oneCell']) (by unfold maxLen; omega) (by omega) (by simp; omega) ?_; intro v' w1 hown' hgrow _; obtain ⟨g', cap', rfl⟩ := ownsRow_succ hown'; obtain ⟨hB1, hK1, hT1⟩ := BlkAt.step (by omega) (by omega) (by omega) HI.out hv hrow HG.out hmt hown' hgrow; have hv1 := hv.appended (n₀ := 0) (by decide) (ownsRow_zero hrow) (Nat.zero_le _) (Nat.zero_le _) (ownsRow_zero hown') hgrow; have hc1 := hv1.1.cell; have hf1 := hv1.1.frozen; have HB1 := Lib.hid hB1; have HK1 := Lib.hid hK1; have HT1 := Lib.hid hT1; clear hB1 hK1 hT1 hv1)
      refine ⟨HK1.out.from _, ⟨_, fun k hk hk' => ?_, HT1.out⟩, HB1.out⟩
      have h2 := hF' k hk'
      simp [Value.ownBlock] at hk
      rcases hk with rfl | hk
      · omega
      · have := (hrow.lt k (by cases a0 <;> simp_all [Value.ownBlock])).1
        omega
  case done =>
    rintro D ys W hD hS hI hK
    obtain ⟨v, hv, hrow, _⟩ := hI.box
    have hc := hv.cell
    have hI2 := Lib.hid (HO.out.putObj (.deferred none) hI (by omega) hK rfl)
    clear hI
    gi_wp2
    refine ⟨by simp, .inl ⟨_, _, rfl, run_takeDeferred hK, ?_⟩⟩
    refine ⟨_, results_tmp rfl _ _ _, v, ys, rfl, ?_, ?_, hI2.out.rows, Frm.Turn.of_below hI2.out.below⟩
    · exact ownsRow_base (ownsRow_zero (ownsRow_putObj hrow _ hK rfl)) (fun k hk => by have := (hrow.lt k hk).1; omega)
    · have h1 := hI2.out.few
      rw [hS, List.take_of_length_le]
      rw [← hS]; simpa using h1
  case stop =>
    rintro D c pre' W hD _ ⟨rfl, pre, x, rfl, hI, hm⟩ hK
    obtain ⟨v, hv, hrow, _⟩ := hI.box
    have hc := hv.cell
    have hI2 := Lib.hid (HO.out.putObj (.deferred none) hI (by omega) hK rfl)
    clear hI
    gi_wp2
    refine ⟨by simp, .inl ⟨_, _, rfl, run_takeDeferred hK, ?_⟩⟩
    refine ⟨_, results_tmp rfl _ _ _, v, pre, rfl, ?_, ?_, hI2.out.rows, Frm.Turn.of_below hI2.out.below⟩
    · exact ownsRow_base (ownsRow_zero (ownsRow_putObj hrow _ hK rfl)) (fun k hk => by have := (hrow.lt k hk).1; omega)
    · have h1 := hI2.out.few
      rw [hI2.out.come, show pre.length = most.toNat by omega]
end Arn
end Go.Proofs.Ytgjgoflkbcmgnaa
