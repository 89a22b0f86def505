/- An arena is cloned, and laid behind the others: the two appends. -/
/- of, over the document's blocks; how they stand in its arena. -/
import Derived.Test.YtgjgoflkbcmgnaaArenaRound
import Derived.Great.BuildSlice
import Derived.Test.YtgjgoflkbcmgnaaArenaRefAll
import Derived.Test.YtgjgoflkbcmgnaaArenaBox
set_option linter.unusedVariables false
set_option linter.unusedSimpArgs false
namespace Go.Proofs.Ytgjgoflkbcmgnaa
namespace Arn
open Go.RowKit Hp Go.Maps

theorem info_ptr : (Try.prog.info? 25).map (fun i => (i.zero, i.size, i.bytes)) = some (some (.pointer none), 1, 8) := by kernel_rfl
theorem info_ref : (Try.prog.info? 54).map (fun i => (i.zero, i.size, i.bytes)) = some (some (.agg #[.int .i64 0, .int .i64 0, .int .i64 0, .int .i64 0, .int .u64 0, .int .u64 0, .int .u64 0, .int .u64 0, .int .u64 0, .int .u64 0, .int .u64 0, .int .u64 0, .int .u64 0, .slice none 0 0, .int .i64 0, .int .i64 0, .int .i64 0, .int .i64 0, .int .i64 0, .int .i64 0]), 20, 176) := by kernel_rfl
theorem under_all : Try.prog.underlying 51 = some (.slice 25) := by kernel_rfl
theorem under_want : Try.prog.underlying 55 = some (.slice 54) := by kernel_rfl
theorem list20 {α : Type} (l : List α) (h : l.length = 20) : ∃ a0 a1 a2 a3 a4 a5 a6 a7 a8 a9 a10 a11 a12 a13 a14 a15 a16 a17 a18 a19, l = [a0, a1, a2, a3, a4, a5, a6, a7, a8, a9, a10, a11, a12, a13, a14, a15, a16, a17, a18, a19] := by
  match l, h with
  | [a0, a1, a2, a3, a4, a5, a6, a7, a8, a9, a10, a11, a12, a13, a14, a15, a16, a17, a18, a19], _ => exact ⟨a0, a1, a2, a3, a4, a5, a6, a7, a8, a9, a10, a11, a12, a13, a14, a15, a16, a17, a18, a19, rfl⟩
theorem fill_row (CS c0 : Array Value) (h : CS.size = 20) (h0 : c0.size = 20) : Instr.fill (fun i => some (i * 20, 20)) c0 [(0, .agg CS)] = some CS := by
  obtain ⟨l⟩ := CS
  obtain ⟨l0⟩ := c0
  obtain ⟨a0, a1, a2, a3, a4, a5, a6, a7, a8, a9, a10, a11, a12, a13, a14, a15, a16, a17, a18, a19, rfl⟩ := list20 l h
  obtain ⟨b0, b1, b2, b3, b4, b5, b6, b7, b8, b9, b10, b11, b12, b13, b14, b15, b16, b17, b18, b19, rfl⟩ := list20 l0 h0
  kernel_rfl
/-- An append at an operation: to a row of the call's own. -/
theorem wp_append_row {P : Program} {o : Oper} {a : Act} {w : World} {K : Act → World → Prop} {Q : Exit → Act → World → Prop}
    (s x : Operand) (t : TypeId) (hop : o.op = Op.call { callee := Callee.builtin Builtin.append, args := #[s, x], argTypes := #[t, t] })
    (e : TypeId) (i : TypeInfo) (z : Value) (size bytes : Nat) (h1 : P.underlying t = some (.slice e)) (h2 : P.info? e = some i) (h3 : i.zero = some z) (h4 : i.size = size) (h5 : i.bytes = bytes) (h6 : z.cells.size = size) (h7 : 0 < size)
    (g n cap : Nat) (xs : List Value) (hs : a.eval s = .slice (some ⟨g, 0, none⟩) n cap) (hown : w.ownsRow 0 e size (.slice (some ⟨g, 0, none⟩) n cap) n xs)
    (ad : Addr) (m c : Nat) (news : List Value) (hx : a.eval x = .slice (some ad) m c) (hn : news.length = m * size) (hc : ∀ j u, news[j]? = some u → w.cell? (ad.add j) = some u) (h1c : ∀ u ∈ news, u.oneCell' = true)
    (b1 : n + m ≤ maxLen) (b2 : (n + m) * bytes ≤ 140737488355328)
    (hK : ∀ v' w', w'.ownsRow 0 e size v' (n + m) (xs ++ news) → w.grownBy w' (some g) → (v'.ownBlock = some g ∨ v'.ownBlock = some w.heap.size) → K (a.put o.dst v') w') :
    Oper.wp P o a w K Q := by
  obtain ⟨v', w', hrun, r1, r2, _, r3⟩ := run_append_own_at (P := P) w 0 t o.type e i z size bytes h1 h2 h3 h4 h5 h6 h7 (.slice (some ⟨g, 0, none⟩) n cap) n xs hown ad m c news hn hc h1c b1 b2 (Nat.zero_le _)
  unfold Oper.wp
  simp [execOp, hop, resolve, invoke, builtin, hs, hx, hrun, Result.andThen]
  exact hK v' w' r1 (by simpa [Value.ownBlock] using r2) (by simpa [Value.ownBlock] using r3)
theorem news_at {w : World} {b : Nat} {cs : List Value} {t : TypeId} (h : w.heap[b]? = some (.cells cs.toArray t (0, 0))) : ∀ j u, cs[j]? = some u → w.cell? ((⟨b, 0, none⟩ : Addr).add j) = some u := by
  intro j u hu
  rw [Addr.add_mid, Nat.zero_add, Frm.cell_row w b j _ _ _ h]
  simpa using hu
/-- Behind the switch: the round's arena and the document's answer are one again. -/
def SwC (w0 : World) (n i bw : Nat) (s17 s18 : Value) (W : World) : Prop :=
  ∃ (st : List One) (ga ca gw cw : Nat) (x : One) (Bo : Nat) (y : OpV) (R : Ar) (CS : Array Value) (G : List Nat), s17 = .slice (some ⟨ga, 0, none⟩) st.length ca ∧ s18 = .slice (some ⟨gw, 0, none⟩) st.length cw ∧ Rnd w0 W n st ga ca gw cw i x Bo y bw R CS G ∧ R = x.A ∧ ∀ (k : Nat) (z : One), st[k]? = some z → k ≠ i → z.R = z.A
/-- Behind the clone: what the region goes by, wherever it stands. -/
structure Cln (w0 w : World) (n : Nat) (st : List One) (ga ca gw cw i : Nat) (x : One) (Bo : Nat) (y : OpV) (bw : Nat) (R : Ar) (CS : Array Value) (G : List Nat) (nb : Nat) (M' : Mem) (s1 : Nat) (W : World) : Prop where
  rnd : Rnd w0 w n st ga ca gw cw i x Bo y bw R CS G
  turn : Frm.Turn [ga, gw] w W
  at_ : ArAt W nb M' x.A
  new : ∀ k, k ∈ M'.foot nb → w.heap.size ≤ k ∧ k < s1
  up : w.heap.size ≤ s1 ∧ s1 ≤ W.heap.size
variable {w0 w W W' : World} {n : Nat} {st : List One} {ga ca gw cw i : Nat} {x : One} {Bo : Nat} {y : OpV} {bw : Nat} {R : Ar} {CS : Array Value} {G : List Nat} {nb s1 : Nat} {M' : Mem} {va vw : Value}
theorem Cln.step (h : Cln w0 w n st ga ca gw cw i x Bo y bw R CS G nb M' s1 W) (ht : Frm.Turn [] W W') : Cln w0 w n st ga ca gw cw i x Bo y bw R CS G nb M' s1 W' :=
  ⟨h.rnd, h.turn.trans ht (by simp), h.at_.step ht, h.new, h.up.1, Nat.le_trans h.up.2 ht.size⟩
theorem Cln.grow (h : Cln w0 w n st ga ca gw cw i x Bo y bw R CS G nb M' s1 W) {g : Nat} (hg : g = ga ∨ g = gw) (ht : Frm.Turn [g] W W') : Cln w0 w n st ga ca gw cw i x Bo y bw R CS G nb M' s1 W' := by
  obtain ⟨l1, l2⟩ := h.rnd.many.lt
  refine ⟨h.rnd, h.turn.trans ht (fun k hk => .inl (by simp at hk ⊢; omega)), h.at_.turn ht (fun k hk hk' => ?_), h.new, h.up.1, Nat.le_trans h.up.2 ht.size⟩
  have := h.new k hk
  simp at hk'
  omega
theorem cln_start (h : Rnd w0 w n st ga ca gw cw i x Bo y bw R CS G) {e : Ending} {W : World} (hc : NewAr w x.A e W) : ∃ nb M', e = .returned (.pointer (some ⟨nb, 0, none⟩)) ∧ Cln w0 w n st ga ca gw cw i x Bo y bw R CS G nb M' W.heap.size W ∧ Frm.Turn [] w W := by
  obtain ⟨nb, M', he, h1, h2, h3⟩ := hc
  exact ⟨nb, M', he, ⟨h, h3.mono (by simp), h1, fun k hk => ⟨h2 k hk, h1.lt k hk⟩, h3.size, Nat.le_refl _⟩, h3⟩
/-- The same, reckoned from an earlier world. -/
theorem cln_back {wc : World} (ht : Frm.Turn [] wc w) (hr : Rnd w0 wc n st ga ca gw cw i x Bo y bw R CS G) (h : Cln w0 w n st ga ca gw cw i x Bo y bw R CS G nb M' s1 W) : Cln w0 wc n st ga ca gw cw i x Bo y bw R CS G nb M' s1 W :=
  ⟨hr, (ht.mono (by simp)).trans h.turn (fun k hk => .inl hk), h.at_, fun k hk => ⟨Nat.le_trans ht.size (h.new k hk).1, (h.new k hk).2⟩, Nat.le_trans ht.size h.up.1, h.up.2⟩
theorem loc_up {v : Value} {g : Nat} (h : v.ownBlock = some g ∨ v.ownBlock = some W.heap.size) (hs : s1 ≤ W.heap.size) : ∀ k, v.ownBlock = some k → k = g ∨ s1 ≤ k := fun k hk => by
  rcases h with e | e
  · rw [e] at hk; cases hk; exact .inl rfl
  · rw [e] at hk; cases hk; exact .inr hs
theorem types_ne {w : World} {b1 b2 n1 n2 s1 s2 : Nat} {e1 e2 : TypeId} {v1 v2 : Value} {x1 x2 : List Value} (h : w.ownsRow b1 e1 s1 v1 n1 x1) (k : w.ownsRow b2 e2 s2 v2 n2 x2) (hne : e1 ≠ e2) : ∀ q, v1.ownBlock = some q → v2.ownBlock ≠ some q := by
  intro q hq hq2
  rcases h.2 with ⟨rfl, _⟩ | ⟨g, cap, cur, rfl, _, hb, _⟩
  · simp [Value.ownBlock] at hq
  · rcases k.2 with ⟨rfl, _⟩ | ⟨g', cap', cur', rfl, _, hb', _⟩
    · simp [Value.ownBlock] at hq2
    · simp [Value.ownBlock] at hq hq2
      subst hq hq2
      rw [hb] at hb'
      cases hb'
      exact hne rfl
/-- The end: both rows have grown. -/
theorem Cln.done {n' : Nat} (h : Cln w0 w n st ga ca gw cw i x Bo y bw R CS G nb M' s1 W) (hR : R = x.A) (hA : ∀ (j : Nat) (z : One), st[j]? = some z → z.R = z.A) (hfew : st.length < 4) (hn : n ≤ n')
    (ha : W.ownsRow 0 25 1 va (st.length + 1) (st.map One.ptr ++ [.pointer (some ⟨nb, 0, none⟩)])) (hw : W.ownsRow 0 54 20 vw (st.length + 1) (rowOf st ++ CS.toList))
    (hva : ∀ k, va.ownBlock = some k → k = ga ∨ s1 ≤ k) (hvw : ∀ k, vw.ownBlock = some k → k = gw ∨ s1 ≤ k) :
    SwC w0 n' i bw va vw W := by
  have hr := h.rnd
  obtain ⟨l1, l2⟩ := hr.many.lt
  obtain ⟨l3, l4⟩ := hr.lt
  obtain ⟨u1, u2⟩ := h.up
  have hE := hr.many.each i x hr.at_
  have h0 := hr.many.turn.size
  have hsz := h.turn.size
  have hd := hr.dif
  have hi : i < st.length := (List.getElem?_eq_some_iff.1 hr.at_).1
  have hg0 := hr.many.newA
  have hw0 := hr.many.newW
  have hTw : Frm.Turn [] w0 W := hr.many.turn.trans h.turn (fun k hk => .inr (by simp at hk; omega))
  have hs : Sin w0 nb M' x.A n' W := ⟨h.at_, fun k hk => by have := h.new k hk; omega, hTw, hE.sin.low.mono hn, by have := hE.sin.born; omega⟩
  have hrf : RefS W R (.agg CS) G := hr.ref.turn h.turn (fun k hk => by have := hr.far k hk; simp; exact ⟨this.2.2.1, this.2.2.2.1⟩)
  obtain ⟨ga', ca', gw', cw', rfl, rfl, hM⟩ := hr.many.grow (y := ⟨nb, M', x.A, R, CS, G⟩) (m := n') hfew hn h.turn ha hw (fun k hk => (hva k hk).imp id (fun e => by omega)) (fun k hk => (hvw k hk).imp id (fun e => by omega)) (types_ne ha hw (by decide)) hs hrf
    (fun k hk => by
      have h1 := h.new k hk
      exact ⟨h1.1, fun e => by rcases hva k e with e' | e' <;> omega, fun e => by rcases hvw k e with e' | e' <;> omega⟩) hr.far
  have ba := hva ga' rfl
  have bb := hvw gw' rfl
  have get : ∀ (j : Nat) (z : One), (st ++ [(⟨nb, M', x.A, R, CS, G⟩ : One)])[j]? = some z → st[j]? = some z ∨ z = ⟨nb, M', x.A, R, CS, G⟩ := fun j z hz => by
    rw [List.getElem?_append] at hz
    split at hz
    · exact .inl hz
    · right
      cases hj : j - st.length with
      | zero => rw [hj] at hz; simpa using hz.symm
      | succ q => rw [hj] at hz; simp at hz
  refine ⟨_, ga', ca', gw', cw', x, Bo, y, R, CS, G, by simp, by simp, ⟨hM, by rw [List.getElem?_append_left hi]; exact hr.at_, hr.op.turn h.turn (by simp; omega), h.turn.keep hr.own (by simp; omega), hrf, hr.new, ⟨by omega, by omega, by omega, by omega, hd.2.2.2.2⟩, fun j z hz => ?_, hr.offG, fun k hk => ?_⟩, hR, fun k z hz hk => ?_⟩
  · rcases get j z hz with hz | rfl
    · exact hr.off j z hz
    · exact ⟨⟨fun hk => by have := h.new Bo hk; omega, fun hk => by have := h.new bw hk; omega⟩, hr.offG.1, hr.offG.2⟩
  · have hf := hr.far k hk
    refine ⟨hf.1, by omega, by omega, by omega, fun j z hz hk' => ?_⟩
    rcases get j z hz with hz | rfl
    · exact hf.2.2.2.2 j z hz hk'
    · have := h.new k hk'; omega
  · rcases get k z hz with hz | rfl
    · exact hA k z hz
    · exact hR
end Arn
end Go.Proofs.Ytgjgoflkbcmgnaa

set_option linter.unusedVariables false
set_option linter.unusedSimpArgs false
namespace Go.Proofs.Ytgjgoflkbcmgnaa
namespace Arn
open Go.RowKit Hp Go.Maps

theorem cell_block_lt' {w : World} {a : Addr} {v : Value} (h : w.cell? a = some v) : a.block < w.heap.size := by
  unfold World.cell? at h
  cases hh : w.heap[a.block]? with
  | none => simp [hh] at h
  | some o => exact (Array.getElem?_eq_some_iff.1 hh).1
def OpV.ofR (x : OpV) (l : List RB) : OpV := if 0 < x.o ∧ x.o ≤ (l.length : Int) then { x with h := (l.map (·.1.h)).getD (x.o - 1).toNat 0, xb := (l.map (·.1.h)).getD (x.o - 1).toNat 0 } else x
set_option maxHeartbeats 4000000 in
theorem ofR_any (x : OpV) (hx : x.Ok) (v : Value) (ys : List RB) (w : World) (hr : BlksAt w v ys) (hys : ys.length ≤ 60000) :
    Calls Try.prog 26 #[x.val, v] w fun e w' => e = .returned (x.ofR ys).val ∧ Frm.Turn [] w w' := by
  obtain ⟨vo, vc, rfl⟩ := hr.form
  by_cases h0 : 0 < x.o
  · by_cases h1 : x.o ≤ (ys.length : Int)
    · obtain ⟨i, hi⟩ : ∃ i : Nat, x.o = (i : Int) + 1 := ⟨(x.o - 1).toNat, by omega⟩
      have hil : i < ys.length := by omega
      obtain ⟨y, hy⟩ : ∃ y, ys[i]? = some y := ⟨_, List.getElem?_eq_getElem hil⟩
      have e1 : x.ofR ys = { x with h := y.1.h, xb := y.1.h } := by
        unfold OpV.ofR
        rw [if_pos ⟨h0, h1⟩, hi]
        simp [hy]
      rw [e1]
      rcases hr.head with ⟨_, e⟩ | ⟨g, cap, e, _, _, hcells⟩
      · subst e; simp at hil
      · cases e
        have hcg : w.cell? ⟨g, i * 2, none⟩ = some (.int .u64 y.1.h) := hcells _ _ (rbCells_get ys i y hy).1
        have hcg2 : ∀ o1 o2, ((w.alloc o1).alloc o2).cell? ⟨g, i * 2, none⟩ = some (.int .u64 y.1.h) := fun o1 o2 => (((Frm.Turn.refl [] w).alloc o1).alloc o2).cell hcg (by simp)
        have hgl : g < w.heap.size := cell_block_lt' hcg
        have hg0 : g ≠ w.heap.size := by omega
        have hg1 : w.heap.size ≠ g := by omega
        obtain ⟨k, a, o, ao, wn, wc, h, xb, xa, n, m⟩ := x
        simp only at hi h0 h1
        subst hi
        clear hx e1 hr hy
        have hw1 : wrap64 (i : Int) = (i : Int) := wrap64_small (by omega)
        have hi0 : (0 : Int) ≤ (i : Int) := by omega
        have hi1 : (i : Int) < (ys.length : Int) := by omega
        show Calls _ _ #[.agg #[.int .i64 k, .int .i64 a, .int .i64 ((i : Int) + 1), .slice ao wn wc, .int .u64 h, .int .u64 xb, .int .i64 xa, .int .u64 n, .int .u64 m], _] _ _
        go_enter Try.func26, Try.ntmps26
        go_wp2
        go_region
        all_goals go_wp2
        all_goals exact bodyPost_ret (v := OpV.val ⟨k, a, (i : Int) + 1, ao, wn, wc, y.1.h, y.1.h, xa, n, m⟩) (by simp [results, Try.results26, go_sem, OpV.val]) rfl ⟨rfl, (((Frm.Turn.refl [] w).drew).alloc _).alloc _⟩
    · have e1 : x.ofR ys = x := by unfold OpV.ofR; rw [if_neg (by omega)]
      rw [e1]
      show Calls _ _ #[.agg #[.int .i64 x.k, .int .i64 x.a, .int .i64 x.o, .slice x.ao x.wn x.wc, .int .u64 x.h, .int .u64 x.xb, .int .i64 x.xa, .int .u64 x.n, .int .u64 x.m], _] _ _
      go_enter Try.func26, Try.ntmps26
      go_wp2
      exact bodyPost_ret (v := x.val) (by simp [results, Try.results26, go_sem, OpV.val]) rfl ⟨rfl, ((Frm.Turn.refl [] w).alloc _).alloc _⟩
  · have e1 : x.ofR ys = x := by unfold OpV.ofR; rw [if_neg (by omega)]
    rw [e1]
    show Calls _ _ #[.agg #[.int .i64 x.k, .int .i64 x.a, .int .i64 x.o, .slice x.ao x.wn x.wc, .int .u64 x.h, .int .u64 x.xb, .int .i64 x.xa, .int .u64 x.n, .int .u64 x.m], _] _ _
    go_enter Try.func26, Try.ntmps26
    go_wp2
    exact bodyPost_ret (v := x.val) (by simp [results, Try.results26, go_sem, OpV.val]) rfl ⟨rfl, ((Frm.Turn.refl [] w).alloc _).alloc _⟩
theorem same4_ofR {x : OpV} (hx : x.Ok) (l : List RB) (hl : ∀ y, y ∈ l → W64 y.1.h) : Same4 x (x.ofR l) := by
  unfold OpV.ofR
  split
  · rename_i hc
    have hw : W64 ((l.map (·.1.h)).getD (x.o - 1).toNat 0) := by
      rw [List.getD_eq_getElem?_getD]
      cases hq : (l.map (·.1.h))[(x.o - 1).toNat]? with
      | none => unfold W64; simp
      | some z =>
        rw [List.getElem?_map] at hq
        obtain ⟨y, hy, rfl⟩ := Option.map_eq_some_iff.1 hq
        exact hl y (List.mem_of_getElem? hy)
    exact ⟨rfl, rfl, rfl, rfl, rfl, rfl, ⟨hx.k, hx.a, hx.o, hw, hw, hx.xa, hx.n, hx.m⟩⟩
  · exact ⟨rfl, rfl, rfl, rfl, rfl, rfl, hx⟩
/-- The document's blocks, in its arena's cells. -/
theorem RefS.blocks {w : World} {R : Ar} {CS : Array Value} {G : List Nat} (h : RefS w R (.agg CS) G) : ∃ v l, CS[13]? = some v ∧ BlksAt w v l ∧ l.map Prod.fst = R.L := by
  obtain ⟨f0, f1, f2, f3, f4, f5, f6, f7, f8, _, v, l, e, h1, h2, _⟩ := h
  simp only [Value.agg.injEq] at e
  subst e
  exact ⟨v, l, rfl, h2, h1⟩
theorem ofR_flat (x : OpV) (hx : x.Ok) (ao : Option Addr) (c : Nat) (l : List RB) (w : World) (hr : BlksAt w (.slice ao l.length c) l) (hys : l.length ≤ 60000) (h64 : ∀ y, y ∈ l → W64 y.1.h) :
    Calls Try.prog 26 #[.agg #[.int .i64 x.k, .int .i64 x.a, .int .i64 x.o, .slice x.ao x.wn x.wc, .int .u64 x.h, .int .u64 x.xb, .int .i64 x.xa, .int .u64 x.n, .int .u64 x.m], .slice ao l.length c] w fun e w' =>
      ∃ y : OpV, Same4 x y ∧ e = .returned (.agg #[.int .i64 y.k, .int .i64 y.a, .int .i64 y.o, .slice y.ao y.wn y.wc, .int .u64 y.h, .int .u64 y.xb, .int .i64 y.xa, .int .u64 y.n, .int .u64 y.m]) ∧ Frm.Turn [] w w' :=
  (ofR_any x hx _ l w hr hys).mono fun e w' ⟨he, hT⟩ => ⟨x.ofR l, same4_ofR hx l h64, he, hT⟩
end Arn
end Go.Proofs.Ytgjgoflkbcmgnaa
