/- The pairs of a table, rising. -/
import Derived.Test.YtmodanjblbaedaaDoorModelKeys
import Derived.LoopTactic
set_option linter.unusedVariables false
set_option linter.unusedSimpArgs false
namespace Go.Proofs.YtmodanjblbaedaaDoor
namespace Mdl
open Go.RowKit Go.Maps Go.Shelf Go.Lib Go.Sort

theorem under_pairs : Tryd.prog.underlying 49 = some (.slice 82) := by kernel_rfl
theorem info_pair : (Tryd.prog.info? 82).map (fun i => (i.zero, i.size, i.bytes)) = some (some (.agg #[.int .i64 0, .int .i64 0]), 2, 16) := by kernel_rfl
/-- The cells of pairs. -/
def pcs (f : Tb) (l : List Int) : List Value := l.flatMap (fun k => [.int .i64 k, .int .i64 ((f k).getD 0)])
theorem pcs_snoc (f : Tb) (l : List Int) (x : Int) : pcs f (l ++ [x]) = pcs f l ++ [.int .i64 x, .int .i64 ((f x).getD 0)] := by simp [pcs]
theorem pcs_len (f : Tb) (l : List Int) : (pcs f l).length = 2 * l.length := by
  induction l with
  | nil => rfl
  | cons a r ih =>
    have : pcs f (a :: r) = [.int .i64 a, .int .i64 ((f a).getD 0)] ++ pcs f r := rfl
    rw [this, List.length_append, ih]; simp; omega
theorem pcs_one (f : Tb) (l : List Int) : ∀ u ∈ pcs f l, u.oneCell' = true := by
  intro u hu
  unfold pcs at hu
  rw [List.mem_flatMap] at hu
  obtain ⟨k, _, hk⟩ := hu
  simp at hk
  rcases hk with rfl | rfl <;> rfl
theorem take_more {l : List Int} {k : Nat} (h : k < l.length) : l.take (k + 1) = l.take k ++ [l.getD k 0] := by
  rw [List.take_succ_eq_append_getElem h]
  simp [List.getD, h]
theorem wpList_look1 (w : World) {ops : Array Oper} {rest : List Oper} {o : Oper} {a : Act} {Q : Exit → Act → World → Prop} (hg : o.guard = none) (m x : Operand) (hop : o.op = Op.lookup 57 m x false) {p : Option Nat} {f : Tb} {k : Int} (h : TAt w p f) (hk : I64 k) (hm : a.eval m = .map p) (hx : a.eval x = .int .i64 k)
    (hK : wpList Tryd.prog ops Q rest (a.put o.dst (.int .i64 ((f k).getD 0))) w) : wpList Tryd.prog ops Q (o :: rest) a w := by
  refine wpList_plain hg fun K' hK' => ?_
  unfold Oper.wp
  simp [execOp, hop, hm, hx, h.look1 hk, Result.andThen]
  exact hK' _ _ hK
theorem row_cell {w : World} {base g n cap j : Nat} {xs : List Int} (h : w.ownsRow base 3 1 (.slice (some ⟨g, 0, none⟩) n cap) n (xs.map (Value.int .i64))) (hj : j < xs.length) : w.cell? ⟨g, j, none⟩ = some (.int .i64 (xs.getD j 0)) := by
  have hl : xs.length = n := by have := h.1; simpa using this
  rw [h.cellAt j (by omega)]
  simp [List.getD, hj]
theorem news2 (wr : World) (x y : Value) (t : TypeId) : ∀ (j : Nat) (u : Value), [x, y][j]? = some u → (wr.alloc (.cells #[x, y] t)).cell? ((⟨wr.heap.size, 0, none⟩ : Addr).add j) = some u := by
  intro j u hj
  rw [Addr.add_lit, Nat.zero_add, World.cell?_alloc_at _ _ _ _ rfl]
  simpa using hj
theorem own_mono {w : World} {base base' : Nat} {e : TypeId} {size : Nat} {v : Value} {n : Nat} {xs : List Value} (h : w.ownsRow base e size v n xs) (hb : base' ≤ base) : w.ownsRow base' e size v n xs :=
  ⟨h.1, h.2.imp id fun ⟨g, cap, cur, h1, h2, h3⟩ => ⟨g, cap, cur, h1, Nat.le_trans hb h2, h3⟩⟩
/-- What a table's pairs are handed back as. -/
def PairsEnd (w : World) (f : Tb) (e : Ending) (w' : World) : Prop := ∃ v, e = .returned v ∧ w'.ownsRow w.heap.size 82 2 v (keys f).length (pcs f (keys f)) ∧ Frm.Turn [] w w'
theorem turn_row {w wr w1 : World} (hT : Frm.Turn [] w wr) {row : Option Nat} (hg : wr.grownBy w1 row) (hr : ∀ k, row = some k → w.heap.size ≤ k) : Frm.Turn [] w w1 :=
  hT.trans (Frm.Turn.of_grown hg) (fun k hk => by simp at hk; exact Or.inr (hr k hk))

set_option maxRecDepth 10000 in
set_option maxHeartbeats 2000000 in
theorem pairs_any {w : World} {p : Option Nat} {f : Tb} (h : TAt w p f) :
    Calls Tryd.prog 38 #[.map p] w (PairsEnd w f) := by
  obtain ⟨i0, hi, hz0, hz1, hz2⟩ := info_parts info_pair
  have H := Lib.hid (fun W (hT : Frm.Turn [] w W) => h.step hT)
  have HB : Hid ((w.alloc (.cells #[.map p] 57)).cell? ⟨w.heap.size, 0, none⟩ = some (.map p)) := Lib.hid (World.cell?_alloc_at _ _ _ _ rfl)
  have HT0 := Lib.hid ((Frm.Turn.refl [] w).alloc (.cells #[.map p] 57))
  have HSo := Lib.hid (sorted_any (H.out _ HT0.out) (by simp) HB.out)
  have hkl : (keys f).length ≤ 256 := by rw [keys_len]; exact cnt_le f
  have HD : Hid (∀ j, j < (keys f).length → 0 ≤ (keys f).getD j 0 ∧ (keys f).getD j 0 ≤ 255) := Lib.hid (fun j hj => by
    have hm : (keys f).getD j 0 ∈ keys f := by simp [List.getD, hj]
    obtain ⟨v, hv⟩ := Option.isSome_iff_exists.1 ((keys_mem h.ok _).1 hm)
    have := h.ok.dom _ v hv
    exact ⟨this.1, this.2.1⟩)
  obtain ⟨ks, hks⟩ : ∃ ks, ks = keys f := ⟨_, rfl⟩
  unfold PairsEnd
  rw [← hks] at HSo hkl HD ⊢
  clear hks h
  go_enter Tryd.func38, Tryd.ntmps38
  go_wp2_with (first
    | (go_at_call 53; (with_reducible refine (keysFn_any _ _).mono ?_); rintro e w1 ⟨rfl, rfl⟩)
    | (go_at_call 52; (with_reducible refine (HSo.out).mono ?_); rintro e wS ⟨v, rfl, hr, hB⟩; obtain ⟨ao, cc, rfl⟩ := Frm.row_form hr; have HR := Lib.hid hr; have HTS : Hid (Frm.Turn [] w wS) := Lib.hid (HT0.out.trans (Frm.Turn.of_below (F := []) hB) (by simp)); clear hr hB))
  go_loopw [3, 5, 10] (fun v _ i wr => ∃ k : Nat, k ≤ ks.length ∧ i = .int .i64 k ∧ wr.ownsRow wS.heap.size 82 2 v k (pcs f (ks.take k)) ∧ Frm.Turn [] wS wr) (fun _ _ i _ => ks.length - (intOf i).toNat)
  case atStart => exact ⟨0, Nat.zero_le _, rfl, World.ownsRow_nil _ _ _ _, Frm.Turn.refl _ _⟩
  case round =>
    obtain ⟨k, hk, rfl, hrow, hTr⟩ := hrel
    obtain ⟨vo, vc, rfl⟩ := Frm.row_form hrow
    have HRow := Lib.hid hrow
    have HTr := Lib.hid hTr
    clear hrow hTr
    by_cases hlt : k < ks.length
    · rcases row_shape HR.out with ⟨e, h0⟩ | ⟨g, cap, e, _, hgl⟩
      · omega
      · cases e
        have hcell : wr.cell? ⟨g, k, none⟩ = some (.int .i64 (ks.getD k 0)) := HTr.out.cell (row_cell HR.out hlt) (by simp)
        obtain ⟨x0, x1⟩ := HD.out k hlt
        have HT2 := Lib.hid (fun o => (HTS.out.trans HTr.out (by simp)).alloc o)
        have HTk := Lib.hid (take_more hlt)
        obtain ⟨x, hx⟩ : ∃ x, x = ks.getD k 0 := ⟨_, rfl⟩
        rw [← hx] at hcell x0 x1 HTk
        clear hx
        have HK := Lib.hid (show I64 x by omega)
        obtain ⟨y, hy⟩ : ∃ y, y = (f x).getD 0 := ⟨_, rfl⟩
        have HY := Lib.hid hy
        clear hy
        go_wp2_with (first
          | (at_lookup; refine wpList_look1 _ rfl _ _ rfl (H.out _ (HTS.out.trans HTr.out (by simp))) HK.out rfl rfl ?_; rw [← HY.out])
          | (at_builtin; refine wpList_append_own _ rfl _ _ 49 rfl wS.heap.size 82 i0 (.agg #[.int .i64 0, .int .i64 0]) 2 16 under_pairs hi hz0 hz1 hz2 rfl (by decide) _ _ _ rfl (HRow.out.alloc _) ⟨wr.heap.size, 0, none⟩ 1 1 [.int .i64 x, .int .i64 y] rfl rfl (news2 _ _ _ _) (by simp [Value.oneCell']) (by unfold maxLen; omega) (by omega) (by have := HTr.out.size; simp; omega) ?_; intro v' w1 ho hg _; have HO := Lib.hid ho; have HG := Lib.hid hg; clear ho hg))
        go_roundw
        case rel =>
          refine ⟨k + 1, by omega, by go_num, ?_, turn_row (HTr.out.alloc _) HG.out (fun j hj => (HRow.out.lt j hj).1)⟩
          rw [HTk.out, pcs_snoc, ← HY.out]
          exact HO.out
        case measure => simp [intOf]; omega
    · obtain rfl : k = ks.length := by omega
      go_wp2
      go_ret
      have h1 := HRow.out
      rw [List.take_length] at h1
      exact ⟨_, rfl, own_mono h1 HTS.out.size, HTS.out.trans HTr.out (by simp)⟩
end Mdl
end Go.Proofs.YtmodanjblbaedaaDoor
