/- A row of operations, one behind another: Run. -/
import Derived.Test.YtmodanjblbaedaaDoorModelSame
import Derived.Maps.AppendAt
set_option linter.unusedVariables false
set_option linter.unusedSimpArgs false
namespace Go.Proofs.YtmodanjblbaedaaDoor
namespace Mdl
open Go.RowKit Go.Maps Go.Shelf Go.Lib Go.Sort

theorem under_resps : Tryd.prog.underlying 54 = some (.slice 40) := by kernel_rfl
theorem info_resp : (Tryd.prog.info? 40).map (fun i => (i.zero, i.size, i.bytes)) = some (some (.agg #[.int .i64 0, .int .i64 0]), 2, 16) := by kernel_rfl
/-- An operation, as numbers. -/
structure Opn where
  c : Int
  k : Int
  a : Int
  b : Int
def Opn.v (o : Opn) : Value := .agg #[.int .i64 o.c, .int .i64 o.k, .int .i64 o.a, .int .i64 o.b]
def Opn.cells (o : Opn) : List Value := [.int .i64 o.c, .int .i64 o.k, .int .i64 o.a, .int .i64 o.b]
def ocs (l : List Opn) : List Value := l.flatMap Opn.cells
theorem ocs_at : ∀ (l : List Opn) (k : Nat) (o : Opn) (j : Nat), l[k]? = some o → j < 4 → (ocs l)[k * 4 + j]? = o.cells[j]?
  | [], k, o, j, h, _ => by simp at h
  | x :: r, 0, o, j, h, hj => by
    simp at h; subst h
    show (x.cells ++ ocs r)[0 * 4 + j]? = _
    rw [Nat.zero_mul, Nat.zero_add, List.getElem?_append_left (by simpa [Opn.cells] using hj)]
  | x :: r, k + 1, o, j, h, hj => by
    simp at h
    show (x.cells ++ ocs r)[(k + 1) * 4 + j]? = _
    rw [List.getElem?_append_right (by simp [Opn.cells]; omega)]
    have e : (k + 1) * 4 + j - x.cells.length = k * 4 + j := by simp [Opn.cells]; omega
    rw [e]; exact ocs_at r k o j h hj
def rcs (l : List Rs) : List Value := l.flatMap (fun r => [.int .i64 r.1, .int .i64 r.2])
theorem rcs_snoc (l : List Rs) (r : Rs) : rcs (l ++ [r]) = rcs l ++ [.int .i64 r.1, .int .i64 r.2] := by simp [rcs]
/-- One behind another. -/
def stepM (z : Mo × List Rs) (o : Opn) : Mo × List Rs := ((appOp z.1 o.c o.k o.a o.b).1, z.2 ++ [(appOp z.1 o.c o.k o.a o.b).2])
def runL (m : Mo) (l : List Opn) : Mo × List Rs := l.foldl stepM (m, [])
theorem runL_more {m : Mo} {l : List Opn} {k : Nat} {o : Opn} (h : l[k]? = some o) : runL m (l.take (k + 1)) = stepM (runL m (l.take k)) o := by
  obtain ⟨hk, e⟩ := List.getElem?_eq_some_iff.1 h
  unfold runL
  rw [List.take_succ_eq_append_getElem hk, List.foldl_append, e]
  rfl

/-- Ahead of a round of Run. -/
structure RunAt (w : World) (b : Nat) (F : List Nat) (m : Mo) (l : List Opn) (k : Nat) (v : Value) (wr : World) : Prop where
  le : k ≤ l.length
  turn : Frm.Turn F w wr
  at_ : ∃ F', MAt wr b (runL m (l.take k)).1 F' ∧ (∀ j, j ∈ F' → j ∈ F ∨ w.heap.size ≤ j) ∧ ∀ j, v.ownBlock = some j → j ∉ F'
  row : wr.ownsRow w.heap.size 40 2 v k (rcs (runL m (l.take k)).2)
def RunEnd (w : World) (b : Nat) (F : List Nat) (m : Mo) (l : List Opn) (e : Ending) (w' : World) : Prop := ∃ v F', e = .returned v ∧ MAt w' b (runL m l).1 F' ∧ (∀ j, j ∈ F' → j ∈ F ∨ w.heap.size ≤ j) ∧ w'.ownsRow w.heap.size 40 2 v l.length (rcs (runL m l).2) ∧ Frm.Turn F w w'
theorem run_start {w : World} {b : Nat} {F : List Nat} {m : Mo} (h : MAt w b m F) (l : List Opn) : RunAt w b F m l 0 (.slice none 0 0) w :=
  ⟨Nat.zero_le _, Frm.Turn.refl _ _, ⟨F, h, fun j hj => Or.inl hj, by simp [Value.ownBlock]⟩, World.ownsRow_nil _ _ _ _⟩
/-- Behind an operation and its response's being put to the others. -/
theorem run_step {w wr wa w1 w2 : World} {b : Nat} {F F' F2 : List Nat} {m : Mo} {l : List Opn} {k : Nat} {v v' : Value} {o : Opn} (ho : l[k]? = some o) (h : RunAt w b F m l k v wr) (hM : MAt wr b (runL m (l.take k)).1 F') (hN : ∀ j, j ∈ F' → j ∈ F ∨ w.heap.size ≤ j) (hv : ∀ j, v.ownBlock = some j → j ∉ F')
    {mm : Mo} {x y : Int} (hz : (mm, (x, y)) = appOp (runL m (l.take k)).1 o.c o.k o.a o.b) (hTa : Frm.Turn [] wr wa) (hM1 : MAt w1 b mm F2) (hT1 : Frm.Turn F' wa w1) (hN1 : ∀ j, j ∈ F2 → j ∈ F' ∨ wa.heap.size ≤ j)
    (hrow : w2.ownsRow w.heap.size 40 2 v' (k + 1) (rcs (runL m (l.take k)).2 ++ [.int .i64 x, .int .i64 y])) (obj : Obj) (hg : (w1.alloc obj).grownBy w2 v.ownBlock) (hn : v'.ownBlock = v.ownBlock ∨ v'.ownBlock = some (w1.alloc obj).heap.size) :
    RunAt w b F m l (k + 1) v' w2 := by
  have hk := (List.getElem?_eq_some_iff.1 ho).1
  have s1 := h.turn.size
  have s2 := hTa.size
  have s3 := hT1.size
  have vl : ∀ j, v.ownBlock = some j → w.heap.size ≤ j ∧ j < wr.heap.size := fun j hj => h.row.lt j hj
  have e1 := runL_more (m := m) ho
  unfold stepM at e1
  rw [← hz] at e1
  have T2 : Frm.Turn v.ownBlock.toList w1 w2 := ((Frm.Turn.refl _ w1).alloc obj).trans (Frm.Turn.of_grown hg) (fun k hk => Or.inl hk)
  have hv2 : ∀ j, v.ownBlock = some j → j ∉ F2 := fun j hj hm => by
    rcases hN1 j hm with h1 | h1
    · exact hv j hj h1
    · have := (vl j hj).2; omega
  refine ⟨hk, ?_, ⟨F2, ?_, fun j hj => ?_, fun j hj hm => ?_⟩, ?_⟩
  · refine ((h.turn.trans hTa (by simp)).trans hT1 (fun j hj => ?_)).trans T2 (fun j hj => Or.inr ?_)
    · exact hN j hj
    · exact (vl j (by simpa using hj)).1
  · rw [e1]
    exact hM1.turn T2 (fun j hj hm => hv2 j (by simpa using hm) hj)
  · rcases hN1 j hj with h1 | h1
    · exact hN j h1
    · right; omega
  · have hl := hM1.lt j hm
    rcases hn with e | e
    · rw [e] at hj; exact hv2 j hj hm
    · rw [e] at hj; cases hj; simp at hl; omega
  · rw [e1]
    show w2.ownsRow _ _ _ _ _ (rcs ((runL m (l.take k)).2 ++ [(x, y)]))
    rw [rcs_snoc]
    exact hrow
theorem own_turn2 {w w' : World} {base : Nat} {e : TypeId} {size n : Nat} {v : Value} {xs : List Value} {F : List Nat} (h : w.ownsRow base e size v n xs) (ht : Frm.Turn F w w') (hn : ∀ k, v.ownBlock = some k → k ∉ F) : w'.ownsRow base e size v n xs := by
  refine ⟨h.1, h.2.imp id fun ⟨g, cap, cur, h1, h2, h3, h4⟩ => ⟨g, cap, cur, h1, h2, ht.keep h3 (hn g (by rw [h1]; rfl)), h4⟩⟩

set_option maxRecDepth 10000 in
set_option maxHeartbeats 4000000 in
theorem run_any {w0 w : World} {b g : Nat} {m : Mo} {F : List Nat} (hK : Ops.Kn w0) (h0 : Frm.Turn [] w0 w) (hF : ∀ k, k ∈ F → w0.heap.size ≤ k) (h : MAt w b m F) (l : List Opn) (hg : w.heap[g]? = some (.cells (ocs l).toArray 35 (0, 0))) (hgF : g ∉ F) (hl : l.length ≤ 1000) :
    Calls Tryd.prog 21 #[.pointer (some ⟨b, 0, none⟩), .slice (some ⟨g, 0, none⟩) l.length l.length] w (RunEnd w b F m l) := by
  obtain ⟨i0, hi, hz0, hz1, hz2⟩ := info_parts info_resp
  have HK := Lib.hid hK
  have H0 := Lib.hid h0
  have HF := Lib.hid hF
  have HG := Lib.hid hg
  have HGF := Lib.hid hgF
  have HST := Lib.hid (run_start h l)
  have hgl : g < w.heap.size := (Array.getElem?_eq_some_iff.1 hg).1
  clear hK h0 hF hg hgF h
  go_enter Tryd.func21, Tryd.ntmps21
  go_wp2
  go_loopw [5, 7, 10] (fun v _ i wr => ∃ k : Nat, i = .int .i64 k ∧ RunAt w b F m l k v wr) (fun _ _ i _ => l.length - (intOf i).toNat)
  case atStart => exact ⟨0, rfl, HST.out⟩
  case round =>
    obtain ⟨k, rfl, hR⟩ := hrel
    have hk := hR.le
    obtain ⟨vo, vc, rfl⟩ := Frm.row_form hR.row
    have HR := Lib.hid hR
    clear hR
    by_cases hlt : k < l.length
    · obtain ⟨F', hM, hN, hv⟩ := HR.out.at_
      obtain ⟨o, ho⟩ : ∃ o, l[k]? = some o := ⟨_, List.getElem?_eq_getElem hlt⟩
      have hgF' : g ∉ F' := fun hm => by
        rcases hN g hm with h1 | h1
        · exact HGF.out h1
        · omega
      have hbk := HR.out.turn.keep HG.out HGF.out
      have cc : ∀ j v, j < 4 → o.cells[j]? = some v → wr.cell? ⟨g, k * 4 + j, none⟩ = some v := fun j v hj hv => by
        rw [Frm.cell_row wr g _ _ _ _ hbk]
        simp only [List.getElem?_toArray]
        rw [ocs_at l k o j ho hj]; exact hv
      have d0 := cc 0 _ (by omega) rfl
      have d1 := cc 1 _ (by omega) rfl
      have d2 := cc 2 _ (by omega) rfl
      have d3 := cc 3 _ (by omega) rfl
      rw [Nat.add_zero] at d0
      clear cc
      have HKr : Hid (Ops.Kn wr) := Lib.hid (HK.out.turn (H0.out.trans HR.out.turn (fun j hj => Or.inr (HF.out j hj))))
      have hgr : g < wr.heap.size := (Array.getElem?_eq_some_iff.1 hbk).1
      have HO := Lib.hid ho
      have HM := Lib.hid hM
      have HN := Lib.hid hN
      have HV := Lib.hid hv
      obtain ⟨z, hz⟩ : ∃ z, z = appOp (runL m (l.take k)).1 o.c o.k o.a o.b := ⟨_, rfl⟩
      have HAp : Hid (∀ W, Frm.Turn [] wr W → Calls Tryd.prog 11 #[.pointer (some ⟨b, 0, none⟩), .agg #[.int .i64 o.c, .int .i64 o.k, .int .i64 o.a, .int .i64 o.b]] W (MEnd W b F' z)) := Lib.hid (fun W hT => by rw [hz]; exact apply_any (HM.out.step hT) (HKr.out.turn hT) _ _ _ _)
      have HZ := Lib.hid hz
      clear hz
      obtain ⟨mm, x, y⟩ := z
      have HROW := Lib.hid (fun W F2 (hT : Frm.Turn F2 wr W) (hn : ∀ j, (Value.slice vo k vc).ownBlock = some j → j ∉ F2) => own_turn2 HR.out.row hT hn)
      obtain ⟨oc, ok, oa, ob⟩ := o
      simp only at d0 d1 d2 d3
      have HT := Lib.hid (fun o => (Frm.Turn.refl [] wr).alloc o)
      clear ho hM hN hv hgF' hbk
      go_wp2_with (first
        | (go_at_call 11; (with_reducible refine (HAp.out _ (HT.out _)).mono ?_); rintro e w1 ⟨rfl, F2, hM1, hT1, hN1⟩; have HM1 := Lib.hid hM1; have HT1 := Lib.hid hT1; have HN1 := Lib.hid hN1; have HS1 : Hid (w.heap.size ≤ w1.heap.size) := Lib.hid (Nat.le_trans HR.out.turn.size (Nat.le_trans (HT.out _).size hT1.size)); have HRo := Lib.hid ((HROW.out _ _ (((HT.out _).mono (by simp)).trans hT1 (fun j hj => Or.inl hj)) HV.out).alloc (.cells #[.int .i64 x, .int .i64 y] 40)); clear hM1 hT1 hN1)
        | (at_builtin; refine wpList_append_own_at _ rfl _ _ 54 rfl w.heap.size 40 i0 (.agg #[.int .i64 0, .int .i64 0]) 2 16 under_resps hi hz0 hz1 hz2 rfl (by decide) _ _ _ rfl HRo.out ⟨w1.heap.size, 0, none⟩ 1 1 [.int .i64 x, .int .i64 y] rfl rfl (news2 _ _ _ _) (by simp [Value.oneCell']) (by unfold maxLen; omega) (by omega) (by have := HS1.out; simp; omega) ?_; intro v' w2 ho hg _ hn; have HO2 := Lib.hid ho; have HG2 := Lib.hid hg; have HN2 := Lib.hid hn; clear ho hg hn))
      go_roundw
      case rel =>
        exact ⟨k + 1, by go_num, run_step HO.out HR.out HM.out HN.out HV.out HZ.out (HT.out _) HM1.out HT1.out HN1.out HO2.out _ HG2.out HN2.out⟩
      case measure => simp [intOf]; omega
    · obtain rfl : k = l.length := by omega
      go_wp2
      go_ret
      have hR := HR.out
      obtain ⟨F', hM, hN, hv⟩ := hR.at_
      have hrow := hR.row
      rw [List.take_length] at hM hrow
      exact ⟨_, F', rfl, hM, hN, hrow, hR.turn⟩
end Mdl
end Go.Proofs.YtmodanjblbaedaaDoor
