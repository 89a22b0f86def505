/- A new node: its block, its place in the row of its level. -/
import Derived.Test.YtjginajnegahdaaDoorDraftFind2
set_option linter.unusedVariables false
set_option linter.unusedSimpArgs false
namespace Go.Proofs.YtjginajnegahdaaDoor
namespace Drf
open Go.RowKit Go.Maps

theorem ptrV_snoc {B : List Nat} {g : Nat} {o : Option Nat} (h : ∀ k, o = some k → k < B.length) : ptrV (B ++ [g]) o = ptrV B o := by
  cases o with
  | none => rfl
  | some k =>
    have := h k rfl
    simp [ptrV, ptrA, List.getD_eq_getElem?_getD, List.getElem?_append_left this]
theorem lnCells_snoc {B : List Nat} {g : Nat} {x : Ln} (h : ∀ k, x.k = some k → k < B.length) : lnCells (B ++ [g]) x = lnCells B x := by
  simp only [lnCells, ptrV_snoc h]
theorem flat_snoc {B : List Nat} {g : Nat} : ∀ {l : List Ln}, (∀ x, x ∈ l → ∀ k, x.k = some k → k < B.length) → l.flatMap (lnCells (B ++ [g])) = l.flatMap (lnCells B) := by
  intro l
  induction l with
  | nil => intro _; rfl
  | cons x r ih =>
    intro h
    rw [List.flatMap_cons, List.flatMap_cons, lnCells_snoc (h x (by simp)), ih (fun y hy => h y (by simp [hy]))]
theorem ptrs_snoc {B : List Nat} {g : Nat} {l : List Nat} (h : ∀ i, i ∈ l → i < B.length) : ptrs (B ++ [g]) l = ptrs B l := by
  unfold ptrs
  refine List.map_congr_left fun i hi => ptrV_snoc fun k hk => ?_
  cases hk
  exact h i hi
theorem tops_kid {D : Dr} {N : Nat} (h : Wf D N) : ∀ x, x ∈ D.tops → ∀ k, x.k = some k → k < D.made.length := by
  intro x hx k hk
  obtain ⟨t, ht⟩ := List.getElem?_of_mem hx
  refine (h.kid (none, t) k ?_).1
  simp [Dr.at, List.getD_eq_getElem?_getD, ht, hk]
theorem node_kid {D : Dr} {N : Nat} (h : Wf D N) (i : Nat) : ∀ x, x ∈ (D.node i).ls → ∀ k, x.k = some k → k < D.made.length := by
  intro x hx k hk
  obtain ⟨t, ht⟩ := List.getElem?_of_mem hx
  refine (h.kid (some i, t) k ?_).1
  simp [Dr.at, List.getD_eq_getElem?_getD, ht, hk]
def nodeO : Obj := .cells #[.int .u64 0, .pointer none, .int .u64 0, .pointer none, .int .u64 0, .pointer none, .int .u64 0, .pointer none, .bool false, .int .u64 0] 116
theorem foot_snoc {b g : Nat} {S : Sh} : (foot b { S with B := S.B ++ [g] }).Perm (g :: foot b S) := by
  simp only [foot, List.append_assoc, List.singleton_append]
  refine List.Perm.trans (.cons _ (.cons _ List.perm_middle)) ?_
  exact (List.Perm.cons _ (.swap _ _ _)).trans (.swap _ _ _)
theorem DAtR.grow {w : World} {b : Nat} {S : Sh} {D : Dr} {R : Nat → List Nat} {N : Nat} (h : DAtR w b S D R N) (lv : Nat) (hl : lv ≤ 3) (hR : ∀ l, l ≤ 3 → ∀ i, i ∈ R l → i < D.made.length) :
    DAtR (w.alloc nodeO) b { S with B := S.B ++ [w.heap.size] } (D.grow 0 lv) R (N + 1) := by
  have hT : Frm.Turn [] w (w.alloc nodeO) := (Frm.Turn.refl [] w).alloc _
  have hgd : ∀ i, i < D.made.length → (S.B ++ [w.heap.size]).getD i 0 = S.B.getD i 0 := fun i hi => by
    rw [List.getD_eq_getElem?_getD, List.getD_eq_getElem?_getD, List.getElem?_append_left (by rw [h.blen]; exact hi)]
  refine ⟨?_, fun i hi => ?_, fun l hl' => ?_, ?_, h.known.turn hT (by simp), grow_wf h.wf ⟨by decide, by decide⟩ hl, by rw [grow_len]; simp [h.blen], ?_⟩
  · have e : drCells { S with B := S.B ++ [w.heap.size] } (D.grow 0 lv) = drCells S D := by
      simp only [drCells]
      rw [show (D.grow 0 lv).tops = D.tops from rfl, flat_snoc (by rw [h.blen]; exact tops_kid h.wf)]
      rfl
    rw [e]
    exact hT.keep h.row (by simp)
  · rw [grow_len] at hi
    by_cases e : i = D.made.length
    · subst e
      rw [grow_new]
      have : (S.B ++ [w.heap.size]).getD D.made.length 0 = w.heap.size := by rw [← h.blen]; simp [List.getD_eq_getElem?_getD]
      rw [this]
      exact heap_alloc_new w nodeO
    · have hi' : i < D.made.length := by omega
      rw [grow_old i hi', hgd i hi']
      have e : ndCells (S.B ++ [w.heap.size]) (D.node i) = ndCells S.B (D.node i) := by
        simp only [ndCells]
        rw [flat_snoc (by rw [h.blen]; exact node_kid h.wf i)]
      rw [e]
      exact hT.keep (h.node i hi') (by simp)
  · have := Frm.owns_turn (h.fresh l hl') hT (by simp)
    rw [ptrs_snoc (by rw [h.blen]; exact hR l hl')]
    exact this
  · have e : (D.grow 0 lv).drop = D.drop := by simp [Dr.grow]
    rw [e]
    exact Frm.owns_turn h.drop hT (by simp)
  · rw [foot_snoc.nodup_iff, List.nodup_cons]
    exact ⟨fun hm => Nat.lt_irrefl _ (h.lt _ hm), h.apart⟩
theorem DAtR.rows_ne {w : World} {b : Nat} {S : Sh} {D : Dr} {R : Nat → List Nat} {N : Nat} (h : DAtR w b S D R N) {i j k : Nat} (hi : i ≤ 3) (hj : j ≤ 3) (hne : i ≠ j) (h1 : (S.F i).ownBlock = some k) (h2 : (S.F j).ownBlock = some k) : False := by
  have hap := h.apart
  simp only [foot, List.nodup_cons, List.mem_cons, List.mem_append, not_or, List.nodup_append, Option.mem_toList] at hap
  obtain ⟨-, -, -, ⟨-, ⟨-, ⟨-, ⟨-, -, q3⟩, q2⟩, q1⟩, q0⟩, -⟩ := hap
  match i, hi, j, hj with
  | 0, _, 0, _ => exact hne rfl
  | 1, _, 1, _ => exact hne rfl
  | 2, _, 2, _ => exact hne rfl
  | 3, _, 3, _ => exact hne rfl
  | 0, _, 1, _ => exact q0 k h1 k (.inl h2) rfl
  | 1, _, 0, _ => exact q0 k h2 k (.inl h1) rfl
  | 0, _, 2, _ => exact q0 k h1 k (.inr (.inl h2)) rfl
  | 2, _, 0, _ => exact q0 k h2 k (.inr (.inl h1)) rfl
  | 0, _, 3, _ => exact q0 k h1 k (.inr (.inr (.inl h2))) rfl
  | 3, _, 0, _ => exact q0 k h2 k (.inr (.inr (.inl h1))) rfl
  | 1, _, 2, _ => exact q1 k h1 k (.inl h2) rfl
  | 2, _, 1, _ => exact q1 k h2 k (.inl h1) rfl
  | 1, _, 3, _ => exact q1 k h1 k (.inr (.inl h2)) rfl
  | 3, _, 1, _ => exact q1 k h2 k (.inr (.inl h1)) rfl
  | 2, _, 3, _ => exact q2 k h1 k (.inl h2) rfl
  | 3, _, 2, _ => exact q2 k h2 k (.inl h1) rfl
theorem DAtR.rows_dv {w : World} {b : Nat} {S : Sh} {D : Dr} {R : Nat → List Nat} {N : Nat} (h : DAtR w b S D R N) {i k : Nat} (hi : i ≤ 3) (h1 : (S.F i).ownBlock = some k) (h2 : S.dv.ownBlock = some k) : False := by
  have hap := h.apart
  simp only [foot, List.nodup_cons, List.mem_cons, List.mem_append, not_or, List.nodup_append, Option.mem_toList] at hap
  obtain ⟨-, -, -, ⟨-, ⟨-, ⟨-, ⟨-, -, q3⟩, q2⟩, q1⟩, q0⟩, -⟩ := hap
  match i, hi with
  | 0, _ => exact q0 k h1 k (.inr (.inr (.inr h2))) rfl
  | 1, _ => exact q1 k h1 k (.inr (.inr h2)) rfl
  | 2, _ => exact q2 k h1 k (.inr h2) rfl
  | 3, _ => exact q3 k h1 k h2 rfl
def Sh.setF (S : Sh) (l : Nat) (v : Value) : Sh := if l = 0 then { S with F0 := v } else if l = 1 then { S with F1 := v } else if l = 2 then { S with F2 := v } else { S with F3 := v }
theorem nodup_opt {A C : List Nat} {x y : Option Nat} (h : (A ++ (x.toList ++ C)).Nodup) (hy : y = x ∨ ∃ k, y = some k ∧ k ∉ A ∧ k ∉ C) : (A ++ (y.toList ++ C)).Nodup := by
  rcases hy with rfl | ⟨k, rfl, hA, hC⟩
  · exact h
  · rw [List.nodup_append] at h ⊢
    obtain ⟨h1, h2, h3⟩ := h
    rw [List.nodup_append] at h2
    refine ⟨h1, ?_, fun a ha c hc => ?_⟩
    · simp only [Option.toList, List.singleton_append, List.nodup_cons]
      exact ⟨hC, h2.2.1⟩
    · simp only [Option.toList, List.singleton_append, List.mem_cons] at hc
      rcases hc with rfl | hc
      · exact fun e => hA (e ▸ ha)
      · exact h3 a ha c (by simp [hc])
theorem foot_split (b : Nat) (S : Sh) (l : Nat) : ∃ A C, foot b S = A ++ ((S.F l).ownBlock.toList ++ C) ∧ ∀ v, foot b (S.setF l v) = A ++ (v.ownBlock.toList ++ C) := by
  match l with
  | 0 => exact ⟨b :: S.m :: S.B, _, rfl, fun v => rfl⟩
  | 1 => exact ⟨b :: S.m :: (S.B ++ S.F0.ownBlock.toList), S.F2.ownBlock.toList ++ (S.F3.ownBlock.toList ++ S.dv.ownBlock.toList), by simp [foot, Sh.F], fun v => by simp [foot, Sh.setF]⟩
  | 2 => exact ⟨b :: S.m :: (S.B ++ (S.F0.ownBlock.toList ++ S.F1.ownBlock.toList)), S.F3.ownBlock.toList ++ S.dv.ownBlock.toList, by simp [foot, Sh.F], fun v => by simp [foot, Sh.setF]⟩
  | l + 3 => exact ⟨b :: S.m :: (S.B ++ (S.F0.ownBlock.toList ++ (S.F1.ownBlock.toList ++ S.F2.ownBlock.toList))), S.dv.ownBlock.toList, by simp [foot, Sh.F], fun v => by simp [foot, Sh.setF]⟩
theorem setF_foot {b : Nat} {S : Sh} {l : Nat} {v : Value} {n : Nat} (h : (foot b S).Nodup) (hlt : ∀ k, k ∈ foot b S → k < n) (hv : v.ownBlock = (S.F l).ownBlock ∨ ∃ k, v.ownBlock = some k ∧ n ≤ k) :
    (foot b (S.setF l v)).Nodup ∧ ∀ k, k ∈ foot b (S.setF l v) → k ∈ foot b S ∨ n ≤ k := by
  obtain ⟨A, C, e1, e2⟩ := foot_split b S l
  rw [e2 v]
  rw [e1] at h hlt ⊢
  refine ⟨nodup_opt h ?_, fun k hk => ?_⟩
  · rcases hv with e | ⟨k, e, hk⟩
    · exact .inl e
    · exact .inr ⟨k, e, fun hm => by have := hlt k (by simp [hm]); omega, fun hm => by have := hlt k (by simp [hm]); omega⟩
  · rcases List.mem_append.1 hk with h1 | h1
    · exact .inl (by simp [h1])
    · rcases List.mem_append.1 h1 with h2 | h2
      · rcases hv with e | ⟨k', e, hk'⟩
        · rw [e] at h2; exact .inl (by simp [h2])
        · rw [e] at h2; simp at h2; subst h2; exact .inr hk'
      · exact .inl (by simp [h2])
theorem setF_F {S : Sh} {l j : Nat} {v : Value} (hl : l ≤ 3) (hj : j ≤ 3) : (S.setF l v).F j = if j = l then v else S.F j := by
  match l, hl, j, hj with
  | 0, _, 0, _ => rfl
  | 0, _, 1, _ => rfl
  | 0, _, 2, _ => rfl
  | 0, _, 3, _ => rfl
  | 1, _, 0, _ => rfl
  | 1, _, 1, _ => rfl
  | 1, _, 2, _ => rfl
  | 1, _, 3, _ => rfl
  | 2, _, 0, _ => rfl
  | 2, _, 1, _ => rfl
  | 2, _, 2, _ => rfl
  | 2, _, 3, _ => rfl
  | 3, _, 0, _ => rfl
  | 3, _, 1, _ => rfl
  | 3, _, 2, _ => rfl
  | 3, _, 3, _ => rfl
theorem setF_same {S : Sh} {l : Nat} {v : Value} : (S.setF l v).B = S.B ∧ (S.setF l v).m = S.m ∧ (S.setF l v).n = S.n ∧ (S.setF l v).dv = S.dv := by
  unfold Sh.setF; split
  · exact ⟨rfl, rfl, rfl, rfl⟩
  · split
    · exact ⟨rfl, rfl, rfl, rfl⟩
    · split <;> exact ⟨rfl, rfl, rfl, rfl⟩
/-- A level's row turned, and its slice stored. -/
theorem DAtR.setRow {w w1 : World} {b : Nat} {S : Sh} {D : Dr} {R : Nat → List Nat} {N : Nat} (h : DAtR w b S D R N) {lv : Nat} (hl : lv ≤ 3) {v : Value} {L : List Nat} (hT : Frm.Turn (S.F lv).ownBlock.toList w w1) (ho : w1.ownsRow 0 83 1 v L.length (ptrs S.B L))
    (hv : v.ownBlock = (S.F lv).ownBlock ∨ ∃ k, v.ownBlock = some k ∧ w.heap.size ≤ k) (ho1 : v.oneCell' = true) :
    DAtR (w1.setCell ⟨b, 11 + lv, none⟩ v) b (S.setF lv v) D (fun l => if l = lv then L else R l) N ∧ Frm.Turn (foot b S) w (w1.setCell ⟨b, 11 + lv, none⟩ v) ∧ ∀ k, k ∈ foot b (S.setF lv v) → k ∈ foot b S ∨ w.heap.size ≤ k := by
  obtain ⟨⟨p1, p2, p3, p4⟩, ⟨p5, p6, p7⟩, p8, p9⟩ := h.parts
  obtain ⟨hB, hm, hn, hd⟩ := setF_same (S := S) (l := lv) (v := v)
  obtain ⟨hf1, hf2⟩ := setF_foot (l := lv) (v := v) h.apart (n := w.heap.size) h.lt hv
  have hFm : ∀ k, k ∈ (S.F lv).ownBlock.toList → k ∈ foot b S := fun k hk => Sh.F_mem (by simpa using hk)
  have hT2 : Frm.Turn (foot b S) w (w1.setCell ⟨b, 11 + lv, none⟩ v) := (hT.mono hFm).setCell (.inl (by simp [foot])) v
  have hTb : ∀ k, k ∉ (S.F lv).ownBlock.toList → k ≠ b → k ∉ (b :: (S.F lv).ownBlock.toList) := fun k h1 h2 hm => by
    rcases List.mem_cons.1 hm with e | e
    · exact h2 e
    · exact h1 e
  have hT3 : Frm.Turn (b :: (S.F lv).ownBlock.toList) w (w1.setCell ⟨b, 11 + lv, none⟩ v) := (hT.mono (fun k hk => by simp [hk])).setCell (.inl (by simp)) v
  refine ⟨⟨?_, fun i hi => ?_, fun l hl' => ?_, ?_, ?_, h.wf, by rw [hB]; exact h.blen, hf1⟩, hT2, hf2⟩
  · have hrow := hT.keep h.row (by simpa using p3 lv)
    refine (Frm.heap_set w1 b _ _ _ _ v hrow).trans ?_
    obtain ⟨x0, x1, x2, e⟩ := list3 h.wf.three
    obtain ⟨y0, y1, y2, e2⟩ := list3 h.wf.lens
    simp only [drCells, e, e2, hB, hm]
    match lv, hl with
    | 0, _ => rfl
    | 1, _ => rfl
    | 2, _ => rfl
    | 3, _ => rfl
  · rw [hB]
    have him := getD_mem (B := S.B) (i := i) (by rw [h.blen]; exact hi)
    refine hT3.keep (h.node i hi) (hTb _ (by simpa using (p9 _ him).1 lv) (fun e => p2 (e ▸ him)))
  · rw [setF_F hl hl', hB]
    by_cases e : l = lv
    · rw [if_pos e, if_pos e]
      refine Frm.owns_turn ho ((Frm.Turn.refl [b] w1).setCell (.inl (by simp)) v) (fun k hk => ?_)
      simp only [List.mem_singleton]
      rcases hv with e2 | ⟨k', e2, hk'⟩
      · rw [e2] at hk
        rintro rfl
        exact p3 lv hk
      · rw [e2] at hk
        cases hk
        have := h.lt b (by simp [foot])
        omega
    · rw [if_neg e, if_neg e]
      refine Frm.owns_turn (h.fresh l hl') hT3 (fun k hk => hTb k ?_ (by rintro rfl; exact p3 l hk))
      simp only [Option.mem_toList]
      exact fun hk2 => h.rows_ne hl' hl e hk hk2
  · rw [hd]
    refine Frm.owns_turn h.drop hT3 (fun k hk => hTb k ?_ (by rintro rfl; exact p4 hk))
    simp only [Option.mem_toList]
    exact fun hk2 => h.rows_dv hl hk2 hk
  · rw [hm, hn]
    exact h.known.turn hT3 (hTb _ (by simpa using p6 lv) (fun e => p1 e.symm))
end Drf
end Go.Proofs.YtjginajnegahdaaDoor
