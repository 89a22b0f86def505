/- Renewing a link: a new node of noughts. -/
import Derived.Test.YtjginajnegahdaaDoorDraftGrow
import Derived.Maps.AppendAt
set_option linter.unusedVariables false
set_option linter.unusedSimpArgs false
namespace Go.Proofs.YtjginajnegahdaaDoor
namespace Drf
open Go.RowKit Go.Maps

theorem adr_form (b : Nat) (B : List Nat) (p : Place) : ∃ g o, adr b B p = ⟨g, o, none⟩ ∧ adr1 b B p = ⟨g, o + 1, none⟩ := by
  obtain ⟨o, d⟩ := p
  cases o with
  | none => exact ⟨b, 1 + 2 * d, rfl, by simp only [adr1]; congr 1; omega⟩
  | some i => exact ⟨B.getD i 0, 2 * d, rfl, rfl⟩
theorem adr_snoc {b : Nat} {B X : List Nat} {p : Place} (h : ∀ i, p.1 = some i → i < B.length) : adr b (B ++ X) p = adr b B p ∧ adr1 b (B ++ X) p = adr1 b B p := by
  obtain ⟨o, d⟩ := p
  cases o with
  | none => exact ⟨rfl, rfl⟩
  | some i =>
    have := h i rfl
    simp [adr, adr1, List.getD_eq_getElem?_getD, List.getElem?_append_left this]
theorem info_ptr : (Tryd.prog.info? 83).map (fun i => (i.zero, i.size, i.bytes)) = some (some (.pointer none), 1, 8) := by kernel_rfl
theorem under_ptrs : Tryd.prog.underlying 87 = some (.slice 83) := by kernel_rfl
theorem info_parts {P : Program} {t : TypeId} {z : Value} {s b : Nat} (h : (P.info? t).map (fun i => (i.zero, i.size, i.bytes)) = some (some z, s, b)) : ∃ i, P.info? t = some i ∧ i.zero = some z ∧ i.size = s ∧ i.bytes = b := by
  cases hq : P.info? t with
  | none => rw [hq] at h; cases h
  | some i =>
    rw [hq] at h
    simp only [Option.map_some, Option.some.injEq, Prod.mk.injEq] at h
    exact ⟨i, rfl, h.1, h.2.1, h.2.2⟩
theorem renew_is {D : Dr} {p : Place} {lv : Nat} (hk : (D.at p).k = none) : D.renew p lv = (D.grow (D.at p).w lv).put p ⟨0, some D.made.length⟩ := by
  unfold Dr.renew; rw [hk]
abbrev RenewEnd (w : World) (b : Nat) (S : Sh) (D' : Dr) (N : Nat) : Ending → World → Prop := fun e w' => e = .returned (.tuple #[]) ∧ ∃ S' X, Aft w b S D' N S' w' ∧ S'.B = S.B ++ X
set_option maxRecDepth 10000 in
set_option maxHeartbeats 2000000 in
theorem renew_some {w : World} {b : Nat} {S : Sh} {D : Dr} {N : Nat} (h : DAt w b S D N) {p : Place} (hp : D.Has p) {k : Nat} (hk : (D.at p).k = some k) (lv : Nat) :
    Calls Tryd.prog 72 #[.pointer (some ⟨b, 0, none⟩), .pointer (some (adr b S.B p)), .int .i64 lv] w (RenewEnd w b S (D.renew p lv) (N + 1)) := by
  have e : D.renew p lv = D := by unfold Dr.renew; rw [hk]
  rw [e]
  obtain ⟨g, o, ha, ha1⟩ := adr_form b S.B p
  obtain ⟨⟨c0, c1⟩, f0, f1⟩ := h.link hp
  rw [ha] at c0 ⊢
  rw [ha1, hk] at c1
  simp only [ptrV, ptrA, Option.map_some] at c1
  have H := Lib.hid (h.mono (Nat.le_succ N))
  clear h f0 f1
  go_enter Tryd.func72, Tryd.ntmps72
  go_wp2
  go_end0
  exact ⟨rfl, S, [], Aft.refl H.out, by simp⟩
/-- A row's append done, and what it leaves. -/
theorem renew_fin {w W2 w1 : World} {b lv g : Nat} {S : Sh} {D D' : Dr} {N : Nat} (T2 : Frm.Turn (foot b S) w W2) (hg : g = w.heap.size) (H : DAtR W2 b { S with B := S.B ++ [g] } D' D.row N) (h3 : lv ≤ 3) (hr : ∀ l, D'.row l = if l = lv then D.row lv ++ [D.made.length] else D.row l)
    (hB : S.B.length = D.made.length) {ao ao' : Option Addr} {c c' : Nat} (hsl : Sh.F { S with B := S.B ++ [g] } lv = .slice ao (D.row lv).length c) {o : Obj} (hgr : (W2.alloc o).drew.grownBy w1 (Value.slice ao (D.row lv).length c).ownBlock)
    (ho : w1.ownsRow 0 83 1 (.slice ao' ((D.row lv).length + 1) c') ((D.row lv).length + 1) (ptrs (S.B ++ [g]) (D.row lv) ++ [.pointer (some ⟨g, 0, none⟩)]))
    (hl : (Value.slice ao' ((D.row lv).length + 1) c').ownBlock = (Value.slice ao (D.row lv).length c).ownBlock ∨ (Value.slice ao' ((D.row lv).length + 1) c').ownBlock = some (W2.alloc o).drew.heap.size) :
    ∃ S' X, Aft w b S D' N S' (w1.setCell ⟨b, 11 + lv, none⟩ (.slice ao' ((D.row lv).length + 1) c')) ∧ S'.B = S.B ++ X := by
  have hT : Frm.Turn (Sh.F { S with B := S.B ++ [g] } lv).ownBlock.toList W2 w1 := by
    rw [hsl]
    exact (((Frm.Turn.refl _ W2).alloc o).drew).trans (Frm.Turn.of_grown hgr) (fun k hk => Or.inl hk)
  obtain ⟨k1, k2, k3⟩ := H.setRow h3 (v := .slice ao' ((D.row lv).length + 1) c') (L := D.row lv ++ [D.made.length]) hT (by
    have e : ptrs (S.B ++ [g]) (D.row lv ++ [D.made.length]) = ptrs (S.B ++ [g]) (D.row lv) ++ [.pointer (some ⟨g, 0, none⟩)] := by
      have : (S.B ++ [g]).getD D.made.length 0 = g := by rw [← hB]; simp [List.getD_eq_getElem?_getD]
      unfold ptrs
      rw [List.map_append]
      congr 1
      show [ptrV (S.B ++ [g]) (some D.made.length)] = _
      simp only [ptrV, ptrA, Option.map_some, this]
    rw [List.length_append, List.length_singleton]
    show w1.ownsRow _ _ _ _ _ (ptrs (S.B ++ [g]) _)
    rw [e]
    exact ho) (by
    rw [hsl]
    exact hl.imp id (fun e => ⟨_, e, by simp⟩)) rfl
  have hR : (fun l => if l = lv then D.row lv ++ [D.made.length] else D.row l) = D'.row := funext fun l => (hr l).symm
  rw [hR] at k1
  have hfS : ∀ k, k ∈ foot b { S with B := S.B ++ [g] } → k ∈ foot b S ∨ w.heap.size ≤ k := fun k hk => by
    have := foot_snoc.mem_iff.1 hk
    rcases List.mem_cons.1 this with e | e
    · exact .inr (by omega)
    · exact .inl e
  exact ⟨_, [g], ⟨k1, T2.trans k2 hfS, fun k hk => by
    rcases k3 k hk with h1 | h1
    · exact hfS k h1
    · exact .inr (Nat.le_trans T2.size h1)⟩, setF_same.1⟩
set_option maxRecDepth 100000 in
set_option maxHeartbeats 4000000 in
theorem renew_zero {w : World} {b : Nat} {S : Sh} {D : Dr} {N : Nat} (h : DAt w b S D N) (hN : N ≤ 100000) {p : Place} (hp : D.Has p) (hk : (D.at p).k = none) (h0 : (D.at p).w = 0) (lv : Nat) (hl : D.lvl p = lv) (h3 : lv ≤ 3) :
    Calls Tryd.prog 72 #[.pointer (some ⟨b, 0, none⟩), .pointer (some (adr b S.B p)), .int .i64 lv] w (RenewEnd w b S (D.renew p lv) (N + 1)) := by
  obtain ⟨g, o, ha, ha1⟩ := adr_form b S.B p
  obtain ⟨⟨c0, c1⟩, f0, f1⟩ := h.link hp
  have hgm := adr_mem h hp
  have hwf := renew_wf h.wf hp hl h3
  rw [renew_is hk, h0] at hwf ⊢
  rw [ha] at c0 f0 hgm ⊢
  rw [ha1, hk] at c1
  rw [ha1] at f1
  rw [h0] at c0
  simp only [ptrV, ptrA, Option.map_none] at c1
  have H1 := h.grow lv h3 (fun l hl i hi => (row_mem.1 hi).1)
  have hsn := adr_snoc (b := b) (B := S.B) (X := [w.heap.size]) (p := p) (fun i hi => by
    obtain ⟨o', d⟩ := p
    simp only at hi; subst hi
    rw [h.blen]; exact hp.1)
  have H2 := H1.put (grow_has hp) ⟨0, some D.made.length⟩ hwf
  simp only [hsn, ha, ha1, ptrV, ptrA, Option.map_some] at H2
  rw [show (S.B ++ [w.heap.size]).getD D.made.length 0 = w.heap.size by rw [← h.blen]; simp [List.getD_eq_getElem?_getD]] at H2
  have hbl := h.lt b (by simp [foot])
  have hgl := h.lt g hgm
  have T2 : Frm.Turn (foot b S) w (((w.alloc nodeO).setCell ⟨g, o, none⟩ (.int .u64 0)).setCell ⟨g, o + 1, none⟩ (.pointer (some ⟨w.heap.size, 0, none⟩))) := (((Frm.Turn.refl _ w).alloc _).setCell (p := ⟨g, o, none⟩) (.inl hgm) _).setCell (p := ⟨g, o + 1, none⟩) (.inl hgm) _
  have hsz : (((w.alloc nodeO).setCell ⟨g, o, none⟩ (.int .u64 0)).setCell ⟨g, o + 1, none⟩ (.pointer (some ⟨w.heap.size, 0, none⟩))).heap.size = w.heap.size + 1 := by simp
  rw [World.setCell_alloc_past nodeO g o _ hgl, World.setCell_alloc_past nodeO g (o + 1) _ (by simp; exact hgl)] at H2 T2 hsz
  unfold nodeO at H2 T2 hsz
  have hrows : ∀ l, ((D.grow 0 lv).put p ⟨0, some D.made.length⟩).row l = if l = lv then D.row lv ++ [D.made.length] else D.row l := fun l => by
    rw [row_put, grow_row]
    by_cases e : lv = l
    · subst e; simp
    · rw [if_neg e, if_neg (fun e2 => e e2.symm)]
  have HR := Lib.hid hrows
  have H2 := Lib.hid H2
  have T2 := Lib.hid T2
  have HGM := Lib.hid hgm
  have HL := Lib.hid (row_le D lv)
  have HM := Lib.hid h.wf.made
  have HB := Lib.hid h.blen
  have HF := Lib.hid h.lt
  clear h hp hk h0 hl hwf H1 hsn ha ha1 hrows hgm
  go_enter Tryd.func72, Tryd.ntmps72
  go_upto_region 10 with fail
  have h2 := H2.out
  have t2 := T2.out
  have e0 : w.heap.size = w.heap.size := rfl
  generalize hW : World.alloc _ _ = W2 at h2 t2 hsz ⊢
  clear hW H2 T2 c0 c1 f0 f1
  obtain ⟨n, hn⟩ : ∃ n, n = w.heap.size := ⟨_, rfl⟩
  rw [← hn] at h2 hsz ⊢
  have HNN := Lib.hid hn
  obtain ⟨cF, fF⟩ := h2.own.2.2.2.1 lv h3
  have hrow := h2.fresh lv h3
  obtain ⟨ao, c, hsl⟩ := Frm.row_form hrow
  rw [hsl] at cF hrow
  have hb2 := h2.lt b (by simp [foot])
  have hne : some b ≠ (Value.slice ao (D.row lv).length c).ownBlock := fun e => h2.parts.1.2.2.1 lv (by rw [hsl]; exact e.symm)
  have hlen : (D.row lv).length ≤ 200000 := by have := HL.out; have := HM.out; omega
  obtain ⟨i0, hi, hz0, hz1, hz2⟩ := info_parts info_ptr
  have HH := Lib.hid h2
  have HT := Lib.hid t2
  have HSL := Lib.hid hsl
  have HSZ := Lib.hid hsz
  clear hsz
  have q0 : (0 : Int) ≤ lv := by omega
  have q1 : (lv : Int) < 4 := by omega
  clear h2 t2 hsl e0 hn
  go_region_law (refine Frm.step_append_own rfl (.tmp 66) (.tmp 68) 87 rfl 83 i0 (.pointer none) 1 8 under_ptrs hi hz0 hz1 hz2 rfl (by decide) 0 (.slice ao (D.row lv).length c) (D.row lv).length _ rfl (hrow.alloc _) ⟨W2.heap.size, 0, none⟩ 1 1 [.pointer (some ⟨n, 0, none⟩)] rfl rfl (cell_one_new _ _ _) (by simp [Value.oneCell']) (by unfold maxLen; omega) (by omega) (by simp) ?_; intro v' w1 hown1 hgrow1 hloc1; obtain ⟨ao', c', rfl⟩ := Frm.row_form hown1; have hc1 := hgrow1.cell (a := ⟨b, 11 + lv, none⟩) ((World.cell?_alloc_lt _ _ _ hb2).trans cF) hne; have hf1 := (World.frozen?_of_block (hgrow1.block b (by simp; omega) hne)).trans ((World.frozen?_alloc_old _ _ _ (Nat.ne_of_lt hb2)).trans fF))
  all_goals (go_end0)
  all_goals exact ⟨rfl, renew_fin HT.out HNN.out HH.out h3 HR.out HB.out HSL.out hgrow1 hown1 hloc1⟩
end Drf
end Go.Proofs.YtjginajnegahdaaDoor
