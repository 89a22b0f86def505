/- One who claims alone, in memory; places in a row. -/
import Derived.Test.YtgodlddbocmcmaaClaimKin
import Derived.Test.YtgodlddbocmcmaaClaimSolo
set_option linter.unusedVariables false
set_option linter.unusedSimpArgs false
namespace Go.Proofs.Ytgodlddbocmcmaa
namespace Clm
open Go.RowKit Go.Maps Arn Pac

variable {w W W' : World} {r b n : Nat} {K : List Nat} {A : Ar} {C : Cl} {own0 h0 : Nat → Int} {s0 N m j : Nat} {tok : Int}
/-- One who claims alone, behind j steps. -/
def RunRel (w : World) (b r : Nat) (K : List Nat) (own0 h0 : Nat → Int) (s0 : Nat) (tok : Int) (N m j : Nat) (W : World) : Prop :=
  ∃ A h own n C, Kin w b K A n W ∧ n ≤ N + j ∧ ClAt W r b C ∧ Inv A h own (fun _ => some C) 1 ∧ A.cap = 60000 ∧ Solo h own own0 C s0 tok ∧ (msr s0 C + j ≤ m ∨ msr s0 C = 0) ∧ ∀ g, h0 g ≠ 0 → h g = h0 g
theorem run_step (h : RunRel w b r K own0 h0 s0 tok N m j W) (hN : N + j ≤ 1000000) (hr : r ∈ K) (hw : w.heap.size ≤ r) (hz : own0 s0 = 0) (hl : ∀ s, s < s0 → own0 s ≠ 0) (h5 : s0 < 255) :
    Calls Try.prog 13 #[.pointer (some ⟨r, 0, none⟩)] W fun e w' => e = .returned (.tuple #[]) ∧ RunRel w b r K own0 h0 s0 tok N m (j + 1) w' ∧ But w K (some r) W w' := by
  obtain ⟨A, h, own, n, C, h1, h2, h3, h4, h6, h7, h8, h9⟩ := h
  have hG := h4.good 0 C (by omega) rfl
  have hb := h1.born
  refine (kin_step h1 (by omega) hr hw h3 hG.fit).mono ?_
  rintro e w' ⟨he, k1, k2, k3⟩
  obtain ⟨f, f0, f1, f2, f3, f4⟩ := h4.step (by unfold Room; omega) (by omega) (show 0 < 1 by omega) rfl
  obtain ⟨g1, g2, g3⟩ := solo_step (f := f) h7 hz hl h5
  refine ⟨he, ⟨_, (astep h own C f).1, (astep h own C f).2.1, _, _, k1, by omega, k2, ?_, by rw [f4]; exact h6, ?_, ?_, fun g hg => (g3 g (by rw [h9 g hg]; exact hg)).trans (h9 g hg)⟩, k3⟩
  · refine f2.congr (fun i hi => ?_)
    obtain rfl : i = 0 := by omega
    rw [upd_at, f1]
  · rw [f1]; exact g1
  · rw [f1]
    rcases h8 with h8 | h8
    · rcases g2 with g2 | g2
      · left; omega
      · right; exact g2
    · rcases g2 with g2 | g2
      · omega
      · right; exact g2
theorem run_new {h own : Nat → Int} (hk : Kin w b K A n W) (hn : n ≤ N) (I : Inv A h own (fun _ => none) 1) (hc : A.cap = 60000) (h0 : tok ≠ 0) (h64 : W64 tok) (s0 : Nat) :
    Calls Try.prog 7 #[.pointer (some ⟨b, 0, none⟩), .int .u64 tok] W fun e w' => ∃ r, e = .returned (.pointer (some ⟨r, 0, none⟩)) ∧ r = W.heap.size ∧ RunRel w b r (r :: K) own h s0 tok N (s0 + 3 * sgN s0 + 4) 0 w' ∧ Frm.Turn [] W w' := by
  refine (kin_new hk tok).mono ?_
  rintro e w' ⟨r, he, hr, k1, k2, k3⟩
  obtain ⟨e1, e2⟩ := solo_new (h := h) (own := own) h0 s0
  refine ⟨r, he, hr, ⟨A, h, own, n, _, k1, by omega, k2, ?_, hc, e1, .inl (by omega), fun g _ => rfl⟩, k3⟩
  refine (I.change (show 0 < 1 by omega) (fun C hC => by cases hC) (some (Cl.new tok)) (fun D hD => by cases hD; exact new_good h0 h64)).congr (fun i hi => ?_)
  obtain rfl : i = 0 := by omega
  rw [upd_at]
theorem RunRel.step (h : RunRel w b r K own0 h0 s0 tok N m j W) (ht : Frm.Turn [] W W') : RunRel w b r K own0 h0 s0 tok N m j W' := by
  obtain ⟨A, h, own, n, C, h1, h2, h3, h4, h6, h7, h8, h9⟩ := h
  exact ⟨A, h, own, n, C, h1.step ht, h2, h3.turn ht (by simp), h4, h6, h7, h8, h9⟩
/-- At the end. -/
structure RunEnd (w : World) (b r : Nat) (K : List Nat) (own0 h0 : Nat → Int) (s0 : Nat) (tok : Int) (N : Nat) (A : Ar) (h : Nat → Int) (n : Nat) (seg : Int) (W : World) : Prop where
  kin : Kin w b K A n W
  low : n ≤ N
  inv : Inv A h (upd own0 s0 tok) (fun _ => none) 1
  cap : A.cap = 60000
  seg : seg = h (sgN s0) ∧ seg ≠ 0
  same : ∀ g, h0 g ≠ 0 → h g = h0 g
theorem run_end (h : RunRel w b r K own0 h0 s0 tok N m j W) (hm : m ≤ j) : ∃ A h n seg, RunEnd w b r K own0 h0 s0 tok (N + j) A h n seg W ∧
    Calls Try.prog 9 #[.pointer (some ⟨r, 0, none⟩)] W fun e w' => e = .returned (.tuple #[.agg #[.int .u64 seg, .int .i64 s0], .bool true]) ∧ Frm.Turn [] W w' := by
  obtain ⟨A, h, own, n, C, h1, h2, h3, h4, h6, h7, h8, h9⟩ := h
  obtain ⟨e1, e2, e3, e4⟩ := solo_end h7 (by omega)
  have hG := h4.good 0 C (by omega) rfl
  have hlz : C.laid = 0 := by
    have := hG.laid
    rw [e1] at this
    simpa using this
  obtain ⟨g1, g2⟩ := hG.seg (.inr e2)
  refine ⟨A, h, n, C.seg, ⟨h1, h2, ?_, h6, ⟨by rw [← e3]; exact g1, g2⟩, h9⟩, ?_⟩
  · rw [← e4]
    refine (h4.change (show 0 < 1 by omega) (fun D hD => by cases hD; exact hlz) none (fun D hD => by cases hD)).congr (fun i hi => ?_)
    obtain rfl : i = 0 := by omega
    rw [upd_at]
  · have := place_yes h3 e2
    rw [e3] at this
    exact this
/-- Places as cells. -/
def plcs (h : Nat → Int) : Nat → List Value
  | 0 => []
  | k + 1 => plcs h k ++ [.int .u64 (h (sgN k)), .int .i64 k]
theorem plcs_len (h : Nat → Int) (k : Nat) : (plcs h k).length = k * 2 := by
  induction k with
  | zero => rfl
  | succ k ih => simp only [plcs, List.length_append, ih, List.length_cons, List.length_nil]; omega
theorem plcs_get (h : Nat → Int) : ∀ k i, i < k → (plcs h k)[i * 2]? = some (.int .u64 (h (sgN i))) ∧ (plcs h k)[i * 2 + 1]? = some (.int .i64 i) := by
  intro k
  induction k with
  | zero => intro i hi; omega
  | succ k ih =>
    intro i hi
    simp only [plcs]
    have hl := plcs_len h k
    by_cases e : i = k
    · subst e
      rw [List.getElem?_append_right (by omega), List.getElem?_append_right (by omega), hl]
      simp
    · rw [List.getElem?_append_left (by omega), List.getElem?_append_left (by omega)]
      exact ih i (by omega)
theorem plcs_same {h h' : Nat → Int} : ∀ k, (∀ s, s < k → h' (sgN s) = h (sgN s)) → plcs h' k = plcs h k := by
  intro k
  induction k with
  | zero => intro _; rfl
  | succ k ih => intro e; simp only [plcs]; rw [ih (fun s hs => e s (by omega)), e k (by omega)]
/-- Between two of those that claim one behind the other: k have a slot. -/
def RowsRel (w : World) (b k N : Nat) (v : Value) (W : World) : Prop :=
  ∃ A n h own, Kin w b v.ownBlock.toList A n W ∧ n ≤ N ∧ Inv A h own (fun _ => none) 1 ∧ A.cap = 60000 ∧ (∀ s, s < k → own s ≠ 0) ∧ (∀ s, k ≤ s → own s = 0) ∧ (∀ s, s < k → h (sgN s) ≠ 0) ∧ W.ownsRow w.heap.size 34 2 v k (plcs h k)
theorem Kin.grow {v v' : Value} {W1 W3 : World} {e : TypeId} {size k : Nat} {xs : List Value} (h : Kin w b K A n W) (hv : ∀ q, v.ownBlock = some q → q ∈ K ∧ w.heap.size ≤ q) (h1 : Frm.Turn [] W W1) (h3 : W1.grownBy W3 v.ownBlock) (hl : v'.ownBlock = v.ownBlock ∨ v'.ownBlock = some W1.heap.size) (ho : W3.ownsRow w.heap.size e size v' k xs) : Kin w b v'.ownBlock.toList A n W3 := by
  have k3 := (h.step h1).poke (Frm.Turn.of_grown h3) (fun q hq => by simp at hq; exact hv q hq)
  rcases hl with e1 | e1
  · rw [e1]
    exact k3.sub (fun q hq => by simp at hq; exact (hv q hq).1)
  · obtain ⟨M, m1, m2⟩ := h.step h1
    obtain ⟨M3, m3⟩ := k3
    rw [e1]
    refine ⟨M, m1.apart (Frm.Turn.of_grown h3) (fun k hk hk' => ?_) (fun k hk => ?_), fun q hq => ?_⟩
    · simp at hk'; exact (m2 k (hv k hk').1).1 hk
    · simp at hk; exact (hv k hk).2
    · simp at hq; subst hq
      exact ⟨fun hk => by have := m1.lt hk; omega, (ho.lt _ e1).2⟩
theorem rows_next {w wr W1 W3 : World} {b r k N : Nat} {va : Option Addr} {vc : Nat} {own h h1 : Nat → Int} {tok : Int} {A1 : Ar} {n1 : Nat} {seg : Int} {v' : Value} (hE : RunEnd w b r (r :: (Value.slice va k vc).ownBlock.toList) own h k tok N A1 h1 n1 seg wr) (ht : tok ≠ 0)
    (hrow : wr.ownsRow w.heap.size 34 2 (.slice va k vc) k (plcs h k)) (r5 : ∀ s, s < k → own s ≠ 0) (r6 : ∀ s, k ≤ s → own s = 0) (r7 : ∀ s, s < k → h (sgN s) ≠ 0)
    (hT : Frm.Turn [] wr W1) (hg : W1.grownBy W3 (Value.slice va k vc).ownBlock) (hl : v'.ownBlock = (Value.slice va k vc).ownBlock ∨ v'.ownBlock = some W1.heap.size) (ho : W3.ownsRow w.heap.size 34 2 v' (k + 1) (plcs h k ++ [.int .u64 seg, .int .i64 k])) :
    RowsRel w b (k + 1) N v' W3 := by
  obtain ⟨g1, g2⟩ := hE.seg
  refine ⟨A1, n1, h1, _, hE.kin.grow (v := .slice va k vc) (fun q hq => ⟨by simp [hq], (hrow.lt q hq).1⟩) hT hg hl ho, hE.low, hE.inv, hE.cap, fun s hs => ?_, fun s hs => ?_, fun s hs => ?_, ?_⟩
  · by_cases e : s = k
    · subst e; rw [upd_at]; exact ht
    · rw [upd_ne _ _ e]; exact r5 s (by omega)
  · rw [upd_ne _ _ (by omega)]; exact r6 s (by omega)
  · by_cases e : s = k
    · subst e; rw [← g1]; exact g2
    · have := r7 s (by omega)
      rw [hE.same _ this]; exact this
  · have e : plcs h1 (k + 1) = plcs h k ++ [.int .u64 seg, .int .i64 k] := by
      simp only [plcs]
      rw [plcs_same k (fun s hs => hE.same _ (r7 s hs)), g1]
    rw [e]; exact ho
theorem h_wrd {h own : Nat → Int} {c : Nat → Option Cl} (I : Inv A h own c n) {g : Nat} (hg : g < 8) : W64 (h g) := by
  rw [← (I.h_row hg).2.2]; exact get_wrd I.ok _ _
/-- While some are let go: L is the first slot that is nobody's. -/
def GoneRel (w : World) (b k : Nat) (v : Value) (j L : Nat) (W : World) : Prop :=
  ∃ A n h own, Kin w b v.ownBlock.toList A n W ∧ n ≤ 100 * k + j ∧ Inv A h own (fun _ => none) 1 ∧ A.cap = 60000 ∧ L ≤ k ∧ (∀ s, s < L → own s ≠ 0) ∧ own L = 0 ∧ (∀ s, s < k → h (sgN s) ≠ 0) ∧ W.ownsRow w.heap.size 34 2 v k (plcs h k)
theorem gone_next {w wr w' : World} {b k j L s n : Nat} {v : Value} {A : Ar} {h own : Nat → Int} (hk : k ≤ 60) (r2 : n ≤ 100 * k + j) (r3 : Inv A h own (fun _ => none) 1) (r4 : A.cap = 60000) (r5 : L ≤ k) (r6 : ∀ s, s < L → own s ≠ 0) (r7 : own L = 0) (r8 : ∀ s, s < k → h (sgN s) ≠ 0) (r9 : wr.ownsRow w.heap.size 34 2 v k (plcs h k)) (hs : s < k)
    (hk' : Kin w b v.ownBlock.toList (A.write (h (sgN s)) (5 * ofN s) 0).1 (n + 1) w') (hb : But w v.ownBlock.toList none wr w') : GoneRel w b k v (j + 1) (min L s) w' := by
  obtain ⟨i1, i2⟩ := r3.write (by omega) (r8 s hs) (v := 0) (by unfold W64; omega)
  refine ⟨_, _, h, _, hk', by omega, i1, by rw [i2]; exact r4, by omega, fun q hq => ?_, ?_, r8, hb.row (fun q hq => ⟨by simp [hq], by simp⟩) r9⟩
  · rw [upd_ne _ _ (by omega)]; exact r6 q (by omega)
  · by_cases e : min L s = s
    · rw [e, upd_at]
    · rw [upd_ne _ _ e, show min L s = L by omega]; exact r7
end Clm
end Go.Proofs.Ytgodlddbocmcmaa
