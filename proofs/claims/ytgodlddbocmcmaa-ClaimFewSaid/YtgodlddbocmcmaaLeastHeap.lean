/- The library's heap over a row of numbers: what up, down, Push and Pop do. -/
import Derived.Test.YtgodlddbocmcmaaLeastRow
import Derived.Test.YtgodlddbocmcmaaLeastPlain
import Derived.Deep.LoopGhost
set_option linter.unusedVariables false
set_option linter.unusedSimpArgs false
namespace Go.Proofs.Ytgodlddbocmcmaa
namespace Lst
open Go.RowKit Hp

def ints (l : List Nat) : List Value := l.map fun (x : Nat) => .int .i64 (x : Int)
/-- Behind the pointer at offset off of block b lies the slice of block g that holds l. -/
structure Rw (w : World) (b off g c : Nat) (l : List Nat) : Prop where
  cell : w.cell? ⟨b, off, none⟩ = some (.slice (some ⟨g, 0, none⟩) l.length c)
  thaw : w.frozen? ⟨b, off, none⟩ = false
  row : ∃ cur, w.heap[g]? = some (.cells cur 3 (0, 0)) ∧ cur.size = c ∧ cur.toList.take l.length = ints l
  room : l.length ≤ c
  fit : c ≤ maxLen
  ne : g ≠ b
  few : l.length ≤ 65536

theorem ints_at (l : List Nat) (i : Nat) (h : i < l.length) : (ints l)[i]? = some (.int .i64 (at_ l i : Int)) := by
  simp [ints, at_, List.getD_eq_getElem?_getD, h]
theorem Rw.at {w : World} {b off g c : Nat} {l : List Nat} (h : Rw w b off g c l) (i : Nat) (hi : i < l.length) : w.cell? ⟨g, i, none⟩ = some (.int .i64 (at_ l i : Int)) := by
  obtain ⟨cur, hg, hs, ht⟩ := h.row
  rw [Frm.cell_row w g i cur _ _ hg]
  have := ints_at l i hi
  rw [← ht, List.getElem?_take, if_pos hi] at this
  simpa using this
theorem Rw.thawed {w : World} {b off g c : Nat} {l : List Nat} (h : Rw w b off g c l) (i : Nat) : w.frozen? ⟨g, i, none⟩ = false := by
  obtain ⟨cur, hg, _⟩ := h.row
  exact Frm.frozen_row w g i cur _ hg
theorem Rw.drewN {w : World} {b off g c : Nat} {l : List Nat} (h : Rw w b off g c l) (k : Nat) : Rw (w.drewN k) b off g c l :=
  ⟨h.cell, h.thaw, h.row, h.room, h.fit, h.ne, h.few⟩
theorem Rw.set {w : World} {b off g c : Nat} {l : List Nat} (h : Rw w b off g c l) (i : Nat) (hi : i < l.length) (x : Nat) : Rw (w.setCell ⟨g, i, none⟩ (.int .i64 (x : Int))) b off g c (l.set i x) := by
  obtain ⟨cur, hg, hs, ht⟩ := h.row
  have hne : (⟨g, i, none⟩ : Addr) ≠ ⟨b, off, none⟩ := fun e => h.ne (by simpa using congrArg Addr.block e)
  refine ⟨?_, by rw [World.frozen?_setCell]; exact h.thaw, ⟨_, Frm.heap_set w g i cur _ _ _ hg, by simp [hs], ?_⟩, by simpa using h.room, h.fit, h.ne, by simpa using h.few⟩
  · rw [World.cell?_setCell_other _ _ _ _ hne]; simpa using h.cell
  · simp only [Array.toList_setIfInBounds, List.length_set, List.take_set, ht, ints, List.map_set]
theorem Rw.swap {w : World} {b off g c : Nat} {l : List Nat} (h : Rw w b off g c l) (i j : Nat) (hi : i < l.length) (hj : j < l.length) :
    Rw ((w.setCell ⟨g, i, none⟩ (.int .i64 (at_ l j : Int))).setCell ⟨g, j, none⟩ (.int .i64 (at_ l i : Int))) b off g c (swp l i j) :=
  (h.set i hi (at_ l j)).set j (by simpa using hj) (at_ l i)
theorem swap_turn (w : World) (g i j : Nat) (u v : Value) (k : Nat) : Frm.Turn [g] w (((w.setCell ⟨g, i, none⟩ u).setCell ⟨g, j, none⟩ v).drewN k) :=
  (((Frm.Turn.refl [g] w).setCell (Or.inl (by simp)) u).setCell (Or.inl (by simp)) v).drewN k

/-- Is the i-th less than the j-th? -/
theorem less_row {w : World} {b off g c n : Nat} {l : List Nat} (h : Rw w b off g c l) (hn : l.length = n) (i j : Int) (t : Bool) (i0 : 0 ≤ i) (j0 : 0 ≤ j) (hi : i < n) (hj : j < n) (ht : decide (at_ l i.toNat < at_ l j.toNat) = t) :
    Calls Try.prog 87 #[.slice (some ⟨g, 0, none⟩) n c, .int .i64 i, .int .i64 j] w
      fun e w' => e = .returned (.bool t) ∧ ∃ k, w' = w.drewN k := by
  subst hn
  obtain ⟨i, rfl⟩ := Int.eq_ofNat_of_zero_le i0
  obtain ⟨j, rfl⟩ := Int.eq_ofNat_of_zero_le j0
  refine (less_any g i j l.length c _ _ w (by omega) (by omega) h.few (h.at i (by omega)) (h.at j (by omega))).mono fun e w' ⟨h1, h2⟩ => ⟨?_, h2⟩
  rw [h1, ← ht]
  simp
theorem swap_row {w : World} {b off g c n : Nat} {l : List Nat} (h : Rw w b off g c l) (hn : l.length = n) (i j : Int) (i0 : 0 ≤ i) (j0 : 0 ≤ j) (hi : i < n) (hj : j < n) :
    Calls Try.prog 88 #[.slice (some ⟨g, 0, none⟩) n c, .int .i64 i, .int .i64 j] w
      fun e w' => e = .returned (.tuple #[]) ∧ Rw w' b off g c (swp l i.toNat j.toNat) ∧ Frm.Turn [g] w w' := by
  subst hn
  obtain ⟨i, rfl⟩ := Int.eq_ofNat_of_zero_le i0
  obtain ⟨j, rfl⟩ := Int.eq_ofNat_of_zero_le j0
  refine (swap_any g i j l.length c _ _ w (by omega) (by omega) h.few (h.at i (by omega)) (h.at j (by omega)) (h.thawed i) (h.thawed j)).mono fun e w' ⟨h1, k, h2⟩ => ⟨h1, ?_, ?_⟩
  · subst h2; exact (h.swap i j (by omega) (by omega)).drewN k
  · subst h2; exact swap_turn _ _ _ _ _ _ _

def UpRel (b off g c n : Nat) (l0 : List Nat) (w : World) (j : Value) (wr : World) : Prop :=
  ∃ (m : Nat) (l : List Nat), m < n ∧ j = .int .i64 (m : Int) ∧ Rw wr b off g c l ∧ l.length = n ∧ l.Perm l0 ∧ UpOk l n m ∧ Frm.Turn [g] w wr
def UpEnd (b off g c n : Nat) (l0 : List Nat) (w : World) (e : Ending) (w' : World) : Prop :=
  e = .returned (.tuple #[]) ∧ ∃ l, Rw w' b off g c l ∧ l.length = n ∧ l.Perm l0 ∧ Heap l n ∧ Frm.Turn [g] w w'

set_option maxHeartbeats 1000000 in
theorem up_any (b off g c n : Nat) (l0 : List Nat) (j : Nat) (w : World) (h : Rw w b off g c l0) (hn : l0.length = n) (hj : j < n) (hu : UpOk l0 n j) :
    Calls Try.prog 64 #[.iface 105 (.pointer (some ⟨b, off, none⟩)), .int .i64 (j : Int)] w (UpEnd b off g c n l0 w) := by
  have hfew : n ≤ 65536 := by rw [← hn]; exact h.few
  have H := Lib.hid h
  have HU := Lib.hid hu
  have HN := Lib.hid hn
  clear h hu hn
  have e1 := fun (k : Nat) (W : World) (h : W.cell? ⟨b, off, none⟩ = some (.slice (some ⟨g, 0, none⟩) n c)) => at_less k ⟨b, off, none⟩ (.slice (some ⟨g, 0, none⟩) n c) W h
  have e2 := fun (k : Nat) (W : World) (h : W.cell? ⟨b, off, none⟩ = some (.slice (some ⟨g, 0, none⟩) n c)) => at_swap k ⟨b, off, none⟩ (.slice (some ⟨g, 0, none⟩) n c) W h
  go_enter Try.func64, Try.ntmps64
  go_wp2
  go_loopw [1] (fun j wr => UpRel b off g c n l0 w j wr) (fun j _ => (intOf j).toNat)
  case atStart => exact ⟨j, l0, hj, rfl, H.out, HN.out, List.Perm.refl _, HU.out, Frm.Turn.refl _ _⟩
  case round =>
    obtain ⟨m, l, hm, rfl, hR, hl, hp, hU, hT⟩ := hrel
    have hcell := hR.cell
    rw [hl] at hcell
    have HL := Lib.hid hl
    have HR := Lib.hid hR
    clear hR hl
    rcases Nat.eq_zero_or_pos m with rfl | hpos
    · go_wp2
      go_end0
      exact ⟨rfl, l, HR.out, HL.out, hp, up_stop0 hU, hT⟩
    · have e0 : (((m : Int) - 1) / 2 == (m : Int)) = false := beq_eq_false_iff_ne.2 (by omega)
      have b1 : (0 : Int) ≤ (m : Int) - 1 := by omega
      have b2 : (0 : Int) ≤ ((m : Int) - 1) / 2 := by omega
      have b3 : ((m : Int) - 1) / 2 < (n : Int) := by omega
      have b4 : (m : Int) < (n : Int) := by omega
      have ep : (((m : Int) - 1) / 2).toNat = (m - 1) / 2 := by omega
      have EP := Lib.hid ep
      clear ep
      by_cases ht : at_ l m < at_ l ((m - 1) / 2)
      · have HTT : Hid (decide (at_ l ((m : Int)).toNat < at_ l (((m : Int) - 1) / 2).toNat) = true) := Lib.hid (by rw [EP.out]; simpa using ht)
        have HT := Lib.hid ht
        clear ht
        go_wp2_with (first
          | (go_at_call 87; (with_reducible refine (less_row HR.out HL.out _ _ _ (by omega) b2 b4 b3 HTT.out).mono ?_); rintro e w' ⟨rfl, k, rfl⟩)
          | (go_at_call 88; (with_reducible refine (swap_row (HR.out.drewN _) HL.out _ _ b2 (by omega) b3 b4).mono ?_); rintro e w' ⟨rfl, hR', hT'⟩))
        go_roundw
        case rel =>
          rw [EP.out] at hR'
          have hlt := HT.out
          have hll := HL.out
          exact ⟨(m - 1) / 2, _, by omega, by go_num, hR', by rw [length_swp]; exact hll, (perm_swp _ _ _ (by omega) (by omega)).trans hp, by have := up_go (by rw [hll]; exact hU) (by omega) hpos hlt; rw [hll] at this; exact this, (hT.drewN k).trans hT' (fun k hk => Or.inl hk)⟩
        case measure => simp [intOf]; omega
      · have HTT : Hid (decide (at_ l ((m : Int)).toNat < at_ l (((m : Int) - 1) / 2).toNat) = false) := Lib.hid (by rw [EP.out]; simpa using Nat.le_of_not_lt ht)
        have HT := Lib.hid ht
        clear ht
        go_wp2_with (first
          | (go_at_call 87; (with_reducible refine (less_row HR.out HL.out _ _ _ (by omega) b2 b4 b3 HTT.out).mono ?_); rintro e w' ⟨rfl, k, rfl⟩))
        go_end0
        exact ⟨rfl, l, HR.out.drewN k, HL.out, hp, up_stop hU (Nat.le_of_not_lt HT.out), hT.drewN k⟩

def DownRel (b off g c N n : Nat) (l0 : List Nat) (w : World) (i : Value) (wr : World) : Prop :=
  ∃ (m : Nat) (l : List Nat), m ≤ n ∧ i = .int .i64 (m : Int) ∧ Rw wr b off g c l ∧ l.length = N ∧ l.Perm l0 ∧ DownOk l n m ∧ (∀ k, n ≤ k → at_ l k = at_ l0 k) ∧ Frm.Turn [g] w wr
def DownEnd (b off g c N n : Nat) (l0 : List Nat) (w : World) (e : Ending) (w' : World) : Prop :=
  ∃ t, e = .returned (.bool t) ∧ ∃ l, Rw w' b off g c l ∧ l.length = N ∧ l.Perm l0 ∧ Heap l n ∧ (∀ k, n ≤ k → at_ l k = at_ l0 k) ∧ Frm.Turn [g] w w'
theorem down_end {b off g c N n m : Nat} {l0 l : List Nat} {w w' : World} (t : Bool) (hR : Rw w' b off g c l) (hl : l.length = N) (hp : l.Perm l0) (hD : DownOk l n m) (hk : ∀ k, n ≤ k → at_ l k = at_ l0 k) (hT : Frm.Turn [g] w w')
    (hc : ∀ k, 0 < k → k < n → (k - 1) / 2 = m → at_ l m ≤ at_ l k) : DownEnd b off g c N n l0 w (.returned (.bool t)) w' :=
  ⟨t, rfl, l, hR, hl, hp, down_stop hD hc, hk, hT⟩
theorem down_rel {b off g c N n m j : Nat} {l0 l : List Nat} {w wr w' : World} (hR : Rw w' b off g c (swp l m j)) (hl : l.length = N) (hn : n ≤ N) (hp : l.Perm l0) (hD : DownOk l n m) (hk : ∀ k, n ≤ k → at_ l k = at_ l0 k) (hT : Frm.Turn [g] w wr) (hT' : Frm.Turn [g] wr w')
    (hj : j < n) (j0 : 0 < j) (hj2 : (j - 1) / 2 = m) (hlt : at_ l j < at_ l m) (hmin : ∀ k, 0 < k → k < n → (k - 1) / 2 = m → at_ l j ≤ at_ l k) {v : Value} (hv : v = .int .i64 (j : Int)) : DownRel b off g c N n l0 w v w' :=
  ⟨j, _, by omega, hv, hR, by rw [length_swp]; exact hl, (perm_swp _ _ _ (by omega) (by omega)).trans hp, down_go hD (by omega) hj j0 hj2 hlt hmin,
    fun k h => by rw [swp_self_ge l m j k (by omega) (by omega) (by omega) (by omega)]; exact hk k h, hT.trans hT' (fun k hk => Or.inl hk)⟩

set_option maxHeartbeats 4000000 in
theorem down_any (b off g c N n : Nat) (l0 : List Nat) (w : World) (h : Rw w b off g c l0) (hN : l0.length = N) (hn : n ≤ N) (hu : DownOk l0 n 0) :
    Calls Try.prog 61 #[.iface 105 (.pointer (some ⟨b, off, none⟩)), .int .i64 0, .int .i64 (n : Int)] w (DownEnd b off g c N n l0 w) := by
  have hfew : N ≤ 65536 := by rw [← hN]; exact h.few
  have H := Lib.hid h
  have HU := Lib.hid hu
  have HN := Lib.hid hN
  clear h hu hN
  have e1 := fun (k : Nat) (W : World) (h : W.cell? ⟨b, off, none⟩ = some (.slice (some ⟨g, 0, none⟩) N c)) => at_less k ⟨b, off, none⟩ (.slice (some ⟨g, 0, none⟩) N c) W h
  have e2 := fun (k : Nat) (W : World) (h : W.cell? ⟨b, off, none⟩ = some (.slice (some ⟨g, 0, none⟩) N c)) => at_swap k ⟨b, off, none⟩ (.slice (some ⟨g, 0, none⟩) N c) W h
  go_enter Try.func61, Try.ntmps61
  go_wp2
  go_loopw [7] (fun j wr => DownRel b off g c N n l0 w j wr) (fun j _ => n - (intOf j).toNat)
  case atStart => exact ⟨0, l0, by omega, rfl, H.out, HN.out, List.Perm.refl _, HU.out, fun _ _ => rfl, Frm.Turn.refl _ _⟩
  case round =>
    obtain ⟨m, l, hm, rfl, hR, hl, hp, hU, hk, hT⟩ := hrel
    have hcell := hR.cell
    rw [hl] at hcell
    have HL := Lib.hid hl
    have HR := Lib.hid hR
    have HK := Lib.hid hk
    clear hR hl hk
    have c0 : decide (2 * (m : Int) + 1 < 0) = false := by simp; omega
    by_cases c1 : n ≤ 2 * m + 1
    · have c1' : decide ((n : Int) ≤ 2 * (m : Int) + 1) = true := by simp; omega
      go_wp2
      go_ret
      exact down_end _ HR.out HL.out hp hU HK.out hT (fun k _ _ _ => absurd c1 (by omega))
    · have c1' : decide ((n : Int) ≤ 2 * (m : Int) + 1) = false := by simp; omega
      have b1 : (0 : Int) ≤ 2 * (m : Int) + 1 := by omega
      have b2 : (0 : Int) ≤ 2 * (m : Int) + 1 + 1 := by omega
      have b3 : 2 * (m : Int) + 1 < (N : Int) := by omega
      have b4 : (m : Int) < (N : Int) := by omega
      have p1 := Lib.hid (show (2 * (m : Int) + 1).toNat = 2 * m + 1 by omega)
      have p2 := Lib.hid (show (2 * (m : Int) + 1 + 1).toNat = 2 * m + 2 by omega)
      have p0 := Lib.hid (show ((m : Int)).toNat = m by omega)
      by_cases c2 : 2 * m + 2 < n
      · have c2' : decide (2 * (m : Int) + 1 + 1 < (n : Int)) = true := by simp; omega
        have b5 : 2 * (m : Int) + 1 + 1 < (N : Int) := by omega
        by_cases t2 : at_ l (2 * m + 2) < at_ l (2 * m + 1)
        · have T2 : Hid (decide (at_ l (2 * (m : Int) + 1 + 1).toNat < at_ l (2 * (m : Int) + 1).toNat) = true) := Lib.hid (by rw [p1.out, p2.out]; simpa using t2)
          have T2' := Lib.hid t2
          clear t2
          by_cases t3 : at_ l (2 * m + 2) < at_ l m
          · have T3 : Hid (decide (at_ l (2 * (m : Int) + 1 + 1).toNat < at_ l ((m : Int)).toNat) = true) := Lib.hid (by rw [p0.out, p2.out]; simpa using t3)
            have T3' := Lib.hid t3
            clear t3
            go_wp2_with (first
              | (go_at_call 87; (with_reducible refine (less_row HR.out HL.out _ _ _ b2 b1 b5 b3 T2.out).mono ?_); rintro e w' ⟨rfl, k0, rfl⟩)
              | (go_at_call 87; (with_reducible refine (less_row (HR.out.drewN _) HL.out _ _ _ b2 (by omega) b5 b4 T3.out).mono ?_); rintro e w' ⟨rfl, k1, rfl⟩)
              | (go_at_call 88; (with_reducible refine (swap_row (HR.out.drewN _) HL.out _ _ (by omega) b2 b4 b5).mono ?_); rintro e w' ⟨rfl, hR', hT'⟩))
            go_roundw
            case rel =>
              rw [p0.out, p2.out] at hR'
              exact down_rel hR' HL.out hn hp hU HK.out (hT.drewN _) hT' (by omega) (by omega) (by omega) T3'.out (fun k k0 kn hk => by have h2 := T2'.out; have h3 := T3'.out; have hk' : k = 2 * m + 1 ∨ k = 2 * m + 2 := (by omega); rcases hk' with rfl | rfl <;> omega) (by go_num)
            case measure => simp [intOf]; omega
          · have T3 : Hid (decide (at_ l (2 * (m : Int) + 1 + 1).toNat < at_ l ((m : Int)).toNat) = false) := Lib.hid (by rw [p0.out, p2.out]; simpa using Nat.le_of_not_lt t3)
            have T3' := Lib.hid t3
            clear t3
            go_wp2_with (first
              | (go_at_call 87; (with_reducible refine (less_row HR.out HL.out _ _ _ b2 b1 b5 b3 T2.out).mono ?_); rintro e w' ⟨rfl, k0, rfl⟩)
              | (go_at_call 87; (with_reducible refine (less_row (HR.out.drewN _) HL.out _ _ _ b2 (by omega) b5 b4 T3.out).mono ?_); rintro e w' ⟨rfl, k1, rfl⟩))
            go_ret
            exact down_end _ (HR.out.drewN _) HL.out hp hU HK.out (hT.drewN _) (fun k k0 kn hk => by have h2 := T2'.out; have h3 := T3'.out; have hk' : k = 2 * m + 1 ∨ k = 2 * m + 2 := (by omega); rcases hk' with rfl | rfl <;> omega)
        · have T2 : Hid (decide (at_ l (2 * (m : Int) + 1 + 1).toNat < at_ l (2 * (m : Int) + 1).toNat) = false) := Lib.hid (by rw [p1.out, p2.out]; simpa using Nat.le_of_not_lt t2)
          have T2' := Lib.hid t2
          clear t2
          by_cases t3 : at_ l (2 * m + 1) < at_ l m
          · have T3 : Hid (decide (at_ l (2 * (m : Int) + 1).toNat < at_ l ((m : Int)).toNat) = true) := Lib.hid (by rw [p0.out, p1.out]; simpa using t3)
            have T3' := Lib.hid t3
            clear t3
            go_wp2_with (first
              | (go_at_call 87; (with_reducible refine (less_row HR.out HL.out _ _ _ b2 b1 b5 b3 T2.out).mono ?_); rintro e w' ⟨rfl, k0, rfl⟩)
              | (go_at_call 87; (with_reducible refine (less_row (HR.out.drewN _) HL.out _ _ _ b1 (by omega) b3 b4 T3.out).mono ?_); rintro e w' ⟨rfl, k1, rfl⟩)
              | (go_at_call 88; (with_reducible refine (swap_row (HR.out.drewN _) HL.out _ _ (by omega) b1 b4 b3).mono ?_); rintro e w' ⟨rfl, hR', hT'⟩))
            go_roundw
            case rel =>
              rw [p0.out, p1.out] at hR'
              exact down_rel hR' HL.out hn hp hU HK.out (hT.drewN _) hT' (by omega) (by omega) (by omega) T3'.out (fun k k0 kn hk => by have h2 := T2'.out; have h3 := T3'.out; have hk' : k = 2 * m + 1 ∨ k = 2 * m + 2 := (by omega); rcases hk' with rfl | rfl <;> omega) (by go_num)
            case measure => simp [intOf]; omega
          · have T3 : Hid (decide (at_ l (2 * (m : Int) + 1).toNat < at_ l ((m : Int)).toNat) = false) := Lib.hid (by rw [p0.out, p1.out]; simpa using Nat.le_of_not_lt t3)
            have T3' := Lib.hid t3
            clear t3
            go_wp2_with (first
              | (go_at_call 87; (with_reducible refine (less_row HR.out HL.out _ _ _ b2 b1 b5 b3 T2.out).mono ?_); rintro e w' ⟨rfl, k0, rfl⟩)
              | (go_at_call 87; (with_reducible refine (less_row (HR.out.drewN _) HL.out _ _ _ b1 (by omega) b3 b4 T3.out).mono ?_); rintro e w' ⟨rfl, k1, rfl⟩))
            go_ret
            exact down_end _ (HR.out.drewN _) HL.out hp hU HK.out (hT.drewN _) (fun k k0 kn hk => by have h2 := T2'.out; have h3 := T3'.out; have hk' : k = 2 * m + 1 ∨ k = 2 * m + 2 := (by omega); rcases hk' with rfl | rfl <;> omega)
      · have c2' : decide (2 * (m : Int) + 1 + 1 < (n : Int)) = false := by simp; omega
        by_cases t3 : at_ l (2 * m + 1) < at_ l m
        · have T3 : Hid (decide (at_ l (2 * (m : Int) + 1).toNat < at_ l ((m : Int)).toNat) = true) := Lib.hid (by rw [p0.out, p1.out]; simpa using t3)
          have T3' := Lib.hid t3
          clear t3
          go_wp2_with (first
            | (go_at_call 87; (with_reducible refine (less_row HR.out HL.out _ _ _ b1 (by omega) b3 b4 T3.out).mono ?_); rintro e w' ⟨rfl, k1, rfl⟩)
            | (go_at_call 88; (with_reducible refine (swap_row (HR.out.drewN _) HL.out _ _ (by omega) b1 b4 b3).mono ?_); rintro e w' ⟨rfl, hR', hT'⟩))
          go_roundw
          case rel =>
            rw [p0.out, p1.out] at hR'
            exact down_rel hR' HL.out hn hp hU HK.out (hT.drewN _) hT' (by omega) (by omega) (by omega) T3'.out (fun k k0 kn hk => by have h3 := T3'.out; have hk' : k = 2 * m + 1 := (by omega); subst hk'; omega) (by go_num)
          case measure => simp [intOf]; omega
        · have T3 : Hid (decide (at_ l (2 * (m : Int) + 1).toNat < at_ l ((m : Int)).toNat) = false) := Lib.hid (by rw [p0.out, p1.out]; simpa using Nat.le_of_not_lt t3)
          have T3' := Lib.hid t3
          clear t3
          go_wp2_with (first
            | (go_at_call 87; (with_reducible refine (less_row HR.out HL.out _ _ _ b1 (by omega) b3 b4 T3.out).mono ?_); rintro e w' ⟨rfl, k1, rfl⟩))
          go_ret
          exact down_end _ (HR.out.drewN _) HL.out hp hU HK.out (hT.drewN _) (fun k k0 kn hk => by have h3 := T3'.out; have hk' : k = 2 * m + 1 := (by omega); subst hk'; omega)
end Lst
end Go.Proofs.Ytgodlddbocmcmaa
