/- The library's heap over a row of numbers: what up, down, Push and Pop do. -/
/- The library's heap over a row of numbers: Push and Pop. -/
import Derived.Test.YtpajafecodkndaaGreatLeastRow
import Derived.Test.YtpajafecodkndaaGreatLeastPlain
import Derived.Deep.LoopGhost
set_option linter.unusedVariables false
set_option linter.unusedSimpArgs false
namespace Go.Proofs.YtpajafecodkndaaGreat
namespace Lst
open Go.RowKit Hp

def ints (l : List Nat) : List Value := l.map fun (x : Nat) => .int .i64 (x : Int)
/-- Behind the pointer at offset off of block b lies the slice of block g that holds l. -/
structure Rw (w : World) (b off g c : Nat) (l : List Nat) : Prop where
  cell : w.cell? ⟨b, off, none⟩ = some (.slice (some ⟨g, 0, none⟩) l.length c)
  thaw : w.frozen? ⟨b, off, none⟩ = false
  row : ∃ cur, w.heap[g]? = some (.cells cur 3 (0, 0)) ∧ cur.size = c ∧ cur.toList.take l.length = ints l
  room : l.length ≤ c
  fit : c ≤ maxLen
  ne : g ≠ b
  few : l.length ≤ 65536

theorem ints_at (l : List Nat) (i : Nat) (h : i < l.length) : (ints l)[i]? = some (.int .i64 (at_ l i : Int)) := by
  simp [ints, at_, List.getD_eq_getElem?_getD, h]
theorem Rw.at {w : World} {b off g c : Nat} {l : List Nat} (h : Rw w b off g c l) (i : Nat) (hi : i < l.length) : w.cell? ⟨g, i, none⟩ = some (.int .i64 (at_ l i : Int)) := by
  obtain ⟨cur, hg, hs, ht⟩ := h.row
  rw [Frm.cell_row w g i cur _ _ hg]
  have := ints_at l i hi
  rw [← ht, List.getElem?_take, if_pos hi] at this
  simpa using this
theorem Rw.thawed {w : World} {b off g c : Nat} {l : List Nat} (h : Rw w b off g c l) (i : Nat) : w.frozen? ⟨g, i, none⟩ = false := by
  obtain ⟨cur, hg, _⟩ := h.row
  exact Frm.frozen_row w g i cur _ hg
theorem Rw.drewN {w : World} {b off g c : Nat} {l : List Nat} (h : Rw w b off g c l) (k : Nat) : Rw (w.drewN k) b off g c l :=
  ⟨h.cell, h.thaw, h.row, h.room, h.fit, h.ne, h.few⟩
theorem Rw.set {w : World} {b off g c : Nat} {l : List Nat} (h : Rw w b off g c l) (i : Nat) (hi : i < l.length) (x : Nat) : Rw (w.setCell ⟨g, i, none⟩ (.int .i64 (x : Int))) b off g c (l.set i x) := by
  obtain ⟨cur, hg, hs, ht⟩ := h.row
  have hne : (⟨g, i, none⟩ : Addr) ≠ ⟨b, off, none⟩ := fun e => h.ne (by simpa using congrArg Addr.block e)
  refine ⟨?_, by rw [World.frozen?_setCell]; exact h.thaw, ⟨_, Frm.heap_set w g i cur _ _ _ hg, by simp [hs], ?_⟩, by simpa using h.room, h.fit, h.ne, by simpa using h.few⟩
  · rw [World.cell?_setCell_other _ _ _ _ hne]; simpa using h.cell
  · simp only [Array.toList_setIfInBounds, List.length_set, List.take_set, ht, ints, List.map_set]
theorem Rw.swap {w : World} {b off g c : Nat} {l : List Nat} (h : Rw w b off g c l) (i j : Nat) (hi : i < l.length) (hj : j < l.length) :
    Rw ((w.setCell ⟨g, i, none⟩ (.int .i64 (at_ l j : Int))).setCell ⟨g, j, none⟩ (.int .i64 (at_ l i : Int))) b off g c (swp l i j) :=
  (h.set i hi (at_ l j)).set j (by simpa using hj) (at_ l i)
theorem swap_turn (w : World) (g i j : Nat) (u v : Value) (k : Nat) : Frm.Turn [g] w (((w.setCell ⟨g, i, none⟩ u).setCell ⟨g, j, none⟩ v).drewN k) :=
  (((Frm.Turn.refl [g] w).setCell (Or.inl (by simp)) u).setCell (Or.inl (by simp)) v).drewN k

/-- Is the i-th less than the j-th? -/
theorem less_row {w : World} {b off g c n : Nat} {l : List Nat} (h : Rw w b off g c l) (hn : l.length = n) (i j : Int) (t : Bool) (i0 : 0 ≤ i) (j0 : 0 ≤ j) (hi : i < n) (hj : j < n) (ht : decide (at_ l i.toNat < at_ l j.toNat) = t) :
    Calls Tryz.prog 229 #[.slice (some ⟨g, 0, none⟩) n c, .int .i64 i, .int .i64 j] w
      fun e w' => e = .returned (.bool t) ∧ ∃ k, w' = w.drewN k := by
  subst hn
  obtain ⟨i, rfl⟩ := Int.eq_ofNat_of_zero_le i0
  obtain ⟨j, rfl⟩ := Int.eq_ofNat_of_zero_le j0
  refine (less_any g i j l.length c _ _ w (by omega) (by omega) h.few (h.at i (by omega)) (h.at j (by omega))).mono fun e w' ⟨h1, h2⟩ => ⟨?_, h2⟩
  rw [h1, ← ht]
  simp
theorem swap_row {w : World} {b off g c n : Nat} {l : List Nat} (h : Rw w b off g c l) (hn : l.length = n) (i j : Int) (i0 : 0 ≤ i) (j0 : 0 ≤ j) (hi : i < n) (hj : j < n) :
    Calls Tryz.prog 230 #[.slice (some ⟨g, 0, none⟩) n c, .int .i64 i, .int .i64 j] w
      fun e w' => e = .returned (.tuple #[]) ∧ Rw w' b off g c (swp l i.toNat j.toNat) ∧ Frm.Turn [g] w w' := by
  subst hn
  obtain ⟨i, rfl⟩ := Int.eq_ofNat_of_zero_le i0
  obtain ⟨j, rfl⟩ := Int.eq_ofNat_of_zero_le j0
  refine (swap_any g i j l.length c _ _ w (by omega) (by omega) h.few (h.at i (by omega)) (h.at j (by omega)) (h.thawed i) (h.thawed j)).mono fun e w' ⟨h1, k, h2⟩ => ⟨h1, ?_, ?_⟩
  · subst h2; exact (h.swap i j (by omega) (by omega)).drewN k
  · subst h2; exact swap_turn _ _ _ _ _ _ _

def UpRel (b off g c n : Nat) (l0 : List Nat) (w : World) (j : Value) (wr : World) : Prop :=
  ∃ (m : Nat) (l : List Nat), m < n ∧ j = .int .i64 (m : Int) ∧ Rw wr b off g c l ∧ l.length = n ∧ l.Perm l0 ∧ UpOk l n m ∧ Frm.Turn [g] w wr
def UpEnd (b off g c n : Nat) (l0 : List Nat) (w : World) (e : Ending) (w' : World) : Prop :=
  e = .returned (.tuple #[]) ∧ ∃ l, Rw w' b off g c l ∧ l.length = n ∧ l.Perm l0 ∧ Heap l n ∧ Frm.Turn [g] w w'

set_option maxHeartbeats 1000000 in
theorem up_any (b off g c n : Nat) (l0 : List Nat) (j : Nat) (w : World) (h : Rw w b off g c l0) (hn : l0.length = n) (hj : j < n) (hu : UpOk l0 n j) :
    Calls Tryz.prog 201 #[.iface 231 (.pointer (some ⟨b, off, none⟩)), .int .i64 (j : Int)] w (UpEnd b off g c n l0 w) := by
  have hfew : n ≤ 65536 := by rw [← hn]; exact h.few
  have H := Lib.hid h
  have HU := Lib.hid hu
  have HN := Lib.hid hn
  clear h hu hn
  have e1 := fun (k : Nat) (W : World) (h : W.cell? ⟨b, off, none⟩ = some (.slice (some ⟨g, 0, none⟩) n c)) => at_less k ⟨b, off, none⟩ (.slice (some ⟨g, 0, none⟩) n c) W h
  have e2 := fun (k : Nat) (W : World) (h : W.cell? ⟨b, off, none⟩ = some (.slice (some ⟨g, 0, none⟩) n c)) => at_swap k ⟨b, off, none⟩ (.slice (some ⟨g, 0, none⟩) n c) W h
  go_enter Tryz.func201, Tryz.ntmps201
  go_wp2
  go_loopw [1] (fun j wr => UpRel b off g c n l0 w j wr) (fun j _ => (intOf j).toNat)
  case atStart => exact ⟨j, l0, hj, rfl, H.out, HN.out, List.Perm.refl _, HU.out, Frm.Turn.refl _ _⟩
  case round =>
    obtain ⟨m, l, hm, rfl, hR, hl, hp, hU, hT⟩ := hrel
    have hcell := hR.cell
    rw [hl] at hcell
    have HL := Lib.hid hl
    have HR := Lib.hid hR
    clear hR hl
    rcases Nat.eq_zero_or_pos m with rfl | hpos
    · go_wp2
      go_end0
      exact ⟨rfl, l, HR.out, HL.out, hp, up_stop0 hU, hT⟩
    · have e0 : (((m : Int) - 1) / 2 == (m : Int)) = false := beq_eq_false_iff_ne.2 (by omega)
      have b1 : (0 : Int) ≤ (m : Int) - 1 := by omega
      have b2 : (0 : Int) ≤ ((m : Int) - 1) / 2 := by omega
      have b3 : ((m : Int) - 1) / 2 < (n : Int) := by omega
      have b4 : (m : Int) < (n : Int) := by omega
      have ep : (((m : Int) - 1) / 2).toNat = (m - 1) / 2 := by omega
      have EP := Lib.hid ep
      clear ep
      by_cases ht : at_ l m < at_ l ((m - 1) / 2)
      · have HTT : Hid (decide (at_ l ((m : Int)).toNat < at_ l (((m : Int) - 1) / 2).toNat) = true) := Lib.hid (by rw [EP.out]; simpa using ht)
        have HT := Lib.hid ht
        clear ht
        go_wp2_with (first
          | (go_at_call 229; (with_reducible refine (less_row HR.out HL.out _ _ _ (by omega) b2 b4 b3 HTT.out).mono ?_); rintro e w' ⟨rfl, k, rfl⟩)
          | (go_at_call 230; (with_reducible refine (swap_row (HR.out.drewN _) HL.out _ _ b2 (by omega) b3 b4).mono ?_); rintro e w' ⟨rfl, hR', hT'⟩))
        go_roundw
        case rel =>
          rw [EP.out] at hR'
          have hlt := HT.out
          have hll := HL.out
          exact ⟨(m - 1) / 2, _, by omega, by go_num, hR', by rw [length_swp]; exact hll, (perm_swp _ _ _ (by omega) (by omega)).trans hp, by have := up_go (by rw [hll]; exact hU) (by omega) hpos hlt; rw [hll] at this; exact this, (hT.drewN k).trans hT' (fun k hk => Or.inl hk)⟩
        case measure => simp [intOf]; omega
      · have HTT : Hid (decide (at_ l ((m : Int)).toNat < at_ l (((m : Int) - 1) / 2).toNat) = false) := Lib.hid (by rw [EP.out]; simpa using Nat.le_of_not_lt ht)
        have HT := Lib.hid ht
        clear ht
        go_wp2_with (first
          | (go_at_call 229; (with_reducible refine (less_row HR.out HL.out _ _ _ (by omega) b2 b4 b3 HTT.out).mono ?_); rintro e w' ⟨rfl, k, rfl⟩))
        go_end0
        exact ⟨rfl, l, HR.out.drewN k, HL.out, hp, up_stop hU (Nat.le_of_not_lt HT.out), hT.drewN k⟩

def DownRel (b off g c N n : Nat) (l0 : List Nat) (w : World) (i : Value) (wr : World) : Prop :=
  ∃ (m : Nat) (l : List Nat), m ≤ n ∧ i = .int .i64 (m : Int) ∧ Rw wr b off g c l ∧ l.length = N ∧ l.Perm l0 ∧ DownOk l n m ∧ (∀ k, n ≤ k → at_ l k = at_ l0 k) ∧ Frm.Turn [g] w wr
def DownEnd (b off g c N n : Nat) (l0 : List Nat) (w : World) (e : Ending) (w' : World) : Prop :=
  ∃ t, e = .returned (.bool t) ∧ ∃ l, Rw w' b off g c l ∧ l.length = N ∧ l.Perm l0 ∧ Heap l n ∧ (∀ k, n ≤ k → at_ l k = at_ l0 k) ∧ Frm.Turn [g] w w'
theorem down_end {b off g c N n m : Nat} {l0 l : List Nat} {w w' : World} (t : Bool) (hR : Rw w' b off g c l) (hl : l.length = N) (hp : l.Perm l0) (hD : DownOk l n m) (hk : ∀ k, n ≤ k → at_ l k = at_ l0 k) (hT : Frm.Turn [g] w w')
    (hc : ∀ k, 0 < k → k < n → (k - 1) / 2 = m → at_ l m ≤ at_ l k) : DownEnd b off g c N n l0 w (.returned (.bool t)) w' :=
  ⟨t, rfl, l, hR, hl, hp, down_stop hD hc, hk, hT⟩
theorem down_rel {b off g c N n m j : Nat} {l0 l : List Nat} {w wr w' : World} (hR : Rw w' b off g c (swp l m j)) (hl : l.length = N) (hn : n ≤ N) (hp : l.Perm l0) (hD : DownOk l n m) (hk : ∀ k, n ≤ k → at_ l k = at_ l0 k) (hT : Frm.Turn [g] w wr) (hT' : Frm.Turn [g] wr w')
    (hj : j < n) (j0 : 0 < j) (hj2 : (j - 1) / 2 = m) (hlt : at_ l j < at_ l m) (hmin : ∀ k, 0 < k → k < n → (k - 1) / 2 = m → at_ l j ≤ at_ l k) {v : Value} (hv : v = .int .i64 (j : Int)) : DownRel b off g c N n l0 w v w' :=
  ⟨j, _, by omega, hv, hR, by rw [length_swp]; exact hl, (perm_swp _ _ _ (by omega) (by omega)).trans hp, down_go hD (by omega) hj j0 hj2 hlt hmin,
    fun k h => by rw [swp_self_ge l m j k (by omega) (by omega) (by omega) (by omega)]; exact hk k h, hT.trans hT' (fun k hk => Or.inl hk)⟩

set_option maxHeartbeats 4000000 in
theorem down_any (b off g c N n : Nat) (l0 : List Nat) (w : World) (h : Rw w b off g c l0) (hN : l0.length = N) (hn : n ≤ N) (hu : DownOk l0 n 0) :
    Calls Tryz.prog 158 #[.iface 231 (.pointer (some ⟨b, off, none⟩)), .int .i64 0, .int .i64 (n : Int)] w (DownEnd b off g c N n l0 w) := by
  have hfew : N ≤ 65536 := by rw [← hN]; exact h.few
  have H := Lib.hid h
  have HU := Lib.hid hu
  have HN := Lib.hid hN
  clear h hu hN
  have e1 := fun (k : Nat) (W : World) (h : W.cell? ⟨b, off, none⟩ = some (.slice (some ⟨g, 0, none⟩) N c)) => at_less k ⟨b, off, none⟩ (.slice (some ⟨g, 0, none⟩) N c) W h
  have e2 := fun (k : Nat) (W : World) (h : W.cell? ⟨b, off, none⟩ = some (.slice (some ⟨g, 0, none⟩) N c)) => at_swap k ⟨b, off, none⟩ (.slice (some ⟨g, 0, none⟩) N c) W h
  go_enter Tryz.func158, Tryz.ntmps158
  go_wp2
  go_loopw [7] (fun j wr => DownRel b off g c N n l0 w j wr) (fun j _ => n - (intOf j).toNat)
  case atStart => exact ⟨0, l0, by omega, rfl, H.out, HN.out, List.Perm.refl _, HU.out, fun _ _ => rfl, Frm.Turn.refl _ _⟩
  case round =>
    obtain ⟨m, l, hm, rfl, hR, hl, hp, hU, hk, hT⟩ := hrel
    have hcell := hR.cell
    rw [hl] at hcell
    have HL := Lib.hid hl
    have HR := Lib.hid hR
    have HK := Lib.hid hk
    clear hR hl hk
    have c0 : decide (2 * (m : Int) + 1 < 0) = false := by simp; omega
    by_cases c1 : n ≤ 2 * m + 1
    · have c1' : decide ((n : Int) ≤ 2 * (m : Int) + 1) = true := by simp; omega
      go_wp2
      go_ret
      exact down_end _ HR.out HL.out hp hU HK.out hT (fun k _ _ _ => absurd c1 (by omega))
    · have c1' : decide ((n : Int) ≤ 2 * (m : Int) + 1) = false := by simp; omega
      have b1 : (0 : Int) ≤ 2 * (m : Int) + 1 := by omega
      have b2 : (0 : Int) ≤ 2 * (m : Int) + 1 + 1 := by omega
      have b3 : 2 * (m : Int) + 1 < (N : Int) := by omega
      have b4 : (m : Int) < (N : Int) := by omega
      have p1 := Lib.hid (show (2 * (m : Int) + 1).toNat = 2 * m + 1 by omega)
      have p2 := Lib.hid (show (2 * (m : Int) + 1 + 1).toNat = 2 * m + 2 by omega)
      have p0 := Lib.hid (show ((m : Int)).toNat = m by omega)
      by_cases c2 : 2 * m + 2 < n
      · have c2' : decide (2 * (m : Int) + 1 + 1 < (n : Int)) = true := by simp; omega
        have b5 : 2 * (m : Int) + 1 + 1 < (N : Int) := by omega
        by_cases t2 : at_ l (2 * m + 2) < at_ l (2 * m + 1)
        · have T2 : Hid (decide (at_ l (2 * (m : Int) + 1 + 1).toNat < at_ l (2 * (m : Int) + 1).toNat) = true) := Lib.hid (by rw [p1.out, p2.out]; simpa using t2)
          have T2' := Lib.hid t2
          clear t2
          by_cases t3 : at_ l (2 * m + 2) < at_ l m
          · have T3 : Hid (decide (at_ l (2 * (m : Int) + 1 + 1).toNat < at_ l ((m : Int)).toNat) = true) := Lib.hid (by rw [p0.out, p2.out]; simpa using t3)
            have T3' := Lib.hid t3
            clear t3
            go_wp2_with (first
              | (go_at_call 229; (with_reducible refine (less_row HR.out HL.out _ _ _ b2 b1 b5 b3 T2.out).mono ?_); rintro e w' ⟨rfl, k0, rfl⟩)
              | (go_at_call 229; (with_reducible refine (less_row (HR.out.drewN _) HL.out _ _ _ b2 (by omega) b5 b4 T3.out).mono ?_); rintro e w' ⟨rfl, k1, rfl⟩)
              | (go_at_call 230; (with_reducible refine (swap_row (HR.out.drewN _) HL.out _ _ (by omega) b2 b4 b5).mono ?_); rintro e w' ⟨rfl, hR', hT'⟩))
            go_roundw
            case rel =>
              rw [p0.out, p2.out] at hR'
              exact down_rel hR' HL.out hn hp hU HK.out (hT.drewN _) hT' (by omega) (by omega) (by omega) T3'.out (fun k k0 kn hk => by have h2 := T2'.out; have h3 := T3'.out; have hk' : k = 2 * m + 1 ∨ k = 2 * m + 2 := (by omega); rcases hk' with rfl | rfl <;> omega) (by go_num)
            case measure => simp [intOf]; omega
          · have T3 : Hid (decide (at_ l (2 * (m : Int) + 1 + 1).toNat < at_ l ((m : Int)).toNat) = false) := Lib.hid (by rw [p0.out, p2.out]; simpa using Nat.le_of_not_lt t3)
            have T3' := Lib.hid t3
            clear t3
            go_wp2_with (first
              | (go_at_call 229; (with_reducible refine (less_row HR.out HL.out _ _ _ b2 b1 b5 b3 T2.out).mono ?_); rintro e w' ⟨rfl, k0, rfl⟩)
              | (go_at_call 229; (with_reducible refine (less_row (HR.out.drewN _) HL.out _ _ _ b2 (by omega) b5 b4 T3.out).mono ?_); rintro e w' ⟨rfl, k1, rfl⟩))
            go_ret
            exact down_end _ (HR.out.drewN _) HL.out hp hU HK.out (hT.drewN _) (fun k k0 kn hk => by have h2 := T2'.out; have h3 := T3'.out; have hk' : k = 2 * m + 1 ∨ k = 2 * m + 2 := (by omega); rcases hk' with rfl | rfl <;> omega)
        · have T2 : Hid (decide (at_ l (2 * (m : Int) + 1 + 1).toNat < at_ l (2 * (m : Int) + 1).toNat) = false) := Lib.hid (by rw [p1.out, p2.out]; simpa using Nat.le_of_not_lt t2)
          have T2' := Lib.hid t2
          clear t2
          by_cases t3 : at_ l (2 * m + 1) < at_ l m
          · have T3 : Hid (decide (at_ l (2 * (m : Int) + 1).toNat < at_ l ((m : Int)).toNat) = true) := Lib.hid (by rw [p0.out, p1.out]; simpa using t3)
            have T3' := Lib.hid t3
            clear t3
            go_wp2_with (first
              | (go_at_call 229; (with_reducible refine (less_row HR.out HL.out _ _ _ b2 b1 b5 b3 T2.out).mono ?_); rintro e w' ⟨rfl, k0, rfl⟩)
              | (go_at_call 229; (with_reducible refine (less_row (HR.out.drewN _) HL.out _ _ _ b1 (by omega) b3 b4 T3.out).mono ?_); rintro e w' ⟨rfl, k1, rfl⟩)
              | (go_at_call 230; (with_reducible refine (swap_row (HR.out.drewN _) HL.out _ _ (by omega) b1 b4 b3).mono ?_); rintro e w' ⟨rfl, hR', hT'⟩))
            go_roundw
            case rel =>
              rw [p0.out, p1.out] at hR'
              exact down_rel hR' HL.out hn hp hU HK.out (hT.drewN _) hT' (by omega) (by omega) (by omega) T3'.out (fun k k0 kn hk => by have h2 := T2'.out; have h3 := T3'.out; have hk' : k = 2 * m + 1 ∨ k = 2 * m + 2 := (by omega); rcases hk' with rfl | rfl <;> omega) (by go_num)
            case measure => simp [intOf]; omega
          · have T3 : Hid (decide (at_ l (2 * (m : Int) + 1).toNat < at_ l ((m : Int)).toNat) = false) := Lib.hid (by rw [p0.out, p1.out]; simpa using Nat.le_of_not_lt t3)
            have T3' := Lib.hid t3
            clear t3
            go_wp2_with (first
              | (go_at_call 229; (with_reducible refine (less_row HR.out HL.out _ _ _ b2 b1 b5 b3 T2.out).mono ?_); rintro e w' ⟨rfl, k0, rfl⟩)
              | (go_at_call 229; (with_reducible refine (less_row (HR.out.drewN _) HL.out _ _ _ b1 (by omega) b3 b4 T3.out).mono ?_); rintro e w' ⟨rfl, k1, rfl⟩))
            go_ret
            exact down_end _ (HR.out.drewN _) HL.out hp hU HK.out (hT.drewN _) (fun k k0 kn hk => by have h2 := T2'.out; have h3 := T3'.out; have hk' : k = 2 * m + 1 ∨ k = 2 * m + 2 := (by omega); rcases hk' with rfl | rfl <;> omega)
      · have c2' : decide (2 * (m : Int) + 1 + 1 < (n : Int)) = false := by simp; omega
        by_cases t3 : at_ l (2 * m + 1) < at_ l m
        · have T3 : Hid (decide (at_ l (2 * (m : Int) + 1).toNat < at_ l ((m : Int)).toNat) = true) := Lib.hid (by rw [p0.out, p1.out]; simpa using t3)
          have T3' := Lib.hid t3
          clear t3
          go_wp2_with (first
            | (go_at_call 229; (with_reducible refine (less_row HR.out HL.out _ _ _ b1 (by omega) b3 b4 T3.out).mono ?_); rintro e w' ⟨rfl, k1, rfl⟩)
            | (go_at_call 230; (with_reducible refine (swap_row (HR.out.drewN _) HL.out _ _ (by omega) b1 b4 b3).mono ?_); rintro e w' ⟨rfl, hR', hT'⟩))
          go_roundw
          case rel =>
            rw [p0.out, p1.out] at hR'
            exact down_rel hR' HL.out hn hp hU HK.out (hT.drewN _) hT' (by omega) (by omega) (by omega) T3'.out (fun k k0 kn hk => by have h3 := T3'.out; have hk' : k = 2 * m + 1 := (by omega); subst hk'; omega) (by go_num)
          case measure => simp [intOf]; omega
        · have T3 : Hid (decide (at_ l (2 * (m : Int) + 1).toNat < at_ l ((m : Int)).toNat) = false) := Lib.hid (by rw [p0.out, p1.out]; simpa using Nat.le_of_not_lt t3)
          have T3' := Lib.hid t3
          clear t3
          go_wp2_with (first
            | (go_at_call 229; (with_reducible refine (less_row HR.out HL.out _ _ _ b1 (by omega) b3 b4 T3.out).mono ?_); rintro e w' ⟨rfl, k1, rfl⟩))
          go_ret
          exact down_end _ (HR.out.drewN _) HL.out hp hU HK.out (hT.drewN _) (fun k k0 kn hk => by have h3 := T3'.out; have hk' : k = 2 * m + 1 := (by omega); subst hk'; omega)
end Lst
end Go.Proofs.YtpajafecodkndaaGreat

set_option linter.unusedVariables false
set_option linter.unusedSimpArgs false
namespace Go.Proofs.YtpajafecodkndaaGreat
namespace Lst
open Go.RowKit Hp

/-- Behind the pointer at offset off of block b lies a slice that holds l: nil, or in the one block of F. -/
def Rv (w : World) (b off : Nat) (F : List Nat) (l : List Nat) : Prop :=
  (l = [] ∧ F = [] ∧ w.cell? ⟨b, off, none⟩ = some (.slice none 0 0) ∧ w.frozen? ⟨b, off, none⟩ = false) ∨ ∃ g c, F = [g] ∧ Rw w b off g c l
/-- Of block b's cells the one at off alone may have turned. -/
structure Keeps (b off : Nat) (w w' : World) : Prop where
  cell : ∀ o, o ≠ off → w'.cell? ⟨b, o, none⟩ = w.cell? ⟨b, o, none⟩
  frozen : ∀ o, w'.frozen? ⟨b, o, none⟩ = w.frozen? ⟨b, o, none⟩
theorem Keeps.trans {b off : Nat} {w w' w'' : World} (h : Keeps b off w w') (k : Keeps b off w' w'') : Keeps b off w w'' :=
  ⟨fun o ho => (k.cell o ho).trans (h.cell o ho), fun o => (k.frozen o).trans (h.frozen o)⟩
theorem Keeps.of_turn {b off : Nat} {F : List Nat} {w w' : World} (h : Frm.Turn F w w') (hb : b < w.heap.size) (hn : b ∉ F) : Keeps b off w w' :=
  ⟨fun _ _ => World.cell?_of_block (h.block b hb hn), fun _ => World.frozen?_of_block (h.block b hb hn)⟩
theorem Keeps.set {b off : Nat} {w : World} (v : Value) (k : Nat) : Keeps b off w ((w.setCell ⟨b, off, none⟩ v).drewN k) :=
  ⟨fun o ho => World.cell?_setCell_other w ⟨b, off, none⟩ ⟨b, o, none⟩ v (fun e => ho (by simpa using (congrArg Addr.off e).symm)), fun o => World.frozen?_setCell w ⟨b, off, none⟩ ⟨b, o, none⟩ v⟩

theorem length_ints (l : List Nat) : (ints l).length = l.length := by simp [ints]
theorem Rw.b_lt {w : World} {b off g c : Nat} {l : List Nat} (h : Rw w b off g c l) : b < w.heap.size := World.block_lt_of_cell? w _ h.cell
theorem Rw.owns {w : World} {b off g c : Nat} {l : List Nat} (h : Rw w b off g c l) : w.ownsRow 0 3 1 (.slice (some ⟨g, 0, none⟩) l.length c) l.length (ints l) := by
  obtain ⟨cur, hg, hs, ht⟩ := h.row
  exact ⟨by simp [ints], Or.inr ⟨g, c, cur, rfl, Nat.zero_le _, hg, h.room, h.fit, by simpa using hs, by simpa using ht⟩⟩
theorem Rv.owns {w : World} {b off : Nat} {F l : List Nat} (h : Rv w b off F l) : ∃ ao c, w.cell? ⟨b, off, none⟩ = some (.slice ao l.length c) ∧ w.ownsRow 0 3 1 (.slice ao l.length c) l.length (ints l) ∧
    w.frozen? ⟨b, off, none⟩ = false ∧ (Value.slice ao l.length c).ownBlock.toList = F ∧ (Value.slice ao l.length c).ownBlock ≠ some b := by
  rcases h with ⟨rfl, rfl, h1, h2⟩ | ⟨g, c, rfl, hR⟩
  · exact ⟨none, 0, h1, World.ownsRow_nil w 0 _ 1, h2, rfl, by simp [Value.ownBlock]⟩
  · exact ⟨_, _, hR.cell, hR.owns, hR.thaw, rfl, by simpa [Value.ownBlock] using hR.ne⟩
/-- Behind an append: a row that holds at least one number. -/
theorem rw_of_owns {w : World} {b off : Nat} {ao : Option Addr} {c n : Nat} {l : List Nat} (hl : l.length = n + 1) (hc : w.cell? ⟨b, off, none⟩ = some (.slice ao (n + 1) c)) (hf : w.frozen? ⟨b, off, none⟩ = false)
    (ho : w.ownsRow 0 3 1 (.slice ao (n + 1) c) (n + 1) (ints l)) (hne : (Value.slice ao (n + 1) c).ownBlock ≠ some b) (hfew : n + 1 ≤ 65536) : ∃ g, ao = some ⟨g, 0, none⟩ ∧ Rw w b off g c l := by
  rcases ho.2 with ⟨h, h0⟩ | ⟨g, cap, cur, h, _, hg, h1, h2, h3, h4⟩
  · omega
  · cases h
    refine ⟨g, rfl, by rw [hl]; exact hc, hf, ⟨cur, hg, by simpa using h3, by rw [hl]; simpa using h4⟩, by omega, h2, ?_, by omega⟩
    intro e; subst e; exact hne rfl

def PushEnd (b off : Nat) (F l : List Nat) (x : Nat) (w : World) (e : Ending) (w' : World) : Prop :=
  e = .returned (.tuple #[]) ∧ ∃ F' l', Rv w' b off F' l' ∧ l'.Perm (l ++ [x]) ∧ Heap l' l'.length ∧ Frm.Turn (b :: F) w w' ∧ Keeps b off w w' ∧ ∀ k, k ∈ F' → k ∈ F ∨ w.heap.size ≤ k

theorem len_row {v : Value} {ao : Option Addr} {n c : Nat} (w : World) (hv : v = .slice ao n c) :
    Calls Tryz.prog 228 #[v] w fun e w' => e = .returned (.int .i64 (n : Int)) ∧ w = w' := len_any v ao n c w hv

theorem push_row (b off : Nat) (F l : List Nat) (x : Nat) (w : World) (h : Rv w b off F l) (hb : b < w.heap.size) (hfew : l.length ≤ 65535) :
    Calls Tryz.prog 232 #[.pointer (some ⟨b, off, none⟩), .iface 3 (.int .i64 (x : Int))] w fun e w' => e = .returned (.tuple #[]) ∧
      ∃ g c, Rw w' b off g c (l ++ [x]) ∧ Frm.Turn (b :: F) w w' ∧ Keeps b off w w' ∧ (g ∈ F ∨ w.heap.size ≤ g) := by
  obtain ⟨ao, c, hc, ho, hf, hF, hne⟩ := h.owns
  have hlen : (ints l).length = l.length := length_ints l
  have hpush := push_any b off ao c (ints l) (x : Int) w hb (by rw [hlen]; exact hc) hf (by rw [hlen]; exact ho) (by omega) (by rw [hlen]; exact hne)
  rw [hlen] at hpush
  refine hpush.mono ?_
  rintro e w' ⟨rfl, ao', c', w1, k, rfl, hown, hT, hloc⟩
  rw [hF] at hT
  have hbF : b ∉ F := by
    rw [← hF]; intro hm
    exact hne (by simpa using hm)
  have hc1 := hT.cell hc hbF
  have hf1 : w1.frozen? ⟨b, off, none⟩ = false := (hT.frozen (a := ⟨b, off, none⟩) hb hbF).trans hf
  have hx : ints l ++ [Value.int .i64 (x : Int)] = ints (l ++ [x]) := by simp [ints]
  rw [hx] at hown
  have hne' : (Value.slice ao' (l.length + 1) c').ownBlock ≠ some b := by
    rcases hloc with h1 | ⟨g, h1, h2⟩
    · rw [h1]; exact hne
    · rw [h1]; simp; omega
  have hcell : ((w1.setCell ⟨b, off, none⟩ (.slice ao' (l.length + 1) c')).drewN k).cell? ⟨b, off, none⟩ = some (.slice ao' (l.length + 1) c') := World.cell?_setCell_same w1 _ _ hc1
  have hown' : ((w1.setCell ⟨b, off, none⟩ (.slice ao' (l.length + 1) c')).drewN k).ownsRow 0 3 1 (.slice ao' (l.length + 1) c') (l.length + 1) (ints (l ++ [x])) := by
    obtain ⟨o1, o2⟩ := hown
    refine ⟨o1, o2.imp id ?_⟩
    rintro ⟨g, cap, cur, h1, h2, h3, h4⟩
    refine ⟨g, cap, cur, h1, h2, ?_, h4⟩
    show (w1.setCell ⟨b, off, none⟩ (.slice ao' (l.length + 1) c')).heap[g]? = _
    rw [Below.heap_setCell _ _ _ _ (fun e => by rw [h1] at hne'; exact hne' (by simp [Value.ownBlock]; exact e))]
    exact h3
  obtain ⟨g, rfl, hR⟩ := rw_of_owns (l := l ++ [x]) (by simp) hcell ((World.frozen?_setCell w1 _ _ _).trans hf1) hown' hne' (by omega)
  refine ⟨rfl, g, c', hR, (((hT.mono (fun k hk => List.mem_cons_of_mem _ hk)).setCell (Or.inl (by simp)) _).drewN k), (Keeps.of_turn hT hb hbF).trans (Keeps.set _ _), ?_⟩
  rcases hloc with h1 | ⟨g', h1, h2⟩
  · left; rw [← hF, ← h1]; simp [Value.ownBlock]
  · right
    simp [Value.ownBlock] at h1
    omega

set_option maxHeartbeats 1000000 in
theorem heap_push (b off : Nat) (F l : List Nat) (x : Nat) (w : World) (h : Rv w b off F l) (hb : b < w.heap.size) (hbF : b ∉ F) (hh : Heap l l.length) (hfew : l.length ≤ 65535) :
    Calls Tryz.prog 199 #[.iface 231 (.pointer (some ⟨b, off, none⟩)), .iface 3 (.int .i64 (x : Int))] w (PushEnd b off F l x w) := by
  have HP := Lib.hid (push_row b off F l x w h hb hfew)
  have HH := Lib.hid hh
  have H := Lib.hid h
  clear hh h
  have e3 := fun (k : Nat) (W : World) (v : Value) (h : W.cell? ⟨b, off, none⟩ = some v) => at_len k ⟨b, off, none⟩ v W h
  have e4 := fun (k : Nat) (W : World) => at_push k ⟨b, off, none⟩ W
  go_enter Tryz.func199, Tryz.ntmps199
  go_wp2_with fail
  refine (HP.out).mono ?_
  rintro e w1 ⟨rfl, g, c, hR, hT, hK, hg⟩
  have hcell := hR.cell
  have hl1 : (l ++ [x]).length = l.length + 1 := by simp
  rw [hl1] at hcell
  have HR := Lib.hid hR
  have HL := Lib.hid hl1
  clear hR hl1
  go_wp2_with (first
    | (go_at_call 228; (with_reducible refine (len_row _ rfl).mono ?_); rintro e w' ⟨rfl, rfl⟩)
    | (go_at_call 201; (with_reducible refine (up_any b off g c (l.length + 1) (l ++ [x]) l.length _ HR.out HL.out (by omega) (by have := up_start (x := x) HH.out; rw [HL.out] at this; exact this)).mono ?_); rintro e w' ⟨rfl, l', hR', hl', hp', hh', hT'⟩))
  go_end0
  refine ⟨rfl, [g], l', Or.inr ⟨g, c, rfl, hR'⟩, hp', by rw [hl']; exact hh', hT.trans hT' (fun k hk => ?_), hK.trans (Keeps.of_turn hT' HR.out.b_lt (by simpa using Ne.symm HR.out.ne)), fun k hk => ?_⟩
  · simp at hk; subst hk; exact hg.imp (fun h => List.mem_cons_of_mem _ h) id
  · simp at hk; subst hk; exact hg

theorem pop_row {w : World} {b off g c n : Nat} {l : List Nat} (h : Rw w b off g c l) (hl : l.length = n + 1) :
    Calls Tryz.prog 231 #[.pointer (some ⟨b, off, none⟩)] w fun e w' => e = .returned (.iface 3 (.int .i64 (at_ l n : Int))) ∧
      Rw w' b off g c (l.take n) ∧ Frm.Turn [b] w w' ∧ Keeps b off w w' := by
  have hc := h.cell
  rw [hl] at hc
  have hroom := h.room
  have hfew := h.few
  refine (pop_any b off g n c _ w hc h.thaw (h.at n (by omega)) (by omega) (by omega)).mono ?_
  rintro e w' ⟨rfl, rfl⟩
  have hlt : (l.take n).length = n := by simp; omega
  obtain ⟨cur, hg, hs, ht⟩ := h.row
  refine ⟨rfl, ⟨?_, (World.frozen?_setCell w _ _ _).trans h.thaw, ⟨cur, ?_, hs, ?_⟩, by omega, h.fit, h.ne, by omega⟩, (Frm.Turn.refl [b] w).setCell (Or.inl (by simp)) _, Keeps.set _ 0⟩
  · rw [hlt]; exact World.cell?_setCell_same w _ _ hc
  · rw [Below.heap_setCell _ _ _ _ (fun e => h.ne e)]; exact hg
  · have h2 : (cur.toList.take l.length).take n = (ints l).take n := by rw [ht]
    rw [hlt]
    rw [List.take_take, Nat.min_eq_left (by omega)] at h2
    rw [h2]; simp [ints, List.map_take]

def PopEnd (b off g c : Nat) (l : List Nat) (w : World) (e : Ending) (w' : World) : Prop :=
  ∃ (x : Nat) (l' : List Nat), e = .returned (.iface 3 (.int .i64 (x : Int))) ∧ Rw w' b off g c l' ∧ (x :: l').Perm l ∧ (∀ y, y ∈ l → x ≤ y) ∧ Heap l' l'.length ∧ Frm.Turn [b, g] w w' ∧ Keeps b off w w'

theorem pop_plain {l l2 : List Nat} {n : Nat} (hh : Heap l l.length) (hl : l.length = n + 1) (hl2 : l2.length = n + 1) (hp : l2.Perm (swp l 0 n)) (hh2 : Heap l2 n) (hk : ∀ k, n ≤ k → at_ l2 k = at_ (swp l 0 n) k) :
    (at_ l2 n :: l2.take n).Perm l ∧ (∀ y, y ∈ l → at_ l2 n ≤ y) ∧ Heap (l2.take n) (l2.take n).length := by
  have hx : at_ l2 n = at_ l 0 := by rw [hk n (Nat.le_refl _), at_swp l 0 n n (by omega) (by omega), if_pos rfl]
  refine ⟨?_, fun y hy => ?_, heap_take hh2 (by omega)⟩
  · have h1 : (at_ l2 n :: l2.take n).Perm (l2.take n ++ [at_ l2 n]) := (List.perm_append_singleton _ _).symm
    rw [← take_at l2 n hl2] at h1
    exact h1.trans (hp.trans (perm_swp l 0 n (by omega) (by omega)))
  · rw [hx]
    obtain ⟨i, hi, rfl⟩ := mem_at hy
    exact root_le hh i hi

set_option maxHeartbeats 1000000 in
theorem heap_pop (b off g c n : Nat) (l : List Nat) (w : World) (h : Rw w b off g c l) (hl : l.length = n + 1) (hh : Heap l l.length) :
    Calls Tryz.prog 132 #[.iface 231 (.pointer (some ⟨b, off, none⟩))] w (PopEnd b off g c l w) := by
  have hfew := h.few
  rw [hl] at hfew
  have hc := h.cell
  rw [hl] at hc
  have H := Lib.hid h
  have HH := Lib.hid hh
  have HL := Lib.hid hl
  clear h hh hl
  have e2 := fun (k : Nat) (W : World) (h : W.cell? ⟨b, off, none⟩ = some (.slice (some ⟨g, 0, none⟩) (n + 1) c)) => at_swap k ⟨b, off, none⟩ (.slice (some ⟨g, 0, none⟩) (n + 1) c) W h
  have e3 := fun (k : Nat) (W : World) (h : W.cell? ⟨b, off, none⟩ = some (.slice (some ⟨g, 0, none⟩) (n + 1) c)) => at_len k ⟨b, off, none⟩ (.slice (some ⟨g, 0, none⟩) (n + 1) c) W h
  have e4 := fun (k : Nat) (W : World) => at_pop k ⟨b, off, none⟩ W
  have p0 := Lib.hid (show ((0 : Int)).toNat = 0 by rfl)
  have p1 := Lib.hid (show ((n : Int)).toNat = n by omega)
  go_enter Tryz.func132, Tryz.ntmps132
  go_wp2_with (first
    | (go_at_call 228; (with_reducible refine (len_row _ rfl).mono ?_); rintro e w' ⟨rfl, rfl⟩)
    | (go_at_call 230; (with_reducible refine (swap_row H.out HL.out _ _ (by omega) (by omega) (by omega) (by omega)).mono ?_); rintro e w1 ⟨rfl, hR1, hT1⟩; rw [p0.out, p1.out] at hR1; have hc1 := hR1.cell; rw [length_swp, HL.out] at hc1; have HR1 := Lib.hid hR1; clear hR1)
    | (go_at_call 158; (with_reducible refine (down_any b off g c (n + 1) n (swp _ 0 n) _ HR1.out (by rw [length_swp]; exact HL.out) (by omega) (down_start HH.out n HL.out)).mono ?_); rintro e w2 ⟨t, rfl, l2, hR2, hl2, hp2, hh2, hk2, hT2⟩; have HR2 := Lib.hid hR2; have HL2 := Lib.hid hl2; have HK2 := Lib.hid hk2; clear hR2 hl2 hk2)
    | (go_at_call 231; (with_reducible refine (pop_row HR2.out HL2.out).mono ?_); rintro e w3 ⟨rfl, hR3, hT3, hK3⟩))
  go_ret
  obtain ⟨q1, q2, q3⟩ := pop_plain HH.out HL.out HL2.out hp2 hh2 HK2.out
  have hb := H.out.b_lt
  have hnb : b ∉ [g] := by simpa using Ne.symm H.out.ne
  refine ⟨_, _, rfl, hR3, q1, q2, q3, ?_, ?_⟩
  · exact ((hT1.mono (fun k hk => by simp at hk; simp [hk])).trans hT2 (fun k hk => by simp at hk; simp [hk])).trans hT3 (fun k hk => by simp at hk; simp [hk])
  · exact ((Keeps.of_turn hT1 hb hnb).trans (Keeps.of_turn hT2 HR1.out.b_lt hnb)).trans hK3
end Lst
end Go.Proofs.YtpajafecodkndaaGreat
