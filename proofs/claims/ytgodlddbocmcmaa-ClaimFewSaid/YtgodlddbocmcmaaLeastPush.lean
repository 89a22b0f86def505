/- The library's heap over a row of numbers: Push and Pop. -/
import Derived.Test.YtgodlddbocmcmaaLeastHeap
set_option linter.unusedVariables false
set_option linter.unusedSimpArgs false
namespace Go.Proofs.Ytgodlddbocmcmaa
namespace Lst
open Go.RowKit Hp

/-- Behind the pointer at offset off of block b lies a slice that holds l: nil, or in the one block of F. -/
def Rv (w : World) (b off : Nat) (F : List Nat) (l : List Nat) : Prop :=
  (l = [] ∧ F = [] ∧ w.cell? ⟨b, off, none⟩ = some (.slice none 0 0) ∧ w.frozen? ⟨b, off, none⟩ = false) ∨ ∃ g c, F = [g] ∧ Rw w b off g c l
/-- Of block b's cells the one at off alone may have turned. -/
structure Keeps (b off : Nat) (w w' : World) : Prop where
  cell : ∀ o, o ≠ off → w'.cell? ⟨b, o, none⟩ = w.cell? ⟨b, o, none⟩
  frozen : ∀ o, w'.frozen? ⟨b, o, none⟩ = w.frozen? ⟨b, o, none⟩
theorem Keeps.trans {b off : Nat} {w w' w'' : World} (h : Keeps b off w w') (k : Keeps b off w' w'') : Keeps b off w w'' :=
  ⟨fun o ho => (k.cell o ho).trans (h.cell o ho), fun o => (k.frozen o).trans (h.frozen o)⟩
theorem Keeps.of_turn {b off : Nat} {F : List Nat} {w w' : World} (h : Frm.Turn F w w') (hb : b < w.heap.size) (hn : b ∉ F) : Keeps b off w w' :=
  ⟨fun _ _ => World.cell?_of_block (h.block b hb hn), fun _ => World.frozen?_of_block (h.block b hb hn)⟩
theorem Keeps.set {b off : Nat} {w : World} (v : Value) (k : Nat) : Keeps b off w ((w.setCell ⟨b, off, none⟩ v).drewN k) :=
  ⟨fun o ho => World.cell?_setCell_other w ⟨b, off, none⟩ ⟨b, o, none⟩ v (fun e => ho (by simpa using (congrArg Addr.off e).symm)), fun o => World.frozen?_setCell w ⟨b, off, none⟩ ⟨b, o, none⟩ v⟩

theorem length_ints (l : List Nat) : (ints l).length = l.length := by simp [ints]
theorem Rw.b_lt {w : World} {b off g c : Nat} {l : List Nat} (h : Rw w b off g c l) : b < w.heap.size := World.block_lt_of_cell? w _ h.cell
theorem Rw.owns {w : World} {b off g c : Nat} {l : List Nat} (h : Rw w b off g c l) : w.ownsRow 0 3 1 (.slice (some ⟨g, 0, none⟩) l.length c) l.length (ints l) := by
  obtain ⟨cur, hg, hs, ht⟩ := h.row
  exact ⟨by simp [ints], Or.inr ⟨g, c, cur, rfl, Nat.zero_le _, hg, h.room, h.fit, by simpa using hs, by simpa using ht⟩⟩
theorem Rv.owns {w : World} {b off : Nat} {F l : List Nat} (h : Rv w b off F l) : ∃ ao c, w.cell? ⟨b, off, none⟩ = some (.slice ao l.length c) ∧ w.ownsRow 0 3 1 (.slice ao l.length c) l.length (ints l) ∧
    w.frozen? ⟨b, off, none⟩ = false ∧ (Value.slice ao l.length c).ownBlock.toList = F ∧ (Value.slice ao l.length c).ownBlock ≠ some b := by
  rcases h with ⟨rfl, rfl, h1, h2⟩ | ⟨g, c, rfl, hR⟩
  · exact ⟨none, 0, h1, World.ownsRow_nil w 0 _ 1, h2, rfl, by simp [Value.ownBlock]⟩
  · exact ⟨_, _, hR.cell, hR.owns, hR.thaw, rfl, by simpa [Value.ownBlock] using hR.ne⟩
/-- Behind an append: a row that holds at least one number. -/
theorem rw_of_owns {w : World} {b off : Nat} {ao : Option Addr} {c n : Nat} {l : List Nat} (hl : l.length = n + 1) (hc : w.cell? ⟨b, off, none⟩ = some (.slice ao (n + 1) c)) (hf : w.frozen? ⟨b, off, none⟩ = false)
    (ho : w.ownsRow 0 3 1 (.slice ao (n + 1) c) (n + 1) (ints l)) (hne : (Value.slice ao (n + 1) c).ownBlock ≠ some b) (hfew : n + 1 ≤ 65536) : ∃ g, ao = some ⟨g, 0, none⟩ ∧ Rw w b off g c l := by
  rcases ho.2 with ⟨h, h0⟩ | ⟨g, cap, cur, h, _, hg, h1, h2, h3, h4⟩
  · omega
  · cases h
    refine ⟨g, rfl, by rw [hl]; exact hc, hf, ⟨cur, hg, by simpa using h3, by rw [hl]; simpa using h4⟩, by omega, h2, ?_, by omega⟩
    intro e; subst e; exact hne rfl

def PushEnd (b off : Nat) (F l : List Nat) (x : Nat) (w : World) (e : Ending) (w' : World) : Prop :=
  e = .returned (.tuple #[]) ∧ ∃ F' l', Rv w' b off F' l' ∧ l'.Perm (l ++ [x]) ∧ Heap l' l'.length ∧ Frm.Turn (b :: F) w w' ∧ Keeps b off w w' ∧ ∀ k, k ∈ F' → k ∈ F ∨ w.heap.size ≤ k

theorem len_row {v : Value} {ao : Option Addr} {n c : Nat} (w : World) (hv : v = .slice ao n c) :
    Calls Try.prog 86 #[v] w fun e w' => e = .returned (.int .i64 (n : Int)) ∧ w = w' := len_any v ao n c w hv

theorem push_row (b off : Nat) (F l : List Nat) (x : Nat) (w : World) (h : Rv w b off F l) (hb : b < w.heap.size) (hfew : l.length ≤ 65535) :
    Calls Try.prog 90 #[.pointer (some ⟨b, off, none⟩), .iface 3 (.int .i64 (x : Int))] w fun e w' => e = .returned (.tuple #[]) ∧
      ∃ g c, Rw w' b off g c (l ++ [x]) ∧ Frm.Turn (b :: F) w w' ∧ Keeps b off w w' ∧ (g ∈ F ∨ w.heap.size ≤ g) := by
  obtain ⟨ao, c, hc, ho, hf, hF, hne⟩ := h.owns
  have hlen : (ints l).length = l.length := length_ints l
  have hpush := push_any b off ao c (ints l) (x : Int) w hb (by rw [hlen]; exact hc) hf (by rw [hlen]; exact ho) (by omega) (by rw [hlen]; exact hne)
  rw [hlen] at hpush
  refine hpush.mono ?_
  rintro e w' ⟨rfl, ao', c', w1, k, rfl, hown, hT, hloc⟩
  rw [hF] at hT
  have hbF : b ∉ F := by
    rw [← hF]; intro hm
    exact hne (by simpa using hm)
  have hc1 := hT.cell hc hbF
  have hf1 : w1.frozen? ⟨b, off, none⟩ = false := (hT.frozen (a := ⟨b, off, none⟩) hb hbF).trans hf
  have hx : ints l ++ [Value.int .i64 (x : Int)] = ints (l ++ [x]) := by simp [ints]
  rw [hx] at hown
  have hne' : (Value.slice ao' (l.length + 1) c').ownBlock ≠ some b := by
    rcases hloc with h1 | ⟨g, h1, h2⟩
    · rw [h1]; exact hne
    · rw [h1]; simp; omega
  have hcell : ((w1.setCell ⟨b, off, none⟩ (.slice ao' (l.length + 1) c')).drewN k).cell? ⟨b, off, none⟩ = some (.slice ao' (l.length + 1) c') := World.cell?_setCell_same w1 _ _ hc1
  have hown' : ((w1.setCell ⟨b, off, none⟩ (.slice ao' (l.length + 1) c')).drewN k).ownsRow 0 3 1 (.slice ao' (l.length + 1) c') (l.length + 1) (ints (l ++ [x])) := by
    obtain ⟨o1, o2⟩ := hown
    refine ⟨o1, o2.imp id ?_⟩
    rintro ⟨g, cap, cur, h1, h2, h3, h4⟩
    refine ⟨g, cap, cur, h1, h2, ?_, h4⟩
    show (w1.setCell ⟨b, off, none⟩ (.slice ao' (l.length + 1) c')).heap[g]? = _
    rw [Below.heap_setCell _ _ _ _ (fun e => by rw [h1] at hne'; exact hne' (by simp [Value.ownBlock]; exact e))]
    exact h3
  obtain ⟨g, rfl, hR⟩ := rw_of_owns (l := l ++ [x]) (by simp) hcell ((World.frozen?_setCell w1 _ _ _).trans hf1) hown' hne' (by omega)
  refine ⟨rfl, g, c', hR, (((hT.mono (fun k hk => List.mem_cons_of_mem _ hk)).setCell (Or.inl (by simp)) _).drewN k), (Keeps.of_turn hT hb hbF).trans (Keeps.set _ _), ?_⟩
  rcases hloc with h1 | ⟨g', h1, h2⟩
  · left; rw [← hF, ← h1]; simp [Value.ownBlock]
  · right
    simp [Value.ownBlock] at h1
    omega

set_option maxHeartbeats 1000000 in
theorem heap_push (b off : Nat) (F l : List Nat) (x : Nat) (w : World) (h : Rv w b off F l) (hb : b < w.heap.size) (hbF : b ∉ F) (hh : Heap l l.length) (hfew : l.length ≤ 65535) :
    Calls Try.prog 63 #[.iface 105 (.pointer (some ⟨b, off, none⟩)), .iface 3 (.int .i64 (x : Int))] w (PushEnd b off F l x w) := by
  have HP := Lib.hid (push_row b off F l x w h hb hfew)
  have HH := Lib.hid hh
  have H := Lib.hid h
  clear hh h
  have e3 := fun (k : Nat) (W : World) (v : Value) (h : W.cell? ⟨b, off, none⟩ = some v) => at_len k ⟨b, off, none⟩ v W h
  have e4 := fun (k : Nat) (W : World) => at_push k ⟨b, off, none⟩ W
  go_enter Try.func63, Try.ntmps63
  go_wp2_with fail
  refine (HP.out).mono ?_
  rintro e w1 ⟨rfl, g, c, hR, hT, hK, hg⟩
  have hcell := hR.cell
  have hl1 : (l ++ [x]).length = l.length + 1 := by simp
  rw [hl1] at hcell
  have HR := Lib.hid hR
  have HL := Lib.hid hl1
  clear hR hl1
  go_wp2_with (first
    | (go_at_call 86; (with_reducible refine (len_row _ rfl).mono ?_); rintro e w' ⟨rfl, rfl⟩)
    | (go_at_call 64; (with_reducible refine (up_any b off g c (l.length + 1) (l ++ [x]) l.length _ HR.out HL.out (by omega) (by have := up_start (x := x) HH.out; rw [HL.out] at this; exact this)).mono ?_); rintro e w' ⟨rfl, l', hR', hl', hp', hh', hT'⟩))
  go_end0
  refine ⟨rfl, [g], l', Or.inr ⟨g, c, rfl, hR'⟩, hp', by rw [hl']; exact hh', hT.trans hT' (fun k hk => ?_), hK.trans (Keeps.of_turn hT' HR.out.b_lt (by simpa using Ne.symm HR.out.ne)), fun k hk => ?_⟩
  · simp at hk; subst hk; exact hg.imp (fun h => List.mem_cons_of_mem _ h) id
  · simp at hk; subst hk; exact hg

theorem pop_row {w : World} {b off g c n : Nat} {l : List Nat} (h : Rw w b off g c l) (hl : l.length = n + 1) :
    Calls Try.prog 89 #[.pointer (some ⟨b, off, none⟩)] w fun e w' => e = .returned (.iface 3 (.int .i64 (at_ l n : Int))) ∧
      Rw w' b off g c (l.take n) ∧ Frm.Turn [b] w w' ∧ Keeps b off w w' := by
  have hc := h.cell
  rw [hl] at hc
  have hroom := h.room
  have hfew := h.few
  refine (pop_any b off g n c _ w hc h.thaw (h.at n (by omega)) (by omega) (by omega)).mono ?_
  rintro e w' ⟨rfl, rfl⟩
  have hlt : (l.take n).length = n := by simp; omega
  obtain ⟨cur, hg, hs, ht⟩ := h.row
  refine ⟨rfl, ⟨?_, (World.frozen?_setCell w _ _ _).trans h.thaw, ⟨cur, ?_, hs, ?_⟩, by omega, h.fit, h.ne, by omega⟩, (Frm.Turn.refl [b] w).setCell (Or.inl (by simp)) _, Keeps.set _ 0⟩
  · rw [hlt]; exact World.cell?_setCell_same w _ _ hc
  · rw [Below.heap_setCell _ _ _ _ (fun e => h.ne e)]; exact hg
  · have h2 : (cur.toList.take l.length).take n = (ints l).take n := by rw [ht]
    rw [hlt]
    rw [List.take_take, Nat.min_eq_left (by omega)] at h2
    rw [h2]; simp [ints, List.map_take]

def PopEnd (b off g c : Nat) (l : List Nat) (w : World) (e : Ending) (w' : World) : Prop :=
  ∃ (x : Nat) (l' : List Nat), e = .returned (.iface 3 (.int .i64 (x : Int))) ∧ Rw w' b off g c l' ∧ (x :: l').Perm l ∧ (∀ y, y ∈ l → x ≤ y) ∧ Heap l' l'.length ∧ Frm.Turn [b, g] w w' ∧ Keeps b off w w'

theorem pop_plain {l l2 : List Nat} {n : Nat} (hh : Heap l l.length) (hl : l.length = n + 1) (hl2 : l2.length = n + 1) (hp : l2.Perm (swp l 0 n)) (hh2 : Heap l2 n) (hk : ∀ k, n ≤ k → at_ l2 k = at_ (swp l 0 n) k) :
    (at_ l2 n :: l2.take n).Perm l ∧ (∀ y, y ∈ l → at_ l2 n ≤ y) ∧ Heap (l2.take n) (l2.take n).length := by
  have hx : at_ l2 n = at_ l 0 := by rw [hk n (Nat.le_refl _), at_swp l 0 n n (by omega) (by omega), if_pos rfl]
  refine ⟨?_, fun y hy => ?_, heap_take hh2 (by omega)⟩
  · have h1 : (at_ l2 n :: l2.take n).Perm (l2.take n ++ [at_ l2 n]) := (List.perm_append_singleton _ _).symm
    rw [← take_at l2 n hl2] at h1
    exact h1.trans (hp.trans (perm_swp l 0 n (by omega) (by omega)))
  · rw [hx]
    obtain ⟨i, hi, rfl⟩ := mem_at hy
    exact root_le hh i hi

set_option maxHeartbeats 1000000 in
theorem heap_pop (b off g c n : Nat) (l : List Nat) (w : World) (h : Rw w b off g c l) (hl : l.length = n + 1) (hh : Heap l l.length) :
    Calls Try.prog 58 #[.iface 105 (.pointer (some ⟨b, off, none⟩))] w (PopEnd b off g c l w) := by
  have hfew := h.few
  rw [hl] at hfew
  have hc := h.cell
  rw [hl] at hc
  have H := Lib.hid h
  have HH := Lib.hid hh
  have HL := Lib.hid hl
  clear h hh hl
  have e2 := fun (k : Nat) (W : World) (h : W.cell? ⟨b, off, none⟩ = some (.slice (some ⟨g, 0, none⟩) (n + 1) c)) => at_swap k ⟨b, off, none⟩ (.slice (some ⟨g, 0, none⟩) (n + 1) c) W h
  have e3 := fun (k : Nat) (W : World) (h : W.cell? ⟨b, off, none⟩ = some (.slice (some ⟨g, 0, none⟩) (n + 1) c)) => at_len k ⟨b, off, none⟩ (.slice (some ⟨g, 0, none⟩) (n + 1) c) W h
  have e4 := fun (k : Nat) (W : World) => at_pop k ⟨b, off, none⟩ W
  have p0 := Lib.hid (show ((0 : Int)).toNat = 0 by rfl)
  have p1 := Lib.hid (show ((n : Int)).toNat = n by omega)
  go_enter Try.func58, Try.ntmps58
  go_wp2_with (first
    | (go_at_call 86; (with_reducible refine (len_row _ rfl).mono ?_); rintro e w' ⟨rfl, rfl⟩)
    | (go_at_call 88; (with_reducible refine (swap_row H.out HL.out _ _ (by omega) (by omega) (by omega) (by omega)).mono ?_); rintro e w1 ⟨rfl, hR1, hT1⟩; rw [p0.out, p1.out] at hR1; have hc1 := hR1.cell; rw [length_swp, HL.out] at hc1; have HR1 := Lib.hid hR1; clear hR1)
    | (go_at_call 61; (with_reducible refine (down_any b off g c (n + 1) n (swp _ 0 n) _ HR1.out (by rw [length_swp]; exact HL.out) (by omega) (down_start HH.out n HL.out)).mono ?_); rintro e w2 ⟨t, rfl, l2, hR2, hl2, hp2, hh2, hk2, hT2⟩; have HR2 := Lib.hid hR2; have HL2 := Lib.hid hl2; have HK2 := Lib.hid hk2; clear hR2 hl2 hk2)
    | (go_at_call 89; (with_reducible refine (pop_row HR2.out HL2.out).mono ?_); rintro e w3 ⟨rfl, hR3, hT3, hK3⟩))
  go_ret
  obtain ⟨q1, q2, q3⟩ := pop_plain HH.out HL.out HL2.out hp2 hh2 HK2.out
  have hb := H.out.b_lt
  have hnb : b ∉ [g] := by simpa using Ne.symm H.out.ne
  refine ⟨_, _, rfl, hR3, q1, q2, q3, ?_, ?_⟩
  · exact ((hT1.mono (fun k hk => by simp at hk; simp [hk])).trans hT2 (fun k hk => by simp at hk; simp [hk])).trans hT3 (fun k hk => by simp at hk; simp [hk])
  · exact ((Keeps.of_turn hT1 hb hnb).trans (Keeps.of_turn hT2 HR1.out.b_lt hnb)).trans hK3
end Lst
end Go.Proofs.Ytgodlddbocmcmaa
