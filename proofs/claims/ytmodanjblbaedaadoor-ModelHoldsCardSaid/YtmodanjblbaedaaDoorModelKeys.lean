/- The keys of a table, rising; its pairs. -/
import Derived.Test.YtmodanjblbaedaaDoorModelLib
import Derived.Shelf.SlIterI.Collect
import Derived.Shelf.SlIterI.Nil
set_option linter.unusedVariables false
set_option linter.unusedSimpArgs false
namespace Go.Proofs.YtmodanjblbaedaaDoor
namespace Mdl
open Go.RowKit Go.Maps Go.Shelf Go.Lib Go.Sort

def keys (f : Tb) : List Int := ((List.range 256).filter (fun i : Nat => (f (i : Int)).isSome)).map (fun i : Nat => (i : Int))
theorem keys_len (f : Tb) : (keys f).length = cnt f := by
  unfold keys cnt
  rw [List.length_map, List.countP_eq_length_filter]
theorem keys_up (f : Tb) : (keys f).Pairwise (fun a b => a < b) := by
  unfold keys
  rw [List.pairwise_map]
  exact (List.pairwise_lt_range.filter _).imp (fun h => by omega)
theorem keys_mem {f : Tb} (hf : TOk f) (k : Int) : k ∈ keys f ↔ (f k).isSome = true := by
  unfold keys
  rw [List.mem_map]
  constructor
  · rintro ⟨i, hi, rfl⟩
    exact (List.mem_filter.1 hi).2
  · intro h
    obtain ⟨v, hv⟩ := Option.isSome_iff_exists.1 h
    obtain ⟨h0, h1, _⟩ := hf.dom k v hv
    refine ⟨k.toNat, List.mem_filter.2 ⟨by rw [List.mem_range]; omega, ?_⟩, by omega⟩
    rw [show ((k.toNat : Nat) : Int) = k by omega]; exact h
theorem keys_perm {w : World} {p : Option Nat} {f : Tb} {D : DataW Unit} (hR : Reads w p D) (hD : TD f D) (hf : TOk f) : (keys f).Perm (intKeys D) := by
  have hnd : (keys f).Nodup := (keys_up f).imp (fun h e => by omega)
  rcases hR with ⟨rfl, rfl⟩ | ⟨b, rfl, ho⟩
  · have h0 : keys f = [] := by
      apply List.eq_nil_of_length_eq_zero
      rw [keys_len, ← hD.size]; rfl
    rw [h0]; exact List.Perm.refl _
  · obtain ⟨es, rfl, hpw, hkl⟩ := ho.entries keyI
    obtain ⟨es', he, hko⟩ := ho.keysOf
    obtain rfl : es = es' := by simpa using he
    exact perm_intKeys hpw (fun p hp => by obtain ⟨v, hv⟩ := hko p hp; obtain ⟨x, _, hx, _⟩ := Maps.keyOf_i64 under_int hv; exact ⟨x, hx⟩) hnd (fun x => by rw [keys_mem hf, hD.has])
theorem sort_keys {f : Tb} {ss : List Int} (h : ss.Perm (keys f)) : ss.mergeSort (fun x y => decide (x ≤ y)) = keys f := by
  have hs : (ss.mergeSort (fun x y => decide (x ≤ y))).Pairwise (fun a b => a ≤ b) := by
    have := List.pairwise_mergeSort (le := fun x y : Int => decide (x ≤ y)) (fun a b c => by simp; omega) (fun a b => by simp; omega) ss
    exact this.imp (fun h => by simpa using h)
  have hp := (List.mergeSort_perm ss (fun x y => decide (x ≤ y))).trans h
  exact List.Perm.eq_of_pairwise (le := fun a b : Int => a ≤ b) (fun a b _ _ h1 h2 => by omega) hs ((keys_up f).imp (fun h => by omega)) hp

theorem keysFn_any (p : Option Nat) (w : World) : Calls Tryd.prog 53 #[.map p] w fun e w' => e = .returned (.func (.func 56) #[] #[.pointer (some ⟨w.heap.size, 0, none⟩)]) ∧ w' = w.alloc (.cells #[.map p] 57) :=
  callsIn_wide.1 (AnyZI.keys_in layKeys Fence.wide 5 trivial rfl p w)
theorem collect_any {W : World} {p : Option Nat} {f : Tb} {bx : Nat} (h : TAt W p f) (hb : bx < W.heap.size) (hc : W.cell? ⟨bx, 0, none⟩ = some (.map p)) :
    Calls Tryd.prog 54 #[.func (.func 56) #[] #[.pointer (some ⟨bx, 0, none⟩)]] W fun e w' => ∃ (v : Value) (ss : List Int), e = .returned v ∧ ss.Perm (keys f) ∧ w'.ownsRow W.heap.size 3 1 v ss.length (ss.map (Value.int .i64)) ∧ Below W.heap.size W w' := by
  obtain ⟨ok, D, hR, hD⟩ := h
  have hp := keys_perm hR hD ok
  have eg : ∀ args w, (callFunc 56 args).run Tryd.prog w = .ok (.enter 56 args) w := enters_of Tryd.func56 (by kernel_rfl) rfl
  rcases hR with ⟨rfl, rfl⟩ | ⟨b, rfl, ho⟩
  · have hs := AnyZI.keys_gives_nil (ρ := layKeys_ren) { layKeys with } Fence.wide 3 trivial rfl bx W hb hc
    have := callsIn_wide.1 (AnyZI.collect_in (ρ := laySorted_ren) { laySorted with } Fence.wide 5 trivial trivial rfl (by omega) _ _ trivial eg _ 0 (by simp [maxLen]) (by omega) W hs)
    refine this.mono ?_
    rintro e w' ⟨v, ss, rfl, hss, hr, _, hB⟩
    exact ⟨v, ss, rfl, by rw [hss]; exact hp.symm, hr, hB⟩
  · have hs := AnyZI.keys_gives (ρ := layKeys_ren) { layKeys with } Fence.wide 3 trivial rfl (by omega) bx b _ D W hb hc ho
    have hsz := cnt_le f
    have := callsIn_wide.1 (AnyZI.collect_in (ρ := laySorted_ren) { laySorted with } Fence.wide 5 trivial trivial rfl (by omega) _ _ trivial eg _ _ (by rw [hD.size]; unfold maxLen; omega) (by rw [hD.size]; omega) W hs)
    refine this.mono ?_
    rintro e w' ⟨v, ss, rfl, hss, hr, _, hB⟩
    exact ⟨v, ss, rfl, hss.trans hp.symm, hr, hB⟩

theorem row_shape {w : World} {base : Nat} {e : TypeId} {size n : Nat} {v : Value} {xs : List Value} (h : w.ownsRow base e size v n xs) : (v = .slice none 0 0 ∧ n = 0) ∨ ∃ g cap, v = .slice (some ⟨g, 0, none⟩) n cap ∧ base ≤ g ∧ g < w.heap.size := by
  rcases h.2 with h0 | ⟨g, cap, cur, e, hb, hg, _⟩
  · exact .inl h0
  · exact .inr ⟨g, cap, e, hb, (Array.getElem?_eq_some_iff.1 hg).1⟩
/-- slices.Sort of a row of one's own. -/
theorem sort_any {w : World} {base : Nat} {v : Value} {zs : List Int} (h : w.ownsRow base 3 1 v zs.length (zs.map (Value.int .i64))) (hb : base ≤ w.heap.size) (hl : zs.length ≤ 1000) :
    Calls Tryd.prog 55 #[v] w fun e w' => e = .returned (.tuple #[]) ∧ w'.ownsRow base 3 1 v zs.length ((zs.mergeSort (fun x y => decide (x ≤ y))).map (Value.int .i64)) ∧ Below base w w' := by
  obtain ⟨hl0, h0⟩ := h
  rcases h0 with ⟨rfl, h0⟩ | ⟨g, cap, cur, rfl, hbg, hg, hn, hc, hs, ht⟩
  · have hz : zs = [] := List.eq_nil_of_length_eq_zero h0
    subst hz
    refine (slices_Sort_int_none none 0 w).mono ?_
    rintro e w' ⟨rfl, rfl⟩
    exact ⟨rfl, by simpa using World.ownsRow_nil w' base 3 1, Below.refl _ _⟩
  · have hcell : ∀ j, j < zs.length → cur[j]? = some (.int .i64 (zs.getD j 0)) := fun j hj => by
      have h1 := congrArg (·[j]?) ht
      simp only [List.getElem?_take, List.getElem?_map] at h1
      rw [if_pos (by omega)] at h1
      simpa [List.getD, hj] using h1
    have hlt := (Array.getElem?_eq_some_iff.1 hg).1
    have hH : Holds (Value.int .i64) w g 0 zs.toArray := fun j hj => by
      have hj' : j < zs.length := by simpa using hj
      refine ⟨?_, by simp [World.frozen?, hg]⟩
      rw [Nat.zero_add, Frm.cell_row w g j cur _ _ hg, hcell j hj']
      simp [List.getD, hj']
    refine (slices_Sort_int g 0 cap zs w hH hlt (by omega)).mono ?_
    rintro e w' ⟨rfl, n, os, rfl⟩
    have hheap : (grow (putRow (Value.int .i64) (Sort.ahead w n) g 0 (zs.mergeSort fun x y => decide (x ≤ y)).toArray) os).heap = w.heap.modify g (onCells (putCells (Value.int .i64) 0 (zs.mergeSort fun x y => decide (x ≤ y)).toArray)) ++ os := rfl
    refine ⟨rfl, ⟨by simp, .inr ⟨g, cap, putCells (Value.int .i64) 0 (zs.mergeSort fun x y => decide (x ≤ y)).toArray cur, rfl, hbg, ?_, hn, hc, by simp [putCells, hs], ?_⟩⟩, ⟨rfl, rfl, rfl, by rw [hheap]; simp, fun k hk => ?_⟩⟩
    · rw [hheap, Array.getElem?_append_left (by simpa using hlt), Array.getElem?_modify, if_pos rfl, hg]
      rfl
    · apply List.ext_getElem?
      intro j
      rw [List.getElem?_take]
      by_cases hj : j < zs.length
      · have hjc : j < cur.size := by omega
        rw [if_pos (by omega)]
        simp [putCells, hjc, hj]
      · rw [if_neg (by omega)]
        simp [hj]
    · rw [hheap, Array.getElem?_append_left (by simp; omega), Array.getElem?_modify, if_neg (by omega)]

set_option maxHeartbeats 2000000 in
theorem sorted_any {W : World} {p : Option Nat} {f : Tb} {bx : Nat} (h : TAt W p f) (hb : bx < W.heap.size) (hc : W.cell? ⟨bx, 0, none⟩ = some (.map p)) :
    Calls Tryd.prog 52 #[.func (.func 56) #[] #[.pointer (some ⟨bx, 0, none⟩)]] W fun e w' => ∃ (v : Value), e = .returned v ∧ w'.ownsRow W.heap.size 3 1 v (keys f).length ((keys f).map (Value.int .i64)) ∧ Below W.heap.size W w' := by
  have HC := Lib.hid (collect_any h hb hc)
  have HS : Hid (∀ (w1 : World) (v : Value) (ss : List Int), ss.Perm (keys f) → w1.ownsRow W.heap.size 3 1 v ss.length (ss.map (Value.int .i64)) → Below W.heap.size W w1 →
      Calls Tryd.prog 55 #[v] w1 fun e w' => e = .returned (.tuple #[]) ∧ w'.ownsRow W.heap.size 3 1 v (keys f).length ((keys f).map (Value.int .i64)) ∧ Below W.heap.size W w') := by
    refine Lib.hid fun w1 v ss hp hr hB => ?_
    have hle := cnt_le f
    refine (sort_any hr hB.size (by rw [hp.length_eq, keys_len]; omega)).mono ?_
    rintro e w' ⟨rfl, hr', hB'⟩
    rw [sort_keys hp, hp.length_eq] at hr'
    exact ⟨rfl, hr', hB.trans hB'⟩
  clear h hb hc
  go_enter Tryd.func52, Tryd.ntmps52
  go_wp2_with (first
    | (go_at_call 54; (with_reducible refine (HC.out).mono ?_); rintro e w1 ⟨v, ss, rfl, h1, h2, h3⟩; have H1 := Lib.hid (HS.out w1 v ss h1 h2 h3); clear h1 h2 h3)
    | (go_at_call 55; (with_reducible refine (H1.out).mono ?_); rintro e w2 ⟨rfl, h5, h6⟩; have H2 := Lib.hid (And.intro h5 h6); clear h5 h6))
  go_ret
  exact ⟨_, rfl, H2.out⟩
end Mdl
end Go.Proofs.YtmodanjblbaedaaDoor
