/- The document's environment: its arena is taken out, and one that an access made is put back. -/
import Derived.Test.YtolcpfidmpoipaaGreatEnvDone
import Derived.Deep.DeepMust
import Derived.Laws.Tables
import Derived.Laws.Rows
set_option linter.unusedVariables false
set_option linter.unusedSimpArgs false
namespace Go.Proofs.YtolcpfidmpoipaaGreat
namespace Evn
open Go.RowKit Go.Maps Arn

def z20 : Array Value := #[.int .i64 0, .int .i64 0, .int .i64 0, .int .i64 0, .int .u64 0, .int .u64 0, .int .u64 0, .int .u64 0, .int .u64 0, .int .u64 0, .int .u64 0, .int .u64 0, .int .u64 0, .slice none 0 0, .int .i64 0, .int .i64 0, .int .i64 0, .int .i64 0, .int .i64 0, .int .i64 0]
theorem cells_turn (g : Nat) : ∀ (vs : List Value) (o : Nat) (w : World), Frm.Turn [g] w (w.setCells g o vs)
  | [], _, w => Frm.Turn.refl [g] w
  | v :: r, o, w => by
    rw [World.setCells]
    exact ((Frm.Turn.refl [g] w).setCell (.inl (by simp)) _).trans (cells_turn g r (o + 1) _) (fun k hk => .inl hk)
theorem cells_mid {g : Nat} {t : TypeId} (C : List Value) : ∀ (vs A B : List Value) (w : World), w.heap[g]? = some (.cells (A ++ B ++ C).toArray t (0, 0)) → B.length = vs.length → (w.setCells g A.length vs).heap[g]? = some (.cells (A ++ vs ++ C).toArray t (0, 0))
  | [], A, B, w, h, e => by
    obtain rfl : B = [] := List.eq_nil_of_length_eq_zero (by simpa using e)
    exact h
  | v :: r, A, [], w, h, e => by simp at e
  | v :: r, A, b :: B, w, h, e => by
    rw [World.setCells]
    have h1 := Frm.heap_set w g A.length _ _ _ v h
    have e1 : (A ++ b :: B ++ C).toArray.setIfInBounds A.length v = ((A ++ [v]) ++ B ++ C).toArray := by
      rw [List.setIfInBounds_toArray]
      congr 1
      simp
    rw [e1] at h1
    have := cells_mid C r (A ++ [v]) B _ h1 (by simpa using e)
    simpa using this
variable {W W' : World} {eb : Nat} {E : En} {CS CS' : Array Value} {lv : Value} {G G' : List Nat}
theorem EnAt.range (h : EnAt W eb E CS lv G) : W.rangeAt eb 0 CS.toList := fun j v hv => by
  rw [Nat.zero_add]
  refine (Frm.cell_row _ _ _ _ _ _ h.row).trans ?_
  have hj : j < CS.size := by
    have := (List.getElem?_eq_some_iff.1 hv).1
    simpa using this
  rw [Array.getElem?_append_left hj]
  simpa using hv
theorem EnAt.there (h : EnAt W eb E CS lv G) : W.there eb 0 20 := fun j hj => by
  rw [Nat.zero_add]
  refine ⟨?_, Frm.frozen_row _ _ _ _ _ h.row⟩
  rw [Frm.cell_row _ _ _ _ _ _ h.row, Array.getElem?_append_left (by rw [h.size]; exact hj)]
  rw [Array.getElem?_eq_getElem (by rw [h.size]; exact hj)]
  rfl
/-- The arena that an access made stands in the environment. -/
theorem EnAt.putM (h : EnAt W eb E CS lv G) {A' : Ar} (hs : CS'.size = 20) (h1 : CS'.all (·.oneCell') = true) (hr : RefS W A' (.agg CS') G') (hg : eb ∉ G') (hl : ∀ k, k ∈ G' → k < W.heap.size) :
    EnAt (W.setCells eb 0 CS'.toList) eb { E with A := A' } CS' lv G' ∧ Frm.Turn [eb] W (W.setCells eb 0 CS'.toList) := by
  have hT := cells_turn eb CS'.toList 0 W
  refine ⟨⟨?_, hs, h1, hr.turn hT (fun k hk e => by simp at e; subst e; exact hg hk), (h.rest hT).2.1, h.le, hg, fun k hk => by have := hl k hk; have := hT.size; omega⟩, hT⟩
  have hrow := h.row
  have := cells_mid (g := eb) (t := 41) [lv, .int .i64 (E.at_ : Int), .bool E.did, .bool E.stop] CS'.toList [] CS.toList W (by rw [hrow]; congr 2; apply Array.toList_inj.1; simp) (by simp [h.size, hs])
  refine this.trans ?_
  congr 2
  apply Array.toList_inj.1
  simp
/-- What a callee made goes into a new block, and from there into the environment. -/
theorem put_all {w1 w2 : World} {A' : Ar} (h1 : EnAt w1 eb E CS lv G) (hT : Frm.Turn [] w1 w2) (hs : CS'.size = 20) (ho : CS'.all (·.oneCell') = true) (hr : RefS w2 A' (.agg CS') G') (hG : ∀ q, q ∈ G' → q ∈ G ∨ (w1.heap.size ≤ q ∧ q < w2.heap.size)) :
    ((w2.alloc (.cells z20 34)).setRow w2.heap.size CS').heap[w2.heap.size]? = some (.cells CS' 34 (0, 0)) ∧
    EnAt ((w2.alloc (.cells z20 34)).setRow w2.heap.size CS') eb E CS lv G ∧
    EnAt (((w2.alloc (.cells z20 34)).setRow w2.heap.size CS').setCells eb 0 CS'.toList) eb { E with A := A' } CS' lv G' ∧
    Frm.Turn [eb] w1 (((w2.alloc (.cells z20 34)).setRow w2.heap.size CS').setCells eb 0 CS'.toList) := by
  rw [World.setRow_alloc_new]
  have hT3 : Frm.Turn [] w1 (w2.alloc (.cells CS' 34)) := hT.alloc _
  have hE3 := h1.step hT3
  have hlt := h1.lt
  have hsz := hT.size
  have hg : eb ∉ G' := fun hk => by
    rcases hG eb hk with h | h
    · exact h1.ge h
    · omega
  have hl : ∀ k, k ∈ G' → k < (w2.alloc (.cells CS' 34)).heap.size := fun k hk => by
    rw [World.size_alloc]
    rcases hG k hk with h | h
    · have := h1.gl k h; omega
    · omega
  obtain ⟨p1, p2⟩ := hE3.putM hs ho (hr.turn ((Frm.Turn.refl [] w2).alloc _) (by simp)) hg hl
  exact ⟨World.alloc_heap_new _ _, hE3, p1, (hT3.mono (by simp)).trans p2 (fun k hk => .inl hk)⟩
end Evn
end Go.Proofs.YtolcpfidmpoipaaGreat
