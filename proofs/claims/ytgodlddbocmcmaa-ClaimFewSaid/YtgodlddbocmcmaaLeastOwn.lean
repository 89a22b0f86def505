/- A stock that a caller has made, alone in new memory: its methods. -/
import Derived.Test.YtgodlddbocmcmaaLeastTake
set_option linter.unusedVariables false
set_option linter.unusedSimpArgs false
namespace Go.Proofs.Ytgodlddbocmcmaa
namespace Lst
open Go.RowKit Hp Go.Maps

/-- In w, which has come out of w0 without a turn in what was there, block b is a stock S in new blocks. -/
def Own (w0 w : World) (b : Nat) (S : St) : Prop := ∃ F, StockAt w b F S ∧ Frm.Turn [] w0 w ∧ ∀ k, k ∈ F → w0.heap.size ≤ k
theorem Own.turn {w0 w : World} {b : Nat} {S : St} (h : Own w0 w b S) : Frm.Turn [] w0 w := let ⟨_, _, ht, _⟩ := h; ht
theorem Own.ok {w0 w : World} {b : Nat} {S : St} (h : Own w0 w b S) : S.Ok := let ⟨_, hs, _⟩ := h; hs.ok
theorem Own.step {w0 w w' : World} {b : Nat} {S : St} (h : Own w0 w b S) (ht : Frm.Turn [] w w') : Own w0 w' b S :=
  let ⟨F, hs, h1, h2⟩ := h
  ⟨F, hs.turn ht (by simp), h1.trans ht (by simp), h2⟩
theorem Own.next {w0 w w' : World} {b : Nat} {F F' : List Nat} {S' : St} (h1 : Frm.Turn [] w0 w) (h2 : ∀ k, k ∈ F → w0.heap.size ≤ k) (hs : StockAt w' b F' S') (ht : Frm.Turn F w w') (hf : ∀ k, k ∈ F' → k ∈ F ∨ w.heap.size ≤ k) : Own w0 w' b S' :=
  ⟨F', hs, h1.trans ht (fun k hk => Or.inr (h2 k hk)), fun k hk => by
    rcases hf k hk with h | h
    · exact h2 k h
    · exact Nat.le_trans h1.size h⟩

theorem own_new (w0 : World) (most : Nat) (w : World) (h : most ≤ 65535) (h1 : Frm.Turn [] w0 w) :
    Calls Try.prog 18 #[.int .i64 (most : Int)] w fun e w' => ∃ b, e = .returned (.tuple #[.pointer (some ⟨b, 0, none⟩), .int .i64 0]) ∧ Own w0 w' b ⟨most, 0, []⟩ :=
  (new_yes most w h).mono fun _ _ ⟨b, F, e, hs, ht, hf⟩ => ⟨b, e, F, hs, h1.trans ht (by simp), fun k hk => Nat.le_trans h1.size (hf k hk)⟩
theorem own_used {w0 w : World} {b : Nat} {S : St} (h : Own w0 w b S) (k : Int) (t : Bool) (hk : (Lit.int .i64 k).wf = true) (ht : S.used k = t) :
    Calls Try.prog 62 #[.pointer (some ⟨b, 0, none⟩), .int .i64 k] w fun e w' => e = .returned (.bool t) ∧ Own w0 w' b S :=
  let ⟨F, hs, _⟩ := h
  (used_any b F S k w hs hk).mono fun _ _ ⟨e, ht'⟩ => ⟨by rw [e, ht], h.step ht'⟩
def TakeOwn (w0 : World) (b : Nat) (S : St) (e : Ending) (w' : World) : Prop :=
  (∃ (x : Nat) (S' : St), e = .returned (.tuple #[.int .i64 (x : Int), .int .i64 0]) ∧ Took S x S' ∧ Own w0 w' b S') ∨
  (e = .returned (.tuple #[.int .i64 0, .int .i64 20]) ∧ S.len = S.most ∧ (∀ k : Int, 1 ≤ k → k ≤ S.most → S.used k = true) ∧ Own w0 w' b S)
theorem own_take {w0 w : World} {b : Nat} {S : St} (h : Own w0 w b S) :
    Calls Try.prog 52 #[.pointer (some ⟨b, 0, none⟩)] w (TakeOwn w0 b S) :=
  let ⟨F, hs, h1, h2⟩ := h
  (take_any b F S w hs).mono fun _ _ he => he.imp (fun ⟨x, S', F', e, ht, hs', hT, hf⟩ => ⟨x, S', e, ht, Own.next h1 h2 hs' hT hf⟩) (fun ⟨e, a, c, _, hT⟩ => ⟨e, a, c, h.step hT⟩)
theorem own_take_is {w0 w : World} {b : Nat} {S : St} (h : Own w0 w b S) (x : Nat) (h1 : 1 ≤ x) (h2 : x ≤ S.most) (hu : S.used x = false) (hl : ∀ k : Int, 1 ≤ k → k < x → S.used k = true) :
    Calls Try.prog 52 #[.pointer (some ⟨b, 0, none⟩)] w fun e w' => e = .returned (.tuple #[.int .i64 (x : Int), .int .i64 0]) ∧ ∃ S', Took S x S' ∧ Own w0 w' b S' :=
  (own_take h).mono fun e w' he => by
    rcases he with ⟨y, S', e, ht, ho⟩ | ⟨_, _, hf, _⟩
    · have hyx : y = x := by
        rcases Nat.lt_trichotomy y x with hlt | he | hgt
        · have := hl y (by have := ht.lo; omega) (by omega)
          rw [ht.free] at this; cases this
        · exact he
        · have := ht.least x (by omega) (by omega)
          rw [hu] at this; cases this
      subst hyx
      exact ⟨e, S', ht, ho⟩
    · have := hf x (by omega) (by omega)
      rw [hu] at this; cases this
theorem own_take_full {w0 w : World} {b : Nat} {S : St} (h : Own w0 w b S) (hf : ∀ k : Int, 1 ≤ k → k ≤ S.most → S.used k = true) :
    Calls Try.prog 52 #[.pointer (some ⟨b, 0, none⟩)] w fun e w' => e = .returned (.tuple #[.int .i64 0, .int .i64 20]) ∧ Own w0 w' b S :=
  (own_take h).mono fun e w' he => by
    rcases he with ⟨y, S', e, ht, ho⟩ | ⟨e, _, _, ho⟩
    · have := hf y (by have := ht.lo; omega) (by have := ht.hi; omega)
      rw [ht.free] at this; cases this
    · exact ⟨e, ho⟩
theorem own_give_yes {w0 w : World} {b : Nat} {S : St} (h : Own w0 w b S) (k : Int) (hk : (Lit.int .i64 k).wf = true) (hu : S.used k = true) :
    Calls Try.prog 59 #[.pointer (some ⟨b, 0, none⟩), .int .i64 k] w fun e w' => e = .returned (.int .i64 0) ∧ ∃ S', Gave S k S' ∧ Own w0 w' b S' :=
  let ⟨F, hs, h1, h2⟩ := h
  (give_any b F S k w hs hk).mono fun e w' he => by
    rcases he with ⟨S', F', e, hg, hs', hT, hf⟩ | ⟨_, hn, _⟩
    · exact ⟨e, S', hg, Own.next h1 h2 hs' hT hf⟩
    · rw [hu] at hn; cases hn
theorem own_give_no {w0 w : World} {b : Nat} {S : St} (h : Own w0 w b S) (k : Int) (hk : (Lit.int .i64 k).wf = true) (hu : S.used k = false) :
    Calls Try.prog 59 #[.pointer (some ⟨b, 0, none⟩), .int .i64 k] w fun e w' => e = .returned (.int .i64 21) ∧ Own w0 w' b S :=
  let ⟨F, hs, h1, h2⟩ := h
  (give_any b F S k w hs hk).mono fun e w' he => by
    rcases he with ⟨S', F', e, hg, _⟩ | ⟨e, hn, _, hT⟩
    · rw [hg.was] at hu; cases hu
    · exact ⟨e, h.step hT⟩

/-- The same with the blocks named. -/
structure OwnF (w0 w : World) (b : Nat) (F : List Nat) (S : St) : Prop where
  stock : StockAt w b F S
  turn : Frm.Turn [] w0 w
  new : ∀ k, k ∈ F → w0.heap.size ≤ k
theorem OwnF.own {w0 w : World} {b : Nat} {F : List Nat} {S : St} (h : OwnF w0 w b F S) : Own w0 w b S := ⟨F, h.stock, h.turn, h.new⟩
theorem StockAt.lt {w : World} {b : Nat} {F : List Nat} {S : St} (h : StockAt w b F S) : ∀ k, k ∈ F → k < w.heap.size := by
  obtain ⟨m, G, rfl, hR, _, _, D, hD⟩ := h.parts
  intro k hk
  simp at hk
  rcases hk with rfl | rfl | hk
  · exact h.b_lt
  · exact hD.own.lt
  · rcases hR with ⟨_, rfl, _⟩ | ⟨g, c, rfl, hR⟩
    · simp at hk
    · simp at hk; subst hk
      obtain ⟨cur, hg, _⟩ := hR.row
      exact (Array.getElem?_eq_some_iff.1 hg).1
theorem OwnF.step {w0 w w' : World} {b : Nat} {F : List Nat} {S : St} (h : OwnF w0 w b F S) (ht : Frm.Turn [] w w') : OwnF w0 w' b F S := ⟨h.stock.turn ht (by simp), h.turn.trans ht (by simp), h.new⟩
theorem ownf_used {w0 w : World} {b : Nat} {F : List Nat} {S : St} (h : OwnF w0 w b F S) (k : Int) (t : Bool) (hk : (Lit.int .i64 k).wf = true) (ht : S.used k = t) :
    Calls Try.prog 62 #[.pointer (some ⟨b, 0, none⟩), .int .i64 k] w fun e w' => e = .returned (.bool t) ∧ OwnF w0 w' b F S ∧ Frm.Turn [] w w' :=
  (used_any b F S k w h.stock hk).mono fun _ _ ⟨e, ht'⟩ => ⟨by rw [e, ht], h.step ht', ht'⟩
theorem ownf_give_yes {w0 w : World} {b : Nat} {F : List Nat} {S : St} (h : OwnF w0 w b F S) (k : Int) (hk : (Lit.int .i64 k).wf = true) (hu : S.used k = true) :
    Calls Try.prog 59 #[.pointer (some ⟨b, 0, none⟩), .int .i64 k] w fun e w' => e = .returned (.int .i64 0) ∧ ∃ S' F', Gave S k S' ∧ OwnF w0 w' b F' S' ∧ Frm.Turn F w w' :=
  (give_any b F S k w h.stock hk).mono fun e w' he => by
    rcases he with ⟨S', F', e, hg, hs', hT, hf⟩ | ⟨_, hn, _⟩
    · refine ⟨e, S', F', hg, ⟨hs', h.turn.trans hT (fun k hk => Or.inr (h.new k hk)), fun k hk => ?_⟩, hT⟩
      rcases hf k hk with h1 | h1
      · exact h.new k h1
      · exact Nat.le_trans h.turn.size h1
    · rw [hu] at hn; cases hn
theorem ownf_give_no {w0 w : World} {b : Nat} {F : List Nat} {S : St} (h : OwnF w0 w b F S) (k : Int) (hk : (Lit.int .i64 k).wf = true) (hu : S.used k = false) :
    Calls Try.prog 59 #[.pointer (some ⟨b, 0, none⟩), .int .i64 k] w fun e w' => e = .returned (.int .i64 21) ∧ OwnF w0 w' b F S ∧ Frm.Turn [] w w' :=
  (give_any b F S k w h.stock hk).mono fun e w' he => by
    rcases he with ⟨S', F', e, hg, _⟩ | ⟨e, hn, _, hT⟩
    · rw [hg.was] at hu; cases hu
    · exact ⟨e, h.step hT, hT⟩

end Lst
end Go.Proofs.Ytgodlddbocmcmaa
