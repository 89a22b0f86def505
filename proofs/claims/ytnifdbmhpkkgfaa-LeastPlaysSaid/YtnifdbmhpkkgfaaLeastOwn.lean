/- A stock that a caller has made, alone in new memory: its methods, and the facts that the statements ask ahead of everything else. -/
import Derived.Test.YtnifdbmhpkkgfaaLeastTake
set_option linter.unusedVariables false
set_option linter.unusedSimpArgs false
namespace Go.Proofs.Ytnifdbmhpkkgfaa
namespace Lst
open Go.RowKit Hp Go.Maps

/-- In w, which has come out of w0 without a turn in what was there, block b is a stock S in new blocks. -/
def Own (w0 w : World) (b : Nat) (S : St) : Prop := ∃ F, StockAt w b F S ∧ Frm.Turn [] w0 w ∧ ∀ k, k ∈ F → w0.heap.size ≤ k
theorem Own.turn {w0 w : World} {b : Nat} {S : St} (h : Own w0 w b S) : Frm.Turn [] w0 w := let ⟨_, _, ht, _⟩ := h; ht
theorem Own.ok {w0 w : World} {b : Nat} {S : St} (h : Own w0 w b S) : S.Ok := let ⟨_, hs, _⟩ := h; hs.ok
theorem Own.step {w0 w w' : World} {b : Nat} {S : St} (h : Own w0 w b S) (ht : Frm.Turn [] w w') : Own w0 w' b S :=
  let ⟨F, hs, h1, h2⟩ := h
  ⟨F, hs.turn ht (by simp), h1.trans ht (by simp), h2⟩
theorem Own.next {w0 w w' : World} {b : Nat} {F F' : List Nat} {S' : St} (h1 : Frm.Turn [] w0 w) (h2 : ∀ k, k ∈ F → w0.heap.size ≤ k) (hs : StockAt w' b F' S') (ht : Frm.Turn F w w') (hf : ∀ k, k ∈ F' → k ∈ F ∨ w.heap.size ≤ k) : Own w0 w' b S' :=
  ⟨F', hs, h1.trans ht (fun k hk => Or.inr (h2 k hk)), fun k hk => by
    rcases hf k hk with h | h
    · exact h2 k h
    · exact Nat.le_trans h1.size h⟩

theorem own_new (w0 : World) (most : Nat) (w : World) (h : most ≤ 65535) (h1 : Frm.Turn [] w0 w) :
    Calls Try.prog 7 #[.int .i64 (most : Int)] w fun e w' => ∃ b, e = .returned (.tuple #[.pointer (some ⟨b, 0, none⟩), .int .i64 0]) ∧ Own w0 w' b ⟨most, 0, []⟩ :=
  (new_yes most w h).mono fun _ _ ⟨b, F, e, hs, ht, hf⟩ => ⟨b, e, F, hs, h1.trans ht (by simp), fun k hk => Nat.le_trans h1.size (hf k hk)⟩
theorem own_used {w0 w : World} {b : Nat} {S : St} (h : Own w0 w b S) (k : Int) (t : Bool) (hk : (Lit.int .i64 k).wf = true) (ht : S.used k = t) :
    Calls Try.prog 10 #[.pointer (some ⟨b, 0, none⟩), .int .i64 k] w fun e w' => e = .returned (.bool t) ∧ Own w0 w' b S :=
  let ⟨F, hs, _⟩ := h
  (used_any b F S k w hs hk).mono fun _ _ ⟨e, ht'⟩ => ⟨by rw [e, ht], h.step ht'⟩
theorem own_len {w0 w : World} {b : Nat} {S : St} (h : Own w0 w b S) (n : Nat) (hn : S.len = n) :
    Calls Try.prog 11 #[.pointer (some ⟨b, 0, none⟩)] w fun e w' => e = .returned (.int .i64 (n : Int)) ∧ w = w' :=
  let ⟨F, hs, _⟩ := h
  (slen_any b F S w hs).mono fun _ _ ⟨e, ht'⟩ => ⟨by rw [e, hn], ht'⟩
theorem own_high {w0 w : World} {b : Nat} {S : St} (h : Own w0 w b S) (n : Nat) (hn : S.high = n) :
    Calls Try.prog 12 #[.pointer (some ⟨b, 0, none⟩)] w fun e w' => e = .returned (.int .i64 (n : Int)) ∧ w = w' :=
  let ⟨F, hs, _⟩ := h
  (high_any b F S w hs).mono fun _ _ ⟨e, ht'⟩ => ⟨by rw [e, hn], ht'⟩
def TakeOwn (w0 : World) (b : Nat) (S : St) (e : Ending) (w' : World) : Prop :=
  (∃ (x : Nat) (S' : St), e = .returned (.tuple #[.int .i64 (x : Int), .int .i64 0]) ∧ Took S x S' ∧ Own w0 w' b S') ∨
  (e = .returned (.tuple #[.int .i64 0, .int .i64 20]) ∧ S.len = S.most ∧ (∀ k : Int, 1 ≤ k → k ≤ S.most → S.used k = true) ∧ Own w0 w' b S)
theorem own_take {w0 w : World} {b : Nat} {S : St} (h : Own w0 w b S) :
    Calls Try.prog 8 #[.pointer (some ⟨b, 0, none⟩)] w (TakeOwn w0 b S) :=
  let ⟨F, hs, h1, h2⟩ := h
  (take_any b F S w hs).mono fun _ _ he => he.imp (fun ⟨x, S', F', e, ht, hs', hT, hf⟩ => ⟨x, S', e, ht, Own.next h1 h2 hs' hT hf⟩) (fun ⟨e, a, c, _, hT⟩ => ⟨e, a, c, h.step hT⟩)
theorem own_take_is {w0 w : World} {b : Nat} {S : St} (h : Own w0 w b S) (x : Nat) (h1 : 1 ≤ x) (h2 : x ≤ S.most) (hu : S.used x = false) (hl : ∀ k : Int, 1 ≤ k → k < x → S.used k = true) :
    Calls Try.prog 8 #[.pointer (some ⟨b, 0, none⟩)] w fun e w' => e = .returned (.tuple #[.int .i64 (x : Int), .int .i64 0]) ∧ ∃ S', Took S x S' ∧ Own w0 w' b S' :=
  (own_take h).mono fun e w' he => by
    rcases he with ⟨y, S', e, ht, ho⟩ | ⟨_, _, hf, _⟩
    · have hyx : y = x := by
        rcases Nat.lt_trichotomy y x with hlt | he | hgt
        · have := hl y (by have := ht.lo; omega) (by omega)
          rw [ht.free] at this; cases this
        · exact he
        · have := ht.least x (by omega) (by omega)
          rw [hu] at this; cases this
      subst hyx
      exact ⟨e, S', ht, ho⟩
    · have := hf x (by omega) (by omega)
      rw [hu] at this; cases this
theorem own_take_full {w0 w : World} {b : Nat} {S : St} (h : Own w0 w b S) (hf : ∀ k : Int, 1 ≤ k → k ≤ S.most → S.used k = true) :
    Calls Try.prog 8 #[.pointer (some ⟨b, 0, none⟩)] w fun e w' => e = .returned (.tuple #[.int .i64 0, .int .i64 20]) ∧ Own w0 w' b S :=
  (own_take h).mono fun e w' he => by
    rcases he with ⟨y, S', e, ht, ho⟩ | ⟨e, _, _, ho⟩
    · have := hf y (by have := ht.lo; omega) (by have := ht.hi; omega)
      rw [ht.free] at this; cases this
    · exact ⟨e, ho⟩
theorem own_give_yes {w0 w : World} {b : Nat} {S : St} (h : Own w0 w b S) (k : Int) (hk : (Lit.int .i64 k).wf = true) (hu : S.used k = true) :
    Calls Try.prog 9 #[.pointer (some ⟨b, 0, none⟩), .int .i64 k] w fun e w' => e = .returned (.int .i64 0) ∧ ∃ S', Gave S k S' ∧ Own w0 w' b S' :=
  let ⟨F, hs, h1, h2⟩ := h
  (give_any b F S k w hs hk).mono fun e w' he => by
    rcases he with ⟨S', F', e, hg, hs', hT, hf⟩ | ⟨_, hn, _⟩
    · exact ⟨e, S', hg, Own.next h1 h2 hs' hT hf⟩
    · rw [hu] at hn; cases hn
theorem own_give_no {w0 w : World} {b : Nat} {S : St} (h : Own w0 w b S) (k : Int) (hk : (Lit.int .i64 k).wf = true) (hu : S.used k = false) :
    Calls Try.prog 9 #[.pointer (some ⟨b, 0, none⟩), .int .i64 k] w fun e w' => e = .returned (.int .i64 21) ∧ Own w0 w' b S :=
  let ⟨F, hs, h1, h2⟩ := h
  (give_any b F S k w hs hk).mono fun e w' he => by
    rcases he with ⟨S', F', e, hg, _⟩ | ⟨e, hn, _, hT⟩
    · rw [hg.was] at hu; cases hu
    · exact ⟨e, h.step hT⟩

/-- The same with the blocks named. -/
structure OwnF (w0 w : World) (b : Nat) (F : List Nat) (S : St) : Prop where
  stock : StockAt w b F S
  turn : Frm.Turn [] w0 w
  new : ∀ k, k ∈ F → w0.heap.size ≤ k
theorem OwnF.own {w0 w : World} {b : Nat} {F : List Nat} {S : St} (h : OwnF w0 w b F S) : Own w0 w b S := ⟨F, h.stock, h.turn, h.new⟩
theorem StockAt.lt {w : World} {b : Nat} {F : List Nat} {S : St} (h : StockAt w b F S) : ∀ k, k ∈ F → k < w.heap.size := by
  obtain ⟨m, G, rfl, hR, _, _, D, hD⟩ := h.parts
  intro k hk
  simp at hk
  rcases hk with rfl | rfl | hk
  · exact h.b_lt
  · exact hD.own.lt
  · rcases hR with ⟨_, rfl, _⟩ | ⟨g, c, rfl, hR⟩
    · simp at hk
    · simp at hk; subst hk
      obtain ⟨cur, hg, _⟩ := hR.row
      exact (Array.getElem?_eq_some_iff.1 hg).1
theorem OwnF.step {w0 w w' : World} {b : Nat} {F : List Nat} {S : St} (h : OwnF w0 w b F S) (ht : Frm.Turn [] w w') : OwnF w0 w' b F S := ⟨h.stock.turn ht (by simp), h.turn.trans ht (by simp), h.new⟩
theorem ownf_used {w0 w : World} {b : Nat} {F : List Nat} {S : St} (h : OwnF w0 w b F S) (k : Int) (t : Bool) (hk : (Lit.int .i64 k).wf = true) (ht : S.used k = t) :
    Calls Try.prog 10 #[.pointer (some ⟨b, 0, none⟩), .int .i64 k] w fun e w' => e = .returned (.bool t) ∧ OwnF w0 w' b F S ∧ Frm.Turn [] w w' :=
  (used_any b F S k w h.stock hk).mono fun _ _ ⟨e, ht'⟩ => ⟨by rw [e, ht], h.step ht', ht'⟩
theorem ownf_give_yes {w0 w : World} {b : Nat} {F : List Nat} {S : St} (h : OwnF w0 w b F S) (k : Int) (hk : (Lit.int .i64 k).wf = true) (hu : S.used k = true) :
    Calls Try.prog 9 #[.pointer (some ⟨b, 0, none⟩), .int .i64 k] w fun e w' => e = .returned (.int .i64 0) ∧ ∃ S' F', Gave S k S' ∧ OwnF w0 w' b F' S' ∧ Frm.Turn F w w' :=
  (give_any b F S k w h.stock hk).mono fun e w' he => by
    rcases he with ⟨S', F', e, hg, hs', hT, hf⟩ | ⟨_, hn, _⟩
    · refine ⟨e, S', F', hg, ⟨hs', h.turn.trans hT (fun k hk => Or.inr (h.new k hk)), fun k hk => ?_⟩, hT⟩
      rcases hf k hk with h1 | h1
      · exact h.new k h1
      · exact Nat.le_trans h.turn.size h1
    · rw [hu] at hn; cases hn
theorem ownf_give_no {w0 w : World} {b : Nat} {F : List Nat} {S : St} (h : OwnF w0 w b F S) (k : Int) (hk : (Lit.int .i64 k).wf = true) (hu : S.used k = false) :
    Calls Try.prog 9 #[.pointer (some ⟨b, 0, none⟩), .int .i64 k] w fun e w' => e = .returned (.int .i64 21) ∧ OwnF w0 w' b F S ∧ Frm.Turn [] w w' :=
  (give_any b F S k w h.stock hk).mono fun e w' he => by
    rcases he with ⟨S', F', e, hg, _⟩ | ⟨e, hn, _, hT⟩
    · rw [hg.was] at hu; cases hu
    · exact ⟨e, h.step hT, hT⟩

set_option maxRecDepth 100000 in
set_option maxHeartbeats 2000000 in
theorem first_any (w0 : World) : Calls Try.prog 6 #[] w0 fun e w' => e = .returned (.bool true) ∧ Frm.Turn [] w0 w' := by
  go_enter Try.func6, Try.ntmps6
  go_wp2_with fail
  refine (own_new w0 2 _ (by omega) (Frm.Turn.refl [] w0)).mono ?_
  rintro e w1 ⟨b, rfl, ho⟩
  have u1 : ∀ k : Int, (St.mk 2 0 []).used k = false := used_new 2
  have T1 := Lib.hid (own_take_is ho 1 (by omega) (by show 1 ≤ 2; omega) (u1 _) (fun k _ _ => by omega))
  clear ho u1
  go_wp2_with fail
  refine (T1.out).mono ?_
  rintro e w2 ⟨rfl, S2, t2, ho⟩
  have u2 : ∀ k : Int, S2.used k = decide (k = 1) := fun k => by rw [t2.used, used_new]; simp
  have l2 : S2.len = 1 := t2.len
  have m2 : S2.most = 2 := t2.most
  have h2 : S2.high = 1 := t2.high
  have T2 := Lib.hid (own_take_is ho 2 (by omega) (by omega) (by rw [u2]; rfl) (fun k _ _ => by rw [u2]; simp; omega))
  have U2 := Lib.hid u2
  have L2 := Lib.hid l2
  have M2 := Lib.hid m2
  have H2 := Lib.hid h2
  clear t2 ho u2 l2 m2 h2
  go_wp2_with fail
  refine (T2.out).mono ?_
  rintro e w3 ⟨rfl, S3, t3, ho⟩
  have u3 : ∀ k : Int, S3.used k = (decide (k = 1) || decide (k = 2)) := fun k => by rw [t3.used, U2.out]; rfl
  have l3 : S3.len = 2 := by rw [t3.len, L2.out]
  have m3 : S3.most = 2 := by rw [t3.most, M2.out]
  have h3 : S3.high = 2 := by rw [t3.high, H2.out]; rfl
  have T3 := Lib.hid (own_take_full ho (fun k _ _ => by rw [u3]; simp; omega))
  have U3 := Lib.hid u3
  have L3 := Lib.hid l3
  have M3 := Lib.hid m3
  have H3 := Lib.hid h3
  clear t3 ho u3 l3 m3 h3
  go_wp2_with fail
  refine (T3.out).mono ?_
  rintro e w4 ⟨rfl, ho⟩
  have T4 := Lib.hid (own_give_yes ho 1 (wf_small (by omega) (by omega)) (by rw [U3.out]; rfl))
  clear ho
  go_wp2_with fail
  refine (T4.out).mono ?_
  rintro e w5 ⟨rfl, S5, g5, ho⟩
  have u5 : ∀ k : Int, S5.used k = decide (k = 2) := fun k => by rw [g5.used, U3.out, Bool.eq_iff_iff]; simp; omega
  have l5 : S5.len = 1 := by have := g5.len; rw [L3.out] at this; omega
  have m5 : S5.most = 2 := by rw [g5.most, M3.out]
  have h5 : S5.high = 2 := by rw [g5.high, H3.out]
  have T5 := Lib.hid (own_take_is ho 1 (by omega) (by omega) (by rw [u5]; rfl) (fun k _ _ => by omega))
  have U5 := Lib.hid u5
  have L5 := Lib.hid l5
  have M5 := Lib.hid m5
  have H5 := Lib.hid h5
  clear g5 ho u5 l5 m5 h5
  go_wp2_with fail
  refine (T5.out).mono ?_
  rintro e w6 ⟨rfl, S6, t6, ho⟩
  have u6 : ∀ k : Int, S6.used k = (decide (k = 2) || decide (k = 1)) := fun k => by rw [t6.used, U5.out]; rfl
  have l6 : S6.len = 2 := by rw [t6.len, L5.out]
  have h6 : S6.high = 2 := by rw [t6.high, H5.out]; rfl
  have HO := Lib.hid ho
  have U6 := Lib.hid u6
  have L6 := Lib.hid l6
  have H6 := Lib.hid h6
  clear t6 ho u6 l6 h6
  go_wp2_with fail
  refine (new_no (-1) _ (Or.inl (by omega))).mono ?_
  rintro e w' ⟨rfl, rfl⟩
  go_wp2_with fail
  refine (own_len HO.out 2 L6.out).mono ?_
  rintro e w' ⟨rfl, rfl⟩
  go_wp2_with fail
  refine (own_high HO.out 2 H6.out).mono ?_
  rintro e w' ⟨rfl, rfl⟩
  go_wp2_with fail
  refine (own_used HO.out 2 true (wf_small (by omega) (by omega)) (by rw [U6.out]; rfl)).mono ?_
  rintro e w7 ⟨rfl, ho7⟩
  have HO7 := Lib.hid ho7
  clear ho7
  go_wp2_with fail
  refine (own_used HO7.out 3 false (wf_small (by omega) (by omega)) (by rw [U6.out]; rfl)).mono ?_
  rintro e w8 ⟨rfl, ho8⟩
  have HO8 := Lib.hid ho8
  clear ho8
  go_wp2_with fail
  refine (own_give_no HO8.out 7 (wf_small (by omega) (by omega)) (by rw [U6.out]; rfl)).mono ?_
  rintro e w9 ⟨rfl, ho9⟩
  have HO9 := Lib.hid ho9
  clear ho9
  go_wp2
  go_ret
  exact ⟨rfl, HO9.out.turn⟩
end Lst
end Go.Proofs.Ytnifdbmhpkkgfaa
