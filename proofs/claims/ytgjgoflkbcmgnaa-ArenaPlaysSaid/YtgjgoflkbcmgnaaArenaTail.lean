/- ArenaPlays' end: two arenas with the same blocks in any order have the same list of blocks. -/
import Derived.Test.YtgjgoflkbcmgnaaArenaSame
import Derived.Test.YtgjgoflkbcmgnaaArenaOfR
set_option linter.unusedVariables false
set_option linter.unusedSimpArgs false
namespace Go.Proofs.Ytgjgoflkbcmgnaa
namespace Arn
open Go.RowKit Hp Go.Maps

theorem sub_len {f : Blk → Int} : ∀ (L2 L1 : List Blk), L1.Pairwise (fun x y => f x < f y) → L2.Pairwise (fun x y => f x < f y) → (∀ x, x ∈ L1 → x ∈ L2) → L1.length ≤ L2.length := by
  intro L2
  induction L2 with
  | nil => intro L1 _ _ h; cases L1 with
    | nil => simp
    | cons a t => have := h a (by simp); simp at this
  | cons b s ih =>
    intro L1 h1 h2 h
    cases L1 with
    | nil => simp
    | cons a t =>
      obtain ⟨ha, ht⟩ := List.pairwise_cons.1 h1
      obtain ⟨hb, hs⟩ := List.pairwise_cons.1 h2
      rcases List.mem_cons.1 (h a (by simp)) with rfl | has
      · have := ih t ht hs (fun x hx => by
          rcases List.mem_cons.1 (h x (by simp [hx])) with rfl | e
          · have := ha _ hx; omega
          · exact e)
        simp; exact this
      · have := ih (a :: t) h1 hs (fun x hx => by
          rcases List.mem_cons.1 (h x hx) with rfl | e
          · have h3 := hb a has
            rcases List.mem_cons.1 hx with rfl | hx
            · omega
            · have := ha _ hx; omega
          · exact e)
        simp at this ⊢; omega
theorem eq_of_sub {f : Blk → Int} : ∀ (L1 L2 : List Blk), L1.Pairwise (fun x y => f x < f y) → L2.Pairwise (fun x y => f x < f y) → L1.length = L2.length → (∀ x, x ∈ L1 → x ∈ L2) → L1 = L2 := by
  intro L1
  induction L1 with
  | nil => intro L2 _ _ h _; exact (List.length_eq_zero_iff.1 h.symm).symm
  | cons a t ih =>
    intro L2 h1 h2 hl h
    cases L2 with
    | nil => simp at hl
    | cons b s =>
      obtain ⟨ha, ht⟩ := List.pairwise_cons.1 h1
      obtain ⟨hb, hs⟩ := List.pairwise_cons.1 h2
      have hab : a = b := by
        rcases List.mem_cons.1 (h a (by simp)) with e | has
        · exact e
        · exfalso
          have := sub_len s (a :: t) h1 hs (fun x hx => by
            rcases List.mem_cons.1 (h x hx) with rfl | e
            · have h3 := hb a has
              rcases List.mem_cons.1 hx with rfl | hx
              · omega
              · have := ha _ hx; omega
            · exact e)
          simp at this hl
          omega
      subst hab
      rw [ih s ht hs (by simpa using hl) (fun x hx => by
        rcases List.mem_cons.1 (h x (by simp [hx])) with rfl | e
        · have := ha _ hx; omega
        · exact e)]
theorem same_set {A1 A2 : Ar} (h1 : A1.Ok) (h2 : A2.Ok) : sameSet A1.L A2.L = true ↔ A1.L = A2.L := by
  simp only [sameSet, Bool.and_eq_true, decide_eq_true_eq, List.all_eq_true]
  constructor
  · rintro ⟨hl, h⟩
    refine eq_of_sub (f := fun x => x.h % 65536) _ _ h1.rise h2.rise hl (fun x hx => ?_)
    have hx' := h x hx
    simp only [sameAs, List.any_eq_true, Bool.and_eq_true, beq_iff_eq] at hx'
    obtain ⟨y, hy, e1, e2⟩ := hx'
    have : y = x := by
      obtain ⟨xh, xw⟩ := x
      obtain ⟨yh, yw⟩ := y
      simp at e1 e2
      rw [e1, e2]
    rw [← this]; exact hy
  · intro e
    refine ⟨by rw [e], fun x hx => ?_⟩
    simp only [sameAs, List.any_eq_true, Bool.and_eq_true, beq_iff_eq]
    exact ⟨x, by rw [← e]; exact hx, rfl, rfl⟩
theorem same_ar {A1 A2 : Ar} (h1 : A1.Ok) (h2 : A2.Ok) : sameAr A1 A2 = true ↔ A1.fixed = A2.fixed ∧ A1.L = A2.L := by
  unfold sameAr
  rw [Bool.and_eq_true, beq_iff_eq, same_set h1 h2]
theorem RefS.fixed {w : World} {R : Ar} {CS : Array Value} {G : List Nat} (h : RefS w R (.agg CS) G) : ∀ j u, (u64s R.fixed)[j]? = some u → CS.toList[4 + j]? = some u := by
  obtain ⟨f0, f1, f2, f3, f4, f5, f6, f7, f8, hf, v, l, e, _, _, _⟩ := h
  simp only [Value.agg.injEq] at e
  subst e
  rw [hf]
  intro j u hu
  rcases j with _ | _ | _ | _ | _ | _ | _ | _ | _ | j <;> simp [u64s] at hu
  all_goals (subst hu; rfl)
/-- The head of a row of blocks. -/
theorem BlksAt.head_of {w : World} {va : Option Addr} {vc : Nat} {l : List RB} (h : BlksAt w (.slice va l.length vc) l) (d : Nat) (hd : d ≤ l.length) :
    BlksAt w (.slice va d vc) (l.take d) ∧ d ≤ vc ∧ ((va = none ∧ d = 0 ∧ vc = 0) ∨ ∃ g, va = some ⟨g, 0, none⟩) := by
  have hrows : ∀ x, x ∈ l.take d → WordsAt w x.2 x.1.ws := fun x hx => h.rows x (List.mem_of_mem_take hx)
  rcases h.head with ⟨h1, rfl⟩ | ⟨g, c, h1, hc, hm, hcell⟩
  · simp only [Value.slice.injEq] at h1
    obtain ⟨rfl, -, rfl⟩ := h1
    have : d = 0 := by simpa using hd
    subst this
    exact ⟨⟨.inl ⟨rfl, rfl⟩, hrows⟩, Nat.le_refl _, .inl ⟨rfl, rfl, rfl⟩⟩
  · simp only [Value.slice.injEq] at h1
    obtain ⟨rfl, -, rfl⟩ := h1
    have hl : (l.take d).length = d := by rw [List.length_take]; omega
    refine ⟨⟨.inr ⟨g, vc, by rw [hl], by omega, hm, fun j u hu => hcell j u ?_⟩, hrows⟩, by omega, .inr ⟨g, rfl⟩⟩
    rw [rbCells_take] at hu
    rw [List.getElem?_take] at hu
    split at hu
    · exact hu
    · simp at hu
end Arn
end Go.Proofs.Ytgjgoflkbcmgnaa
