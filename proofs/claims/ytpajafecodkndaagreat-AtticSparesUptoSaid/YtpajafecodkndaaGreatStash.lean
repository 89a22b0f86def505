/- Parts that lie beside an arena: each has blocks of its own, and blocks that nobody turns any more. No program but the arena's. -/
import Derived.Test.YtpajafecodkndaaGreatClaimKin
set_option linter.unusedVariables false
set_option linter.unusedSimpArgs false
namespace Go.Proofs.YtpajafecodkndaaGreat
namespace Sta
open Go.RowKit Arn Clm

structure Part where
  own : List Nat
  imm : List Nat
  on : World → Prop
def Part.all (p : Part) : List Nat := p.own ++ p.imm
/-- It stays while nothing of its blocks turns. -/
def Part.Fra (p : Part) : Prop := ∀ W W' F, p.on W → Frm.Turn F W W' → (∀ x, x ∈ p.own → x ∉ F) → (∀ x, x ∈ p.imm → x ∉ F) → p.on W'
def feet (ps : List Part) : List Nat := ps.flatMap Part.all
/-- Two parts don't touch. -/
def Off (p q : Part) : Prop := (∀ x, x ∈ p.own → x ∉ q.own ∧ x ∉ q.imm) ∧ ∀ x, x ∈ q.own → x ∉ p.own ∧ x ∉ p.imm
theorem Off.symm {p q : Part} (h : Off p q) : Off q p := ⟨h.2, h.1⟩
theorem off_of : ∀ {ps : List Part} {p q : Part}, ps.Pairwise Off → p ∈ ps → q ∈ ps → p ≠ q → Off p q := by
  intro ps
  induction ps with
  | nil => intro p q _ hp; cases hp
  | cons a t ih =>
    intro p q h hp hq hne
    obtain ⟨h1, h2⟩ := List.pairwise_cons.1 h
    rcases List.mem_cons.1 hp with e | hp2
    · rcases List.mem_cons.1 hq with e2 | hq2
      · exact absurd (e.trans e2.symm) hne
      · rw [e]; exact h1 q hq2
    · rcases List.mem_cons.1 hq with e2 | hq2
      · rw [e2]; exact (h1 p hp2).symm
      · exact ih h2 hp2 hq2 hne
structure Stash (w : World) (b : Nat) (A : Ar) (k : Nat) (ps : List Part) (W : World) : Prop where
  kin : Kin w b (feet ps) A k W
  fra : ∀ p, p ∈ ps → p.Fra
  on : ∀ p, p ∈ ps → p.on W
  off : ps.Pairwise Off
  self : ∀ p, p ∈ ps → ∀ x, x ∈ p.own → x ∉ p.imm
  low : ∀ p, p ∈ ps → ∀ x, x ∈ p.own → w.heap.size ≤ x
variable {w W W' : World} {b k : Nat} {A : Ar} {p q : Part} {ps qs : List Part}
theorem mem_feet {x : Nat} (hp : p ∈ ps) (hx : x ∈ p.all) : x ∈ feet ps := List.mem_flatMap.2 ⟨p, hp, hx⟩
theorem feet_mem {x : Nat} (h : x ∈ feet ps) : ∃ p, p ∈ ps ∧ x ∈ p.all := List.mem_flatMap.1 h
theorem in_own {x : Nat} (h : x ∈ p.own) : x ∈ p.all := List.mem_append_left _ h
theorem in_imm {x : Nat} (h : x ∈ p.imm) : x ∈ p.all := List.mem_append_right _ h
theorem Stash.lt (S : Stash w b A k ps W) {x : Nat} (hp : p ∈ ps) (hx : x ∈ p.all) : x < W.heap.size := S.kin.lt (mem_feet hp hx)
theorem Stash.perm (S : Stash w b A k ps W) (h : ps.Perm qs) : Stash w b A k qs W :=
  ⟨S.kin.sub (fun x hx => by obtain ⟨p, hp, hx⟩ := feet_mem hx; exact mem_feet (h.mem_iff.2 hp) hx), fun p hp => S.fra p (h.mem_iff.2 hp), fun p hp => S.on p (h.mem_iff.2 hp),
    (h.pairwise_iff (fun h => h.symm)).1 S.off, fun p hp => S.self p (h.mem_iff.2 hp), fun p hp => S.low p (h.mem_iff.2 hp)⟩
theorem Stash.drop (S : Stash w b A k (p :: ps) W) : Stash w b A k ps W :=
  ⟨S.kin.sub (fun x hx => by obtain ⟨q, hq, hx⟩ := feet_mem hx; exact mem_feet (List.mem_cons_of_mem _ hq) hx), fun q hq => S.fra q (List.mem_cons_of_mem _ hq), fun q hq => S.on q (List.mem_cons_of_mem _ hq),
    (List.pairwise_cons.1 S.off).2, fun q hq => S.self q (List.mem_cons_of_mem _ hq), fun q hq => S.low q (List.mem_cons_of_mem _ hq)⟩
theorem Stash.still (S : Stash w b A k ps W) (ht : Frm.Turn [] W W') : Stash w b A k ps W' :=
  ⟨S.kin.step ht, S.fra, fun p hp => S.fra p hp _ _ _ (S.on p hp) ht (by simp) (by simp), S.off, S.self, S.low⟩
/-- The arena alone has turned. -/
theorem Stash.but {A' : Ar} {k' : Nat} (S : Stash w b A k ps W) (hk : Kin w b (feet ps) A' k' W') (hb : But w (feet ps) none W W') : Stash w b A' k' ps W' := by
  obtain ⟨F, hT, h1, _⟩ := hb
  exact ⟨hk, S.fra, fun p hp => S.fra p hp _ _ _ (S.on p hp) hT (fun x hx => h1 x (mem_feet hp (in_own hx)) (by simp)) (fun x hx => h1 x (mem_feet hp (in_imm hx)) (by simp)), S.off, S.self, S.low⟩
/-- The first part has turned, the arena too perhaps: what is new may be its own or stay. -/
theorem Stash.both {A' : Ar} {k' : Nat} {F : List Nat} {p' : Part} (S : Stash w b A k (p :: ps) W) (hk : Kin w b (feet (p' :: ps)) A' k' W') (hT : Frm.Turn F W W') (hF : ∀ q, q ∈ ps → ∀ x, x ∈ q.all → x ∉ F)
    (hf : p'.Fra) (hon : p'.on W') (ho : ∀ x, x ∈ p'.own → x ∈ p.own ∨ W.heap.size ≤ x) (hi : ∀ x, x ∈ p'.imm → x ∈ p.all ∨ W.heap.size ≤ x ∨ ∃ q, q ∈ ps ∧ x ∈ q.imm) (hio : ∀ x, x ∈ p'.imm → ∀ q, q ∈ ps → x ∉ q.own) (hs : ∀ x, x ∈ p'.own → x ∉ p'.imm) : Stash w b A' k' (p' :: ps) W' := by
  have hlt : ∀ q, q ∈ ps → ∀ x, x ∈ q.all → x < W.heap.size := fun q hq x hx => S.lt (List.mem_cons_of_mem _ hq) hx
  have hw := S.kin.turn.size
  obtain ⟨o1, o2⟩ := List.pairwise_cons.1 S.off
  refine ⟨hk, fun q hq => ?_, fun q hq => ?_, List.pairwise_cons.2 ⟨fun q hq => ⟨fun x hx => ?_, fun x hx => ?_⟩, o2⟩, fun q hq => ?_, fun q hq x hx => ?_⟩
  · rcases List.mem_cons.1 hq with rfl | hq
    · exact hf
    · exact S.fra q (List.mem_cons_of_mem _ hq)
  · rcases List.mem_cons.1 hq with rfl | hq
    · exact hon
    · exact S.fra q (List.mem_cons_of_mem _ hq) _ _ _ (S.on q (List.mem_cons_of_mem _ hq)) hT (fun x hx => hF q hq x (in_own hx)) (fun x hx => hF q hq x (in_imm hx))
  · rcases ho x hx with h | h
    · exact (o1 q hq).1 x h
    · exact ⟨fun h' => by have := hlt q hq x (in_own h'); omega, fun h' => by have := hlt q hq x (in_imm h'); omega⟩
  · have hx1 := hlt q hq x (in_own hx)
    refine ⟨fun h => ?_, fun h => hio x h q hq hx⟩
    rcases ho x h with h | h
    · exact ((o1 q hq).2 x hx).1 h
    · omega
  · rcases List.mem_cons.1 hq with rfl | hq
    · exact hs
    · exact S.self q (List.mem_cons_of_mem _ hq)
  · rcases List.mem_cons.1 hq with rfl | hq
    · rcases ho x hx with h | h
      · exact S.low p (by simp) x h
      · omega
    · exact S.low q (List.mem_cons_of_mem _ hq) x hx
theorem kin_move {F K K' : List Nat} (h : Kin w b K A k W) (ht : Frm.Turn F W W') (hF : ∀ x, x ∈ F → x ∈ K ∧ w.heap.size ≤ x) (hk : ∀ x, x ∈ K' → x ∈ K ∨ (W.heap.size ≤ x ∧ x < W'.heap.size)) : Kin w b K' A k W' := by
  obtain ⟨M, h3, h4⟩ := h
  have hs := ht.size
  refine ⟨M, h3.apart ht (fun x hx hx' => (h4 x (hF x hx').1).1 hx) (fun x hx => (hF x hx).2), fun j hj => ?_⟩
  rcases hk j hj with hj | hj
  · exact ⟨(h4 j hj).1, by have := (h4 j hj).2; omega⟩
  · exact ⟨fun hk => by have := h3.lt hk; omega, hj.2⟩
/-- The first part alone has turned. What it keeps for good may lie in another part's for good. -/
theorem Stash.act {F : List Nat} {p' : Part} (S : Stash w b A k (p :: ps) W) (hT : Frm.Turn F W W') (hF : ∀ x, x ∈ F → x ∈ p.own) (hf : p'.Fra) (hon : p'.on W') (ho : ∀ x, x ∈ p'.own → x ∈ p.own ∨ (W.heap.size ≤ x ∧ x < W'.heap.size))
    (hi : ∀ x, x ∈ p'.imm → (∃ q, q ∈ p :: ps ∧ x ∈ q.imm) ∨ (W.heap.size ≤ x ∧ x < W'.heap.size)) (hs : ∀ x, x ∈ p'.own → x ∉ p'.imm) : Stash w b A k (p' :: ps) W' := by
  obtain ⟨o1, o2⟩ := List.pairwise_cons.1 S.off
  have hlt : ∀ q, q ∈ ps → ∀ x, x ∈ q.all → x < W.heap.size := fun q hq x hx => S.lt (List.mem_cons_of_mem _ hq) hx
  refine S.both (kin_move S.kin hT (fun x hx => ⟨mem_feet (p := p) (by simp) (in_own (hF x hx)), S.low p (by simp) x (hF x hx)⟩) (fun x hx => ?_)) hT (fun q hq x hx hm => ?_) hf hon (fun x hx => (ho x hx).imp id (·.1)) (fun x hx => ?_) (fun x hx q hq hxo => ?_) hs
  · obtain ⟨q, hq, hxq⟩ := feet_mem hx
    rcases List.mem_cons.1 hq with e | hq
    · rw [e] at hxq
      rcases List.mem_append.1 hxq with h | h
      · exact (ho x h).imp (fun h => mem_feet (p := p) (by simp) (in_own h)) id
      · exact (hi x h).imp (fun ⟨r, hr, h⟩ => mem_feet hr (in_imm h)) id
    · exact .inl (mem_feet (List.mem_cons_of_mem _ hq) hxq)
  · have h := hF x hm
    rcases List.mem_append.1 hx with g | g
    · exact ((o1 q hq).1 x h).1 g
    · exact ((o1 q hq).1 x h).2 g
  · rcases hi x hx with ⟨r, hr, h⟩ | h
    · rcases List.mem_cons.1 hr with rfl | hr
      · exact .inl (in_imm h)
      · exact .inr (.inr ⟨r, hr, h⟩)
    · exact .inr (.inl h.1)
  · rcases hi x hx with ⟨r, hr, h⟩ | h
    · rcases List.mem_cons.1 hr with rfl | hr
      · exact ((o1 q hq).2 x hxo).2 h
      · by_cases e : q = r
        · subst e; exact S.self q (List.mem_cons_of_mem _ hq) x hxo h
        · have := o2
          have hqr : Off q r := by
            exact off_of o2 hq hr e
          exact (hqr.1 x hxo).2 h
    · have := hlt q hq x (in_own hxo); omega
/-- A new part. -/
theorem Stash.add {p' : Part} (S : Stash w b A k ps W) (hT : Frm.Turn [] W W') (hf : p'.Fra) (hon : p'.on W') (ho : ∀ x, x ∈ p'.own → W.heap.size ≤ x ∧ x < W'.heap.size) (hi : ∀ x, x ∈ p'.imm → (∃ q, q ∈ ps ∧ x ∈ q.imm) ∨ (W.heap.size ≤ x ∧ x < W'.heap.size)) (hs : ∀ x, x ∈ p'.own → x ∉ p'.imm) : Stash w b A k (p' :: ps) W' := by
  have hm : ∀ q, q ∈ (⟨[], [], fun _ => True⟩ : Part) :: ps → q = ⟨[], [], fun _ => True⟩ ∨ q ∈ ps := fun q hq => List.mem_cons.1 hq
  have S0 : Stash w b A k (⟨[], [], fun _ => True⟩ :: ps) W := by
    refine ⟨S.kin.sub (fun x hx => ?_), fun q hq => ?_, fun q hq => ?_, List.pairwise_cons.2 ⟨fun q _ => ⟨by simp, by simp⟩, S.off⟩, fun q hq => ?_, fun q hq => ?_⟩
    · obtain ⟨q, hq, hxq⟩ := feet_mem hx
      rcases hm q hq with e | hq
      · rw [e] at hxq; exact absurd hxq (by simp [Part.all])
      · exact mem_feet hq hxq
    · rcases hm q hq with e | hq
      · rw [e]; exact fun _ _ _ _ _ _ _ => trivial
      · exact S.fra q hq
    · rcases hm q hq with e | hq
      · rw [e]; exact trivial
      · exact S.on q hq
    · rcases hm q hq with e | hq
      · rw [e]; simp
      · exact S.self q hq
    · rcases hm q hq with e | hq
      · rw [e]; simp
      · exact S.low q hq
  exact S0.act hT (by simp) hf hon (fun x hx => .inr (ho x hx)) (fun x hx => (hi x hx).imp (fun ⟨q, hq, h⟩ => ⟨q, List.mem_cons_of_mem _ hq, h⟩) id) hs
end Sta
end Go.Proofs.YtpajafecodkndaaGreat
