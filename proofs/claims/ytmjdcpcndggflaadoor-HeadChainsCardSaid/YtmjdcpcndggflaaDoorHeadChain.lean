/- Entries that are laid one behind the other: what the arena has, as a chain. -/
import Derived.Test.YtmjdcpcndggflaaDoorHeadList
set_option linter.unusedVariables false
set_option linter.unusedSimpArgs false
namespace Go.Proofs.YtmjdcpcndggflaaDoor
namespace Hed
open Go.RowKit Go.Maps Arn

/-- The entries from a handle on, each with its own handle. -/
def Chain (f : Int → Option Ent) : Int → List (Int × Ent) → Prop
  | h, [] => h = 0
  | h, (k, e) :: t => h = k ∧ k ≠ 0 ∧ f k = some e ∧ Chain f e.2.2 t
theorem chain_of {f : Int → Option Ent} : ∀ {l : List (Int × Ent)} {n : Nat} {h : Int}, Chain f h l → l.length ≤ n → chainF f n h = some l := by
  intro l
  induction l with
  | nil => intro n h hc _; obtain rfl : h = 0 := hc; exact chain_nought f n
  | cons x t ih =>
    intro n h hc hl
    obtain ⟨k, e⟩ := x
    obtain ⟨rfl, h0, hf, ht⟩ := hc
    cases n with
    | zero => simp at hl
    | succ n => rw [chain_step h0 hf, ih ht (by simp at hl; omega)]; rfl
theorem Chain.mono {f g : Int → Option Ent} (hg : ∀ k e, f k = some e → g k = some e) : ∀ {l : List (Int × Ent)} {h : Int}, Chain f h l → Chain g h l := by
  intro l
  induction l with
  | nil => intro h hc; exact hc
  | cons x t ih =>
    intro h hc
    obtain ⟨k, e⟩ := x
    obtain ⟨rfl, h0, hf, ht⟩ := hc
    exact ⟨rfl, h0, hg _ _ hf, ih ht⟩
/-- An arena with m entries, laid one behind the other. -/
structure Chd (A : Ar) (m : Nat) (next : Int) (pre : List (Int × Ent)) : Prop where
  ok : A.Ok
  cap : A.cap = 60000
  births : A.births = m
  us : used A.L = 3 * m
  len : pre.length = m
  ch : Chain (entsOf A.L) next pre
  n64 : W64 next
  right : linkB next = true
  h64 : ∀ x, x ∈ pre → W64 x.1
theorem Chd.zero : Chd (Ar.new 60000) 0 0 [] :=
  ⟨new_ok (Nat.le_refl _), rfl, rfl, rfl, rfl, rfl, ⟨by omega, by omega⟩, rfl, by simp⟩
theorem Chd.lay {A : Ar} {m : Nat} {next s n : Int} {pre : List (Int × Ent)} (h : Chd A m next pre) (hm : m < 200) (hn : W64 n) (hb : entB s n next = true) :
    (A.lay [s, n, next]).2 = (layH A, 0) ∧ Chd (A.lay [s, n, next]).1 (m + 1) (layH A) ((layH A, (s, n, next)) :: pre) := by
  obtain ⟨hno, s0, s1, hl⟩ := entB_parts hb
  have hu : used A.L + ([s, n, next] : List Int).length ≤ A.cap := by rw [h.cap, h.us]; simp; omega
  have hw : ∀ v, v ∈ ([s, n, next] : List Int) → W64 v := by
    intro v hv
    simp at hv
    rcases hv with rfl | rfl | rfl
    · exact ⟨by omega, by omega⟩
    · exact hn
    · exact h.n64
  have hok := lay_ok h.ok (ws := [s, n, next]) (by simp) (by simp) hu (by rw [h.births]; omega) hw
  have he := lay_eq (A := A) (ws := [s, n, next]) (by simp) (by simp) hu
  have hL : (A.lay [s, n, next]).1.L = A.L.take (lead 0 A.L) ++ ⟨layH A, [s, n, next]⟩ :: A.L.drop (lead 0 A.L) := by rw [he]
  have hmem : ∀ y, y ∈ (A.lay [s, n, next]).1.L ↔ y = ⟨layH A, [s, n, next]⟩ ∨ y ∈ A.L := fun y => by rw [hL]; exact mem_mid
  have hu' := fun y z hy hz e => hok.h_inj (x := y) (y := z) hy hz e
  have hx : (⟨layH A, [s, n, next]⟩ : Blk) ∈ (A.lay [s, n, next]).1.L := (hmem _).2 (.inl rfl)
  have hws : IntKind.i64.wrap s = s := by rw [wrap_i64 s0 (by omega), if_pos (by omega)]
  have hr : readE [s, n, next] = some (s, n, next) := by rw [readE_three, hws, hb]; rfl
  have hnew : entsOf (A.lay [s, n, next]).1.L (layH A) = some (s, n, next) := by
    have := entsOf_mem hx hu'
    rw [hr] at this
    exact this
  have hold : ∀ k e, entsOf A.L k = some e → entsOf (A.lay [s, n, next]).1.L k = some e := fun k e hk => by
    obtain ⟨x, hx1, rfl, hx3⟩ := entsOf_some hk
    have := entsOf_mem ((hmem x).2 (.inr hx1)) hu'
    rw [this, hx3]
  obtain ⟨q1, q2, q3⟩ := hok.hnd _ hx
  have hbi : (A.lay [s, n, next]).1.births = m + 1 := by rw [he]; show A.births + 1 = _; rw [h.births]
  rw [hbi] at q3
  have q1' : 1 ≤ layH A % 65536 := q1
  have q2' : 65536 ≤ layH A := q2
  have q3' : layH A / 65536 ≤ ((m + 1 : Nat) : Int) := q3
  have h64 : W64 (layH A) := ⟨by omega, by omega⟩
  refine ⟨by rw [he], hok, by rw [he]; exact h.cap, hbi, ?_, by simp [h.len], ⟨rfl, by omega, hnew, h.ch.mono hold⟩, h64, ?_, ?_⟩
  · rw [hL, used_mid, h.us]
    simp
    omega
  · unfold linkB Fld.rightB Fld.hOk
    simp
    omega
  · intro x hx
    rcases List.mem_cons.1 hx with rfl | hx
    · exact h64
    · exact h.h64 x hx
end Hed
end Go.Proofs.YtmjdcpcndggflaaDoor
