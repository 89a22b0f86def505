/- A stock of numbers, plainly: how far it has come, which numbers were given back; no program is spoken of here. -/
import Derived.Test.YtpajafecodkndaaGreatLeastPlain
import Derived.Test.YtpajafecodkndaaGreatLeastFrame
set_option linter.unusedVariables false
set_option linter.unusedSimpArgs false
namespace Go.Proofs.YtpajafecodkndaaGreat
namespace Hp

/-- A stock: the most, the greatest number that ever was in use, the numbers that were given back. -/
structure St where
  most : Nat
  high : Nat
  back : List Nat

def St.used (S : St) (k : Int) : Bool := decide (1 ≤ k ∧ k ≤ S.high) && !(S.back.contains k.toNat)
def St.len (S : St) : Nat := S.high - S.back.length
structure St.Ok (S : St) : Prop where
  heap : Heap S.back S.back.length
  nodup : S.back.Nodup
  range : ∀ x, x ∈ S.back → 1 ≤ x ∧ x ≤ S.high
  high : S.high ≤ S.most
  most : S.most ≤ 65535
  few : S.back.length ≤ S.high

theorem used_iff (S : St) (k : Int) : S.used k = true ↔ (1 ≤ k ∧ k ≤ S.high) ∧ k.toNat ∉ S.back := by simp [St.used]
theorem used_iff_false (S : St) (k : Int) : S.used k = false ↔ ¬ ((1 ≤ k ∧ k ≤ S.high) ∧ k.toNat ∉ S.back) := by
  rw [← used_iff]; simp

/-- S' is S with x, which was the least that wasn't in use. -/
structure Took (S : St) (x : Nat) (S' : St) : Prop where
  ok : S'.Ok
  most : S'.most = S.most
  free : S.used x = false
  used : ∀ k, S'.used k = (S.used k || decide (k = x))
  lo : 1 ≤ x
  hi : x ≤ S.most
  least : ∀ k : Int, 1 ≤ k → k < x → S.used k = true
  len : S'.len = S.len + 1
  high : S'.high = max S.high x
  peak : S'.high = max S.high S'.len
/-- S' is S without x, which was in use. -/
structure Gave (S : St) (x : Int) (S' : St) : Prop where
  ok : S'.Ok
  most : S'.most = S.most
  was : S.used x = true
  used : ∀ k, S'.used k = (S.used k && decide (k ≠ x))
  len : S'.len + 1 = S.len
  high : S'.high = S.high

theorem len_le {S : St} : S.len ≤ S.high := by unfold St.len; omega

theorem took_back {S : St} {x : Nat} {l' : List Nat} (h : S.Ok) (hp : (x :: l').Perm S.back) (hmin : ∀ y, y ∈ S.back → x ≤ y) (hh : Heap l' l'.length) : Took S x { S with back := l' } := by
  have hx : x ∈ S.back := hp.mem_iff.1 (by simp)
  have hnd : (x :: l').Nodup := hp.nodup_iff.2 h.nodup
  have hxl : x ∉ l' := (List.nodup_cons.1 hnd).1
  have hlen : S.back.length = l'.length + 1 := by rw [← hp.length_eq]; simp
  obtain ⟨r1, r2⟩ := h.range x hx
  have hf := h.few
  have hm := h.high
  refine ⟨⟨hh, (List.nodup_cons.1 hnd).2, fun y hy => h.range y (hp.mem_iff.1 (by simp [hy])), h.high, h.most, by simp; omega⟩, rfl, ?_, fun k => ?_, r1, by omega, fun k k1 k2 => ?_, ?_, ?_, ?_⟩
  · rw [used_iff_false]; rintro ⟨_, h2⟩; exact h2 (by simpa using hx)
  · rw [Bool.eq_iff_iff, Bool.or_eq_true, used_iff, used_iff, decide_eq_true_eq]
    show (1 ≤ k ∧ k ≤ (S.high : Int)) ∧ k.toNat ∉ l' ↔ _
    have hmem : ∀ y, y ∈ S.back ↔ y = x ∨ y ∈ l' := fun y => by rw [← hp.mem_iff]; simp
    constructor
    · rintro ⟨a, b⟩
      by_cases e : k = x
      · exact Or.inr e
      · exact Or.inl ⟨a, fun hc => by rcases (hmem _).1 hc with h1 | h1; omega; exact b h1⟩
    · rintro (⟨a, b⟩ | rfl)
      · exact ⟨a, fun hc => b ((hmem _).2 (Or.inr hc))⟩
      · exact ⟨⟨by omega, by omega⟩, by simpa using hxl⟩
  · rw [used_iff]
    refine ⟨⟨k1, by omega⟩, fun hc => ?_⟩
    have := hmin _ hc
    omega
  · simp only [St.len]; omega
  · simp; omega
  · simp only [St.len]; omega
theorem took_new {S : St} (h : S.Ok) (hb : S.back = []) (hlt : S.high < S.most) : Took S (S.high + 1) { S with high := S.high + 1 } := by
  have hm := h.most
  have hu : ∀ k, S.used k = decide (1 ≤ k ∧ k ≤ S.high) := fun k => by simp [St.used, hb]
  refine ⟨⟨h.heap, h.nodup, fun x hx => by rw [hb] at hx; simp at hx, hlt, h.most, by simp [hb]⟩, rfl, ?_, fun k => ?_, by omega, by omega, fun k k1 k2 => ?_, ?_, ?_, ?_⟩
  · rw [hu]; simp; omega
  · rw [hu, Bool.eq_iff_iff]
    simp [St.used, hb]; omega
  · rw [hu]; simp; omega
  · simp [St.len, hb]
  · show S.high + 1 = max S.high (S.high + 1); omega
  · show S.high + 1 = max S.high (S.high + 1 - S.back.length); rw [hb]; simp
theorem full_of {S : St} (h : S.Ok) (hb : S.back = []) (hge : ¬ S.high < S.most) : S.len = S.most ∧ ∀ k : Int, 1 ≤ k → k ≤ S.most → S.used k = true := by
  have := h.high
  refine ⟨by simp [St.len, hb]; omega, fun k h1 h2 => ?_⟩
  simp [St.used, hb]; omega
theorem gave_of {S : St} {x : Int} {l' : List Nat} (h : S.Ok) (hu : S.used x = true) (hp : l'.Perm (S.back ++ [x.toNat])) (hh : Heap l' l'.length) : Gave S x { S with back := l' } := by
  obtain ⟨⟨x1, x2⟩, xn⟩ := (used_iff S x).1 hu
  have hlen : l'.length = S.back.length + 1 := by rw [hp.length_eq]; simp
  have hmem : ∀ y, y ∈ l' ↔ y ∈ S.back ∨ y = x.toNat := fun y => by rw [hp.mem_iff]; simp
  have hnd : l'.Nodup := by
    rw [hp.nodup_iff, List.nodup_append]
    refine ⟨h.nodup, by simp, fun a ha b hb => ?_⟩
    simp at hb; subst hb
    intro e; subst e; exact xn ha
  have hf : S.back.length + 1 ≤ S.high := by
    have hsub : l'.length ≤ (List.range' 1 S.high).length := by
      apply List.Nodup.length_le_of_subset hnd
      intro y hy
      rw [List.mem_range'_1]
      rcases (hmem y).1 hy with h1 | h1
      · have := h.range y h1; omega
      · omega
    simp at hsub; omega
  refine ⟨⟨hh, hnd, fun y hy => ?_, h.high, h.most, by simp; omega⟩, rfl, hu, fun k => ?_, ?_, rfl⟩
  · show 1 ≤ y ∧ y ≤ S.high
    rcases (hmem y).1 hy with h1 | h1
    · exact h.range y h1
    · omega
  · rw [Bool.eq_iff_iff, Bool.and_eq_true, used_iff, used_iff, decide_eq_true_eq]
    show (1 ≤ k ∧ k ≤ (S.high : Int)) ∧ k.toNat ∉ l' ↔ _
    constructor
    · rintro ⟨a, b⟩
      exact ⟨⟨a, fun hc => b ((hmem _).2 (Or.inl hc))⟩, fun e => b ((hmem _).2 (Or.inr (by rw [e])))⟩
    · rintro ⟨⟨a, b⟩, c⟩
      refine ⟨a, fun hc => ?_⟩
      rcases (hmem _).1 hc with h1 | h1
      · exact b h1
      · omega
  · simp only [St.len]; omega
theorem ok_new (most : Nat) (h : most ≤ 65535) : (St.mk most 0 []).Ok := ⟨fun k _ hk => absurd hk (by simp), by simp, by simp, by simp, h, by simp⟩
theorem used_new (most : Nat) (k : Int) : (St.mk most 0 []).used k = false := by simp [St.used]; omega
end Hp
end Go.Proofs.YtpajafecodkndaaGreat
