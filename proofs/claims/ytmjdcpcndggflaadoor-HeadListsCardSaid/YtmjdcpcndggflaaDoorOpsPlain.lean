/- Plain facts on numerals, and on the names, the parts and the texts of operations and responses: no program is spoken of here. -/
import Derived.Lib.ItoaNum
import Derived.Lib.ItoaMem
import Derived.Lib.AtoiAll
import Derived.Lib.IndexMore
set_option linter.unusedVariables false
set_option linter.unusedSimpArgs false
namespace Go.Proofs.YtmjdcpcndggflaaDoor
namespace Ops
open Go.Lib

theorem byte_dig (d : Nat) (h : d < 10) : (UInt8.ofNat (48 + d)).toNat = 48 + d := by
  simp [UInt8.toNat_ofNat]; omega
theorem dec_digit (u : Nat) : ∀ c, c ∈ decDigits u → 48 ≤ c.toNat ∧ c.toNat ≤ 57 := by
  induction u using Nat.strongRecOn with
  | _ u ih =>
    intro c hc
    by_cases h : u < 10
    · rw [decDigits, dif_pos h] at hc
      simp only [List.mem_singleton] at hc
      subst hc
      rw [byte_dig u h]; omega
    · rw [decDigits, dif_neg h] at hc
      rcases List.mem_append.1 hc with h1 | h1
      · exact ih (u / 10) (by omega) c h1
      · simp only [List.mem_singleton] at h1
        subst h1
        rw [byte_dig (u % 10) (by omega)]; omega
theorem dec_ne (u : Nat) : decDigits u ≠ [] := by
  intro e
  have := decDigits_length u
  rw [e] at this
  have := nDigits_pos u
  simp at *; omega
theorem dec_blank (u : Nat) : (32 : UInt8) ∉ decDigits u := by
  intro h
  have := dec_digit u _ h
  simp at this
theorem parse_snoc (c : UInt8) (hc : 48 ≤ c.toNat ∧ c.toNat ≤ 57) : ∀ (l : List UInt8) (acc v : Nat), parseUint10 acc l = .ok v → v < 1000000000000000000 → parseUint10 acc (l ++ [c]) = .ok (v * 10 + (c.toNat - 48))
  | [], acc, v, h, hv => by
    simp only [parseUint10] at h
    injection h with h
    subst h
    simp only [List.nil_append, parseUint10]
    rw [if_pos hc, if_neg (by omega), if_neg (by omega)]
  | d :: r, acc, v, h, hv => by
    simp only [parseUint10] at h
    simp only [List.cons_append, parseUint10]
    split at h
    · rename_i hd
      rw [if_pos hd]
      split at h
      · cases h
      · rename_i h1
        rw [if_neg h1]
        split at h
        · cases h
        · rename_i h2
          rw [if_neg h2]
          exact parse_snoc c hc r _ v h hv
    · cases h
theorem parse_dec (u : Nat) : u < 1000000000000000000 → parseUint10 0 (decDigits u) = .ok u := by
  induction u using Nat.strongRecOn with
  | _ u ih =>
    intro hu
    by_cases h : u < 10
    · rw [decDigits, dif_pos h]
      simp only [parseUint10]
      rw [byte_dig u h, if_pos (by omega), if_neg (by omega), if_neg (by omega)]
      congr 1; omega
    · rw [decDigits, dif_neg h]
      rw [parse_snoc _ (by rw [byte_dig _ (by omega)]; omega) _ _ (u / 10) (ih _ (by omega) (by omega)) (by omega), byte_dig _ (by omega)]
      congr 1; omega
theorem atoi_dec (u : Nat) (hu : u < 1000000000000000000) : atoiAll (decDigits u) = .ok (u : Int) := by
  have hp := parse_dec u hu
  have hd := dec_digit u
  cases hl : decDigits u with
  | nil => exact absurd hl (dec_ne u)
  | cons c r =>
    rw [hl] at hp hd
    have hc := hd c (by simp)
    have h43 : ¬ c.toNat = 43 := by omega
    have h45 : ¬ c.toNat = 45 := by omega
    have hb : ¬ 9223372036854775808 ≤ u := by omega
    simp only [atoiAll, parseMag, h43, h45, or_self, if_false, reduceCtorEq, hp, not_false_eq_true, true_and, hb, false_and]
/-- What a number that is read is worth: of a wrong one the bounds, or 0. -/
def atoiVal (l : List UInt8) : Int := match atoiAll l with
  | .ok v => v
  | .range => atoiSat l
  | _ => 0
theorem itoa_val (n : Int) (h : 0 ≤ n) (h2 : n ≤ 999999999) : atoiVal (itoa n) = n ∧ (32 : UInt8) ∉ itoa n ∧ itoa n = decDigits n.toNat := by
  have e : itoa n = decDigits n.toNat := by unfold itoa; rw [if_neg (by omega)]
  refine ⟨?_, ?_, e⟩
  · unfold atoiVal
    rw [e, atoi_dec _ (by omega)]
    simp only
    omega
  · rw [e]; exact dec_blank _
theorem index_none (a : List UInt8) (h : (32 : UInt8) ∉ a) : index a [32] = -1 := by
  induction a with
  | nil => rfl
  | cons b l ih =>
    simp only [List.mem_cons, not_or] at h
    unfold index
    rw [if_neg (by simp [List.isPrefixOf]; exact h.1), ih h.2]
    rfl
theorem index_blank (a b : List UInt8) (h : (32 : UInt8) ∉ a) : index (a ++ 32 :: b) [32] = a.length := by
  induction a with
  | nil => simp [index, List.isPrefixOf]
  | cons x l ih =>
    simp only [List.mem_cons, not_or] at h
    simp only [List.cons_append]
    unfold index
    rw [if_neg (by simp [List.isPrefixOf]; exact h.1), ih h.2]
    rw [if_neg (by simp)]
    simp
theorem cut_none (a : List UInt8) (h : (32 : UInt8) ∉ a) : cut a [32] = (a, [], false) := by
  unfold cut
  rw [index_none a h]
  rfl
theorem cut_blank (a b : List UInt8) (h : (32 : UInt8) ∉ a) : cut (a ++ 32 :: b) [32] = (a, b, true) := by
  unfold cut
  rw [index_blank a b h, if_pos (by omega)]
  simp [List.drop_append]
theorem cut_len (s : List UInt8) : (cut s [32]).1.length ≤ s.length ∧ (cut s [32]).2.1.length ≤ s.length := by
  unfold cut
  split
  · constructor
    · exact List.length_take_le' _ _
    · simp
  · simp

/-- Names, and the most of each part. -/
abbrev Tab := List (List UInt8 × Int × Int × Int)
def Tab.nm (T : Tab) (c : Nat) : List UInt8 := (T.getD c ([], 0, 0, 0)).1
def Tab.m0 (T : Tab) (c : Nat) : Int := (T.getD c ([], 0, 0, 0)).2.1
def Tab.m1 (T : Tab) (c : Nat) : Int := (T.getD c ([], 0, 0, 0)).2.2.1
def Tab.m2 (T : Tab) (c : Nat) : Int := (T.getD c ([], 0, 0, 0)).2.2.2
def okB (m p : Int) : Bool := decide (0 ≤ p ∧ p ≤ m)
def allowB (x0 x1 x2 y0 y1 y2 : Int) : Bool := okB x0 y0 && okB x1 y1 && okB x2 y2
def Tab.rightB (T : Tab) (c y0 y1 y2 : Int) : Bool := decide (0 ≤ c ∧ c < T.length) && allowB (T.m0 c.toNat) (T.m1 c.toNat) (T.m2 c.toNat) y0 y1 y2
def seg (m x : Int) : List UInt8 := if 0 < m then 32 :: itoa x else []
def txt (n : List UInt8) (x0 x1 x2 y0 y1 y2 : Int) : List UInt8 := n ++ seg x0 y0 ++ seg x1 y1 ++ seg x2 y2
def Tab.text (T : Tab) (c y0 y1 y2 : Int) : List UInt8 := if T.rightB c y0 y1 y2 then txt (T.nm c.toNat) (T.m0 c.toNat) (T.m1 c.toNat) (T.m2 c.toNat) y0 y1 y2 else []
/-- One part, read ahead of a text, and what is left of that. -/
def rdV (m : Int) (s : List UInt8) : Int := if 0 < m then atoiVal (cut s [32]).1 else 0
def rdS (m : Int) (s : List UInt8) : List UInt8 := if 0 < m then (cut s [32]).2.1 else s
def find (P : Nat → Bool) : Nat → Nat → Option Nat
  | 0, _ => none
  | n + 1, i => if P i then some i else find P n (i + 1)
def Tab.find (T : Tab) (n : List UInt8) : Option Nat := Ops.find (fun i => decide (T.nm i = n)) T.length 0
def Tab.y0 (T : Tab) (c : Nat) (s : List UInt8) : Int := rdV (T.m0 c) s
def Tab.y1 (T : Tab) (c : Nat) (s : List UInt8) : Int := rdV (T.m1 c) (rdS (T.m0 c) s)
def Tab.y2 (T : Tab) (c : Nat) (s : List UInt8) : Int := rdV (T.m2 c) (rdS (T.m1 c) (rdS (T.m0 c) s))
/-- Which of a table a text is. -/
def Tab.parse (T : Tab) (s : List UInt8) : Option (Nat × Int × Int × Int) :=
  match T.find (cut s [32]).1 with
  | none => none
  | some c =>
    let r := (cut s [32]).2.1
    if T.text c (T.y0 c r) (T.y1 c r) (T.y2 c r) = s then some (c, T.y0 c r, T.y1 c r, T.y2 c r) else none

theorem find_some (P : Nat → Bool) : ∀ (n i c : Nat), find P n i = some c → i ≤ c ∧ c < i + n ∧ P c = true
  | 0, i, c, h => by cases h
  | n + 1, i, c, h => by
    unfold find at h
    split at h
    · injection h with h; subst h; exact ⟨Nat.le_refl _, by omega, by assumption⟩
    · have := find_some P n (i + 1) c h; exact ⟨by omega, by omega, this.2.2⟩
/-- A table as it should be: names without blanks, none empty, none twice; parts below 10^9. -/
structure Tab.Good (T : Tab) : Prop where
  blank : ∀ c, c < T.length → (32 : UInt8) ∉ T.nm c
  full : ∀ c, c < T.length → T.nm c ≠ []
  own : ∀ c, c < T.length → T.find (T.nm c) = some c
  most : ∀ c, c < T.length → T.m0 c ≤ 999999999 ∧ T.m1 c ≤ 999999999 ∧ T.m2 c ≤ 999999999

theorem allow_parts {x0 x1 x2 y0 y1 y2 : Int} (h : allowB x0 x1 x2 y0 y1 y2 = true) : (0 ≤ y0 ∧ y0 ≤ x0) ∧ (0 ≤ y1 ∧ y1 ≤ x1) ∧ (0 ≤ y2 ∧ y2 ≤ x2) := by
  unfold allowB okB at h
  simp at h
  omega
theorem right_parts {T : Tab} {c y0 y1 y2 : Int} (h : T.rightB c y0 y1 y2 = true) : ∃ n : Nat, c = n ∧ n < T.length ∧ (0 ≤ y0 ∧ y0 ≤ T.m0 n) ∧ (0 ≤ y1 ∧ y1 ≤ T.m1 n) ∧ (0 ≤ y2 ∧ y2 ≤ T.m2 n) := by
  unfold Tab.rightB at h
  simp only [Bool.and_eq_true, decide_eq_true_eq] at h
  obtain ⟨⟨h1, h2⟩, h3⟩ := h
  have := allow_parts h3
  refine ⟨c.toNat, by omega, by omega, this⟩
theorem text_ne {T : Tab} (G : T.Good) {c y0 y1 y2 : Int} (h : T.rightB c y0 y1 y2 = true) : T.text c y0 y1 y2 ≠ [] := by
  obtain ⟨n, rfl, hn, _⟩ := right_parts h
  unfold Tab.text txt
  rw [if_pos h]
  have := G.full n hn
  simp [this]
theorem text_wrong {T : Tab} {c y0 y1 y2 : Int} (h : T.rightB c y0 y1 y2 = false) : T.text c y0 y1 y2 = [] := by
  unfold Tab.text
  rw [h]; rfl
theorem rd_seg (m x : Int) (r : List UInt8) (hx : 0 ≤ x ∧ x ≤ m) (hm : m ≤ 999999999) (hr : r = [] ∨ ∃ t, r = 32 :: t) :
    rdV m (if 0 < m then itoa x ++ r else r) = x ∧ rdS m (if 0 < m then itoa x ++ r else r) = (if 0 < m then r.tail else r) := by
  unfold rdV rdS
  by_cases h : 0 < m
  · simp only [if_pos h]
    obtain ⟨h1, h2, _⟩ := itoa_val x hx.1 (by omega)
    rcases hr with rfl | ⟨t, rfl⟩
    · rw [List.append_nil, cut_none _ h2]
      exact ⟨h1, rfl⟩
    · rw [cut_blank _ _ h2]
      exact ⟨h1, rfl⟩
  · simp only [if_neg h]
    exact ⟨by omega, trivial⟩
theorem seg_form (m x : Int) : seg m x = [] ∨ ∃ t, seg m x = 32 :: t := by
  unfold seg
  split
  · exact .inr ⟨_, rfl⟩
  · exact .inl rfl
theorem app_form {a b : List UInt8} (ha : a = [] ∨ ∃ t, a = 32 :: t) (hb : b = [] ∨ ∃ t, b = 32 :: t) : a ++ b = [] ∨ ∃ t, a ++ b = 32 :: t := by
  rcases ha with rfl | ⟨t, rfl⟩
  · simpa using hb
  · exact .inr ⟨_, rfl⟩
/-- What is behind a name, without the blank ahead. -/
theorem tail_seg (m x : Int) (r : List UInt8) : (seg m x ++ r).tail = if 0 < m then itoa x ++ r else r.tail := by
  unfold seg
  split <;> simp
theorem rdV_zero (m : Int) (h : ¬ 0 < m) (s : List UInt8) : rdV m s = 0 := by unfold rdV; rw [if_neg h]
theorem rdS_zero (m : Int) (h : ¬ 0 < m) (s : List UInt8) : rdS m s = s := by unfold rdS; rw [if_neg h]
theorem rd_tail (m x : Int) (r : List UInt8) (hx : 0 ≤ x ∧ x ≤ m) (hm : m ≤ 999999999) (hr : r = [] ∨ ∃ t, r = 32 :: t) :
    rdV m (seg m x ++ r).tail = x ∧ rdS m (seg m x ++ r).tail = r.tail := by
  rw [tail_seg]
  by_cases h : 0 < m
  · have := rd_seg m x r hx hm hr
    simp only [if_pos h] at this ⊢
    exact this
  · rw [if_neg h, rdV_zero m h, rdS_zero m h]
    exact ⟨by omega, rfl⟩
/-- A text that a table has is read as what it is of. -/
theorem parse_text {T : Tab} (G : T.Good) {c : Nat} {y0 y1 y2 : Int} (h : T.rightB c y0 y1 y2 = true) : T.parse (T.text c y0 y1 y2) = some (c, y0, y1, y2) := by
  obtain ⟨n, hcn, hn, h0, h1, h2⟩ := right_parts h
  obtain rfl : c = n := by omega
  obtain ⟨g0, g1, g2⟩ := G.most c hn
  have hx : T.text c y0 y1 y2 = T.nm c ++ (seg (T.m0 c) y0 ++ (seg (T.m1 c) y1 ++ seg (T.m2 c) y2)) := by
    unfold Tab.text txt
    rw [if_pos h]
    simp [List.append_assoc]
  have f2 := seg_form (T.m2 c) y2
  have f1 := app_form (seg_form (T.m1 c) y1) f2
  have f0 := app_form (seg_form (T.m0 c) y0) f1
  have hc1 : (cut (T.text c y0 y1 y2) [32]).1 = T.nm c ∧ (cut (T.text c y0 y1 y2) [32]).2.1 = (seg (T.m0 c) y0 ++ (seg (T.m1 c) y1 ++ seg (T.m2 c) y2)).tail := by
    rw [hx]
    rcases f0 with e | ⟨t, e⟩
    · rw [e, List.append_nil, cut_none _ (G.blank c hn)]
      exact ⟨rfl, rfl⟩
    · rw [e, cut_blank _ _ (G.blank c hn)]
      exact ⟨rfl, rfl⟩
  have r0 := rd_tail (T.m0 c) y0 _ h0 g0 f1
  have r1 := rd_tail (T.m1 c) y1 _ h1 g1 f2
  have r2 := rd_tail (T.m2 c) y2 [] h2 g2 (.inl rfl)
  rw [List.append_nil] at r2
  unfold Tab.parse
  rw [hc1.1, hc1.2, G.own c hn]
  simp only
  have e0 : T.y0 c (seg (T.m0 c) y0 ++ (seg (T.m1 c) y1 ++ seg (T.m2 c) y2)).tail = y0 := r0.1
  have e1 : T.y1 c (seg (T.m0 c) y0 ++ (seg (T.m1 c) y1 ++ seg (T.m2 c) y2)).tail = y1 := by unfold Tab.y1; rw [r0.2]; exact r1.1
  have e2 : T.y2 c (seg (T.m0 c) y0 ++ (seg (T.m1 c) y1 ++ seg (T.m2 c) y2)).tail = y2 := by unfold Tab.y2; rw [r0.2, r1.2]; exact r2.1
  rw [e0, e1, e2, if_pos rfl]
/-- What is read is right, and the text is its. -/
theorem parse_some {T : Tab} (G : T.Good) {s : List UInt8} {c : Nat} {y0 y1 y2 : Int} (h : T.parse s = some (c, y0, y1, y2)) : T.rightB c y0 y1 y2 = true ∧ T.text c y0 y1 y2 = s ∧ c < T.length := by
  unfold Tab.parse at h
  split at h
  · cases h
  · rename_i d hd
    simp only at h
    split at h
    · rename_i ht
      simp only [Option.some.injEq, Prod.mk.injEq] at h
      obtain ⟨rfl, rfl, rfl, rfl⟩ := h
      have hf := find_some _ _ _ _ hd
      refine ⟨?_, ht, by omega⟩
      cases hr : T.rightB d (T.y0 d (cut s [32]).2.1) (T.y1 d (cut s [32]).2.1) (T.y2 d (cut s [32]).2.1) with
      | true => rfl
      | false =>
        rw [text_wrong hr] at ht
        subst ht
        have hn := hf.2.2
        simp only [decide_eq_true_eq] at hn
        exact absurd hn (G.full d (by omega))
    · cases h
/-- Unlike ones have unlike texts. -/
theorem text_inj {T : Tab} (G : T.Good) {c d y0 y1 y2 z0 z1 z2 : Int} (h : T.rightB c y0 y1 y2 = true) (g : T.rightB d z0 z1 z2 = true) (e : T.text c y0 y1 y2 = T.text d z0 z1 z2) : c = d ∧ y0 = z0 ∧ y1 = z1 ∧ y2 = z2 := by
  obtain ⟨n, rfl, hn, _⟩ := right_parts h
  obtain ⟨m, rfl, hm, _⟩ := right_parts g
  have p := parse_text G h
  rw [e, parse_text G g] at p
  simp only [Option.some.injEq, Prod.mk.injEq] at p
  obtain ⟨rfl, rfl, rfl, rfl⟩ := p
  exact ⟨rfl, rfl, rfl, rfl⟩

/-- Operations. -/
def opT : Tab := [([110, 111, 110, 101], 0, 0, 0), ([101, 110, 113, 117, 101, 117, 101], 0, 1023, 0), ([100, 101, 113, 117, 101, 117, 101], 0, 0, 0), ([108, 101, 110, 103, 116, 104], 0, 0, 0), ([103, 101, 116], 255, 0, 0), ([112, 117, 116], 255, 1023, 0), ([100, 101, 108, 101, 116, 101], 255, 0, 0), ([115, 119, 97, 112], 255, 1023, 1023), ([115, 105, 122, 101], 0, 0, 0), ([102, 108, 111, 111, 114], 255, 0, 0), ([115, 101, 116], 255, 1023, 0), ([97, 99, 113, 117, 105, 114, 101], 255, 0, 0), ([114, 101, 108, 101, 97, 115, 101], 255, 0, 0), ([118, 97, 108, 117, 101], 255, 0, 0), ([100, 114, 111, 112], 255, 0, 0)]
/-- Responses. -/
def respT : Tab := [([100, 111, 110, 101], 268435455, 0, 0), ([110, 111, 110, 101], 0, 0, 0), ([102, 117, 108, 108], 0, 0, 0), ([98, 117, 115, 121], 0, 0, 0), ([117, 110, 108, 105, 107, 101], 268435455, 0, 0), ([110, 111, 109, 101, 109, 111, 114, 121], 0, 0, 0)]
theorem opT_good : opT.Good := ⟨by decide, by decide, by decide, by decide⟩
theorem respT_good : respT.Good := ⟨by decide, by decide, by decide, by decide⟩
end Ops
end Go.Proofs.YtmjdcpcndggflaaDoor
