/- An arena, plainly: blocks of words in the order of their numbers; what each call makes of it. No program is spoken of here. -/
import Derived.WalkKit
set_option linter.unusedVariables false
set_option linter.unusedSimpArgs false
namespace Go.Proofs.YtpajafecodkndaaGreat
namespace Arn

/-- A block: its handle and its words. -/
structure Blk where
  h : Int
  ws : List Int
/-- How many calls of each kind were right. -/
structure Tal where
  lays : Nat
  frees : Nat
  reads : Nat
  writes : Nat
  swaps : Nat
  adds : Nat
/-- An arena: capacity, how many blocks were laid, the peak, the faults, the fixed words, the blocks that live, the tally. -/
structure Ar where
  cap : Nat
  births : Nat
  peak : Nat
  faults : Nat
  fixed : List Int
  L : List Blk
  t : Tal

def W64 (x : Int) : Prop := 0 ≤ x ∧ x < 18446744073709551616
def used : List Blk → Nat
  | [] => 0
  | x :: r => x.ws.length + used r
/-- How many blocks at the head have the numbers n + 1, n + 2, .. -/
def lead : Nat → List Blk → Nat
  | _, [] => 0
  | n, x :: r => if x.h % 65536 = (n : Int) + 1 then lead (n + 1) r + 1 else 0
def hasH (l : List Blk) (h : Int) : Bool := l.any fun x => x.h == h
def hasN (l : List Blk) (k : Int) : Bool := l.any fun x => x.h % 65536 == k
def look (l : List Blk) (h : Int) : Option (List Int) := (l.find? fun x => x.h == h).map Blk.ws
def setW (l : List Blk) (h : Int) (i : Nat) (v : Int) : List Blk := l.map fun x => if x.h = h then { x with ws := x.ws.set i v } else x
def drop (l : List Blk) (h : Int) : List Blk := l.filter fun x => !(x.h == h)

structure Ar.Ok (A : Ar) : Prop where
  cap : A.cap ≤ 60000
  births : A.births ≤ 268435455
  peak : A.peak ≤ A.cap
  top : used A.L ≤ A.peak
  nine : A.fixed.length = 9
  fix : ∀ x, x ∈ A.fixed → W64 x
  rise : A.L.Pairwise fun x y => x.h % 65536 < y.h % 65536
  hnd : ∀ x, x ∈ A.L → 1 ≤ x.h % 65536 ∧ 65536 ≤ x.h ∧ x.h / 65536 ≤ A.births
  len : ∀ x, x ∈ A.L → 1 ≤ x.ws.length ∧ x.ws.length ≤ 2048
  wrd : ∀ x, x ∈ A.L → ∀ v, v ∈ x.ws → W64 v
/-- No counter is beyond n. -/
structure Ar.Low (A : Ar) (n : Nat) : Prop where
  faults : A.faults ≤ n
  lays : A.t.lays ≤ n
  frees : A.t.frees ≤ n
  reads : A.t.reads ≤ n
  writes : A.t.writes ≤ n
  swaps : A.t.swaps ≤ n
  adds : A.t.adds ≤ n
theorem Ar.Low.mono {A : Ar} {n m : Nat} (h : A.Low n) (hm : n ≤ m) : A.Low m :=
  ⟨Nat.le_trans h.faults hm, Nat.le_trans h.lays hm, Nat.le_trans h.frees hm, Nat.le_trans h.reads hm, Nat.le_trans h.writes hm, Nat.le_trans h.swaps hm, Nat.le_trans h.adds hm⟩

def Ar.row (A : Ar) (blk : Int) : Option (List Int) := if blk = 0 then some A.fixed else look A.L blk
/-- What is told of an address: nothing, gone, or out of range. -/
def Ar.err (A : Ar) (blk i : Int) : Int :=
  match A.row blk with
  | none => 23
  | some l => if 0 ≤ i ∧ i < (l.length : Int) then 0 else 24
def Ar.get (A : Ar) (blk i : Int) : Int := ((A.row blk).getD []).getD i.toNat 0
def Ar.set (A : Ar) (blk i v : Int) : Ar := if blk = 0 then { A with fixed := A.fixed.set i.toNat v } else { A with L := setW A.L blk i.toNat v }
def Ar.miss (A : Ar) : Ar := { A with faults := A.faults + 1 }
def Ar.read (A : Ar) (blk i : Int) : Ar × Int × Int := if A.err blk i = 0 then ({ A with t := { A.t with reads := A.t.reads + 1 } }, A.get blk i, 0) else (A.miss, 0, A.err blk i)
def Ar.write (A : Ar) (blk i v : Int) : Ar × Int := if A.err blk i = 0 then ({ A.set blk i v with t := { A.t with writes := A.t.writes + 1 } }, 0) else (A.miss, A.err blk i)
def Ar.swap (A : Ar) (blk i old fresh : Int) : Ar × Bool × Int :=
  if A.err blk i = 0 then (if A.get blk i = old then ({ A.set blk i fresh with t := { A.t with swaps := A.t.swaps + 1 } }, true, 0) else ({ A with t := { A.t with swaps := A.t.swaps + 1 } }, false, 0))
  else (A.miss, false, A.err blk i)
def Ar.add (A : Ar) (blk i n : Int) : Ar × Int × Int :=
  if A.err blk i = 0 then ({ A.set blk i ((A.get blk i + n) % 18446744073709551616) with t := { A.t with adds := A.t.adds + 1 } }, A.get blk i, 0) else (A.miss, 0, A.err blk i)
def Ar.lay (A : Ar) (ws : List Int) : Ar × Int × Int :=
  if ws.length < 1 ∨ 2048 < ws.length then (A, 0, 2)
  else if A.cap < used A.L + ws.length then (A, 0, 20)
  else
    ({ A with births := A.births + 1, L := A.L.take (lead 0 A.L) ++ ⟨((A.births : Int) + 1) * 65536 + ((lead 0 A.L : Int) + 1), ws⟩ :: A.L.drop (lead 0 A.L), peak := max A.peak (used A.L + ws.length), t := { A.t with lays := A.t.lays + 1 } },
      ((A.births : Int) + 1) * 65536 + ((lead 0 A.L : Int) + 1), 0)
def Ar.free (A : Ar) (h : Int) : Ar × Int :=
  if hasH A.L h then ({ A with L := drop A.L h, t := { A.t with frees := A.t.frees + 1 } }, 0) else (A.miss, 23)
def Ar.new (cap : Nat) : Ar := ⟨cap, 0, 0, 0, List.replicate 9 0, [], ⟨0, 0, 0, 0, 0, 0⟩⟩

/-! ### what the calls keep -/
theorem used_append (l r : List Blk) : used (l ++ r) = used l + used r := by
  induction l with
  | nil => simp [used]
  | cons x t ih => simp [used, ih]; omega
theorem length_le_used {l : List Blk} (h : ∀ x, x ∈ l → 1 ≤ x.ws.length) : l.length ≤ used l := by
  induction l with
  | nil => simp [used]
  | cons x t ih =>
    have h1 := h x (by simp)
    have h2 := ih (fun y hy => h y (by simp [hy]))
    simp [used]; omega
theorem used_mid {l : List Blk} {x : Blk} (k : Nat) : used (l.take k ++ x :: l.drop k) = used l + x.ws.length := by
  rw [used_append]
  have := used_append (l.take k) (l.drop k)
  rw [List.take_append_drop] at this
  simp [used]; omega
theorem used_setW (l : List Blk) (h : Int) (i : Nat) (v : Int) : used (setW l h i v) = used l := by
  induction l with
  | nil => rfl
  | cons x t ih =>
    simp only [setW, List.map_cons, used] at ih ⊢
    rw [ih]
    split <;> simp
theorem used_sub {l r : List Blk} (h : r.Sublist l) : used r ≤ used l := by
  induction h with
  | slnil => simp [used]
  | cons x _ ih => simp [used]; omega
  | cons_cons x _ ih => simp [used]; omega
theorem hasH_iff {l : List Blk} {h : Int} : hasH l h = true ↔ ∃ x, x ∈ l ∧ x.h = h := by simp [hasH]
theorem hasH_false {l : List Blk} {h : Int} : hasH l h = false ↔ ∀ x, x ∈ l → x.h ≠ h := by
  rw [← Bool.not_eq_true, hasH_iff]; simp
theorem hasN_iff {l : List Blk} {k : Int} : hasN l k = true ↔ ∃ x, x ∈ l ∧ x.h % 65536 = k := by simp [hasN]
theorem hasN_false {l : List Blk} {k : Int} : hasN l k = false ↔ ∀ x, x ∈ l → x.h % 65536 ≠ k := by
  rw [← Bool.not_eq_true, hasN_iff]; simp
theorem lead_le : ∀ (l : List Blk) (n : Nat), lead n l ≤ l.length := by
  intro l
  induction l with
  | nil => intro n; simp [lead]
  | cons x t ih =>
    intro n
    simp only [lead, List.length_cons]
    split
    · have := ih (n + 1); omega
    · omega
/-- At the head stand the numbers n + 1, n + 2, ..; the next block's number is another one. -/
theorem lead_at : ∀ (l : List Blk) (n i : Nat) (x : Blk), l[i]? = some x → i < lead n l → x.h % 65536 = (n : Int) + i + 1 := by
  intro l
  induction l with
  | nil => intro n i x h; simp at h
  | cons y t ih =>
    intro n i x h hi
    simp only [lead] at hi
    split at hi
    · rename_i hy
      cases i with
      | zero => simp at h; subst h; simp; omega
      | succ i =>
        simp at h
        have := ih (n + 1) i x h (by omega)
        rw [this]; simp; omega
    · omega
theorem lead_next : ∀ (l : List Blk) (n : Nat) (x : Blk), l[lead n l]? = some x → x.h % 65536 ≠ (n : Int) + lead n l + 1 := by
  intro l
  induction l with
  | nil => intro n x h; simp at h
  | cons y t ih =>
    intro n x h
    simp only [lead] at h ⊢
    split at h
    · rename_i hy
      rw [if_pos hy]
      simp at h
      have := ih (n + 1) x h
      simp at this ⊢; omega
    · rename_i hy
      rw [if_neg hy]
      simp at h; subst h
      simpa using hy
theorem rise_get {l : List Blk} (hr : l.Pairwise fun x y => x.h % 65536 < y.h % 65536) {i j : Nat} {x y : Blk} (hx : l[i]? = some x) (hy : l[j]? = some y) (h : i < j) : x.h % 65536 < y.h % 65536 := by
  obtain ⟨hi, rfl⟩ := List.getElem?_eq_some_iff.1 hx
  obtain ⟨hj, rfl⟩ := List.getElem?_eq_some_iff.1 hy
  exact List.pairwise_iff_getElem.1 hr i j hi hj h
/-- The numbers rise by one at least: the i-th is i + 1 at least. -/
theorem num_ge {l : List Blk} (hr : l.Pairwise fun x y => x.h % 65536 < y.h % 65536) (h1 : ∀ x, x ∈ l → 1 ≤ x.h % 65536) : ∀ (i : Nat) (x : Blk), l[i]? = some x → (i : Int) + 1 ≤ x.h % 65536 := by
  intro i
  induction i with
  | zero => intro x hx; have := h1 x (List.mem_of_getElem? hx); simpa using this
  | succ i ih =>
    intro x hx
    have hi : i + 1 < l.length := (List.getElem?_eq_some_iff.1 hx).1
    have hy : l[i]? = some l[i] := List.getElem?_eq_getElem (by omega)
    have h2 := ih _ hy
    have h3 := rise_get hr hy hx (Nat.lt_succ_self i)
    simp; omega
/-- What stands behind the head has greater numbers than the free one. -/
theorem lead_gap {l : List Blk} (hr : l.Pairwise fun x y => x.h % 65536 < y.h % 65536) (h1 : ∀ x, x ∈ l → 1 ≤ x.h % 65536) {i : Nat} {x : Blk} (hx : l[i]? = some x) (hi : lead 0 l ≤ i) : (lead 0 l : Int) + 1 < x.h % 65536 := by
  have hil : i < l.length := (List.getElem?_eq_some_iff.1 hx).1
  have hy : l[lead 0 l]? = some (l[lead 0 l]'(by omega)) := List.getElem?_eq_getElem (by omega)
  have h2 := num_ge hr h1 _ _ hy
  have h3 := lead_next l 0 _ hy
  have h4 : (lead 0 l : Int) + 1 < (l[lead 0 l]'(by omega)).h % 65536 := by simp at h3; omega
  rcases Nat.eq_or_lt_of_le hi with e | e
  · subst e
    rw [hx] at hy; cases hy; exact h4
  · have := rise_get hr hy hx e
    omega
theorem free_not {l : List Blk} (hr : l.Pairwise fun x y => x.h % 65536 < y.h % 65536) (h1 : ∀ x, x ∈ l → 1 ≤ x.h % 65536) : hasN l ((lead 0 l : Int) + 1) = false := by
  rw [hasN_false]
  intro x hx
  obtain ⟨i, hi⟩ := List.getElem?_of_mem hx
  rcases Nat.lt_or_ge i (lead 0 l) with h | h
  · have := lead_at l 0 i x hi h
    simp at this; omega
  · have := lead_gap hr h1 hi h
    omega
theorem free_least {l : List Blk} {k : Int} (h1 : 1 ≤ k) (h2 : k < (lead 0 l : Int) + 1) : hasN l k = true := by
  rw [hasN_iff]
  have hle := lead_le l 0
  have hk : k.toNat - 1 < l.length := by omega
  refine ⟨l[k.toNat - 1], by simp, ?_⟩
  have := lead_at l 0 (k.toNat - 1) _ (List.getElem?_eq_getElem hk) (by omega)
  rw [this]; simp; omega
/-- A handle that lives tells its block's number; two that live with one number are one. -/
theorem num_inj {l : List Blk} (hr : l.Pairwise fun x y => x.h % 65536 < y.h % 65536) {x y : Blk} (hx : x ∈ l) (hy : y ∈ l) (h : x.h % 65536 = y.h % 65536) : x = y := by
  obtain ⟨i, hi⟩ := List.getElem?_of_mem hx
  obtain ⟨j, hj⟩ := List.getElem?_of_mem hy
  rcases Nat.lt_trichotomy i j with e | e | e
  · have := rise_get hr hi hj e; omega
  · subst e; rw [hi] at hj; cases hj; rfl
  · have := rise_get hr hj hi e; omega
theorem Ar.Ok.h_inj {A : Ar} (h : A.Ok) {x y : Blk} (hx : x ∈ A.L) (hy : y ∈ A.L) (e : x.h = y.h) : x = y := num_inj h.rise hx hy (by rw [e])
theorem look_none {l : List Blk} {h : Int} : look l h = none ↔ hasH l h = false := by
  rw [hasH_false]; simp [look, List.find?_eq_none]
theorem look_some {l : List Blk} (hi : ∀ x y, x ∈ l → y ∈ l → x.h = y.h → x = y) {h : Int} {ws : List Int} : look l h = some ws ↔ ∃ x, x ∈ l ∧ x.h = h ∧ x.ws = ws := by
  unfold look
  constructor
  · intro e
    obtain ⟨x, hx, rfl⟩ := Option.map_eq_some_iff.1 e
    exact ⟨x, List.mem_of_find?_eq_some hx, by simpa using List.find?_some hx, rfl⟩
  · rintro ⟨x, hx, rfl, rfl⟩
    cases hf : l.find? fun y => y.h == x.h with
    | none => rw [List.find?_eq_none] at hf; simpa using hf x hx
    | some y =>
      have h1 := List.mem_of_find?_eq_some hf
      have h2 : y.h = x.h := by simpa using List.find?_some hf
      rw [hi y x h1 hx h2]; rfl
theorem Ar.Ok.look_some {A : Ar} (h : A.Ok) {k : Int} {ws : List Int} : look A.L k = some ws ↔ ∃ x, x ∈ A.L ∧ x.h = k ∧ x.ws = ws := Arn.look_some (fun _ _ hx hy e => h.h_inj hx hy e)
theorem hasH_setW (l : List Blk) (h : Int) (i : Nat) (v k : Int) : hasH (setW l h i v) k = hasH l k := by
  simp only [hasH, setW, List.any_map]
  congr 1; funext x; simp only [Function.comp]; split <;> rfl
theorem hasN_setW (l : List Blk) (h : Int) (i : Nat) (v k : Int) : hasN (setW l h i v) k = hasN l k := by
  simp only [hasN, setW, List.any_map]
  congr 1; funext x; simp only [Function.comp]; split <;> rfl
theorem mem_setW {l : List Blk} {h : Int} {i : Nat} {v : Int} {y : Blk} (hy : y ∈ setW l h i v) : ∃ x, x ∈ l ∧ y.h = x.h ∧ y.ws.length = x.ws.length ∧ ∀ u, u ∈ y.ws → u ∈ x.ws ∨ u = v := by
  simp only [setW, List.mem_map] at hy
  obtain ⟨x, hx, rfl⟩ := hy
  refine ⟨x, hx, ?_, ?_, ?_⟩
  · split <;> rfl
  · split <;> simp
  · split
    · intro u hu
      rcases List.mem_or_eq_of_mem_set hu with h | h
      · exact Or.inl h
      · exact Or.inr h
    · intro u hu; exact Or.inl hu
theorem rise_setW {l : List Blk} (hr : l.Pairwise fun x y => x.h % 65536 < y.h % 65536) (h : Int) (i : Nat) (v : Int) : (setW l h i v).Pairwise fun x y => x.h % 65536 < y.h % 65536 := by
  unfold setW
  rw [List.pairwise_map]
  refine hr.imp ?_
  intro a b hab
  have : ∀ x : Blk, (if x.h = h then { x with ws := x.ws.set i v } else x).h = x.h := fun x => by split <;> rfl
  rw [this, this]; exact hab
theorem Ar.Ok.set {A : Ar} (h : A.Ok) {blk i v : Int} (hv : W64 v) : (A.set blk i v).Ok := by
  unfold Ar.set
  split
  · refine ⟨h.cap, h.births, h.peak, h.top, by simpa using h.nine, fun x hx => ?_, h.rise, h.hnd, h.len, h.wrd⟩
    rcases List.mem_or_eq_of_mem_set hx with h1 | h1
    · exact h.fix x h1
    · rw [h1]; exact hv
  · refine ⟨h.cap, h.births, h.peak, by simpa [used_setW] using h.top, h.nine, h.fix, rise_setW h.rise _ _ _, fun y hy => ?_, fun y hy => ?_, fun y hy u hu => ?_⟩
    · obtain ⟨x, hx, e, _⟩ := mem_setW hy
      rw [e]; exact h.hnd x hx
    · obtain ⟨x, hx, _, e, _⟩ := mem_setW hy
      rw [e]; exact h.len x hx
    · obtain ⟨x, hx, _, _, e⟩ := mem_setW hy
      rcases e u hu with h1 | h1
      · exact h.wrd x hx u h1
      · rw [h1]; exact hv
theorem Ar.Ok.tally {A : Ar} (h : A.Ok) (f : Nat) (t : Tal) : ({ A with faults := f, t := t } : Ar).Ok := ⟨h.cap, h.births, h.peak, h.top, h.nine, h.fix, h.rise, h.hnd, h.len, h.wrd⟩
theorem mem_mid {l : List Blk} {k : Nat} {x y : Blk} : y ∈ l.take k ++ x :: l.drop k ↔ y = x ∨ y ∈ l := by
  have : y ∈ l ↔ y ∈ l.take k ∨ y ∈ l.drop k := by rw [← List.mem_append, List.take_append_drop]
  rw [this]; simp only [List.mem_append, List.mem_cons]
  constructor
  · rintro (h | h | h) <;> simp [h]
  · rintro (h | h | h) <;> simp [h]
theorem lay_ok {A : Ar} (h : A.Ok) {ws : List Int} (h1 : 1 ≤ ws.length) (h2 : ws.length ≤ 2048) (h3 : used A.L + ws.length ≤ A.cap) (hb : A.births < 268435455) (hw : ∀ v, v ∈ ws → W64 v) : (A.lay ws).1.Ok := by
  have hp := h.peak
  have ht := h.top
  have hl := lead_le A.L 0
  have hu : A.L.length ≤ used A.L := length_le_used (fun x hx => (h.len x hx).1)
  have hc := h.cap
  have hn : ∀ x, x ∈ A.L → 1 ≤ x.h % 65536 := fun x hx => (h.hnd x hx).1
  have hx1 : (((A.births : Int) + 1) * 65536 + ((lead 0 A.L : Int) + 1)) % 65536 = (lead 0 A.L : Int) + 1 := by omega
  have hx2 : (((A.births : Int) + 1) * 65536 + ((lead 0 A.L : Int) + 1)) / 65536 = (A.births : Int) + 1 := by omega
  unfold Ar.lay
  rw [if_neg (by omega), if_neg (by omega)]
  refine ⟨h.cap, by show A.births + 1 ≤ _; omega, by show max A.peak (used A.L + ws.length) ≤ A.cap; omega, ?_, h.nine, h.fix, ?_, fun x hx => ?_, fun x hx => ?_, fun x hx => ?_⟩
  · show used (_ ++ _ :: _) ≤ max _ _
    rw [used_mid]; simp; omega
  · rw [List.pairwise_append]
    refine ⟨h.rise.sublist (List.take_sublist _ _), List.pairwise_cons.2 ⟨fun y hy => ?_, h.rise.sublist (List.drop_sublist _ _)⟩, fun a ha b hb => ?_⟩
    · obtain ⟨j, hj⟩ := List.getElem?_of_mem hy
      rw [List.getElem?_drop] at hj
      have := lead_gap h.rise hn hj (by omega)
      show _ % 65536 < _
      rw [hx1]; omega
    · obtain ⟨i, hi⟩ := List.getElem?_of_mem ha
      have hi2 : i < lead 0 A.L := by
        have := (List.getElem?_eq_some_iff.1 hi).1
        simp at this; omega
      rw [List.getElem?_take_of_lt hi2] at hi
      have e1 := lead_at A.L 0 i a hi hi2
      rcases List.mem_cons.1 hb with rfl | hb
      · show _ < _ % 65536
        rw [hx1, e1]; simp; omega
      · obtain ⟨j, hj⟩ := List.getElem?_of_mem hb
        rw [List.getElem?_drop] at hj
        have := lead_gap h.rise hn hj (by omega)
        simp at e1; omega
  · rcases mem_mid.1 hx with rfl | hx
    · refine ⟨?_, ?_, ?_⟩
      · rw [hx1]; omega
      · show 65536 ≤ ((A.births : Int) + 1) * 65536 + ((lead 0 A.L : Int) + 1); omega
      · rw [hx2]; show _ ≤ ((A.births + 1 : Nat) : Int); omega
    · obtain ⟨a, b, c⟩ := h.hnd x hx
      exact ⟨a, b, by show _ ≤ ((A.births + 1 : Nat) : Int); omega⟩
  · rcases mem_mid.1 hx with rfl | hx
    · exact ⟨h1, h2⟩
    · exact h.len x hx
  · rcases mem_mid.1 hx with rfl | hx
    · exact hw
    · exact h.wrd x hx
theorem free_ok {A : Ar} (h : A.Ok) (k : Int) : (A.free k).1.Ok := by
  unfold Ar.free
  split
  · have hs : (drop A.L k).Sublist A.L := List.filter_sublist
    have ht := h.top
    have hu := used_sub hs
    exact ⟨h.cap, h.births, h.peak, by show used (drop A.L k) ≤ A.peak; omega, h.nine, h.fix, h.rise.sublist hs, fun x hx => h.hnd x (hs.subset hx), fun x hx => h.len x (hs.subset hx), fun x hx => h.wrd x (hs.subset hx)⟩
  · exact h.tally _ _
theorem new_ok {cap : Nat} (h : cap ≤ 60000) : (Ar.new cap).Ok :=
  ⟨h, by simp [Ar.new], by simp [Ar.new], by simp [Ar.new, used], by simp [Ar.new], fun x hx => by simp [Ar.new] at hx; rw [hx]; exact ⟨by omega, by omega⟩, by simp [Ar.new], by simp [Ar.new], by simp [Ar.new], by simp [Ar.new]⟩
theorem row_wrd {A : Ar} (h : A.Ok) {blk : Int} {l : List Int} (hr : A.row blk = some l) : ∀ v, v ∈ l → W64 v := by
  unfold Ar.row at hr
  split at hr
  · cases hr; exact h.fix
  · obtain ⟨x, hx, _, rfl⟩ := h.look_some.1 hr
    exact h.wrd x hx
theorem get_wrd {A : Ar} (h : A.Ok) (blk i : Int) : W64 (A.get blk i) := by
  unfold Ar.get
  cases hr : A.row blk with
  | none => simp; exact ⟨by omega, by omega⟩
  | some l =>
    simp only [Option.getD_some, List.getD_eq_getElem?_getD]
    cases hx : l[i.toNat]? with
    | none => simp; exact ⟨by omega, by omega⟩
    | some v => exact row_wrd h hr v (List.mem_of_getElem? hx)
end Arn
end Go.Proofs.YtpajafecodkndaaGreat
