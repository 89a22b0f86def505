/- ArenaSums: what its calls keep, plainly. -/
import Derived.Test.YtoghagapbhlfeaaArenaOncePlain
set_option linter.unusedVariables false
set_option linter.unusedSimpArgs false
namespace Go.Proofs.Ytoghagapbhlfeaa
namespace Arn
open Go.RowKit Hp Go.Maps

/-- As many live as were laid and not freed. -/
def Bal (A : Ar) : Prop := A.t.lays = A.t.frees + A.L.length
theorem drop_length {A : Ar} (hok : A.Ok) {k : Int} (hk : hasH A.L k = true) : (drop A.L k).length + 1 = A.L.length := by
  obtain ⟨x, hx, hxk⟩ := hasH_iff.1 hk
  have h1 := count_one (x := x) (p := fun y => !(y.h == k)) (p' := fun _ => true) (by simp [hxk]) A.L (hok.rise.imp fun hab e => by rw [e] at hab; omega) hx (fun y hy => by rw [hxk]; cases (y.h == k) <;> rfl)
  rw [List.countP_true] at h1
  unfold drop
  rw [← List.countP_eq_length_filter]
  omega
theorem setW_length (l : List Blk) (h : Int) (i : Nat) (v : Int) : (setW l h i v).length = l.length := by simp [setW]
theorem set_length (A : Ar) (blk i v : Int) : (A.set blk i v).L.length = A.L.length := by
  unfold Ar.set; split
  · rfl
  · exact setW_length _ _ _ _
theorem bal_lay {A : Ar} (h : Bal A) (ws : List Int) : Bal (A.lay ws).1 := by
  unfold Ar.lay
  split
  · exact h
  split
  · exact h
  · have hl := lead_le A.L 0
    unfold Bal at h ⊢
    show A.t.lays + 1 = A.t.frees + (A.L.take (lead 0 A.L) ++ _ :: A.L.drop (lead 0 A.L)).length
    simp
    omega
theorem bal_free {A : Ar} (hok : A.Ok) (h : Bal A) (k : Int) : Bal (A.free k).1 := by
  unfold Ar.free
  cases hh : hasH A.L k with
  | true =>
    rw [if_pos rfl]
    have := drop_length hok hh
    unfold Bal at h ⊢
    show A.t.lays = A.t.frees + 1 + (drop A.L k).length
    omega
  | false => rw [if_neg (by simp)]; exact h
theorem bal_read {A : Ar} (h : Bal A) (blk i : Int) : Bal (A.read blk i).1 := by unfold Ar.read; split <;> exact h
theorem bal_write {A : Ar} (h : Bal A) (blk i v : Int) : Bal (A.write blk i v).1 := by
  obtain ⟨_, e2, _⟩ := set_parts A blk i v
  unfold Ar.write; split
  · unfold Bal at h ⊢
    show A.t.lays = A.t.frees + (A.set blk i v).L.length
    rw [set_length]; exact h
  · exact h
theorem bal_swap {A : Ar} (h : Bal A) (blk i o v : Int) : Bal (A.swap blk i o v).1 := by
  obtain ⟨_, e2, _⟩ := set_parts A blk i v
  unfold Ar.swap; split
  · split
    · unfold Bal at h ⊢
      show A.t.lays = A.t.frees + (A.set blk i v).L.length
      rw [set_length]; exact h
    · exact h
  · exact h
theorem bal_add {A : Ar} (h : Bal A) (blk i v : Int) : Bal (A.add blk i v).1 := by
  obtain ⟨_, e2, _⟩ := set_parts A blk i ((A.get blk i + v) % 18446744073709551616)
  unfold Ar.add; split
  · unfold Bal at h ⊢
    show A.t.lays = A.t.frees + (A.set blk i ((A.get blk i + v) % 18446744073709551616)).L.length
    rw [set_length]; exact h
  · exact h
/-- The words stand as they stood. -/
def Still (A B : Ar) : Prop := B.fixed = A.fixed ∧ B.L = A.L
theorem still_read (A : Ar) (blk i : Int) : Still A (A.read blk i).1 := by unfold Ar.read; split <;> exact ⟨rfl, rfl⟩
theorem still_write (A : Ar) (blk i v : Int) (h : (A.write blk i v).2 ≠ 0) : Still A (A.write blk i v).1 := by
  unfold Ar.write at h ⊢
  split
  · rename_i e; rw [if_pos e] at h; exact absurd rfl h
  · exact ⟨rfl, rfl⟩
theorem still_swap (A : Ar) (blk i o v : Int) (h : (A.swap blk i o v).2.1 = false) : Still A (A.swap blk i o v).1 := by
  unfold Ar.swap at h ⊢
  split
  · rename_i e
    rw [if_pos e] at h
    split
    · rename_i e2; rw [if_pos e2] at h; cases h
    · exact ⟨rfl, rfl⟩
  · exact ⟨rfl, rfl⟩
theorem set_self (l : List Int) (i : Nat) : l.set i (l.getD i 0) = l := by
  apply List.ext_getElem?
  intro j
  rw [List.getElem?_set]
  by_cases e : i = j
  · subst e
    by_cases hi : i < l.length
    · simp [hi]
    · simp [hi]
  · rw [if_neg e]
theorem still_set {A : Ar} (hok : A.Ok) (blk i : Int) : Still A (A.set blk i (A.get blk i)) := by
  unfold Ar.set Ar.get Ar.row
  by_cases h0 : blk = 0
  · rw [if_pos h0, if_pos h0]
    exact ⟨set_self _ _, rfl⟩
  · rw [if_neg h0, if_neg h0]
    refine ⟨rfl, ?_⟩
    show setW A.L blk i.toNat _ = A.L
    unfold setW
    rw [List.map_congr_left (g := id)]
    · simp
    · intro x hx
      by_cases e : x.h = blk
      · rw [if_pos e]
        have hl : look A.L blk = some x.ws := hok.look_some.2 ⟨x, hx, e, rfl⟩
        rw [hl]
        simp only [Option.getD_some]
        rw [set_self]; rfl
      · rw [if_neg e]; rfl
theorem still_add {A : Ar} (hok : A.Ok) (blk i v : Int) (h : (A.add blk i v).2.2 ≠ 0 ∨ v = 0) : Still A (A.add blk i v).1 := by
  unfold Ar.add at h ⊢
  split
  · rename_i e
    rw [if_pos e] at h
    have hv : v = 0 := by rcases h with h | h; exact absurd rfl h; exact h
    subst hv
    obtain ⟨g0, g1⟩ := get_wrd hok blk i
    have e1 : (A.get blk i + 0) % 18446744073709551616 = A.get blk i := by omega
    rw [e1]
    exact still_set hok blk i
  · exact ⟨rfl, rfl⟩
theorem used_sum {ys : List Got} {L : List Blk} (h : ys.map Prod.fst = L) : (ys.map fun y => y.1.ws.length).sum = used L := by
  subst h
  induction ys with
  | nil => rfl
  | cons y t ih => simp [used, ih]
end Arn
end Go.Proofs.Ytoghagapbhlfeaa
