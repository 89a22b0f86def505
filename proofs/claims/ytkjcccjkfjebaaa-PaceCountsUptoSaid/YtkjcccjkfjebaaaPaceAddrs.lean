/- Lists of addresses in memory; their clones. -/
import Derived.Test.YtkjcccjkfjebaaaArenaSmall
import Derived.Test.YtkjcccjkfjebaaaPaceCall
set_option linter.unusedVariables false
set_option linter.unusedSimpArgs false
namespace Go.Proofs.Ytkjcccjkfjebaaa
namespace Pac
open Go.RowKit Go.Maps Arn

def addrCells (l : List (Int × Int)) : List Value := l.flatMap fun x => [.int .u64 x.1, .int .i64 x.2]
theorem addrCells_length (l : List (Int × Int)) : (addrCells l).length = l.length * 2 := by
  induction l with
  | nil => rfl
  | cons x t ih => simp only [addrCells, List.flatMap_cons, List.length_append, List.length_cons, List.length_nil] at ih ⊢; omega
theorem addrCells_one (l : List (Int × Int)) : ∀ u ∈ addrCells l, u.oneCell' = true := by
  intro u hu
  simp only [addrCells, List.mem_flatMap] at hu
  obtain ⟨x, _, hx⟩ := hu
  simp at hx
  rcases hx with rfl | rfl <;> rfl
def AddrsAt (w : World) (v : Value) (l : List (Int × Int)) : Prop :=
  (v = .slice none 0 0 ∧ l = []) ∨ ∃ g o c, v = .slice (some ⟨g, o, none⟩) l.length c ∧ l.length ≤ c ∧ c ≤ maxLen ∧ ∀ j u, (addrCells l)[j]? = some u → w.cell? ⟨g, o + j, none⟩ = some u
theorem AddrsAt.turn {w w' : World} {v : Value} {l : List (Int × Int)} {F : List Nat} (h : AddrsAt w v l) (ht : Frm.Turn F w w') (hn : ∀ k, v.ownBlock = some k → k ∉ F) : AddrsAt w' v l := by
  rcases h with ⟨h1, h2⟩ | ⟨g, o, c, rfl, hc, hm, h1⟩
  · exact .inl ⟨h1, h2⟩
  · exact .inr ⟨g, o, c, rfl, hc, hm, fun j u hu => ht.cell (h1 j u hu) (hn g rfl)⟩
theorem info_addr : (Try.prog.info? 34).map (fun i => (i.zero, i.size, i.bytes)) = some (some (.agg #[.int .u64 0, .int .i64 0]), 2, 16) := by kernel_rfl
theorem under_addrs : Try.prog.underlying 82 = some (.slice 34) := by kernel_rfl
theorem add_at (g o k : Nat) : (⟨g, o, none⟩ : Addr).add k = ⟨g, o + k, none⟩ := by
  unfold Addr.add; split
  · rename_i e; simp [e]
  · simp
theorem aclone_nil (w : World) : Calls Try.prog 87 #[.slice none 0 0] w fun e w' => e = .returned (.slice none 0 0) ∧ w = w' := by
  have hq := fun w => Lib.run_eql_slice_nil (P := Try.prog) w 82 _ none 0 0 0 0 under_addrs
  go_enter Try.func87, Try.ntmps87
  go_wp2
  go_ret
  exact ⟨rfl, rfl⟩
/-- A clone of addresses: the same list, in a block that is new. -/
def ACloneOf (w : World) (l : List (Int × Int)) (e : Ending) (w' : World) : Prop :=
  ∃ ao c, e = .returned (.slice ao l.length c) ∧ AddrsAt w' (.slice ao l.length c) l ∧ (∀ k, (Value.slice ao l.length c).ownBlock = some k → w.heap.size ≤ k ∧ k < w'.heap.size) ∧ Frm.Turn [] w w'
set_option maxHeartbeats 1000000 in
theorem aclone_some (g o c : Nat) (l : List (Int × Int)) (w : World) (h : ∀ j u, (addrCells l)[j]? = some u → w.cell? ⟨g, o + j, none⟩ = some u) (hn : l.length ≤ 65536) :
    Calls Try.prog 87 #[.slice (some ⟨g, o, none⟩) l.length c] w (ACloneOf w l) := by
  have hq := fun w => Lib.run_eql_slice_nil (P := Try.prog) w 82 _ (some ⟨g, o, none⟩) l.length c 0 0 under_addrs
  have HT : Hid (∀ ob, ∀ j u, (addrCells l)[j]? = some u → (w.alloc ob).cell? ((⟨g, o, none⟩ : Addr).add j) = some u) := Lib.hid fun ob j u hu => by rw [add_at]; exact ((Frm.Turn.refl [] w).alloc ob).cell (h j u hu) (by simp)
  obtain ⟨i0, hi, hz0, hz1, hz2⟩ := info_parts info_addr
  have HO : Hid ((w.alloc (.cells #[] 34)).ownsRow 0 34 2 (.slice (some ⟨w.heap.size, 0, none⟩) 0 0) 0 []) := Lib.hid (World.ownsRow_made w #[] 0 (Nat.zero_le _) (by simp [maxLen]) (by simp))
  clear h
  obtain ⟨n, HN⟩ : ∃ n, Hid (n = l.length) := ⟨_, Lib.hid rfl⟩
  rw [← HN.out] at hn hq ⊢
  go_enter Try.func87, Try.ntmps87
  go_wp2_with (at_builtin; refine wpList_append_own_at _ rfl (.tmp 5) (.tmp 6) 82 rfl 0 34 i0 (.agg #[.int .u64 0, .int .i64 0]) 2 16 under_addrs hi hz0 hz1 hz2 rfl (by decide) (.slice (some ⟨w.heap.size, 0, none⟩) 0 0) 0 [] rfl HO.out ⟨g, o, none⟩ n c (addrCells l) rfl (by rw [addrCells_length, HN.out]) (HT.out _) (addrCells_one l) (by unfold maxLen; omega) (by omega) (Nat.zero_le _) ?_; intro v1 w3 hown3 hg3 _ hl3; simp only [Nat.zero_add, List.nil_append] at hown3; have HO3 := Lib.hid hown3; have HG3 := Lib.hid hg3; have HL3 := Lib.hid hl3; clear hown3 hg3 hl3)
  go_ret
  have hs3 := HG3.out.size
  simp at hs3
  have hbl : ∀ k, v1.ownBlock = some k → w.heap.size ≤ k := fun k hk => by
    rcases HL3.out with h | h <;> rw [h] at hk <;> simp [Value.ownBlock] at hk <;> omega
  have hne : v1.ownBlock ≠ none := by
    rcases HL3.out with h | h <;> rw [h] <;> simp [Value.ownBlock]
  have ho := HO3.out
  rw [HN.out] at ho
  rcases ho.2 with ⟨rfl, _⟩ | ⟨g', c', cur, rfl, _, _, q1, q2, _⟩
  · simp [Value.ownBlock] at hne
  · refine ⟨some ⟨g', 0, none⟩, c', rfl, .inr ⟨g', 0, c', rfl, q1, q2, fun j u hu => ?_⟩, fun k hk => ?_, ((Frm.Turn.refl [] w).alloc _).trans (Frm.Turn.of_grown HG3.out) (fun k hk => ?_)⟩
    · have := World.ownsRow.cells ho rfl j u hu
      rwa [add_at] at this
    · cases hk
      exact ⟨hbl g' rfl, (ho.lt g' rfl).2⟩
    · simp [Value.ownBlock] at hk; subst hk; right; omega
theorem aclone_any (v : Value) (l : List (Int × Int)) (w : World) (h : AddrsAt w v l) (hn : l.length ≤ 65536) :
    Calls Try.prog 87 #[v] w (ACloneOf w l) := by
  rcases h with ⟨rfl, rfl⟩ | ⟨g, o, c, rfl, _, _, h⟩
  · refine (aclone_nil w).mono ?_
    rintro e w' ⟨rfl, rfl⟩
    exact ⟨none, 0, rfl, .inl ⟨rfl, rfl⟩, fun k hk => by simp [Value.ownBlock] at hk, Frm.Turn.refl [] _⟩
  · exact aclone_some g o c l w h hn
/-- A clone of words, nil or not. -/
def UCloneOf (w : World) (l : List Int) (e : Ending) (w' : World) : Prop :=
  ∃ ao c, e = .returned (.slice ao l.length c) ∧ WordsAt w' (.slice ao l.length c) l ∧ (∀ k, (Value.slice ao l.length c).ownBlock = some k → w.heap.size ≤ k ∧ k < w'.heap.size) ∧ Frm.Turn [] w w'
theorem uclone_any (v : Value) (l : List Int) (w : World) (h : WordsAt w v l) (hn : l.length ≤ 65536) : Calls Try.prog 60 #[v] w (UCloneOf w l) := by
  rcases h with ⟨rfl, rfl⟩ | ⟨a, c, rfl, h⟩
  · refine (uclone_nil w).mono ?_
    rintro e w' ⟨rfl, rfl⟩
    exact ⟨none, 0, rfl, .inl ⟨rfl, rfl⟩, fun k hk => by simp [Value.ownBlock] at hk, Frm.Turn.refl [] _⟩
  · refine (uclone_some a c l w h hn).mono ?_
    rintro e w' ⟨g', c', rfl, h1, h2, h3⟩
    refine ⟨some ⟨g', 0, none⟩, c', rfl, .own h1, fun k hk => ?_, h3⟩
    cases hk
    exact ⟨h2, (h1.lt g' rfl).2⟩
end Pac
end Go.Proofs.Ytkjcccjkfjebaaa
