/- The document's Digit; first of the laws. -/
import Derived.Test.YtennngngdmdpnaaQuadSmall
import Derived.Test.YtennngngdmdpnaaArenaSin
set_option linter.unusedVariables false
set_option linter.unusedSimpArgs false
namespace Go.Proofs.Ytennngngdmdpnaa
namespace Qud
open Go.RowKit Go.Maps Arn

def kdiv (k : Int) : Nat → Int
  | 0 => k
  | j + 1 => kdiv k j / 4
theorem kdiv_in (k : Int) (h0 : 0 ≤ k) (h1 : k ≤ 255) : ∀ j, 0 ≤ kdiv k j ∧ kdiv k j ≤ 255
  | 0 => ⟨h0, h1⟩
  | j + 1 => by have := kdiv_in k h0 h1 j; simp only [kdiv]; omega
theorem kdiv_digit (k l : Int) (h0 : 0 ≤ k) (h1 : k ≤ 255) (h2 : 0 ≤ l) (h3 : l ≤ 3) (j : Nat) (hj : l + j = 3) : kdiv k j % 4 = digitOf k l := by
  unfold digitOf
  rw [if_neg (by omega)]
  have hc : l = 0 ∧ j = 3 ∨ l = 1 ∧ j = 2 ∨ l = 2 ∧ j = 1 ∨ l = 3 ∧ j = 0 := by omega
  rcases hc with ⟨rfl, rfl⟩ | ⟨rfl, rfl⟩ | ⟨rfl, rfl⟩ | ⟨rfl, rfl⟩ <;> simp [kdiv] <;> omega
set_option maxRecDepth 100000 in
set_option maxHeartbeats 4000000 in
theorem refDigit_any (key level : Int) (hk : I64 key) (hl : I64 level) (w : World) :
    Calls Try.prog 10 #[.int .i64 key, .int .i64 level] w fun e w' => e = .returned (.int .i64 (digitOf key level)) ∧ w = w' := by
  by_cases h1 : key < 0
  · unfold digitOf
    rw [if_pos (.inl h1)]
    go_enter Try.func10, Try.ntmps10
    go_wp2
    go_ret
    exact ⟨rfl, rfl⟩
  by_cases h2 : 255 < key
  · unfold digitOf
    rw [if_pos (.inr (.inl h2))]
    go_enter Try.func10, Try.ntmps10
    go_wp2
    go_ret
    exact ⟨rfl, rfl⟩
  by_cases h3 : level < 0
  · unfold digitOf
    rw [if_pos (.inr (.inr (.inl h3)))]
    go_enter Try.func10, Try.ntmps10
    go_wp2
    go_ret
    exact ⟨rfl, rfl⟩
  by_cases h4 : 3 < level
  · unfold digitOf
    rw [if_pos (.inr (.inr (.inr h4)))]
    go_enter Try.func10, Try.ntmps10
    go_wp2
    go_ret
    exact ⟨rfl, rfl⟩
  have hin := kdiv_in key (by omega) (by omega)
  have HD := Lib.hid (kdiv_digit key level (by omega) (by omega) (by omega) (by omega))
  have HIN := Lib.hid hin
  clear hin
  go_enter Try.func10, Try.ntmps10
  go_wp2
  go_loopw [0, 5] (fun k i wr => ∃ j : Nat, level + j ≤ 3 ∧ i = .int .i64 (level + j) ∧ k = .int .i64 (kdiv key j) ∧ wr = w) (fun _ i _ => 3 - (intOf i).toNat)
  case atStart => exact ⟨0, by omega, by simp, rfl, rfl⟩
  case round =>
    obtain ⟨j, hj, rfl, rfl, rfl⟩ := hrel
    obtain ⟨k0, k1⟩ := HIN.out j
    by_cases hlt : level + (j : Int) < 3
    · obtain ⟨q, hq⟩ : ∃ q, q = kdiv key j := ⟨_, rfl⟩
      have HQ := Lib.hid hq
      rw [← hq] at k0 k1 ⊢
      clear hq
      go_wp2
      go_roundw
      case rel => exact ⟨j + 1, by omega, by simp [Int.add_assoc], by rw [HQ.out]; rfl, trivial⟩
      case measure => simp [intOf]; omega
    · have HJ := Lib.hid (HD.out j (by omega))
      obtain ⟨q, hq⟩ : ∃ q, q = kdiv key j := ⟨_, rfl⟩
      rw [← hq] at HJ k0 k1 ⊢
      clear hq
      go_wp2
      go_ret
      exact ⟨congrArg (fun x => Ending.returned (.int .i64 x)) HJ.out, rfl⟩

def q1 : Ar := ⟨99, 1, 4, 0, List.replicate 9 0, [⟨65537, [0, 0, 0, 6]⟩], ⟨1, 0, 0, 0, 0, 0⟩⟩
def q2 : Ar := ⟨99, 2, 8, 0, List.replicate 9 0, [⟨65537, [0, 0, 0, 6]⟩, ⟨131074, [0, 0, 65537, 0]⟩], ⟨2, 0, 0, 0, 0, 0⟩⟩
def q3 : Ar := ⟨99, 3, 12, 0, List.replicate 9 0, [⟨65537, [0, 0, 0, 6]⟩, ⟨131074, [0, 0, 65537, 0]⟩, ⟨196611, [0, 131074, 0, 0]⟩], ⟨3, 0, 0, 0, 0, 0⟩⟩
def q4 : Ar := ⟨99, 4, 16, 0, List.replicate 9 0, [⟨65537, [0, 0, 0, 6]⟩, ⟨131074, [0, 0, 65537, 0]⟩, ⟨196611, [0, 131074, 0, 0]⟩, ⟨262148, [196611, 0, 0, 0]⟩], ⟨4, 0, 0, 0, 0, 0⟩⟩
theorem e1 : (Ar.new 99).lay [0, 0, 0, 6] = (q1, 65537, 0) := by rfl
theorem e2 : q1.lay [0, 0, 65537, 0] = (q2, 131074, 0) := by rfl
theorem e3 : q2.lay [0, 131074, 0, 0] = (q3, 196611, 0) := by rfl
theorem e4 : q3.lay [196611, 0, 0, 0] = (q4, 262148, 0) := by rfl
theorem t1 : treeOf q4.L 262148 = some ([262148, 196611, 131074, 65537], [(27, 5)]) := by decide +kernel
theorem t2 : treeOf q4.L 131074 = none := by decide +kernel
theorem g1 : greOf [1, 0, 1, 1] 2 = (2, true) := by decide +kernel
theorem d1 : digitOf 27 0 = 0 := by decide +kernel
theorem d2 : digitOf 27 1 = 1 := by decide +kernel
theorem d3 : digitOf 27 3 = 3 := by decide +kernel
theorem w1 : withOf [0, 0, 0, 0] 1 7 = [0, 7, 0, 0] := by decide +kernel
theorem words4 (W : World) (x y z u : Int) : WordsAt (W.alloc (.cells #[.int .u64 x, .int .u64 y, .int .u64 z, .int .u64 u] 22)) (.slice (some ⟨W.heap.size, 0, none⟩) 4 4) [x, y, z, u] := by
  refine .inr ⟨⟨W.heap.size, 0, none⟩, 4, rfl, fun j v hv => ?_⟩
  rw [Addr.add_lit, Nat.zero_add, World.cell?_alloc_at _ _ _ _ rfl]
  simpa [u64s] using hv
theorem small64 (l : List Int) (h : l.all (fun x => decide (0 ≤ x ∧ x ≤ 1000000)) = true) : ∀ x, x ∈ l → W64 x := fun x hx => by
  have := List.all_eq_true.1 h x hx
  simp at this
  unfold W64; omega
/-- A call that lays four words into an arena. -/
theorem lay4 {w : World} {b n : Nat} {M : Mem} {A : Ar} (W : World) (h : Sin w b M A n W) (hn : n ≤ 1000) (x y z u : Int) (h64 : [x, y, z, u].all (fun x => decide (0 ≤ x ∧ x ≤ 1000000)) = true) {A' : Ar} {k e : Int} (he : A.lay [x, y, z, u] = (A', k, e)) :
    Calls Try.prog 19 #[.pointer (some ⟨b, 0, none⟩), .slice (some ⟨W.heap.size, 0, none⟩) 4 4] (W.alloc (.cells #[.int .u64 x, .int .u64 y, .int .u64 z, .int .u64 u] 22)) fun e' w' => e' = .returned (.tuple #[.int .u64 k, .int .i64 e]) ∧ ∃ M', Sin w b M' A' (n + 1) w' := by
  refine (sin_lay (h.step ((Frm.Turn.refl [] W).alloc _)) (by omega) (words4 W x y z u) (fun _ k hk hk' => by simp [Value.ownBlock] at hk; subst hk; have := h.lt hk'; omega) (small64 _ h64)).mono ?_
  rw [he]
  rintro e w' ⟨h1, M', h2, _⟩
  exact ⟨h1, M', h2⟩
set_option maxRecDepth 100000 in
set_option maxHeartbeats 4000000 in
theorem first_any (w : World) : Calls Try.prog 7 #[] w fun e w' => e = .returned (.bool true) ∧ Frm.Turn [] w w' := by
  have HN : Hid (Calls Try.prog 18 #[.int .i64 99] w fun e w' => ∃ b M, e = .returned (.tuple #[.pointer (some ⟨b, 0, none⟩), .int .i64 0]) ∧ Sin w b M (Ar.new 99) 0 w') := Lib.hid (sin_new 99 w (by omega))
  have HL1 : Hid (∀ b M W, Sin w b M (Ar.new 99) 0 W → _) := Lib.hid fun b M W h => lay4 W h (by omega) 0 0 0 6 (by decide) e1
  have HL2 : Hid (∀ b M W, Sin w b M q1 1 W → _) := Lib.hid fun b M W h => lay4 W h (by omega) 0 0 65537 0 (by decide) e2
  have HL3 : Hid (∀ b M W, Sin w b M q2 2 W → _) := Lib.hid fun b M W h => lay4 W h (by omega) 0 131074 0 0 (by decide) e3
  have HL4 : Hid (∀ b M W, Sin w b M q3 3 W → _) := Lib.hid fun b M W h => lay4 W h (by omega) 196611 0 0 0 (by decide) e4
  have HT1 : Hid (∀ b M W, Sin w b M q4 4 W → Calls Try.prog 14 #[.pointer (some ⟨b, 0, none⟩), .int .u64 262148] W fun e w' => ∃ v, e = .returned (.tuple #[v, .bool true]) ∧ w'.ownsRow W.heap.size 51 2 v 1 [.int .i64 27, .int .i64 5] ∧ Sin w b M q4 4 w') :=
    Lib.hid fun b M W h => (list_any h.at_ 262148 (by unfold W64; omega)).mono (by rw [t1]; rintro e w' ⟨v, he, hr, hT⟩; exact ⟨v, he, hr, h.step hT⟩)
  have HT2 : Hid (∀ b M W, Sin w b M q4 4 W → Calls Try.prog 15 #[.pointer (some ⟨b, 0, none⟩), .int .u64 262148] W fun e w' => ∃ v, e = .returned (.tuple #[v, .bool true]) ∧ w'.ownsRow W.heap.size 22 1 v 4 [.int .u64 262148, .int .u64 196611, .int .u64 131074, .int .u64 65537] ∧ Frm.Turn [] W w') :=
    Lib.hid fun b M W h => (handles_any h.at_ 262148 (by unfold W64; omega)).mono (by rw [t1]; rintro e w' ⟨v, he, hr, hT⟩; exact ⟨v, he, hr, hT⟩)
  have HT3 : Hid (∀ b M W, Sin w b M q4 4 W → Calls Try.prog 14 #[.pointer (some ⟨b, 0, none⟩), .int .u64 131074] W fun e w' => (∃ v, e = .returned (.tuple #[v, .bool false])) ∧ Frm.Turn [] W w') :=
    Lib.hid fun b M W h => (list_any h.at_ 131074 (by unfold W64; omega)).mono (by rw [t2]; rintro e w' ⟨v, he, hr, hT⟩; exact ⟨⟨v, he⟩, hT⟩)
  have HG : Hid (∀ W, Calls Try.prog 8 #[.agg #[.int .u64 1, .int .u64 0, .int .u64 1, .int .u64 1], .int .i64 2] W fun e w' => e = .returned (.tuple #[.int .i64 2, .bool true]) ∧ Frm.Turn [] W w') :=
    Lib.hid fun W => by have := great_any 1 0 1 1 2 (by unfold I64; omega) W; rw [g1] at this; exact this
  have HD1 : Hid (∀ W, Calls Try.prog 9 #[.int .i64 27, .int .i64 0] W fun e w' => e = .returned (.int .i64 0) ∧ W = w') := Lib.hid fun W => by have := digit_any 27 0 (by unfold I64; omega) (by unfold I64; omega) W; rw [d1] at this; exact this
  have HD2 : Hid (∀ W, Calls Try.prog 9 #[.int .i64 27, .int .i64 1] W fun e w' => e = .returned (.int .i64 1) ∧ W = w') := Lib.hid fun W => by have := digit_any 27 1 (by unfold I64; omega) (by unfold I64; omega) W; rw [d2] at this; exact this
  have HD3 : Hid (∀ W, Calls Try.prog 9 #[.int .i64 27, .int .i64 3] W fun e w' => e = .returned (.int .i64 3) ∧ W = w') := Lib.hid fun W => by have := digit_any 27 3 (by unfold I64; omega) (by unfold I64; omega) W; rw [d3] at this; exact this
  have HW : Hid (∀ W, Calls Try.prog 11 #[.agg #[.int .u64 0, .int .u64 0, .int .u64 0, .int .u64 0], .int .i64 1, .int .u64 7] W fun e w' => e = .returned (.agg #[.int .u64 0, .int .u64 7, .int .u64 0, .int .u64 0]) ∧ Frm.Turn [] W w') := Lib.hid fun W => by have := with_any 0 0 0 0 1 7 (by unfold I64; omega) W; rw [w1] at this; exact this
  have heq := fun w => equal4 w 0 7 0 0 0 7 0 0 true rfl
  go_enter Try.func7, Try.ntmps7
  go_upto_region 9 with (first
    | (go_at_call 18; (with_reducible refine (HN.out).mono ?_); rintro e w1 ⟨b, M, rfl, h⟩; have H0 := Lib.hid h; clear h)
    | (go_at_call 19; (with_reducible refine (HL1.out _ _ _ H0.out).mono ?_); rintro e w2 ⟨rfl, M1, h⟩; have H1 := Lib.hid h; clear h)
    | (go_at_call 19; (with_reducible refine (HL2.out _ _ _ H1.out).mono ?_); rintro e w3 ⟨rfl, M2, h⟩; have H2 := Lib.hid h; clear h)
    | (go_at_call 19; (with_reducible refine (HL3.out _ _ _ H2.out).mono ?_); rintro e w4 ⟨rfl, M3, h⟩; have H3 := Lib.hid h; clear h)
    | (go_at_call 19; (with_reducible refine (HL4.out _ _ _ H3.out).mono ?_); rintro e w5 ⟨rfl, M4, h⟩; have H4 := Lib.hid h; clear h)
    | (go_at_call 14; (with_reducible refine (HT1.out _ _ _ H4.out).mono ?_); rintro e w6 ⟨v1, rfl, hr1, h⟩; have H5 := Lib.hid h; have HR1 := Lib.hid hr1; clear h hr1)
    | (go_at_call 15; (with_reducible refine (HT2.out _ _ _ H5.out).mono ?_); rintro e w7 ⟨v2, rfl, hr2, hT7⟩; have H7 := Lib.hid hT7; have HR2 := Lib.hid hr2; clear hT7 hr2)
    | (go_at_call 8; (with_reducible refine (HG.out _).mono ?_); rintro e w8 ⟨rfl, hT8⟩; have H8 := Lib.hid hT8; clear hT8))
  have hr1 := HR1.out
  obtain ⟨g1, c1, rfl⟩ := ownsRow_succ hr1
  have hr2 := HR2.out
  obtain ⟨g2, c2, rfl⟩ := ownsRow_succ hr2
  have HC : Hid (∀ W, Frm.Turn [] w8 W → (W.cell? ⟨g1, 0, none⟩ = some (.int .i64 27) ∧ W.cell? ⟨g1, 1, none⟩ = some (.int .i64 5)) ∧ W.cell? ⟨g2, 0, none⟩ = some (.int .u64 262148) ∧ W.cell? ⟨g2, 3, none⟩ = some (.int .u64 65537)) := Lib.hid fun W hT => by
    have h1 := (Frm.owns_turn hr1 ((H7.out.trans H8.out (by simp)).trans hT (by simp)) (by simp)).cells rfl
    have h2 := (Frm.owns_turn hr2 (H8.out.trans hT (by simp)) (by simp)).cells rfl
    refine ⟨⟨?_, ?_⟩, ?_, ?_⟩
    · have := h1 0 _ rfl; rwa [Addr.add_lit] at this
    · have := h1 1 _ rfl; rwa [Addr.add_lit] at this
    · have := h2 0 _ rfl; rwa [Addr.add_lit] at this
    · have := h2 3 _ rfl; rwa [Addr.add_lit] at this
  have HS8 := Lib.hid ((H5.out.step H7.out).step H8.out)
  have H58 := Lib.hid HS8.out.turn
  clear hr1 hr2
  go_wp2_with (first
    | (go_at_call 14; (with_reducible refine (HT3.out _ _ _ HS8.out).mono ?_); rintro e w9 ⟨⟨v3, rfl⟩, hT9⟩; obtain ⟨⟨k0, k1⟩, k2, k3⟩ := HC.out _ hT9; have H9 := Lib.hid (H58.out.trans hT9 (by simp)); clear hT9)
    | (go_at_call 9; (with_reducible refine (HD1.out _).mono ?_); rintro e w10 ⟨rfl, rfl⟩)
    | (go_at_call 9; (with_reducible refine (HD2.out _).mono ?_); rintro e w10 ⟨rfl, rfl⟩)
    | (go_at_call 9; (with_reducible refine (HD3.out _).mono ?_); rintro e w10 ⟨rfl, rfl⟩)
    | (go_at_call 11; (with_reducible refine (HW.out _).mono ?_); rintro e w11 ⟨rfl, hT11⟩; have H11 := Lib.hid (H9.out.trans hT11 (by simp)); clear hT11))
  go_ret
  exact ⟨rfl, H11.out⟩
end Qud
end Go.Proofs.Ytennngngdmdpnaa
