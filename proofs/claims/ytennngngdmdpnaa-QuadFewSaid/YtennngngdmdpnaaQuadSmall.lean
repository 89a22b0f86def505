/- Digit, With, Greatest, and the document's Digit. -/
import Derived.Test.YtennngngdmdpnaaQuadOver
set_option linter.unusedVariables false
set_option linter.unusedSimpArgs false
namespace Go.Proofs.Ytennngngdmdpnaa
namespace Qud
open Go.RowKit Go.Maps Arn

def digitOf (key level : Int) : Int :=
  if key < 0 ∨ 255 < key ∨ level < 0 ∨ 3 < level then 0
  else if level = 0 then key / 64 % 4 else if level = 1 then key / 16 % 4 else if level = 2 then key / 4 % 4 else key % 4
abbrev I64 (n : Int) : Prop := -9223372036854775808 ≤ n ∧ n ≤ 9223372036854775807
theorem and3 (x : Int) (h0 : 0 ≤ x) (h1 : x ≤ 255) : bits BinOp.and IntKind.i64 x 3 = x % 4 := by
  have h : ∀ a : Fin 256, bits BinOp.and IntKind.i64 ((a : Nat) : Int) 3 = ((a : Nat) : Int) % 4 := by decide +kernel
  have h2 := h ⟨x.toNat, by omega⟩
  simp only at h2
  rwa [show ((x.toNat : Nat) : Int) = x by omega] at h2
set_option maxRecDepth 100000 in
set_option maxHeartbeats 4000000 in
theorem digit_any (key level : Int) (hk : I64 key) (hl : I64 level) (w : World) :
    Calls Try.prog 9 #[.int .i64 key, .int .i64 level] w fun e w' => e = .returned (.int .i64 (digitOf key level)) ∧ w = w' := by
  unfold digitOf
  by_cases h1 : key < 0
  · rw [if_pos (.inl h1)]
    go_enter Try.func9, Try.ntmps9
    go_wp2
    go_ret
    exact ⟨rfl, rfl⟩
  by_cases h2 : 255 < key
  · rw [if_pos (.inr (.inl h2))]
    go_enter Try.func9, Try.ntmps9
    go_wp2
    go_ret
    exact ⟨rfl, rfl⟩
  by_cases h3 : level < 0
  · rw [if_pos (.inr (.inr (.inl h3)))]
    go_enter Try.func9, Try.ntmps9
    go_wp2
    go_ret
    exact ⟨rfl, rfl⟩
  by_cases h4 : 3 < level
  · rw [if_pos (.inr (.inr (.inr h4)))]
    go_enter Try.func9, Try.ntmps9
    go_wp2
    go_ret
    exact ⟨rfl, rfl⟩
  rw [if_neg (by omega)]
  have hc : level = 0 ∨ level = 1 ∨ level = 2 ∨ level = 3 := by omega
  rcases hc with rfl | rfl | rfl | rfl
  · go_enter Try.func9, Try.ntmps9
    go_wp2
    go_ret
    exact ⟨congrArg (fun x => Ending.returned (.int .i64 x)) (and3 _ (by omega) (by omega)), rfl⟩
  · go_enter Try.func9, Try.ntmps9
    go_wp2
    go_ret
    exact ⟨congrArg (fun x => Ending.returned (.int .i64 x)) (and3 _ (by omega) (by omega)), rfl⟩
  · go_enter Try.func9, Try.ntmps9
    go_wp2
    go_ret
    exact ⟨congrArg (fun x => Ending.returned (.int .i64 x)) (and3 _ (by omega) (by omega)), rfl⟩
  · go_enter Try.func9, Try.ntmps9
    go_wp2
    go_ret
    exact ⟨congrArg (fun x => Ending.returned (.int .i64 x)) (and3 _ (by omega) (by omega)), rfl⟩
/-- A node with a word in a digit's place. -/
def withOf (l : List Int) (d x : Int) : List Int := if 0 ≤ d ∧ d ≤ 3 then l.set d.toNat x else l
theorem load_two (w : World) (ob : Obj) (y0 y1 y2 y3 : Int) : (loadVar 24 ⟨w.heap.size + 1, 0, none⟩).run Try.prog ((w.alloc ob).alloc (.cells #[.int .u64 y0, .int .u64 y1, .int .u64 y2, .int .u64 y3] 24)) = .ok (.agg #[.int .u64 y0, .int .u64 y1, .int .u64 y2, .int .u64 y3]) ((w.alloc ob).alloc (.cells #[.int .u64 y0, .int .u64 y1, .int .u64 y2, .int .u64 y3] 24)) := by
  have hb := heap_new (w.alloc ob) (.cells #[.int .u64 y0, .int .u64 y1, .int .u64 y2, .int .u64 y3] 24)
  rw [World.size_alloc] at hb
  refine load4 _ _ 0 y0 y1 y2 y3 (fun j u hu => ?_)
  rw [Nat.zero_add, Frm.cell_row _ _ _ _ _ _ hb]
  simpa [u64s] using hu
set_option maxRecDepth 100000 in
set_option maxHeartbeats 4000000 in
theorem with_any (x0 x1 x2 x3 d x : Int) (hd : I64 d) (w : World) :
    Calls Try.prog 11 #[nodeV [x0, x1, x2, x3], .int .i64 d, .int .u64 x] w fun e w' => e = .returned (nodeV (withOf [x0, x1, x2, x3] d x)) ∧ Frm.Turn [] w w' := by
  unfold withOf nodeV
  by_cases h1 : d < 0
  · rw [if_neg (by omega)]
    simp only [u64s, List.map_cons, List.map_nil]
    go_enter Try.func11, Try.ntmps11
    go_wp2
    have hld := load_two w (.cells #[.int .u64 x0, .int .u64 x1, .int .u64 x2, .int .u64 x3] 24) x0 x1 x2 x3
    exact bodyPost_ret (v := .agg #[.int .u64 x0, .int .u64 x1, .int .u64 x2, .int .u64 x3]) (by simp [results, Try.results11, asAddr, hld]) rfl ⟨rfl, ((Frm.Turn.refl [] w).alloc _).alloc _⟩
  by_cases h2 : 3 < d
  · rw [if_neg (by omega)]
    simp only [u64s, List.map_cons, List.map_nil]
    go_enter Try.func11, Try.ntmps11
    go_wp2
    have hld := load_two w (.cells #[.int .u64 x0, .int .u64 x1, .int .u64 x2, .int .u64 x3] 24) x0 x1 x2 x3
    exact bodyPost_ret (v := .agg #[.int .u64 x0, .int .u64 x1, .int .u64 x2, .int .u64 x3]) (by simp [results, Try.results11, asAddr, hld]) rfl ⟨rfl, ((Frm.Turn.refl [] w).alloc _).alloc _⟩
  rw [if_pos (by omega)]
  have hc : d = 0 ∨ d = 1 ∨ d = 2 ∨ d = 3 := by omega
  rcases hc with rfl | rfl | rfl | rfl
  · rw [show [x0, x1, x2, x3].set ((0 : Int).toNat) x = [x, x1, x2, x3] from rfl]
    simp only [u64s, List.map_cons, List.map_nil]
    go_enter Try.func11, Try.ntmps11
    go_wp2
    have hld := load_two w (.cells #[.int .u64 x, .int .u64 x1, .int .u64 x2, .int .u64 x3] 24) x x1 x2 x3
    exact bodyPost_ret (v := .agg #[.int .u64 x, .int .u64 x1, .int .u64 x2, .int .u64 x3]) (by simp [results, Try.results11, asAddr, hld]) rfl ⟨rfl, ((Frm.Turn.refl [] w).alloc _).alloc _⟩
  · rw [show [x0, x1, x2, x3].set ((1 : Int).toNat) x = [x0, x, x2, x3] from rfl]
    simp only [u64s, List.map_cons, List.map_nil]
    go_enter Try.func11, Try.ntmps11
    go_wp2
    have hld := load_two w (.cells #[.int .u64 x0, .int .u64 x, .int .u64 x2, .int .u64 x3] 24) x0 x x2 x3
    exact bodyPost_ret (v := .agg #[.int .u64 x0, .int .u64 x, .int .u64 x2, .int .u64 x3]) (by simp [results, Try.results11, asAddr, hld]) rfl ⟨rfl, ((Frm.Turn.refl [] w).alloc _).alloc _⟩
  · rw [show [x0, x1, x2, x3].set ((2 : Int).toNat) x = [x0, x1, x, x3] from rfl]
    simp only [u64s, List.map_cons, List.map_nil]
    go_enter Try.func11, Try.ntmps11
    go_wp2
    have hld := load_two w (.cells #[.int .u64 x0, .int .u64 x1, .int .u64 x, .int .u64 x3] 24) x0 x1 x x3
    exact bodyPost_ret (v := .agg #[.int .u64 x0, .int .u64 x1, .int .u64 x, .int .u64 x3]) (by simp [results, Try.results11, asAddr, hld]) rfl ⟨rfl, ((Frm.Turn.refl [] w).alloc _).alloc _⟩
  · rw [show [x0, x1, x2, x3].set ((3 : Int).toNat) x = [x0, x1, x2, x] from rfl]
    simp only [u64s, List.map_cons, List.map_nil]
    go_enter Try.func11, Try.ntmps11
    go_wp2
    have hld := load_two w (.cells #[.int .u64 x0, .int .u64 x1, .int .u64 x2, .int .u64 x] 24) x0 x1 x2 x
    exact bodyPost_ret (v := .agg #[.int .u64 x0, .int .u64 x1, .int .u64 x2, .int .u64 x]) (by simp [results, Try.results11, asAddr, hld]) rfl ⟨rfl, ((Frm.Turn.refl [] w).alloc _).alloc _⟩
/-- The greatest digit below k whose word isn't 0. -/
def greTo (l : List Int) : Nat → Int × Bool
  | 0 => (0, false)
  | k + 1 => if l.getD k 0 = 0 then greTo l k else ((k : Int), true)
def greOf (l : List Int) (most : Int) : Int × Bool := greTo l (min most 3 + 1).toNat
set_option maxRecDepth 100000 in
set_option maxHeartbeats 4000000 in
theorem great_any (x0 x1 x2 x3 most : Int) (hm : I64 most) (w : World) :
    Calls Try.prog 8 #[nodeV [x0, x1, x2, x3], .int .i64 most] w fun e w' => e = .returned (.tuple #[.int .i64 (greOf [x0, x1, x2, x3] most).1, .bool (greOf [x0, x1, x2, x3] most).2]) ∧ Frm.Turn [] w w' := by
  obtain ⟨g, HG⟩ : ∃ g, Hid (g = greOf [x0, x1, x2, x3] most) := ⟨_, Lib.hid rfl⟩
  rw [← HG.out]
  unfold nodeV
  simp only [u64s, List.map_cons, List.map_nil]
  have hT1 : Frm.Turn [] w (w.alloc (.cells #[.int .u64 x0, .int .u64 x1, .int .u64 x2, .int .u64 x3] 24)) := (Frm.Turn.refl [] w).alloc _
  have hb := heap_new w (.cells #[.int .u64 x0, .int .u64 x1, .int .u64 x2, .int .u64 x3] 24)
  go_enter Try.func8, Try.ntmps8
  go_upto_region 1 with fail
  generalize w.alloc (.cells #[.int .u64 x0, .int .u64 x1, .int .u64 x2, .int .u64 x3] 24) = W1 at hT1 hb ⊢
  generalize w.heap.size = b at hb ⊢
  obtain ⟨a0, a1, a2, a3⟩ := cells4 hb
  clear hb
  have HT := Lib.hid hT1
  clear hT1
  have hg : greTo [x0, x1, x2, x3] (min most 3 + 1).toNat = g := by rw [HG.out]; rfl
  have HGG := Lib.hid hg
  clear hg
  go_wp2
  go_loopw [6] (fun i wr => ∃ z : Int, i = .int .i64 z ∧ z ≤ 3 ∧ I64 z ∧ greTo [x0, x1, x2, x3] (z + 1).toNat = g ∧ wr = W1) (fun i _ => (intOf i + 1).toNat)
  case atStart => exact ⟨min most 3, rfl, by omega, by unfold I64 at hm ⊢; omega, HGG.out, rfl⟩
  case round =>
    obtain ⟨z, rfl, hz3, hzw, hgz, rfl⟩ := hrel
    by_cases hz : z < 0
    · have e : g = (0, false) := by rw [← hgz, show (z + 1).toNat = 0 by omega]; rfl
      subst e
      clear hgz
      go_wp2
      go_ret2
      exact ⟨rfl, HT.out⟩
    have hc : z = 0 ∨ z = 1 ∨ z = 2 ∨ z = 3 := by omega
    have HZ := Lib.hid hgz
    clear hgz
    rcases hc with rfl | rfl | rfl | rfl
    · by_cases hx : x0 = 0
      · subst hx
        go_wp2
        go_roundw
        case rel => exact ⟨0 - 1, rfl, by omega, by unfold I64; omega, by rw [← HZ.out]; exact (if_pos rfl).symm, trivial⟩
        case measure => simp [intOf]
      · have e : g = (0, true) := by rw [← HZ.out]; exact if_neg hx
        subst e
        go_wp2
        go_ret2
        exact ⟨rfl, HT.out⟩
    · by_cases hx : x1 = 0
      · subst hx
        go_wp2
        go_roundw
        case rel => exact ⟨1 - 1, rfl, by omega, by unfold I64; omega, by rw [← HZ.out]; exact (if_pos rfl).symm, trivial⟩
        case measure => simp [intOf]
      · have e : g = (1, true) := by rw [← HZ.out]; exact if_neg hx
        subst e
        go_wp2
        go_ret2
        exact ⟨rfl, HT.out⟩
    · by_cases hx : x2 = 0
      · subst hx
        go_wp2
        go_roundw
        case rel => exact ⟨2 - 1, rfl, by omega, by unfold I64; omega, by rw [← HZ.out]; exact (if_pos rfl).symm, trivial⟩
        case measure => simp [intOf]
      · have e : g = (2, true) := by rw [← HZ.out]; exact if_neg hx
        subst e
        go_wp2
        go_ret2
        exact ⟨rfl, HT.out⟩
    · by_cases hx : x3 = 0
      · subst hx
        go_wp2
        go_roundw
        case rel => exact ⟨3 - 1, rfl, by omega, by unfold I64; omega, by rw [← HZ.out]; exact (if_pos rfl).symm, trivial⟩
        case measure => simp [intOf]
      · have e : g = (3, true) := by rw [← HZ.out]; exact if_neg hx
        subst e
        go_wp2
        go_ret2
        exact ⟨rfl, HT.out⟩
end Qud
end Go.Proofs.Ytennngngdmdpnaa
