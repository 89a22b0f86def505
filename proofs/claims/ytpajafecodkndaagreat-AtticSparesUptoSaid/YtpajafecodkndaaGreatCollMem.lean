/- Those that enter and exit, in memory. -/
/- A collect in memory; its calls that touch no arena. -/
import Derived.Test.YtpajafecodkndaaGreatCountTopsWalk2
import Derived.Test.YtpajafecodkndaaGreatCollPlain
set_option linter.unusedVariables false
set_option linter.unusedSimpArgs false
namespace Go.Proofs.YtpajafecodkndaaGreat
namespace Cnt
open Go.RowKit Go.Maps Arn Pac Clm

def oBools (f : Nat → Bool) (n : Nat) : Obj := .cells (bools f n).toArray 4
variable {w W W' : World} {b kh cb ib pb n k m i : Nat} {rr qq : Nat → Nat} {c : Nat → Option Ct} {A : Ar} {C : Ct} {ohs op : Obj} {sl : Nat → Nat} {inn : Nat → Bool}
/-- The pointer of the i-th. -/
def ptrV (rr : Nat → Nat) (c : Nat → Option Ct) (i : Nat) : Value := if (c i).isSome then .pointer (some ⟨rr i, 0, none⟩) else .pointer none
theorem exX_eq {s : Nat} (hs : s < 255) : (⟨hS (sgN s), s, min (0 : Int).toNat (kN s), min (99 : Int).toNat (kN s), 18446744073709551615⟩ : Ct) = exX s := by
  have := (kN_le hs).2
  unfold exX lessM
  have e1 : min (0 : Int).toNat (kN s) = 0 := by simp
  have e2 : min (99 : Int).toNat (kN s) = kN s := by show min 99 (kN s) = kN s; omega
  rw [e1, e2]
/-- Is it done? -/
def doneO (o : Option Ct) : Bool := match o with
  | none => true
  | some C => decide (C.last ≤ C.first)
/-! ### the first loop -/
/-! ### the second loop -/
end Cnt
end Go.Proofs.YtpajafecodkndaaGreat

set_option linter.unusedVariables false
set_option linter.unusedSimpArgs false
namespace Go.Proofs.YtpajafecodkndaaGreat
namespace Col
open Go.RowKit Go.Maps Arn Pac Clm Cnt

variable {w W W' : World} {r b n k : Nat} {K : List Nat} {A : Ar} {C : Co} {g v : Value}
/-- The handle of the j-th segment, of which m were read. -/
def sv (m j : Nat) : Int := if j < m then hS j else 0
theorem sv_at {m j : Nat} (h : j < m) : sv m j = hS j := if_pos h
theorem sv_no {m j : Nat} (h : m ≤ j) : sv m j = 0 := if_neg (by omega)
theorem sv_64 {m j : Nat} (h : j < 8) : W64 (sv m j) := by
  unfold sv; split
  · exact hS_64 h
  · exact w64_zero
/-- The places found, as cells. -/
def plCells (L : List Nat) : List Value := L.flatMap fun s => [.int .u64 (hS (sgN s)), .int .i64 s]
theorem plCells_snoc (L : List Nat) (s : Nat) : plCells (L ++ [s]) = plCells L ++ [.int .u64 (hS (sgN s)), .int .i64 s] := by simp [plCells]
theorem plCells_len (L : List Nat) : (plCells L).length = L.length * 2 := by
  induction L with
  | nil => rfl
  | cons x t ih => simp only [plCells, List.flatMap_cons, List.length_append, List.length_cons, List.length_nil] at ih ⊢; omega
theorem plCells_get : ∀ (L : List Nat) (i s : Nat), L[i]? = some s → (plCells L)[i * 2]? = some (.int .u64 (hS (sgN s))) ∧ (plCells L)[i * 2 + 1]? = some (.int .i64 s) := by
  intro L
  induction L with
  | nil => intro i y h; simp at h
  | cons x t ih =>
    intro i y h
    cases i with
    | zero => simp at h; subst h; simp [plCells]
    | succ i =>
      simp at h
      have := ih i y h
      have e : (i + 1) * 2 = i * 2 + 2 := by omega
      have e2 : (i + 1) * 2 + 1 = (i * 2 + 1) + 2 := by omega
      rw [e2, e]
      simpa [plCells] using this
/-- What comes next. -/
def nxO (r ph : Nat) : Value := match ph with
  | 0 => .func (.func 145) #[.pointer (some ⟨r, 0, none⟩)] #[]
  | 1 => .func (.func 165) #[.pointer (some ⟨r, 0, none⟩)] #[]
  | _ => .nilFunc
theorem nxO_fn (r ph : Nat) : IsFn (nxO r ph) := by
  unfold nxO
  split
  · exact isFn_func _ _ _
  · exact isFn_func _ _ _
  · exact isFn_nil
def CoBody (W : World) (r b : Nat) (x : Value) (m g node : Nat) (v : Value) : Prop :=
  W.heap[r]? = some (.cells #[x, .pointer (some ⟨b, 0, none⟩), .int .u64 (sv m 0), .int .u64 (sv m 1), .int .u64 (sv m 2), .int .u64 (sv m 3), .int .u64 (sv m 4), .int .u64 (sv m 5), .int .u64 (sv m 6), .int .u64 (sv m 7), .int .i64 g, .int .i64 node, v] 218 (0, 0))
variable {x : Value} {m gg node : Nat}
theorem CoBody.cells (h : CoBody W r b x m gg node v) : W.cell? ⟨r, 0, none⟩ = some x ∧ W.cell? ⟨r, 1, none⟩ = some (.pointer (some ⟨b, 0, none⟩)) ∧ W.cell? ⟨r, 10, none⟩ = some (.int .i64 gg) ∧ W.cell? ⟨r, 11, none⟩ = some (.int .i64 node) ∧ W.cell? ⟨r, 12, none⟩ = some v := by
  unfold CoBody at h
  refine ⟨?_, ?_, ?_, ?_, ?_⟩ <;> simp [World.cell?, h]
theorem CoBody.seg (h : CoBody W r b x m gg node v) {j : Nat} (hj : j < 8) : W.cell? ⟨r, 2 + j, none⟩ = some (.int .u64 (sv m j)) := by
  unfold CoBody at h
  have hj : j = 0 ∨ j = 1 ∨ j = 2 ∨ j = 3 ∨ j = 4 ∨ j = 5 ∨ j = 6 ∨ j = 7 := by omega
  rcases hj with rfl | rfl | rfl | rfl | rfl | rfl | rfl | rfl <;> simp [World.cell?, h]
theorem CoBody.thaw (h : CoBody W r b x m gg node v) (i : Nat) : W.frozen? ⟨r, i, none⟩ = false := Frm.frozen_row W r i _ _ h
theorem CoBody.turn {F : List Nat} (h : CoBody W r b x m gg node v) (ht : Frm.Turn F W W') (hn : r ∉ F) : CoBody W' r b x m gg node v := ht.keep h hn
theorem CoBody.lt (h : CoBody W r b x m gg node v) : r < W.heap.size := (Array.getElem?_eq_some_iff.1 h).1
theorem CoBody.set0 (h : CoBody W r b x m gg node v) (y : Value) : CoBody (W.setCell ⟨r, 0, none⟩ y) r b y m gg node v := by
  unfold CoBody at h ⊢; rw [Frm.heap_set _ _ _ _ _ _ _ h]; simp
theorem CoBody.setG (h : CoBody W r b x m gg node v) (y : Nat) : CoBody (W.setCell ⟨r, 10, none⟩ (.int .i64 y)) r b x m y node v := by
  unfold CoBody at h ⊢; rw [Frm.heap_set _ _ _ _ _ _ _ h]; simp
theorem CoBody.setN (h : CoBody W r b x m gg node v) (y : Nat) : CoBody (W.setCell ⟨r, 11, none⟩ (.int .i64 y)) r b x m gg y v := by
  unfold CoBody at h ⊢; rw [Frm.heap_set _ _ _ _ _ _ _ h]; simp
theorem CoBody.setP (h : CoBody W r b x m gg node v) (y : Value) : CoBody (W.setCell ⟨r, 12, none⟩ y) r b x m gg node y := by
  unfold CoBody at h ⊢; rw [Frm.heap_set _ _ _ _ _ _ _ h]; simp
theorem CoBody.setS (h : CoBody W r b x gg gg node v) (hg : gg < 8) : CoBody (W.setCell ⟨r, 2 + gg, none⟩ (.int .u64 (hS gg))) r b x (gg + 1) gg node v := by
  unfold CoBody at h ⊢; rw [Frm.heap_set _ _ _ _ _ _ _ h]
  have hj : gg = 0 ∨ gg = 1 ∨ gg = 2 ∨ gg = 3 ∨ gg = 4 ∨ gg = 5 ∨ gg = 6 ∨ gg = 7 := by omega
  rcases hj with rfl | rfl | rfl | rfl | rfl | rfl | rfl | rfl <;> simp [sv]

/-! ### nodes -/
set_option maxRecDepth 100000 in
theorem isRight_any (y : Nat) (w : World) (h0 : 1 ≤ y) (h1 : y ≤ 1000) :
    Calls Tryz.prog 190 #[.int .i64 y] w fun e w' => e = .returned (.bool (decide (y ≠ 1 ∧ y % 2 = 1))) ∧ w = w' := by
  by_cases e : y = 1
  · subst e
    rw [show decide ((1 : Nat) ≠ 1 ∧ 1 % 2 = 1) = false from rfl]
    have e1 : ((1 : Nat) : Int) = 1 := rfl
    rw [e1]
    go_enter Tryz.func190, Tryz.ntmps190
    go_wp2
    go_ret
    exact ⟨rfl, rfl⟩
  · have n1 : ((y : Int) != 1) = true := by simpa using (by omega : ¬ (y : Int) = 1)
    have n1' : ¬ (y : Int) = 1 := by omega
    have m0 : (0 : Int) ≤ (y : Int) := by omega
    have m1 : (y : Int) ≤ 1000 := by omega
    obtain ⟨bb, hb⟩ : ∃ bb, bb = decide (y ≠ 1 ∧ y % 2 = 1) := ⟨_, rfl⟩
    have n2 : ((y : Int) % 2 == 1) = bb := by
      rw [hb]
      by_cases e2 : y % 2 = 1
      · have : (y : Int) % 2 = 1 := by omega
        simp [this, e2, e]
      · have : ¬ (y : Int) % 2 = 1 := by omega
        simp [this, e2]
    have n3 : ((y : Int).tmod 2 == 1) = bb := by rw [Int.tmod_eq_emod_of_nonneg (by omega)]; exact n2
    rw [← hb]
    clear hb e h0 h1
    generalize (y : Int) = z at n1 n1' m0 m1 n2 n3 ⊢
    go_enter Tryz.func190, Tryz.ntmps190
    go_wp2
    go_ret
    exact ⟨rfl, rfl⟩
set_option maxRecDepth 100000 in
theorem left_any (y : Nat) (w : World) (h1 : y ≤ 1000) :
    Calls Tryz.prog 177 #[.int .i64 y] w fun e w' => e = .returned (.int .i64 ((2 * y : Nat) : Int)) ∧ w = w' := by
  have m0 : (0 : Int) ≤ (y : Int) := by omega
  have m1 : (y : Int) ≤ 1000 := by omega
  rw [show ((2 * y : Nat) : Int) = 2 * (y : Int) by omega]
  generalize (y : Int) = z at m0 m1 ⊢
  go_enter Tryz.func177, Tryz.ntmps177
  go_wp2
  go_ret
  exact ⟨rfl, rfl⟩
set_option maxRecDepth 100000 in
theorem behind_any (y : Nat) (w : World) (h0 : 1 ≤ y) (h1 : y < 256) :
    Calls Tryz.prog 175 #[.int .i64 y] w fun e w' => e = .returned (.int .i64 (behN y : Int)) ∧ w = w' := by
  have HR := Lib.hid (fun (z : Nat) (h0 : 1 ≤ z) (h1 : z ≤ 1000) (W : World) => isRight_any z W h0 h1)
  have H0 : Hid (1 ≤ y ∧ y < 256) := Lib.hid ⟨h0, h1⟩
  clear h0 h1
  go_enter Tryz.func175, Tryz.ntmps175
  go_wp2_with fail
  go_loopw [0] (fun i wr => ∃ k z : Nat, i = .int .i64 z ∧ 1 ≤ z ∧ z < 256 ∧ z < 2 ^ k ∧ beh (k + 1) z = behN y ∧ w = wr) (fun i _ => (intOf i).toNat)
  case atStart => exact ⟨8, y, rfl, H0.out.1, H0.out.2, by have := H0.out.2; omega, rfl, rfl⟩
  case round =>
    obtain ⟨k, z, rfl, z1, z2, z3, z4, rfl⟩ := hrel
    have HZ := Lib.hid (And.intro z1 (And.intro z2 (And.intro z3 z4)))
    have m0 : (1 : Int) ≤ (z : Int) := by omega
    have m1 : (z : Int) ≤ 1000 := by omega
    have HC := Lib.hid (HR.out z z1 (by omega))
    by_cases hd : z ≠ 1 ∧ z % 2 = 1
    · have e : decide (z ≠ 1 ∧ z % 2 = 1) = true := decide_eq_true hd
      rw [e] at HC
      have HD := Lib.hid hd
      obtain ⟨u, hu⟩ : ∃ u : Nat, u = z / 2 := ⟨_, rfl⟩
      have q1 : (z : Int) / 2 = (u : Int) := by omega
      have q2 : (z : Int).tdiv 2 = (u : Int) := by rw [Int.tdiv_eq_ediv_of_nonneg (by omega)]; exact q1
      have HU := Lib.hid hu
      clear hd z1 z2 z3 z4 e hu
      go_wp2_with (go_at_call 190; (with_reducible refine (HC.out _).mono ?_); rintro e w1 ⟨rfl, rfl⟩)
      obtain ⟨z1, z2, z3, z4⟩ := HZ.out
      have hd := HD.out
      have hu := HU.out
      obtain ⟨k', rfl⟩ : ∃ k', k = k' + 1 := by
        cases k with
        | zero => omega
        | succ k' => exact ⟨k', rfl⟩
      refine ⟨⟨k', u, by simp, by omega, by omega, by rw [Nat.pow_succ] at z3; omega, ?_, trivial⟩, ?_⟩
      · rw [← z4, hu]
        show _ = if z ≠ 1 ∧ z % 2 = 1 then beh (k' + 1) (z / 2) else _
        rw [if_pos hd]
      · simp [intOf]; omega
    · have e : decide (z ≠ 1 ∧ z % 2 = 1) = false := decide_eq_false hd
      rw [e] at HC
      have e4 : behN y = if z = 1 then 0 else z + 1 := by
        rw [← z4]
        show (if z ≠ 1 ∧ z % 2 = 1 then _ else if z = 1 then 0 else z + 1) = _
        rw [if_neg hd]
      have HE := Lib.hid e4
      by_cases h1 : z = 1
      · subst h1
        clear hd z1 z2 z3 z4 e e4 m0 m1
        have e1 : ((1 : Nat) : Int) = 1 := rfl
        rw [e1] at HC ⊢
        go_wp2_with (go_at_call 190; (with_reducible refine (HC.out _).mono ?_); rintro e w1 ⟨rfl, rfl⟩)
        go_ret
        rw [HE.out]
        exact ⟨rfl, rfl⟩
      · have n1 : ((z : Int) == 1) = false := by simpa using (by omega : ¬ (z : Int) = 1)
        have e5 : (behN y : Int) = (z : Int) + 1 := by rw [e4, if_neg h1]; omega
        have HE5 := Lib.hid e5
        clear hd z1 z2 z3 z4 e e4 h1 e5
        go_wp2_with (go_at_call 190; (with_reducible refine (HC.out _).mono ?_); rintro e w1 ⟨rfl, rfl⟩)
        go_ret
        rw [HE5.out]
        exact ⟨rfl, rfl⟩
set_option maxRecDepth 100000 in
/-- The slot of a node. -/
theorem Slot_n (g y : Nat) (w : World) (hg : g < 8) (h1 : 1 ≤ y) (h2 : y < 2 * 2 ^ g) :
    Calls Tryz.prog 176 #[.int .i64 g, .int .i64 y] w fun e w' => e = .returned (.tuple #[.int .i64 (if y < 2 ^ g then 0 else (y : Int) - 1), .bool (!decide (y < 2 ^ g))]) ∧ w = w' := by
  have H1 := Lib.hid (fun W => slots_n g W hg)
  have H2 := Lib.hid (fun W => counters_n g W hg)
  obtain ⟨r0, r1⟩ := pow_le hg
  have q2 : (1 : Int) ≤ (y : Int) := by omega
  have q3 : ¬ 2 * ((2 ^ g : Nat) : Int) ≤ (y : Int) := by omega
  have q4 : (y : Int) ≤ 1000 := by omega
  have q5 : ((2 ^ g : Nat) : Int) ≤ 128 := by omega
  by_cases hl : y < 2 ^ g
  · rw [if_pos hl, decide_eq_true hl]
    have q6 : (y : Int) < ((2 ^ g : Nat) : Int) := by omega
    clear hl r0 r1 h1 h2
    generalize ((2 ^ g : Nat) : Int) = p at H1 H2 q3 q5 q6 ⊢
    generalize (y : Int) = z at q2 q3 q4 q6 ⊢
    generalize (g : Int) = gi at H1 H2 ⊢
    go_enter Tryz.func176, Tryz.ntmps176
    go_wp2_with (first
      | (go_at_call 168; (with_reducible refine (H1.out _).mono ?_); rintro e w1 ⟨rfl, rfl⟩)
      | (go_at_call 191; (with_reducible refine (H2.out _).mono ?_); rintro e w1 ⟨rfl, rfl⟩))
    go_ret2
    exact ⟨rfl, rfl⟩
  · rw [if_neg hl, decide_eq_false hl]
    have q6 : ¬ (y : Int) < ((2 ^ g : Nat) : Int) := by omega
    clear hl r0 r1 h1 h2
    generalize ((2 ^ g : Nat) : Int) = p at H1 H2 q3 q5 q6 ⊢
    generalize (y : Int) = z at q2 q3 q4 q6 ⊢
    generalize (g : Int) = gi at H1 H2 ⊢
    go_enter Tryz.func176, Tryz.ntmps176
    go_wp2_with (first
      | (go_at_call 168; (with_reducible refine (H1.out _).mono ?_); rintro e w1 ⟨rfl, rfl⟩)
      | (go_at_call 191; (with_reducible refine (H2.out _).mono ?_); rintro e w1 ⟨rfl, rfl⟩))
    go_ret2
    exact ⟨rfl, rfl⟩

/-! ### on -/
theorem setO_any (h : CoBody W r b x m gg node v) (y : Value) (hy : IsFn y) :
    Calls Tryz.prog 66 #[.pointer (some ⟨r, 0, none⟩), y] W fun e w' => e = .returned (.tuple #[]) ∧ CoBody w' r b y m gg node v ∧ Frm.Turn [r] W w' := by
  refine (to_any r y x W hy h.cells.1 (h.thaw 0)).mono ?_
  rintro e w' ⟨he, rfl⟩
  exact ⟨he, h.set0 y, turn_set W r 0 y⟩
theorem endO_any (h : CoBody W r b x m gg node v) :
    Calls Tryz.prog 125 #[.pointer (some ⟨r, 0, none⟩)] W fun e w' => e = .returned (.tuple #[]) ∧ CoBody w' r b .nilFunc m gg node v ∧ Frm.Turn [r] W w' := by
  refine (end_any r x W h.cells.1 (h.thaw 0)).mono ?_
  rintro e w' ⟨he, rfl⟩
  exact ⟨he, h.set0 _, turn_set W r 0 _⟩
set_option maxRecDepth 100000 in
theorem turnTo_any (h : CoBody W r b x m gg node v) (y : Nat) (hy : y ≤ 8) :
    Calls Tryz.prog 122 #[.pointer (some ⟨r, 0, none⟩), .int .i64 y] W fun e w' => e = .returned (.tuple #[]) ∧ CoBody w' r b (nxO r (if y < 8 then 0 else 2)) m (if y < 8 then y else gg) node v ∧ Frm.Turn [r] W w' := by
  by_cases h8 : y < 8
  · rw [if_pos h8, if_pos h8]
    have q0 : ¬ 8 ≤ (y : Int) := by omega
    obtain ⟨c0, c1, c2, c3, c4⟩ := h.cells
    have f2 := h.thaw 10
    have HB := Lib.hid (h.setG y)
    have HT := Lib.hid (turn_set W r 10 (.int .i64 y))
    have HE : Hid (Calls Tryz.prog 66 #[.pointer (some ⟨r, 0, none⟩), .func (.func 145) #[.pointer (some ⟨r, 0, none⟩)] #[]] (W.setCell ⟨r, 10, none⟩ (.int .i64 y)) fun e w' => e = .returned (.tuple #[]) ∧ CoBody w' r b (nxO r 0) m y node v ∧ Frm.Turn [r] (W.setCell ⟨r, 10, none⟩ (.int .i64 y)) w') := Lib.hid (setO_any HB.out (nxO r 0) (nxO_fn r 0))
    have hmk := hmf
    clear h h8 hy
    go_enter Tryz.func122, Tryz.ntmps122
    go_wp2_with (go_at_call 66; (with_reducible refine (HE.out).mono ?_); rintro e w1 ⟨rfl, hb, hT⟩)
    go_end0
    exact ⟨rfl, hb, HT.out.trans hT (fun k hk => .inl hk)⟩
  · obtain rfl : y = 8 := by omega
    rw [if_neg h8, if_neg h8]
    have HE := Lib.hid (endO_any h)
    clear h h8 hy
    have e8 : ((8 : Nat) : Int) = 8 := rfl
    rw [e8]
    go_enter Tryz.func122, Tryz.ntmps122
    go_wp2_with (go_at_call 125; (with_reducible refine (HE.out).mono ?_); rintro e w1 ⟨rfl, hb, hT⟩)
    exact bodyPost_ret (results_none rfl _ _ _) rfl ⟨rfl, hb, hT⟩
/-- In memory: the struct, and the row of what was found. -/
structure CoAt (W : World) (base r b : Nat) (C : Co) (v : Value) : Prop where
  body : CoBody W r b (nxO r C.ph) C.m C.g C.node v
  row : W.ownsRow base 46 2 v C.L.length (plCells C.L)
  vr : ∀ q, v.ownBlock = some q → q ≠ r
/-- .. but for what comes next. -/
structure CoMid (W : World) (base r b : Nat) (C : Co) (v : Value) : Prop where
  body : ∃ x, CoBody W r b x C.m C.g C.node v
  row : W.ownsRow base 46 2 v C.L.length (plCells C.L)
  vr : ∀ q, v.ownBlock = some q → q ≠ r
variable {base : Nat}
theorem CoAt.mid (h : CoAt W base r b C v) : CoMid W base r b C v := ⟨⟨_, h.body⟩, h.row, h.vr⟩
theorem CoAt.turn {F : List Nat} (h : CoAt W base r b C v) (ht : Frm.Turn F W W') (h1 : r ∉ F) (h2 : ∀ q, v.ownBlock = some q → q ∉ F) : CoAt W' base r b C v := ⟨h.body.turn ht h1, Frm.owns_turn h.row ht h2, h.vr⟩
theorem CoMid.turn {F : List Nat} (h : CoMid W base r b C v) (ht : Frm.Turn F W W') (h1 : r ∉ F) (h2 : ∀ q, v.ownBlock = some q → q ∉ F) : CoMid W' base r b C v := ⟨⟨_, h.body.choose_spec.turn ht h1⟩, Frm.owns_turn h.row ht h2, h.vr⟩
set_option maxRecDepth 100000 in
theorem goTo_any (h : CoMid W base r b C v) (y : Nat) (hy : y ≤ 1000) (hg : C.g < 8) :
    Calls Tryz.prog 174 #[.pointer (some ⟨r, 0, none⟩), .int .i64 y] W fun e w' => e = .returned (.tuple #[]) ∧ CoAt w' base r b (C.go y) v ∧ Frm.Turn [r] W w' := by
  obtain ⟨x, hb⟩ := h.body
  obtain ⟨c0, c1, c2, c3, c4⟩ := hb.cells
  have HRW := Lib.hid (fun W' (hT : Frm.Turn [r] W W') => Frm.owns_turn h.row hT (fun q hq => by simpa using h.vr q hq))
  have HV := Lib.hid h.vr
  by_cases h0 : y = 0
  · subst h0
    have HT := Lib.hid (turnTo_any hb (C.g + 1) (by omega))
    have e1 : ((C.g + 1 : Nat) : Int) = (C.g : Int) + 1 := by omega
    rw [e1] at HT
    have e0 : ((0 : Nat) : Int) = 0 := rfl
    rw [e0]
    have b0 : (0 : Int) ≤ (C.g : Int) := by omega
    have b1 : (C.g : Int) < 8 := by omega
    clear h hb hy hg e1
    go_enter Tryz.func174, Tryz.ntmps174
    go_wp2_with (go_at_call 122; (with_reducible refine (HT.out).mono ?_); rintro e w1 ⟨rfl, hb, hT⟩)
    refine bodyPost_ret (results_none rfl _ _ _) rfl ⟨rfl, ?_, hT⟩
    have hr := HRW.out w1 hT
    unfold Co.go
    rw [if_pos rfl]
    by_cases h8 : C.g + 1 < 8
    · rw [if_pos h8, if_pos h8] at hb
      rw [if_pos h8]
      exact ⟨hb, hr, HV.out⟩
    · rw [if_neg h8, if_neg h8] at hb
      rw [if_neg h8]
      exact ⟨hb, hr, HV.out⟩
  · have n0 : ((y : Int) == 0) = false := by simpa using (by omega : ¬ (y : Int) = 0)
    have f3 := hb.thaw 11
    have HB := Lib.hid (hb.setN y)
    have HT := Lib.hid (turn_set W r 11 (.int .i64 y))
    have HE : Hid (Calls Tryz.prog 66 #[.pointer (some ⟨r, 0, none⟩), .func (.func 165) #[.pointer (some ⟨r, 0, none⟩)] #[]] (W.setCell ⟨r, 11, none⟩ (.int .i64 y)) fun e w' => e = .returned (.tuple #[]) ∧ CoBody w' r b (nxO r 1) C.m C.g y v ∧ Frm.Turn [r] (W.setCell ⟨r, 11, none⟩ (.int .i64 y)) w') := Lib.hid (setO_any HB.out (nxO r 1) (nxO_fn r 1))
    have hmk := hmf
    have H0 := Lib.hid h0
    clear h hb h0 hy hg
    go_enter Tryz.func174, Tryz.ntmps174
    go_wp2_with (go_at_call 66; (with_reducible refine (HE.out).mono ?_); rintro e w1 ⟨rfl, hb, hT⟩)
    go_end0
    have hT2 := HT.out.trans hT (fun k hk => .inl hk)
    refine ⟨rfl, ?_, hT2⟩
    unfold Co.go
    rw [if_neg H0.out]
    exact ⟨hb, HRW.out w1 hT2, HV.out⟩
end Col
end Go.Proofs.YtpajafecodkndaaGreat
