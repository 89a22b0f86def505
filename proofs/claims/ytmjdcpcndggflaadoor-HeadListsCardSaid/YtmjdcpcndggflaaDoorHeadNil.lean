/- Entries that are laid one behind the other: what the arena has, as a chain. -/
/- HeadChains: entries that are laid one behind the other are listed in their order. -/
/- The document's heads read, entries read. Made by tools/head-rread.py. -/
/- The document's entries read; what Read and ReadEntry, the package's and the document's, tell of any words. -/
/- The document's List: entries behind a cursor, and their handles. -/
/- List and Handles of no arena; of any arena, in one form; tallies held against themselves. -/
import Derived.Test.YtmjdcpcndggflaaDoorHeadList
import Derived.Test.YtmjdcpcndggflaaDoorHeadRefs
import Derived.Test.YtmjdcpcndggflaaDoorHeadSame
import Derived.Test.YtmjdcpcndggflaaDoorHeadFirst
import Derived.Test.YtmjdcpcndggflaaDoorLeastAppend
import Derived.Test.YtmjdcpcndggflaaDoorHeadRead
import Derived.BigRegion
import Derived.Laws.Tables
import Derived.StillTailTactics
import Derived.Test.YtmjdcpcndggflaaDoorArenaRefAt
import Derived.Laws.StructEq
set_option linter.unusedVariables false
set_option linter.unusedSimpArgs false
namespace Go.Proofs.YtmjdcpcndggflaaDoor
namespace Hed
open Go.RowKit Go.Maps Arn

/-- The entries from a handle on, each with its own handle. -/
def Chain (f : Int → Option Ent) : Int → List (Int × Ent) → Prop
  | h, [] => h = 0
  | h, (k, e) :: t => h = k ∧ k ≠ 0 ∧ f k = some e ∧ Chain f e.2.2 t
theorem chain_of {f : Int → Option Ent} : ∀ {l : List (Int × Ent)} {n : Nat} {h : Int}, Chain f h l → l.length ≤ n → chainF f n h = some l := by
  intro l
  induction l with
  | nil => intro n h hc _; obtain rfl : h = 0 := hc; exact chain_nought f n
  | cons x t ih =>
    intro n h hc hl
    obtain ⟨k, e⟩ := x
    obtain ⟨rfl, h0, hf, ht⟩ := hc
    cases n with
    | zero => simp at hl
    | succ n => rw [chain_step h0 hf, ih ht (by simp at hl; omega)]; rfl
theorem Chain.mono {f g : Int → Option Ent} (hg : ∀ k e, f k = some e → g k = some e) : ∀ {l : List (Int × Ent)} {h : Int}, Chain f h l → Chain g h l := by
  intro l
  induction l with
  | nil => intro h hc; exact hc
  | cons x t ih =>
    intro h hc
    obtain ⟨k, e⟩ := x
    obtain ⟨rfl, h0, hf, ht⟩ := hc
    exact ⟨rfl, h0, hg _ _ hf, ih ht⟩
/-- An arena with m entries, laid one behind the other. -/
structure Chd (A : Ar) (m : Nat) (next : Int) (pre : List (Int × Ent)) : Prop where
  ok : A.Ok
  cap : A.cap = 60000
  births : A.births = m
  us : used A.L = 3 * m
  len : pre.length = m
  ch : Chain (entsOf A.L) next pre
  n64 : W64 next
  right : linkB next = true
  h64 : ∀ x, x ∈ pre → W64 x.1
theorem Chd.zero : Chd (Ar.new 60000) 0 0 [] :=
  ⟨new_ok (Nat.le_refl _), rfl, rfl, rfl, rfl, rfl, ⟨by omega, by omega⟩, rfl, by simp⟩
theorem Chd.lay {A : Ar} {m : Nat} {next s n : Int} {pre : List (Int × Ent)} (h : Chd A m next pre) (hm : m < 200) (hn : W64 n) (hb : entB s n next = true) :
    (A.lay [s, n, next]).2 = (layH A, 0) ∧ Chd (A.lay [s, n, next]).1 (m + 1) (layH A) ((layH A, (s, n, next)) :: pre) := by
  obtain ⟨hno, s0, s1, hl⟩ := entB_parts hb
  have hu : used A.L + ([s, n, next] : List Int).length ≤ A.cap := by rw [h.cap, h.us]; simp; omega
  have hw : ∀ v, v ∈ ([s, n, next] : List Int) → W64 v := by
    intro v hv
    simp at hv
    rcases hv with rfl | rfl | rfl
    · exact ⟨by omega, by omega⟩
    · exact hn
    · exact h.n64
  have hok := lay_ok h.ok (ws := [s, n, next]) (by simp) (by simp) hu (by rw [h.births]; omega) hw
  have he := lay_eq (A := A) (ws := [s, n, next]) (by simp) (by simp) hu
  have hL : (A.lay [s, n, next]).1.L = A.L.take (lead 0 A.L) ++ ⟨layH A, [s, n, next]⟩ :: A.L.drop (lead 0 A.L) := by rw [he]
  have hmem : ∀ y, y ∈ (A.lay [s, n, next]).1.L ↔ y = ⟨layH A, [s, n, next]⟩ ∨ y ∈ A.L := fun y => by rw [hL]; exact mem_mid
  have hu' := fun y z hy hz e => hok.h_inj (x := y) (y := z) hy hz e
  have hx : (⟨layH A, [s, n, next]⟩ : Blk) ∈ (A.lay [s, n, next]).1.L := (hmem _).2 (.inl rfl)
  have hws : IntKind.i64.wrap s = s := by rw [wrap_i64 s0 (by omega), if_pos (by omega)]
  have hr : readE [s, n, next] = some (s, n, next) := by rw [readE_three, hws, hb]; rfl
  have hnew : entsOf (A.lay [s, n, next]).1.L (layH A) = some (s, n, next) := by
    have := entsOf_mem hx hu'
    rw [hr] at this
    exact this
  have hold : ∀ k e, entsOf A.L k = some e → entsOf (A.lay [s, n, next]).1.L k = some e := fun k e hk => by
    obtain ⟨x, hx1, rfl, hx3⟩ := entsOf_some hk
    have := entsOf_mem ((hmem x).2 (.inr hx1)) hu'
    rw [this, hx3]
  obtain ⟨q1, q2, q3⟩ := hok.hnd _ hx
  have hbi : (A.lay [s, n, next]).1.births = m + 1 := by rw [he]; show A.births + 1 = _; rw [h.births]
  rw [hbi] at q3
  have q1' : 1 ≤ layH A % 65536 := q1
  have q2' : 65536 ≤ layH A := q2
  have q3' : layH A / 65536 ≤ ((m + 1 : Nat) : Int) := q3
  have h64 : W64 (layH A) := ⟨by omega, by omega⟩
  refine ⟨by rw [he], hok, by rw [he]; exact h.cap, hbi, ?_, by simp [h.len], ⟨rfl, by omega, hnew, h.ch.mono hold⟩, h64, ?_, ?_⟩
  · rw [hL, used_mid, h.us]
    simp
    omega
  · unfold linkB Fld.rightB Fld.hOk
    simp
    omega
  · intro x hx
    rcases List.mem_cons.1 hx with rfl | hx
    · exact h64
    · exact h.h64 x hx
end Hed
end Go.Proofs.YtmjdcpcndggflaaDoor

set_option linter.unusedVariables false
set_option linter.unusedSimpArgs false
namespace Go.Proofs.YtmjdcpcndggflaaDoor
namespace Hed
open Go.RowKit Go.Maps Arn

/-- A list of entries in memory. -/
def EntsAt (w : World) (a0 : Option Addr) (E : List Ent) : Prop :=
  0 < E.length → ∃ g o, a0 = some ⟨g, o, none⟩ ∧ ∀ j s n x, E[j]? = some (s, n, x) → w.cell? ⟨g, o + j * 3, none⟩ = some (.int .i64 s) ∧ w.cell? ⟨g, o + j * 3 + 1, none⟩ = some (.int .u64 n) ∧ w.cell? ⟨g, o + j * 3 + 2, none⟩ = some (.int .u64 x)
theorem EntsAt.step {w w' : World} {a0 : Option Addr} {E : List Ent} (h : EntsAt w a0 E) (hT : Frm.Turn [] w w') : EntsAt w' a0 E := fun hp => by
  obtain ⟨g, o, e, h1⟩ := h hp
  exact ⟨g, o, e, fun j s n x hj => by
    obtain ⟨p, q, r⟩ := h1 j s n x hj
    exact ⟨hT.cell p (by simp), hT.cell q (by simp), hT.cell r (by simp)⟩⟩
theorem sin_from {w W wc : World} {b n : Nat} {M : Mem} {A : Ar} (h : Sin W b M A n wc) (hT : Frm.Turn [] w W) : Sin w b M A n wc :=
  ⟨h.at_, fun k hk => Nat.le_trans hT.size (h.new k hk), hT.trans h.turn (by simp), h.low, h.born⟩
/-- The laws' loop over the entries, the last one first. -/
structure ChS (w : World) (b : Nat) (E : List Ent) (i m : Nat) (A : Ar) (M : Mem) (next : Int) (pre : List (Int × Ent)) (hv : Value) (W : World) : Prop where
  sin : Sin w b M A m W
  chd : Chd A m next pre
  row : W.ownsRow w.heap.size 22 1 hv m (u64s (hands pre))
  far : ∀ k, hv.ownBlock = some k → k ∉ M.foot b
  sum : i + m = E.length
  fits : ∀ j e, E[i + j]? = some e → ∃ h y, pre[j]? = some (h, (e.1, e.2.1, y))
theorem ChS.start {w W : World} {b : Nat} {M : Mem} {E : List Ent} (h : Sin w b M (Ar.new 60000) 0 W) : ChS w b E E.length 0 (Ar.new 60000) M 0 [] (.slice none 0 0) W :=
  ⟨h, Chd.zero, World.ownsRow_nil _ _ _ _, by simp [Value.ownBlock], by omega, fun j e he => by rw [List.getElem?_eq_none (by omega)] at he; cases he⟩
theorem own_one (W : World) (base : Nat) (x : Value) (t : TypeId) (hb : base ≤ W.heap.size) : (W.alloc (.cells #[x] t)).ownsRow base t 1 (.slice (some ⟨W.heap.size, 0, none⟩) 1 1) 1 [x] :=
  ⟨rfl, .inr ⟨W.heap.size, 1, #[x], rfl, hb, heap_new W _, Nat.le_refl _, by unfold maxLen; omega, rfl, rfl⟩⟩
theorem ChS.row5 {w W0 w4 w5 : World} {b i m : Nat} {E : List Ent} {A A' : Ar} {M : Mem} {next : Int} {pre : List (Int × Ent)} {hv : Value} {o : Obj} (S : ChS w b E (i + 1) m A M next pre hv W0) (h4 : Frm.Turn [] W0 w4) (h5 : After w b M A' (m + 1) w4 w5) :
    (w5.alloc o).ownsRow w.heap.size 22 1 hv m (u64s (hands pre)) := by
  obtain ⟨M', hs, hT, _⟩ := h5
  exact Frm.owns_turn (Frm.owns_turn (Frm.owns_turn S.row h4 (by simp)) hT S.far) ((Frm.Turn.refl [] w5).alloc o) (by simp)
theorem ChS.more {w W0 w4 w5 w6 : World} {b i m : Nat} {E : List Ent} {A : Ar} {M : Mem} {next s n x : Int} {pre : List (Int × Ent)} {hv v' : Value} {o : Obj} (S : ChS w b E (i + 1) m A M next pre hv W0) (hl : E.length ≤ 200) (he : E[i]? = some (s, n, x)) (hn : W64 n) (hb : entB s n next = true)
    (h4 : Frm.Turn [] W0 w4) (h5 : After w b M (A.lay [s, n, next]).1 (m + 1) w4 w5)
    (ho : w6.ownsRow w.heap.size 22 1 v' (1 + m) ([.int .u64 (layH A)] ++ u64s (hands pre))) (hg : (w5.alloc o).grownBy w6 (some w5.heap.size)) (hd : v'.ownBlock = some w5.heap.size ∨ v'.ownBlock = some (w5.alloc o).heap.size) :
    ∃ M', ChS w b E i (m + 1) (A.lay [s, n, next]).1 M' (layH A) ((layH A, (s, n, next)) :: pre) v' w6 := by
  obtain ⟨M', hs, hT, hf⟩ := h5
  have hsum := S.sum
  have hA := (S.chd.lay (by omega) hn hb).2
  have h6 : Frm.Turn [w5.heap.size] w5 w6 := (((Frm.Turn.refl [] w5).alloc o).mono (by simp)).trans (Frm.Turn.of_grown hg) (fun k hk => by simp at hk; exact .inl (by simp [hk]))
  have hlt := fun k hk => hs.lt (k := k) hk
  have hwt := hs.turn.size
  refine ⟨M', hs.apart h6 (fun k hk hk' => ?_) (fun k hk => ?_), hA, ?_, fun k hk hk' => ?_, by omega, fun j e he' => ?_⟩
  · simp at hk'; have := hlt k hk; omega
  · simp at hk; omega
  · have e1 : m + 1 = 1 + m := by omega
    rw [e1]
    exact ho
  · have := hlt k hk'
    rcases hd with hd | hd
    · rw [hd] at hk; cases hk; omega
    · rw [hd, World.size_alloc] at hk; cases hk; omega
  · cases j with
    | zero =>
      have he2 : E[i]? = some e := he'
      rw [he] at he2
      cases he2
      exact ⟨_, _, rfl⟩
    | succ j =>
      obtain ⟨h, y, h1⟩ := S.fits j e (by rw [show i + 1 + j = i + (j + 1) by omega]; exact he')
      exact ⟨h, y, by simpa using h1⟩
theorem words_of_row {W : World} {base n : Nat} {v : Value} {l : List Int} (h : W.ownsRow base 22 1 v n (u64s l)) : WordsAt W v l := by
  have hl : l.length = n := by have := h.1; simpa [u64s] using this
  have h0 := h
  rcases h.2 with ⟨rfl, e⟩ | ⟨g, c, cur, rfl, _⟩
  · exact .inl ⟨rfl, List.length_eq_zero_iff.1 (by omega)⟩
  · exact .inr ⟨⟨g, 0, none⟩, c, by rw [hl], fun j u hu => World.ownsRow.cells h0 rfl j u hu⟩
/-- What List and Handles tell of a chain. -/
theorem chain_list {w W : World} {b n : Nat} {M : Mem} {A : Ar} {m : Nat} {next : Int} {pre : List (Int × Ent)} (h : Sin w b M A n W) (hk : Ops.Kn W) (hc : Chd A m next pre) (hm : m ≤ 1000) :
    Calls Tryd.prog 20 #[.pointer (some ⟨b, 0, none⟩), .int .u64 next] W fun e w' => ∃ v, e = .returned (.tuple #[v, .bool true]) ∧ w'.ownsRow W.heap.size 26 3 v m (entCells pre) ∧ Frm.Turn [] W w' := by
  refine (List_of _ next W _ (follow_any h.at_ hk next hc.n64)).mono ?_
  rw [chain_of hc.ch (by rw [hc.len]; exact hm)]
  rintro e w' (⟨h1, _⟩ | ⟨p, v, h1, rfl, h2, h3⟩)
  · cases h1
  · cases h1
    rw [hc.len] at h2
    exact ⟨v, rfl, h2, h3⟩
theorem chain_hands {w W : World} {b n : Nat} {M : Mem} {A : Ar} {m : Nat} {next : Int} {pre : List (Int × Ent)} (h : Sin w b M A n W) (hk : Ops.Kn W) (hc : Chd A m next pre) (hm : m ≤ 1000) :
    Calls Tryd.prog 21 #[.pointer (some ⟨b, 0, none⟩), .int .u64 next] W fun e w' => ∃ v, e = .returned (.tuple #[v, .bool true]) ∧ w'.ownsRow W.heap.size 22 1 v m (u64s (hands pre)) ∧ Frm.Turn [] W w' := by
  refine (Handles_of _ next W _ (follow_any h.at_ hk next hc.n64)).mono ?_
  rw [chain_of hc.ch (by rw [hc.len]; exact hm)]
  rintro e w' (⟨h1, _⟩ | ⟨p, v, h1, rfl, h2, h3⟩)
  · cases h1
  · cases h1
    rw [hc.len] at h2
    exact ⟨v, rfl, h2, h3⟩
theorem entCells_at {l : List (Int × Ent)} {j : Nat} {h s n y : Int} (hj : l[j]? = some (h, (s, n, y))) : (entCells l)[j * 3]? = some (.int .i64 s) ∧ (entCells l)[j * 3 + 1]? = some (.int .u64 n) := by
  induction l generalizing j with
  | nil => simp at hj
  | cons x t ih =>
    cases j with
    | zero => simp at hj; subst hj; exact ⟨rfl, rfl⟩
    | succ j =>
      have h1 := ih (j := j) (by simpa using hj)
      have e : entCells (x :: t) = [.int .i64 x.2.1, .int .u64 x.2.2.1, .int .u64 x.2.2.2] ++ entCells t := rfl
      rw [e, show (j + 1) * 3 = 3 + j * 3 by omega, show 3 + j * 3 + 1 = 3 + (j * 3 + 1) by omega, List.getElem?_append_right (by simp), List.getElem?_append_right (by simp)]
      simpa using h1
end Hed
end Go.Proofs.YtmjdcpcndggflaaDoor

set_option linter.unusedVariables false
set_option linter.unusedSimpArgs false
namespace Go.Proofs.YtmjdcpcndggflaaDoor
namespace Hed
open Go.RowKit Go.Maps Arn

set_option maxRecDepth 100000 in
set_option maxHeartbeats 4000000 in
theorem RRead_len (l : List Int) (v : Value) (w : World) (h : WordsAt w v l) (hl : l.length ≠ 8) :
    Calls Tryd.prog 15 #[v] w fun e w' => e = .returned (.tuple #[.int .u64 0, .agg #[.int .u64 0, .int .i64 0, .int .u64 0, .int .i64 0, .int .i64 0, .int .u64 0, .int .i64 0], .bool false]) ∧ Frm.Turn [] w w' := by
  obtain ⟨a, c, rfl⟩ := WordsAt.form' h
  have t0 : ((l.length : Int) != 8) = true := by simp; omega
  generalize l.length = n at hl t0 ⊢
  have HT : Hid (Frm.Turn [] w (w.alloc (verO 0 0 0 0 0 0 0))) := Lib.hid ((Frm.Turn.refl [] w).alloc _)
  clear h hl
  go_enter Tryd.func15, Tryd.ntmps15
  go_wp2
  refine bodyPost_ret (v := .tuple #[.int .u64 0, .agg #[.int .u64 0, .int .i64 0, .int .u64 0, .int .i64 0, .int .i64 0, .int .u64 0, .int .i64 0], .bool false]) (by simp [results, Tryd.results15, go_sem]) rfl ⟨rfl, ?_⟩
  exact HT.out
set_option maxRecDepth 100000 in
set_option maxHeartbeats 4000000 in
theorem RRead_far (c m q s x2 x4 x5 x7 : Int) (v : Value) (w : World) (h : WordsAt w v [c, m, x2, q, x4, x5, s, x7]) (hf : ¬ (x2 ≤ 256 ∧ x4 ≤ 255 ∧ x5 ≤ 256 ∧ x7 ≤ 256)) :
    Calls Tryd.prog 15 #[v] w fun e w' => e = .returned (.tuple #[.int .u64 0, .agg #[.int .u64 0, .int .i64 0, .int .u64 0, .int .i64 0, .int .i64 0, .int .u64 0, .int .i64 0], .bool false]) ∧ Frm.Turn [] w w' := by
  obtain ⟨a, cc, rfl, hcs⟩ := eight_cells h
  have HT : Hid (Frm.Turn [] w (w.alloc (verO 0 0 0 0 0 0 0))) := Lib.hid ((Frm.Turn.refl [] w).alloc _)
  obtain ⟨c0, c1, c2, c3, c4, c5, c6, c7⟩ := hcs _ ((Frm.Turn.refl [] w).alloc (.cells #[.int .u64 0, .int .i64 0, .int .u64 0, .int .i64 0, .int .i64 0, .int .u64 0, .int .i64 0] 24))
  have hcase : 256 < x2 ∨ (x2 ≤ 256 ∧ 255 < x4) ∨ (x2 ≤ 256 ∧ x4 ≤ 255 ∧ 256 < x5) ∨ (x2 ≤ 256 ∧ x4 ≤ 255 ∧ x5 ≤ 256 ∧ 256 < x7) := by omega
  clear hf h hcs c0 c1 c3 c6
  rcases hcase with h1 | ⟨h1, h2⟩ | ⟨h1, h2, h3⟩ | ⟨h1, h2, h3, h4⟩
  all_goals
    go_enter Tryd.func15, Tryd.ntmps15
    go_wp2
    refine bodyPost_ret (v := .tuple #[.int .u64 0, .agg #[.int .u64 0, .int .i64 0, .int .u64 0, .int .i64 0, .int .i64 0, .int .u64 0, .int .i64 0], .bool false]) (by simp [results, Tryd.results15, go_sem]) rfl ⟨rfl, ?_⟩
    exact HT.out
set_option maxRecDepth 100000 in
set_option maxHeartbeats 8000000 in
theorem RRead_eight (c m ml q fr ql s sl x2 x4 x5 x7 : Int) (v : Value) (w : World) (h : WordsAt w v [c, m, x2, q, x4, x5, s, x7]) (hc : W64 c) (hm : W64 m) (hq : W64 q) (hs : W64 s) (i2 : IntKind.i64.wrap x2 = ml) (i4 : IntKind.i64.wrap x4 = fr) (i5 : IntKind.i64.wrap x5 = ql) (i7 : IntKind.i64.wrap x7 = sl) (g2 : x2 ≤ 256) (g4 : x4 ≤ 255) (g5 : x5 ≤ 256) (g7 : x7 ≤ 256) (b : Bool) (hb : headB c m ml q fr ql s sl = b) :
    Calls Tryd.prog 15 #[v] w fun e w' => e = .returned (if b then .tuple #[.int .u64 c, .agg #[.int .u64 m, .int .i64 ml, .int .u64 q, .int .i64 fr, .int .i64 ql, .int .u64 s, .int .i64 sl], .bool true] else .tuple #[.int .u64 0, .agg #[.int .u64 0, .int .i64 0, .int .u64 0, .int .i64 0, .int .i64 0, .int .u64 0, .int .i64 0], .bool false]) ∧ Frm.Turn [] w w' := by
  obtain ⟨a, cc, rfl, hcs⟩ := eight_cells h
  have HT : Hid (∀ o o', Frm.Turn [] w (((w.alloc o).alloc o').drew)) := Lib.hid (fun o o' => (((Frm.Turn.refl [] w).alloc o).alloc o').drew)
  have HB0 : Hid (∀ o o', (((w.alloc o).alloc o').drew).heap[w.heap.size]? = some o) := Lib.hid (fun o o' => Ops.heap_below w o o')
  have HB1 : Hid (∀ o o', (((w.alloc o).alloc o').drew).heap[w.heap.size + 1]? = some o') := Lib.hid (fun o o' => Ops.heap_last w o o')
  have HI := Lib.hid (fun W => RWords_any c m ml q fr ql s sl W hc hm hq hs)
  rw [hb] at HI
  have hT1 : Frm.Turn [] w (w.alloc (.cells #[.int .u64 0, .int .i64 0, .int .u64 0, .int .i64 0, .int .i64 0, .int .u64 0, .int .i64 0] 24)) := (Frm.Turn.refl [] w).alloc _
  obtain ⟨c0, c1, c2, c3, c4, c5, c6, c7⟩ := hcs _ hT1
  have HCS := Lib.hid hcs
  have HAL : Hid (a.block < w.heap.size) := Lib.hid (World.block_lt_of_cell? w _ (hcs w (Frm.Turn.refl [] w)).1)
  clear hb h hcs hT1 hc hm hq hs
  clear c0 c1 c3 c6
  go_enter Tryd.func15, Tryd.ntmps15
  go_wp2_with fail
  clear c2 c4 c5 c7
  refine wp_region_held_drew (S := fun W' => W'.cell? a = some (.int .u64 c) ∧ W'.cell? { a with off := a.off + 1, spot := none } = some (.int .u64 m) ∧ W'.cell? { a with off := a.off + 2, spot := none } = some (.int .u64 x2) ∧ W'.cell? { a with off := a.off + 3, spot := none } = some (.int .u64 q) ∧ W'.cell? { a with off := a.off + 4, spot := none } = some (.int .u64 x4) ∧ W'.cell? { a with off := a.off + 5, spot := none } = some (.int .u64 x5) ∧ W'.cell? { a with off := a.off + 6, spot := none } = some (.int .u64 s) ∧ W'.cell? { a with off := a.off + 7, spot := none } = some (.int .u64 x7)) (by kernel_rfl) ?_ (fun hHeld => ?_)
  · exact HCS.out _ ((Frm.Turn.refl [] w).alloc _).drew
  refine wpAnyH_take (i := 0) (v := ?_) rfl (by kernel_rfl) (by kernel_rfl) (by kernel_rfl) (fun _ _ _ h => h) (Or.inl ⟨by rfl, ?_⟩) (by assumption) ?_
  rotate_left
  · (intro w hSw; (try dsimp only at hSw); go_simp; try with_reducible rfl)
  try simp only [Act.put, List.getElem_toArray, List.getElem_cons_succ, List.getElem_cons_zero, List.setIfInBounds_toArray, List.set_cons_zero, List.set_cons_succ]
  refine wpAnyH_take (i := 1) (v := ?_) rfl (by kernel_rfl) (by kernel_rfl) (by kernel_rfl) (fun _ _ _ h => h) (Or.inl ⟨by rfl, ?_⟩) (by assumption) ?_
  rotate_left
  · (intro w hSw; (try dsimp only at hSw); go_simp; try with_reducible rfl)
  try simp only [Act.put, List.getElem_toArray, List.getElem_cons_succ, List.getElem_cons_zero, List.setIfInBounds_toArray, List.set_cons_zero, List.set_cons_succ]
  refine wpAnyH_take (i := 2) (v := ?_) rfl (by kernel_rfl) (by kernel_rfl) (by kernel_rfl) (fun _ _ _ h => h) (Or.inl ⟨by rfl, ?_⟩) (by assumption) ?_
  rotate_left
  · (intro w hSw; (try dsimp only at hSw); go_simp; try with_reducible rfl)
  try simp only [Act.put, List.getElem_toArray, List.getElem_cons_succ, List.getElem_cons_zero, List.setIfInBounds_toArray, List.set_cons_zero, List.set_cons_succ]
  refine wpAnyH_take (i := 3) (v := ?_) rfl (by kernel_rfl) (by kernel_rfl) (by kernel_rfl) (fun _ _ _ h => h) (Or.inl ⟨by rfl, ?_⟩) (by assumption) ?_
  rotate_left
  · (intro w hSw; (try dsimp only at hSw); go_simp; try with_reducible rfl)
  try simp only [Act.put, List.getElem_toArray, List.getElem_cons_succ, List.getElem_cons_zero, List.setIfInBounds_toArray, List.set_cons_zero, List.set_cons_succ]
  refine wpAnyH_take (i := 4) (v := ?_) rfl (by kernel_rfl) (by kernel_rfl) (by kernel_rfl) (fun _ _ _ h => h) (Or.inl ⟨by rfl, ?_⟩) (by assumption) ?_
  rotate_left
  · (intro w hSw; (try dsimp only at hSw); go_simp; try with_reducible rfl)
  try simp only [Act.put, List.getElem_toArray, List.getElem_cons_succ, List.getElem_cons_zero, List.setIfInBounds_toArray, List.set_cons_zero, List.set_cons_succ]
  refine wpAnyH_take (i := 5) (v := ?_) rfl (by kernel_rfl) (by kernel_rfl) (by kernel_rfl) (fun _ _ _ h => h) (Or.inl ⟨by rfl, ?_⟩) (by assumption) ?_
  rotate_left
  · (intro w hSw; (try dsimp only at hSw); go_simp; try with_reducible rfl)
  try simp only [Act.put, List.getElem_toArray, List.getElem_cons_succ, List.getElem_cons_zero, List.setIfInBounds_toArray, List.set_cons_zero, List.set_cons_succ]
  refine wpAnyH_take (i := 6) (v := ?_) rfl (by kernel_rfl) (by kernel_rfl) (by kernel_rfl) (fun _ _ _ h => h) (Or.inl ⟨by rfl, ?_⟩) (by assumption) ?_
  rotate_left
  · (intro w hSw; (try dsimp only at hSw); go_simp; try with_reducible rfl)
  try simp only [Act.put, List.getElem_toArray, List.getElem_cons_succ, List.getElem_cons_zero, List.setIfInBounds_toArray, List.set_cons_zero, List.set_cons_succ]
  refine wpAnyH_take (i := 7) (v := ?_) rfl (by kernel_rfl) (by kernel_rfl) (by kernel_rfl) (fun _ _ _ h => h) (Or.inl ⟨by rfl, ?_⟩) (by assumption) ?_
  rotate_left
  · (intro w hSw; (try dsimp only at hSw); go_simp; try with_reducible rfl)
  try simp only [Act.put, List.getElem_toArray, List.getElem_cons_succ, List.getElem_cons_zero, List.setIfInBounds_toArray, List.set_cons_zero, List.set_cons_succ]
  refine wpAnyH_take (i := 8) (v := ?_) rfl (by kernel_rfl) (by kernel_rfl) (by kernel_rfl) (fun _ _ _ h => h) (Or.inl ⟨by rfl, ?_⟩) (by assumption) ?_
  rotate_left
  · (intro w hSw; (try dsimp only at hSw); go_simp; try with_reducible rfl)
  try simp only [Act.put, List.getElem_toArray, List.getElem_cons_succ, List.getElem_cons_zero, List.setIfInBounds_toArray, List.set_cons_zero, List.set_cons_succ]
  refine wpAnyH_take (i := 9) (v := ?_) rfl (by kernel_rfl) (by kernel_rfl) (by kernel_rfl) (fun _ _ _ h => h) (Or.inl ⟨by rfl, ?_⟩) (by assumption) ?_
  rotate_left
  · (intro w hSw; (try dsimp only at hSw); go_simp; try with_reducible rfl)
  try simp only [Act.put, List.getElem_toArray, List.getElem_cons_succ, List.getElem_cons_zero, List.setIfInBounds_toArray, List.set_cons_zero, List.set_cons_succ]
  refine wpAnyH_take (i := 10) (v := ?_) rfl (by kernel_rfl) (by kernel_rfl) (by kernel_rfl) (fun _ _ _ h => h) (Or.inl ⟨by rfl, ?_⟩) (by assumption) ?_
  rotate_left
  · (intro w hSw; (try dsimp only at hSw); go_simp; try with_reducible rfl)
  try simp only [Act.put, List.getElem_toArray, List.getElem_cons_succ, List.getElem_cons_zero, List.setIfInBounds_toArray, List.set_cons_zero, List.set_cons_succ]
  refine wpAnyH_take (i := 11) (v := ?_) rfl (by kernel_rfl) (by kernel_rfl) (by kernel_rfl) (fun _ _ _ h => h) (Or.inl ⟨by rfl, ?_⟩) (by assumption) ?_
  rotate_left
  · (intro w hSw; (try dsimp only at hSw); go_simp; try with_reducible rfl)
  try simp only [Act.put, List.getElem_toArray, List.getElem_cons_succ, List.getElem_cons_zero, List.setIfInBounds_toArray, List.set_cons_zero, List.set_cons_succ]
  refine wpAnyH_take (i := 12) (v := ?_) rfl (by kernel_rfl) (by kernel_rfl) (by kernel_rfl) (fun _ _ _ h => h) (Or.inl ⟨by rfl, ?_⟩) (by assumption) ?_
  rotate_left
  · (intro w hSw; (try dsimp only at hSw); go_simp; try with_reducible rfl)
  try simp only [Act.put, List.getElem_toArray, List.getElem_cons_succ, List.getElem_cons_zero, List.setIfInBounds_toArray, List.set_cons_zero, List.set_cons_succ]
  refine wpAnyH_take (i := 13) (v := ?_) rfl (by kernel_rfl) (by kernel_rfl) (by kernel_rfl) (fun _ _ _ h => h) (Or.inl ⟨by rfl, ?_⟩) (by assumption) ?_
  rotate_left
  · (intro w hSw; (try dsimp only at hSw); go_simp; try with_reducible rfl)
  try simp only [Act.put, List.getElem_toArray, List.getElem_cons_succ, List.getElem_cons_zero, List.setIfInBounds_toArray, List.set_cons_zero, List.set_cons_succ]
  refine wpAnyH_take (i := 14) (v := ?_) rfl (by kernel_rfl) (by kernel_rfl) (by kernel_rfl) (fun _ _ _ h => h) (Or.inl ⟨by rfl, ?_⟩) (by assumption) ?_
  rotate_left
  · (intro w hSw; (try dsimp only at hSw); go_simp; try with_reducible rfl)
  try simp only [Act.put, List.getElem_toArray, List.getElem_cons_succ, List.getElem_cons_zero, List.setIfInBounds_toArray, List.set_cons_zero, List.set_cons_succ]
  refine wpAnyH_take (i := 15) (v := ?_) rfl (by kernel_rfl) (by kernel_rfl) (by kernel_rfl) (fun _ _ _ h => h) (Or.inl ⟨by rfl, ?_⟩) (by assumption) ?_
  rotate_left
  · (intro w hSw; (try dsimp only at hSw); go_simp; try with_reducible rfl)
  try simp only [Act.put, List.getElem_toArray, List.getElem_cons_succ, List.getElem_cons_zero, List.setIfInBounds_toArray, List.set_cons_zero, List.set_cons_succ]
  refine wpAnyH_take (i := 16) (v := ?_) rfl (by kernel_rfl) (by kernel_rfl) (by kernel_rfl) (fun _ _ _ h => h) (Or.inl ⟨by rfl, ?_⟩) (by assumption) ?_
  rotate_left
  · (intro w hSw; (try dsimp only at hSw); go_simp; try with_reducible rfl)
  try simp only [Act.put, List.getElem_toArray, List.getElem_cons_succ, List.getElem_cons_zero, List.setIfInBounds_toArray, List.set_cons_zero, List.set_cons_succ]
  refine wpAnyH_take (i := 17) (v := ?_) rfl (by kernel_rfl) (by kernel_rfl) (by kernel_rfl) (fun _ _ _ h => h) (Or.inl ⟨by rfl, ?_⟩) (by assumption) ?_
  rotate_left
  · (intro w hSw; (try dsimp only at hSw); go_simp; try with_reducible rfl)
  try simp only [Act.put, List.getElem_toArray, List.getElem_cons_succ, List.getElem_cons_zero, List.setIfInBounds_toArray, List.set_cons_zero, List.set_cons_succ]
  refine wpAnyH_take (i := 18) (v := ?_) rfl (by kernel_rfl) (by kernel_rfl) (by kernel_rfl) (fun _ _ _ h => h) (Or.inl ⟨by rfl, ?_⟩) (by assumption) ?_
  rotate_left
  · (intro w hSw; (try dsimp only at hSw); go_simp; try with_reducible rfl)
  try simp only [Act.put, List.getElem_toArray, List.getElem_cons_succ, List.getElem_cons_zero, List.setIfInBounds_toArray, List.set_cons_zero, List.set_cons_succ]
  refine wpAnyH_take (i := 19) (v := ?_) rfl (by kernel_rfl) (by kernel_rfl) (by kernel_rfl) (fun _ _ _ h => h) (Or.inl ⟨by rfl, ?_⟩) (by assumption) ?_
  rotate_left
  · (intro w hSw; (try dsimp only at hSw); go_simp; try with_reducible rfl)
  try simp only [Act.put, List.getElem_toArray, List.getElem_cons_succ, List.getElem_cons_zero, List.setIfInBounds_toArray, List.set_cons_zero, List.set_cons_succ]
  refine wpAnyH_take (i := 20) (v := ?_) rfl (by kernel_rfl) (by kernel_rfl) (by kernel_rfl) (fun _ _ _ h => h) (Or.inl ⟨by rfl, ?_⟩) (by assumption) ?_
  rotate_left
  · (intro w hSw; (try dsimp only at hSw); go_simp; try with_reducible rfl)
  try simp only [Act.put, List.getElem_toArray, List.getElem_cons_succ, List.getElem_cons_zero, List.setIfInBounds_toArray, List.set_cons_zero, List.set_cons_succ]
  refine wpAnyH_take (i := 21) (v := ?_) rfl (by kernel_rfl) (by kernel_rfl) (by kernel_rfl) (fun _ _ _ h => h) (Or.inl ⟨by rfl, ?_⟩) (by assumption) ?_
  rotate_left
  · (intro w hSw; (try dsimp only at hSw); go_simp; try with_reducible rfl)
  try simp only [Act.put, List.getElem_toArray, List.getElem_cons_succ, List.getElem_cons_zero, List.setIfInBounds_toArray, List.set_cons_zero, List.set_cons_succ]
  refine wpAnyH_take (i := 22) (v := ?_) rfl (by kernel_rfl) (by kernel_rfl) (by kernel_rfl) (fun _ _ _ h => h) (Or.inl ⟨by rfl, ?_⟩) (by assumption) ?_
  rotate_left
  · (intro w hSw; (try dsimp only at hSw); go_simp; try with_reducible rfl)
  try simp only [Act.put, List.getElem_toArray, List.getElem_cons_succ, List.getElem_cons_zero, List.setIfInBounds_toArray, List.set_cons_zero, List.set_cons_succ]
  refine wpAnyH_take (i := 23) (v := ?_) rfl (by kernel_rfl) (by kernel_rfl) (by kernel_rfl) (fun _ _ _ h => h) (Or.inl ⟨by rfl, ?_⟩) (by assumption) ?_
  rotate_left
  · (intro w hSw; (try dsimp only at hSw); go_simp; try with_reducible rfl)
  try simp only [Act.put, List.getElem_toArray, List.getElem_cons_succ, List.getElem_cons_zero, List.setIfInBounds_toArray, List.set_cons_zero, List.set_cons_succ]
  refine wpAnyH_take (i := 24) (v := ?_) rfl (by kernel_rfl) (by kernel_rfl) (by kernel_rfl) (fun _ _ _ h => h) (Or.inl ⟨by rfl, ?_⟩) (by assumption) ?_
  rotate_left
  · (intro w hSw; (try dsimp only at hSw); go_simp; try with_reducible rfl)
  try simp only [Act.put, List.getElem_toArray, List.getElem_cons_succ, List.getElem_cons_zero, List.setIfInBounds_toArray, List.set_cons_zero, List.set_cons_succ]
  refine wpAnyH_take (i := 25) (v := ?_) rfl (by kernel_rfl) (by kernel_rfl) (by kernel_rfl) (fun _ _ _ h => h) (Or.inl ⟨by rfl, ?_⟩) (by assumption) ?_
  rotate_left
  · (intro w hSw; (try dsimp only at hSw); go_simp; try with_reducible rfl)
  try simp only [Act.put, List.getElem_toArray, List.getElem_cons_succ, List.getElem_cons_zero, List.setIfInBounds_toArray, List.set_cons_zero, List.set_cons_succ]
  refine wpAnyH_ready (rs := [26]) (by kernel_rfl) (by simp) ?_
  refine AllReadyH.cons rfl (fun K hK => ?_) AllReadyH.nil
  try simp only [List.getElem_toArray, List.getElem_cons_succ, List.getElem_cons_zero]
  go_wp2_with fail
  refine hK _ _ (HCS.out _ (((Frm.Turn.refl [] w).alloc _).drew.alloc _)) (fun hHeld => ?_)
  clear hK K
  try simp only [Act.put, List.getElem_toArray, List.getElem_cons_succ, List.getElem_cons_zero, List.setIfInBounds_toArray, List.set_cons_zero, List.set_cons_succ]
  refine wpAnyH_ready (rs := [27]) (by kernel_rfl) (by simp) ?_
  refine AllReadyH.cons rfl (fun K hK => ?_) AllReadyH.nil
  try simp only [List.getElem_toArray, List.getElem_cons_succ, List.getElem_cons_zero]
  go_wp2_with fail
  refine hK _ _ (HCS.out _ (((Frm.Turn.refl [] w).alloc _).alloc _).drew) (fun hHeld => ?_)
  clear hK K
  refine wpAnyH_done (by kernel_rfl) ?_ _
  go_wp2_with fail
  obtain ⟨c0, _⟩ := HCS.out _ (HT.out (.cells #[.int .u64 0, .int .i64 0, .int .u64 0, .int .i64 0, .int .i64 0, .int .u64 0, .int .i64 0] 24) (.cells #[.int .u64 m, .int .i64 ml, .int .u64 q, .int .i64 fr, .int .i64 ql, .int .u64 s, .int .i64 sl] 24))
  obtain ⟨⟨e0, e1, e2, e3, e4, e5, e6⟩, _⟩ := blk7 (HB1.out (.cells #[.int .u64 0, .int .i64 0, .int .u64 0, .int .i64 0, .int .i64 0, .int .u64 0, .int .i64 0] 24) (.cells #[.int .u64 m, .int .i64 ml, .int .u64 q, .int .i64 fr, .int .i64 ql, .int .u64 s, .int .i64 sl] 24))
  have HT0 := Lib.hid (HT.out (.cells #[.int .u64 0, .int .i64 0, .int .u64 0, .int .i64 0, .int .i64 0, .int .u64 0, .int .i64 0] 24) (.cells #[.int .u64 m, .int .i64 ml, .int .u64 q, .int .i64 fr, .int .i64 ql, .int .u64 s, .int .i64 sl] 24))
  have HZ0 := Lib.hid (HB0.out (.cells #[.int .u64 0, .int .i64 0, .int .u64 0, .int .i64 0, .int .i64 0, .int .u64 0, .int .i64 0] 24) (.cells #[.int .u64 m, .int .i64 ml, .int .u64 q, .int .i64 fr, .int .i64 ql, .int .u64 s, .int .i64 sl] 24))
  have HV0 := Lib.hid (HB1.out (.cells #[.int .u64 0, .int .i64 0, .int .u64 0, .int .i64 0, .int .i64 0, .int .u64 0, .int .i64 0] 24) (.cells #[.int .u64 m, .int .i64 ml, .int .u64 q, .int .i64 fr, .int .i64 ql, .int .u64 s, .int .i64 sl] 24))
  clear HT HB0 HB1 c0 e0 e1 e2 e3 e4 e5 e6
  first | generalize ((w.alloc (.cells #[.int .u64 0, .int .i64 0, .int .u64 0, .int .i64 0, .int .i64 0, .int .u64 0, .int .i64 0] 24)).alloc (.cells #[.int .u64 m, .int .i64 ml, .int .u64 q, .int .i64 fr, .int .i64 ql, .int .u64 s, .int .i64 sl] 24)).drew = W0 at HT0 HZ0 HV0 hHeld ⊢ | generalize ((w.alloc (.cells #[.int .u64 0, .int .i64 0, .int .u64 0, .int .i64 0, .int .i64 0, .int .u64 0, .int .i64 0] 24)).alloc (.cells #[.int .u64 m, .int .i64 ml, .int .u64 q, .int .i64 fr, .int .i64 ql, .int .u64 s, .int .i64 sl] 24)).drew = W0 at HT0 HZ0 HV0 ⊢
  have HG0 : Hid (∀ W, Frm.Turn [] W0 W → W.cell? a = some (.int .u64 c) ∧ W.cell? ⟨w.heap.size + 1, 0, none⟩ = some (.int .u64 m) ∧ W.cell? ⟨w.heap.size + 1, 1, none⟩ = some (.int .i64 ml) ∧ W.cell? ⟨w.heap.size + 1, 2, none⟩ = some (.int .u64 q) ∧ W.cell? ⟨w.heap.size + 1, 3, none⟩ = some (.int .i64 fr) ∧ W.cell? ⟨w.heap.size + 1, 4, none⟩ = some (.int .i64 ql) ∧ W.cell? ⟨w.heap.size + 1, 5, none⟩ = some (.int .u64 s) ∧ W.cell? ⟨w.heap.size + 1, 6, none⟩ = some (.int .i64 sl)) := Lib.hid fun W hTW => ⟨(HCS.out _ (HT0.out.trans hTW (by simp))).1, (blk7 (hTW.keep HV0.out (by simp))).1⟩
  cases b with
  | false =>
    refine wp_region_held_drew (S := fun W' => W'.cell? a = some (.int .u64 c) ∧ W'.cell? ⟨w.heap.size + 1, 0, none⟩ = some (.int .u64 m) ∧ W'.cell? ⟨w.heap.size + 1, 1, none⟩ = some (.int .i64 ml) ∧ W'.cell? ⟨w.heap.size + 1, 2, none⟩ = some (.int .u64 q) ∧ W'.cell? ⟨w.heap.size + 1, 3, none⟩ = some (.int .i64 fr) ∧ W'.cell? ⟨w.heap.size + 1, 4, none⟩ = some (.int .i64 ql) ∧ W'.cell? ⟨w.heap.size + 1, 5, none⟩ = some (.int .u64 s) ∧ W'.cell? ⟨w.heap.size + 1, 6, none⟩ = some (.int .i64 sl)) (by kernel_rfl) ?_ (fun hHeld => ?_)
    · exact HG0.out _ (Frm.Turn.refl [] W0).drew
    refine wpAnyH_take (i := 0) (v := ?_) rfl (by kernel_rfl) (by kernel_rfl) (by kernel_rfl) (fun _ _ _ h => h) (Or.inl ⟨by rfl, ?_⟩) (by assumption) ?_
    rotate_left
    · (intro w hSw; (try dsimp only at hSw); go_simp; try with_reducible rfl)
    try simp only [Act.put, List.getElem_toArray, List.getElem_cons_succ, List.getElem_cons_zero, List.setIfInBounds_toArray, List.set_cons_zero, List.set_cons_succ]
    refine wpAnyH_take (i := 1) (v := ?_) rfl (by kernel_rfl) (by kernel_rfl) (by kernel_rfl) (fun _ _ _ h => h) (Or.inl ⟨by rfl, ?_⟩) (by assumption) ?_
    rotate_left
    · (intro w hSw; (try dsimp only at hSw); go_simp; try with_reducible rfl)
    try simp only [Act.put, List.getElem_toArray, List.getElem_cons_succ, List.getElem_cons_zero, List.setIfInBounds_toArray, List.set_cons_zero, List.set_cons_succ]
    refine wpAnyH_take (i := 2) (v := ?_) rfl (by kernel_rfl) (by kernel_rfl) (by kernel_rfl) (fun _ _ _ h => h) (Or.inl ⟨by rfl, ?_⟩) (by assumption) ?_
    rotate_left
    · (intro w hSw; (try dsimp only at hSw); go_simp; try with_reducible rfl)
    try simp only [Act.put, List.getElem_toArray, List.getElem_cons_succ, List.getElem_cons_zero, List.setIfInBounds_toArray, List.set_cons_zero, List.set_cons_succ]
    refine wpAnyH_take (i := 3) (v := ?_) rfl (by kernel_rfl) (by kernel_rfl) (by kernel_rfl) (fun _ _ _ h => h) (Or.inl ⟨by rfl, ?_⟩) (by assumption) ?_
    rotate_left
    · (intro w hSw; (try dsimp only at hSw); go_simp; try with_reducible rfl)
    try simp only [Act.put, List.getElem_toArray, List.getElem_cons_succ, List.getElem_cons_zero, List.setIfInBounds_toArray, List.set_cons_zero, List.set_cons_succ]
    refine wpAnyH_ready (rs := [4]) (by kernel_rfl) (by simp) ?_
    refine AllReadyH.cons rfl (fun K hK => ?_) AllReadyH.nil
    try simp only [List.getElem_toArray, List.getElem_cons_succ, List.getElem_cons_zero]
    have HK4 := Lib.hid hK
    clear hK
    go_simp
    (go_at_call 10; go_must (with_reducible refine (HI.out _).mono ?_))
    rintro e w1 ⟨v1, rfl, _, ⟨a1, n1, c1, rfl⟩, hT⟩
    have HTC := Lib.hid hT
    clear hT
    refine HK4.out _ _ (HG0.out w1 ((Frm.Turn.refl [] W0).drew.trans HTC.out (by simp))) (fun hHeld => ?_)
    clear HK4 K
    try simp only [Act.put, List.getElem_toArray, List.getElem_cons_succ, List.getElem_cons_zero, List.setIfInBounds_toArray, List.set_cons_zero, List.set_cons_succ]
    refine wpAnyH_take (i := 5) (v := ?_) rfl (by kernel_rfl) (by kernel_rfl) (by kernel_rfl) (fun _ _ _ h => h) (Or.inl ⟨by rfl, ?_⟩) (by assumption) ?_
    rotate_left
    · (intro w hSw; (try dsimp only at hSw); go_simp; try with_reducible rfl)
    try simp only [Act.put, List.getElem_toArray, List.getElem_cons_succ, List.getElem_cons_zero, List.setIfInBounds_toArray, List.set_cons_zero, List.set_cons_succ]
    refine wpAnyH_take (i := 6) (v := ?_) rfl (by kernel_rfl) (by kernel_rfl) (by kernel_rfl) (fun _ _ _ h => h) (Or.inl ⟨by rfl, ?_⟩) (by assumption) ?_
    rotate_left
    · (intro w hSw; (try dsimp only at hSw); go_simp; try with_reducible rfl)
    try simp only [Act.put, List.getElem_toArray, List.getElem_cons_succ, List.getElem_cons_zero, List.setIfInBounds_toArray, List.set_cons_zero, List.set_cons_succ]
    refine wpAnyH_take (i := 7) (v := ?_) rfl (by kernel_rfl) (by kernel_rfl) (by kernel_rfl) (fun _ _ _ h => h) (Or.inl ⟨by rfl, ?_⟩) (by assumption) ?_
    rotate_left
    · (intro w hSw; (try dsimp only at hSw); go_simp; try with_reducible rfl)
    try simp only [Act.put, List.getElem_toArray, List.getElem_cons_succ, List.getElem_cons_zero, List.setIfInBounds_toArray, List.set_cons_zero, List.set_cons_succ]
    refine wpAnyH_take (i := 8) (v := ?_) rfl (by kernel_rfl) (by kernel_rfl) (by kernel_rfl) (fun _ _ _ h => h) (Or.inl ⟨by rfl, ?_⟩) (by assumption) ?_
    rotate_left
    · (intro w hSw; (try dsimp only at hSw); go_simp; try with_reducible rfl)
    try simp only [Act.put, List.getElem_toArray, List.getElem_cons_succ, List.getElem_cons_zero, List.setIfInBounds_toArray, List.set_cons_zero, List.set_cons_succ]
    refine wpAnyH_take (i := 9) (v := ?_) rfl (by kernel_rfl) (by kernel_rfl) (by kernel_rfl) (fun _ _ _ h => h) (Or.inl ⟨by rfl, ?_⟩) (by assumption) ?_
    rotate_left
    · (intro w hSw; (try dsimp only at hSw); go_simp; try with_reducible rfl)
    try simp only [Act.put, List.getElem_toArray, List.getElem_cons_succ, List.getElem_cons_zero, List.setIfInBounds_toArray, List.set_cons_zero, List.set_cons_succ]
    refine wpAnyH_done (by kernel_rfl) ?_ _
    obtain ⟨⟨e0, e1, e2, e3, e4, e5, e6⟩, f0, f1, f2, f3, f4, f5, f6⟩ := blk7 (HTC.out.keep HZ0.out (by simp))
    have HT1 := Lib.hid (HT0.out.drew.trans HTC.out (by simp))
    go_wp2_with fail
    exact bodyPost_ret (v := .tuple #[.int .u64 0, .agg #[.int .u64 0, .int .i64 0, .int .u64 0, .int .i64 0, .int .i64 0, .int .u64 0, .int .i64 0], .bool false]) (by simp [results, Tryd.results15, go_sem, e0, e1, e2, e3, e4, e5, e6]) rfl ⟨rfl, ((((((HT1.out.setCell (p := ⟨w.heap.size, 0, none⟩) (.inr (Nat.le_refl _)) _).setCell (p := ⟨w.heap.size, 1, none⟩) (.inr (Nat.le_refl _)) _).setCell (p := ⟨w.heap.size, 2, none⟩) (.inr (Nat.le_refl _)) _).setCell (p := ⟨w.heap.size, 3, none⟩) (.inr (Nat.le_refl _)) _).setCell (p := ⟨w.heap.size, 4, none⟩) (.inr (Nat.le_refl _)) _).setCell (p := ⟨w.heap.size, 5, none⟩) (.inr (Nat.le_refl _)) _).setCell (p := ⟨w.heap.size, 6, none⟩) (.inr (Nat.le_refl _)) _⟩
  | true =>
    refine wp_region_held_drew (S := fun W' => W'.cell? a = some (.int .u64 c) ∧ W'.cell? ⟨w.heap.size + 1, 0, none⟩ = some (.int .u64 m) ∧ W'.cell? ⟨w.heap.size + 1, 1, none⟩ = some (.int .i64 ml) ∧ W'.cell? ⟨w.heap.size + 1, 2, none⟩ = some (.int .u64 q) ∧ W'.cell? ⟨w.heap.size + 1, 3, none⟩ = some (.int .i64 fr) ∧ W'.cell? ⟨w.heap.size + 1, 4, none⟩ = some (.int .i64 ql) ∧ W'.cell? ⟨w.heap.size + 1, 5, none⟩ = some (.int .u64 s) ∧ W'.cell? ⟨w.heap.size + 1, 6, none⟩ = some (.int .i64 sl)) (by kernel_rfl) ?_ (fun hHeld => ?_)
    · exact HG0.out _ (Frm.Turn.refl [] W0).drew
    refine wpAnyH_take (i := 0) (v := ?_) rfl (by kernel_rfl) (by kernel_rfl) (by kernel_rfl) (fun _ _ _ h => h) (Or.inl ⟨by rfl, ?_⟩) (by assumption) ?_
    rotate_left
    · (intro w hSw; (try dsimp only at hSw); go_simp; try with_reducible rfl)
    try simp only [Act.put, List.getElem_toArray, List.getElem_cons_succ, List.getElem_cons_zero, List.setIfInBounds_toArray, List.set_cons_zero, List.set_cons_succ]
    refine wpAnyH_take (i := 1) (v := ?_) rfl (by kernel_rfl) (by kernel_rfl) (by kernel_rfl) (fun _ _ _ h => h) (Or.inl ⟨by rfl, ?_⟩) (by assumption) ?_
    rotate_left
    · (intro w hSw; (try dsimp only at hSw); go_simp; try with_reducible rfl)
    try simp only [Act.put, List.getElem_toArray, List.getElem_cons_succ, List.getElem_cons_zero, List.setIfInBounds_toArray, List.set_cons_zero, List.set_cons_succ]
    refine wpAnyH_take (i := 2) (v := ?_) rfl (by kernel_rfl) (by kernel_rfl) (by kernel_rfl) (fun _ _ _ h => h) (Or.inl ⟨by rfl, ?_⟩) (by assumption) ?_
    rotate_left
    · (intro w hSw; (try dsimp only at hSw); go_simp; try with_reducible rfl)
    try simp only [Act.put, List.getElem_toArray, List.getElem_cons_succ, List.getElem_cons_zero, List.setIfInBounds_toArray, List.set_cons_zero, List.set_cons_succ]
    refine wpAnyH_take (i := 3) (v := ?_) rfl (by kernel_rfl) (by kernel_rfl) (by kernel_rfl) (fun _ _ _ h => h) (Or.inl ⟨by rfl, ?_⟩) (by assumption) ?_
    rotate_left
    · (intro w hSw; (try dsimp only at hSw); go_simp; try with_reducible rfl)
    try simp only [Act.put, List.getElem_toArray, List.getElem_cons_succ, List.getElem_cons_zero, List.setIfInBounds_toArray, List.set_cons_zero, List.set_cons_succ]
    refine wpAnyH_ready (rs := [4]) (by kernel_rfl) (by simp) ?_
    refine AllReadyH.cons rfl (fun K hK => ?_) AllReadyH.nil
    try simp only [List.getElem_toArray, List.getElem_cons_succ, List.getElem_cons_zero]
    have HK4 := Lib.hid hK
    clear hK
    go_simp
    (go_at_call 10; go_must (with_reducible refine (HI.out _).mono ?_))
    rintro e w1 ⟨v1, rfl, _, ⟨a1, n1, c1, rfl⟩, hT⟩
    have HTC := Lib.hid hT
    clear hT
    refine HK4.out _ _ (HG0.out w1 ((Frm.Turn.refl [] W0).drew.trans HTC.out (by simp))) (fun hHeld => ?_)
    clear HK4 K
    try simp only [Act.put, List.getElem_toArray, List.getElem_cons_succ, List.getElem_cons_zero, List.setIfInBounds_toArray, List.set_cons_zero, List.set_cons_succ]
    refine wpAnyH_take (i := 5) (v := ?_) rfl (by kernel_rfl) (by kernel_rfl) (by kernel_rfl) (fun _ _ _ h => h) (Or.inl ⟨by rfl, ?_⟩) (by assumption) ?_
    rotate_left
    · (intro w hSw; (try dsimp only at hSw); go_simp; try with_reducible rfl)
    try simp only [Act.put, List.getElem_toArray, List.getElem_cons_succ, List.getElem_cons_zero, List.setIfInBounds_toArray, List.set_cons_zero, List.set_cons_succ]
    refine wpAnyH_take (i := 6) (v := ?_) rfl (by kernel_rfl) (by kernel_rfl) (by kernel_rfl) (fun _ _ _ h => h) (Or.inl ⟨by rfl, ?_⟩) (by assumption) ?_
    rotate_left
    · (intro w hSw; (try dsimp only at hSw); go_simp; try with_reducible rfl)
    try simp only [Act.put, List.getElem_toArray, List.getElem_cons_succ, List.getElem_cons_zero, List.setIfInBounds_toArray, List.set_cons_zero, List.set_cons_succ]
    refine wpAnyH_take (i := 7) (v := ?_) rfl (by kernel_rfl) (by kernel_rfl) (by kernel_rfl) (fun _ _ _ h => h) (Or.inl ⟨by rfl, ?_⟩) (by assumption) ?_
    rotate_left
    · (intro w hSw; (try dsimp only at hSw); go_simp; try with_reducible rfl)
    try simp only [Act.put, List.getElem_toArray, List.getElem_cons_succ, List.getElem_cons_zero, List.setIfInBounds_toArray, List.set_cons_zero, List.set_cons_succ]
    refine wpAnyH_take (i := 8) (v := ?_) rfl (by kernel_rfl) (by kernel_rfl) (by kernel_rfl) (fun _ _ _ h => h) (Or.inl ⟨by rfl, ?_⟩) (by assumption) ?_
    rotate_left
    · (intro w hSw; (try dsimp only at hSw); go_simp; try with_reducible rfl)
    try simp only [Act.put, List.getElem_toArray, List.getElem_cons_succ, List.getElem_cons_zero, List.setIfInBounds_toArray, List.set_cons_zero, List.set_cons_succ]
    refine wpAnyH_take (i := 9) (v := ?_) rfl (by kernel_rfl) (by kernel_rfl) (by kernel_rfl) (fun _ _ _ h => h) (Or.inl ⟨by rfl, ?_⟩) (by assumption) ?_
    rotate_left
    · (intro w hSw; (try dsimp only at hSw); go_simp; try with_reducible rfl)
    try simp only [Act.put, List.getElem_toArray, List.getElem_cons_succ, List.getElem_cons_zero, List.setIfInBounds_toArray, List.set_cons_zero, List.set_cons_succ]
    refine wpAnyH_done (by kernel_rfl) ?_ _
    have HE := Lib.hid (HTC.out.drew.keep HZ0.out (by simp))
    have HE1 := Lib.hid (HTC.out.drew.keep HV0.out (by simp))
    have HT1 := Lib.hid (HT0.out.drew.trans HTC.out (by simp))
    have HC1 := Lib.hid (HCS.out _ HT1.out.drew).1
    go_wp2_with fail
    have HG : Hid (∀ W, Frm.Turn [w.heap.size] w1.drew W → W.cell? a = some (.int .u64 c) ∧ W.cell? ⟨w.heap.size + 1, 0, none⟩ = some (.int .u64 m) ∧ W.cell? ⟨w.heap.size + 1, 1, none⟩ = some (.int .i64 ml) ∧ W.cell? ⟨w.heap.size + 1, 2, none⟩ = some (.int .u64 q) ∧ W.cell? ⟨w.heap.size + 1, 3, none⟩ = some (.int .i64 fr) ∧ W.cell? ⟨w.heap.size + 1, 4, none⟩ = some (.int .i64 ql) ∧ W.cell? ⟨w.heap.size + 1, 5, none⟩ = some (.int .u64 s) ∧ W.cell? ⟨w.heap.size + 1, 6, none⟩ = some (.int .i64 sl)) := Lib.hid fun W hTW => ⟨hTW.cell HC1.out (by have := HAL.out; simp; omega), (blk7 (hTW.keep HE1.out (by simp))).1⟩
    refine wp_region_held_drew (S := fun W' => W'.cell? a = some (.int .u64 c) ∧ W'.cell? ⟨w.heap.size + 1, 0, none⟩ = some (.int .u64 m) ∧ W'.cell? ⟨w.heap.size + 1, 1, none⟩ = some (.int .i64 ml) ∧ W'.cell? ⟨w.heap.size + 1, 2, none⟩ = some (.int .u64 q) ∧ W'.cell? ⟨w.heap.size + 1, 3, none⟩ = some (.int .i64 fr) ∧ W'.cell? ⟨w.heap.size + 1, 4, none⟩ = some (.int .i64 ql) ∧ W'.cell? ⟨w.heap.size + 1, 5, none⟩ = some (.int .u64 s) ∧ W'.cell? ⟨w.heap.size + 1, 6, none⟩ = some (.int .i64 sl)) (by kernel_rfl) ?_ (fun hHeld => ?_)
    · exact HG.out _ (Frm.Turn.refl _ _)
    refine wpAnyH_take (i := 0) (v := ?_) rfl (by kernel_rfl) (by kernel_rfl) (by kernel_rfl) (fun _ _ _ h => h) (Or.inl ⟨by rfl, ?_⟩) (by assumption) ?_
    rotate_left
    · (intro w hSw; (try dsimp only at hSw); go_simp; try with_reducible rfl)
    try simp only [Act.put, List.getElem_toArray, List.getElem_cons_succ, List.getElem_cons_zero, List.setIfInBounds_toArray, List.set_cons_zero, List.set_cons_succ]
    refine wpAnyH_take (i := 1) (v := ?_) rfl (by kernel_rfl) (by kernel_rfl) (by kernel_rfl) (fun _ _ _ h => h) (Or.inl ⟨by rfl, ?_⟩) (by assumption) ?_
    rotate_left
    · (intro w hSw; (try dsimp only at hSw); go_simp; try with_reducible rfl)
    try simp only [Act.put, List.getElem_toArray, List.getElem_cons_succ, List.getElem_cons_zero, List.setIfInBounds_toArray, List.set_cons_zero, List.set_cons_succ]
    refine wpAnyH_take (i := 2) (v := ?_) rfl (by kernel_rfl) (by kernel_rfl) (by kernel_rfl) (fun _ _ _ h => h) (Or.inl ⟨by rfl, ?_⟩) (by assumption) ?_
    rotate_left
    · (intro w hSw; (try dsimp only at hSw); go_simp; try with_reducible rfl)
    try simp only [Act.put, List.getElem_toArray, List.getElem_cons_succ, List.getElem_cons_zero, List.setIfInBounds_toArray, List.set_cons_zero, List.set_cons_succ]
    refine wpAnyH_take (i := 3) (v := ?_) rfl (by kernel_rfl) (by kernel_rfl) (by kernel_rfl) (fun _ _ _ h => h) (Or.inl ⟨by rfl, ?_⟩) (by assumption) ?_
    rotate_left
    · (intro w hSw; (try dsimp only at hSw); go_simp; try with_reducible rfl)
    try simp only [Act.put, List.getElem_toArray, List.getElem_cons_succ, List.getElem_cons_zero, List.setIfInBounds_toArray, List.set_cons_zero, List.set_cons_succ]
    refine wpAnyH_take (i := 4) (v := ?_) rfl (by kernel_rfl) (by kernel_rfl) (by kernel_rfl) (fun _ _ _ h => h) (Or.inl ⟨by rfl, ?_⟩) (by assumption) ?_
    rotate_left
    · (intro w hSw; (try dsimp only at hSw); go_simp; try with_reducible rfl)
    try simp only [Act.put, List.getElem_toArray, List.getElem_cons_succ, List.getElem_cons_zero, List.setIfInBounds_toArray, List.set_cons_zero, List.set_cons_succ]
    have h9 := HE.out
    have hT9 := HT1.out.drew
    clear HE HE1 HT1 HC1
    generalize w1.drew = wd at h9 hT9 HG ⊢
    have HT9 := Lib.hid hT9
    have HE9 := Lib.hid h9
    clear h9 hT9
    refine wpAnyH_ready (rs := [5]) (by kernel_rfl) (by simp) ?_
    refine AllReadyH.cons rfl (fun K hK => ?_) AllReadyH.nil
    try simp only [List.getElem_toArray, List.getElem_cons_succ, List.getElem_cons_zero]
    refine wp_store_row 24 (.tmp 3) (.tmp 76) rfl w.heap.size #[.int .u64 m, .int .i64 ml, .int .u64 q, .int .i64 fr, .int .i64 ql, .int .u64 s, .int .i64 sl] rfl rfl 24 _ HE9.out info_ver rfl (by simp [Value.oneCell']) ?_
    refine hK _ _ (HG.out _ (setRow_turn (Frm.Turn.refl [w.heap.size] wd) (g := w.heap.size) (.inl (by simp)) _)) (fun hHeld => ?_)
    clear hK K
    have h4 := setRow_heap wd w.heap.size _ #[.int .u64 m, .int .i64 ml, .int .u64 q, .int .i64 fr, .int .i64 ql, .int .u64 s, .int .i64 sl] _ _ HE9.out
    have hT4 : Frm.Turn [] w (wd.setRow w.heap.size #[.int .u64 m, .int .i64 ml, .int .u64 q, .int .i64 fr, .int .i64 ql, .int .u64 s, .int .i64 sl]) := setRow_turn HT9.out (.inr (Nat.le_refl _)) _
    have hG4 := HG.out _ (setRow_turn (Frm.Turn.refl [w.heap.size] wd) (g := w.heap.size) (.inl (by simp)) #[.int .u64 m, .int .i64 ml, .int .u64 q, .int .i64 fr, .int .i64 ql, .int .u64 s, .int .i64 sl])
    clear HG HE9 HT9
    first | generalize wd.setRow w.heap.size #[.int .u64 m, .int .i64 ml, .int .u64 q, .int .i64 fr, .int .i64 ql, .int .u64 s, .int .i64 sl] = W4 at h4 hT4 hG4 hHeld ⊢ | generalize wd.setRow w.heap.size #[.int .u64 m, .int .i64 ml, .int .u64 q, .int .i64 fr, .int .i64 ql, .int .u64 s, .int .i64 sl] = W4 at h4 hT4 hG4 ⊢
    have H4 := Lib.hid h4
    have HT4 := Lib.hid hT4
    have HG4 := Lib.hid hG4
    clear h4 hT4 hG4
    try simp only [Act.put, List.getElem_toArray, List.getElem_cons_succ, List.getElem_cons_zero, List.setIfInBounds_toArray, List.set_cons_zero, List.set_cons_succ]
    refine wpAnyH_take (i := 6) (v := ?_) rfl (by kernel_rfl) (by kernel_rfl) (by kernel_rfl) (fun _ _ _ h => h) (Or.inl ⟨by rfl, ?_⟩) (by assumption) ?_
    rotate_left
    · (intro w hSw; (try dsimp only at hSw); go_simp; try with_reducible rfl)
    try simp only [Act.put, List.getElem_toArray, List.getElem_cons_succ, List.getElem_cons_zero, List.setIfInBounds_toArray, List.set_cons_zero, List.set_cons_succ]
    refine wpAnyH_done (by kernel_rfl) ?_ _
    go_wp2
    obtain ⟨⟨e0, e1, e2, e3, e4, e5, e6⟩, f0, f1, f2, f3, f4, f5, f6⟩ := blk7 H4.out
    refine bodyPost_ret (v := .tuple #[.int .u64 c, .agg #[.int .u64 m, .int .i64 ml, .int .u64 q, .int .i64 fr, .int .i64 ql, .int .u64 s, .int .i64 sl], .bool true]) ?_ rfl ⟨rfl, HT4.out⟩
    simp [results, Tryd.results15, go_sem, e0, e1, e2, e3, e4, e5, e6]
end Hed
end Go.Proofs.YtmjdcpcndggflaaDoor

set_option linter.unusedVariables false
set_option linter.unusedSimpArgs false
namespace Go.Proofs.YtmjdcpcndggflaaDoor
namespace Hed
open Go.RowKit Go.Maps Arn

set_option maxRecDepth 100000 in
set_option maxHeartbeats 4000000 in
theorem RReadEntry_len (l : List Int) (v : Value) (w : World) (h : WordsAt w v l) (hl : l.length ≠ 3) :
    Calls Tryd.prog 17 #[v] w fun e w' => e = .returned (.tuple #[.agg #[.int .i64 0, .int .u64 0, .int .u64 0], .bool false]) ∧ Frm.Turn [] w w' := by
  obtain ⟨a, c, rfl⟩ := WordsAt.form' h
  have t0 : ((l.length : Int) != 3) = true := by simp; omega
  generalize l.length = n at hl t0 ⊢
  have HT : Hid (Frm.Turn [] w (w.alloc (entO 0 0 0))) := Lib.hid ((Frm.Turn.refl [] w).alloc _)
  clear h hl
  go_enter Tryd.func17, Tryd.ntmps17
  go_wp2
  refine bodyPost_ret (v := .tuple #[.agg #[.int .i64 0, .int .u64 0, .int .u64 0], .bool false]) (by simp [results, Tryd.results17, go_sem]) rfl ⟨rfl, ?_⟩
  exact HT.out
set_option maxRecDepth 100000 in
set_option maxHeartbeats 4000000 in
theorem RReadEntry_far (x0 x1 x2 : Int) (v : Value) (w : World) (h : WordsAt w v [x0, x1, x2]) (hf : 254 < x0) :
    Calls Tryd.prog 17 #[v] w fun e w' => e = .returned (.tuple #[.agg #[.int .i64 0, .int .u64 0, .int .u64 0], .bool false]) ∧ Frm.Turn [] w w' := by
  obtain ⟨a, c, rfl, c0, c1, c2⟩ := three_cells h
  have HT : Hid (Frm.Turn [] w (w.alloc (entO 0 0 0))) := Lib.hid ((Frm.Turn.refl [] w).alloc _)
  have hTa : Frm.Turn [] w (w.alloc (.cells #[.int .i64 0, .int .u64 0, .int .u64 0] 26)) := (Frm.Turn.refl [] w).alloc _
  replace c0 := hTa.cell c0 (by simp)
  clear h c1 c2 hTa
  go_enter Tryd.func17, Tryd.ntmps17
  go_wp2
  refine bodyPost_ret (v := .tuple #[.agg #[.int .i64 0, .int .u64 0, .int .u64 0], .bool false]) (by simp [results, Tryd.results17, go_sem]) rfl ⟨rfl, ?_⟩
  exact HT.out
set_option maxRecDepth 100000 in
set_option maxHeartbeats 4000000 in
theorem RReadEntry_near (x0 x1 x2 : Int) (v : Value) (w : World) (h : WordsAt w v [x0, x1, x2]) (hn : x0 ≤ 254) (h1 : W64 x1) (h2 : W64 x2) (b : Bool) (hb : entB (IntKind.i64.wrap x0) x1 x2 = b) :
    Calls Tryd.prog 17 #[v] w fun e w' => e = .returned (.tuple #[if b then .agg #[.int .i64 (IntKind.i64.wrap x0), .int .u64 x1, .int .u64 x2] else .agg #[.int .i64 0, .int .u64 0, .int .u64 0], .bool b]) ∧ Frm.Turn [] w w' := by
  obtain ⟨a, c, rfl, c0, c1, c2⟩ := three_cells h
  obtain ⟨s, HS⟩ : ∃ s, Hid (s = IntKind.i64.wrap x0) := ⟨_, Lib.hid rfl⟩
  have hw : IntKind.i64.wrap x0 = s := HS.out.symm
  rw [hw] at hb ⊢
  have HT : Hid (∀ o o', Frm.Turn [] w (((w.alloc o).alloc o').drew)) := Lib.hid (fun o o' => (((Frm.Turn.refl [] w).alloc o).alloc o').drew)
  have HB0 : Hid (∀ o o', (((w.alloc o).alloc o').drew).heap[w.heap.size]? = some o) := Lib.hid (fun o o' => Ops.heap_below w o o')
  have HB1 : Hid (∀ o o', (((w.alloc o).alloc o').drew).heap[w.heap.size + 1]? = some o') := Lib.hid (fun o o' => Ops.heap_last w o o')
  have HI := Lib.hid (fun W => REntry_any s x1 x2 W h1 h2)
  rw [hb] at HI
  have hTa : Frm.Turn [] w (w.alloc (.cells #[.int .i64 0, .int .u64 0, .int .u64 0] 26)) := (Frm.Turn.refl [] w).alloc _
  have d0 := (hTa.alloc (.cells #[.int .i64 0, .int .u64 0, .int .u64 0] 26)).cell c0 (by simp)
  have d1 := (hTa.alloc (.cells #[.int .i64 0, .int .u64 0, .int .u64 0] 26)).cell c1 (by simp)
  have d2 := (hTa.alloc (.cells #[.int .i64 0, .int .u64 0, .int .u64 0] 26)).cell c2 (by simp)
  replace c0 := hTa.cell c0 (by simp)
  replace c1 := hTa.cell c1 (by simp)
  replace c2 := hTa.cell c2 (by simp)
  clear hb h1 h2 h hTa
  go_enter Tryd.func17, Tryd.ntmps17
  go_wp2_with fail
  go_region
  cases b with
  | false =>
    go_wp2_with (go_at_call 12; (with_reducible refine (HI.out _).mono ?_); rintro e w1 ⟨v9, rfl, _, ⟨a9, n9, c9, rfl⟩, hT⟩; obtain ⟨⟨e0, e1, e2⟩, f0, f1, f2⟩ := blk3 (hT.keep (HB0.out _ _) (by simp)); have HT1 := Lib.hid ((HT.out _ _).trans hT (by simp)); clear hT)
    exact bodyPost_ret (v := .tuple #[.agg #[.int .i64 0, .int .u64 0, .int .u64 0], .bool false]) (by simp [results, Tryd.results17, go_sem, e0, e1, e2]) rfl ⟨rfl, ((HT1.out.setCell (p := ⟨w.heap.size, 0, none⟩) (.inr (Nat.le_refl _)) _).setCell (p := ⟨w.heap.size, 1, none⟩) (.inr (Nat.le_refl _)) _).setCell (p := ⟨w.heap.size, 2, none⟩) (.inr (Nat.le_refl _)) _⟩
  | true =>
    go_wp2_with (go_at_call 12; (with_reducible refine (HI.out _).mono ?_); rintro e w1 ⟨v9, rfl, _, ⟨a9, n9, c9, rfl⟩, hT⟩; obtain ⟨⟨e0, e1, e2⟩, f0, f1, f2⟩ := blk3 (hT.keep (HB0.out _ _) (by simp)); obtain ⟨⟨g0, g1, g2⟩, i0, i1, i2⟩ := blk3 (hT.keep (HB1.out _ _) (by simp)); have HT1 := Lib.hid ((HT.out _ _).trans hT (by simp)); clear hT)
    exact bodyPost_ret (v := .tuple #[.agg #[.int .i64 s, .int .u64 x1, .int .u64 x2], .bool true]) (by simp [results, Tryd.results17, go_sem, e0, e1, e2]) rfl ⟨rfl, ((HT1.out.setCell (p := ⟨w.heap.size, 0, none⟩) (.inr (Nat.le_refl _)) _).setCell (p := ⟨w.heap.size, 1, none⟩) (.inr (Nat.le_refl _)) _).setCell (p := ⟨w.heap.size, 2, none⟩) (.inr (Nat.le_refl _)) _⟩
theorem RReadEntry_any (l : List Int) (v : Value) (w : World) (h : WordsAt w v l) (h64 : ∀ u, u ∈ l → W64 u) :
    Calls Tryd.prog 17 #[v] w fun e w' => e = .returned (.tuple #[entV ((readE l).getD zeroE), .bool (readE l).isSome]) ∧ Frm.Turn [] w w' := by
  by_cases hl : l.length = 3
  · match l, hl with
    | [x0, x1, x2], _ =>
      by_cases hn : x0 ≤ 254
      · refine (RReadEntry_near x0 x1 x2 v w h hn (h64 x1 (by simp)) (h64 x2 (by simp)) _ rfl).mono ?_
        rintro e w' ⟨rfl, hT⟩
        refine ⟨?_, hT⟩
        rw [readE_three]
        cases entB (IntKind.i64.wrap x0) x1 x2 <;> rfl
      · refine (RReadEntry_far x0 x1 x2 v w h (by omega)).mono ?_
        rintro e w' ⟨rfl, hT⟩
        refine ⟨?_, hT⟩
        have hx := h64 x0 (by simp)
        have hb : entB (IntKind.i64.wrap x0) x1 x2 = false := by
          cases hb : entB (IntKind.i64.wrap x0) x1 x2 with
          | false => rfl
          | true =>
            obtain ⟨_, p0, p1, _⟩ := entB_parts hb
            rw [wrap_i64 hx.1 (by have := hx.2; omega)] at p0 p1
            by_cases hbig : x0 ≤ 9223372036854775807
            · rw [if_pos hbig] at p0 p1; omega
            · rw [if_neg hbig] at p0 p1; have := hx.2; omega
        rw [readE_three, hb]
        rfl
  · refine (RReadEntry_len l v w h hl).mono ?_
    rintro e w' ⟨rfl, hT⟩
    refine ⟨?_, hT⟩
    rw [readE_len hl]
    rfl
theorem len8 {l : List Int} (h : l.length = 8) : ∃ x0 x1 x2 x3 x4 x5 x6 x7, l = [x0, x1, x2, x3, x4, x5, x6, x7] := by
  match l, h with
  | [x0, x1, x2, x3, x4, x5, x6, x7], _ => exact ⟨_, _, _, _, _, _, _, _, rfl⟩
/-- What both reads of a head tell. -/
theorem read_two (l : List Int) (v : Value) (h64 : ∀ u, u ∈ l → W64 u) :
    ∃ (c m ml q fr ql s sl : Int) (b : Bool), (∀ W, WordsAt W v l → Calls Tryd.prog 14 #[v] W fun e w' => e = .returned (.tuple #[.int .u64 c, .agg #[.int .u64 m, .int .i64 ml, .int .u64 q, .int .i64 fr, .int .i64 ql, .int .u64 s, .int .i64 sl], .bool b]) ∧ Frm.Turn [] W w') ∧
      (∀ W, WordsAt W v l → Calls Tryd.prog 15 #[v] W fun e w' => e = .returned (.tuple #[.int .u64 c, .agg #[.int .u64 m, .int .i64 ml, .int .u64 q, .int .i64 fr, .int .i64 ql, .int .u64 s, .int .i64 sl], .bool b]) ∧ Frm.Turn [] W w') := by
  by_cases hl : l.length = 8
  · obtain ⟨x0, x1, x2, x3, x4, x5, x6, x7, rfl⟩ := len8 hl
    have y0 := h64 x0 (by simp)
    have y1 := h64 x1 (by simp)
    have y2 := h64 x2 (by simp)
    have y3 := h64 x3 (by simp)
    have y4 := h64 x4 (by simp)
    have y5 := h64 x5 (by simp)
    have y6 := h64 x6 (by simp)
    have y7 := h64 x7 (by simp)
    by_cases hg : x2 ≤ 256 ∧ x4 ≤ 255 ∧ x5 ≤ 256 ∧ x7 ≤ 256
    · cases hb : headB x0 x1 (IntKind.i64.wrap x2) x3 (IntKind.i64.wrap x4) (IntKind.i64.wrap x5) x6 (IntKind.i64.wrap x7) with
      | true => exact ⟨x0, x1, IntKind.i64.wrap x2, x3, IntKind.i64.wrap x4, IntKind.i64.wrap x5, x6, IntKind.i64.wrap x7, true, fun W hW => Read_eight _ _ _ _ _ _ _ _ x2 x4 x5 x7 v W hW y0 y1 y3 y6 rfl rfl rfl rfl true hb, fun W hW => RRead_eight _ _ _ _ _ _ _ _ x2 x4 x5 x7 v W hW y0 y1 y3 y6 rfl rfl rfl rfl hg.1 hg.2.1 hg.2.2.1 hg.2.2.2 true hb⟩
      | false => exact ⟨0, 0, 0, 0, 0, 0, 0, 0, false, fun W hW => Read_eight _ _ _ _ _ _ _ _ x2 x4 x5 x7 v W hW y0 y1 y3 y6 rfl rfl rfl rfl false hb, fun W hW => RRead_eight _ _ _ _ _ _ _ _ x2 x4 x5 x7 v W hW y0 y1 y3 y6 rfl rfl rfl rfl hg.1 hg.2.1 hg.2.2.1 hg.2.2.2 false hb⟩
    · have hb : headB x0 x1 (IntKind.i64.wrap x2) x3 (IntKind.i64.wrap x4) (IntKind.i64.wrap x5) x6 (IntKind.i64.wrap x7) = false := by
        cases hb : headB x0 x1 (IntKind.i64.wrap x2) x3 (IntKind.i64.wrap x4) (IntKind.i64.wrap x5) x6 (IntKind.i64.wrap x7) with
        | false => rfl
        | true =>
          exfalso
          obtain ⟨⟨a1, a2⟩, ⟨a3, a4⟩, ⟨a5, a6⟩, ⟨a7, a8⟩, _⟩ := headB_parts hb
          have lem : ∀ x n : Int, W64 x → 0 ≤ IntKind.i64.wrap x → IntKind.i64.wrap x ≤ n → x ≤ n := fun x n hx p0 p1 => by
            rw [wrap_i64 hx.1 (by have := hx.2; omega)] at p0 p1
            by_cases hbig : x ≤ 9223372036854775807
            · rw [if_pos hbig] at p1; omega
            · rw [if_neg hbig] at p0; have := hx.2; omega
          exact hg ⟨lem _ _ y2 a1 a2, lem _ _ y4 a3 a4, lem _ _ y5 a5 a6, lem _ _ y7 a7 a8⟩
      exact ⟨0, 0, 0, 0, 0, 0, 0, 0, false, fun W hW => Read_eight _ _ _ _ _ _ _ _ x2 x4 x5 x7 v W hW y0 y1 y3 y6 rfl rfl rfl rfl false hb, fun W hW => RRead_far _ _ _ _ x2 x4 x5 x7 v W hW hg⟩
  · exact ⟨0, 0, 0, 0, 0, 0, 0, 0, false, fun W hW => Read_len l v W hW hl, fun W hW => RRead_len l v W hW hl⟩
end Hed
end Go.Proofs.YtmjdcpcndggflaaDoor

set_option linter.unusedVariables false
set_option linter.unusedSimpArgs false
namespace Go.Proofs.YtmjdcpcndggflaaDoor
namespace Hed
open Go.RowKit Go.Maps Arn

/-- Two rows of one's own: entries, handles. -/
structure RowL (w : World) (f : Int → Option Ent) (c : Int) (pre : List (Int × Ent)) (h : Int) (ve vh : Value) (W : World) : Prop where
  ents : W.ownsRow w.heap.size 26 3 ve pre.length (entCells pre)
  hnds : W.ownsRow w.heap.size 22 1 vh pre.length (u64s (hands pre))
  mid : Mid f c pre h
  turn : Frm.Turn [] w W
theorem RowL.step {w : World} {f : Int → Option Ent} {c h : Int} {pre : List (Int × Ent)} {ve vh : Value} {W W' : World} (s : RowL w f c pre h ve vh W) (hT : Frm.Turn [] W W') : RowL w f c pre h ve vh W' :=
  ⟨Frm.owns_turn s.ents hT (by simp), Frm.owns_turn s.hnds hT (by simp), s.mid, s.turn.trans hT (by simp)⟩
theorem rows_apart {W : World} {b1 b2 n1 n2 s1 s2 : Nat} {v1 v2 : Value} {x1 x2 : List Value} (h1 : W.ownsRow b1 26 s1 v1 n1 x1) (h2 : W.ownsRow b2 22 s2 v2 n2 x2) : ∀ k, v1.ownBlock = some k → v2.ownBlock ≠ some k := fun k hk e => by
  obtain ⟨cur, hc⟩ := row_blk h1 hk
  obtain ⟨cur', hc'⟩ := row_blk h2 e
  rw [hc] at hc'
  simp at hc'
theorem RowL.half {w : World} {f : Int → Option Ent} {c h : Int} {pre : List (Int × Ent)} {ve vh ve' : Value} {W w4 : World} {o : Obj} {xs : List Value} {n : Nat} (S : RowL w f c pre h ve vh W)
    (ho1 : w4.ownsRow w.heap.size 26 3 ve' n xs) (hg1 : (W.alloc o).grownBy w4 ve.ownBlock) :
    w4.ownsRow w.heap.size 22 1 vh pre.length (u64s (hands pre)) ∧ Frm.Turn ve.ownBlock.toList W w4 ∧ Frm.Turn [] w w4 := by
  have G1 : Frm.Turn ve.ownBlock.toList W w4 := (((Frm.Turn.refl [] W).alloc o).mono (by simp)).trans (Frm.Turn.of_grown hg1) (fun k hk => .inl hk)
  refine ⟨Frm.owns_turn S.hnds G1 (fun k hk hk' => ?_), G1, S.turn.trans G1 (fun k hk => ?_)⟩
  · simp at hk'
    exact rows_apart S.ents S.hnds k hk' hk
  · simp at hk
    exact .inr (S.ents.lt k hk).1
theorem RowL.more {w : World} {f : Int → Option Ent} {c h : Int} {pre : List (Int × Ent)} {ve vh ve' vh' : Value} {W w4 w5 : World} {o o' : Obj} {s n x : Int} (S : RowL w f c pre h ve vh W) (h0 : h ≠ 0) (hp : pre.length < 1000) (hf : f h = some (s, n, x))
    (ho1 : w4.ownsRow w.heap.size 26 3 ve' (pre.length + 1) (entCells pre ++ [.int .i64 s, .int .u64 n, .int .u64 x])) (hg1 : (W.alloc o).grownBy w4 ve.ownBlock)
    (ho2 : w5.ownsRow w.heap.size 22 1 vh' (pre.length + 1) (u64s (hands pre) ++ [.int .u64 h])) (hg2 : (w4.alloc o').grownBy w5 vh.ownBlock) :
    RowL w f c (pre ++ [(h, (s, n, x))]) x ve' vh' w5 := by
  obtain ⟨h1, h2, h3⟩ := S.half ho1 hg1
  have G2 : Frm.Turn vh.ownBlock.toList w4 w5 := (((Frm.Turn.refl [] w4).alloc o').mono (by simp)).trans (Frm.Turn.of_grown hg2) (fun k hk => .inl hk)
  refine ⟨?_, ?_, mid_step S.mid h0 hp hf, h3.trans G2 (fun k hk => ?_)⟩
  · have := Frm.owns_turn ho1 G2 (fun k hk hk' => by simp at hk'; exact rows_apart ho1 h1 k hk hk')
    rw [entCells_snoc]
    simpa using this
  · rw [hands_snoc]
    simpa using ho2
  · simp at hk
    exact .inr (S.hnds.lt k hk).1
/-- How the document's List answers. -/
def RListEnd (w : World) (o : Option (List (Int × Ent))) (e : Ending) (w' : World) : Prop :=
  ∃ ve vh, e = .returned (.tuple #[ve, vh, .bool o.isSome]) ∧ w'.ownsRow w.heap.size 26 3 ve (o.getD []).length (entCells (o.getD [])) ∧ w'.ownsRow w.heap.size 22 1 vh (o.getD []).length (u64s (hands (o.getD []))) ∧ Frm.Turn [] w w'
theorem rend_none {w W : World} {o : Option (List (Int × Ent))} (h : o = none) (hT : Frm.Turn [] w W) : RListEnd w o (.returned (.tuple #[.slice none 0 0, .slice none 0 0, .bool false])) W := by
  subst h
  exact ⟨_, _, rfl, World.ownsRow_nil _ _ _ _, World.ownsRow_nil _ _ _ _, hT⟩
theorem ref_len {A : Ar} (hok : A.Ok) {l : List RB} (h : l.map Prod.fst = A.L) : l.length ≤ 60000 := by
  have u1 := length_le_used (fun x hx => (hok.len x hx).1)
  have u2 := hok.top
  have u3 := hok.peak
  have u4 := hok.cap
  rw [← h, List.length_map] at u1
  rw [← h] at u2
  omega
/-- A block that At found: its words, read. -/
theorem at_found {w : World} {A : Ar} {va : Option Addr} {n vc j : Nat} {l : List RB} {y : RB} {h : Int} (hB : BlksAt w (.slice va n vc) l) (hl : l.map Prod.fst = A.L) (hok : A.Ok) (hy : l[j]? = some y) (hyh : y.1.h = h) :
    ∃ g ya yn yc, va = some ⟨g, 0, none⟩ ∧ y.2 = .slice ya yn yc ∧ j < l.length ∧ (∀ W, Frm.Turn [] w W → W.cell? ⟨g, j * 2 + 1, none⟩ = some y.2) ∧
      (∀ W, Frm.Turn [] w W → Calls Tryd.prog 17 #[y.2] W fun e w' => e = .returned (.tuple #[entV ((entsOf A.L h).getD zeroE), .bool (entsOf A.L h).isSome]) ∧ Frm.Turn [] W w') := by
  have hm := List.mem_of_getElem? hy
  have hmA : y.1 ∈ A.L := by rw [← hl]; exact List.mem_map_of_mem hm
  have hrow := hB.rows y hm
  obtain ⟨ya, yc, hyf⟩ := WordsAt.form' hrow
  have he : entsOf A.L h = readE y.1.ws := by
    rw [← hyh]
    exact entsOf_mem hmA (fun y z hy hz e => hok.h_inj hy hz e)
  rcases hB.head with ⟨_, e2⟩ | ⟨g, c', e1, _, _, hcell⟩
  · rw [e2] at hy; simp at hy
  · simp only [Value.slice.injEq] at e1
    obtain ⟨r1, r2⟩ := rbCells_get l j y hy
    refine ⟨g, ya, _, yc, e1.1, hyf, (List.getElem?_eq_some_iff.1 hy).1, fun W hT => hT.cell (hcell _ _ r2) (by simp), fun W hT => ?_⟩
    rw [he]
    exact RReadEntry_any y.1.ws y.2 W (WordsAt.turn' hrow hT) (hok.wrd _ hmA)
def sliceLen : Value → Nat
  | .slice _ n _ => n
  | _ => 0
set_option maxRecDepth 100000 in
set_option maxHeartbeats 8000000 in
theorem rlist_any (A : Ar) (u : Array Value) (v : Value) (l : List RB) (c : Int) (w : World) (hu : u = refCells A 0 0 0 0 0 0 0 0 0 v) (hl : l.map Prod.fst = A.L) (hB : BlksAt w v l) (hok : A.Ok) (hc : W64 c) :
    Calls Tryd.prog 22 #[.agg u, .int .u64 c] w fun e w' => RListEnd w (chainF (entsOf A.L) 1000 c) e w' := by
  obtain ⟨u0, hu0, uz0, uz1, uz2⟩ := info_parts info_u64
  obtain ⟨i0, hi0, hz0, hz1, hz2⟩ := info_parts info_ent
  obtain ⟨fs, hfs⟩ := struct_of under_refA
  have HFS := Lib.hid hfs
  have hlen := ref_len hok hl
  have HAT : Hid (∀ W, Frm.Turn [] w W → ∀ k, Calls Tryd.prog 34 #[.agg u, .int .u64 k] W fun e w' => AtTold l k e ∧ Frm.Turn [] W w') := Lib.hid fun W hT k => by rw [hu]; exact refAt_any A _ _ _ _ _ _ _ _ _ v l W (hB.step hT) (by omega) k
  have HSZ : Hid (u.size = 20) := Lib.hid (by rw [hu]; rfl)
  have HC13 : Hid (u[13]? = some v) := Lib.hid (by rw [hu]; rfl)
  have HEN := Lib.hid (fun k e he => ents64 hok k e he)
  have HNO : Hid (∀ k, (∀ y, y ∈ l → y.1.h ≠ k) → entsOf A.L k = none) := Lib.hid (fun k hk => entsOf_none (fun y hy => by rw [← hl] at hy; obtain ⟨z, hz, rfl⟩ := List.mem_map.1 hy; exact hk z hz))
  obtain ⟨va, vc, hvf⟩ := hB.form
  obtain ⟨ln, HLN⟩ : ∃ ln, Hid (ln = l.length) := ⟨_, Lib.hid rfl⟩
  rw [← HLN.out] at hvf hlen
  rw [hvf] at hB HC13
  have HAF := Lib.hid (fun (j : Nat) (y : RB) (h : Int) (hy : l[j]? = some y) (hyh : y.1.h = h) => at_found hB hl hok hy hyh)
  generalize entsOf A.L = f at HEN HNO HAF ⊢
  have T0 : Frm.Turn [] w (w.alloc (.cells u 46)) := (Frm.Turn.refl [] w).alloc _
  have b0 := World.alloc_heap_new w (.cells u 46)
  clear hu hB hl hok hfs hvf
  go_enter Tryd.func22, Tryd.ntmps22
  go_upto_region 3 with fail
  generalize w.alloc _ = W0 at T0 b0 ⊢
  have HT0 := Lib.hid T0
  have HB0 := Lib.hid b0
  have hw0 := T0.size
  have hst : RowL w f c [] c (.slice none 0 0) (.slice none 0 0) W0 := ⟨World.ownsRow_nil _ _ _ _, World.ownsRow_nil _ _ _ _, mid_start f c, T0⟩
  have HST := Lib.hid hst
  clear T0 b0 hst
  go_loopw [1, 7, 8] (fun cv ve vh wr => ∃ (pre : List (Int × Ent)) (h : Int), cv = .int .u64 h ∧ W64 h ∧ pre.length ≤ 1000 ∧ RowL w f c pre h ve vh wr ∧ wr.heap[w.heap.size]? = some (.cells u 46 (0, 0))) (fun _ ve _ _ => 1001 - sliceLen ve)
  case atStart => exact ⟨[], c, rfl, hc, by simp, HST.out, HB0.out⟩
  case round =>
    obtain ⟨pre, h, rfl, h64, hpl, hS, hbk⟩ := hrel
    obtain ⟨ao, ac, rfl⟩ := Frm.row_form hS.ents
    obtain ⟨bo, bc, rfl⟩ := Frm.row_form hS.hnds
    have HS := Lib.hid hS
    have HBK := Lib.hid hbk
    have hsz := hS.turn.size
    have hwl : w.heap.size < wr.heap.size := (Array.getElem?_eq_some_iff.1 hbk).1
    clear hS hbk
    by_cases hz : h = 0
    · subst hz
      have HC := Lib.hid (mid_end HS.out.mid)
      clear h64
      go_wp2
      go_ret3
      exact ⟨_, _, by rw [HC.out]; rfl, by rw [HC.out]; exact HS.out.ents, by rw [HC.out]; exact HS.out.hnds, HS.out.turn⟩
    · have t0 : (0 : Int) < h := by have := h64.1; omega
      have HH64 := Lib.hid h64
      have HZ := Lib.hid hz
      clear hz h64
      by_cases hex : ∃ y, y ∈ l ∧ y.1.h = h
      · have HA1 : Hid (∀ W, Frm.Turn [] w W → Calls Tryd.prog 34 #[.agg u, .int .u64 h] W fun e w' => (∃ (j : Nat) (y : RB), l[j]? = some y ∧ y.1.h = h ∧ e = .returned (.int .i64 (j : Int))) ∧ Frm.Turn [] W w') := Lib.hid fun W hT => (HAT.out W hT h).mono (by
          rintro e w' ⟨h1 | h1, h2⟩
          · obtain ⟨y, hy, hyh⟩ := hex
            exact absurd hyh (h1.1 y hy)
          · exact ⟨h1, h2⟩)
        clear hex
        by_cases hp : pre.length = 1000
        · have HC := Lib.hid (mid_full HS.out.mid HZ.out hp)
          have hp' : ((pre.length : Nat) : Int) = 1000 := by omega
          clear hp
          go_wp2_with (first
            | (refine wpList_load_row rfl 46 (.tmp 2) rfl w.heap.size rfl 46 u (0, 0) (.struct fs) HBK.out HFS.out rfl (by rw [HSZ.out]; exact info_refA) ?_)
            | (go_at_call 34; (with_reducible refine (HA1.out _ HS.out.turn).mono ?_); rintro e w1 ⟨⟨j, y, _, _, rfl⟩, hT⟩; have T1 := Lib.hid hT; clear hT))
          go_ret3
          exact rend_none HC.out (HS.out.turn.trans T1.out (by simp))
        · have hp' : pre.length < 1000 := by omega
          have hpe : (((pre.length : Nat) : Int) == 1000) = false := by simp; omega
          clear hp
          cases hf : f h with
          | none =>
            have HC := Lib.hid (mid_none HS.out.mid HZ.out hf)
            have HF := Lib.hid hf
            clear hf
            go_wp2_with (first
              | (refine wpList_load_row rfl 46 (.tmp 2) rfl w.heap.size rfl 46 u (0, 0) (.struct fs) HBK.out HFS.out rfl (by rw [HSZ.out]; exact info_refA) ?_)
              | (go_at_call 34; (with_reducible refine (HA1.out _ HS.out.turn).mono ?_); rintro e w1 ⟨⟨j, y, hy, hyh, rfl⟩, hT⟩; have T1 := Lib.hid (HS.out.turn.trans hT (by simp)); obtain ⟨g, ya, yn, yc, rfl, hy2, hjl, hcl, hre⟩ := HAF.out j y h hy hyh; rw [hy2] at hcl hre; rw [HF.out] at hre; have cB := hcl _ T1.out; have c13 : w1.cell? ⟨w.heap.size, 13, none⟩ = some (.slice (some ⟨g, 0, none⟩) ln vc) := (Frm.cell_row _ _ _ _ _ _ (hT.keep HBK.out (by simp))).trans HC13.out; have HRE := Lib.hid hre; have j0 : (0 : Int) ≤ (j : Int) := (by omega); have j1 : (j : Int) < (ln : Int) := (by have := HLN.out; omega); clear hT hcl hre hy hyh hy2 hjl)
              | (go_at_call 17; (with_reducible refine (HRE.out _ T1.out).mono ?_); rintro e w2 ⟨rfl, hT⟩; have T2 := Lib.hid (T1.out.trans hT (by simp)); clear hT))
            go_ret3
            exact rend_none HC.out (T2.out.alloc _)
          | some en =>
            obtain ⟨s, n, x⟩ := en
            have hx64 := HEN.out h _ hf
            have HX64 := Lib.hid hx64
            have HF := Lib.hid hf
            clear hf hx64
            go_wp2_with (first
              | (refine wpList_load_row rfl 46 (.tmp 2) rfl w.heap.size rfl 46 u (0, 0) (.struct fs) HBK.out HFS.out rfl (by rw [HSZ.out]; exact info_refA) ?_)
              | (go_at_call 34; (with_reducible refine (HA1.out _ HS.out.turn).mono ?_); rintro e w1 ⟨⟨j, y, hy, hyh, rfl⟩, hT⟩; have T1 := Lib.hid (HS.out.turn.trans hT (by simp)); have X1 := Lib.hid hT; obtain ⟨g, ya, yn, yc, rfl, hy2, hjl, hcl, hre⟩ := HAF.out j y h hy hyh; rw [hy2] at hcl hre; rw [HF.out] at hre; have cB := hcl _ T1.out; have c13 : w1.cell? ⟨w.heap.size, 13, none⟩ = some (.slice (some ⟨g, 0, none⟩) ln vc) := (Frm.cell_row _ _ _ _ _ _ (hT.keep HBK.out (by simp))).trans HC13.out; have HRE := Lib.hid hre; have j0 : (0 : Int) ≤ (j : Int) := (by omega); have j1 : (j : Int) < (ln : Int) := (by have := HLN.out; omega); clear hT hcl hre hy hyh hy2 hjl)
              | (go_at_call 17; (with_reducible refine (HRE.out _ T1.out).mono ?_); rintro e w2 ⟨rfl, hT⟩; dsimp only [entV, Option.getD_some, Option.isSome_some]; have X2 := Lib.hid (X1.out.trans hT (by simp)); have hx2 := X2.out.size; have HS3 := Lib.hid (HS.out.step (X2.out.alloc (.cells #[.int .i64 s, .int .u64 n, .int .u64 x] 26))); have HB3 := Lib.hid (heap_new w2 (.cells #[.int .i64 s, .int .u64 n, .int .u64 x] 26)); clear hT)
              | (at_builtin; (refine wpList_append_own_at _ rfl _ _ 50 rfl w.heap.size 26 i0 (.agg #[.int .i64 0, .int .u64 0, .int .u64 0]) 3 24 under_ents hi0 hz0 hz1 hz2 rfl (by decide) (.slice ao pre.length ac) pre.length (entCells pre) rfl (Frm.owns_turn HS3.out.ents ((Frm.Turn.refl [] (w2.alloc (.cells #[.int .i64 s, .int .u64 n, .int .u64 x] 26))).alloc _) (by simp)) ⟨w2.heap.size + 1, 0, none⟩ 1 1 [.int .i64 s, .int .u64 n, .int .u64 x] rfl rfl (by have hq := news3 (w2.alloc (.cells #[.int .i64 s, .int .u64 n, .int .u64 x] 26)) s n x; rw [World.size_alloc] at hq; exact hq) (by simp [Value.oneCell']) (by unfold maxLen; omega) (by omega) (by simp; omega) ?_); intro v4 w4 ho hg _ hl4; obtain ⟨a4, c4, rfl⟩ := Frm.row_form ho; have HO4 := Lib.hid ho; have HG4 := Lib.hid hg; have HH4 := Lib.hid (RowL.half HS3.out ho hg); have HB4 := Lib.hid (HH4.out.2.1.keep HB3.out (by intro hk; simp at hk; have := (HS.out.ents.lt _ hk).2; omega)); have hx4 := HH4.out.2.2.size; obtain ⟨⟨n0, n1, n2⟩, _⟩ := blk3 HB4.out; clear ho hg hl4)
              | (at_builtin; (refine wpList_append_own_at _ rfl _ _ 28 rfl w.heap.size 22 u0 (.int .u64 0) 1 8 under_u64s hu0 uz0 uz1 uz2 rfl (by decide) (.slice bo pre.length bc) pre.length (u64s (hands pre)) rfl (Frm.owns_turn HH4.out.1 ((Frm.Turn.refl [] w4).alloc _) (by simp)) ⟨w4.heap.size, 0, none⟩ 1 1 [.int .u64 h] rfl rfl (cell_one_new _ _ _) (by simp [Value.oneCell']) (by unfold maxLen; omega) (by omega) (by simp; omega) ?_); intro v5 w5 ho hg _ hl5; obtain ⟨a5, c5, rfl⟩ := Frm.row_form ho; have HS5 := Lib.hid (RowL.more HS3.out HZ.out hp' HF.out HO4.out HG4.out ho hg); have G5 : Hid (Frm.Turn (Value.slice bo pre.length bc).ownBlock.toList w4 w5) := Lib.hid ((((Frm.Turn.refl [] w4).alloc _).mono (by simp)).trans (Frm.Turn.of_grown hg) (fun k hk => .inl hk)); obtain ⟨⟨n0, n1, n2⟩, _⟩ := blk3 (G5.out.keep HB4.out (by intro hk; simp at hk; have := (HS.out.hnds.lt _ hk).2; omega)); have HBZ := Lib.hid (HS5.out.turn); clear ho hg hl5))
            have k1 := (X2.out.alloc (.cells #[.int .i64 s, .int .u64 n, .int .u64 x] 26)).keep HBK.out (by simp)
            have k2 := HH4.out.2.1.keep k1 (by intro hk; simp at hk; obtain ⟨cur, hc⟩ := row_blk HS3.out.ents hk; rw [k1] at hc; simp at hc)
            have k3 := G5.out.keep k2 (by intro hk; simp at hk; obtain ⟨cur, hc⟩ := row_blk HH4.out.1 hk; rw [k2] at hc; simp at hc)
            refine ⟨⟨pre ++ [(h, (s, n, x))], x, rfl, HX64.out, by simp; omega, HS5.out, k3⟩, ?_⟩
            simp [sliceLen]
            omega
      · have HNN := Lib.hid (HNO.out h (fun y hy e => hex ⟨y, hy, e⟩))
        have HC := Lib.hid (mid_none HS.out.mid HZ.out HNN.out)
        have HA0 : Hid (∀ W, Frm.Turn [] w W → Calls Tryd.prog 34 #[.agg u, .int .u64 h] W fun e w' => e = .returned (.int .i64 (-1)) ∧ Frm.Turn [] W w') := Lib.hid fun W hT => (HAT.out W hT h).mono (by
          rintro e w' ⟨⟨_, h1⟩ | ⟨j, y, hy, hyh, _⟩, h2⟩
          · exact ⟨h1, h2⟩
          · exact absurd ⟨y, List.mem_of_getElem? hy, hyh⟩ hex)
        clear hex
        go_wp2_with (first
          | (refine wpList_load_row rfl 46 (.tmp 2) rfl w.heap.size rfl 46 u (0, 0) (.struct fs) HBK.out HFS.out rfl (by rw [HSZ.out]; exact info_refA) ?_)
          | (go_at_call 34; (with_reducible refine (HA0.out _ HS.out.turn).mono ?_); rintro e w1 ⟨rfl, hT⟩; have T1 := Lib.hid hT; clear hT))
        go_ret3
        exact rend_none HC.out (HS.out.turn.trans T1.out (by simp))
end Hed
end Go.Proofs.YtmjdcpcndggflaaDoor

set_option linter.unusedVariables false
set_option linter.unusedSimpArgs false
namespace Go.Proofs.YtmjdcpcndggflaaDoor
namespace Hed
open Go.RowKit Go.Maps Arn

set_option maxRecDepth 100000 in
set_option maxHeartbeats 4000000 in
theorem follow_nil (c : Int) (w : World) (hc : W64 c) (o : Option (List (Int × Ent))) (ho : o = if c = 0 then some [] else none) :
    Calls Tryd.prog 33 #[.pointer none, .int .u64 c] w fun e w' => FollowEnd w o e w' := by
  have T0 : Frm.Turn [] w ((w.alloc (.cells #[.slice none 0 0, .slice none 0 0] 80)).alloc (.cells #[.slice none 0 0, .slice none 0 0] 80)) := ((Frm.Turn.refl [] w).alloc _).alloc _
  have HE := Lib.hid (entries_nil ((w.alloc (.cells #[.slice none 0 0, .slice none 0 0] 80)).alloc (.cells #[.slice none 0 0, .slice none 0 0] 80)))
  have HB0 : Hid (((w.alloc (.cells #[.slice none 0 0, .slice none 0 0] 80)).alloc (.cells #[.slice none 0 0, .slice none 0 0] 80)).heap[w.heap.size]? = some (.cells #[.slice none 0 0, .slice none 0 0] 80 (0, 0))) := Lib.hid (Ops.heap_below w _ _)
  have HB1 : Hid (((w.alloc (.cells #[.slice none 0 0, .slice none 0 0] 80)).alloc (.cells #[.slice none 0 0, .slice none 0 0] 80)).heap[w.heap.size + 1]? = some (.cells #[.slice none 0 0, .slice none 0 0] 80 (0, 0))) := Lib.hid (Ops.heap_last w _ _)
  have HT0 := Lib.hid T0
  have HLK := Lib.hid (fun W => nil_look2 W c hc)
  clear T0 hc
  go_enter Tryd.func33, Tryd.ntmps33
  go_wp2_with (go_at_call 47; (with_reducible refine (HE.out).mono ?_); rintro e W0 ⟨rfl, hT⟩; have HT := Lib.hid hT; clear hT)
  go_loopw [8] (fun hv wr => hv = .int .u64 c ∧ wr = W0) (fun _ _ => 0)
  case atStart => exact ⟨rfl, rfl⟩
  case round =>
    obtain ⟨rfl, rfl⟩ := hrel
    have hb0 := HT.out.keep HB0.out (by simp)
    have hb1 := HT.out.keep HB1.out (by simp)
    have TW := Lib.hid (HT0.out.trans HT.out (by simp))
    obtain ⟨⟨r0, r1⟩, q0, q1⟩ := Ops.blk2 hb1
    by_cases hz : c = 0
    · rw [if_pos hz] at ho
      subst hz
      subst ho
      obtain ⟨⟨e0, e1⟩, f0, f1⟩ := Ops.blk2 hb0
      clear hb0 hb1
      go_wp2
      refine bodyPost_ret (v := .tuple #[.agg #[.slice none 0 0, .slice none 0 0], .bool true]) (by simp [results, Tryd.results33, go_sem, e0, e1]) rfl ?_
      exact .inr ⟨[], _, _, rfl, rfl, World.ownsRow_nil _ _ _ _, World.ownsRow_nil _ _ _ _, (TW.out.setCell (p := ⟨w.heap.size, 0, none⟩) (.inr (Nat.le_refl _)) _).setCell (p := ⟨w.heap.size, 1, none⟩) (.inr (Nat.le_refl _)) _⟩
    · rw [if_neg hz] at ho
      subst ho
      have t0 : (c != 0) = true := by simpa using hz
      have hlk := HLK.out
      dsimp only [entV] at hlk
      obtain ⟨⟨e0, e1⟩, f0, f1⟩ := Ops.blk2 (((Frm.Turn.refl [] wr).alloc (.cells #[.int .i64 0, .int .u64 0, .int .u64 0] 26)).keep hb0 (by simp))
      clear hb0 hb1 hz
      go_wp2
      refine bodyPost_ret (v := .tuple #[.agg #[.slice none 0 0, .slice none 0 0], .bool false]) (by simp [results, Tryd.results33, go_sem, e0, e1]) rfl ?_
      exact .inl ⟨rfl, rfl, ((TW.out.alloc _).setCell (p := ⟨w.heap.size, 0, none⟩) (.inr (Nat.le_refl _)) _).setCell (p := ⟨w.heap.size, 1, none⟩) (.inr (Nat.le_refl _)) _⟩
theorem list_nil (w : World) : Calls Tryd.prog 20 #[.pointer none, .int .u64 0] w fun e w' => ∃ a n c, e = .returned (.tuple #[.slice a n c, .bool true]) ∧ Frm.Turn [] w w' := by
  refine (List_of _ 0 w _ (follow_nil 0 w ⟨by omega, by omega⟩ (some []) rfl)).mono ?_
  rintro e w' (⟨h1, _⟩ | ⟨p, v, h1, rfl, h2, h3⟩)
  · cases h1
  · obtain ⟨a, c, rfl⟩ := Frm.row_form h2
    exact ⟨_, _, _, rfl, h3⟩
theorem hands_nil (w : World) : Calls Tryd.prog 21 #[.pointer none, .int .u64 65537] w fun e w' => e = .returned (.tuple #[.slice none 0 0, .bool false]) ∧ Frm.Turn [] w w' := by
  refine (Handles_of _ 65537 w _ (follow_nil 65537 w ⟨by omega, by omega⟩ none rfl)).mono ?_
  rintro e w' (⟨_, h1, h2⟩ | ⟨p, v, h1, _⟩)
  · exact ⟨h1, h2⟩
  · cases h1
/-- List and Handles in one form. -/
theorem list_one {w : World} {b : Nat} {M : Mem} {A : Ar} (h : ArAt w b M A) (hk : Ops.Kn w) (c : Int) (hc : W64 c) :
    Calls Tryd.prog 20 #[.pointer (some ⟨b, 0, none⟩), .int .u64 c] w fun e w' => ∃ v, e = .returned (.tuple #[v, .bool (chainF (entsOf A.L) 1000 c).isSome]) ∧ w'.ownsRow w.heap.size 26 3 v ((chainF (entsOf A.L) 1000 c).getD []).length (entCells ((chainF (entsOf A.L) 1000 c).getD [])) ∧ Frm.Turn [] w w' := by
  refine (List_of _ c w _ (follow_any h hk c hc)).mono ?_
  rintro e w' (⟨h1, rfl, h2⟩ | ⟨p, v, h1, rfl, h2, h3⟩)
  · rw [h1]; exact ⟨_, rfl, World.ownsRow_nil _ _ _ _, h2⟩
  · rw [h1]; exact ⟨v, rfl, h2, h3⟩
theorem hands_one {w : World} {b : Nat} {M : Mem} {A : Ar} (h : ArAt w b M A) (hk : Ops.Kn w) (c : Int) (hc : W64 c) :
    Calls Tryd.prog 21 #[.pointer (some ⟨b, 0, none⟩), .int .u64 c] w fun e w' => ∃ v, e = .returned (.tuple #[v, .bool (chainF (entsOf A.L) 1000 c).isSome]) ∧ w'.ownsRow w.heap.size 22 1 v ((chainF (entsOf A.L) 1000 c).getD []).length (u64s (hands ((chainF (entsOf A.L) 1000 c).getD []))) ∧ Frm.Turn [] w w' := by
  refine (Handles_of _ c w _ (follow_any h hk c hc)).mono ?_
  rintro e w' (⟨h1, rfl, h2⟩ | ⟨p, v, h1, rfl, h2, h3⟩)
  · rw [h1]; exact ⟨_, rfl, World.ownsRow_nil _ _ _ _, h2⟩
  · rw [h1]; exact ⟨v, rfl, h2, h3⟩
theorem chain_short {f : Int → Option Ent} {c : Int} : ((chainF f 1000 c).getD []).length ≤ 1000 := by
  cases h : chainF f 1000 c with
  | none => simp
  | some l => simpa using chain_len h
theorem eq_tal_at (d : Nat) (w : World) (a0 a1 a2 a3 a4 a5 : Int) : (Op.equalIn (d + 2) 44 (.agg #[.int .i64 a0, .int .i64 a1, .int .i64 a2, .int .i64 a3, .int .i64 a4, .int .i64 a5]) (.agg #[.int .i64 a0, .int .i64 a1, .int .i64 a2, .int .i64 a3, .int .i64 a4, .int .i64 a5])).run Tryd.prog w = .ok true w := by
  rw [run_equalIn_struct w (d + 1) 44 _ _ (by kernel_rfl) (by kernel_rfl)]
  have p0 : ∀ x0 x1 x2 x3 x4 x5 : Int, (part 3 #[.int .i64 x0, .int .i64 x1, .int .i64 x2, .int .i64 x3, .int .i64 x4, .int .i64 x5] 0).run Tryd.prog w = .ok (.int .i64 x0) w := fun x0 x1 x2 x3 x4 x5 => by kernel_rfl
  have p1 : ∀ x0 x1 x2 x3 x4 x5 : Int, (part 3 #[.int .i64 x0, .int .i64 x1, .int .i64 x2, .int .i64 x3, .int .i64 x4, .int .i64 x5] 1).run Tryd.prog w = .ok (.int .i64 x1) w := fun x0 x1 x2 x3 x4 x5 => by kernel_rfl
  have p2 : ∀ x0 x1 x2 x3 x4 x5 : Int, (part 3 #[.int .i64 x0, .int .i64 x1, .int .i64 x2, .int .i64 x3, .int .i64 x4, .int .i64 x5] 2).run Tryd.prog w = .ok (.int .i64 x2) w := fun x0 x1 x2 x3 x4 x5 => by kernel_rfl
  have p3 : ∀ x0 x1 x2 x3 x4 x5 : Int, (part 3 #[.int .i64 x0, .int .i64 x1, .int .i64 x2, .int .i64 x3, .int .i64 x4, .int .i64 x5] 3).run Tryd.prog w = .ok (.int .i64 x3) w := fun x0 x1 x2 x3 x4 x5 => by kernel_rfl
  have p4 : ∀ x0 x1 x2 x3 x4 x5 : Int, (part 3 #[.int .i64 x0, .int .i64 x1, .int .i64 x2, .int .i64 x3, .int .i64 x4, .int .i64 x5] 4).run Tryd.prog w = .ok (.int .i64 x4) w := fun x0 x1 x2 x3 x4 x5 => by kernel_rfl
  have p5 : ∀ x0 x1 x2 x3 x4 x5 : Int, (part 3 #[.int .i64 x0, .int .i64 x1, .int .i64 x2, .int .i64 x3, .int .i64 x4, .int .i64 x5] 5).run Tryd.prog w = .ok (.int .i64 x5) w := fun x0 x1 x2 x3 x4 x5 => by kernel_rfl
  have eI := fun x : Int => run_equalIn_int (P := Tryd.prog) w d 3 .i64 .i64 x x Tryd.underlying3
  have hf : (Tryd.prog.fieldsOf 44).toList.map (fun f => (f.name, f.type, f.offset)) = [("Lays", 3, 0), ("Frees", 3, 1), ("Reads", 3, 2), ("Writes", 3, 3), ("Swaps", 3, 4), ("Adds", 3, 5)] := by kernel_rfl
  obtain ⟨g0, r0, hl, h0, k0⟩ := List.map_eq_cons_iff.1 hf
  obtain ⟨g1, r1, rfl, h1, k1⟩ := List.map_eq_cons_iff.1 k0
  obtain ⟨g2, r2, rfl, h2, k2⟩ := List.map_eq_cons_iff.1 k1
  obtain ⟨g3, r3, rfl, h3, k3⟩ := List.map_eq_cons_iff.1 k2
  obtain ⟨g4, r4, rfl, h4, k4⟩ := List.map_eq_cons_iff.1 k3
  obtain ⟨g5, r5, rfl, h5, k5⟩ := List.map_eq_cons_iff.1 k4
  obtain rfl := List.map_eq_nil_iff.1 k5
  simp only [Prod.mk.injEq] at h0 h1 h2 h3 h4 h5
  obtain ⟨n0, s0, o0⟩ := h0
  obtain ⟨n1, s1, o1⟩ := h1
  obtain ⟨n2, s2, o2⟩ := h2
  obtain ⟨n3, s3, o3⟩ := h3
  obtain ⟨n4, s4, o4⟩ := h4
  obtain ⟨n5, s5, o5⟩ := h5
  rw [hl]
  simp [Op.eqFields, Sem.run_bind, n0, s0, o0, p0, n1, s1, o1, p1, n2, s2, o2, p2, n3, s3, o3, p3, n4, s4, o4, p4, n5, s5, o5, p5, eI]
theorem eq_tal (w : World) (a0 a1 a2 a3 a4 a5 : Int) : (Op.equalIn 10000 44 (.agg #[.int .i64 a0, .int .i64 a1, .int .i64 a2, .int .i64 a3, .int .i64 a4, .int .i64 a5]) (.agg #[.int .i64 a0, .int .i64 a1, .int .i64 a2, .int .i64 a3, .int .i64 a4, .int .i64 a5])).run Tryd.prog w = .ok true w := eq_tal_at 9998 w a0 a1 a2 a3 a4 a5
end Hed
end Go.Proofs.YtmjdcpcndggflaaDoor
