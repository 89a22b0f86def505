/- Both arenas beside parts: what a call by value of the document's arena leaves; blocks laid; places. (As in stage 14's HoldParts, HoldMid, without environments.) -/
/- Law 15's arena, plainly, and a sweep that runs alone. No program is spoken of here. -/
/- A case of law 15: great, block, places. -/
/- What law 15's set goes by: both arenas beside blocks; the segments are laid beside a result's own block. -/
import Derived.Test.YtpajafecodkndaaGreatHoldKit
import Derived.Test.YtpajafecodkndaaGreatHoldSegs
import Derived.Test.YtpajafecodkndaaGreatHoldLaw
import Derived.Test.YtpajafecodkndaaGreatAttFirst
import Derived.Test.YtpajafecodkndaaGreatAttStep
import Derived.Test.YtpajafecodkndaaGreatHoldGreat
import Derived.Great.BuildSlice
import Derived.Deep.MidRow
import Derived.Test.YtpajafecodkndaaGreatCountFirst
set_option linter.unusedVariables false
set_option linter.unusedSimpArgs false
namespace Go.Proofs.YtpajafecodkndaaGreat
namespace Att
open Go.RowKit Go.Maps Arn Pac Clm Cnt Sta Hld

variable {w W W' : World} {b k n r q eb mb : Nat} {A B : Ar} {ps : List Part} {v lv : Value} {CS : Array Value} {G : List Nat} {seg root h nn : Int} {s : Nat}
structure LimB (A : Ar) : Prop where
  ok : A.Ok
  faults : A.faults ≤ 100000000
  births : A.births ≤ 100000000
  lays : A.t.lays ≤ 100000000
def LimW (A : Ar) : Prop := LimB A ∧ A.t.writes ≤ 100000000
theorem sta_lim (S : Stash w b A k ps W) (hk : k ≤ 1000000) : LimW A := by
  have h := S.kin.choose_spec.1.low
  have hb := S.kin.born
  exact ⟨⟨S.kin.ok, by have := h.faults; omega, by omega, by have := h.lays; omega⟩, by have := h.writes; omega⟩
def mP (mb : Nat) (A : Ar) (CS : Array Value) (G : List Nat) : Part := ⟨[mb], G, fun W => W.heap[mb]? = some (.cells CS 37 (0, 0)) ∧ RefS W A (.agg CS) G⟩
theorem mP_fra (mb : Nat) (A : Ar) (CS : Array Value) (G : List Nat) : (mP mb A CS G).Fra := fun W W' F h ht h1 h2 => ⟨ht.keep h.1 (h1 mb (by simp [mP])), h.2.turn ht (fun q hq => h2 q (by simpa [mP] using hq))⟩
def zA20 : Array Value := #[.int .i64 0, .int .i64 0, .int .i64 0, .int .i64 0, .int .u64 0, .int .u64 0, .int .u64 0, .int .u64 0, .int .u64 0, .int .u64 0, .int .u64 0, .int .u64 0, .int .u64 0, .slice none 0 0, .int .i64 0, .int .i64 0, .int .i64 0, .int .i64 0, .int .i64 0, .int .i64 0]
/-- A list of before is laid. -/
theorem lay_o (S : Stash w b A k ps W) (hk : k ≤ 10000000) {v : Value} {ws : List Int} (hv : WordsAt W v ws) (ha : ws ≠ [] → ∀ q, v.ownBlock = some q → q < w.heap.size) (hw : ∀ x, x ∈ ws → W64 x) :
    Calls Tryz.prog 10 #[.pointer (some ⟨b, 0, none⟩), v] W fun e w' => e = .returned (.tuple #[.int .u64 (A.lay ws).2.1, .int .i64 (A.lay ws).2.2]) ∧ Stash w b (A.lay ws).1 (k + 1) ps w' := by
  obtain ⟨M, h1, h2⟩ := S.kin
  refine (sin_lay h1 (by omega) hv (fun hne j hj hj' => by have := ha hne j hj; have := h1.new j hj'; omega) hw).mono ?_
  rintro e w' ⟨he, h3⟩
  obtain ⟨k1, k2⟩ := kin_after h1 h2 h3
  exact ⟨he, S.but k1 k2⟩
theorem mp_row {CM : Array Value} {GM : List Nat} (S : Stash w b A k ps W) (hm : mP mb B CM GM ∈ ps) : W.heap[mb]? = some (.cells CM 37 (0, 0)) ∧ CM.size = 20 ∧ CM.all (·.oneCell') = true := by
  obtain ⟨h1, h2⟩ := S.on _ hm
  obtain ⟨CS', e, h3, h4⟩ := h2.row
  cases e
  exact ⟨h1, h3, h4⟩
/-- What a call by value of the document's arena leaves. -/
def MNext (W0 : World) (CM' : Array Value) (A' : Ar) (GM GM' : List Nat) (W : World) : Prop := CM'.size = 20 ∧ CM'.all (·.oneCell') = true ∧ RefS W A' (.agg CM') GM' ∧ Frm.Turn [] W0 W ∧ ∀ x, x ∈ GM' → x ∈ GM ∨ (W0.heap.size ≤ x ∧ x < W.heap.size)
theorem mput {CM CM' : Array Value} {GM GM' : List Nat} {A' : Ar} (S : Stash w b A k (mP mb B CM GM :: ps) W) (h : MNext W CM' A' GM GM' W') : Stash w b A k (mP mb A' CM' GM' :: ps) (W'.setRow mb CM') := by
  obtain ⟨h1, h2, h3, h4, h5⟩ := h
  have hM := S.on _ (List.mem_cons_self ..)
  have hlt := S.lt (List.mem_cons_self ..) (x := mb) (in_own (by simp [mP]))
  have hself : mb ∉ GM := S.self _ (List.mem_cons_self ..) mb (by simp [mP])
  have hg : mb ∉ GM' := fun hx => by
    rcases h5 mb hx with e | ⟨e, _⟩
    · exact hself e
    · omega
  have hT : Frm.Turn [mb] W (W'.setRow mb CM') := setRow_turn (h4.mono (by simp)) (.inl (by simp)) CM'
  have hT2 : Frm.Turn [mb] W' (W'.setRow mb CM') := setRow_turn (Frm.Turn.refl _ W') (.inl (by simp)) CM'
  have hz := hT2.size
  refine S.act hT (by simp [mP]) (mP_fra _ _ _ _) ⟨Cnt.row_set CM' (h4.keep hM.1 (by simp)), h3.turn hT2 (fun x hx => by simp only [List.mem_singleton]; rintro rfl; exact hg hx)⟩ (fun x hx => .inl hx) (fun x hx => ?_) (fun x hx hx' => ?_)
  · rcases h5 x hx with e | ⟨e1, e2⟩
    · exact .inl ⟨_, List.mem_cons_self .., e⟩
    · exact .inr ⟨e1, by omega⟩
  · simp only [mP, List.mem_singleton] at hx
    subst hx
    exact hg hx'
theorem mlay_h {CM : Array Value} {GM : List Nat} {ws : List Int} {v : Value} (S : Stash w b A k ps W) (hm : mP mb B CM GM ∈ ps) (lB : LimW B) (hv : WordsAt W v ws) (hws : ws.length ≤ 1000000) :
    Calls Tryz.prog 11 #[.agg CM, v] W fun e w' => ∃ CM' GM', e = .returned (.tuple #[.agg CM', .int .u64 (B.lay ws).2.1, .int .i64 (B.lay ws).2.2]) ∧ MNext W CM' (B.lay ws).1 GM GM' w' := by
  refine (refLay_s B (.agg CM) GM W (S.on _ hm).2 lB.1.ok (by have := lB.1.births; omega) (by have := lB.1.lays; omega) v ws hv (by omega)).mono ?_
  rintro e w' ⟨u', G', rfl, h1, h2, h3⟩
  obtain ⟨CM', rfl, z1, z2⟩ := h1.row
  exact ⟨CM', G', rfl, z1, z2, h1, h2, h3⟩
theorem lay64 {A : Ar} (ok : A.Ok) (hb : A.births ≤ 1000000) (ws : List Int) : W64 (A.lay ws).2.1 := by
  have hl := lead_small ok
  unfold Ar.lay
  split
  · exact w64_zero
  split
  · exact w64_zero
  · unfold W64; dsimp only; omega
theorem words_low {w0 : World} {v : Value} {ws : List Int} (h : WordsAt w0 v ws) (hne : ws ≠ []) {q : Nat} (hq : v.ownBlock = some q) : q < w0.heap.size := by
  obtain ⟨a, c, rfl, h2⟩ := wordsAt_cell h (List.length_pos_iff.2 hne)
  have h3 := cell_blt (h2 0 _ (u64s_get (List.length_pos_iff.2 hne)))
  rw [add_0] at h3
  simp [Value.ownBlock] at hq
  omega
def sgQ (p : Nat) : Int := if p = 0 then 65537 else 131074
def oPl : Obj := .cells #[.int .u64 65537, .int .i64 0, .int .u64 131074, .int .i64 1, .int .u64 131074, .int .i64 2] 46
theorem pl_cells {pl : Nat} (S : Stash w b A k ps W) (hm : bkP pl oPl ∈ ps) {p : Nat} (hp : p < 3) : W.cell? ⟨pl, p * 2, none⟩ = some (.int .u64 (sgQ p)) ∧ W.cell? ⟨pl, p * 2 + 1, none⟩ = some (.int .i64 (p : Int)) := by
  have h : W.heap[pl]? = some oPl := S.on _ hm
  unfold oPl at h
  rw [Frm.cell_row _ _ _ _ _ _ h, Frm.cell_row _ _ _ _ _ _ h]
  have : p = 0 ∨ p = 1 ∨ p = 2 := by omega
  rcases this with rfl | rfl | rfl <;> exact ⟨rfl, rfl⟩
end Att
end Go.Proofs.YtpajafecodkndaaGreat

set_option linter.unusedVariables false
set_option linter.unusedSimpArgs false
namespace Go.Proofs.YtpajafecodkndaaGreat
namespace Att
open Arn Clm Cnt Hld

variable {A : Ar} {f f' : Nat → Nat → Int} {xs ys l0 : List Int} {m : Nat}
/-- Two segments, blocks; no fault. -/
structure SetA (A : Ar) (f : Nat → Nat → Int) (xs : List Int) : Prop where
  seg : ColB.SegB A 2 f
  clean : A.faults = 0
  row : ∀ x, x ∈ xs → ∃ ws, A.row x = some ws ∧ 1 ≤ ws.length
  ne : ∀ x, x ∈ xs → x ≠ 0 ∧ x ≠ hS 0 ∧ x ≠ hS 1
  w64 : ∀ x, x ∈ xs → W64 x
theorem mem_fil {x : Int} {l : List Int} {p : Int → Bool} (h : x ∈ l.filter p) : x ∈ l := (List.mem_filter.1 h).1
theorem SetA.sub (h : SetA A f xs) (hs : ∀ x, x ∈ ys → x ∈ xs) : SetA A f ys := ⟨h.seg, h.clean, fun x hx => h.row x (hs x hx), fun x hx => h.ne x (hs x hx), fun x hx => h.w64 x (hs x hx)⟩
theorem setA_start (S : SegA A 2 zF) : SetA A zF [] := ⟨ColB.segB_of S, S.clean, by simp, by simp, by simp⟩
theorem SetA.hS_ne (h : SetA A f xs) {x : Int} (hx : x ∈ xs) {g : Nat} (hg : g < 2) : hS g ≠ x := by
  obtain ⟨h0, h1, h2⟩ := h.ne x hx
  have : g = 0 ∨ g = 1 := by omega
  rcases this with rfl | rfl
  · exact fun e => h1 e.symm
  · exact fun e => h2 e.symm
/-- A block is laid, or not. -/
theorem SetA.lay (h : SetA A f xs) {ws : List Int} (hb : A.births ≤ 100000) (hw : ∀ v, v ∈ ws → W64 v) : SetA (A.lay ws).1 f (if (A.lay ws).2.1 = 0 then xs else xs ++ [(A.lay ws).2.1]) := by
  by_cases c1 : ws.length < 1 ∨ 2048 < ws.length
  · have e : A.lay ws = (A, 0, 2) := by unfold Ar.lay; rw [if_pos c1]
    rw [e]; exact h
  by_cases c2 : A.cap < used A.L + ws.length
  · have e : A.lay ws = (A, 0, 20) := by unfold Ar.lay; rw [if_neg c1, if_pos c2]
    rw [e]; exact h
  have hok := lay_ok h.seg.ok (ws := ws) (by omega) (by omega) (by omega) (by omega) hw
  have hr := fun k => row_lay (A := A) (k := k) h.seg.ok (ws := ws) (by omega) (by omega) (by omega) (by omega)
  obtain ⟨r1, r2, r3, -⟩ := hr 0
  rw [if_neg r2]
  have hg : ∀ g, g < 2 → hS g ≠ (A.lay ws).2.1 := fun g hg e => by
    have := h.seg.row g hg
    rw [e, r3] at this
    cases this
  have hx : ∀ x, x ∈ xs → x ≠ (A.lay ws).2.1 := fun x hx e => by
    obtain ⟨w', h1, _⟩ := h.row x hx
    rw [e, r3] at h1
    cases h1
  have e : (A.lay ws).1.fixed = A.fixed ∧ (A.lay ws).1.faults = A.faults := by
    unfold Ar.lay; rw [if_neg c1, if_neg c2]; exact ⟨rfl, rfl⟩
  have e64 : W64 (A.lay ws).2.1 := by
    have hl := lead_le A.L 0
    have hlu := length_le_used (l := A.L) (fun x hx => (h.seg.ok.len x hx).1)
    have := h.seg.ok.cap; have := h.seg.ok.top; have := h.seg.ok.peak
    unfold Ar.lay; rw [if_neg c1, if_neg c2]; unfold W64; dsimp only; omega
  refine ⟨⟨hok, fun g hg' => ?_, fun g hg' => ?_⟩, by rw [e.2]; exact h.clean, fun x hx' => ?_, fun x hx' => ?_, fun x hx' => ?_⟩
  · rw [(hr (hS g)).2.2.2, if_neg (hg g hg')]; exact h.seg.row g hg'
  · rw [e.1]; exact h.seg.fx g hg'
  · rcases List.mem_append.1 hx' with h1 | h1
    · rw [(hr x).2.2.2, if_neg (hx x h1)]; exact h.row x h1
    · rw [List.mem_singleton.1 h1, (hr _).2.2.2, if_pos rfl]; exact ⟨ws, rfl, by omega⟩
  · rcases List.mem_append.1 hx' with h1 | h1
    · exact h.ne x h1
    · rw [List.mem_singleton.1 h1]; exact ⟨r2, fun e => hg 0 (by omega) e.symm, fun e => hg 1 (by omega) e.symm⟩
  · rcases List.mem_append.1 hx' with h1 | h1
    · exact h.w64 x h1
    · rw [List.mem_singleton.1 h1]; exact e64
theorem rowF_set2 (n g j : Nat) (f : Nat → Nat → Int) (v : Int) : (rowF n (f g)).set j v = rowF n (upd2 f g j v g) := by
  rw [rowF_set]
  congr 1
  funext y
  unfold upd2
  by_cases e : y = j <;> simp [e]
/-- A word of a segment is another one. -/
theorem SetA.set (h : SetA A f xs) {g j : Nat} {v : Int} (hg : g < 2) (hv : W64 v) : SetA (A.set (hS g) j v) (upd2 f g j v) xs := by
  have hr := fun k => row_set A (hS g) j v k
  have e : (A.set (hS g) j v).fixed = A.fixed ∧ (A.set (hS g) j v).faults = A.faults := by unfold Ar.set; rw [if_neg (Cnt.hS_ne g)]; exact ⟨rfl, rfl⟩
  refine ⟨⟨h.seg.ok.set hv, fun g' hg' => ?_, fun g' hg' => by rw [e.1]; exact h.seg.fx g' hg'⟩, by rw [e.2]; exact h.clean, fun x hx => ?_, h.ne, h.w64⟩
  · rw [hr]
    by_cases e1 : g' = g
    · subst e1
      rw [if_pos rfl, h.seg.row g' hg', Option.map_some, show ((j : Int)).toNat = j by omega, rowF_set2]
    · rw [if_neg (fun e2 => e1 (hS_inj e2)), h.seg.row g' hg']
      congr 2
      funext y
      unfold upd2
      rw [if_neg (fun e2 => e1 e2.1)]
  · rw [hr, if_neg (fun e2 => h.hS_ne hx hg e2.symm)]
    exact h.row x hx
theorem SetA.tally (h : SetA A f xs) (t : Tal) : SetA { A with t := t } f xs := ⟨h.seg.tally t, h.clean, h.row, h.ne, h.w64⟩
theorem SetA.write (h : SetA A f xs) {g j : Nat} {v : Int} (hg : g < 2) (hj : j < 7 * 2 ^ g) (hv : W64 v) : SetA (A.write (hS g) j v).1 (upd2 f g j v) xs := by
  unfold Ar.write
  rw [if_pos (h.seg.at_ hg hj).1]
  exact (h.set hg hv).tally _
theorem SetA.add (h : SetA A f xs) {g j : Nat} {v : Int} (hg : g < 2) (hj : j < 7 * 2 ^ g) : SetA (A.add (hS g) j v).1 (upd2 f g j ((f g j + v) % 18446744073709551616)) xs := by
  obtain ⟨e1, e2⟩ := h.seg.at_ hg hj
  unfold Ar.add
  rw [if_pos e1, e2]
  exact (h.set hg (by unfold W64; omega)).tally _
theorem SetA.read (h : SetA A f xs) {g j : Nat} (hg : g < 2) (hj : j < 7 * 2 ^ g) : (A.read (hS g) j).2.1 = f g j ∧ SetA (A.read (hS g) j).1 f xs := by
  obtain ⟨e1, e2⟩ := h.seg.at_ hg hj
  unfold Ar.read
  rw [if_pos e1, e2]
  exact ⟨rfl, h.tally _⟩
theorem SetA.acc (h : SetA A f xs) {C : Col.Co} (F : C.Fit 2) : SetA (C.acc A) f xs := by
  have hp := Col.pow16 (show C.g ≤ 4 by have := F.gn; omega)
  unfold Col.Co.acc
  by_cases h0 : C.ph = 0
  · rw [if_pos h0]
    obtain ⟨e1, e2⟩ := h.seg.fixed (show C.g < 8 by have := F.gn; omega)
    unfold Ar.read
    rw [if_pos e1]
    exact h.tally _
  · by_cases h1 : C.ph = 1
    · obtain ⟨l1, l2, l3, l4⟩ := F.look h1
      rw [if_neg h0, if_pos h1]
      exact (h.read (j := 5 * 2 ^ C.g + C.node) l1 (by omega)).2
    · rw [if_neg h0, if_neg h1]; exact h
/-- A block is freed. -/
theorem SetA.free (h : SetA A f xs) {x : Int} (hx : x ∈ xs) : SetA (A.free x).1 f (xs.filter fun y => decide (y ≠ x)) ∧ (A.free x).1.row x = none := by
  obtain ⟨ws, r1, r2⟩ := h.row x hx
  have hx0 := (h.ne x hx).1
  have hh : hasH A.L x = true := by
    unfold Ar.row at r1
    rw [if_neg hx0] at r1
    exact look_has r1
  have hok := free_ok h.seg.ok x
  unfold Ar.free at hok ⊢
  rw [if_pos hh] at hok ⊢
  have hr : ∀ k, ({ A with L := Arn.drop A.L x, t := { A.t with frees := A.t.frees + 1 } } : Ar).row k = if k = x then none else A.row k := fun k => by
    unfold Ar.row
    by_cases e : k = 0
    · subst e; rw [if_pos rfl, if_neg (fun e => hx0 e.symm), if_pos rfl]
    · rw [if_neg e, if_neg e]; exact look_drop _ _ _
  refine ⟨⟨⟨hok, fun g hg => ?_, h.seg.fx⟩, h.clean, fun y hy => ?_, fun y hy => h.ne y (mem_fil hy), fun y hy => h.w64 y (mem_fil hy)⟩, ?_⟩
  · rw [hr, if_neg (h.hS_ne hx hg)]; exact h.seg.row g hg
  · obtain ⟨h1, h2⟩ := List.mem_filter.1 hy
    rw [hr, if_neg (by simpa using h2)]
    exact h.row y h1
  · rw [hr, if_pos rfl]
theorem SetA.size (h : SetA A f xs) {x : Int} (hx : x ∈ xs) : A.size x ≠ 0 := by
  obtain ⟨ws, r1, r2⟩ := h.row x hx
  unfold Ar.row at r1
  rw [if_neg (h.ne x hx).1] at r1
  unfold Ar.size
  rw [r1]
  show ws.length ≠ 0
  omega
/-! ### what a case makes of the segments -/
/-- Behind k counts of a slot. -/
def addsF (s : Nat) (f : Nat → Nat → Int) : Nat → Nat → Nat → Int
  | 0 => f
  | k + 1 => upd2 (addsF s f k) (sgN s) (adN s k) ((addsF s f k (sgN s) (adN s k) + 1) % 18446744073709551616)
/-- Behind k holds of a slot. -/
def holdF (H : Nat → Int) (s : Nat) (f : Nat → Nat → Int) : Nat → Nat → Nat → Int
  | 0 => f
  | k + 1 => upd2 (holdF H s f k) (sgN s) (5 * ofN s + (3 + k)) (H (2 * s + k))
/-- Behind i slots. -/
def slotF (H : Nat → Int) (I : Nat → Bool) : Nat → Nat → Nat → Int
  | 0 => zF
  | i + 1 => if I i then addsF i (holdF H i (slotF H I i) 2) (sgN i + 1) else holdF H i (slotF H I i) 2
def bit (b : Bool) : Int := if b then 1 else 0
theorem slotF_at (H : Nat → Int) (I : Nat → Bool) : (slotF H I 3 0 3 = H 0 ∧ slotF H I 3 0 4 = H 1 ∧ slotF H I 3 1 3 = H 2 ∧ slotF H I 3 1 4 = H 3 ∧ slotF H I 3 1 8 = H 4 ∧ slotF H I 3 1 9 = H 5) ∧
    slotF H I 3 0 6 = bit (I 0) ∧ slotF H I 3 1 11 = bit (I 1) + bit (I 2) ∧ slotF H I 3 1 12 = bit (I 1) ∧ slotF H I 3 1 13 = bit (I 2) := by
  have u1 : slotF H I 1 = if I 0 then addsF 0 (holdF H 0 zF 2) (sgN 0 + 1) else holdF H 0 zF 2 := rfl
  have u2 : slotF H I 2 = if I 1 then addsF 1 (holdF H 1 (slotF H I 1) 2) (sgN 1 + 1) else holdF H 1 (slotF H I 1) 2 := rfl
  have u3 : slotF H I 3 = if I 2 then addsF 2 (holdF H 2 (slotF H I 2) 2) (sgN 2 + 1) else holdF H 2 (slotF H I 2) 2 := rfl
  rw [u3, u2, u1]
  cases I 0 <;> cases I 1 <;> cases I 2 <;> exact ⟨⟨rfl, rfl, rfl, rfl, rfl, rfl⟩, rfl, rfl, rfl, rfl⟩
/-! ### a collect alone -/
theorem step_same {C : Col.Co} (F : C.Fit 2) (h : ∀ g v, g < 2 → 1 ≤ v → v < 2 * 2 ^ g → f g (5 * 2 ^ g + v) = f' g (5 * 2 ^ g + v)) : C.step 2 f = C.step 2 f' := by
  unfold Col.Co.step
  by_cases h1 : C.ph = 1
  · obtain ⟨l1, l2, l3, l4⟩ := F.look h1
    rw [h _ _ l1 l2 l3]
  · by_cases h0 : C.ph = 0
    · rw [if_pos h0, if_pos h0]
    · rw [if_neg h0, if_neg h0, if_neg h1, if_neg h1]
def tabF (a b c : Bool) (g j : Nat) : Int := if g = 0 then (if j = 6 then bit a else 0) else if j = 11 then bit b + bit c else if j = 12 then bit b else if j = 13 then bit c else 0
def coJ (a b c : Bool) : Nat → Col.Co
  | 0 => Col.Co.new
  | j + 1 => (coJ a b c j).step 2 (tabF a b c)
theorem coJ_fit (a b c : Bool) : ∀ j, (coJ a b c j).Fit 2
  | 0 => Col.fit_new 2
  | j + 1 => Col.fit_step (by omega) (coJ_fit a b c j)
def inB (a b c : Bool) : List Nat := (if a then [0] else []) ++ (if b then [1] else []) ++ (if c then [2] else [])
theorem coJ_end : ∀ a b c : Bool, (coJ a b c 8).ph = 2 ∧ ∀ j : Fin 9, (coJ a b c j.val).ph = 2 → (coJ a b c j.val).L = inB a b c := by decide +kernel
theorem coJ_step {a b c : Bool} {j : Nat} (ht : ∀ g v, g < 2 → 1 ≤ v → v < 2 * 2 ^ g → f g (5 * 2 ^ g + v) = tabF a b c g (5 * 2 ^ g + v)) : (coJ a b c j).step 2 f = coJ a b c (j + 1) := step_same (coJ_fit a b c j) ht
theorem slotF_tab (H : Nat → Int) (I : Nat → Bool) : ∀ g v, g < 2 → 1 ≤ v → v < 2 * 2 ^ g → slotF H I 3 g (5 * 2 ^ g + v) = tabF (I 0) (I 1) (I 2) g (5 * 2 ^ g + v) := by
  obtain ⟨-, h1, h2, h3, h4⟩ := slotF_at H I
  intro g v hg h5 h6
  have : g = 0 ∨ g = 1 := by omega
  rcases this with rfl | rfl
  · obtain rfl : v = 1 := by omega
    exact h1
  · have : v = 1 ∨ v = 2 ∨ v = 3 := by omega
    rcases this with rfl | rfl | rfl
    · exact h2
    · exact h3
    · exact h4
/-! ### a sweep alone -/
def hz (f : Nat → Nat → Int) (l : List Nat) : List ((Int × Int) × Int) := l.flatMap fun s => [((hS (sgN s), 5 * (ofN s : Int) + 3), f (sgN s) (5 * ofN s + 3)), ((hS (sgN s), 5 * (ofN s : Int) + 4), f (sgN s) (5 * ofN s + 4))]
theorem hz_fst (f : Nat → Nat → Int) (l : List Nat) : (hz f l).map Prod.fst = hdA l := by simp [hz, hdA, List.map_flatMap]
theorem hz_len (f : Nat → Nat → Int) (l : List Nat) : (hz f l).length = l.length * 2 := by rw [← hdA_len, ← hz_fst f, List.length_map]
theorem sl_fin : ∀ s : Fin 3, sgN s.val < 2 ∧ 5 * ofN s.val + 4 < 7 * 2 ^ sgN s.val := by decide +kernel
theorem inB_lt {a b c : Bool} {s : Nat} (h : s ∈ inB a b c) : s < 3 := by
  unfold inB at h
  cases a <;> cases b <;> cases c <;> simp at h <;> omega
theorem inB_len (a b c : Bool) : (inB a b c).length ≤ 3 := by cases a <;> cases b <;> cases c <;> decide
theorem hz_read {l : List Nat} (hl : ∀ s, s ∈ l → s < 3) (h : SetA A f xs) {p : (Int × Int) × Int} (hp : p ∈ hz f l) : (A.read p.1.1 p.1.2).2.1 = p.2 ∧ SetA (A.read p.1.1 p.1.2).1 f xs ∧ W64 p.1.1 ∧ (Lit.int .i64 p.1.2).wf = true := by
  obtain ⟨s, hs, hp⟩ := List.mem_flatMap.1 hp
  have h3 := hl s hs
  obtain ⟨q1, q2⟩ := sl_fin ⟨s, h3⟩
  dsimp only at q1 q2
  simp only [List.mem_cons, List.not_mem_nil, or_false] at hp
  rcases hp with rfl | rfl
  · obtain ⟨r1, r2⟩ := h.read (j := 5 * ofN s + 3) q1 (by omega)
    have e : ((5 * ofN s + 3 : Nat) : Int) = 5 * (ofN s : Int) + 3 := by omega
    rw [e] at r1 r2
    obtain ⟨w1, w2⟩ := addr_fit (x := s) (by omega) 3 (.inl rfl)
    exact ⟨r1, r2, w1, w2⟩
  · obtain ⟨r1, r2⟩ := h.read (j := 5 * ofN s + 4) q1 (by omega)
    have e : ((5 * ofN s + 4 : Nat) : Int) = 5 * (ofN s : Int) + 4 := by omega
    rw [e] at r1 r2
    obtain ⟨w1, w2⟩ := addr_fit (x := s) (by omega) 4 (.inr rfl)
    exact ⟨r1, r2, w1, w2⟩
/-- The words that are held, what is freed. -/
def heldW (f : Nat → Nat → Int) (a b c : Bool) : List Int := (hz f (inB a b c)).map Prod.snd
def frees (f : Nat → Nat → Int) (a b c : Bool) (m : Nat) (l0 : List Int) : List Int := (notIn (heldW f a b c) l0).take m
/-- A sweep alone behind j of its steps. -/
inductive RunI (f : Nat → Nat → Int) (a b c : Bool) (m : Nat) (l0 : List Int) : Nat → Ar → Sw → List Int → Prop
  | coll (j : Nat) (A : Ar) (hj : j < 8) (hp : (coJ a b c j).ph ≠ 2) (h0 : l0 ≠ []) (h : SetA A f l0) : RunI f a b c m l0 j A ⟨0, coJ a b c j, [], [], l0⟩ l0
  | read (j : Nat) (A : Ar) (C : Col.Co) (zl zr : List ((Int × Int) × Int)) (hz_ : zl ++ zr = hz f (inB a b c)) (hr : zr ≠ []) (hj : j + zr.length ≤ 14) (hC : C.L = inB a b c) (h : SetA A f l0) : RunI f a b c m l0 j A ⟨1, C, zr.map Prod.fst, zl.map Prod.snd, l0⟩ l0
  | free (j : Nat) (A : Ar) (C : Col.Co) (ws pre t l : List Int) (he : frees f a b c m l0 = pre ++ t) (ht : t ≠ []) (hj : j + t.length ≤ 14 + l0.length) (hC : C.L = inB a b c) (hws : ws.length ≤ 6) (h : SetA A f (l0.filter fun x => decide (x ∉ pre))) (hl : l.length + pre.length = l0.length) (hm : ∀ x, x ∈ t → x ∈ l) : RunI f a b c m l0 j A ⟨2, C, [], ws, t⟩ l
  | done (j : Nat) (A : Ar) (C : Col.Co) (ws l : List Int) (hC : ∀ s, s ∈ C.L → s < 15) (hws : ws.length ≤ 6) (h : SetA A f (l0.filter fun x => decide (x ∉ frees f a b c m l0))) (hl : l.length + (frees f a b c m l0).length = l0.length) : RunI f a b c m l0 j A ⟨3, C, [], ws, []⟩ l
theorem filter_all {l : List Int} : (l.filter fun x => decide (x ∉ ([] : List Int))) = l := by simp
/-- What is sorted out. -/
theorem run_sort {a b c : Bool} {j : Nat} {C : Col.Co} {ws : List Int} (hw : ws = heldW f a b c) (hj : j ≤ 14) (hC : C.L = inB a b c) (h : SetA A f l0) : RunI f a b c m l0 j A (Sw.sort m ⟨1, C, [], ws, l0⟩) l0 ∧ RunI f a b c m l0 j A (Sw.sort m ⟨0, C, [], ws, l0⟩) l0 := by
  have hfr : (notIn ws l0).take m = frees f a b c m l0 := by rw [hw]; rfl
  have hws : ws.length ≤ 6 := by rw [hw]; unfold heldW; rw [List.length_map, hz_len]; have := inB_len a b c; omega
  have hlen : (frees f a b c m l0).length ≤ l0.length := by
    unfold frees notIn
    rw [List.length_take]
    have := List.length_filter_le (fun x => decide (x ∉ heldW f a b c)) l0
    omega
  have hsub : ∀ x, x ∈ frees f a b c m l0 → x ∈ l0 := fun x hx => mem_fil (List.mem_of_mem_take hx)
  have hCs : ∀ s, s ∈ C.L → s < 15 := fun s hs => by rw [hC] at hs; have := inB_lt hs; omega
  unfold Sw.sort
  dsimp only
  rw [hfr]
  by_cases e : frees f a b c m l0 = []
  · rw [if_pos e]
    have hd : SetA A f (l0.filter fun x => decide (x ∉ frees f a b c m l0)) := by rw [e, filter_all]; exact h
    exact ⟨.done j A C ws l0 hCs hws hd (by rw [e]; rfl), .done j A C ws l0 hCs hws hd (by rw [e]; rfl)⟩
  · rw [if_neg e]
    exact ⟨.free j A C ws [] _ l0 rfl e (by omega) hC hws (by rw [filter_all]; exact h) rfl hsub, .free j A C ws [] _ l0 rfl e (by omega) hC hws (by rw [filter_all]; exact h) rfl hsub⟩
theorem run_step {a b c : Bool} {j : Nat} {S : Sw} {l : List Int} (ht : ∀ g v, g < 2 → 1 ≤ v → v < 2 * 2 ^ g → f g (5 * 2 ^ g + v) = tabF a b c g (5 * 2 ^ g + v)) (hnd : l0.Nodup) (R : RunI f a b c m l0 j A S l) : RunI f a b c m l0 (j + 1) (S.acc A) (S.step 2 f A m) (S.lst l) := by
  cases R with
  | coll hj hp h0 h =>
    have e1 : (Sw.lst l0 ⟨0, coJ a b c j, [], [], l0⟩) = l0 := by unfold Sw.lst; rw [if_neg (by simp)]
    have e2 : (Sw.acc A ⟨0, coJ a b c j, [], [], l0⟩) = (coJ a b c j).acc A := by unfold Sw.acc; rw [if_pos rfl]
    have e3 : Sw.step 2 f A m ⟨0, coJ a b c j, [], [], l0⟩ = if (coJ a b c (j + 1)).ph = 2 then Sw.look m ⟨0, coJ a b c (j + 1), [], [], l0⟩ else ⟨0, coJ a b c (j + 1), [], [], l0⟩ := by
      unfold Sw.step
      rw [if_pos rfl]
      dsimp only
      rw [coJ_step ht]
    have h' := h.acc (coJ_fit a b c j)
    rw [e1, e2, e3]
    obtain ⟨q1, q2⟩ := coJ_end a b c
    by_cases hp' : (coJ a b c (j + 1)).ph = 2
    · rw [if_pos hp']
      have hL := q2 ⟨j + 1, by omega⟩ hp'
      dsimp only at hL
      unfold Sw.look
      dsimp only
      by_cases hn : (coJ a b c (j + 1)).L = []
      · rw [if_pos hn]
        have hw : heldW f a b c = [] := by unfold heldW; rw [← hL, hn]; rfl
        exact (run_sort hw.symm (by omega) hL h').2
      · rw [if_neg hn]
        have hne : hz f (inB a b c) ≠ [] := fun e => hn (by
          have := hz_len f (inB a b c)
          rw [e] at this
          rw [hL]
          exact List.eq_nil_of_length_eq_zero (by simp at this; omega))
        have := RunI.read (m := m) (j + 1) ((coJ a b c j).acc A) (coJ a b c (j + 1)) [] (hz f (inB a b c)) rfl hne (by rw [hz_len]; have := inB_len a b c; omega) hL h'
        rw [hz_fst, ← hL] at this
        exact this
    · rw [if_neg hp']
      refine .coll (j + 1) _ ?_ hp' h0 h'
      by_cases e : j + 1 = 8
      · rw [e] at hp'; exact absurd q1 hp'
      · omega
  | read C zl zr hz_ hr hj hC h =>
    obtain ⟨p, t, rfl⟩ : ∃ p t, zr = p :: t := by
      cases zr with
      | nil => exact absurd rfl hr
      | cons p t => exact ⟨p, t, rfl⟩
    obtain ⟨r1, r2, -, -⟩ := hz_read (fun s hs => inB_lt hs) h (show p ∈ hz f (inB a b c) by rw [← hz_]; simp)
    have e1 : (Sw.lst l0 ⟨1, C, (p :: t).map Prod.fst, zl.map Prod.snd, l0⟩) = l0 := by unfold Sw.lst; rw [if_neg (by simp)]
    have e2 : (Sw.acc A ⟨1, C, (p :: t).map Prod.fst, zl.map Prod.snd, l0⟩) = (A.read p.1.1 p.1.2).1 := by unfold Sw.acc; rw [if_neg (by simp), if_pos rfl]; rfl
    have e3 : Sw.step 2 f A m ⟨1, C, (p :: t).map Prod.fst, zl.map Prod.snd, l0⟩ = if t.map Prod.fst = [] then Sw.sort m ⟨1, C, [], zl.map Prod.snd ++ [p.2], l0⟩ else ⟨1, C, t.map Prod.fst, zl.map Prod.snd ++ [p.2], l0⟩ := by
      unfold Sw.step
      rw [if_neg (by simp), if_pos rfl]
      simp only [List.map_cons, r1]
    have e4 : zl.map Prod.snd ++ [p.2] = (zl ++ [p]).map Prod.snd := by simp
    have hz' : (zl ++ [p]) ++ t = hz f (inB a b c) := by rw [← hz_]; simp
    rw [e1, e2, e3, e4]
    by_cases hn : t = []
    · subst hn
      rw [List.map_nil, if_pos rfl]
      rw [List.append_nil] at hz'
      exact (run_sort (by rw [hz']; rfl) (by simp at hj; omega) hC r2).1
    · rw [if_neg (by simpa using hn)]
      exact .read (j + 1) _ C (zl ++ [p]) t hz' hn (by simp at hj; omega) hC r2
  | free C ws pre t l he hne hj hC hws h hl hm =>
    obtain ⟨x, t, rfl⟩ : ∃ p s, t = p :: s := by
      cases t with
      | nil => exact absurd rfl hne
      | cons p t => exact ⟨p, t, rfl⟩
    have e1 : (Sw.lst l ⟨2, C, [], ws, x :: t⟩) = l.erase x := by unfold Sw.lst; rw [if_pos rfl]
    have e2 : (Sw.acc A ⟨2, C, [], ws, x :: t⟩) = (A.free x).1 := by unfold Sw.acc; rw [if_neg (by simp), if_neg (by simp), if_pos rfl]
    have e3 : Sw.step 2 f A m ⟨2, C, [], ws, x :: t⟩ = if t = [] then ⟨3, C, [], ws, []⟩ else ⟨2, C, [], ws, t⟩ := by
      unfold Sw.step
      rw [if_neg (by simp), if_neg (by simp), if_pos rfl]
    have hfn : (frees f a b c m l0).Nodup := by
      unfold frees notIn
      exact (hnd.filter _).sublist (List.take_sublist _ _)
    rw [he] at hfn
    have hxp : x ∉ pre := fun hx => (List.nodup_append.1 hfn).2.2 x hx x (List.mem_cons_self ..) rfl
    have hxt : x ∉ t := (List.nodup_cons.1 (List.nodup_append.1 hfn).2.1).1
    have hx0 : x ∈ l0 := by
      have : x ∈ frees f a b c m l0 := by rw [he]; simp
      exact mem_fil (List.mem_of_mem_take this)
    have hxl : x ∈ l := hm x (List.mem_cons_self ..)
    obtain ⟨h', -⟩ := h.free (x := x) (List.mem_filter.2 ⟨hx0, by simpa using hxp⟩)
    have h2 : SetA (A.free x).1 f (l0.filter fun y => decide (y ∉ pre ++ [x])) := by
      refine h'.sub (fun y hy => ?_)
      obtain ⟨y1, y2⟩ := List.mem_filter.1 hy
      simp only [List.mem_append, List.mem_singleton, not_or, decide_eq_true_eq] at y2
      exact List.mem_filter.2 ⟨List.mem_filter.2 ⟨y1, by simpa using y2.1⟩, by simpa using y2.2⟩
    have hlen : (l.erase x).length = l.length - 1 := List.length_erase_of_mem hxl
    have hlp : 0 < l.length := List.length_pos_of_mem hxl
    have he' : frees f a b c m l0 = (pre ++ [x]) ++ t := by rw [he]; simp
    rw [e1, e2, e3]
    by_cases hn : t = []
    · subst hn
      rw [if_pos rfl]
      rw [List.append_nil] at he'
      exact .done (j + 1) _ C ws _ (fun s hs => by rw [hC] at hs; have := inB_lt hs; omega) hws (by rw [he']; exact h2) (by rw [he', hlen]; simp; omega)
    · rw [if_neg hn]
      refine .free (j + 1) _ C ws (pre ++ [x]) t _ he' hn (by simp at hj; omega) hC hws h2 (by rw [hlen]; simp; omega) (fun y hy => ?_)
      have hyx : y ≠ x := fun e => hxt (by rw [← e]; exact hy)
      exact (List.mem_erase_of_ne hyx).2 (hm y (List.mem_cons_of_mem _ hy))
  | done C ws l hC hws h hl =>
    have e1 : (Sw.lst l ⟨3, C, [], ws, []⟩) = l := by unfold Sw.lst; rw [if_neg (by simp)]
    have e2 : (Sw.acc A ⟨3, C, [], ws, []⟩) = A := by unfold Sw.acc; rw [if_neg (by simp), if_neg (by simp), if_neg (by simp)]
    have e3 : Sw.step 2 f A m ⟨3, C, [], ws, []⟩ = ⟨3, C, [], ws, []⟩ := by unfold Sw.step; rw [if_neg (by simp), if_neg (by simp), if_neg (by simp)]
    rw [e1, e2, e3]
    exact .done (j + 1) A C ws l hC hws h hl
theorem run_seg {a b c : Bool} {j : Nat} {S : Sw} {l : List Int} (R : RunI f a b c m l0 j A S l) : ColB.SegB A 2 f := by
  cases R with
  | coll hj hp h0 h => exact h.seg
  | read C zl zr hz_ hr hj hC h => exact h.seg
  | free C ws pre t l he hne hj hC hws h hl hm => exact h.seg
  | done C ws l hC hws h hl => exact h.seg
theorem run_fit {a b c : Bool} {j : Nat} {S : Sw} {l : List Int} (hw : ∀ x, x ∈ l0 → W64 x) (h5 : l0.length ≤ 600) (R : RunI f a b c m l0 j A S l) : S.Fit 2 m := by
  cases R with
  | coll hj hp h0 h => exact ⟨fun _ => coJ_fit a b c j, by simp, hw, by show l0.length ≤ _; omega, by simp, (coJ_fit a b c j).small⟩
  | read C zl zr hz_ hr hj hC h =>
    have hlen : zl.length + zr.length ≤ 6 := by
      have h1 := hz_len f (inB a b c)
      have h2 := inB_len a b c
      rw [← hz_, List.length_append] at h1; omega
    refine ⟨fun h => (by cases h), fun p hp => ?_, hw, by show l0.length ≤ _; omega, by simp; omega, fun x hx => by have hx : x ∈ C.L := hx; rw [hC] at hx; have := inB_lt hx; omega⟩
    obtain ⟨q, hq, rfl⟩ := List.mem_map.1 hp
    exact (hz_read (fun s hs => inB_lt hs) h (show q ∈ hz f (inB a b c) by rw [← hz_]; exact List.mem_append_right _ hq)).2.2
  | free C ws pre t l he hne hj hC hws h hl hm =>
    have hsub : ∀ x, x ∈ t → x ∈ l0 := fun x hx => by
      have : x ∈ frees f a b c m l0 := by rw [he]; exact List.mem_append_right _ hx
      exact mem_fil (List.mem_of_mem_take this)
    exact ⟨fun h => (by cases h), by simp, fun x hx => hw x (hsub x hx), by show t.length ≤ _; omega, by simp; omega, fun x hx => by have hx : x ∈ C.L := hx; rw [hC] at hx; have := inB_lt hx; omega⟩
  | done C ws l hC hws h hl => exact ⟨fun h => (by cases h), by simp, by simp, by simp, by simp; omega, hC⟩
theorem run_len {a b c : Bool} {j : Nat} {S : Sw} {l : List Int} (R : RunI f a b c m l0 j A S l) : l.length ≤ l0.length := by
  cases R with
  | coll hj hp h0 h => exact Nat.le_refl _
  | read C zl zr hz_ hr hj hC h => exact Nat.le_refl _
  | free C ws pre t l he hne hj hC hws h hl hm => omega
  | done C ws l hC hws h hl => omega
theorem run_end {a b c : Bool} {j : Nat} {S : Sw} {l : List Int} (h5 : l0.length ≤ 600) (hj1 : 700 ≤ j) (R : RunI f a b c m l0 j A S l) : S.ph = 3 ∧ SetA A f (l0.filter fun x => decide (x ∉ frees f a b c m l0)) ∧ l.length + (frees f a b c m l0).length = l0.length := by
  cases R with
  | coll hj hp h0 h => omega
  | read C zl zr hz_ hr hj hC h => omega
  | free C ws pre t l he hne hj hC hws h hl hm => omega
  | done C ws l hC hws h hl => exact ⟨rfl, h, hl⟩
theorem run_start {a b c : Bool} (h : SetA A f l0) : RunI f a b c m l0 0 A (Sw.new l0) l0 := by
  unfold Sw.new
  by_cases e : l0 = []
  · subst e
    rw [if_pos rfl]
    exact .done 0 A _ [] [] (fun s hs => by cases hs) (by simp) h (by simp [frees, notIn])
  · rw [if_neg e]
    exact .coll 0 A (by omega) (by show (0 : Nat) ≠ 2; omega) e h
/-! ### what is held -/
/-- Is a block held by somebody who is counted? -/
def heldB (H : Nat → Int) (I : Nat → Bool) (h : Int) : Nat → Bool
  | 0 => false
  | i + 1 => heldB H I h i || (I i && (decide (H (2 * i) = h) || decide (H (2 * i + 1) = h)))
theorem held_iff (H : Nat → Int) (I : Nat → Bool) (h : Int) : h ∈ heldW (slotF H I 3) (I 0) (I 1) (I 2) ↔ heldB H I h 3 = true := by
  obtain ⟨⟨h0, h1, h2, h3, h4, h5⟩, -⟩ := slotF_at H I
  have s0 : hz (slotF H I 3) [0] = [((hS 0, 3), slotF H I 3 0 3), ((hS 0, 4), slotF H I 3 0 4)] := rfl
  have e : ∀ s g o, sgN s = g → ofN s = o → hz (slotF H I 3) [s] = [((hS g, 5 * (o : Int) + 3), slotF H I 3 g (5 * o + 3)), ((hS g, 5 * (o : Int) + 4), slotF H I 3 g (5 * o + 4))] := by
    rintro s g o rfl rfl; rfl
  have e0 := e 0 0 0 (by decide) (by decide)
  have e1 := e 1 1 0 (by decide) (by decide)
  have e2 := e 2 1 1 (by decide) (by decide)
  have ap : ∀ l l', hz (slotF H I 3) (l ++ l') = hz (slotF H I 3) l ++ hz (slotF H I 3) l' := fun l l' => by simp [hz]
  unfold heldW inB
  have k0 : slotF H I 3 0 (5 * 0 + 3) = H 0 := h0
  have k1 : slotF H I 3 0 (5 * 0 + 4) = H 1 := h1
  have k2 : slotF H I 3 1 (5 * 0 + 3) = H 2 := h2
  have k3 : slotF H I 3 1 (5 * 0 + 4) = H 3 := h3
  have k4 : slotF H I 3 1 (5 * 1 + 3) = H 4 := h4
  have k5 : slotF H I 3 1 (5 * 1 + 4) = H 5 := h5
  rw [k0, k1] at e0
  rw [k2, k3] at e1
  rw [k4, k5] at e2
  have nn : hz (slotF H I 3) [] = [] := rfl
  rw [ap, ap]
  unfold heldB heldB heldB heldB
  cases I 0 <;> cases I 1 <;> cases I 2 <;> simp [e0, e1, e2, nn, eq_comm (a := h)] <;> (try simp only [or_assoc]) 
end Att
end Go.Proofs.YtpajafecodkndaaGreat

set_option linter.unusedVariables false
set_option linter.unusedSimpArgs false
namespace Go.Proofs.YtpajafecodkndaaGreat
namespace Att
open Go.RowKit Go.Maps Arn Pac Clm Cnt Sta Hld

variable {w W W' : World} {b k n r : Nat} {A : Ar} {ps : List Part}
/-- A case's cells. -/
def caseL (vW : Value) (H : Nat → Int) (I : Nat → Bool) (vL : Nat → Value) (M : Nat → Int) (vP : Value) : Array Value :=
  #[vW, .int .u8 (H 0), .int .u8 (H 1), .int .u8 (H 2), .int .u8 (H 3), .int .u8 (H 4), .int .u8 (H 5), .bool (I 0), .bool (I 1), .bool (I 2), vL 0, vL 1, vL 2, .int .i64 (M 0), .int .i64 (M 1), .int .i64 (M 2), vP]
def caseO (vW : Value) (H : Nat → Int) (I : Nat → Bool) (vL : Nat → Value) (M : Nat → Int) (vP : Value) : Obj := .cells (caseL vW H I vL M vP) 109
theorem case_cell {vW : Value} {H : Nat → Int} {I : Nat → Bool} {vL : Nat → Value} {M : Nat → Int} {vP : Value} {q : Nat} (h : W.heap[q]? = some (caseO vW H I vL M vP)) (i : Nat) : W.cell? ⟨q, i, none⟩ = (caseL vW H I vL M vP)[i]? := Frm.cell_row _ _ i _ _ _ h
theorem case_H {vW : Value} {H : Nat → Int} {I : Nat → Bool} {vL : Nat → Value} {M : Nat → Int} {vP : Value} {q : Nat} (h : W.heap[q]? = some (caseO vW H I vL M vP)) {i : Nat} (hi : i < 6) : W.cell? ⟨q, 1 + i, none⟩ = some (.int .u8 (H i)) := by
  rw [case_cell h]
  have : i = 0 ∨ i = 1 ∨ i = 2 ∨ i = 3 ∨ i = 4 ∨ i = 5 := by omega
  rcases this with rfl | rfl | rfl | rfl | rfl | rfl <;> rfl
theorem case_I {vW : Value} {H : Nat → Int} {I : Nat → Bool} {vL : Nat → Value} {M : Nat → Int} {vP : Value} {q : Nat} (h : W.heap[q]? = some (caseO vW H I vL M vP)) {i : Nat} (hi : i < 3) : W.cell? ⟨q, 7 + i, none⟩ = some (.bool (I i)) := by
  rw [case_cell h]
  have : i = 0 ∨ i = 1 ∨ i = 2 := by omega
  rcases this with rfl | rfl | rfl <;> rfl
def greatC (nP n0 n1 n2 nW : Nat) (l : Nat → List Int) : Bool := decide (500 < nP + n0 + n1 + n2 + sumL l nW) || decide (100 < nW)
set_option maxRecDepth 100000 in
set_option maxHeartbeats 4000000 in
theorem great15 {w : World} {vW : Value} {u : Nat → Value} {l : Nat → List Int} {H : Nat → Int} {I : Nat → Bool} {M : Nat → Int} {nW n0 n1 n2 nP : Nat} {a0 a1 a2 aP : Option Addr} {c0 c1 c2 cP : Nat} (hW : LstC w vW u l nW) (hs : nP + n0 + n1 + n2 + sumL l nW ≤ 40000000) :
    Calls Tryz.prog 49 #[.agg #[vW, .int .u8 (H 0), .int .u8 (H 1), .int .u8 (H 2), .int .u8 (H 3), .int .u8 (H 4), .int .u8 (H 5), .bool (I 0), .bool (I 1), .bool (I 2), .slice a0 n0 c0, .slice a1 n1 c1, .slice a2 n2 c2, .int .i64 (M 0), .int .i64 (M 1), .int .i64 (M 2), .slice aP nP cP]] w fun e w' => e = .returned (.bool (greatC nP n0 n1 n2 nW l)) ∧ Frm.Turn [] w w' := by
  obtain ⟨⟨aW, cW, rfl⟩, hrow, hwd⟩ := hW
  have hnW : nW ≤ 40000000 := by
    have : ∀ n, n ≤ sumL l n := by
      intro n
      induction n with
      | zero => exact Nat.zero_le _
      | succ n ih => show n + 1 ≤ sumL l n + (10 + (l n).length); omega
    have := this nW
    omega
  have HR := Lib.hid hrow
  have HWD := Lib.hid hwd
  have HS := Lib.hid hs
  have hnP : (nP : Int) ≤ 40000000 := by omega
  have hn0' : (n0 : Int) ≤ 40000000 := by omega
  have hn1 : (n1 : Int) ≤ 40000000 := by omega
  have hn2 : (n2 : Int) ≤ 40000000 := by omega
  have hP0 : (0 : Int) ≤ (nP : Int) := by omega
  have h00 : (0 : Int) ≤ (n0 : Int) := by omega
  have h10 : (0 : Int) ≤ (n1 : Int) := by omega
  have h20 : (0 : Int) ≤ (n2 : Int) := by omega
  have hn0 : (nW : Int) ≤ 40000000 := by omega
  generalize H 0 = H0, H 1 = H1, H 2 = H2, H 3 = H3, H 4 = H4, H 5 = H5, I 0 = I0, I 1 = I1, I 2 = I2, M 0 = M0, M 1 = M1, M 2 = M2
  have hc := World.alloc_heap_new w (.cells #[.slice aW nW cW, .int .u8 H0, .int .u8 H1, .int .u8 H2, .int .u8 H3, .int .u8 H4, .int .u8 H5, .bool I0, .bool I1, .bool I2, .slice a0 n0 c0, .slice a1 n1 c1, .slice a2 n2 c2, .int .i64 M0, .int .i64 M1, .int .i64 M2, .slice aP nP cP] 109)
  have HTC := Lib.hid ((Frm.Turn.refl [] w).alloc (.cells #[.slice aW nW cW, .int .u8 H0, .int .u8 H1, .int .u8 H2, .int .u8 H3, .int .u8 H4, .int .u8 H5, .bool I0, .bool I1, .bool I2, .slice a0 n0 c0, .slice a1 n1 c1, .slice a2 n2 c2, .int .i64 M0, .int .i64 M1, .int .i64 M2, .slice aP nP cP] 109))
  have HC := Lib.hid hc
  clear hrow hwd hs hnW hc
  go_enter Tryz.func49, Tryz.ntmps49
  go_upto_region 1 with fail
  generalize World.alloc w _ = w1 at HTC HC ⊢
  generalize w.heap.size = q at HC ⊢
  have c0 := (Frm.cell_row _ _ 0 _ _ _ HC.out).trans rfl
  have c10 := (Frm.cell_row _ _ 10 _ _ _ HC.out).trans rfl
  have c11 := (Frm.cell_row _ _ 11 _ _ _ HC.out).trans rfl
  have c12 := (Frm.cell_row _ _ 12 _ _ _ HC.out).trans rfl
  have c16 := (Frm.cell_row _ _ 16 _ _ _ HC.out).trans rfl
  go_wp2
  clear c0 c10 c11 c12 c16
  go_loopw [27, 3] (fun i n wr => ∃ j : Nat, j ≤ nW ∧ i = .int .i64 j ∧ n = .int .i64 ((nP : Int) + (n0 : Int) + (n1 : Int) + (n2 : Int) + (sumL l j : Int)) ∧ Frm.Turn [] w1 wr) (fun i n _ => nW - (intOf i).toNat)
  case atStart => exact ⟨0, Nat.zero_le _, rfl, by show Value.int .i64 ((nP : Int) + (n0 : Int) + (n1 : Int) + (n2 : Int)) = .int .i64 ((nP : Int) + (n0 : Int) + (n1 : Int) + (n2 : Int) + ((0 : Nat) : Int)); rw [show (((0 : Nat) : Int)) = 0 from rfl, Int.add_zero], Frm.Turn.refl [] _⟩
  case round =>
    obtain ⟨j, hj, rfl, rfl, hT⟩ := hrel
    have hsj := sumL_le l hj
    have hsn := HS.out
    have hj0 : (0 : Int) ≤ (j : Int) := by omega
    obtain ⟨sm, hsm⟩ : ∃ x : Int, x = (nP : Int) + (n0 : Int) + (n1 : Int) + (n2 : Int) := ⟨_, rfl⟩
    have hsm0 : 0 ≤ sm := by omega
    have hsm1 : sm ≤ 40000000 := by omega
    rw [← hsm]
    have HSM := Lib.hid hsm
    clear hsm
    by_cases hlt : j < nW
    · rcases HR.out with e0 | ⟨ga, gc, e0, hcell⟩
      · omega
      cases e0
      have hcj := hT.cell (HTC.out.cell (hcell j hlt) (by simp)) (by simp)
      have hwj := HWD.out j hlt
      have hsj' : sumL l (j + 1) ≤ sumL l nW := sumL_le l hlt
      have hnx : sumL l (j + 1) = sumL l j + (10 + (l j).length) := rfl
      obtain ⟨aj, cj, ej⟩ : ∃ a c, u j = .slice a (l j).length c := by
        rcases hwj with ⟨e, e'⟩ | ⟨a, c, e, _⟩
        · exact ⟨none, 0, by rw [e, e']; rfl⟩
        · exact ⟨_, _, e⟩
      rw [ej] at hcj
      have HNX : Hid (.int .i64 (sm + (sumL l j : Int) + (10 + ((l j).length : Int))) = Value.int .i64 (sm + (sumL l (j + 1) : Int))) := Lib.hid (by rw [hnx]; congr 1; omega)
      have hb1 : ((l j).length : Int) ≤ 40000000 := by omega
      have hb0 : (0 : Int) ≤ ((l j).length : Int) := by omega
      have hq1 : (sumL l j : Int) ≤ 40000000 := by omega
      have hq0 : (0 : Int) ≤ (sumL l j : Int) := by omega
      have hj1 : (j : Int) < (nW : Int) := by omega
      have HLT := Lib.hid hlt
      have HT := Lib.hid hT
      clear hcell hwj hsj hsj' hsn hnx hT hlt hj ej
      generalize (sumL l j : Int) = q at HNX hq1 hq0
      generalize (l j).length = y at hcj HNX hb1 hb0
      go_wp2
      refine ⟨⟨j + 1, HLT.out, by simp, HNX.out, by repeat (first | exact HT.out | apply Frm.Turn.drewN | apply Frm.Turn.drew)⟩, ?_⟩
      have := HLT.out
      simp [intOf]; omega
    · obtain rfl : j = nW := by omega
      have c0 := hT.cell ((Frm.cell_row _ _ 0 _ _ _ HC.out).trans rfl) (by simp)
      have HT := Lib.hid (HTC.out.trans hT (by simp))
      have hq1 : (sumL l j : Int) ≤ 40000000 := by omega
      have hq0 : (0 : Int) ≤ (sumL l j : Int) := by omega
      have hgr : greatC nP n0 n1 n2 j l = (decide (500 < sm + (sumL l j : Int)) || decide (100 < (j : Int))) := by
        have := HSM.out
        unfold greatC
        congr 1
        all_goals (apply decide_eq_decide.2; omega)
      have HGR := Lib.hid hgr
      clear hT hlt hj hsj hsn hgr
      generalize (sumL l j : Int) = q at HGR hq1 hq0
      by_cases g1 : 500 < sm + q
      · go_wp2
        go_ret
        refine ⟨by rw [HGR.out]; simp [g1], HT.out⟩
      · clear HR HWD HS
        go_wp2
        all_goals go_ret
        all_goals have e1 : decide (500 < sm + q) = false := decide_eq_false (by omega)
        all_goals refine ⟨?_, HT.out⟩
        all_goals rw [HGR.out, e1, Bool.false_or]
        all_goals rfl
/-- A block of a number. -/
def blk (xs : List Int) (n : Int) : Int := if xs = [] ∨ n = 0 then 0 else xs.getD (n.toNat % xs.length) 0
theorem blk_mem {xs : List Int} {n : Int} (h : blk xs n ≠ 0) : blk xs n ∈ xs := by
  unfold blk at h ⊢
  by_cases e : xs = [] ∨ n = 0
  · rw [if_pos e] at h; exact absurd rfl h
  · rw [if_neg e]
    have : 0 < xs.length := List.length_pos_iff.2 (fun e2 => e (.inl e2))
    have hl := Nat.mod_lt n.toNat this
    rw [List.getD_eq_getElem?_getD, List.getElem?_eq_getElem hl]
    exact List.getElem_mem hl
theorem blk_64 {xs : List Int} (hx : ∀ x, x ∈ xs → W64 x) (n : Int) : W64 (blk xs n) := by
  by_cases e : blk xs n = 0
  · rw [e]; exact w64_zero
  · exact hx _ (blk_mem e)
set_option maxRecDepth 100000 in
set_option maxHeartbeats 4000000 in
theorem block_any {xs : List Int} {ao : Option Addr} {c : Nat} {n : Int} (hv : WordsAt W (.slice ao xs.length c) xs) (hl : xs.length ≤ 1000) (h0 : 0 ≤ n) (h1 : n < 256) :
    Calls Tryz.prog 51 #[.slice ao xs.length c, .int .u8 n] W fun e w' => e = .returned (.int .u64 (blk xs n)) ∧ W = w' := by
  by_cases hz : xs = []
  · have e0 : blk xs n = 0 := by unfold blk; rw [if_pos (.inl hz)]
    rw [e0, hz]
    have hL : (([] : List Int).length : Int) = 0 := rfl
    clear hv hl hz e0
    generalize ([] : List Int).length = y at hL
    go_enter Tryz.func51, Tryz.ntmps51
    go_wp2
    go_ret
    exact ⟨rfl, rfl⟩
  have hp : 0 < xs.length := List.length_pos_iff.2 hz
  by_cases hn : n = 0
  · have e0 : blk xs n = 0 := by unfold blk; rw [if_pos (.inr hn)]
    rw [e0]
    subst hn
    have hL : ¬ (xs.length : Int) = 0 := by omega
    clear hv hz e0 hp hl
    generalize xs.length = y at hL
    go_enter Tryz.func51, Tryz.ntmps51
    go_wp2
    go_ret
    exact ⟨rfl, rfl⟩
  · obtain ⟨m, rfl⟩ : ∃ m : Nat, n = (m : Int) := ⟨n.toNat, by omega⟩
    obtain ⟨ga, c', e, hcell⟩ := wordsAt_cell hv hp
    simp only [Value.slice.injEq] at e
    obtain ⟨rfl, _, rfl⟩ := e
    have hm := Nat.mod_lt m hp
    have hc := hcell _ _ (u64s_get hm)
    have e0 : blk xs (m : Int) = xs.getD (m % xs.length) 0 := by unfold blk; rw [if_neg (fun e => e.elim hz hn), Int.toNat_natCast]
    rw [e0]
    have ht : (m : Int).tmod (xs.length : Int) = ((m % xs.length : Nat) : Int) := by
      rw [Int.tmod_eq_emod_of_nonneg h0]
      rfl
    have hL : ¬ (xs.length : Int) = 0 := by omega
    have hLb : ((xs.length : Int) == 0) = false := by simpa using hL
    have hnb : ((m : Int) == 0) = false := by simpa using hn
    have hm0 : (0 : Int) ≤ ((m % xs.length : Nat) : Int) := by omega
    have hm1 : ((m % xs.length : Nat) : Int) < (xs.length : Int) := by omega
    have hy : (xs.length : Int) ≤ 1000 := by omega
    generalize xs.getD (m % xs.length) 0 = z at hc ⊢
    generalize m % xs.length = i at *
    clear hv hz e0 hp hcell hl hm
    generalize (m : Int) = n at *
    generalize xs.length = y at *
    go_enter Tryz.func51, Tryz.ntmps51
    go_wp2
    go_ret
    exact ⟨rfl, rfl⟩
theorem info_plc15 : (Tryz.prog.info? 46).map (fun i => (i.zero, i.size, i.bytes)) = some (some (.agg #[.int .u64 0, .int .i64 0]), 2, 16) := by kernel_rfl
theorem under_plc15 : Tryz.prog.underlying 47 = some (.slice 46) := by kernel_rfl
theorem fill_pl15 : Instr.fill (fun i => some (i * 2, 2)) ((Array.range (3 * 2)).map ((Value.agg #[.int .u64 0, .int .i64 0]).cells[· % (Value.agg #[.int .u64 0, .int .i64 0]).cells.size]!)) [(0, .agg #[.int .u64 65537, .int .i64 0]), (1, .agg #[.int .u64 131074, .int .i64 1]), (2, .agg #[.int .u64 131074, .int .i64 2])] = some #[.int .u64 65537, .int .i64 0, .int .u64 131074, .int .i64 1, .int .u64 131074, .int .i64 2] := by kernel_rfl
set_option maxRecDepth 100000 in
set_option maxHeartbeats 4000000 in
theorem places_any {kh kc : Nat} (h : HsAt w kh 2) : Calls Tryz.prog 97 #[.slice (some ⟨kh, 0, none⟩) 2 kc] w fun e w' => ∃ pl, e = .returned (.slice (some ⟨pl, 0, none⟩) 3 3) ∧ w'.heap[pl]? = some oPl ∧ Frm.Turn [] w w' ∧ w.heap.size ≤ pl := by
  have HKK : Hid (∀ W', Frm.Turn [] w W' → W'.cell? ⟨kh, 0, none⟩ = some (.int .u64 65537) ∧ W'.cell? ⟨kh, 1, none⟩ = some (.int .u64 131074)) := Lib.hid (fun W' hT => ⟨hT.cell (h 0 (by omega)) (by simp), hT.cell (h 1 (by omega)) (by simp)⟩)
  obtain ⟨ip, hip, hpz0, hpz1, hpz2⟩ := info_parts info_plc15
  clear h
  go_enter Tryz.func97, Tryz.ntmps97
  go_upto_region 1 with fail
  refine wp_region_held_drew (S := fun W' => Frm.Turn [] w W') (by kernel_rfl) ?_ (fun hHeld => ?_)
  · exact (Frm.Turn.refl [] w).drew
  refine wpAnyH_take (i := 0) (v := ?_) rfl (by kernel_rfl) (by kernel_rfl) (by kernel_rfl) (fun _ _ _ h => h) (Or.inl ⟨by rfl, ?_⟩) (by assumption) ?_
  rotate_left
  · (intro w hSw; (try dsimp only at hSw); go_simp; try with_reducible rfl)
  try simp only [Act.put, List.getElem_toArray, List.getElem_cons_succ, List.getElem_cons_zero, List.setIfInBounds_toArray, List.set_cons_zero, List.set_cons_succ]
  refine wpAnyH_take (i := 1) (v := ?_) rfl (by kernel_rfl) (by kernel_rfl) (by kernel_rfl) (fun _ _ _ h => h) (Or.inl ⟨by rfl, ?_⟩) (by assumption) ?_
  rotate_left
  · (intro w hSw; (try dsimp only at hSw); go_simp; try with_reducible rfl)
  try simp only [Act.put, List.getElem_toArray, List.getElem_cons_succ, List.getElem_cons_zero, List.setIfInBounds_toArray, List.set_cons_zero, List.set_cons_succ]
  refine wpAnyH_take (i := 2) (v := ?_) rfl (by kernel_rfl) (by kernel_rfl) (by kernel_rfl) (fun _ _ _ h => h) (Or.inl ⟨by rfl, ?_⟩) (by assumption) ?_
  rotate_left
  · (intro w hSw; (try dsimp only at hSw); obtain ⟨k0, k1⟩ := HKK.out _ hSw; go_simp; try with_reducible rfl)
  try simp only [Act.put, List.getElem_toArray, List.getElem_cons_succ, List.getElem_cons_zero, List.setIfInBounds_toArray, List.set_cons_zero, List.set_cons_succ]
  refine wpAnyH_take (i := 3) (v := ?_) rfl (by kernel_rfl) (by kernel_rfl) (by kernel_rfl) (fun _ _ _ h => h) (Or.inl ⟨by rfl, ?_⟩) (by assumption) ?_
  rotate_left
  · (intro w hSw; (try dsimp only at hSw); go_simp; try with_reducible rfl)
  try simp only [Act.put, List.getElem_toArray, List.getElem_cons_succ, List.getElem_cons_zero, List.setIfInBounds_toArray, List.set_cons_zero, List.set_cons_succ]
  refine wpAnyH_take (i := 4) (v := ?_) rfl (by kernel_rfl) (by kernel_rfl) (by kernel_rfl) (fun _ _ _ h => h) (Or.inl ⟨by rfl, ?_⟩) (by assumption) ?_
  rotate_left
  · (intro w hSw; (try dsimp only at hSw); go_simp; try with_reducible rfl)
  try simp only [Act.put, List.getElem_toArray, List.getElem_cons_succ, List.getElem_cons_zero, List.setIfInBounds_toArray, List.set_cons_zero, List.set_cons_succ]
  refine wpAnyH_take (i := 5) (v := ?_) rfl (by kernel_rfl) (by kernel_rfl) (by kernel_rfl) (fun _ _ _ h => h) (Or.inl ⟨by rfl, ?_⟩) (by assumption) ?_
  rotate_left
  · (intro w hSw; (try dsimp only at hSw); go_simp; try with_reducible rfl)
  try simp only [Act.put, List.getElem_toArray, List.getElem_cons_succ, List.getElem_cons_zero, List.setIfInBounds_toArray, List.set_cons_zero, List.set_cons_succ]
  refine wpAnyH_take (i := 6) (v := ?_) rfl (by kernel_rfl) (by kernel_rfl) (by kernel_rfl) (fun _ _ _ h => h) (Or.inl ⟨by rfl, ?_⟩) (by assumption) ?_
  rotate_left
  · (intro w hSw; (try dsimp only at hSw); obtain ⟨k0, k1⟩ := HKK.out _ hSw; go_simp; try with_reducible rfl)
  try simp only [Act.put, List.getElem_toArray, List.getElem_cons_succ, List.getElem_cons_zero, List.setIfInBounds_toArray, List.set_cons_zero, List.set_cons_succ]
  refine wpAnyH_take (i := 7) (v := ?_) rfl (by kernel_rfl) (by kernel_rfl) (by kernel_rfl) (fun _ _ _ h => h) (Or.inl ⟨by rfl, ?_⟩) (by assumption) ?_
  rotate_left
  · (intro w hSw; (try dsimp only at hSw); go_simp; try with_reducible rfl)
  try simp only [Act.put, List.getElem_toArray, List.getElem_cons_succ, List.getElem_cons_zero, List.setIfInBounds_toArray, List.set_cons_zero, List.set_cons_succ]
  refine wpAnyH_take (i := 8) (v := ?_) rfl (by kernel_rfl) (by kernel_rfl) (by kernel_rfl) (fun _ _ _ h => h) (Or.inl ⟨by rfl, ?_⟩) (by assumption) ?_
  rotate_left
  · (intro w hSw; (try dsimp only at hSw); go_simp; try with_reducible rfl)
  try simp only [Act.put, List.getElem_toArray, List.getElem_cons_succ, List.getElem_cons_zero, List.setIfInBounds_toArray, List.set_cons_zero, List.set_cons_succ]
  refine wpAnyH_take (i := 9) (v := ?_) rfl (by kernel_rfl) (by kernel_rfl) (by kernel_rfl) (fun _ _ _ h => h) (Or.inl ⟨by rfl, ?_⟩) (by assumption) ?_
  rotate_left
  · (intro w hSw; (try dsimp only at hSw); go_simp; try with_reducible rfl)
  try simp only [Act.put, List.getElem_toArray, List.getElem_cons_succ, List.getElem_cons_zero, List.setIfInBounds_toArray, List.set_cons_zero, List.set_cons_succ]
  refine wpAnyH_take (i := 10) (v := ?_) rfl (by kernel_rfl) (by kernel_rfl) (by kernel_rfl) (fun _ _ _ h => h) (Or.inl ⟨by rfl, ?_⟩) (by assumption) ?_
  rotate_left
  · (intro w hSw; (try dsimp only at hSw); obtain ⟨k0, k1⟩ := HKK.out _ hSw; go_simp; try with_reducible rfl)
  try simp only [Act.put, List.getElem_toArray, List.getElem_cons_succ, List.getElem_cons_zero, List.setIfInBounds_toArray, List.set_cons_zero, List.set_cons_succ]
  refine wpAnyH_take (i := 11) (v := ?_) rfl (by kernel_rfl) (by kernel_rfl) (by kernel_rfl) (fun _ _ _ h => h) (Or.inl ⟨by rfl, ?_⟩) (by assumption) ?_
  rotate_left
  · (intro w hSw; (try dsimp only at hSw); go_simp; try with_reducible rfl)
  try simp only [Act.put, List.getElem_toArray, List.getElem_cons_succ, List.getElem_cons_zero, List.setIfInBounds_toArray, List.set_cons_zero, List.set_cons_succ]
  refine wpAnyH_ready (rs := [12]) (by kernel_rfl) (by simp) ?_
  refine AllReadyH.cons rfl (fun K hK => ?_) AllReadyH.nil
  try simp only [List.getElem_toArray, List.getElem_cons_succ, List.getElem_cons_zero]
  rw [if_pos (by rfl)]
  refine wp_buildSlice 47 46 3 #[(0, .tmp 6), (1, .tmp 10), (2, .tmp 14)] rfl #[.int .u64 65537, .int .i64 0, .int .u64 131074, .int .i64 1, .int .u64 131074, .int .i64 2] ip (.agg #[.int .u64 0, .int .i64 0]) under_plc15 hip hpz0 (by rw [hpz1]; decide) (by rw [hpz1]; decide) (by rw [hpz1]; simp only [List.map_toArray, List.map_cons, List.map_nil]; exact fill_pl15) ?_
  refine hK.out _ _ (hHeld.alloc _) (fun hHeld1 => ?_)
  clear hK K
  try simp only [Act.put, List.getElem_toArray, List.getElem_cons_succ, List.getElem_cons_zero, List.setIfInBounds_toArray, List.set_cons_zero, List.set_cons_succ]
  refine wpAnyH_take (i := 13) (v := ?_) rfl (by kernel_rfl) (by kernel_rfl) (by kernel_rfl) (fun _ _ _ h => h) (Or.inl ⟨by rfl, ?_⟩) (by assumption) ?_
  rotate_left
  · (intro w hSw; (try dsimp only at hSw); go_simp; try with_reducible rfl)
  try simp only [Act.put, List.getElem_toArray, List.getElem_cons_succ, List.getElem_cons_zero, List.setIfInBounds_toArray, List.set_cons_zero, List.set_cons_succ]
  refine wpAnyH_done (by kernel_rfl) ?_ _
  go_wp2_with fail
  go_ret
  exact ⟨_, rfl, World.alloc_heap_new _ _, hHeld1, by show w.heap.size ≤ w.drew.heap.size; exact Nat.le_refl _⟩
end Att
end Go.Proofs.YtpajafecodkndaaGreat

set_option linter.unusedVariables false
set_option linter.unusedSimpArgs false
namespace Go.Proofs.YtpajafecodkndaaGreat
namespace Att
open Go.RowKit Go.Maps Arn Pac Clm Cnt Sta Hld

variable {w W W' : World} {b k n r mb : Nat} {A B : Ar} {ps X rest : List Part}
def rzO : Obj := .cells zA20 37
theorem segs15 (w0 : World) (o : Obj) : Calls Tryz.prog 9 #[.int .i64 2] (w0.alloc o) fun e W =>
    ∃ b CS G kh c ohs A k, e = .returned (.tuple #[.pointer (some ⟨b, 0, none⟩), .agg CS, .slice (some ⟨kh, 0, none⟩) 2 c]) ∧ CS.size = 20 ∧ CS.all (·.oneCell') = true ∧ (∀ W', W'.heap[kh]? = some ohs → HsAt W' kh 2) ∧ k ≤ 4 ∧ SegA A 2 zF ∧ A.births = 2 ∧ A.cap = 60000 ∧ Stash w0 b A k [bkP kh ohs, sgP A CS G, bkP w0.heap.size o] W := by
  refine (Cnt.Segments_any 2 (w0.alloc o) (by omega)).mono ?_
  rintro e W ⟨b, u, G, A, k, hv, rfl, h1, h2, h3, h4, h5, h6, h7, h8, h9⟩
  obtain ⟨CS, rfl, z1, z2⟩ := h6.row
  obtain ⟨kh, c, oh, rfl, g1, g2, g3⟩ := hs_row h7 (by omega)
  have hsz : (w0.alloc o).heap.size = w0.heap.size + 1 := World.size_alloc _ _
  have hkG : kh ∉ G := h9 kh (by simp [Value.ownBlock])
  have hT := h1.turn
  have ht0 : Frm.Turn [] w0 (w0.alloc o) := (Frm.Turn.refl [] w0).alloc o
  have hon : W.heap[w0.heap.size]? = some o := hT.keep (World.alloc_heap_new w0 o) (by simp)
  have hlt := (Array.getElem?_eq_some_iff.1 hon).1
  have hnG : w0.heap.size ∉ G := fun hx => by have := h8 _ hx; omega
  refine ⟨b, CS, G, kh, c, oh, A, k, rfl, z1, z2, g2, h2, h3, h4, h5, ⟨?_, ?_, ?_, ?_, ?_, ?_⟩⟩
  · obtain ⟨M, k1, k2⟩ := h1
    refine kin_base ⟨M, k1, fun x hx => ?_⟩ ht0
    simp only [feet, List.flatMap_cons, List.flatMap_nil, Part.all, bkP, sgP, List.append_nil, List.nil_append, List.mem_append, List.mem_singleton, List.mem_cons, List.not_mem_nil, or_false] at hx
    rcases hx with hx | hx | hx
    · exact k2 x (by rw [hx]; simp [Value.ownBlock])
    · exact k2 x (List.mem_append_left _ hx)
    · subst hx
      exact ⟨fun hm => by have := k1.new _ hm; omega, hlt⟩
  · intro p hp
    simp only [List.mem_cons, List.not_mem_nil, or_false] at hp
    rcases hp with rfl | rfl | rfl
    · exact bkP_fra _ _
    · exact sgP_fra _ _ _
    · exact bkP_fra _ _
  · intro p hp
    simp only [List.mem_cons, List.not_mem_nil, or_false] at hp
    rcases hp with rfl | rfl | rfl
    · exact g1
    · exact h6
    · exact hon
  · have ne : kh ≠ w0.heap.size := by omega
    refine List.pairwise_cons.2 ⟨fun p hp => ?_, List.pairwise_cons.2 ⟨fun p hp => ?_, List.pairwise_singleton _ _⟩⟩
    · simp only [List.mem_cons, List.not_mem_nil, or_false] at hp
      rcases hp with rfl | rfl
      · exact ⟨fun x hx => by simp [bkP] at hx; subst hx; exact ⟨by simp [sgP], by simpa [sgP] using hkG⟩, by simp [sgP]⟩
      · exact ⟨fun x hx => by simp [bkP] at hx; subst hx; exact ⟨by simp [bkP]; exact ne, by simp [bkP]⟩, fun x hx => by simp [bkP] at hx; subst hx; exact ⟨by simp [bkP]; exact fun e => ne e.symm, by simp [bkP]⟩⟩
    · simp only [List.mem_cons, List.not_mem_nil, or_false] at hp
      subst hp
      exact ⟨by simp [sgP], fun x hx => by simp [bkP] at hx; subst hx; exact ⟨by simp [sgP], by simpa [sgP] using hnG⟩⟩
  · intro p hp
    simp only [List.mem_cons, List.not_mem_nil, or_false] at hp
    rcases hp with rfl | rfl | rfl
    · simp [bkP]
    · simp [sgP]
    · simp [bkP]
  · intro p hp x hx
    simp only [List.mem_cons, List.not_mem_nil, or_false] at hp
    rcases hp with rfl | rfl | rfl
    · simp [bkP] at hx; subst hx; omega
    · simp [sgP] at hx
    · simp [bkP] at hx; subst hx; exact Nat.le_refl _
/-- The document's arena in a block of its own. -/
theorem mstart15 {CS : Array Value} {G : List Nat} (S : Stash w b A k ps W) (hm : sgP A CS G ∈ ps) {z : Array Value} : Stash w b A k (mP W.heap.size A CS G :: rwP w.heap.size (.slice none 0 0) [] :: ps) ((W.alloc (.cells z 37)).setRow W.heap.size CS) := by
  have h1 := World.alloc_heap_new W (.cells z 37)
  have hT : Frm.Turn [] W ((W.alloc (.cells z 37)).setRow W.heap.size CS) := setRow_turn ((Frm.Turn.refl [] W).alloc _) (.inr (Nat.le_refl _)) CS
  have h2 := Cnt.row_set CS h1
  have S0 : Stash w b A k (rwP w.heap.size (.slice none 0 0) [] :: ps) W := S.add (Frm.Turn.refl [] W) (rwP_fra _ _ _) (World.ownsRow_nil _ _ _ _) (by simp [rwP, Value.ownBlock]) (by simp [rwP, Value.ownBlock]) (by simp [rwP, Value.ownBlock])
  have hm' : sgP A CS G ∈ rwP w.heap.size (.slice none 0 0) [] :: ps := List.mem_cons_of_mem _ hm
  refine S0.add hT (mP_fra _ _ _ _) ⟨h2, RefS.turn (S0.on _ hm') hT (by simp)⟩ (fun x hx => ?_) (fun x hx => .inl ⟨_, hm', hx⟩) (fun x hx hx' => ?_)
  · simp [mP] at hx; subst hx; exact ⟨Nat.le_refl _, (Array.getElem?_eq_some_iff.1 h2).1⟩
  · simp [mP] at hx hx'; subst hx
    have := S0.lt hm' (x := W.heap.size) (in_imm hx')
    omega
/-- Any word is written, added to. -/
theorem mwrite15 {CM : Array Value} {GM : List Nat} {x blk i : Int} (S : Stash w b A k ps W) (hm : mP mb B CM GM ∈ ps) (lB : LimW B) :
    Calls Tryz.prog 16 #[.agg CM, .agg #[.int .u64 blk, .int .i64 i], .int .u64 x] W fun e w' => ∃ CM' GM', e = .returned (.tuple #[.agg CM', .int .i64 (B.write blk i x).2]) ∧ MNext W CM' (B.write blk i x).1 GM GM' w' := by
  refine (refWrite_any B (.agg CM) GM W (S.on _ hm).2 lB.1.ok (by have := lB.1.faults; omega) (by have := lB.2; omega) blk i x (fun q hq => S.lt hm (in_imm hq))).mono ?_
  rintro e w' ⟨u', G', rfl, h1, h2, h3⟩
  obtain ⟨CM', rfl, z1, z2⟩ := h1.row
  exact ⟨CM', G', rfl, z1, z2, h1, h2, h3⟩
theorem madd15 {CM : Array Value} {GM : List Nat} {x blk i : Int} (S : Stash w b A k ps W) (hm : mP mb B CM GM ∈ ps) (lB : LimW B) (la : B.t.adds ≤ 100000000) :
    Calls Tryz.prog 102 #[.agg CM, .agg #[.int .u64 blk, .int .i64 i], .int .u64 x] W fun e w' => ∃ CM' GM', e = .returned (.tuple #[.agg CM', .int .u64 (B.add blk i x).2.1, .int .i64 (B.add blk i x).2.2]) ∧ MNext W CM' (B.add blk i x).1 GM GM' w' := by
  refine (refAdd_any B (.agg CM) GM W (S.on _ hm).2 lB.1.ok (by have := lB.1.faults; omega) la blk i x (fun q hq => S.lt hm (in_imm hq))).mono ?_
  rintro e w' ⟨u', G', rfl, h1, h2, h3⟩
  obtain ⟨CM', rfl, z1, z2⟩ := h1.row
  exact ⟨CM', G', rfl, z1, z2, h1, h2, h3⟩
theorem add_h15 (S : Stash w b A k ps W) (hk : k ≤ 10000000) (blk i v : Int) (hb : W64 blk) (hi : (Lit.int .i64 i).wf = true) (hv : W64 v) :
    Calls Tryz.prog 101 #[.pointer (some ⟨b, 0, none⟩), .agg #[.int .u64 blk, .int .i64 i], .int .u64 v] W fun e w' => e = .returned (.tuple #[.int .u64 (A.add blk i v).2.1, .int .i64 (A.add blk i v).2.2]) ∧ Stash w b (A.add blk i v).1 (k + 1) ps w' := by
  obtain ⟨M, h1, h2⟩ := S.kin
  refine (sin_add h1 (by omega) blk i v hb hi hv).mono ?_
  rintro e w' ⟨he, h3⟩
  obtain ⟨k1, k2⟩ := kin_after h1 h2 h3
  exact ⟨he, S.but k1 k2⟩
/-- While blocks are laid: behind j of them. -/
def PS1 (w : World) (b mb : Nat) (rest : List Part) (j : Nat) (s9 : Value) (W : World) : Prop :=
  ∃ A k CM GM xs, Stash w b A k (mP mb A CM GM :: rwP w.heap.size s9 xs :: rest) W ∧ xs.length ≤ j ∧ SetA A zF xs ∧ k ≤ 4 + j
/-- While the slots are set: behind what makes f of the segments' words. -/
def PS2 (w : World) (b mb : Nat) (X rest : List Part) (xs : List Int) (f : Nat → Nat → Int) (j : Nat) (W : World) : Prop :=
  ∃ A k CM GM, Stash w b A k (X ++ mP mb A CM GM :: rest) W ∧ SetA A f xs ∧ k ≤ 200 + j
theorem PS2.still {xs : List Int} {f : Nat → Nat → Int} {j : Nat} (h : PS2 w b mb X rest xs f j W) (hT : Frm.Turn [] W W') : PS2 w b mb X rest xs f j W' := by
  obtain ⟨A, k, CM, GM, h1, h2, h3⟩ := h
  exact ⟨A, k, CM, GM, h1.still hT, h2, h3⟩
theorem PS2.turn {xs : List Int} {f : Nat → Nat → Int} {j : Nat} (h : PS2 w b mb X rest xs f j W) : Frm.Turn [] w W := by
  obtain ⟨A, k, CM, GM, h1, h2, h3⟩ := h
  exact h1.kin.turn
theorem PS2.drop {p : Part} {xs : List Int} {f : Nat → Nat → Int} {j : Nat} (h : PS2 w b mb (p :: X) rest xs f j W) : PS2 w b mb X rest xs f j W := by
  obtain ⟨A, k, CM, GM, h1, h2, h3⟩ := h
  exact ⟨A, k, CM, GM, h1.drop, h2, h3⟩
theorem add_bk {x : Nat} {o : Obj} (S : Stash w b A k ps W) (hT : Frm.Turn [] W W') (ho : W'.heap[x]? = some o) (hx : W.heap.size ≤ x) : Stash w b A k (bkP x o :: ps) W' :=
  S.add hT (bkP_fra _ _) ho (fun y hy => by simp [bkP] at hy; subst hy; exact ⟨hx, (Array.getElem?_eq_some_iff.1 ho).1⟩) (by simp [bkP]) (by simp [bkP])
theorem PS2.add {x : Nat} {o : Obj} {xs : List Int} {f : Nat → Nat → Int} {j : Nat} (h : PS2 w b mb X rest xs f j W) (hT : Frm.Turn [] W W') (ho : W'.heap[x]? = some o) (hx : W.heap.size ≤ x) : PS2 w b mb (bkP x o :: X) rest xs f j W' := by
  obtain ⟨A, k, CM, GM, h1, h2, h3⟩ := h
  exact ⟨A, k, CM, GM, add_bk h1 hT ho hx, h2, h3⟩
theorem PS2.row {t : TypeId} {size n : Nat} {v : Value} {vs : List Value} {xs : List Int} {f : Nat → Nat → Int} {j : Nat} (h : PS2 w b mb X rest xs f j W) (hT : Frm.Turn [] W W') (ho : W'.ownsRow W.heap.size t size v n vs) : PS2 w b mb (roP w.heap.size t size n v vs :: X) rest xs f j W' := by
  obtain ⟨A, k, CM, GM, h1, h2, h3⟩ := h
  exact ⟨A, k, CM, GM, ro_add h1 hT ho, h2, h3⟩
/-- What a slot's counts make. -/
def pathF (I : Nat → Bool) (s : Nat) (f : Nat → Nat → Int) (k : Nat) : Nat → Nat → Int := if I s then addsF s f k else f
theorem pathF_0 (I : Nat → Bool) (s : Nat) (f : Nat → Nat → Int) : pathF I s f 0 = f := by unfold pathF addsF; split <;> rfl
theorem pathF_end (H : Nat → Int) (I : Nat → Bool) (s : Nat) : pathF I s (holdF H s (slotF H I s) 2) (sgN s + 1) = slotF H I (s + 1) := rfl
def adO (g j : Nat) : Obj := .cells #[.int .u64 (hS g), .int .i64 (j : Int)] 66
def plO (s : Nat) : Obj := .cells #[.int .u64 (hS (sgN s)), .int .i64 (s : Int)] 46
theorem ad_cells {x g j : Nat} (h : W.heap[x]? = some (adO g j)) : W.cell? ⟨x, 0, none⟩ = some (.int .u64 (hS g)) ∧ W.cell? ⟨x, 1, none⟩ = some (.int .i64 (j : Int)) := by
  unfold adO at h
  rw [Frm.cell_row _ _ _ _ _ _ h, Frm.cell_row _ _ _ _ _ _ h]; exact ⟨rfl, rfl⟩
theorem plO_cells {x s : Nat} (h : W.heap[x]? = some (plO s)) : W.cell? ⟨x, 0, none⟩ = some (.int .u64 (hS (sgN s))) ∧ W.cell? ⟨x, 1, none⟩ = some (.int .i64 (s : Int)) := by
  unfold plO at h
  rw [Frm.cell_row _ _ _ _ _ _ h, Frm.cell_row _ _ _ _ _ _ h]; exact ⟨rfl, rfl⟩
theorem mput15 {CM CM' : Array Value} {GM GM' : List Nat} {A' : Ar} {X : List Part} (S : Stash w b A k (X ++ mP mb B CM GM :: rest) W) (h : MNext W CM' A' GM GM' W') : Stash w b A k (X ++ mP mb A' CM' GM' :: rest) (W'.setRow mb CM') :=
  (mput (S.perm List.perm_middle) h).perm List.perm_middle.symm
/-- A hold is written in both arenas. -/
theorem ps_write {xs : List Int} {f : Nat → Nat → Int} {j g J : Nat} {v : Int} (h : PS2 w b mb X rest xs f j W) (hg : g < 2) (hJ : J < 7 * 2 ^ g) (hv : W64 v) (hj : j ≤ 1000) :
    Calls Tryz.prog 15 #[.pointer (some ⟨b, 0, none⟩), .agg #[.int .u64 (hS g), .int .i64 (J : Int)], .int .u64 v] W fun e w' => ∃ z, e = .returned (.int .i64 z) ∧ ∃ A k CM GM, Stash w b (A.write (hS g) J v).1 (k + 1) (X ++ mP mb A CM GM :: rest) w' ∧ SetA (A.write (hS g) J v).1 (upd2 f g J v) xs ∧ k ≤ 200 + j ∧ LimW A := by
  obtain ⟨A, k, CM, GM, h1, h2, h3⟩ := h
  have hp : 2 ^ g ≤ 2 ^ 1 := Nat.pow_le_pow_right (by omega) (by omega)
  refine (write_h h1 (by omega) (hS g) J v (hS_64 (by omega)) (wf_small (by omega) (by omega)) hv).mono ?_
  rintro e w' ⟨rfl, hS⟩
  exact ⟨_, rfl, A, k, CM, GM, hS, h2.write hg hJ hv, h3, sta_lim h1 (by omega)⟩
theorem ps_add {xs : List Int} {f : Nat → Nat → Int} {j g J : Nat} (h : PS2 w b mb X rest xs f j W) (hg : g < 2) (hJ : J < 7 * 2 ^ g) (hj : j ≤ 1000) :
    Calls Tryz.prog 101 #[.pointer (some ⟨b, 0, none⟩), .agg #[.int .u64 (hS g), .int .i64 (J : Int)], .int .u64 1] W fun e w' => ∃ z y, e = .returned (.tuple #[.int .u64 z, .int .i64 y]) ∧ ∃ A k CM GM, Stash w b (A.add (hS g) J 1).1 (k + 1) (X ++ mP mb A CM GM :: rest) w' ∧ SetA (A.add (hS g) J 1).1 (upd2 f g J ((f g J + 1) % 18446744073709551616)) xs ∧ k ≤ 200 + j ∧ LimW A ∧ A.t.adds ≤ 100000000 := by
  obtain ⟨A, k, CM, GM, h1, h2, h3⟩ := h
  have hp : 2 ^ g ≤ 2 ^ 1 := Nat.pow_le_pow_right (by omega) (by omega)
  refine (add_h15 h1 (by omega) (hS g) J 1 (hS_64 (by omega)) (wf_small (by omega) (by omega)) (by unfold W64; omega)).mono ?_
  rintro e w' ⟨rfl, hS⟩
  have hlow := h1.kin.choose_spec.1.low.adds
  exact ⟨_, _, rfl, A, k, CM, GM, hS, h2.add hg hJ, h3, sta_lim h1 (by omega), by omega⟩
/-- What lies in both arenas' blocks. -/
theorem ps_row {A A' : Ar} {CM : Array Value} {GM : List Nat} (S : Stash w b A' k (X ++ mP mb A CM GM :: rest) W) : W.heap[mb]? = some (.cells CM 37 (0, 0)) ∧ CM.size = 20 ∧ CM.all (·.oneCell') = true := mp_row (B := A) (GM := GM) S (by simp)
theorem ps_end {A A' : Ar} {CM CM' : Array Value} {GM GM' : List Nat} {xs : List Int} {f : Nat → Nat → Int} {j : Nat} {W1 : World} (S : Stash w b A' (k + 1) (X ++ mP mb A CM GM :: rest) W) (hA : SetA A' f xs) (hk : k ≤ 200 + j) (hT : Frm.Turn [] W W1) (hN : MNext W1 CM' A' GM GM' W') : PS2 w b mb X rest xs f (j + 1) (W'.setRow mb CM') :=
  ⟨A', k + 1, CM', GM', mput15 (S.still hT) hN, hA, by omega⟩
theorem sg_fin3 : ∀ i : Fin 3, sgN i.val < 2 ∧ hS (sgN i.val) = sgQ i.val ∧ 5 * ofN i.val + 4 < 7 * 2 ^ sgN i.val ∧ kN i.val = sgN i.val + 1 ∧ ∀ k : Fin 2, k.val ≤ sgN i.val → adN i.val k.val < 7 * 2 ^ sgN i.val ∧ adN i.val k.val = 5 * 2 ^ sgN i.val + ndN i.val k.val ∧ ndN i.val k.val ≤ 3 := by decide +kernel
theorem perm_set {a c d e f g : Part} (S : Stash w b A k [a, c, d, e, f, g] W) : Stash w b A k [c, g, d, a] W := by
  have h : [a, c, d, e, f, g].Perm [e, f, c, g, d, a] := by
    have h1 : [a, c, d, e, f, g].Perm [e, a, c, d, f, g] := List.perm_middle (l₁ := [a, c, d]) (l₂ := [f, g])
    have h2 : [a, c, d, f, g].Perm [f, a, c, d, g] := List.perm_middle (l₁ := [a, c, d]) (l₂ := [g])
    have h3 : [a, c, d, g].Perm [c, a, d, g] := List.perm_middle (l₁ := [a]) (l₂ := [d, g])
    have h4 : [a, d, g].Perm [g, a, d] := List.perm_middle (l₁ := [a, d]) (l₂ := [])
    have h5 : [a, d].Perm [d, a] := List.Perm.swap ..
    exact h1.trans ((h2.trans ((h3.trans ((h4.trans (h5.cons g)).cons c)).cons f)).cons e)
  exact (S.perm h).drop.drop
theorem mp_sg {CM : Array Value} {GM : List Nat} (S : Stash w b A k (mP mb B CM GM :: ps) W) : Stash w b A k (sgP B CM GM :: ps) W := by
  have hM := S.on _ (List.mem_cons_self ..)
  exact S.act (Frm.Turn.refl [] W) (by simp) (sgP_fra _ _ _) hM.2 (by simp [sgP]) (fun x hx => .inl ⟨_, List.mem_cons_self .., hx⟩) (by simp [sgP])
theorem set_end {CM : Array Value} {GM : List Nat} {rb pl : Nat} {xs : List Int} {v : Value} (S : Stash w b A k [mP mb A CM GM, bkP rb rzO, rwP w.heap.size v xs, bkP pl oPl] W) (hT : Frm.Turn [rb] W W') : Stash w b A k [sgP A CM GM, rwP w.heap.size v xs, bkP pl oPl] W' := by
  have S1 := S.perm (List.Perm.swap ..)
  have hr : W.heap[rb]? = some rzO := S1.on (bkP rb rzO) (List.mem_cons_self ..)
  have hlt := (Array.getElem?_eq_some_iff.1 hr).1
  have hsz := hT.size
  obtain ⟨o, ho⟩ : ∃ o, W'.heap[rb]? = some o := ⟨W'.heap[rb]'(by omega), by simp⟩
  have S2 : Stash w b A k (bkP rb o :: [mP mb A CM GM, rwP w.heap.size v xs, bkP pl oPl]) W' := S1.act hT (by simp [bkP]) (bkP_fra _ _) ho (fun y hy => .inl hy) (by simp [bkP]) (by simp [bkP])
  exact mp_sg S2.drop
end Att
end Go.Proofs.YtpajafecodkndaaGreat
