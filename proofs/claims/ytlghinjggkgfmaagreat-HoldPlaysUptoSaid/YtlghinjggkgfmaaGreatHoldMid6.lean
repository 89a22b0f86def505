/- Jobs as parts beside both arenas; the words of both arenas turned by the law itself. -/
/- Jobs as they are made; the row of them. -/
/- A pick's job: to the front, and back. -/
/- What a job is behind a pick. -/
/- A pick's round, but for the law's walk: what a grip, a fetch, a clear and the document's leave. -/
/- A pick's round: a fetch's, a clear's; what every pick leaves. -/
import Derived.Test.YtlghinjggkgfmaaGreatHoldParts
import Derived.Test.YtlghinjggkgfmaaGreatHoldClearsPlain
import Derived.Test.YtlghinjggkgfmaaGreatHoldLaw
set_option linter.unusedVariables false
set_option linter.unusedSimpArgs false
namespace Go.Proofs.YtlghinjggkgfmaaGreat
namespace Hld
open Go.RowKit Go.Maps Arn Pac Clm Cnt Evn Sta

variable {w W W' : World} {b k n r q eb mb : Nat} {A B : Ar} {ps : List Part} {v lv : Value} {E : En} {CS : Array Value} {G : List Nat} {L : List Res} {seg root h nn : Int} {s : Nat}
/-- A list of before is laid. -/
theorem lay_o (S : Stash w b A k ps W) (hk : k ≤ 10000000) {v : Value} {ws : List Int} (hv : WordsAt W v ws) (ha : ws ≠ [] → ∀ q, v.ownBlock = some q → q < w.heap.size) (hw : ∀ x, x ∈ ws → W64 x) :
    Calls Tryz.prog 40 #[.pointer (some ⟨b, 0, none⟩), v] W fun e w' => e = .returned (.tuple #[.int .u64 (A.lay ws).2.1, .int .i64 (A.lay ws).2.2]) ∧ Stash w b (A.lay ws).1 (k + 1) ps w' := by
  obtain ⟨M, h1, h2⟩ := S.kin
  refine (sin_lay h1 (by omega) hv (fun hne j hj hj' => by have := ha hne j hj; have := h1.new j hj'; omega) hw).mono ?_
  rintro e w' ⟨he, h3⟩
  obtain ⟨k1, k2⟩ := kin_after h1 h2 h3
  exact ⟨he, S.but k1 k2⟩
theorem mp_row {CM : Array Value} {GM : List Nat} (S : Stash w b A k ps W) (hm : mP mb B CM GM ∈ ps) : W.heap[mb]? = some (.cells CM 67 (0, 0)) ∧ CM.size = 20 ∧ CM.all (·.oneCell') = true := by
  obtain ⟨h1, h2⟩ := S.on _ hm
  obtain ⟨CS', e, h3, h4⟩ := h2.row
  cases e
  exact ⟨h1, h3, h4⟩
/-- What a call by value of the document's arena leaves. -/
def MNext (W0 : World) (CM' : Array Value) (A' : Ar) (GM GM' : List Nat) (W : World) : Prop := CM'.size = 20 ∧ CM'.all (·.oneCell') = true ∧ RefS W A' (.agg CM') GM' ∧ Frm.Turn [] W0 W ∧ ∀ x, x ∈ GM' → x ∈ GM ∨ (W0.heap.size ≤ x ∧ x < W.heap.size)
theorem mput {CM CM' : Array Value} {GM GM' : List Nat} {A' : Ar} (S : Stash w b A k (mP mb B CM GM :: ps) W) (h : MNext W CM' A' GM GM' W') : Stash w b A k (mP mb A' CM' GM' :: ps) (W'.setRow mb CM') := by
  obtain ⟨h1, h2, h3, h4, h5⟩ := h
  have hM := S.on _ (List.mem_cons_self ..)
  have hlt := S.lt (List.mem_cons_self ..) (x := mb) (in_own (by simp [mP]))
  have hself : mb ∉ GM := S.self _ (List.mem_cons_self ..) mb (by simp [mP])
  have hg : mb ∉ GM' := fun hx => by
    rcases h5 mb hx with e | ⟨e, _⟩
    · exact hself e
    · omega
  have hT : Frm.Turn [mb] W (W'.setRow mb CM') := setRow_turn (h4.mono (by simp)) (.inl (by simp)) CM'
  have hT2 : Frm.Turn [mb] W' (W'.setRow mb CM') := setRow_turn (Frm.Turn.refl _ W') (.inl (by simp)) CM'
  have hz := hT2.size
  refine S.act hT (by simp [mP]) (mP_fra _ _ _ _) ⟨Cnt.row_set CM' (h4.keep hM.1 (by simp)), h3.turn hT2 (fun x hx => by simp only [List.mem_singleton]; rintro rfl; exact hg hx)⟩ (fun x hx => .inl hx) (fun x hx => ?_) (fun x hx hx' => ?_)
  · rcases h5 x hx with e | ⟨e1, e2⟩
    · exact .inl ⟨_, List.mem_cons_self .., e⟩
    · exact .inr ⟨e1, by omega⟩
  · simp only [mP, List.mem_singleton] at hx
    subst hx
    exact hg hx'
theorem mlay_h {CM : Array Value} {GM : List Nat} {ws : List Int} {v : Value} (S : Stash w b A k ps W) (hm : mP mb B CM GM ∈ ps) (lB : LimW B) (hv : WordsAt W v ws) (hws : ws.length ≤ 1000000) :
    Calls Tryz.prog 41 #[.agg CM, v] W fun e w' => ∃ CM' GM', e = .returned (.tuple #[.agg CM', .int .u64 (B.lay ws).2.1, .int .i64 (B.lay ws).2.2]) ∧ MNext W CM' (B.lay ws).1 GM GM' w' := by
  refine (refLay_s B (.agg CM) GM W (S.on _ hm).2 lB.1.ok (by have := lB.1.births; omega) (by have := lB.1.lays; omega) v ws hv (by omega)).mono ?_
  rintro e w' ⟨u', G', rfl, h1, h2, h3⟩
  obtain ⟨CM', rfl, z1, z2⟩ := h1.row
  exact ⟨CM', G', rfl, z1, z2, h1, h2, h3⟩
theorem mwrite_h {CM : Array Value} {GM : List Nat} {x : Int} (S : Stash w b A k ps W) (hm : mP mb B CM GM ∈ ps) (lB : LimW B) :
    Calls Tryz.prog 29 #[.agg CM, .agg #[.int .u64 0, .int .i64 0], .int .u64 x] W fun e w' => ∃ CM' GM', e = .returned (.tuple #[.agg CM', .int .i64 (B.write 0 0 x).2]) ∧ MNext W CM' (B.write 0 0 x).1 GM GM' w' := by
  refine (refWrite_any B (.agg CM) GM W (S.on _ hm).2 lB.1.ok (by have := lB.1.faults; omega) (by have := lB.2; omega) 0 0 x (fun q hq => S.lt hm (in_imm hq))).mono ?_
  rintro e w' ⟨u', G', rfl, h1, h2, h3⟩
  obtain ⟨CM', rfl, z1, z2⟩ := h1.row
  exact ⟨CM', G', rfl, z1, z2, h1, h2, h3⟩
theorem lay64 {A : Ar} (ok : A.Ok) (hb : A.births ≤ 1000000) (ws : List Int) : W64 (A.lay ws).2.1 := by
  have hl := lead_small ok
  unfold Ar.lay
  split
  · exact w64_zero
  split
  · exact w64_zero
  · unfold W64; dsimp only; omega
theorem words_low {w0 : World} {v : Value} {ws : List Int} (h : WordsAt w0 v ws) (hne : ws ≠ []) {q : Nat} (hq : v.ownBlock = some q) : q < w0.heap.size := by
  obtain ⟨a, c, rfl, h2⟩ := wordsAt_cell h (List.length_pos_iff.2 hne)
  have h3 := cell_blt (h2 0 _ (u64s_get (List.length_pos_iff.2 hne)))
  rw [add_0] at h3
  simp [Value.ownBlock] at hq
  omega
/-- Both arenas, as the segments have been laid. -/
theorem mstart {CS : Array Value} {G : List Nat} {kh : Nat} {ohs : Obj} (S : Stash w b A k [bkP kh ohs, sgP A CS G] W) {z : Array Value} : Stash w b A k [mP W.heap.size A CS G, rwP w.heap.size (.slice none 0 0) [], bkP kh ohs, sgP A CS G] ((W.alloc (.cells z 67)).setRow W.heap.size CS) := by
  have h1 := World.alloc_heap_new W (.cells z 67)
  have hT : Frm.Turn [] W ((W.alloc (.cells z 67)).setRow W.heap.size CS) := setRow_turn ((Frm.Turn.refl [] W).alloc _) (.inr (Nat.le_refl _)) CS
  have h2 := Cnt.row_set CS h1
  have S0 : Stash w b A k [rwP w.heap.size (.slice none 0 0) [], bkP kh ohs, sgP A CS G] W := S.add (Frm.Turn.refl [] W) (rwP_fra _ _ _) (World.ownsRow_nil _ _ _ _) (by simp [rwP, Value.ownBlock]) (by simp [rwP, Value.ownBlock]) (by simp [rwP, Value.ownBlock])
  have hm : sgP A CS G ∈ [rwP w.heap.size (.slice none 0 0) [], bkP kh ohs, sgP A CS G] := by simp
  refine S0.add hT (mP_fra _ _ _ _) ⟨h2, RefS.turn (S0.on _ hm) hT (by simp)⟩ (fun x hx => ?_) (fun x hx => .inl ⟨_, hm, hx⟩) (fun x hx hx' => ?_)
  · simp [mP] at hx; subst hx; exact ⟨Nat.le_refl _, (Array.getElem?_eq_some_iff.1 h2).1⟩
  · simp [mP] at hx hx'; subst hx
    have := S0.lt hm (x := W.heap.size) (in_imm hx')
    omega
/-- While the lists are laid: behind j of them. -/
def PL1 (w : World) (b mb : Nat) (rest : List Part) (j : Nat) (s6 : Value) (W : World) : Prop :=
  ∃ A k CM GM xs, Stash w b A k (mP mb A CM GM :: rwP w.heap.size s6 xs :: rest) W ∧ xs.length = j ∧ (∀ x, x ∈ xs → W64 x) ∧ k ≤ 4 + j
/-! ### places -/
def oPl : Obj := .cells #[.int .u64 65537, .int .i64 0, .int .u64 131074, .int .i64 1, .int .u64 131074, .int .i64 2] 83
theorem pl_cells {pl : Nat} (S : Stash w b A k ps W) (hm : bkP pl oPl ∈ ps) {p : Nat} (hp : p < 3) : W.cell? ⟨pl, p * 2, none⟩ = some (.int .u64 (sgQ p)) ∧ W.cell? ⟨pl, p * 2 + 1, none⟩ = some (.int .i64 (p : Int)) := by
  have h : W.heap[pl]? = some oPl := S.on _ hm
  unfold oPl at h
  rw [Frm.cell_row _ _ _ _ _ _ h, Frm.cell_row _ _ _ _ _ _ h]
  have : p = 0 ∨ p = 1 ∨ p = 2 := by omega
  rcases this with rfl | rfl | rfl <;> exact ⟨rfl, rfl⟩
/-- What is left of a number, taken without a sign. -/
def md (x : Int) (m : Nat) : Nat := (IntKind.u64.wrap x % (m : Int)).toNat
theorem u64_rng (x : Int) : 0 ≤ IntKind.u64.wrap x ∧ IntKind.u64.wrap x ≤ 18446744073709551615 := by rw [IntKind.wrap_u64]; omega
theorem md_facts (x : Int) (m : Nat) (h0 : 0 < m) (hm : m ≤ 1000000) : md x m < m ∧ (IntKind.u64.wrap x).tmod (m : Int) = (md x m : Int) ∧ IntKind.i64.wrap (md x m : Int) = (md x m : Int) := by
  obtain ⟨h1, h2⟩ := u64_rng x
  have h3 := Int.emod_nonneg (IntKind.u64.wrap x) (show (m : Int) ≠ 0 by omega)
  have h4 := Int.emod_lt_of_pos (IntKind.u64.wrap x) (show (0 : Int) < (m : Int) by omega)
  have h5 : ((md x m : Nat) : Int) = IntKind.u64.wrap x % (m : Int) := by unfold md; omega
  refine ⟨by omega, by rw [Int.tmod_eq_emod_of_nonneg h1, h5], ?_⟩
  rw [IntKind.wrap_i64]; omega
/-! ### jobs -/
/-- A job's machine and its environment. -/
structure Jb where
  kd : Nat
  sl : Nat
  h : Int
  R : Int
  n : Int
  e : Nat
  r : Nat
  L : List Res
  v : Value
  E : En
  CE : Array Value
  lv : Value
  GE : List Nat
def Jb.g (j : Jb) : Gp := gOf (sgQ j.sl) j.sl j.L
def Jb.f (j : Jb) : Fe := fOf (sgQ j.sl) j.sl j.R j.h j.n j.L
def Jb.c (j : Jb) : Cr := cOf (sgQ j.sl) j.sl j.L
def Jb.mach (w : World) (b : Nat) (j : Jb) : List Part := if j.kd = 0 then [gpP j.r b j.g] else if j.kd = 1 then [feP j.r b j.v j.f, rwP w.heap.size j.v j.f.ws] else [crP j.r b j.c]
def Jb.pts (w : World) (b : Nat) (j : Jb) : List Part := enP j.e j.E j.CE j.lv j.GE :: j.mach w b
structure Jb.Ok (m : Nat) (j : Jb) : Prop where
  sl : j.sl < 3
  kd : j.kd < 3
  log : j.E.log = j.L
  len : j.L.length ≤ m
  g3 : j.kd = 0 → j.L.length ≤ 3
  c2 : j.kd = 2 → j.L.length ≤ 2
  fw : j.kd = 1 → lw j.L 1 ≠ j.R → j.L.length ≤ 2
  fn : j.kd = 1 → (j.L.length : Int) - 2 ≤ max j.n 0
  gF : j.kd = 0 → j.g.Fit
  fF : j.kd = 1 → j.f.Fit
  cF : j.kd = 2 → j.c.Fit
def pK (i kd r : Nat) : Value := if kd = i then .pointer (some ⟨r, 0, none⟩) else .pointer none
def Jb.cells (j : Jb) : List Value := [pK 0 j.kd j.r, pK 1 j.kd j.r, pK 2 j.kd j.r, .pointer (some ⟨j.e, 0, none⟩)]
def oneCells (js : List Jb) : List Value := js.flatMap Jb.cells
def olP (w : World) (v : Value) (js : List Jb) : Part := ⟨v.ownBlock.toList, [], fun W => W.ownsRow w.heap.size 111 4 v js.length (oneCells js)⟩
theorem olP_fra (w : World) (v : Value) (js : List Jb) : (olP w v js).Fra := fun W W' F h ht h1 _ => Frm.owns_turn h ht (fun q hq => h1 q (by simp [olP, hq]))
theorem oneCells_len (js : List Jb) : (oneCells js).length = js.length * 4 := by
  induction js with
  | nil => rfl
  | cons j js ih => rw [show oneCells (j :: js) = j.cells ++ oneCells js from rfl, List.length_append, ih, List.length_cons]; show 4 + _ = _; omega
theorem oneCells_get (js l2 : List Jb) (j : Jb) (i : Nat) (hi : i < 4) : (oneCells (js ++ j :: l2))[js.length * 4 + i]? = j.cells[i]? := by
  have e : oneCells (js ++ j :: l2) = oneCells js ++ (j.cells ++ oneCells l2) := by simp [oneCells]
  rw [e, List.getElem?_append_right (by rw [oneCells_len]; omega), oneCells_len, Nat.add_sub_cancel_left, List.getElem?_append_left (by show i < 4; exact hi)]
/-- One job is taken to the front, and back. -/
theorem jobs_pick {l1 l2 : List Jb} {j : Jb} {t : List Part} : ((l1 ++ j :: l2).flatMap (Jb.pts w b) ++ t).Perm (j.pts w b ++ ((l1 ++ l2).flatMap (Jb.pts w b) ++ t)) := by
  simp only [List.flatMap_append, List.flatMap_cons, List.append_assoc]
  exact (List.perm_append_comm_assoc _ _ _)
end Hld
end Go.Proofs.YtlghinjggkgfmaaGreat

set_option linter.unusedVariables false
set_option linter.unusedSimpArgs false
namespace Go.Proofs.YtlghinjggkgfmaaGreat
namespace Hld
open Go.RowKit Go.Maps Arn Pac Clm Cnt Evn Sta

variable {w W W' : World} {b k n r q e eb mb xb : Nat} {A B : Ar} {ps T rest X : List Part} {v v' : Value} {s : Nat} {h R nn : Int} {js : List Jb} {j : Jb}
theorem perm_h (S : Stash w b A k ps W) {qs : List Part} (h : ps.Perm qs) : Stash w b A k qs W := S.perm h
def newJ (kd s : Nat) (h R nn : Int) (e r : Nat) : Jb := ⟨kd, s, h, R, nn, e, r, [], .slice none 0 0, E00, zA20, .slice none 0 0, []⟩
def one0 (e : Nat) : List Value := [.pointer none, .pointer none, .pointer none, .pointer (some ⟨e, 0, none⟩)]
def oneO (l : List Value) : Obj := .cells l.toArray 111
theorem newJ_ok (kd : Nat) (hs : s < 3) (hk : kd < 3) (h64 : W64 h) (R64 : W64 R) : (newJ kd s h R nn e r).Ok 0 := by
  refine ⟨hs, hk, rfl, Nat.le_refl _, fun _ => Nat.zero_le _, fun _ => Nat.zero_le _, fun _ _ => Nat.zero_le _, fun _ => ?_, fun _ => ?_, fun _ => ?_, fun _ => ?_⟩
  · show ((0 : Nat) : Int) - 2 ≤ max nn 0
    omega
  · exact ⟨sgQ_ne s, sgQ_64 s, by show s < 255; omega, w64_zero, by show (0 : Int) ≤ 0 ∧ (0 : Int) ≤ 2; omega⟩
  · exact ⟨sgQ_ne s, sgQ_64 s, by show s < 255; omega, h64, R64, fun x hx => (by cases hx), by show (0 : Int) ≤ 0 ∧ (0 : Int) ≤ 2; omega⟩
  · exact ⟨sgQ_ne s, sgQ_64 s, by show s < 255; omega⟩
theorem made_g (S : Stash w b A k (gpP r b (Gp.new (sgQ s) s) :: bkP xb (oneO (one0 e)) :: enP e E00 zA20 (.slice none 0 0) [] :: T) W) :
    Stash w b A k ((newJ 0 s h R nn e r).pts w b ++ bkP xb (oneO (newJ 0 s h R nn e r).cells) :: T) (W.setCell ⟨xb, 0, none⟩ (.pointer (some ⟨r, 0, none⟩))) := by
  have S1 := poke_h (i := 0) (.pointer (some ⟨r, 0, none⟩)) (show Stash w b A k (bkP xb (.cells (one0 e).toArray 111) :: gpP r b (Gp.new (sgQ s) s) :: enP e E00 zA20 (.slice none 0 0) [] :: T) W from S.perm (List.Perm.swap ..))
  exact Stash.perm (qs := enP e E00 zA20 (.slice none 0 0) [] :: gpP r b (Gp.new (sgQ s) s) :: bkP xb (oneO (newJ 0 s h R nn e r).cells) :: T) S1 (((List.Perm.swap ..).cons _).trans ((List.Perm.swap ..).trans ((List.Perm.swap ..).cons _)))
theorem made_f (S : Stash w b A k (feP r b (.slice none 0 0) (Fe.new (sgQ s) s R h nn) :: rwP w.heap.size (.slice none 0 0) [] :: bkP xb (oneO (one0 e)) :: enP e E00 zA20 (.slice none 0 0) [] :: T) W) :
    Stash w b A k ((newJ 1 s h R nn e r).pts w b ++ bkP xb (oneO (newJ 1 s h R nn e r).cells) :: T) (W.setCell ⟨xb, 1, none⟩ (.pointer (some ⟨r, 0, none⟩))) := by
  have S1 := poke_h (i := 1) (.pointer (some ⟨r, 0, none⟩)) (show Stash w b A k (bkP xb (.cells (one0 e).toArray 111) :: feP r b (.slice none 0 0) (Fe.new (sgQ s) s R h nn) :: rwP w.heap.size (.slice none 0 0) [] :: enP e E00 zA20 (.slice none 0 0) [] :: T) W from S.perm (((List.Perm.swap ..).cons _).trans (List.Perm.swap ..)))
  have hp : ∀ a c d f : Part, (a :: c :: d :: f :: T).Perm (f :: c :: d :: a :: T) := fun a c d f => by
    have h1 : (a :: c :: d :: f :: T).Perm (f :: a :: c :: d :: T) := List.perm_middle (l₁ := [a, c, d]) (l₂ := T)
    have h2 : (a :: c :: d :: T).Perm (c :: d :: a :: T) := (List.perm_middle (l₁ := [c, d]) (l₂ := T)).symm
    exact h1.trans (h2.cons f)
  exact Stash.perm (qs := enP e E00 zA20 (.slice none 0 0) [] :: feP r b (.slice none 0 0) (Fe.new (sgQ s) s R h nn) :: rwP w.heap.size (.slice none 0 0) [] :: bkP xb (oneO (newJ 1 s h R nn e r).cells) :: T) S1 (hp _ _ _ _)
theorem made_c (S : Stash w b A k (crP r b ⟨1, sgQ s, s⟩ :: bkP xb (oneO (one0 e)) :: enP e E00 zA20 (.slice none 0 0) [] :: T) W) :
    Stash w b A k ((newJ 2 s h R nn e r).pts w b ++ bkP xb (oneO (newJ 2 s h R nn e r).cells) :: T) (W.setCell ⟨xb, 2, none⟩ (.pointer (some ⟨r, 0, none⟩))) := by
  have S1 := poke_h (i := 2) (.pointer (some ⟨r, 0, none⟩)) (show Stash w b A k (bkP xb (.cells (one0 e).toArray 111) :: crP r b ⟨1, sgQ s, s⟩ :: enP e E00 zA20 (.slice none 0 0) [] :: T) W from S.perm (List.Perm.swap ..))
  exact Stash.perm (qs := enP e E00 zA20 (.slice none 0 0) [] :: crP r b ⟨1, sgQ s, s⟩ :: bkP xb (oneO (newJ 2 s h R nn e r).cells) :: T) S1 (((List.Perm.swap ..).cons _).trans ((List.Perm.swap ..).trans ((List.Perm.swap ..).cons _)))
theorem fresh_h (S : Stash w b A k ps W) {N : Array Value} (hN : N = zE24) : Stash w b A k (enP W.heap.size E00 zA20 (.slice none 0 0) [] :: ps) (W.alloc (.cells N 77)) := by
  refine S.add ((Frm.Turn.refl [] W).alloc _) (enP_fra _ _ _ _ _) (env_fresh hN (World.alloc_heap_new W _)) (fun x hx => ?_) (by simp [enP, Value.ownBlock]) (by simp [enP, Value.ownBlock])
  simp [enP] at hx; subst hx
  exact ⟨Nat.le_refl _, by rw [World.size_alloc]; omega⟩
/-- One more is put behind the others. -/
theorem ol_more {W1 W3 : World} (S : Stash w b A k (X ++ olP w v js :: rest) W) (h1 : Frm.Turn [] W W1) (h3 : W1.grownBy W3 v.ownBlock) (hl : v'.ownBlock = v.ownBlock ∨ v'.ownBlock = some W1.heap.size) (ho : W3.ownsRow w.heap.size 111 4 v' (js.length + 1) (oneCells js ++ j.cells)) :
    Stash w b A k (X ++ olP w v' (js ++ [j]) :: rest) W3 := by
  have S1 : Stash w b A k (olP w v js :: (X ++ rest)) W1 := (S.still h1).perm List.perm_middle
  have hT3 := Frm.Turn.of_grown h3
  have he : oneCells js ++ j.cells = oneCells (js ++ [j]) := by simp [oneCells]
  have hlen : (js ++ [j]).length = js.length + 1 := by simp
  rw [he, ← hlen] at ho
  refine Stash.perm (S1.act (p' := olP w v' (js ++ [j])) hT3 (fun q hq => hq) (olP_fra _ _ _) ho (fun q hq => ?_) (by simp [olP]) (by simp [olP])) List.perm_middle.symm
  have hq' : v'.ownBlock = some q := by simpa [olP] using hq
  rcases hl with e | e
  · left; rw [e] at hq'; simp [olP, hq']
  · right
    rw [e] at hq'; cases hq'
    exact ⟨Nat.le_refl _, (ho.lt _ e).2⟩
theorem job_behind (S : Stash w b A k (j.pts w b ++ (js.flatMap (Jb.pts w b) ++ T)) W) : Stash w b A k ((js ++ [j]).flatMap (Jb.pts w b) ++ T) W := by
  refine S.perm ?_
  simp only [List.flatMap_append, List.flatMap_cons, List.flatMap_nil, List.append_nil, List.append_assoc]
  exact List.perm_append_comm_assoc _ _ _
/-- Behind the append. -/
theorem ol_next {W1 W3 : World} {o : Obj} {CM : Array Value} {GM : List Nat} (hM : Stash w b A k (j.pts w b ++ bkP xb o :: (js.flatMap (Jb.pts w b) ++ mP mb A CM GM :: olP w v js :: rest)) W) (h1 : Frm.Turn [] W W1) (h3 : W1.grownBy W3 v.ownBlock) (hl : v'.ownBlock = v.ownBlock ∨ v'.ownBlock = some W1.heap.size) (ho : W3.ownsRow w.heap.size 111 4 v' (js.length + 1) (oneCells js ++ j.cells)) :
    Stash w b A k ((js ++ [j]).flatMap (Jb.pts w b) ++ mP mb A CM GM :: olP w v' (js ++ [j]) :: rest) W3 := by
  have hS : Stash w b A k ((j.pts w b ++ bkP xb o :: (js.flatMap (Jb.pts w b) ++ [mP mb A CM GM])) ++ olP w v js :: rest) W := by
    rw [List.append_assoc, List.cons_append, List.append_assoc]; exact hM
  have hS2 := ol_more hS h1 h3 hl ho
  rw [List.append_assoc, List.cons_append, List.append_assoc] at hS2
  have hS3 : Stash w b A k (bkP xb o :: (j.pts w b ++ (js.flatMap (Jb.pts w b) ++ mP mb A CM GM :: olP w v' (js ++ [j]) :: rest))) W3 := hS2.perm List.perm_middle
  exact job_behind hS3.drop
theorem ol_row (S : Stash w b A k ps W) (hm : olP w v js ∈ ps) : W.ownsRow w.heap.size 111 4 v js.length (oneCells js) := S.on _ hm
theorem four_new (w : World) (a c d e : Value) (t : TypeId) : ∀ i u, [a, c, d, e][i]? = some u → (w.alloc (.cells #[a, c, d, e] t)).cell? ((⟨w.heap.size, 0, none⟩ : Addr).add i) = some u := fun i u hu => by
  rw [show (⟨w.heap.size, 0, none⟩ : Addr).add i = ⟨w.heap.size, i, none⟩ by unfold Addr.add; split <;> simp_all, Frm.cell_row _ _ _ _ _ _ (World.alloc_heap_new w _)]
  simpa using hu
theorem js_next {P : Nat → Jb → Prop} (h : ∀ t j, js[t]? = some j → P t j) {jn : Jb} (hn : P js.length jn) : ∀ t j, (js ++ [jn])[t]? = some j → P t j := fun t j ht => by
  by_cases hl : t < js.length
  · rw [List.getElem?_append_left hl] at ht
    exact h t j ht
  · rw [List.getElem?_append_right (by omega)] at ht
    have h0 : t - js.length = 0 := by
      have := (List.getElem?_eq_some_iff.1 ht).1
      simp at this; omega
    rw [h0] at ht
    have : t = js.length := by omega
    subst this
    simp at ht
    subst ht
    exact hn
theorem Jb.Ok.more {m m' : Nat} (h : j.Ok m) (hm : m ≤ m') : j.Ok m' := ⟨h.sl, h.kd, h.log, Nat.le_trans h.len hm, h.g3, h.c2, h.fw, h.fn, h.gF, h.fF, h.cF⟩
/-- The document's arena is put anew, wherever it stands. -/
theorem mput_at {CM CM' : Array Value} {GM GM' : List Nat} {A' : Ar} (S : Stash w b A k (X ++ mP mb B CM GM :: rest) W) (h : MNext W CM' A' GM GM' W') : Stash w b A k (X ++ mP mb A' CM' GM' :: rest) (W'.setRow mb CM') :=
  (mput (S.perm List.perm_middle) h).perm List.perm_middle.symm
theorem under_ones : Tryz.prog.underlying 104 = some (.slice 111) := by kernel_rfl
theorem info_one : (Tryz.prog.info? 111).map (fun i => (i.zero, i.size, i.bytes)) = some (some (.agg #[.pointer none, .pointer none, .pointer none, .pointer none]), 4, 32) := by kernel_rfl
theorem cells_one (j : Jb) : ∀ u ∈ j.cells, u.oneCell' = true := by
  intro u hu
  have hp : ∀ i kd r, (pK i kd r).oneCell' = true := fun i kd r => by unfold pK; split <;> rfl
  simp only [Jb.cells, List.mem_cons, List.not_mem_nil, or_false] at hu
  rcases hu with rfl | rfl | rfl | rfl
  · exact hp _ _ _
  · exact hp _ _ _
  · exact hp _ _ _
  · rfl
end Hld
end Go.Proofs.YtlghinjggkgfmaaGreat

set_option linter.unusedVariables false
set_option linter.unusedSimpArgs false
namespace Go.Proofs.YtlghinjggkgfmaaGreat
namespace Hld
open Go.RowKit Go.Maps Arn Pac Clm Cnt Evn Sta

variable {w W W' : World} {b k n r q e eb mb xb m : Nat} {A A' B : Ar} {ps T rest X Z : List Part} {v v' lv' : Value} {l1 l2 js : List Jb} {j : Jb} {CM CS' : Array Value} {GM G' : List Nat} {E' : En} {L' : List Res}
/-- Parts of a round's own are put behind the others, and dropped. -/
theorem tail_in (S : Stash w b A k (Z ++ (X ++ mP mb B CM GM :: rest)) W) : Stash w b A k (X ++ mP mb B CM GM :: (rest ++ Z)) W := by
  have h := S.perm (List.perm_append_comm (l₁ := Z))
  rw [List.append_assoc, List.cons_append] at h
  exact h
theorem drop_all : ∀ (Z : List Part), Stash w b A k (Z ++ T) W → Stash w b A k T W
  | [], S => S
  | z :: Z, S => drop_all Z (Stash.drop S)
theorem tail_out (S : Stash w b A k (X ++ mP mb B CM GM :: (rest ++ Z)) W) : Stash w b A k (X ++ mP mb B CM GM :: rest) W := by
  have h : Stash w b A k ((X ++ mP mb B CM GM :: rest) ++ Z) W := by rw [List.append_assoc, List.cons_append]; exact S
  exact drop_all Z (h.perm (List.perm_append_comm (l₂ := Z)))
theorem ol_form (S : Stash w b A k ps W) (hm : olP w v js ∈ ps) (hp : 0 < js.length) : ∃ g c, v = .slice (some ⟨g, 0, none⟩) js.length c := by
  rcases (ol_row S hm).2 with ⟨_, e⟩ | ⟨g, c, cur, e, _⟩
  · omega
  · exact ⟨g, c, e⟩
theorem job_front (S : Stash w b A k ((l1 ++ j :: l2).flatMap (Jb.pts w b) ++ T) W) : Stash w b A k (enP j.e j.E j.CE j.lv j.GE :: (j.mach w b ++ ((l1 ++ l2).flatMap (Jb.pts w b) ++ T))) W := S.perm jobs_pick
theorem front_g (S : Stash w b A k ((l1 ++ j :: l2).flatMap (Jb.pts w b) ++ T) W) (hk : j.kd = 0) : Stash w b A k (enP j.e j.E j.CE j.lv j.GE :: gpP j.r b j.g :: ((l1 ++ l2).flatMap (Jb.pts w b) ++ T)) W := by
  have h := job_front S
  rw [show j.mach w b = [gpP j.r b j.g] by unfold Jb.mach; rw [if_pos hk]] at h
  exact h
theorem front_f (S : Stash w b A k ((l1 ++ j :: l2).flatMap (Jb.pts w b) ++ T) W) (hk : j.kd = 1) : Stash w b A k (enP j.e j.E j.CE j.lv j.GE :: feP j.r b j.v j.f :: rwP w.heap.size j.v j.f.ws :: ((l1 ++ l2).flatMap (Jb.pts w b) ++ T)) W := by
  have h := job_front S
  rw [show j.mach w b = [feP j.r b j.v j.f, rwP w.heap.size j.v j.f.ws] by unfold Jb.mach; rw [if_neg (by omega), if_pos hk]] at h
  exact h
theorem front_c (S : Stash w b A k ((l1 ++ j :: l2).flatMap (Jb.pts w b) ++ T) W) (hk : j.kd = 2) : Stash w b A k (enP j.e j.E j.CE j.lv j.GE :: crP j.r b j.c :: ((l1 ++ l2).flatMap (Jb.pts w b) ++ T)) W := by
  have h := job_front S
  rw [show j.mach w b = [crP j.r b j.c] by unfold Jb.mach; rw [if_neg (by omega), if_neg (by omega)]] at h
  exact h
/-- The job behind a pick. -/
def Jb.nx (j : Jb) (L' : List Res) (v' : Value) (E' : En) (CS' : Array Value) (lv' : Value) (G' : List Nat) : Jb := { j with L := L', v := v', E := E', CE := CS', lv := lv', GE := G' }
/-- The document's arena is the environment's; the job goes back to its place. -/
theorem job_back {M : List Part} (S : Stash w b A' k (enP j.e E' CS' lv' G' :: (M ++ ((l1 ++ l2).flatMap (Jb.pts w b) ++ mP mb A CM GM :: rest))) W) (hM : (j.nx L' v' E' CS' lv' G').mach w b = M) (hA : E'.A = A') (hz : CS'.size = CM.size) :
    Stash w b A' k ((l1 ++ j.nx L' v' E' CS' lv' G' :: l2).flatMap (Jb.pts w b) ++ mP mb A' CS' G' :: rest) (W.setRow mb CS') := by
  have h1 : Stash w b A' k (mP mb A CM GM :: ((enP j.e E' CS' lv' G' :: (M ++ (l1 ++ l2).flatMap (Jb.pts w b))) ++ rest)) W := by
    refine Stash.perm (ps := (enP j.e E' CS' lv' G' :: (M ++ (l1 ++ l2).flatMap (Jb.pts w b))) ++ mP mb A CM GM :: rest) ?_ List.perm_middle
    rw [List.cons_append, List.append_assoc]
    exact S
  have h2 := sta_put (eb := j.e) (E' := E') (CE := CS') (le := lv') (GE := G') h1 (by simp) hz
  rw [hA] at h2
  have h3 : Stash w b A' k ((enP j.e E' CS' lv' G' :: (M ++ (l1 ++ l2).flatMap (Jb.pts w b))) ++ mP mb A' CS' G' :: rest) _ := h2.perm List.perm_middle.symm
  rw [List.cons_append, List.append_assoc, ← hM] at h3
  exact Stash.perm (ps := (j.nx L' v' E' CS' lv' G').pts w b ++ ((l1 ++ l2).flatMap (Jb.pts w b) ++ mP mb A' CS' G' :: rest)) h3 jobs_pick.symm
theorem nx_cells : oneCells (l1 ++ j.nx L' v' E' CS' lv' G' :: l2) = oneCells (l1 ++ j :: l2) := by simp [oneCells, Jb.nx, Jb.cells]
theorem list_split {α : Type} {l : List α} {i : Nat} (h : i < l.length) : ∃ l1 x l2, l = l1 ++ x :: l2 ∧ l1.length = i :=
  ⟨l.take i, l[i], l.drop (i + 1), by rw [List.getElem_cons_drop, List.take_append_drop], by rw [List.length_take]; omega⟩
theorem ol_cell {g c : Nat} {u : Value} {i : Nat} (S : Stash w b A k ps W) (hm : olP w (.slice (some ⟨g, 0, none⟩) js.length c) js ∈ ps) (h : (oneCells js)[i]? = some u) : W.cell? ⟨g, i, none⟩ = some u := by
  have hr := ol_row S hm
  rcases hr.2 with ⟨e, _⟩ | ⟨g', c', cur, e, _, hh, h2⟩
  · cases e
  · cases e
    rw [Frm.cell_row _ _ _ _ _ _ hh]
    rw [← h2.2.2.2, List.getElem?_take] at h
    split at h
    · simpa using h
    · cases h
/-- A pick's environment begins anew. -/
theorem begin_j (S : Stash w b A k (enP j.e j.E j.CE j.lv j.GE :: (X ++ mP mb A CM GM :: rest)) W) (O : j.Ok m) (A2 : Ar) (r : Res) :
    Calls Tryz.prog 31 #[.pointer (some ⟨j.e, 0, none⟩), .agg CM] W fun e w' => e = .returned (.tuple #[]) ∧ Stash w b A k (enP j.e (plcE A A2 j.L r 0) CM j.lv GM :: (X ++ mP mb A CM GM :: rest)) w' := by
  have h := sta_begin (mb := mb) (B := A) (CM := CM) (GM := GM) S (by simp)
  rw [plc_begin j.E A A2 r, O.log] at h
  exact h
theorem gfit_nx (O : j.Ok m) (hk : j.kd = 0) (hA : A.Ok) : (gOf (sgQ j.sl) j.sl (gLog (sgQ j.sl) j.sl A j.L)).Fit := by
  have h := (O.gF hk).step hA
  unfold Jb.g at h
  rw [g_step (O.g3 hk)] at h
  exact h
theorem glog_len (seg : Int) (s : Nat) (A : Ar) (L : List Res) : (gLog seg s A L).length ≤ L.length + 1 := by
  unfold gLog; split
  · rw [ln_app]; omega
  · omega
theorem info_one4 : (Tryz.prog.info? 111).map (·.size) = some 4 := by kernel_rfl
/-- Two new blocks, and a row of one of them turned. -/
theorem two_first (w : World) (o1 o2 : Obj) : ((w.alloc o1).alloc o2).drew.heap[w.heap.size]? = some o1 := (((Frm.Turn.refl [] (w.alloc o1)).alloc o2).drew).keep (World.alloc_heap_new w o1) (by simp)
theorem two_second (w : World) (o1 o2 : Obj) : ((w.alloc o1).alloc o2).drew.heap[w.heap.size + 1]? = some o2 := by
  have h := World.alloc_heap_new (w.alloc o1) o2
  rw [World.size_alloc] at h
  exact h
theorem row_other {W : World} {x y : Nat} {o : Obj} (cs : Array Value) (h : W.heap[y]? = some o) (hne : y ≠ x) : (W.setRow x cs).heap[y]? = some o := (setRow_turn (F := [x]) (Frm.Turn.refl _ W) (.inl (by simp)) cs).keep h (by simpa using hne)
end Hld
end Go.Proofs.YtlghinjggkgfmaaGreat

set_option linter.unusedVariables false
set_option linter.unusedSimpArgs false
namespace Go.Proofs.YtlghinjggkgfmaaGreat
namespace Hld
open Go.RowKit Go.Maps Arn Pac Clm Cnt Evn Sta

variable {w W W' : World} {m : Nat} {A : Ar} {v' lv' : Value} {j : Jb} {CS' : Array Value} {G' : List Nat} {E' : En} {L : List Res} {root nn h seg : Int} {s : Nat}
theorem flog_len (seg : Int) (s : Nat) (root h nn : Int) (A : Ar) (L : List Res) : (fLog seg s root h nn A L).length ≤ L.length + 1 := by
  unfold fLog; split
  · omega
  · rw [ln_app]; omega
theorem flog_fn (hn : (L.length : Int) - 2 ≤ max nn 0) : ((fLog seg s root h nn A L).length : Int) - 2 ≤ max nn 0 := by
  unfold fLog
  by_cases he : fEnd root nn L
  · rw [if_pos he]; exact hn
  · rw [if_neg he, ln_app]
    by_cases h2 : 2 ≤ L.length
    · have : ¬ nn ≤ (L.length : Int) - 2 := fun g => he ⟨h2, .inr g⟩
      omega
    · omega
theorem clog_len (seg : Int) (s : Nat) (A : Ar) (L : List Res) (hl : L.length ≤ 2) : (cLog seg s A L).length ≤ 2 ∧ (cLog seg s A L).length ≤ L.length + 1 := by
  unfold cLog; split
  · rw [ln_app]; omega
  · omega
theorem ffit_nx (O : j.Ok m) (hk : j.kd = 1) (hA : A.Ok) : (fOf (sgQ j.sl) j.sl j.R j.h j.n (fLog (sgQ j.sl) j.sl j.R j.h j.n A j.L)).Fit := by
  have h := (O.fF hk).step hA
  unfold Jb.f at h
  rw [f_step (O.fw hk)] at h
  exact h
theorem ok_g (O : j.Ok m) (hk : j.kd = 0) (hA : A.Ok) (hE : E'.log = gLog (sgQ j.sl) j.sl A j.L) : (j.nx (gLog (sgQ j.sl) j.sl A j.L) v' E' CS' lv' G').Ok (m + 1) :=
  ⟨O.sl, O.kd, hE, Nat.le_trans (glog_len _ _ _ _) (by have := O.len; omega), fun _ => (gLog_le (O.g3 hk)).1, fun h => by have h' : j.kd = 2 := h; omega, fun h => by have h' : j.kd = 1 := h; omega, fun h => by have h' : j.kd = 1 := h; omega,
    fun _ => gfit_nx O hk hA, fun h => by have h' : j.kd = 1 := h; omega, fun h => by have h' : j.kd = 2 := h; omega⟩
theorem ok_f (O : j.Ok m) (hk : j.kd = 1) (hA : A.Ok) (hE : E'.log = fLog (sgQ j.sl) j.sl j.R j.h j.n A j.L) : (j.nx (fLog (sgQ j.sl) j.sl j.R j.h j.n A j.L) v' E' CS' lv' G').Ok (m + 1) :=
  ⟨O.sl, O.kd, hE, Nat.le_trans (flog_len _ _ _ _ _ _ _) (by have := O.len; omega), fun h => by have h' : j.kd = 0 := h; omega, fun h => by have h' : j.kd = 2 := h; omega, fun _ => fLog_ok (O.fw hk), fun _ => flog_fn (O.fn hk),
    fun h => by have h' : j.kd = 0 := h; omega, fun _ => ffit_nx O hk hA, fun h => by have h' : j.kd = 2 := h; omega⟩
theorem ok_c (O : j.Ok m) (hk : j.kd = 2) (hE : E'.log = cLog (sgQ j.sl) j.sl A j.L) : (j.nx (cLog (sgQ j.sl) j.sl A j.L) v' E' CS' lv' G').Ok (m + 1) :=
  ⟨O.sl, O.kd, hE, Nat.le_trans (clog_len _ _ _ _ (O.c2 hk)).2 (by have := O.len; omega), fun h => by have h' : j.kd = 0 := h; omega, fun _ => (clog_len _ _ _ _ (O.c2 hk)).1, fun h => by have h' : j.kd = 1 := h; omega, fun h => by have h' : j.kd = 1 := h; omega,
    fun h => by have h' : j.kd = 0 := h; omega, fun h => by have h' : j.kd = 1 := h; omega, fun _ => ⟨sgQ_ne _, sgQ_64 _, by show j.sl < 255; have := O.sl; omega⟩⟩
end Hld
end Go.Proofs.YtlghinjggkgfmaaGreat

set_option linter.unusedVariables false
set_option linter.unusedSimpArgs false
namespace Go.Proofs.YtlghinjggkgfmaaGreat
namespace Hld
open Go.RowKit Go.Maps Arn Pac Clm Cnt Evn Sta

variable {w W W' : World} {b k n r q eb mb m : Nat} {A A' B : Ar} {ps T rest : List Part} {v : Value} {l1 l2 js : List Jb} {j : Jb} {CM : Array Value} {GM : List Nat}
/-- A round's own blocks. -/
def tmP (x2 j2 pb : Nat) (o1 o2 o3 : Obj) : Part := ⟨[x2, j2, pb], [], fun W => W.heap[x2]? = some o1 ∧ W.heap[j2]? = some o2 ∧ W.heap[pb]? = some o3⟩
theorem tmP_fra (x2 j2 pb : Nat) (o1 o2 o3 : Obj) : (tmP x2 j2 pb o1 o2 o3).Fra := fun W W' F h ht h1 _ => ⟨ht.keep h.1 (h1 x2 (by simp [tmP])), ht.keep h.2.1 (h1 j2 (by simp [tmP])), ht.keep h.2.2 (h1 pb (by simp [tmP]))⟩
theorem tm_add {x2 j2 pb : Nat} {o1 o2 o3 : Obj} {X : List Part} (S : Stash w b A k (X ++ mP mb B CM GM :: rest) W) (hT : Frm.Turn [] W W') (h1 : W'.heap[x2]? = some o1) (h2 : W'.heap[j2]? = some o2) (h3 : W'.heap[pb]? = some o3) (g1 : W.heap.size ≤ x2) (g2 : W.heap.size ≤ j2) (g3 : W.heap.size ≤ pb) :
    Stash w b A k (X ++ mP mb B CM GM :: (rest ++ [tmP x2 j2 pb o1 o2 o3])) W' := by
  refine tail_in (Z := [tmP x2 j2 pb o1 o2 o3]) ?_
  refine S.add hT (tmP_fra _ _ _ _ _ _) ⟨h1, h2, h3⟩ (fun y hy => ?_) (by simp [tmP]) (by simp [tmP])
  have l1 := (Array.getElem?_eq_some_iff.1 h1).1
  have l2 := (Array.getElem?_eq_some_iff.1 h2).1
  have l3 := (Array.getElem?_eq_some_iff.1 h3).1
  simp only [tmP, List.mem_cons, List.not_mem_nil, or_false] at hy
  rcases hy with rfl | rfl | rfl
  · exact ⟨g1, l1⟩
  · exact ⟨g2, l2⟩
  · exact ⟨g3, l3⟩
theorem one4 {a b c d : Value} (ha : a.oneCell' = true) (hb : b.oneCell' = true) (hc : c.oneCell' = true) (hd : d.oneCell' = true) : (#[a, b, c, d] : Array Value).all (·.oneCell') = true := by simp [ha, hb, hc, hd]
theorem pK_one (i kd r : Nat) : (pK i kd r).oneCell' = true := by unfold pK; split <;> rfl
/-- The environment begins. -/
theorem begin_s (S : Stash w b A k ((l1 ++ j :: l2).flatMap (Jb.pts w b) ++ mP mb A CM GM :: rest) W) :
    Calls Tryz.prog 31 #[.pointer (some ⟨j.e, 0, none⟩), .agg CM] W fun e w' => e = .returned (.tuple #[]) ∧ Stash w b A k (enP j.e (j.E.begin A) CM j.lv GM :: (j.mach w b ++ ((l1 ++ l2).flatMap (Jb.pts w b) ++ mP mb A CM GM :: rest))) w' :=
  sta_begin (mb := mb) (B := A) (CM := CM) (GM := GM) (job_front S) (by simp)
/-- The machine and the document's stand alike. -/
def PMid (w : World) (b mb : Nat) (rest : List Part) (A : Ar) (k : Nat) (CM : Array Value) (GM : List Nat) (l1 : List Jb) (j : Jb) (l2 : List Jb) (m : Nat) (W : World) : Prop :=
  ∃ A' L' v' E' CS' lv' G', Stash w b A' k (enP j.e E' CS' lv' G' :: ((j.nx L' v' E' CS' lv' G').mach w b ++ ((l1 ++ l2).flatMap (Jb.pts w b) ++ mP mb A CM GM :: rest))) W ∧ E'.A = A' ∧ (j.nx L' v' E' CS' lv' G').Ok m
theorem begin_plc (O : j.Ok m) (A A2 : Ar) (r : Res) : j.E.begin A = plcE A A2 j.L r 0 := by
  have h := plc_begin j.E A A2 r
  rw [O.log] at h
  exact h
theorem nx_machg {L' : List Res} {v' : Value} {E' : En} {CS' : Array Value} {lv' : Value} {G' : List Nat} (hk : j.kd = 0) : (j.nx L' v' E' CS' lv' G').mach w b = [gpP j.r b (gOf (sgQ j.sl) j.sl L')] := by unfold Jb.mach; rw [if_pos (show (j.nx L' v' E' CS' lv' G').kd = 0 from hk)]; rfl
theorem nx_machf {L' : List Res} {v' : Value} {E' : En} {CS' : Array Value} {lv' : Value} {G' : List Nat} (hk : j.kd = 1) : (j.nx L' v' E' CS' lv' G').mach w b = [feP j.r b v' (fOf (sgQ j.sl) j.sl j.R j.h j.n L'), rwP w.heap.size v' (fOf (sgQ j.sl) j.sl j.R j.h j.n L').ws] := by
  unfold Jb.mach; rw [if_neg (show ¬ (j.nx L' v' E' CS' lv' G').kd = 0 by show ¬ j.kd = 0; omega), if_pos (show (j.nx L' v' E' CS' lv' G').kd = 1 from hk)]; rfl
theorem nx_machc {L' : List Res} {v' : Value} {E' : En} {CS' : Array Value} {lv' : Value} {G' : List Nat} (hk : j.kd = 2) : (j.nx L' v' E' CS' lv' G').mach w b = [crP j.r b (cOf (sgQ j.sl) j.sl L')] := by
  unfold Jb.mach; rw [if_neg (show ¬ (j.nx L' v' E' CS' lv' G').kd = 0 by show ¬ j.kd = 0; omega), if_neg (show ¬ (j.nx L' v' E' CS' lv' G').kd = 1 by show ¬ j.kd = 1; omega)]; rfl
theorem mach_g (hk : j.kd = 0) : j.mach w b = [gpP j.r b (gOf (sgQ j.sl) j.sl j.L)] := by unfold Jb.mach; rw [if_pos hk]; rfl
theorem mach_f (hk : j.kd = 1) : j.mach w b = [feP j.r b j.v (fOf (sgQ j.sl) j.sl j.R j.h j.n j.L), rwP w.heap.size j.v (fOf (sgQ j.sl) j.sl j.R j.h j.n j.L).ws] := by unfold Jb.mach; rw [if_neg (by omega), if_pos hk]; rfl
theorem mach_c (hk : j.kd = 2) : j.mach w b = [crP j.r b (cOf (sgQ j.sl) j.sl j.L)] := by unfold Jb.mach; rw [if_neg (by omega), if_neg (by omega)]; rfl
theorem en_stop {E : En} {CS : Array Value} {lv : Value} {G : List Nat} (S : Stash w b A k ps W) (hm : enP eb E CS lv G ∈ ps) : W.cell? ⟨eb, 23, none⟩ = some (.bool E.stop) := by
  have h : EnAt W eb E CS lv G := S.on _ hm
  exact h.cells.2.2.2
theorem gOf_st3 {seg : Int} {s : Nat} {L : List Res} : (gOf seg s L).st ≤ 3 := by
  unfold gOf
  split
  · exact Nat.le_of_ble_eq_true rfl
  split
  · exact Nat.le_of_ble_eq_true rfl
  split
  · exact Nat.le_of_ble_eq_true rfl
  · exact Nat.le_of_ble_eq_true rfl
theorem cOf_st2 {seg : Int} {s : Nat} {L : List Res} : (cOf seg s L).st ≤ 2 := by
  unfold cOf
  dsimp only
  split
  · omega
  split
  · omega
  · omega
theorem fOf_st3 {seg root h n : Int} {s : Nat} {L : List Res} : (fOf seg s root h n L).st ≤ 3 := by
  unfold fOf
  split
  · exact Nat.le_of_ble_eq_true rfl
  split
  · exact Nat.le_of_ble_eq_true rfl
  split
  · exact Nat.le_of_ble_eq_true rfl
  split
  · exact Nat.le_of_ble_eq_true rfl
  · exact Nat.le_of_ble_eq_true rfl
/-- A grip's pick. -/
theorem arm_g (S : Stash w b A k (enP j.e (j.E.begin A) CM j.lv GM :: (j.mach w b ++ ((l1 ++ l2).flatMap (Jb.pts w b) ++ mP mb A CM GM :: rest))) W) (O : j.Ok m) (hk0 : j.kd = 0) (hk : k ≤ 100000) :
    Calls Tryz.prog 45 #[.pointer (some ⟨j.r, 0, none⟩)] W fun e w1 => e = .returned (.tuple #[]) ∧ ∃ (A1 : Ar) (ps1 : List Part), Stash w b A1 (k + 1) ps1 w1 ∧ (∀ p, p ∈ rest → p ∈ ps1) ∧ ∃ (rt ou : Int) (d : Bool), ∀ W1, Frm.Turn [] w1 W1 →
      Calls Tryz.prog 46 #[.pointer (some ⟨j.e, 0, none⟩), .agg #[.int .u64 (sgQ j.sl), .int .i64 j.sl]] W1 fun e w2 => e = .returned (.tuple #[.int .u64 rt, .int .i64 ou]) ∧ PMid w b mb rest A (k + 1) CM GM l1 j l2 (m + 1) w2 ∧
        ∀ W', Frm.Turn [] w2 W' → Calls Tryz.prog 47 #[.pointer (some ⟨j.r, 0, none⟩)] W' (fun e w' => e = .returned (.int .u64 rt) ∧ W' = w') ∧ Calls Tryz.prog 48 #[.pointer (some ⟨j.r, 0, none⟩)] W' (fun e w' => e = .returned (.int .i64 ou) ∧ W' = w') ∧
          Calls Tryz.prog 49 #[.pointer (some ⟨j.r, 0, none⟩)] W' (fun e w' => e = .returned (.bool d) ∧ W' = w') ∧ W'.cell? ⟨j.e, 23, none⟩ = some (.bool (!d)) := by
  have lA := sta_lim S (by omega)
  have hA := S.kin.ok
  rw [mach_g hk0] at S
  have S1 : Stash w b A k (gpP j.r b (gOf (sgQ j.sl) j.sl j.L) :: enP j.e (j.E.begin A) CM j.lv GM :: ((l1 ++ l2).flatMap (Jb.pts w b) ++ mP mb A CM GM :: rest)) W := S.perm (List.Perm.swap ..)
  refine (gstep_t S1 (by omega) (O.gF hk0) (O.g3 hk0)).mono ?_
  rintro e w1 ⟨he, S2⟩
  have S3 := S2.perm (List.Perm.swap ..)
  rw [begin_plc O A (gA (sgQ j.sl) j.sl A j.L) (gAsk (sgQ j.sl) j.sl j.L A).2] at S3
  have lA' := sta_lim S3 (by omega)
  have hF := gfit_nx O hk0 hA
  refine ⟨he, _, _, S3, fun p hp => by simp [hp], (gOf (sgQ j.sl) j.sl (gLog (sgQ j.sl) j.sl A j.L)).root, (gOf (sgQ j.sl) j.sl (gLog (sgQ j.sl) j.sl A j.L)).out, decide ((gOf (sgQ j.sl) j.sl (gLog (sgQ j.sl) j.sl A j.L)).st = 0), fun W1 hT1 => (gref_t (S3.still hT1) lA lA' (O.g3 hk0) (by have := O.sl; omega) hF.root).mono ?_⟩
  rintro e w2 ⟨he2, E', CS', lv', G', q1, q2, q3, S4⟩
  refine ⟨he2, ⟨gA (sgQ j.sl) j.sl A j.L, gLog (sgQ j.sl) j.sl A j.L, j.v, E', CS', lv', G', by rw [nx_machg hk0]; exact S4, q1, ok_g O hk0 hA q2⟩, fun W' hT => ?_⟩
  have S5 := S4.still hT
  refine ⟨groot_h S5 (g := nxG j.r (gOf (sgQ j.sl) j.sl (gLog (sgQ j.sl) j.sl A j.L)).st) (C := gOf (sgQ j.sl) j.sl (gLog (sgQ j.sl) j.sl A j.L)) (by simp [gpP]), gout_h S5 (g := nxG j.r (gOf (sgQ j.sl) j.sl (gLog (sgQ j.sl) j.sl A j.L)).st) (C := gOf (sgQ j.sl) j.sl (gLog (sgQ j.sl) j.sl A j.L)) (by simp [gpP]), gdone_g S5 (C := gOf (sgQ j.sl) j.sl (gLog (sgQ j.sl) j.sl A j.L)) (by simp) gOf_st3, ?_⟩
  rw [← q3]
  exact en_stop S5 (eb := j.e) (E := E') (CS := CS') (lv := lv') (G := G') (by simp)
end Hld
end Go.Proofs.YtlghinjggkgfmaaGreat

set_option linter.unusedVariables false
set_option linter.unusedSimpArgs false
namespace Go.Proofs.YtlghinjggkgfmaaGreat
namespace Hld
open Go.RowKit Go.Maps Arn Pac Clm Cnt Evn Sta

variable {w W W' : World} {b k n r q eb mb m : Nat} {A A' B : Ar} {ps T rest : List Part} {v : Value} {l1 l2 js : List Jb} {j : Jb} {CM : Array Value} {GM : List Nat}
/-- A clear's pick. -/
theorem arm_c (S : Stash w b A k (enP j.e (j.E.begin A) CM j.lv GM :: (j.mach w b ++ ((l1 ++ l2).flatMap (Jb.pts w b) ++ mP mb A CM GM :: rest))) W) (O : j.Ok m) (hk0 : j.kd = 2) (hk : k ≤ 100000) :
    Calls Tryz.prog 56 #[.pointer (some ⟨j.r, 0, none⟩)] W fun e w1 => e = .returned (.tuple #[]) ∧ ∃ (A1 : Ar) (ps1 : List Part), Stash w b A1 (k + 1) ps1 w1 ∧ (∀ p, p ∈ rest → p ∈ ps1) ∧ ∃ (d : Bool), ∀ W1, Frm.Turn [] w1 W1 →
      Calls Tryz.prog 57 #[.pointer (some ⟨j.e, 0, none⟩), .agg #[.int .u64 (sgQ j.sl), .int .i64 j.sl]] W1 fun e w2 => e = .returned (.tuple #[]) ∧ PMid w b mb rest A (k + 1) CM GM l1 j l2 (m + 1) w2 ∧
        ∀ W', Frm.Turn [] w2 W' → Calls Tryz.prog 58 #[.pointer (some ⟨j.r, 0, none⟩)] W' (fun e w' => e = .returned (.bool d) ∧ W' = w') ∧ W'.cell? ⟨j.e, 23, none⟩ = some (.bool (!d)) := by
  have lA := sta_lim S (by omega)
  have hA := S.kin.ok
  rw [mach_c hk0] at S
  have S1 : Stash w b A k (crP j.r b (cOf (sgQ j.sl) j.sl j.L) :: enP j.e (j.E.begin A) CM j.lv GM :: ((l1 ++ l2).flatMap (Jb.pts w b) ++ mP mb A CM GM :: rest)) W := S.perm (List.Perm.swap ..)
  refine (cstep_t S1 (by omega) (O.cF hk0) (O.c2 hk0)).mono ?_
  rintro e w1 ⟨he, S2⟩
  have S3 := S2.perm (List.Perm.swap ..)
  rw [begin_plc O A (cA (sgQ j.sl) j.sl A j.L) (cAsk (sgQ j.sl) j.sl j.L A).2] at S3
  have lA' := sta_lim S3 (by omega)
  refine ⟨he, _, _, S3, fun p hp => by simp [hp], decide ((cOf (sgQ j.sl) j.sl (cLog (sgQ j.sl) j.sl A j.L)).st = 0), fun W1 hT1 => (cref_t (S3.still hT1) lA lA' (O.c2 hk0) (by have := O.sl; omega)).mono ?_⟩
  rintro e w2 ⟨he2, E', CS', lv', G', q1, q2, q3, S4⟩
  refine ⟨he2, ⟨cA (sgQ j.sl) j.sl A j.L, cLog (sgQ j.sl) j.sl A j.L, j.v, E', CS', lv', G', by rw [nx_machc hk0]; exact S4, q1, ok_c O hk0 q2⟩, fun W' hT => ?_⟩
  have S5 := S4.still hT
  refine ⟨cdone_h S5 (C := cOf (sgQ j.sl) j.sl (cLog (sgQ j.sl) j.sl A j.L)) (by simp) cOf_st2, ?_⟩
  rw [← q3]
  exact en_stop S5 (eb := j.e) (E := E') (CS := CS') (lv := lv') (G := G') (by simp)
theorem fOf_ws {seg root h n : Int} {s : Nat} {L : List Res} : (fOf seg s root h n L).ws.length ≤ L.length := by
  have hw := fWs_len L
  unfold fOf
  split
  · exact Nat.zero_le _
  split
  · exact Nat.zero_le _
  split
  · exact Nat.zero_le _
  split
  · show (fWs L).length ≤ _
    omega
  · show (fWs L).length ≤ _
    omega
/-- A fetch's pick. -/
theorem arm_f (S : Stash w b A k (enP j.e (j.E.begin A) CM j.lv GM :: (j.mach w b ++ ((l1 ++ l2).flatMap (Jb.pts w b) ++ mP mb A CM GM :: rest))) W) (O : j.Ok m) (hk0 : j.kd = 1) (hk : k ≤ 100000) (hm : m ≤ 500) :
    Calls Tryz.prog 50 #[.pointer (some ⟨j.r, 0, none⟩)] W fun e w1 => e = .returned (.tuple #[]) ∧ ∃ (A1 : Ar) (ps1 : List Part), Stash w b A1 (k + 1) ps1 w1 ∧ (∀ p, p ∈ rest → p ∈ ps1) ∧ ∃ (ou : Int) (d : Bool), ∀ W1, Frm.Turn [] w1 W1 →
      Calls Tryz.prog 51 #[.pointer (some ⟨j.e, 0, none⟩), .agg #[.int .u64 (sgQ j.sl), .int .i64 j.sl], .int .u64 j.R, .int .u64 j.h, .int .i64 j.n] W1 fun e w2 => ∃ vr, e = .returned (.tuple #[vr, .int .i64 ou]) ∧ PMid w b mb rest A (k + 1) CM GM l1 j l2 (m + 1) w2 ∧
        ∀ W', Frm.Turn [] w2 W' → Calls Tryz.prog 53 #[.pointer (some ⟨j.r, 0, none⟩)] W' (fun e w' => Frm.Turn [] W' w' ∧ ∃ vm, e = .returned vm ∧ Calls Tryz.prog 52 #[vm, vr] w' fun e w'' => e = .returned (.int .i64 1) ∧ Frm.Turn [] w' w'') ∧ Calls Tryz.prog 54 #[.pointer (some ⟨j.r, 0, none⟩)] W' (fun e w' => e = .returned (.int .i64 ou) ∧ W' = w') ∧
          Calls Tryz.prog 55 #[.pointer (some ⟨j.r, 0, none⟩)] W' (fun e w' => e = .returned (.bool d) ∧ W' = w') ∧ W'.cell? ⟨j.e, 23, none⟩ = some (.bool (!d)) := by
  have lA := sta_lim S (by omega)
  have hA := S.kin.ok
  rw [mach_f hk0] at S
  have S1 : Stash w b A k (feP j.r b j.v (fOf (sgQ j.sl) j.sl j.R j.h j.n j.L) :: rwP w.heap.size j.v (fOf (sgQ j.sl) j.sl j.R j.h j.n j.L).ws :: enP j.e (j.E.begin A) CM j.lv GM :: ((l1 ++ l2).flatMap (Jb.pts w b) ++ mP mb A CM GM :: rest)) W := S.perm ((List.Perm.swap ..).trans ((List.Perm.swap ..).cons _))
  have hws := fOf_ws (seg := sgQ j.sl) (root := j.R) (h := j.h) (n := j.n) (s := j.sl) (L := j.L)
  have hlen := O.len
  refine (fstep_t S1 (by omega) (O.fF hk0) (by omega) (O.fw hk0)).mono ?_
  rintro e w1 ⟨he, v', S2⟩
  have S3 : Stash w b (fA (sgQ j.sl) j.sl j.R j.h j.n A j.L) (k + 1) (enP j.e (j.E.begin A) CM j.lv GM :: feP j.r b v' (fOf (sgQ j.sl) j.sl j.R j.h j.n (fLog (sgQ j.sl) j.sl j.R j.h j.n A j.L)) :: rwP w.heap.size v' (fOf (sgQ j.sl) j.sl j.R j.h j.n (fLog (sgQ j.sl) j.sl j.R j.h j.n A j.L)).ws :: ((l1 ++ l2).flatMap (Jb.pts w b) ++ mP mb A CM GM :: rest)) w1 := S2.perm (((List.Perm.swap ..).cons _).trans (List.Perm.swap ..))
  rw [begin_plc O A (fA (sgQ j.sl) j.sl j.R j.h j.n A j.L) (fAsk (sgQ j.sl) j.sl j.R j.h j.n j.L A).2] at S3
  have lA' := sta_lim S3 (by omega)
  have hws' := fOf_ws (seg := sgQ j.sl) (root := j.R) (h := j.h) (n := j.n) (s := j.sl) (L := fLog (sgQ j.sl) j.sl j.R j.h j.n A j.L)
  have hfl := flog_len (sgQ j.sl) j.sl j.R j.h j.n A j.L
  refine ⟨he, _, _, S3, fun p hp => by simp [hp], (fOf (sgQ j.sl) j.sl j.R j.h j.n (fLog (sgQ j.sl) j.sl j.R j.h j.n A j.L)).out, decide ((fOf (sgQ j.sl) j.sl j.R j.h j.n (fLog (sgQ j.sl) j.sl j.R j.h j.n A j.L)).st = 0), fun W1 hT1 => (fref_t (S3.still hT1) lA lA' (by omega) (by have := O.sl; omega) (O.fw hk0) (O.fn hk0)).mono ?_⟩
  rintro e w2 ⟨vr, he2, hvr, E', CS', lv', G', q1, q2, q3, S4⟩
  refine ⟨vr, he2, ⟨fA (sgQ j.sl) j.sl j.R j.h j.n A j.L, fLog (sgQ j.sl) j.sl j.R j.h j.n A j.L, v', E', CS', lv', G', by rw [nx_machf hk0]; exact S4, q1, ok_f O hk0 hA q2⟩, fun W' hT => ?_⟩
  have S5 := S4.still hT
  refine ⟨(fwords_h S5 (C := fOf (sgQ j.sl) j.sl j.R j.h j.n (fLog (sgQ j.sl) j.sl j.R j.h j.n A j.L)) (g := nxF j.r (fOf (sgQ j.sl) j.sl j.R j.h j.n (fLog (sgQ j.sl) j.sl j.R j.h j.n A j.L)).st) (v := v') (base := w.heap.size) (by simp [feP]) (by simp) (by omega)).mono ?_, fout_h S5 (g := nxF j.r (fOf (sgQ j.sl) j.sl j.R j.h j.n (fLog (sgQ j.sl) j.sl j.R j.h j.n A j.L)).st) (v := v') (C := fOf (sgQ j.sl) j.sl j.R j.h j.n (fLog (sgQ j.sl) j.sl j.R j.h j.n A j.L)) (by simp [feP]), fdone_h S5 (v := v') (C := fOf (sgQ j.sl) j.sl j.R j.h j.n (fLog (sgQ j.sl) j.sl j.R j.h j.n A j.L)) (by simp) fOf_st3, ?_⟩
  · rintro e w' ⟨ao, c, he3, hW, -, hT3⟩
    exact ⟨hT3, _, he3, words_alike hW (hvr.turn (hT.trans hT3 (by simp)) (by simp)) (by omega)⟩
  rw [← q3]
  exact en_stop S5 (eb := j.e) (E := E') (CS := CS') (lv := lv') (G := G') (by simp)
/-- What a pick leaves of its environment's arena. -/
theorem pmid_facts {Z : List Part} (h : PMid w b mb (rest ++ Z) A k CM GM l1 j l2 m W) : ∃ A' CS' G' jn, W.rangeAt j.e 0 CS'.toList ∧ CS'.size = 20 ∧ CS'.all (·.oneCell') = true ∧ W.heap[mb]? = some (.cells CM 67 (0, 0)) ∧ CM.size = 20 ∧
    Stash w b A' k ((l1 ++ jn :: l2).flatMap (Jb.pts w b) ++ mP mb A' CS' G' :: rest) (W.setRow mb CS') ∧ oneCells (l1 ++ jn :: l2) = oneCells (l1 ++ j :: l2) ∧ jn.Ok m ∧ jn.kd = j.kd ∧ jn.sl = j.sl ∧ jn.h = j.h ∧ jn.n = j.n ∧ jn.R = j.R := by
  obtain ⟨A', L', v', E', CS', lv', G', S, hA, O⟩ := h
  have hE : EnAt W j.e E' CS' lv' G' := S.on _ (List.mem_cons_self ..)
  obtain ⟨h1, h2, h3⟩ := mp_row (mb := mb) (B := A) (CM := CM) (GM := GM) S (by simp)
  have hb := job_back S rfl hA (by rw [hE.size, h2])
  refine ⟨A', CS', G', j.nx L' v' E' CS' lv' G', hE.range, hE.size, hE.one, h1, h2, tail_out hb, nx_cells, O, rfl, rfl, rfl, rfl, rfl⟩
theorem tm_cells {x2 j2 pb : Nat} {g0 g1 g2 g3 z0 z1 z2 z3 z4 y0 y1 : Value} {t1 t2 t3 : TypeId} (S : Stash w b A k ps W) (hm : tmP x2 j2 pb (.cells #[g0, g1, g2, g3] t1) (.cells #[z0, z1, z2, z3, z4] t2) (.cells #[y0, y1] t3) ∈ ps) (hT : Frm.Turn [] W W') :
    (W'.cell? ⟨x2, 0, none⟩ = some g0 ∧ W'.cell? ⟨x2, 1, none⟩ = some g1 ∧ W'.cell? ⟨x2, 2, none⟩ = some g2 ∧ W'.cell? ⟨x2, 3, none⟩ = some g3) ∧ (W'.cell? ⟨j2, 3, none⟩ = some z3 ∧ W'.cell? ⟨j2, 4, none⟩ = some z4) ∧ W'.cell? ⟨pb, 0, none⟩ = some y0 ∧ W'.cell? ⟨pb, 1, none⟩ = some y1 := by
  obtain ⟨h1, h2, h3⟩ := S.on _ hm
  have h1 := hT.keep h1 (by simp)
  have h2 := hT.keep h2 (by simp)
  have h3 := hT.keep h3 (by simp)
  refine ⟨⟨(Frm.cell_row _ _ 0 _ _ _ h1).trans rfl, (Frm.cell_row _ _ 1 _ _ _ h1).trans rfl, (Frm.cell_row _ _ 2 _ _ _ h1).trans rfl, (Frm.cell_row _ _ 3 _ _ _ h1).trans rfl⟩, ⟨(Frm.cell_row _ _ 3 _ _ _ h2).trans rfl, (Frm.cell_row _ _ 4 _ _ _ h2).trans rfl⟩, (Frm.cell_row _ _ 0 _ _ _ h3).trans rfl, (Frm.cell_row _ _ 1 _ _ _ h3).trans rfl⟩
theorem pmid_still {W' : World} (h : PMid w b mb rest A k CM GM l1 j l2 m W) (hT : Frm.Turn [] W W') : PMid w b mb rest A k CM GM l1 j l2 m W' := by
  obtain ⟨A', L', v', E', CS', lv', G', S, hA, O⟩ := h
  exact ⟨A', L', v', E', CS', lv', G', S.still hT, hA, O⟩
theorem pmid_tm {x2 j2 pb : Nat} {g0 g1 g2 g3 z0 z1 z2 z3 z4 y0 y1 : Value} {t1 t2 t3 : TypeId} {W' : World} (h : PMid w b mb rest A k CM GM l1 j l2 m W) (hm : tmP x2 j2 pb (.cells #[g0, g1, g2, g3] t1) (.cells #[z0, z1, z2, z3, z4] t2) (.cells #[y0, y1] t3) ∈ rest) (hT : Frm.Turn [] W W') :
    (W'.cell? ⟨x2, 0, none⟩ = some g0 ∧ W'.cell? ⟨x2, 1, none⟩ = some g1 ∧ W'.cell? ⟨x2, 2, none⟩ = some g2 ∧ W'.cell? ⟨x2, 3, none⟩ = some g3) ∧ (W'.cell? ⟨j2, 3, none⟩ = some z3 ∧ W'.cell? ⟨j2, 4, none⟩ = some z4) ∧ W'.cell? ⟨pb, 0, none⟩ = some y0 ∧ W'.cell? ⟨pb, 1, none⟩ = some y1 := by
  obtain ⟨A', L', v', E', CS', lv', G', S, hA, O⟩ := h
  exact tm_cells S (List.mem_cons_of_mem _ (List.mem_append_right _ (List.mem_append_right _ (List.mem_cons_of_mem _ hm)))) hT
theorem list_put {P : Nat → Jb → Prop} {jn : Jb} (h : ∀ t x, (l1 ++ j :: l2)[t]? = some x → P t x) (hn : P l1.length jn) : ∀ t x, (l1 ++ jn :: l2)[t]? = some x → P t x := fun t x ht => by
  rcases Nat.lt_trichotomy t l1.length with hl | hl | hl
  · rw [List.getElem?_append_left hl] at ht
    exact h t x (by rw [List.getElem?_append_left hl]; exact ht)
  · subst hl
    rw [List.getElem?_append_right (Nat.le_refl _), Nat.sub_self, List.getElem?_cons_zero] at ht
    cases ht
    exact hn
  · obtain ⟨d, rfl⟩ : ∃ d, t = l1.length + (d + 1) := ⟨t - l1.length - 1, by omega⟩
    rw [List.getElem?_append_right (by omega), show l1.length + (d + 1) - l1.length = d + 1 by omega, List.getElem?_cons_succ] at ht
    exact h _ x (by rw [List.getElem?_append_right (by omega), show l1.length + (d + 1) - l1.length = d + 1 by omega, List.getElem?_cons_succ]; exact ht)
end Hld
end Go.Proofs.YtlghinjggkgfmaaGreat
