/- Grips, fetches and clears as what the answers of their environments make. No program is spoken of here. -/
/- The document's grips, fetches and clears, walked over an environment. -/
/- The document's Grip and Clear, walked. -/
/- The document's Fetch, walked. -/
import Derived.Test.YtlghinjggkgfmaaGreatEnvTie
import Derived.Test.YtlghinjggkgfmaaGreatHoldPlain
import Derived.Test.YtlghinjggkgfmaaGreatHoldKit
import Derived.Test.YtlghinjggkgfmaaGreatEnvPos
import Derived.Test.YtlghinjggkgfmaaGreatEnvWrite
import Derived.Laws.Rows
import Derived.Deep.AppendSrc
set_option linter.unusedVariables false
set_option linter.unusedSimpArgs false
namespace Go.Proofs.YtlghinjggkgfmaaGreat
namespace Hld
open Arn Clm Evn

variable {A : Ar} {L : List Res} {seg : Int} {s : Nat} {root h n : Int} {r : Res}
def lw (L : List Res) (i : Nat) : Int := (L.getD i Res.zero).w
theorem lw_app (L : List Res) (r : Res) {i : Nat} (h : i < L.length) : lw (L ++ [r]) i = lw L i := by
  unfold lw
  rw [List.getD_eq_getElem?_getD, List.getElem?_append_left h, List.getD_eq_getElem?_getD]
theorem lw_last (L : List Res) (r : Res) : lw (L ++ [r]) L.length = r.w := by
  unfold lw
  rw [List.getD_eq_getElem?_getD, List.getElem?_append_right (Nat.le_refl _)]
  simp
/-! ### grips -/
def gOf (seg : Int) (s : Nat) (L : List Res) : Gp :=
  if L.length = 0 then Gp.new seg s else if L.length = 1 then ⟨2, seg, s, lw L 0, 0⟩ else if L.length = 2 then ⟨3, seg, s, lw L 0, 0⟩ else ⟨0, seg, s, lw L 0, if lw L 2 = lw L 0 then 1 else 2⟩
def gAsk (seg : Int) (s : Nat) (L : List Res) : Ar → Ar × Res := if L.length = 1 then aWrite seg (5 * (ofN s : Int) + 3) (lw L 0 / 1048576) else aRead 0 0
/-- The log behind the step. -/
def gLog (seg : Int) (s : Nat) (A : Ar) (L : List Res) : List Res := if L.length < 3 then L ++ [(gAsk seg s L A).2] else L
theorem g_step (hl : L.length ≤ 3) : (gOf seg s L).step A = (if L.length < 3 then (gAsk seg s L A).1 else A, gOf seg s (gLog seg s A L)) := by
  have : L.length = 0 ∨ L.length = 1 ∨ L.length = 2 ∨ L.length = 3 := by omega
  rcases this with e | e | e | e
  · have e1 : gOf seg s L = Gp.new seg s := by unfold gOf; rw [if_pos e]
    have e2 : gLog seg s A L = L ++ [(gAsk seg s L A).2] := by unfold gLog; rw [if_pos (by omega)]
    have e3 : gAsk seg s L = aRead 0 0 := by unfold gAsk; rw [if_neg (by omega)]
    have e4 : gOf seg s (L ++ [(gAsk seg s L A).2]) = ⟨2, seg, s, lw (L ++ [(gAsk seg s L A).2]) 0, 0⟩ := by
      unfold gOf; rw [if_neg (by simp), if_pos (by simp [e])]
    have e5 := lw_last L (gAsk seg s L A).2
    rw [e] at e5
    rw [e1, e2, e4, e5, if_pos (by omega), e3]
    rfl
  · have e1 : gOf seg s L = ⟨2, seg, s, lw L 0, 0⟩ := by unfold gOf; rw [if_neg (by omega), if_pos e]
    have e2 : gLog seg s A L = L ++ [(gAsk seg s L A).2] := by unfold gLog; rw [if_pos (by omega)]
    have e3 : gAsk seg s L = aWrite seg (5 * (ofN s : Int) + 3) (lw L 0 / 1048576) := by unfold gAsk; rw [if_pos e]
    have e4 : gOf seg s (L ++ [(gAsk seg s L A).2]) = ⟨3, seg, s, lw (L ++ [(gAsk seg s L A).2]) 0, 0⟩ := by
      unfold gOf; rw [if_neg (by simp), if_neg (by simp [e]), if_pos (by simp [e])]
    rw [e1, e2, e4, lw_app _ _ (by omega), if_pos (by omega), e3]
    rfl
  · have e1 : gOf seg s L = ⟨3, seg, s, lw L 0, 0⟩ := by unfold gOf; rw [if_neg (by omega), if_neg (by omega), if_pos e]
    have e2 : gLog seg s A L = L ++ [(gAsk seg s L A).2] := by unfold gLog; rw [if_pos (by omega)]
    have e3 : gAsk seg s L = aRead 0 0 := by unfold gAsk; rw [if_neg (by omega)]
    have e4 : gOf seg s (L ++ [(gAsk seg s L A).2]) = ⟨0, seg, s, lw (L ++ [(gAsk seg s L A).2]) 0, if lw (L ++ [(gAsk seg s L A).2]) 2 = lw (L ++ [(gAsk seg s L A).2]) 0 then 1 else 2⟩ := by
      unfold gOf; rw [if_neg (by simp), if_neg (by simp [e]), if_neg (by simp [e])]
    have e5 := lw_last L (gAsk seg s L A).2
    rw [e] at e5
    rw [e1, e2, e4, lw_app _ _ (by omega), e5, if_pos (by omega), e3]
    rfl
  · have e1 : gOf seg s L = ⟨0, seg, s, lw L 0, if lw L 2 = lw L 0 then 1 else 2⟩ := by unfold gOf; rw [if_neg (by omega), if_neg (by omega), if_neg (by omega)]
    have e2 : gLog seg s A L = L := by unfold gLog; rw [if_neg (by omega)]
    rw [e2, if_neg (by omega), e1]
    rfl
theorem gLog_le (hl : L.length ≤ 3) : (gLog seg s A L).length ≤ 3 ∧ L.length ≤ (gLog seg s A L).length := by
  unfold gLog; split
  · rw [List.length_append, List.length_singleton]; omega
  · omega
/-! ### clears -/
def cOf (seg : Int) (s : Nat) (L : List Res) : Cr := ⟨if L.length = 0 then 1 else if L.length = 1 then 2 else 0, seg, s⟩
def cAsk (seg : Int) (s : Nat) (L : List Res) : Ar → Ar × Res := if L.length = 0 then aWrite seg (5 * (ofN s : Int) + 3) 0 else aWrite seg (5 * (ofN s : Int) + 4) 0
def cLog (seg : Int) (s : Nat) (A : Ar) (L : List Res) : List Res := if L.length < 2 then L ++ [(cAsk seg s L A).2] else L
theorem c_step (hl : L.length ≤ 2) : (cOf seg s L).step A = (if L.length < 2 then (cAsk seg s L A).1 else A, cOf seg s (cLog seg s A L)) := by
  have : L.length = 0 ∨ L.length = 1 ∨ L.length = 2 := by omega
  rcases this with e | e | e
  · have e1 : cOf seg s L = ⟨1, seg, s⟩ := by unfold cOf; rw [if_pos e]
    have e2 : cLog seg s A L = L ++ [(cAsk seg s L A).2] := by unfold cLog; rw [if_pos (by omega)]
    have e3 : cAsk seg s L = aWrite seg (5 * (ofN s : Int) + 3) 0 := by unfold cAsk; rw [if_pos e]
    have e4 : cOf seg s (L ++ [(cAsk seg s L A).2]) = ⟨2, seg, s⟩ := by unfold cOf; rw [if_neg (by simp), if_pos (by simp [e])]
    rw [e1, e2, e4, if_pos (by omega), e3]
    rfl
  · have e1 : cOf seg s L = ⟨2, seg, s⟩ := by unfold cOf; rw [if_neg (by omega), if_pos e]
    have e2 : cLog seg s A L = L ++ [(cAsk seg s L A).2] := by unfold cLog; rw [if_pos (by omega)]
    have e3 : cAsk seg s L = aWrite seg (5 * (ofN s : Int) + 4) 0 := by unfold cAsk; rw [if_neg (by omega)]
    have e4 : cOf seg s (L ++ [(cAsk seg s L A).2]) = ⟨0, seg, s⟩ := by unfold cOf; rw [if_neg (by simp), if_neg (by simp [e])]
    rw [e1, e2, e4, if_pos (by omega), e3]
    rfl
  · have e1 : cOf seg s L = ⟨0, seg, s⟩ := by unfold cOf; rw [if_neg (by omega), if_neg (by omega)]
    have e2 : cLog seg s A L = L := by unfold cLog; rw [if_neg (by omega)]
    rw [e2, if_neg (by omega), e1]
    rfl
/-! ### fetches -/
def fWs (L : List Res) : List Int := (L.drop 2).map Res.w
theorem fWs_len (L : List Res) : (fWs L).length = L.length - 2 := by unfold fWs; simp
theorem fWs_app (L : List Res) (r : Res) (h : 2 ≤ L.length) : fWs (L ++ [r]) = fWs L ++ [r.w] := by
  unfold fWs
  rw [List.drop_append_of_le_length h]
  simp
/-- Is nothing left? -/
def fEnd (root n : Int) (L : List Res) : Prop := 2 ≤ L.length ∧ (lw L 1 ≠ root ∨ n ≤ ((L.length : Int) - 2))
instance (root n : Int) (L : List Res) : Decidable (fEnd root n L) := by unfold fEnd; infer_instance
def fOf (seg : Int) (s : Nat) (root h n : Int) (L : List Res) : Fe :=
  if L.length = 0 then Fe.new seg s root h n else if L.length = 1 then ⟨2, seg, s, root, h, n, [], 0⟩
  else if lw L 1 ≠ root then ⟨0, seg, s, root, h, n, [], 2⟩
  else if n ≤ ((L.length : Int) - 2) then ⟨0, seg, s, root, h, n, fWs L, 1⟩ else ⟨3, seg, s, root, h, n, fWs L, 0⟩
def fAsk (seg : Int) (s : Nat) (root h n : Int) (L : List Res) : Ar → Ar × Res := if L.length = 0 then aWrite seg (5 * (ofN s : Int) + 4) h else if L.length = 1 then aRead 0 0 else aRead h ((L.length : Int) - 2)
def fLog (seg : Int) (s : Nat) (root h n : Int) (A : Ar) (L : List Res) : List Res := if fEnd root n L then L else L ++ [(fAsk seg s root h n L A).2]
theorem f_step (hw : lw L 1 ≠ root → L.length ≤ 2) : (fOf seg s root h n L).step A = (if fEnd root n L then A else (fAsk seg s root h n L A).1, fOf seg s root h n (fLog seg s root h n A L)) := by
  by_cases e : L.length = 0
  · have e1 : fOf seg s root h n L = Fe.new seg s root h n := by unfold fOf; rw [if_pos e]
    have en : ¬ fEnd root n L := by unfold fEnd; omega
    have e3 : fAsk seg s root h n L = aWrite seg (5 * (ofN s : Int) + 4) h := by unfold fAsk; rw [if_pos e]
    have e2 : fLog seg s root h n A L = L ++ [(fAsk seg s root h n L A).2] := by unfold fLog; rw [if_neg en]
    have e4 : fOf seg s root h n (L ++ [(fAsk seg s root h n L A).2]) = ⟨2, seg, s, root, h, n, [], 0⟩ := by unfold fOf; rw [if_neg (by simp), if_pos (by simp [e])]
    rw [if_neg en, e2, e4, e1, e3]
    rfl
  by_cases e' : L.length = 1
  · have e1 : fOf seg s root h n L = ⟨2, seg, s, root, h, n, [], 0⟩ := by unfold fOf; rw [if_neg e, if_pos e']
    have en : ¬ fEnd root n L := by unfold fEnd; omega
    have e3 : fAsk seg s root h n L = aRead 0 0 := by unfold fAsk; rw [if_neg e, if_pos e']
    have e2 : fLog seg s root h n A L = L ++ [(fAsk seg s root h n L A).2] := by unfold fLog; rw [if_neg en]
    have el := lw_last L (fAsk seg s root h n L A).2
    rw [e'] at el
    have ew : fWs (L ++ [(fAsk seg s root h n L A).2]) = [] := List.eq_nil_of_length_eq_zero (by rw [fWs_len]; simp [e'])
    have eL : ((L ++ [(fAsk seg s root h n L A).2]).length : Int) - 2 = 0 := by rw [List.length_append, List.length_singleton, e']; omega
    have e4 : fOf seg s root h n (L ++ [(fAsk seg s root h n L A).2]) = if (fAsk seg s root h n L A).2.w = root then (⟨2, seg, s, root, h, n, [], 0⟩ : Fe).goOn else ⟨0, seg, s, root, h, n, [], 2⟩ := by
      unfold fOf
      rw [if_neg (by simp), if_neg (by simp [e']), el, ew, eL]
      by_cases er : (fAsk seg s root h n L A).2.w = root
      · rw [if_neg (by simpa using er), if_pos er]; rfl
      · rw [if_pos er, if_neg er]
    rw [if_neg en, e2, e4, e1, e3]
    rfl
  · by_cases er : lw L 1 = root
    · by_cases en : n ≤ ((L.length : Int) - 2)
      · have hE : fEnd root n L := ⟨by omega, .inr en⟩
        have e1 : fOf seg s root h n L = ⟨0, seg, s, root, h, n, fWs L, 1⟩ := by unfold fOf; rw [if_neg e, if_neg e', if_neg (by simpa using er), if_pos en]
        have e2 : fLog seg s root h n A L = L := by unfold fLog; rw [if_pos hE]
        rw [if_pos hE, e2, e1]
        rfl
      · have hE : ¬ fEnd root n L := fun hh => hh.2.elim (fun g => g er) (fun g => en g)
        have e1 : fOf seg s root h n L = ⟨3, seg, s, root, h, n, fWs L, 0⟩ := by unfold fOf; rw [if_neg e, if_neg e', if_neg (by simpa using er), if_neg en]
        have e3 : fAsk seg s root h n L = aRead h ((L.length : Int) - 2) := by unfold fAsk; rw [if_neg e, if_neg e']
        have e2 : fLog seg s root h n A L = L ++ [(fAsk seg s root h n L A).2] := by unfold fLog; rw [if_neg hE]
        have ex : ((fWs L).length : Int) = (L.length : Int) - 2 := by rw [fWs_len]; omega
        have e4 : fOf seg s root h n (L ++ [(fAsk seg s root h n L A).2]) = ((⟨3, seg, s, root, h, n, fWs L, 0⟩ : Fe).add (fAsk seg s root h n L A).2.w).goOn := by
          unfold fOf
          rw [if_neg (by simp), if_neg (by rw [List.length_append, List.length_singleton]; omega), lw_app _ _ (by omega), if_neg (by simpa using er), fWs_app _ _ (by omega)]
          unfold Fe.goOn Fe.add
          dsimp only
          have eL : ((L ++ [(fAsk seg s root h n L A).2]).length : Int) - 2 = ((fWs L ++ [(fAsk seg s root h n L A).2.w]).length : Int) := by
            rw [List.length_append, List.length_singleton, List.length_append, List.length_singleton, fWs_len]; omega
          rw [eL]
        rw [if_neg hE, e2, e4, e1, e3, ← ex]
        rfl
    · have hE : fEnd root n L := ⟨by omega, .inl er⟩
      have e1 : fOf seg s root h n L = ⟨0, seg, s, root, h, n, [], 2⟩ := by unfold fOf; rw [if_neg e, if_neg e', if_pos er]
      have e2 : fLog seg s root h n A L = L := by unfold fLog; rw [if_pos hE]
      rw [if_pos hE, e2, e1]
      rfl
theorem fLog_ok (hw : lw L 1 ≠ root → L.length ≤ 2) : lw (fLog seg s root h n A L) 1 ≠ root → (fLog seg s root h n A L).length ≤ 2 := by
  unfold fLog
  split
  · exact hw
  · rename_i hE
    intro hne
    rw [List.length_append, List.length_singleton]
    by_cases h2 : L.length ≤ 1
    · omega
    · rw [lw_app _ _ (by omega)] at hne
      exact absurd ⟨by omega, .inl hne⟩ hE
end Hld
end Go.Proofs.YtlghinjggkgfmaaGreat

set_option linter.unusedVariables false
set_option linter.unusedSimpArgs false
namespace Go.Proofs.YtlghinjggkgfmaaGreat
namespace Hld
open Go.RowKit Go.Maps Arn Pac Clm Cnt Evn

/-- The environment, beside blocks of its caller. -/
structure EnvB (W0 : World) (lv0 : Value) (G0 : List Nat) (eb : Nat) (Bs : List Nat) (P : En) (W : World) : Prop where
  env : ∃ CS lv G, EnAt W eb P CS lv G ∧ (∀ k, k ∈ Bs → k ∉ G ∧ lv.ownBlock ≠ some k) ∧ (∀ k, k ∈ G → k ∈ G0 ∨ W0.heap.size ≤ k) ∧ ∀ k, lv.ownBlock = some k → lv0.ownBlock = some k ∨ W0.heap.size ≤ k
  turn : Frm.Turn [eb] W0 W
  bs : ∀ k, k ∈ Bs → k < W.heap.size ∧ W0.heap.size ≤ k
  old : eb < W0.heap.size
variable {W0 W W' : World} {lv0 : Value} {G0 : List Nat} {eb : Nat} {Bs : List Nat} {P P' : En} {CS : Array Value} {lv : Value} {G : List Nat}
theorem lv_lt (h : EnAt W eb P CS lv G) {k : Nat} (hk : lv.ownBlock = some k) : k < W.heap.size := by
  rcases h.log.2 with ⟨rfl, _⟩ | ⟨g', c', cur, rfl, _, hh, _⟩
  · simp [Value.ownBlock] at hk
  · simp [Value.ownBlock] at hk
    subst hk
    exact (Array.getElem?_eq_some_iff.1 hh).1
theorem envB_start (h : EnAt W eb P CS lv G) : EnvB W lv G eb [] P W := ⟨⟨CS, lv, G, h, by simp, fun k hk => .inl hk, fun k hk => .inl hk⟩, Frm.Turn.refl _ _, by simp, h.lt⟩
theorem EnvB.step (h : EnvB W0 lv0 G0 eb Bs P W) (ht : Frm.Turn [] W W') : EnvB W0 lv0 G0 eb Bs P W' := by
  obtain ⟨⟨CS, lv, G, h1, h2, h3, h4⟩, h5, h6, h7⟩ := h
  have := ht.size
  exact ⟨⟨CS, lv, G, h1.step ht, h2, h3, h4⟩, h5.trans ht (by simp), fun k hk => ⟨by have := (h6 k hk).1; omega, (h6 k hk).2⟩, h7⟩
/-- A block more. -/
theorem EnvB.add (h : EnvB W0 lv0 G0 eb Bs P W) (ht : Frm.Turn [] W W') {x : Nat} (h1 : W.heap.size ≤ x) (h2 : x < W'.heap.size) : EnvB W0 lv0 G0 eb (x :: Bs) P W' := by
  obtain ⟨⟨CS, lv, G, e1, e2, e3, e4⟩, h5, h6, h7⟩ := h
  have hs := ht.size
  have hz := h5.size
  refine ⟨⟨CS, lv, G, e1.step ht, fun k hk => ?_, e3, e4⟩, h5.trans ht (by simp), fun k hk => ?_, h7⟩
  · rcases List.mem_cons.1 hk with rfl | hk
    · exact ⟨fun hg => by have := e1.gl _ hg; omega, fun hl => by have := lv_lt e1 hl; omega⟩
    · exact e2 k hk
  · rcases List.mem_cons.1 hk with rfl | hk
    · exact ⟨h2, by omega⟩
    · exact ⟨by have := (h6 k hk).1; omega, (h6 k hk).2⟩
/-- The caller's blocks turn. -/
theorem EnvB.poke {F : List Nat} (h : EnvB W0 lv0 G0 eb Bs P W) (ht : Frm.Turn F W W') (hF : ∀ k, k ∈ F → k ∈ Bs) : EnvB W0 lv0 G0 eb Bs P W' := by
  obtain ⟨⟨CS, lv, G, e1, e2, e3, e4⟩, h5, h6, h7⟩ := h
  have hs := ht.size
  refine ⟨⟨CS, lv, G, e1.turn ht (fun hk => ?_) (fun k hk hk' => (e2 k (hF k hk')).1 hk) (fun k hk hk' => (e2 k (hF k hk')).2 hk), e2, e3, e4⟩, h5.trans ht (fun k hk => .inr (h6 k (hF k hk)).2), fun k hk => ⟨by have := (h6 k hk).1; omega, (h6 k hk).2⟩, h7⟩
  have := (h6 _ (hF _ hk)).2
  omega
/-- Accesses, or a call that does some. -/
theorem EnvB.go (h : EnvB W0 lv0 G0 eb Bs P W) {f : Nat} {args : Array Value} {Q : Ending → Prop} {R : En → World → Prop}
    (hc : ∀ CS lv G, EnAt W eb P CS lv G → Calls Tryz.prog f args W fun e w' => Q e ∧ ∃ P' CS' lv' G', R P' w' ∧ EnAt w' eb P' CS' lv' G' ∧ Frm.Turn [eb] W w' ∧ (∀ k, k ∈ G' → k ∈ G ∨ W.heap.size ≤ k) ∧ ∀ k, lv'.ownBlock = some k → lv.ownBlock = some k ∨ W.heap.size ≤ k) :
    Calls Tryz.prog f args W fun e w' => Q e ∧ ∃ P', R P' w' ∧ EnvB W0 lv0 G0 eb Bs P' w' ∧ Frm.Turn [eb] W w' := by
  obtain ⟨⟨CS, lv, G, h1, h2, h3, h4⟩, h5, h6, h7⟩ := h
  refine (hc CS lv G h1).mono ?_
  rintro e w' ⟨hq, P', CS', lv', G', hr, e1, e2, e3, e4⟩
  have hz := h5.size
  have hs := e2.size
  refine ⟨hq, P', hr, ⟨⟨CS', lv', G', e1, fun k hk => ⟨fun hg => ?_, fun hl => ?_⟩, fun k hg => ?_, fun k hl => ?_⟩, h5.trans e2 (fun k hk => .inl hk), fun k hk => ⟨by have := (h6 k hk).1; omega, (h6 k hk).2⟩, h7⟩, e2⟩
  · rcases e3 k hg with h | h
    · exact (h2 k hk).1 h
    · have := (h6 k hk).1; omega
  · rcases e4 k hl with h | h
    · exact (h2 k hk).2 h
    · have := (h6 k hk).1; omega
  · rcases e3 k hg with h | h
    · exact h3 k h
    · exact .inr (by omega)
  · rcases e4 k hl with h | h
    · exact h4 k h
    · exact .inr (by omega)
theorem EnvB.stop (h : EnvB W0 lv0 G0 eb Bs P W) : W.cell? ⟨eb, 23, none⟩ = some (.bool P.stop) := by
  obtain ⟨⟨CS, lv, G, h1, _⟩, _⟩ := h
  exact h1.cells.2.2.2
theorem EnvB.drop (h : EnvB W0 lv0 G0 eb Bs P W) : EnvB W0 lv0 G0 eb [] P W := by
  obtain ⟨⟨CS, lv, G, e1, e2, e3, e4⟩, h5, h6, h7⟩ := h
  exact ⟨⟨CS, lv, G, e1, by simp, e3, e4⟩, h5, by simp, h7⟩
variable {A A' : Ar} {L : List Res} {r : Res} {i : Nat}
/-! ### accesses, whether it has stopped or not -/
theorem plc_all (f : Ar → Ar × Res) (hf : i = L.length → f A = (A', r)) : (plcE A A' L r i).acc f = (plcE A A' L r (i + 1), ansE L r i) := by
  by_cases h : i ≤ L.length + 1
  · exact plc_acc f h hf
  · have e : plcE A A' L r i = endE A' L r := by unfold plcE; rw [if_neg h]
    have e2 : plcE A A' L r (i + 1) = endE A' L r := by unfold plcE; rw [if_neg (by omega)]
    have hz : ansE L r i = Res.zero := by
      unfold ansE
      rw [List.getD_eq_getElem?_getD, List.getElem?_eq_none (by rw [List.length_append, List.length_singleton]; omega)]
      rfl
    rw [e, e2, hz]
    unfold En.acc En.oldB En.oldE En.oldR endE
    simp
theorem ans_old (h : i < L.length) : (ansE L r i).w = lw L i := by
  unfold ansE lw
  rw [List.getD_eq_getElem?_getD, List.getElem?_append_left h, List.getD_eq_getElem?_getD]
theorem ans_new : ansE L r L.length = r := by unfold ansE; simp
/-- What is asked of an arena: of its writes, too. -/
def LimW (A : Ar) : Prop := LimA A ∧ A.t.writes ≤ 100000000
theorem plc_writes (h : LimW A) (h' : LimW A') (i : Nat) : (plcE A A' L r i).A.t.writes ≤ 100000000 := by
  unfold plcE posE endE
  split
  · split
    · exact h.2
    · exact h'.2
  · exact h'.2
theorem e_read (h : EnvB W0 lv0 G0 eb Bs (plcE A A' L r i) W) (lA : LimW A) (lA' : LimW A') (hL : L.length ≤ 50000) (b x : Int) (hf : i = L.length → aRead b x A = (A', r)) :
    Calls Tryz.prog 84 #[.pointer (some ⟨eb, 0, none⟩), .agg #[.int .u64 b, .int .i64 x]] W fun e w' => e = .returned (.int .u64 (ansE L r i).w) ∧ EnvB W0 lv0 G0 eb Bs (plcE A A' L r (i + 1)) w' ∧ Frm.Turn [eb] W w' := by
  obtain ⟨h1, h2, h3⟩ := plc_facts A A' L r i hL lA.1 lA'.1
  refine (EnvB.go h (Q := fun e => e = .returned (.int .u64 (ansE L r i).w)) (R := fun P' _ => P' = plcE A A' L r (i + 1)) (fun CS lv G he => ?_)).mono ?_
  · have := read_any he h1 h2 h3.ok h3.faults h3.reads b x
    rw [plc_all _ hf] at this
    refine this.mono ?_
    rintro e w' ⟨rfl, CS', lv', G', e1, e2, e3, e4⟩
    exact ⟨rfl, _, CS', lv', G', rfl, e1, e2, e3, e4⟩
  · rintro e w' ⟨rfl, P', rfl, h1, h2⟩
    exact ⟨rfl, h1, h2⟩
theorem e_write (h : EnvB W0 lv0 G0 eb Bs (plcE A A' L r i) W) (lA : LimW A) (lA' : LimW A') (hL : L.length ≤ 50000) (b x v : Int) (hf : i = L.length → aWrite b x v A = (A', r)) :
    Calls Tryz.prog 105 #[.pointer (some ⟨eb, 0, none⟩), .agg #[.int .u64 b, .int .i64 x], .int .u64 v] W fun e w' => e = .returned (.tuple #[]) ∧ EnvB W0 lv0 G0 eb Bs (plcE A A' L r (i + 1)) w' ∧ Frm.Turn [eb] W w' := by
  obtain ⟨h1, h2, h3⟩ := plc_facts A A' L r i hL lA.1 lA'.1
  refine (EnvB.go h (Q := fun e => e = .returned (.tuple #[])) (R := fun P' _ => P' = plcE A A' L r (i + 1)) (fun CS lv G he => ?_)).mono ?_
  · have := writeE_any he h1 h2 h3.ok h3.faults (plc_writes lA lA' i) b x v
    rw [plc_all _ hf] at this
    refine this.mono ?_
    rintro e w' ⟨rfl, CS', lv', G', e1, e2, e3, e4⟩
    exact ⟨rfl, _, CS', lv', G', rfl, e1, e2, e3, e4⟩
  · rintro e w' ⟨rfl, P', rfl, h1, h2⟩
    exact ⟨rfl, h1, h2⟩
end Hld
end Go.Proofs.YtlghinjggkgfmaaGreat

set_option linter.unusedVariables false
set_option linter.unusedSimpArgs false
namespace Go.Proofs.YtlghinjggkgfmaaGreat
namespace Hld
open Go.RowKit Go.Maps Arn Pac Clm Cnt Evn
variable {W0 W W' : World} {lv0 : Value} {G0 : List Nat} {eb : Nat} {Bs : List Nat} {P P' : En} {CS : Array Value} {lv : Value} {G : List Nat}
variable {A A' : Ar} {L : List Res} {r : Res} {i : Nat} {seg : Int} {s : Nat} {root h n : Int}
theorem EnvB.bs_keep (hb : EnvB W0 lv0 G0 eb Bs P W) {k : Nat} {o : Obj} (hk : k ∈ Bs) (hT : Frm.Turn [eb] W W') (ho : W.heap[k]? = some o) : W'.heap[k]? = some o :=
  hT.keep ho (by have := (hb.bs k hk).2; have := hb.old; simp; omega)
theorem EnvB.stop_at (hb : EnvB W0 lv0 G0 eb Bs (plcE A A' L r i) W) {b : Bool} (h : decide (L.length + 2 ≤ i) = b) : W.cell? ⟨eb, 23, none⟩ = some (.bool b) := by
  have := hb.stop
  rw [plc_stop, h] at this
  exact this
theorem place_cells {k : Nat} (h : W.heap[k]? = some (.cells #[.int .u64 seg, .int .i64 s] 83 (0, 0))) : W.cell? ⟨k, 0, none⟩ = some (.int .u64 seg) ∧ W.cell? ⟨k, 1, none⟩ = some (.int .i64 s) :=
  ⟨(Frm.cell_row _ _ 0 _ _ _ h).trans rfl, (Frm.cell_row _ _ 1 _ _ _ h).trans rfl⟩
def gOut (L : List Res) (r : Res) : Int := if L.length ≤ 1 then 0 else if (ansE L r 2).w = (ansE L r 0).w then 1 else 2
set_option maxRecDepth 100000 in
set_option maxHeartbeats 4000000 in
theorem rgrip_any (hE : EnAt W eb (plcE A A' L r 0) CS lv G) (lA : LimW A) (lA' : LimW A') (hL : L.length ≤ 3) (hs : s < 255) (hf : L.length < 3 → gAsk seg s L A = (A', r)) (h0 : W64 (ansE L r 0).w) :
    Calls Tryz.prog 46 #[.pointer (some ⟨eb, 0, none⟩), .agg #[.int .u64 seg, .int .i64 s]] W fun e w' => e = .returned (.tuple #[.int .u64 (ansE L r 0).w, .int .i64 (gOut L r)]) ∧ EnvB W lv G eb [] (plcE A A' L r 3) w' := by
  have hB0 : EnvB W lv G eb [W.heap.size] (plcE A A' L r 0) (W.alloc (.cells #[.int .u64 seg, .int .i64 s] 83)) := (envB_start hE).add ((Frm.Turn.refl [] W).alloc _) (Nat.le_refl _) (by simp)
  have hp0 := World.alloc_heap_new W (.cells #[.int .u64 seg, .int .i64 s] 83)
  have HR0 := Lib.hid (e_read hB0 lA lA' (by omega) 0 0 (fun e => by
    have := hf (by omega)
    unfold gAsk at this
    rw [if_neg (by omega)] at this
    exact this))
  have HK0 := Lib.hid (fun w1 (hT : Frm.Turn [eb] _ w1) => EnvB.bs_keep hB0 (k := W.heap.size) (by simp) hT hp0)
  have HWD := Lib.hid (fun W => RWord_f seg s 3 W hs (by omega) (by omega))
  have HF1 : Hid (1 = L.length → aWrite seg (5 * (ofN s : Int) + 3) ((ansE L r 0).w / 1048576) A = (A', r)) := Lib.hid (fun e => by
    have := hf (by omega)
    unfold gAsk at this
    rw [if_pos e.symm, ← ans_old (r := r) (by omega)] at this
    exact this)
  have HF2 : Hid (2 = L.length → aRead 0 0 A = (A', r)) := Lib.hid (fun e => by
    have := hf (by omega)
    unfold gAsk at this
    rw [if_neg (by omega)] at this
    exact this)
  have HL := Lib.hid (And.intro lA (And.intro lA' hL))
  have HGO : Hid (gOut L r = if L.length ≤ 1 then 0 else if (ansE L r 2).w = (ansE L r 0).w then 1 else 2) := Lib.hid rfl
  generalize gOut L r = go at HGO ⊢
  obtain ⟨x0, hx0⟩ : ∃ x, x = (ansE L r 0).w := ⟨_, rfl⟩
  obtain ⟨x2, hx2⟩ : ∃ x, x = (ansE L r 2).w := ⟨_, rfl⟩
  rw [← hx0] at HR0 HF1 h0 HGO ⊢
  rw [← hx2] at HGO
  have HX2 := Lib.hid hx2
  obtain ⟨a0, a1⟩ := h0
  have hq : x0.tdiv 1048576 = x0 / 1048576 := Int.tdiv_eq_ediv_of_nonneg a0
  clear hB0 hp0 hE hs hf lA lA' hx0 hx2
  go_enter Tryz.func46, Tryz.ntmps46
  go_upto_region 2 with (go_at_call 84; (with_reducible refine (HR0.out).mono ?_); rintro e w1 ⟨rfl, hB1, hT1⟩; have HB1 := Lib.hid hB1; have hp1 := HK0.out _ hT1; have c1 := hB1.stop_at (b := false) (decide_eq_false (by omega)); have HP1 := Lib.hid hp1; obtain ⟨p0, p1⟩ := place_cells hp1; clear hB1 hT1 hp1)
  clear HR0 HK0
  have HW1 := Lib.hid (fun W' (hT : Frm.Turn [] w1 W') => e_write (HB1.out.step hT) HL.out.1 HL.out.2.1 (by have := HL.out.2.2; omega) seg (5 * (ofN s : Int) + 3) (x0 / 1048576) HF1.out)
  go_upto_region 5 with (first
    | (go_at_call 27; (with_reducible refine (HWD.out _).mono ?_); rintro e w2 ⟨rfl, hT2⟩; have HT2 := Lib.hid hT2; clear hT2)
    | (go_at_call 105; (with_reducible refine (HW1.out _ HT2.out).mono ?_); rintro e w3 ⟨rfl, hB3, hT3⟩; have HB3 := Lib.hid hB3; clear hB3 hT3))
  have HR2 := Lib.hid (e_read HB3.out HL.out.1 HL.out.2.1 (by have := HL.out.2.2; omega) 0 0 HF2.out)
  rw [← HX2.out] at HR2
  clear HW1 HB1 HWD HF1 HF2 HP1 p0 p1 c1
  go_upto_region 6 with (go_at_call 84; (with_reducible refine (HR2.out).mono ?_); rintro e w4 ⟨rfl, hB4, hT4⟩; have HB4 := Lib.hid hB4; clear hB4 hT4)
  by_cases h1 : L.length ≤ 1
  · have c1 := HB4.out.stop_at (b := true) (decide_eq_true (by omega))
    have hg := HGO.out
    rw [if_pos h1] at hg
    subst hg
    have HB5 := Lib.hid HB4.out.drop
    clear HR2 HB4 h1 HGO
    go_wp2_with fail
    go_ret2
    exact ⟨rfl, HB5.out⟩
  · have c1 := HB4.out.stop_at (b := false) (decide_eq_false (by have := HL.out.2.2; omega))
    have hg := HGO.out
    rw [if_neg h1] at hg
    have HB5 := Lib.hid HB4.out.drop
    by_cases h2 : x2 = x0
    · rw [if_pos h2] at hg
      subst hg
      have hb : (x2 != x0) = false := by simpa using h2
      clear HR2 HB4 h1 HGO h2
      go_wp2_with fail
      go_ret2
      exact ⟨rfl, HB5.out⟩
    · rw [if_neg h2] at hg
      subst hg
      have hb : (x2 != x0) = true := by simpa using h2
      clear HR2 HB4 h1 HGO h2
      go_wp2_with fail
      go_ret2
      exact ⟨rfl, HB5.out⟩
set_option maxRecDepth 100000 in
set_option maxHeartbeats 4000000 in
theorem rclear_any (hE : EnAt W eb (plcE A A' L r 0) CS lv G) (lA : LimW A) (lA' : LimW A') (hL : L.length ≤ 2) (hs : s < 255) (hf : L.length < 2 → cAsk seg s L A = (A', r)) :
    Calls Tryz.prog 57 #[.pointer (some ⟨eb, 0, none⟩), .agg #[.int .u64 seg, .int .i64 s]] W fun e w' => e = .returned (.tuple #[]) ∧ EnvB W lv G eb [] (plcE A A' L r 2) w' := by
  have hB0 : EnvB W lv G eb [W.heap.size] (plcE A A' L r 0) (W.alloc (.cells #[.int .u64 seg, .int .i64 s] 83)) := (envB_start hE).add ((Frm.Turn.refl [] W).alloc _) (Nat.le_refl _) (by simp)
  have hp0 := World.alloc_heap_new W (.cells #[.int .u64 seg, .int .i64 s] 83)
  obtain ⟨p0, p1⟩ := place_cells hp0
  have HW0 := Lib.hid (fun W' (hT : Frm.Turn [] _ W') => e_write (hB0.step hT) lA lA' (by omega) seg (5 * (ofN s : Int) + 3) 0 (fun e => by
    have := hf (by omega)
    unfold cAsk at this
    rw [if_pos e.symm] at this
    exact this))
  have HK0 := Lib.hid (fun w1 (hT : Frm.Turn [] _ w1) w2 (hT2 : Frm.Turn [eb] w1 w2) => EnvB.bs_keep (hB0.step hT) (k := W.heap.size) (by simp) hT2 (hT.keep hp0 (by simp)))
  have HWD3 := Lib.hid (fun W => RWord_f seg s 3 W hs (by omega) (by omega))
  have HWD4 := Lib.hid (fun W => RWord_f seg s 4 W hs (by omega) (by omega))
  have HF1 : Hid (1 = L.length → aWrite seg (5 * (ofN s : Int) + 4) 0 A = (A', r)) := Lib.hid (fun e => by
    have := hf (by omega)
    unfold cAsk at this
    rw [if_neg (by omega)] at this
    exact this)
  have HL := Lib.hid (And.intro lA (And.intro lA' hL))
  clear hB0 hp0 hE hs hf lA lA'
  go_enter Tryz.func57, Tryz.ntmps57
  go_upto_region 2 with (first
    | (go_at_call 27; (with_reducible refine (HWD3.out _).mono ?_); rintro e w2 ⟨rfl, hT2⟩; have HT2 := Lib.hid hT2; clear hT2)
    | (go_at_call 105; (with_reducible refine (HW0.out _ HT2.out).mono ?_); rintro e w3 ⟨rfl, hB3, hT3⟩; have HB3 := Lib.hid hB3; obtain ⟨q0, q1⟩ := place_cells (HK0.out _ HT2.out _ hT3); clear hB3 hT3))
  have HW1 := Lib.hid (fun W' (hT : Frm.Turn [] w3 W') => e_write (HB3.out.step hT) HL.out.1 HL.out.2.1 (by have := HL.out.2.2; omega) seg (5 * (ofN s : Int) + 4) 0 HF1.out)
  clear HW0 HK0 HWD3 HF1 HT2 p0 p1
  go_wp2_with (first
    | (go_at_call 27; (with_reducible refine (HWD4.out _).mono ?_); rintro e w4 ⟨rfl, hT4⟩; have HT4 := Lib.hid hT4; clear hT4)
    | (go_at_call 105; (with_reducible refine (HW1.out _ HT4.out).mono ?_); rintro e w5 ⟨rfl, hB5, hT5⟩; have HB5 := Lib.hid hB5.drop; clear hB5 hT5))
  go_end0
  exact ⟨rfl, HB5.out⟩
end Hld
end Go.Proofs.YtlghinjggkgfmaaGreat

set_option linter.unusedVariables false
set_option linter.unusedSimpArgs false
namespace Go.Proofs.YtlghinjggkgfmaaGreat
namespace Hld
open Go.RowKit Go.Maps Arn Pac Clm Cnt Evn
variable {W0 W W' W1 W3 w' : World} {lv0 : Value} {G0 : List Nat} {eb : Nat} {Bs : List Nat} {P P' : En} {CS : Array Value} {lv v v' : Value} {G : List Nat}
variable {A A' : Ar} {L L' : List Res} {r : Res} {i : Nat} {seg : Int} {s : Nat} {root h n : Int}
/-- The caller's row grows. -/
theorem envB_grow (hb : EnvB W0 lv0 G0 eb v.ownBlock.toList P W) (h1 : Frm.Turn [] W W1) (h3 : W1.grownBy W3 v.ownBlock) (hl : v'.ownBlock = v.ownBlock ∨ v'.ownBlock = some W1.heap.size) (hlt : ∀ k, v'.ownBlock = some k → k < W3.heap.size) : EnvB W0 lv0 G0 eb v'.ownBlock.toList P W3 := by
  have hT3 := Frm.Turn.of_grown h3
  have hb1 := hb.step h1
  have hb3 := hb1.poke hT3 (fun k hk => hk)
  rcases hl with e | e
  · rw [e]; exact hb3
  · obtain ⟨⟨CS, lv, G, e1, e2, e3, e4⟩, h5, h6, h7⟩ := hb1
    have hs := hT3.size
    have hz := h5.size
    refine ⟨⟨CS, lv, G, e1.turn hT3 (fun hk => ?_) (fun k hk hk' => (e2 k hk').1 hk) (fun k hk hk' => (e2 k hk').2 hk), fun k hk => ?_, e3, e4⟩, hb3.turn, fun k hk => ?_, h7⟩
    · have := (h6 _ hk).2; omega
    · rw [e] at hk; simp at hk; subst hk
      exact ⟨fun hg => by have := e1.gl _ hg; omega, fun hl => by have := lv_lt e1 hl; omega⟩
    · have hk' : v'.ownBlock = some k := by simpa using hk
      refine ⟨hlt k hk', ?_⟩
      rw [e] at hk'; cases hk'
      exact hz
def lenOf : Value → Nat
  | .slice _ n _ => n
  | _ => 0
theorem ws_take (L : List Res) {k : Nat} (h : 2 + k < L.length) : (fWs L).take k ++ [lw L (2 + k)] = (fWs L).take (k + 1) := by
  have e : (fWs L)[k]? = some (lw L (2 + k)) := by
    unfold lw fWs
    rw [List.getElem?_map, List.getElem?_drop, List.getD_eq_getElem?_getD, List.getElem?_eq_getElem h]
    rfl
  rw [List.take_add_one, e]
  rfl
/-- What a fetch of the document tells. -/
def FPost (seg : Int) (s : Nat) (root h n : Int) (A A' : Ar) (L L' : List Res) (r : Res) (W : World) (lv : Value) (G : List Nat) (eb : Nat) (e : Ending) (w' : World) : Prop :=
  ∃ v j, e = .returned (.tuple #[v, .int .i64 (fOf seg s root h n L').out]) ∧ w'.ownsRow 0 25 1 v (fOf seg s root h n L').ws.length (u64s (fOf seg s root h n L').ws) ∧ EnvB W lv G eb [] (plcE A A' L r j) w' ∧
    (L.length + 2 ≤ j ↔ (fOf seg s root h n L').st ≠ 0) ∧ (fEnd root n L → j ≤ L.length) ∧ (¬ fEnd root n L → L.length + 1 ≤ j)
theorem fpost_nil (hv : w'.ownsRow 0 25 1 (.slice none 0 0) 0 []) {j : Nat} {o : Int} (ho : (fOf seg s root h n L').out = o) (hws : (fOf seg s root h n L').ws = []) (hb : EnvB W lv G eb Bs (plcE A A' L r j) w') (h1 : L.length + 2 ≤ j ↔ (fOf seg s root h n L').st ≠ 0) (h2 : fEnd root n L → j ≤ L.length) (h3 : ¬ fEnd root n L → L.length + 1 ≤ j) :
    FPost seg s root h n A A' L L' r W lv G eb (.returned (.tuple #[.slice none 0 0, .int .i64 o])) w' := by
  refine ⟨_, j, by rw [ho], ?_, hb.drop, h1, h2, h3⟩
  rw [hws]
  exact hv
theorem ln_app (L : List Res) (r : Res) : (L ++ [r]).length = L.length + 1 := by rw [List.length_append, List.length_singleton]
set_option maxRecDepth 100000 in
set_option maxHeartbeats 4000000 in
theorem rfetch_any (hE : EnAt W eb (plcE A A' L r 0) CS lv G) (lA : LimW A) (lA' : LimW A') (hL : L.length ≤ 1000) (hs : s < 255) (hL' : L' = if fEnd root n L then L else L ++ [r]) (hf : ¬ fEnd root n L → fAsk seg s root h n L A = (A', r)) (hw : lw L 1 ≠ root → L.length ≤ 2) (hn : (L.length : Int) - 2 ≤ max n 0) :
    Calls Tryz.prog 51 #[.pointer (some ⟨eb, 0, none⟩), .agg #[.int .u64 seg, .int .i64 s], .int .u64 root, .int .u64 h, .int .i64 n] W (FPost seg s root h n A A' L L' r W lv G eb) := by
  have hB0 : EnvB W lv G eb [W.heap.size] (plcE A A' L r 0) (W.alloc (.cells #[.int .u64 seg, .int .i64 s] 83)) := (envB_start hE).add ((Frm.Turn.refl [] W).alloc _) (Nat.le_refl _) (by simp)
  have hp0 := World.alloc_heap_new W (.cells #[.int .u64 seg, .int .i64 s] 83)
  obtain ⟨p0, p1⟩ := place_cells hp0
  have HLM : Hid (LimW A ∧ LimW A' ∧ L.length ≤ 50000) := Lib.hid ⟨lA, lA', by omega⟩
  have HW0 := Lib.hid (fun W' (hT : Frm.Turn [] _ W') => e_write (hB0.step hT) lA lA' (by omega) seg (5 * (ofN s : Int) + 4) h (fun e => by
    have := hf (by unfold fEnd; omega)
    unfold fAsk at this
    rw [if_pos e.symm] at this
    exact this))
  have HWD := Lib.hid (fun W => RWord_f seg s 4 W hs (by omega) (by omega))
  have HF1 : Hid (1 = L.length → aRead 0 0 A = (A', r)) := Lib.hid (fun e => by
    have := hf (by unfold fEnd; omega)
    unfold fAsk at this
    rw [if_neg (by omega), if_pos e.symm] at this
    exact this)
  have HF2 : Hid (∀ k : Nat, 2 + k = L.length → ¬ fEnd root n L → aRead h (k : Int) A = (A', r)) := Lib.hid (fun k e he => by
    have := hf he
    unfold fAsk at this
    rw [if_neg (by omega), if_neg (by omega), show (L.length : Int) - 2 = (k : Int) by omega] at this
    exact this)
  have HAL : Hid (∀ i, i < L'.length → (ansE L r i).w = lw L' i) := Lib.hid (fun i hi => by
    rw [hL'] at hi ⊢
    split at hi
    · rename_i he; rw [if_pos he]; exact ans_old hi
    · rename_i he; rw [if_neg he]; rfl)
  have HH := Lib.hid (And.intro hL (And.intro hL' (And.intro hw hn)))
  have W1eq := Lib.hid (show (ansE L r 1).w = (ansE L r 1).w from rfl)
  clear hB0 hp0 hE hs hf lA lA' hL hL' hw hn
  go_enter Tryz.func51, Tryz.ntmps51
  go_upto_region 2 with (first
    | (go_at_call 27; (with_reducible refine (HWD.out _).mono ?_); rintro e w2 ⟨rfl, hT2⟩; have HT2 := Lib.hid hT2; clear hT2)
    | (go_at_call 105; (with_reducible refine (HW0.out _ HT2.out).mono ?_); rintro e w3 ⟨rfl, hB3, hT3⟩; have HB3 := Lib.hid hB3.drop; clear hB3 hT3))
  have HR1 := Lib.hid (e_read HB3.out HLM.out.1 HLM.out.2.1 HLM.out.2.2 0 0 HF1.out)
  clear HW0 HWD HT2 p0 p1 HF1
  go_upto_region 3 with (go_at_call 84; (with_reducible refine (HR1.out).mono ?_); rintro e w4 ⟨rfl, hB4, hT4⟩; have HB4 := Lib.hid hB4; clear hB4 hT4)
  clear HR1 HB3
  by_cases hz : L.length = 0
  · have c1 := HB4.out.stop_at (b := true) (decide_eq_true (by omega))
    have hend : ¬ fEnd root n L := by unfold fEnd; omega
    have e0 : L' = L ++ [r] := by rw [HH.out.2.1, if_neg hend]
    have e1 : fOf seg s root h n L' = ⟨2, seg, s, root, h, n, [], 0⟩ := by
      unfold fOf; rw [e0, ln_app, if_neg (by omega), if_pos (by omega)]
    have HP := Lib.hid (fpost_nil (L := L) (r := r) (A := A) (A' := A') (j := 2) (seg := seg) (s := s) (root := root) (h := h) (n := n) (L' := L') (o := 0) (World.ownsRow_nil _ _ _ _) (by rw [e1]) (by rw [e1]) HB4.out (by rw [e1]; exact ⟨fun _ => by show (2 : Nat) ≠ 0; omega, fun _ => by omega⟩) (fun he => absurd he hend) (fun _ => by omega))
    clear HB4 HH hend e0 e1 hz HAL HF2
    go_wp2_with fail
    go_ret2
    exact HP.out
  · have c1 := HB4.out.stop_at (b := false) (decide_eq_false (by omega))
    have hlen : 2 ≤ L'.length := by
      rw [HH.out.2.1]; split
      · rename_i he; exact he.1
      · rw [ln_app]; omega
    have ha1 := HAL.out 1 (by omega)
    by_cases hr : (ansE L r 1).w = root
    · have hb : ((ansE L r 1).w != root) = false := by simpa using hr
      obtain ⟨m, hm⟩ : ∃ m, m = L'.length - 2 := ⟨_, rfl⟩
      have e1 : fOf seg s root h n L' = if n ≤ (m : Int) then ⟨0, seg, s, root, h, n, fWs L', 1⟩ else ⟨3, seg, s, root, h, n, fWs L', 0⟩ := by
        unfold fOf
        rw [if_neg (by omega), ← ha1]
        by_cases e2 : L'.length = 1
        · omega
        · rw [if_neg e2, if_neg (by simpa using hr), show (L'.length : Int) - 2 = (m : Int) by omega]
      have HM : Hid (L'.length = m + 2 ∧ ((fEnd root n L ∧ L' = L ∧ n ≤ (m : Int)) ∨ (¬ fEnd root n L ∧ L'.length = L.length + 1 ∧ (2 ≤ L.length → ¬ n ≤ (m : Int) - 1))) ∧ (m : Int) ≤ max n 0) := Lib.hid (by
        obtain ⟨q1, q2, q3, q4⟩ := HH.out
        refine ⟨by omega, ?_, ?_⟩
        · by_cases he : fEnd root n L
          · left
            have e3 : L' = L := by rw [q2, if_pos he]
            refine ⟨he, e3, ?_⟩
            rcases he.2 with g | g
            · exfalso
              rw [e3, ] at ha1
              exact g (by rw [← ha1]; exact hr)
            · rw [hm, e3]; omega
          · right
            have e3 : L' = L ++ [r] := by rw [q2, if_neg he]
            refine ⟨he, by rw [e3, ln_app], fun h2 hle => he ⟨h2, .inr ?_⟩⟩
            rw [hm, e3, ln_app] at hle
            omega
        · by_cases he : fEnd root n L
          · have e3 : L' = L := by rw [q2, if_pos he]
            rw [hm, e3]
            have := he.1
            omega
          · have e3 : L' = L ++ [r] := by rw [q2, if_neg he]
            rw [hm, e3, ln_app]
            by_cases h2 : 2 ≤ L.length
            · have : ¬ n ≤ (L.length : Int) - 2 := fun g => he ⟨h2, .inr g⟩
              omega
            · omega)
      have HE1 := Lib.hid e1
      have HB5 := Lib.hid HB4.out.drop
      have HLN := Lib.hid HH.out.1
      have hmb : m ≤ 1000 := by
        have hq := HM.out.1
        have hL1 := HH.out.1
        rcases HM.out.2.1 with ⟨_, e, _⟩ | ⟨_, e, _⟩
        · have := congrArg List.length e
          omega
        · omega
      clear e1 hr hm hlen ha1 hz HB4 HH
      obtain ⟨i0, hi, hz0, hz1, hz2⟩ := info_parts info_u64
      go_wp2_with fail
      go_loopw [13] (fun ov wr => ∃ k, k ≤ m ∧ wr.ownsRow W.heap.size 25 1 ov k (u64s ((fWs L').take k)) ∧ EnvB W lv G eb ov.ownBlock.toList (plcE A A' L r (2 + k)) wr) (fun ov _ => m + 1 - lenOf ov)
      case atStart => exact ⟨0, Nat.zero_le _, World.ownsRow_nil _ _ _ _, HB5.out⟩
      case round =>
        obtain ⟨k, hk, hrow, hB⟩ := hrel
        clear HB5
        obtain ⟨ao, c, rfl⟩ := Frm.row_form hrow
        have k0 : (0 : Int) ≤ (k : Int) := by omega
        have k1 : (k : Int) ≤ 1000 := by omega
        have hfend : fEnd root n L → L.length = m + 2 ∧ n ≤ (m : Int) := fun he => by
          rcases HM.out.2.1 with ⟨_, e, g⟩ | ⟨g, _, _⟩
          · exact ⟨by rw [← e]; exact HM.out.1, g⟩
          · exact absurd he g
        have hnend : ¬ fEnd root n L → L.length = m + 1 := fun he => by
          rcases HM.out.2.1 with ⟨g, _, _⟩ | ⟨_, e, _⟩
          · exact absurd g he
          · have := HM.out.1; omega
        by_cases hlt : (k : Int) < n
        · have HRK := Lib.hid (e_read hB HLM.out.1 HLM.out.2.1 HLM.out.2.2 h (k : Int) (fun e => HF2.out k e (fun he => by have := hfend he; omega)))
          have HRW := Lib.hid hrow
          have HBB := Lib.hid hB
          clear hB hrow
          obtain ⟨x, hx⟩ : ∃ x, x = (ansE L r (2 + k)).w := ⟨_, rfl⟩
          rw [← hx] at HRK
          have HX := Lib.hid hx
          clear hx
          go_upto_region 10 with (go_at_call 84; (with_reducible refine (HRK.out).mono ?_); rintro e w5 ⟨rfl, hB5, hT5⟩; have HB5 := Lib.hid hB5; have HRW5 := Lib.hid (Frm.owns_turn HRW.out hT5 (fun q hq => by have h1 := (HRW.out.lt q hq).1; have h2 := HBB.out.old; simp; omega)); clear hB5 hT5)
          clear HRK HRW
          by_cases hst : L.length + 2 ≤ 2 + k + 1
          · have c1 := HB5.out.stop_at (b := true) (decide_eq_true hst)
            have he : ¬ fEnd root n L := fun he => by have := hfend he; omega
            have hm1 := hnend he
            obtain rfl : k = m := by omega
            have hall : (fWs L').take k = fWs L' := List.take_of_length_le (by rw [fWs_len]; have := HM.out.1; omega)
            have hfw : (fWs L').length = k := by rw [fWs_len]; have := HM.out.1; omega
            have HP : Hid (FPost seg s root h n A A' L L' r W lv G eb (.returned (.tuple #[.slice ao k c, .int .i64 0])) w5) := Lib.hid (by
              have e1 := HE1.out
              rw [if_neg (by omega)] at e1
              refine ⟨.slice ao k c, 2 + k + 1, by rw [e1], ?_, HB5.out.drop, by rw [e1]; exact ⟨fun _ => by show (3 : Nat) ≠ 0; omega, fun _ => hst⟩, fun g => absurd g he, fun _ => by omega⟩
              rw [e1]
              have hr := HRW5.out
              rw [hall] at hr
              dsimp only
              rw [hfw]
              exact ⟨hr.1, hr.2.imp id (fun ⟨g, c, cur, a, _, r⟩ => ⟨g, c, cur, a, Nat.zero_le _, r⟩)⟩)
            clear HB5 HRW5 HBB hst he hm1 hall hfw hfend hnend HM HE1 HX hlt
            go_wp2_with fail
            go_ret2
            exact HP.out
          · have c1 := HB5.out.stop_at (b := false) (decide_eq_false hst)
            have hkm : k < m := by
              by_cases he : fEnd root n L
              · have := hfend he; omega
              · have := hnend he; omega
            have htk := ws_take L' (k := k) (by have := HM.out.1; omega)
            rw [← HAL.out (2 + k) (by have := HM.out.1; omega), ← HX.out] at htk
            have HTK := Lib.hid htk
            have HRA := Lib.hid (Frm.owns_turn HRW5.out ((Frm.Turn.refl [] w5).alloc (.cells #[.int .u64 x] 25)) (by simp))
            have HB8 : Hid (W.heap.size ≤ (w5.alloc (.cells #[.int .u64 x] 25)).heap.size) := Lib.hid (by have := HB5.out.turn.size; simp; omega)
            have HKM := Lib.hid hkm
            have k3 : (k : Int) ≤ 1000 := k1
            clear hst hkm htk HRW5 HBB hfend hnend HX hk hmb
            go_wp2_with (at_builtin; go_must (refine wpList_append_own_at _ rfl (.tmp 45) (.tmp 47) 24 rfl W.heap.size 25 i0 (.int .u64 0) 1 8 under_u64s hi hz0 hz1 hz2 rfl (by decide) (.slice ao k c) k (u64s ((fWs L').take k)) rfl HRA.out ⟨w5.heap.size, 0, none⟩ 1 1 [.int .u64 x] rfl rfl (Dr.one_new _ _ _) (by simp [Value.oneCell']) (by unfold maxLen; omega) (by omega) HB8.out ?_); intro v9 w9 hown9 hg9 _ hl9; obtain ⟨va, vc, rfl⟩ := Frm.row_form hown9; have HO9 := Lib.hid hown9; have HB9 := Lib.hid (envB_grow (v' := .slice va (k + 1) vc) HB5.out ((Frm.Turn.refl [] w5).alloc (.cells #[.int .u64 x] 25)) hg9 hl9 (fun q hq => (hown9.lt q hq).2)); clear hown9 hg9 hl9)
            refine ⟨⟨k + 1, HKM.out, ?_, HB9.out⟩, ?_⟩
            · have h1 := HO9.out
              have h2 : u64s ((fWs L').take k) ++ [.int .u64 x] = u64s ((fWs L').take (k + 1)) := by rw [← HTK.out]; simp [u64s]
              rw [h2] at h1
              exact h1
            · have := HKM.out
              simp [lenOf]; omega
        · have hle : n ≤ (k : Int) := by omega
          obtain rfl : k = m := by have := HM.out.2.2; omega
          have hfw : (fWs L').length = k := by rw [fWs_len]; have := HM.out.1; omega
          have hall : (fWs L').take k = fWs L' := List.take_of_length_le (by omega)
          have HP : Hid (FPost seg s root h n A A' L L' r W lv G eb (.returned (.tuple #[.slice ao k c, .int .i64 1])) wr) := Lib.hid (by
            have e1 := HE1.out
            rw [if_pos hle] at e1
            have hno : ¬ L.length + 2 ≤ 2 + k := by
              by_cases g : fEnd root n L
              · have := hfend g; omega
              · have := hnend g; omega
            refine ⟨.slice ao k c, 2 + k, by rw [e1], ?_, hB.drop, by rw [e1]; exact ⟨fun hh => absurd hh hno, fun hh => absurd rfl hh⟩, fun g => by have := hfend g; omega, fun g => by have := hnend g; omega⟩
            · rw [e1]
              rw [hall] at hrow
              dsimp only
              rw [hfw]
              exact ⟨hrow.1, hrow.2.imp id (fun ⟨g, c, cur, a, _, r⟩ => ⟨g, c, cur, a, Nat.zero_le _, r⟩)⟩)
          have hle2 : ¬ (k : Int) < n := hlt
          clear hB hrow hfw hall hfend hnend HM HE1 hle hk
          go_wp2_with fail
          go_ret2
          exact HP.out
    · have hb : ((ansE L r 1).w != root) = true := by simpa using hr
      have e1 : fOf seg s root h n L' = ⟨0, seg, s, root, h, n, [], 2⟩ := by
        unfold fOf
        rw [if_neg (by omega), ← ha1]
        by_cases e2 : L'.length = 1
        · omega
        · rw [if_neg e2, if_pos hr]
      have h2 : L.length ≤ 2 := by
        by_cases h2 : L.length ≤ 1
        · omega
        · refine HH.out.2.2.1 (fun e => hr ?_)
          rw [ans_old (by omega)]; exact e
      have HP := Lib.hid (fpost_nil (L := L) (r := r) (A := A) (A' := A') (j := 2) (seg := seg) (s := s) (root := root) (h := h) (n := n) (L' := L') (o := 2) (World.ownsRow_nil _ _ _ _) (by rw [e1]) (by rw [e1]) HB4.out (by rw [e1]; exact ⟨fun hh => by omega, fun hh => absurd rfl hh⟩) (fun he => by have := he.1; omega) (fun he => by
        by_cases h3 : L.length = 2
        · exact absurd ⟨by omega, .inl (fun e => hr (by rw [ans_old (by omega)]; exact e))⟩ he
        · omega))
      clear HB4 HH h2 e1 hz HAL HF2 hlen ha1 hr
      go_wp2_with fail
      go_ret2
      exact HP.out
end Hld
end Go.Proofs.YtlghinjggkgfmaaGreat
