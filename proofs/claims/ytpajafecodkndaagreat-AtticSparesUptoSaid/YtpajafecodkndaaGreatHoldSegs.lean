/- What HoldWins goes by. No program is spoken of here. -/
/- Segments of law 12, told as parts; a block beside them. -/
import Derived.Test.YtpajafecodkndaaGreatHoldKit
import Derived.Test.YtpajafecodkndaaGreatCountSegsWalk
import Derived.Test.YtpajafecodkndaaGreatCountFirst
set_option linter.unusedVariables false
set_option linter.unusedSimpArgs false
namespace Go.Proofs.YtpajafecodkndaaGreat
namespace Hld
open Arn Clm

/-- The root, the slot's two holds, a block of two words. -/
structure HV (A : Ar) (sg h rt ha hb : Int) (bw : List Int) : Prop where
  ok : A.Ok
  fx : ∃ l, A.row 0 = some l ∧ l.length = 9 ∧ l.getD 0 0 = rt
  sl : ∃ l, A.row sg = some l ∧ l.length = 7 ∧ l.getD 3 0 = ha ∧ l.getD 4 0 = hb
  bl : A.row h = some bw
  s0 : sg ≠ 0
  h0 : h ≠ 0
  sh : h ≠ sg
variable {A : Ar} {sg h rt ha hb R : Int} {bw : List Int} {C : Gp} {D : Fe} {held : Bool}
theorem HV.read (H : HV A sg h rt ha hb bw) (blk i : Int) : HV (A.read blk i).1 sg h rt ha hb bw := by
  obtain ⟨h1, h2, h3, h4, h5, h6, h7⟩ := H
  exact ⟨ok_read h1 blk i, by rw [row_read]; exact h2, by rw [row_read]; exact h3, by rw [row_read]; exact h4, h5, h6, h7⟩
theorem HV.root (H : HV A sg h rt ha hb bw) : (A.read 0 0).2 = (rt, 0) := by
  obtain ⟨l, h1, h2, h3⟩ := H.fx
  rw [read_row h1 (by omega) (by omega)]
  show (l.getD 0 0, (0 : Int)) = _
  rw [h3]
theorem HV.holdA (H : HV A sg h rt ha hb bw) : (A.read sg 3).2 = (ha, 0) := by
  obtain ⟨l, h1, h2, h3, h4⟩ := H.sl
  rw [read_row h1 (by omega) (by omega)]
  show (l.getD 3 0, (0 : Int)) = _
  rw [h3]
theorem HV.holdB (H : HV A sg h rt ha hb bw) : (A.read sg 4).2 = (hb, 0) := by
  obtain ⟨l, h1, h2, h3, h4⟩ := H.sl
  rw [read_row h1 (by omega) (by omega)]
  show (l.getD 4 0, (0 : Int)) = _
  rw [h4]
theorem HV.word (H : HV A sg h rt ha hb bw) {i : Int} (h0 : 0 ≤ i) (h1 : i < (bw.length : Int)) : (A.read h i).2 = (bw.getD i.toNat 0, 0) := read_row H.bl h0 h1
theorem set_getD (l : List Int) (i j : Nat) (v : Int) (h : i < l.length) : (l.set i v).getD j 0 = if j = i then v else l.getD j 0 := by
  rw [List.getD_eq_getElem?_getD, List.getElem?_set, List.getD_eq_getElem?_getD]
  by_cases e : i = j
  · subst e; simp [h]
  · rw [if_neg e, if_neg (fun e2 => e e2.symm)]
theorem HV.put0 (H : HV A sg h rt ha hb bw) {v : Int} (hv : W64 v) : HV (A.write 0 0 v).1 sg h v ha hb bw := by
  obtain ⟨h1, ⟨l, f1, f2, f3⟩, h3, h4, h5, h6, h7⟩ := H
  have hw := fun k => (write_row f1 (i := 0) (by omega) (by omega) v k).2
  refine ⟨ok_write h1 0 0 hv, ⟨l.set 0 v, by rw [hw, if_pos rfl]; rfl, by rw [List.length_set]; exact f2, by rw [set_getD _ _ _ _ (by omega), if_pos rfl]⟩, ?_, by rw [hw, if_neg h6]; exact h4, h5, h6, h7⟩
  obtain ⟨m, g1, g2⟩ := h3
  exact ⟨m, by rw [hw, if_neg h5]; exact g1, g2⟩
theorem HV.putA (H : HV A sg h rt ha hb bw) {v : Int} (hv : W64 v) : HV (A.write sg 3 v).1 sg h rt v hb bw := by
  obtain ⟨h1, ⟨m, g1, g2⟩, ⟨l, f1, f2, f3, f4⟩, h4, h5, h6, h7⟩ := H
  have hw := fun k => (write_row f1 (i := 3) (by omega) (by omega) v k).2
  refine ⟨ok_write h1 sg 3 hv, ⟨m, by rw [hw, if_neg (fun e => h5 e.symm)]; exact g1, g2⟩, ⟨l.set 3 v, by rw [hw, if_pos rfl]; rfl, by rw [List.length_set]; exact f2, by rw [set_getD _ _ _ _ (by omega), if_pos rfl], by rw [set_getD _ _ _ _ (by omega), if_neg (by omega)]; exact f4⟩, by rw [hw, if_neg h7]; exact h4, h5, h6, h7⟩
theorem HV.putB (H : HV A sg h rt ha hb bw) {v : Int} (hv : W64 v) : HV (A.write sg 4 v).1 sg h rt ha v bw := by
  obtain ⟨h1, ⟨m, g1, g2⟩, ⟨l, f1, f2, f3, f4⟩, h4, h5, h6, h7⟩ := H
  have hw := fun k => (write_row f1 (i := 4) (by omega) (by omega) v k).2
  refine ⟨ok_write h1 sg 4 hv, ⟨m, by rw [hw, if_neg (fun e => h5 e.symm)]; exact g1, g2⟩, ⟨l.set 4 v, by rw [hw, if_pos rfl]; rfl, by rw [List.length_set]; exact f2, by rw [set_getD _ _ _ _ (by omega), if_neg (by omega)]; exact f3, by rw [set_getD _ _ _ _ (by omega), if_pos rfl]⟩, by rw [hw, if_neg h7]; exact h4, h5, h6, h7⟩
theorem HV.rt64 (H : HV A sg h rt ha hb bw) : W64 rt := by
  have := read_wr A H.ok 0 0
  rw [H.root] at this
  exact this
theorem of0 : ofN 0 = 0 := by decide
theorem top64 {x : Int} (h : W64 x) : W64 (x / 1048576) := by
  obtain ⟨h1, h2⟩ := h
  exact ⟨by omega, by omega⟩
/-! ### a grip -/
structure GI (C : Gp) (sg ha : Int) (held : Bool) : Prop where
  fit : C.Fit
  seg : C.seg = sg
  slot : C.slot = 0
  st : (C.st = 1 ∧ C.out = 0) ∨ (C.st = 2 ∧ C.out = 0) ∨ (C.st = 3 ∧ C.out = 0 ∧ ha = C.root / 1048576) ∨ (C.st = 0 ∧ (C.out = 1 → held = true ∨ C.root / 1048576 = 0))
theorem gi_more (H : GI C sg ha held) {held' : Bool} (h : held = true → held' = true) : GI C sg ha held' := by
  obtain ⟨h1, h2, h3, h4⟩ := H
  refine ⟨h1, h2, h3, ?_⟩
  rcases h4 with h4 | h4 | h4 | ⟨h4, h5⟩
  · exact .inl h4
  · exact .inr (.inl h4)
  · exact .inr (.inr (.inl h4))
  · exact .inr (.inr (.inr ⟨h4, fun e => (h5 e).imp h id⟩))
theorem gi_step (H : HV A sg h rt ha hb bw) (I : GI C sg ha held) : ∃ ha', HV (C.step A).1 sg h rt ha' hb bw ∧ GI (C.step A).2 sg ha' (held || ((C.step A).2.root != 0 && (ha' == (C.step A).2.root / 1048576 && rt == (C.step A).2.root))) := by
  obtain ⟨i1, i2, i3, i4⟩ := I
  have hf := i1.step H.ok
  rcases i4 with ⟨s, o⟩ | ⟨s, o⟩ | ⟨s, o, e⟩ | ⟨s, o⟩
  · have es : C.step A = ((A.read 0 0).1, { C with root := (A.read 0 0).2.1, st := 2 }) := by unfold Gp.step; rw [if_pos s]
    rw [es] at hf ⊢
    exact ⟨ha, H.read 0 0, hf, i2, i3, .inr (.inl ⟨rfl, o⟩)⟩
  · have es : C.step A = ((A.write C.seg (5 * ofN C.slot + 3) (C.root / 1048576)).1, { C with st := 3 }) := by unfold Gp.step; rw [if_neg (by omega), if_pos s]
    rw [es] at hf ⊢
    have ew : 5 * ((ofN C.slot : Nat) : Int) + 3 = 3 := by rw [i3, of0]; rfl
    exact ⟨C.root / 1048576, by rw [i2, ew]; exact H.putA (top64 i1.root), hf, i2, i3, .inr (.inr (.inl ⟨rfl, o, rfl⟩))⟩
  · have es : C.step A = ((A.read 0 0).1, { C with out := if (A.read 0 0).2.1 = C.root then 1 else 2, st := 0 }) := by unfold Gp.step; rw [if_neg (by omega), if_neg (by omega), if_pos s]
    rw [es] at hf ⊢
    refine ⟨ha, H.read 0 0, hf, i2, i3, .inr (.inr (.inr ⟨rfl, ?_⟩))⟩
    dsimp only
    rw [H.root]
    dsimp only
    by_cases e2 : rt = C.root
    · rw [if_pos e2]
      intro _
      by_cases e3 : C.root = 0
      · right; rw [e3]; rfl
      · left; simp [e, e2, e3]
    · rw [if_neg e2]
      intro h; omega
  · have es : C.step A = (A, C) := by unfold Gp.step; rw [if_neg (by omega), if_neg (by omega), if_neg (by omega)]
    rw [es] at hf ⊢
    exact ⟨ha, H, gi_more ⟨i1, i2, i3, .inr (.inr (.inr ⟨s, o⟩))⟩ (fun h => by simp [h])⟩
theorem gi_end (I : GI C sg ha held) : C.out = 1 → held = true ∨ C.root / 1048576 = 0 := by
  intro h
  rcases I.st with ⟨_, o⟩ | ⟨_, o⟩ | ⟨_, o, _⟩ | ⟨_, o⟩
  · omega
  · omega
  · omega
  · exact o h
/-! ### a fetch -/
structure FI (D : Fe) (sg h R hb : Int) (held : Bool) : Prop where
  fit : D.Fit
  seg : D.seg = sg
  slot : D.slot = 0
  blk : D.blk = h
  root : D.root = R
  n : D.n = 2
  st : (D.st = 1 ∧ D.ws = [] ∧ D.out = 0) ∨ (D.st = 2 ∧ D.ws = [] ∧ D.out = 0 ∧ hb = h) ∨ (D.st = 3 ∧ (D.ws = [] ∨ D.ws = [1]) ∧ D.out = 0 ∧ held = true) ∨ (D.st = 0 ∧ D.ws.length ≤ 2 ∧ (D.out = 1 → held = true ∧ D.ws = [1, 2]))
theorem fi_more (H : FI D sg h R hb held) {held' : Bool} (hh : held = true → held' = true) : FI D sg h R hb held' := by
  obtain ⟨h1, h2, h3, h4, h5, h6, h7⟩ := H
  refine ⟨h1, h2, h3, h4, h5, h6, ?_⟩
  rcases h7 with g | g | ⟨g1, g2, g3, g4⟩ | ⟨g1, g2, g3⟩
  · exact .inl g
  · exact .inr (.inl g)
  · exact .inr (.inr (.inl ⟨g1, g2, g3, hh g4⟩))
  · exact .inr (.inr (.inr ⟨g1, g2, fun e => ⟨hh (g3 e).1, (g3 e).2⟩⟩))
theorem fi_len (H : FI D sg h R hb held) : D.ws.length ≤ 2 := by
  rcases H.st with ⟨_, g, _⟩ | ⟨_, g, _⟩ | ⟨_, g | g, _⟩ | ⟨_, g, _⟩
  · rw [g]; simp
  · rw [g]; simp
  · rw [g]; simp
  · rw [g]; simp
  · exact g
theorem fi_step (H : HV A sg h rt ha hb [1, 2]) (I : FI D sg h R hb held) (hR : 0 ≤ R) : ∃ hb', HV (D.step A).1 sg h rt ha hb' [1, 2] ∧ FI (D.step A).2 sg h R hb' (held || (hb' == h && rt == R)) := by
  obtain ⟨i1, i2, i3, i4, i5, i6, i7⟩ := I
  have hf := i1.step H.ok
  rcases i7 with ⟨s, o1, o2⟩ | ⟨s, o1, o2, o3⟩ | ⟨s, o1, o2, o3⟩ | ⟨s, o1, o2⟩
  · have es : D.step A = ((A.write D.seg (5 * ofN D.slot + 4) D.blk).1, { D with st := 2 }) := by unfold Fe.step; rw [if_pos s]
    rw [es] at hf ⊢
    have hb64 := i1.blk
    rw [i4] at hb64
    have ew : 5 * ((ofN D.slot : Nat) : Int) + 4 = 4 := by rw [i3, of0]; rfl
    exact ⟨h, by rw [i2, ew, i4]; exact H.putB hb64, hf, i2, i3, i4, i5, i6, .inr (.inl ⟨rfl, o1, o2, rfl⟩)⟩
  · have es : D.step A = ((A.read 0 0).1, if (A.read 0 0).2.1 = D.root then D.goOn else { D with out := 2, st := 0 }) := by unfold Fe.step; rw [if_neg (by omega), if_pos s]
    rw [es] at hf ⊢
    refine ⟨hb, H.read 0 0, ?_⟩
    dsimp only at hf ⊢
    rw [H.root] at hf ⊢
    dsimp only at hf ⊢
    by_cases e2 : rt = D.root
    · rw [if_pos e2] at hf ⊢
      have eg : D.goOn = { D with st := 3 } := by unfold Fe.goOn; rw [if_neg (by rw [i6, o1]; simp)]
      rw [eg] at hf ⊢
      refine ⟨hf, i2, i3, i4, i5, i6, .inr (.inr (.inl ⟨rfl, .inl o1, o2, ?_⟩))⟩
      rw [e2, i5, o3]
      simp
    · rw [if_neg e2] at hf ⊢
      refine ⟨hf, i2, i3, i4, i5, i6, .inr (.inr (.inr ⟨rfl, ?_, ?_⟩))⟩
      · dsimp only; rw [o1]; simp
      · dsimp only; intro h; omega
  · have es : D.step A = ((A.read D.blk D.ws.length).1, (D.add (A.read D.blk D.ws.length).2.1).goOn) := by unfold Fe.step; rw [if_neg (by omega), if_neg (by omega), if_pos s]
    rw [es] at hf ⊢
    refine ⟨hb, H.read _ _, ?_⟩
    dsimp only at hf ⊢
    rw [i4] at hf ⊢
    rcases o1 with o1 | o1
    · rw [o1] at hf ⊢
      have er : (A.read h (([] : List Int).length : Int)).2 = (1, 0) := H.word (i := 0) (by omega) (by simp)
      rw [er] at hf ⊢
      have eg : (D.add 1).goOn = { D.add 1 with st := 3 } := by unfold Fe.goOn Fe.add; dsimp only; rw [if_neg (by rw [i6, o1]; simp)]
      rw [eg] at hf ⊢
      refine ⟨hf, i2, i3, i4, i5, i6, .inr (.inr (.inl ⟨rfl, .inr ?_, o2, by rw [o3]; simp⟩))⟩
      show D.ws ++ [1] = [1]
      rw [o1]; rfl
    · rw [o1] at hf ⊢
      have er : (A.read h (([1] : List Int).length : Int)).2 = (2, 0) := H.word (i := 1) (by omega) (by simp)
      rw [er] at hf ⊢
      have eg : (D.add 2).goOn = { D.add 2 with out := 1, st := 0 } := by unfold Fe.goOn Fe.add; dsimp only; rw [if_pos (by rw [i6, o1]; simp)]
      rw [eg] at hf ⊢
      have e2 : D.ws ++ [2] = [1, 2] := by rw [o1]; rfl
      refine ⟨hf, i2, i3, i4, i5, i6, .inr (.inr (.inr ⟨rfl, ?_, fun _ => ⟨by rw [o3]; simp, e2⟩⟩))⟩
      show (D.ws ++ [2]).length ≤ 2
      rw [e2]; simp
  · have es : D.step A = (A, D) := by unfold Fe.step; rw [if_neg (by omega), if_neg (by omega), if_neg (by omega)]
    rw [es] at hf ⊢
    exact ⟨hb, H, fi_more ⟨i1, i2, i3, i4, i5, i6, .inr (.inr (.inr ⟨s, o1, o2⟩))⟩ (fun h => by simp [h])⟩
theorem fi_end (I : FI D sg h R hb held) : D.out = 1 → held = true ∧ D.ws = [1, 2] := by
  intro h
  rcases I.st with ⟨_, _, o⟩ | ⟨_, _, o, _⟩ | ⟨_, _, o, _⟩ | ⟨_, _, o⟩
  · omega
  · omega
  · omega
  · exact o h
end Hld
end Go.Proofs.YtpajafecodkndaaGreat

set_option linter.unusedVariables false
set_option linter.unusedSimpArgs false
namespace Go.Proofs.YtpajafecodkndaaGreat
namespace Hld
open Go.RowKit Go.Maps Arn Pac Clm Cnt Sta

variable {w W W' : World} {b k n r : Nat} {A : Ar} {ps : List Part}
/-- What the document's arena keeps for good. -/
def sgP (A : Ar) (CS : Array Value) (G : List Nat) : Part := ⟨[], G, fun W => RefS W A (.agg CS) G⟩
theorem sgP_fra (A : Ar) (CS : Array Value) (G : List Nat) : (sgP A CS G).Fra := fun W W' F h ht _ h2 => RefS.turn h ht (fun q hq => h2 q (by simpa [sgP] using hq))
theorem hs_row {base : Nat} {v : Value} (h : W.ownsRow base 31 1 v n (hsV n)) (hn : 0 < n) : ∃ kh c o, v = .slice (some ⟨kh, 0, none⟩) n c ∧ W.heap[kh]? = some o ∧ (∀ W', W'.heap[kh]? = some o → HsAt W' kh n) ∧ base ≤ kh := by
  rcases h.2 with ⟨hv, hz⟩ | ⟨g, cap, cur, rfl, hb, hh, hrest⟩
  · omega
  · refine ⟨g, cap, _, rfl, hh, fun W' hW' x hx => ?_, hb⟩
    have h2 : W'.ownsRow base 31 1 (.slice (some ⟨g, 0, none⟩) n cap) n (hsV n) := ⟨h.1, .inr ⟨g, cap, cur, rfl, hb, hW', hrest⟩⟩
    have h3 := h2.cellAt x (by have := h.1; omega)
    rw [h3, hsV_get hx]
theorem segs14 (n : Nat) (w0 w : World) (ht : Frm.Turn [] w0 w) (hn : 0 < n) (h8 : n ≤ 8) : Calls Tryz.prog 9 #[.int .i64 n] w fun e W =>
    ∃ b CS G kh c ohs A k, e = .returned (.tuple #[.pointer (some ⟨b, 0, none⟩), .agg CS, .slice (some ⟨kh, 0, none⟩) n c]) ∧ CS.size = 20 ∧ CS.all (·.oneCell') = true ∧ (∀ W', W'.heap[kh]? = some ohs → HsAt W' kh n) ∧ k ≤ 2 * n ∧ SegA A n zF ∧ A.births = n ∧ A.cap = 60000 ∧ Stash w0 b A k [bkP kh ohs, sgP A CS G] W := by
  refine (Cnt.Segments_any n w h8).mono ?_
  rintro e W ⟨b, u, G, A, k, hv, rfl, h1, h2, h3, h4, h5, h6, h7, h8, h9⟩
  obtain ⟨CS, rfl, z1, z2⟩ := h6.row
  obtain ⟨kh, c, o, rfl, g1, g2, g3⟩ := hs_row h7 hn
  have := ht.size
  have hkG : kh ∉ G := h9 kh (by simp [Value.ownBlock])
  refine ⟨b, CS, G, kh, c, o, A, k, rfl, z1, z2, g2, h2, h3, h4, h5, ⟨(kin_base h1 ht).sub (fun x hx => ?_), ?_, ?_, ?_, ?_, ?_⟩⟩
  · simp only [feet, List.flatMap_cons, List.flatMap_nil, Part.all, bkP, sgP, List.append_nil, List.nil_append, List.mem_append, List.mem_singleton] at hx
    rcases hx with hx | hx
    · subst hx; simp [Value.ownBlock]
    · exact List.mem_append_left _ hx
  · intro p hp
    simp only [List.mem_cons, List.not_mem_nil, or_false] at hp
    rcases hp with rfl | rfl
    · exact bkP_fra _ _
    · exact sgP_fra _ _ _
  · intro p hp
    simp only [List.mem_cons, List.not_mem_nil, or_false] at hp
    rcases hp with rfl | rfl
    · exact g1
    · exact h6
  · simp only [List.pairwise_cons, List.mem_singleton, List.not_mem_nil, List.Pairwise.nil, and_true]
    refine ⟨?_, fun _ h => h.elim⟩
    rintro p rfl
    refine ⟨fun x hx => ?_, by simp [sgP]⟩
    simp [bkP] at hx
    subst hx
    exact ⟨by simp [sgP], by simpa [sgP] using hkG⟩
  · intro p hp
    simp only [List.mem_cons, List.not_mem_nil, or_false] at hp
    rcases hp with rfl | rfl
    · simp [bkP]
    · simp [sgP]
  · intro p hp x hx
    simp only [List.mem_cons, List.not_mem_nil, or_false] at hp
    rcases hp with rfl | rfl
    · simp [bkP] at hx; subst hx; omega
    · simp [sgP] at hx
/-- A block is laid behind the segments. -/
theorem lay_seg (S : SegA A n zF) (hn : n < 8) (hb : A.births = n) (hc : A.cap = 60000) {ws : List Int} (h1 : 1 ≤ ws.length) (h2 : ws.length ≤ 2048) (hw : ∀ v, v ∈ ws → W64 v) :
    (A.lay ws).2 = (hS n, 0) ∧ (A.lay ws).1.Ok ∧ ∀ k, (A.lay ws).1.row k = if k = hS n then some ws else A.row k := by
  have hu := used_blks n zF
  rw [← S.L] at hu
  have hp : 1 ≤ 2 ^ n ∧ 2 ^ n ≤ 128 := ⟨Nat.one_le_two_pow, by have : 2 ^ n ≤ 2 ^ 7 := Nat.pow_le_pow_right (by omega) (by omega); omega⟩
  have hl : lead 0 A.L = n := by
    have := lead_blks n 0 zF
    rw [if_pos (by omega)] at this
    rw [S.L]
    exact this
  have e : (A.lay ws).2.1 = hS n := by
    unfold Ar.lay
    rw [if_neg (by omega), if_neg (by omega), hl, hb]
    show ((n : Int) + 1) * 65536 + ((n : Int) + 1) = hS n
    unfold hS; omega
  have hr := fun k => row_lay (k := k) S.ok h1 h2 (by omega) (by omega)
  refine ⟨Prod.ext e (hr 0).1, lay_ok S.ok h1 h2 (by omega) (by omega) hw, fun k => ?_⟩
  have := (hr k).2.2.2
  rw [e] at this
  exact this
theorem hv_start {bw : List Int} (S : SegA A 1 zF) (hb : A.births = 1) (hc : A.cap = 60000) (h1 : 1 ≤ bw.length) (h2 : bw.length ≤ 2048) (hw : ∀ v, v ∈ bw → W64 v) : (A.lay bw).2 = (131074, 0) ∧ HV (A.lay bw).1 65537 131074 (A.fixed.getD 0 0) 0 0 bw := by
  obtain ⟨e1, e2, e3⟩ := lay_seg S (by omega) hb hc h1 h2 hw
  have h0 : hS 0 = 65537 := rfl
  have h11 : hS 1 = 131074 := rfl
  have hr := S.row (g := 0) (by omega)
  rw [h0] at hr
  refine ⟨by rw [e1, h11], e2, ⟨A.fixed, ?_, S.ok.nine, rfl⟩, ⟨rowF 7 (zF 0), ?_, rowF_len _ _, ?_, ?_⟩, ?_, by omega, by omega, by omega⟩
  · rw [e3, if_neg (by rw [h11]; omega)]; unfold Ar.row; rw [if_pos rfl]
  · rw [e3, if_neg (by rw [h11]; omega)]; exact hr
  · rw [rowF_get _ (by decide)]; rfl
  · rw [rowF_get _ (by decide)]; rfl
  · rw [e3, if_pos h11.symm]
end Hld
end Go.Proofs.YtpajafecodkndaaGreat
