/- ArenaPlays at a capacity that an arena has: up to the loop over the operations. -/
import Derived.Test.YtgjgoflkbcmgnaaArenaOfR
import Derived.Test.YtgjgoflkbcmgnaaArenaTail
import Derived.Test.YtgjgoflkbcmgnaaArenaLawSame
import Derived.Deep.Cut
import Derived.Deep.CutRange
import Derived.Deep.RegionHeld3
import Derived.Deep.QuietTactic
import Derived.BigQuiet
import Derived.Deep.DeepMust
set_option linter.unusedVariables false
set_option linter.unusedSimpArgs false
namespace Go.Proofs.Ytgjgoflkbcmgnaa
namespace Arn
open Go.RowKit Hp Go.Maps

/-- What the loop goes by: the two rows, all arenas as the document has them. -/
def PlayS (w0 : World) (n : Nat) (s17 s18 : Value) (W : World) : Prop :=
  ∃ (st : List One) (ga ca gw cw : Nat), s17 = .slice (some ⟨ga, 0, none⟩) st.length ca ∧ s18 = .slice (some ⟨gw, 0, none⟩) st.length cw ∧ Many w0 W n st ga ca gw cw ∧ ∀ (j : Nat) (x : One), st[j]? = some x → x.R = x.A
def zero20 : Array Value := #[.int .i64 0, .int .i64 0, .int .i64 0, .int .i64 0, .int .u64 0, .int .u64 0, .int .u64 0, .int .u64 0, .int .u64 0, .int .u64 0, .int .u64 0, .int .u64 0, .int .u64 0, .slice none 0 0, .int .i64 0, .int .i64 0, .int .i64 0, .int .i64 0, .int .i64 0, .int .i64 0]
def cs0 (cap : Nat) : Array Value := #[.int .i64 cap, .int .i64 0, .int .i64 0, .int .i64 0, .int .u64 0, .int .u64 0, .int .u64 0, .int .u64 0, .int .u64 0, .int .u64 0, .int .u64 0, .int .u64 0, .int .u64 0, .slice none 0 0, .int .i64 0, .int .i64 0, .int .i64 0, .int .i64 0, .int .i64 0, .int .i64 0]
theorem many_one {w0 w : World} {b cap : Nat} {M : Mem} (h : Sin w0 b M (Ar.new cap) 0 w) :
    PlayS w0 0 (.slice (some ⟨w.heap.size, 0, none⟩) 1 1) (.slice (some ⟨w.heap.size + 1, 0, none⟩) 1 1) ((w.alloc (.cells #[.pointer (some ⟨b, 0, none⟩)] 25)).alloc (.cells (cs0 cap) 54)) := by
  have hsz := h.turn.size
  have hTT : Frm.Turn [] w ((w.alloc (.cells #[.pointer (some ⟨b, 0, none⟩)] 25)).alloc (.cells (cs0 cap) 54)) := ((Frm.Turn.refl [] w).alloc _).alloc _
  have ha := World.ownsRow_lit (base := 0) (e := 25) (size := 1) w #[.pointer (some ⟨b, 0, none⟩)] 1 (Nat.zero_le _) (by simp [maxLen]) rfl
  have hw := World.ownsRow_lit (base := 0) (e := 54) (size := 20) (w.alloc (.cells #[.pointer (some ⟨b, 0, none⟩)] 25)) (cs0 cap) 1 (Nat.zero_le _) (by simp [maxLen]) rfl
  rw [World.size_alloc] at hw
  have hs := h.step hTT
  refine ⟨[⟨b, M, Ar.new cap, Ar.new cap, cs0 cap, []⟩], w.heap.size, 1, w.heap.size + 1, 1, rfl, rfl, ⟨h.turn.trans hTT (by simp), by simp, by simp, ha.alloc _, by simpa [rowOf] using hw, hsz, by omega, by omega, fun i x hx => ?_, fun i j x y hij hx hy => ?_, fun i j x y hx hy k hk => ?_⟩, fun j x hx => ?_⟩
  · cases i with
    | zero =>
      simp at hx; subst hx
      exact ⟨hs, refS_new _ cap, fun k hk => by have := h.lt hk; omega, by simp⟩
    | succ i => simp at hx
  · cases i <;> cases j <;> simp_all
  · cases j with
    | zero => simp at hy; subst hy; simp at hk
    | succ j => simp at hy
  · cases j with
    | zero => simp at hx; subst hx; rfl
    | succ j => simp at hx
theorem rnd_start {w0 wr W : World} {n : Nat} {st : List One} {ga ca gw cw i : Nat} {x : One} {Bo bw : Nat} {y : OpV} (hM : Many w0 wr n st ga ca gw cw) (hx : st[i]? = some x) (hT : Frm.Turn [] wr W) (hBo : wr.heap.size ≤ Bo) (hb : wr.heap.size ≤ bw) (hne : Bo ≠ bw)
    (hop : BoxOp W Bo y) (hown : W.heap[bw]? = some (.cells x.cs 54 (0, 0))) : Rnd w0 W n st ga ca gw cw i x Bo y bw x.R x.cs x.G := by
  have hW := hM.step hT
  obtain ⟨l1, l2⟩ := hM.lt
  have h0 := hM.turn.size
  have hsz := hT.size
  have off : ∀ (j : Nat) (z : One), st[j]? = some z → (Bo ∉ z.F ∧ bw ∉ z.F) ∧ Bo ∉ z.G ∧ bw ∉ z.G := fun j z hz => by
    have hE := hM.each j z hz
    exact ⟨⟨fun h => by have := hE.sin.lt h; omega, fun h => by have := hE.sin.lt h; omega⟩, fun h => by have := hE.far _ h; omega, fun h => by have := hE.far _ h; omega⟩
  exact ⟨hW, hx, hop, hown, (hW.each i x hx).ref, ⟨by omega, by omega⟩, ⟨by omega, by omega, by omega, by omega, hne⟩, off, (off i x hx).2, fun k hk => by
    have := (hW.each i x hx).far k hk
    exact ⟨this.1, this.2.1, this.2.2.1, this.2.2.2, fun j z hz => hW.side j i z x hz hx k hk⟩⟩
theorem sw_end {w0 W : World} {n : Nat} {st : List One} {ga ca gw cw i : Nat} {x' : One} {Bo : Nat} {y : OpV} {bw : Nat} {R : Ar} {CS : Array Value} {G : List Nat} (hA : ∀ (j : Nat) (x : One), st[j]? = some x → x.R = x.A) (h : Rnd w0 W n (st.set i x') ga ca gw cw i x' Bo y bw R CS G) (hR : R = x'.A) :
    SwC w0 n i bw (.slice (some ⟨ga, 0, none⟩) st.length ca) (.slice (some ⟨gw, 0, none⟩) st.length cw) W := by
  refine ⟨st.set i x', ga, ca, gw, cw, x', Bo, y, R, CS, G, by rw [List.length_set], by rw [List.length_set], h, hR, fun k z hz hk => ?_⟩
  rcases get_set hz with ⟨e, _⟩ | ⟨_, hz⟩
  · exact absurd e hk
  · exact hA k z hz
/-- The round's end: the document's answer is laid down in its row. -/
theorem sw_store {w0 W : World} {n : Nat} {st : List One} {ga ca gw cw i : Nat} {x : One} {Bo : Nat} {y : OpV} {bw : Nat} {R : Ar} {CS : Array Value} {G : List Nat} (h : Rnd w0 W n st ga ca gw cw i x Bo y bw R CS G) (hR : R = x.A) (hA : ∀ (k : Nat) (z : One), st[k]? = some z → k ≠ i → z.R = z.A) :
    PlayS w0 n (.slice (some ⟨ga, 0, none⟩) st.length ca) (.slice (some ⟨gw, 0, none⟩) st.length cw) (W.setCells gw (i * 20) CS.toList) := by
  obtain ⟨h1, h2⟩ := h.many.store h.at_ h.ref h.far
  refine ⟨_, ga, ca, gw, cw, by rw [List.length_set], by rw [List.length_set], h1, fun j z hz => ?_⟩
  rcases get_set hz with ⟨_, rfl⟩ | ⟨hk, hz⟩
  · exact hR
  · exact hA j z hz hk
theorem wp_back {P : Program} {c : Code} {Q : Exit → Act → World → Prop} {K : Act → World → Prop} {a : Act} {w : World} (h0 : ∀ (a : Act) (w : World), c.wp P Q a w → K a w) (h : c.wp P Q a w) : K a w := h0 a w h
theorem wp_seq_cut {P : Program} {x y : Code} {Q : Exit → Act → World → Prop} {a : Act} {w : World} (h : ∀ K : Act → World → Prop, (∀ (a : Act) (w : World), y.wp P Q a w → K a w) → x.wp P (Exit.then K Q) a w) : (Code.seq x y).wp P Q a w := wp_seq (h _ (fun _ _ h => h))
theorem idx_any (y : Int) (n : Nat) (h : 0 < n) (h4 : n ≤ 4) : ∃ i : Nat, i < n ∧ wrap64 ((IntKind.u64.wrap y).tmod (n : Int)) = (i : Int) := by
  have hu : 0 ≤ IntKind.u64.wrap y := by simp [IntKind.wrap, IntKind.signed, IntKind.bits]; omega
  rw [Int.tmod_eq_emod_of_nonneg hu]
  have h1 := Int.emod_nonneg (IntKind.u64.wrap y) (show (n : Int) ≠ 0 by omega)
  have h2 := Int.emod_lt_of_pos (IntKind.u64.wrap y) (show (0 : Int) < n by omega)
  refine ⟨((IntKind.u64.wrap y) % (n : Int)).toNat, by omega, ?_⟩
  unfold wrap64
  omega
/-! ### the law's code, in parts -/
def cfst : Code → Code
  | .seq a _ => a
  | c => c
def csnd : Code → Code
  | .seq _ b => b
  | c => c
def cblk : Code → Code
  | .block _ c => c
  | c => c
def nth : Nat → Code → Code
  | 0, c => c
  | n + 1, c => nth n (csnd c)
/-- The loop behind, and what stands behind it. -/
noncomputable def endC : Code := cblk (csnd (cfst (nth 8 (Try.f3.body.getD .skip))))
noncomputable def restC : Code := nth 9 (Try.f3.body.getD .skip)
end Arn
end Go.Proofs.Ytgjgoflkbcmgnaa
