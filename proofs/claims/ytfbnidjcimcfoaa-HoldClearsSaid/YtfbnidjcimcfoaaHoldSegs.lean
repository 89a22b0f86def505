/- Segments of law 12, told as parts; a block beside them. -/
import Derived.Test.YtfbnidjcimcfoaaCountLaw
import Derived.Test.YtfbnidjcimcfoaaHoldKit
import Derived.Test.YtfbnidjcimcfoaaHoldWinsPlain
set_option linter.unusedVariables false
set_option linter.unusedSimpArgs false
namespace Go.Proofs.Ytfbnidjcimcfoaa
namespace Hld
open Go.RowKit Go.Maps Arn Pac Clm Cnt Sta

variable {w W W' : World} {b k n r : Nat} {A : Ar} {ps : List Part}
/-- What the document's arena keeps for good. -/
def sgP (A : Ar) (CS : Array Value) (G : List Nat) : Part := ⟨[], G, fun W => RefS W A (.agg CS) G⟩
theorem sgP_fra (A : Ar) (CS : Array Value) (G : List Nat) : (sgP A CS G).Fra := fun W W' F h ht _ h2 => RefS.turn h ht (fun q hq => h2 q (by simpa [sgP] using hq))
theorem hs_row {base : Nat} {v : Value} (h : W.ownsRow base 26 1 v n (hsV n)) (hn : 0 < n) : ∃ kh c o, v = .slice (some ⟨kh, 0, none⟩) n c ∧ W.heap[kh]? = some o ∧ (∀ W', W'.heap[kh]? = some o → HsAt W' kh n) ∧ base ≤ kh := by
  rcases h.2 with ⟨hv, hz⟩ | ⟨g, cap, cur, rfl, hb, hh, hrest⟩
  · omega
  · refine ⟨g, cap, _, rfl, hh, fun W' hW' x hx => ?_, hb⟩
    have h2 : W'.ownsRow base 26 1 (.slice (some ⟨g, 0, none⟩) n cap) n (hsV n) := ⟨h.1, .inr ⟨g, cap, cur, rfl, hb, hW', hrest⟩⟩
    have h3 := h2.cellAt x (by have := h.1; omega)
    rw [h3, hsV_get hx]
theorem segs14 (n : Nat) (w0 w : World) (ht : Frm.Turn [] w0 w) (hn : 0 < n) (h8 : n ≤ 8) : Calls Try.prog 6 #[.int .i64 n] w fun e W =>
    ∃ b CS G kh c ohs A k, e = .returned (.tuple #[.pointer (some ⟨b, 0, none⟩), .agg CS, .slice (some ⟨kh, 0, none⟩) n c]) ∧ CS.size = 20 ∧ CS.all (·.oneCell') = true ∧ (∀ W', W'.heap[kh]? = some ohs → HsAt W' kh n) ∧ k ≤ 2 * n ∧ SegA A n zF ∧ A.births = n ∧ A.cap = 60000 ∧ Stash w0 b A k [bkP kh ohs, sgP A CS G] W := by
  refine (Cnt.Segments_any n w h8).mono ?_
  rintro e W ⟨b, u, G, A, k, hv, rfl, h1, h2, h3, h4, h5, h6, h7, h8, h9⟩
  obtain ⟨CS, rfl, z1, z2⟩ := h6.row
  obtain ⟨kh, c, o, rfl, g1, g2, g3⟩ := hs_row h7 hn
  have := ht.size
  have hkG : kh ∉ G := h9 kh (by simp [Value.ownBlock])
  refine ⟨b, CS, G, kh, c, o, A, k, rfl, z1, z2, g2, h2, h3, h4, h5, ⟨(kin_base h1 ht).sub (fun x hx => ?_), ?_, ?_, ?_, ?_, ?_⟩⟩
  · simp only [feet, List.flatMap_cons, List.flatMap_nil, Part.all, bkP, sgP, List.append_nil, List.nil_append, List.mem_append, List.mem_singleton] at hx
    rcases hx with hx | hx
    · subst hx; simp [Value.ownBlock]
    · exact List.mem_append_left _ hx
  · intro p hp
    simp only [List.mem_cons, List.not_mem_nil, or_false] at hp
    rcases hp with rfl | rfl
    · exact bkP_fra _ _
    · exact sgP_fra _ _ _
  · intro p hp
    simp only [List.mem_cons, List.not_mem_nil, or_false] at hp
    rcases hp with rfl | rfl
    · exact g1
    · exact h6
  · simp only [List.pairwise_cons, List.mem_singleton, List.not_mem_nil, List.Pairwise.nil, and_true]
    refine ⟨?_, fun _ h => h.elim⟩
    rintro p rfl
    refine ⟨fun x hx => ?_, by simp [sgP]⟩
    simp [bkP] at hx
    subst hx
    exact ⟨by simp [sgP], by simpa [sgP] using hkG⟩
  · intro p hp
    simp only [List.mem_cons, List.not_mem_nil, or_false] at hp
    rcases hp with rfl | rfl
    · simp [bkP]
    · simp [sgP]
  · intro p hp x hx
    simp only [List.mem_cons, List.not_mem_nil, or_false] at hp
    rcases hp with rfl | rfl
    · simp [bkP] at hx; subst hx; omega
    · simp [sgP] at hx
/-- A block is laid behind the segments. -/
theorem lay_seg (S : SegA A n zF) (hn : n < 8) (hb : A.births = n) (hc : A.cap = 60000) {ws : List Int} (h1 : 1 ≤ ws.length) (h2 : ws.length ≤ 2048) (hw : ∀ v, v ∈ ws → W64 v) :
    (A.lay ws).2 = (hS n, 0) ∧ (A.lay ws).1.Ok ∧ ∀ k, (A.lay ws).1.row k = if k = hS n then some ws else A.row k := by
  have hu := used_blks n zF
  rw [← S.L] at hu
  have hp : 1 ≤ 2 ^ n ∧ 2 ^ n ≤ 128 := ⟨Nat.one_le_two_pow, by have : 2 ^ n ≤ 2 ^ 7 := Nat.pow_le_pow_right (by omega) (by omega); omega⟩
  have hl : lead 0 A.L = n := by
    have := lead_blks n 0 zF
    rw [if_pos (by omega)] at this
    rw [S.L]
    exact this
  have e : (A.lay ws).2.1 = hS n := by
    unfold Ar.lay
    rw [if_neg (by omega), if_neg (by omega), hl, hb]
    show ((n : Int) + 1) * 65536 + ((n : Int) + 1) = hS n
    unfold hS; omega
  have hr := fun k => row_lay (k := k) S.ok h1 h2 (by omega) (by omega)
  refine ⟨Prod.ext e (hr 0).1, lay_ok S.ok h1 h2 (by omega) (by omega) hw, fun k => ?_⟩
  have := (hr k).2.2.2
  rw [e] at this
  exact this
theorem hv_start {bw : List Int} (S : SegA A 1 zF) (hb : A.births = 1) (hc : A.cap = 60000) (h1 : 1 ≤ bw.length) (h2 : bw.length ≤ 2048) (hw : ∀ v, v ∈ bw → W64 v) : (A.lay bw).2 = (131074, 0) ∧ HV (A.lay bw).1 65537 131074 (A.fixed.getD 0 0) 0 0 bw := by
  obtain ⟨e1, e2, e3⟩ := lay_seg S (by omega) hb hc h1 h2 hw
  have h0 : hS 0 = 65537 := rfl
  have h11 : hS 1 = 131074 := rfl
  have hr := S.row (g := 0) (by omega)
  rw [h0] at hr
  refine ⟨by rw [e1, h11], e2, ⟨A.fixed, ?_, S.ok.nine, rfl⟩, ⟨rowF 7 (zF 0), ?_, rowF_len _ _, ?_, ?_⟩, ?_, by omega, by omega, by omega⟩
  · rw [e3, if_neg (by rw [h11]; omega)]; unfold Ar.row; rw [if_pos rfl]
  · rw [e3, if_neg (by rw [h11]; omega)]; exact hr
  · rw [rowF_get _ (by decide)]; rfl
  · rw [rowF_get _ (by decide)]; rfl
  · rw [e3, if_pos h11.symm]
end Hld
end Go.Proofs.Ytfbnidjcimcfoaa
