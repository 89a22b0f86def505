/- An arena and the document's beside it, laid alike: what each call leaves. -/
import Derived.Test.YtennngngdmdpnaaQuadRows
import Derived.Test.YtennngngdmdpnaaArenaRefLay3
set_option linter.unusedVariables false
set_option linter.unusedSimpArgs false
namespace Go.Proofs.Ytennngngdmdpnaa
namespace Qud
open Go.RowKit Go.Maps Arn

structure LaidS (w : World) (b bm br : Nat) (A A2 : Ar) (n : Nat) (CS Z : Array Value) (G : List Nat) (W : World) : Prop where
  mem : ∃ M, Sin w b M A n W ∧ ∀ k, k ∈ bm :: br :: G → k ∉ M.foot b
  lt : ∀ k, k ∈ bm :: br :: G → k < W.heap.size
  ref : RefAt W A2 0 0 0 0 0 0 0 0 0 (.agg CS) G
  hm : W.heap[bm]? = some (.cells CS 41 (0, 0))
  hr : W.heap[br]? = some (.cells Z 41 (0, 0))
  zs : Z.size = 20
  ne : bm ≠ br
  nm : w.heap.size ≤ bm
  nr : w.heap.size ≤ br
  gm : bm ∉ G
  gr : br ∉ G
theorem ref_size {W : World} {A : Ar} {f0 f1 f2 f3 f4 f5 f6 f7 f8 : Int} {CS : Array Value} {G : List Nat} (h : RefAt W A f0 f1 f2 f3 f4 f5 f6 f7 f8 (.agg CS) G) : CS.size = 20 ∧ CS.all (·.oneCell') = true := by
  obtain ⟨v, l, h1, _, h2, _⟩ := h
  simp only [Value.agg.injEq] at h1
  obtain ⟨a, c, rfl⟩ := h2.form
  rw [h1]
  exact ⟨rfl, refCells_one _ _ _ _ _ _ _ _ _ _ _ _ _⟩
theorem LaidS.lay {w W : World} {b bm br n : Nat} {A A2 : Ar} {CS Z : Array Value} {G : List Nat} (h : LaidS w b bm br A A2 n CS Z G W) (hn : n ≤ 100000000) {v : Value} {ws : List Int} (hv : WordsAt w v ws) (hw : ∀ x, x ∈ ws → W64 x) :
    Calls Try.prog 19 #[.pointer (some ⟨b, 0, none⟩), v] W fun e w' => e = .returned (.tuple #[.int .u64 (A.lay ws).2.1, .int .i64 (A.lay ws).2.2]) ∧ LaidS w b bm br (A.lay ws).1 A2 (n + 1) CS Z G w' ∧ Frm.Turn [] w w' := by
  obtain ⟨M, hs, hd⟩ := h.mem
  refine (sin_lay hs hn (hv.turn hs.turn (by simp)) (fun hne k hk hk' => ?_) hw).mono ?_
  · have h1 := words_lt hv hne k hk
    have h2 := hs.new k hk'
    omega
  · rintro e w' ⟨he, M', hs', hT, hf⟩
    have hsz := hT.size
    exact ⟨he, ⟨⟨M', hs', fun k hk hk' => (hf k hk').elim (hd k hk) (fun h1 => by have := h.lt k hk; omega)⟩, fun k hk => Nat.lt_of_lt_of_le (h.lt k hk) hsz, h.ref.turn hT (fun k hk hk' => hd k (by simp [hk]) hk'), hT.keep h.hm (hd bm (by simp)), hT.keep h.hr (hd br (by simp)), h.zs, h.ne, h.nm, h.nr, h.gm, h.gr⟩, hs'.turn⟩
theorem LaidS.refLay {w W : World} {b bm br n : Nat} {A A2 : Ar} {CS Z : Array Value} {G : List Nat} (h : LaidS w b bm br A A2 n CS Z G W) (hok : A2.Ok) (hb : A2.births ≤ 100000000) (hl : A2.t.lays ≤ 100000000) {v : Value} {ws : List Int} (hv : WordsAt w v ws) (hws : ws.length ≤ 9223372036854775807) :
    Calls Try.prog 37 #[.agg CS, v] W fun e w' => ∃ CS' G', e = .returned (.tuple #[.agg CS', .int .u64 (A2.lay ws).2.1, .int .i64 (A2.lay ws).2.2]) ∧ w'.heap[bm]? = some (.cells CS 41 (0, 0)) ∧ CS.size = CS'.size ∧ CS'.size = 20 ∧ CS'.all (·.oneCell') = true ∧
      LaidS w b bm br A (A2.lay ws).1 n CS' Z G' (w'.setRow bm CS') ∧ Frm.Turn [] w (w'.setRow bm CS') := by
  refine (refLay_any A2 0 0 0 0 0 0 0 0 0 (.agg CS) G W h.ref hok hb hl v ws (hv.turn (by obtain ⟨M, hs, _⟩ := h.mem; exact hs.turn) (by simp)) hws).mono ?_
  rintro e w' ⟨u', G', rfl, hr, hT, hG⟩
  obtain ⟨v', l', rfl, e1, e2, e3⟩ := hr
  have hr' : RefAt w' (A2.lay ws).1 0 0 0 0 0 0 0 0 0 (.agg (refCells (A2.lay ws).1 0 0 0 0 0 0 0 0 0 v')) G' := ⟨v', l', rfl, e1, e2, e3⟩
  have hz := ref_size hr'
  have hz0 := (ref_size h.ref).1
  have hmk := hT.keep h.hm (by simp)
  have hrk := hT.keep h.hr (by simp)
  have hT1 : Frm.Turn [bm] w' (w'.setRow bm (refCells (A2.lay ws).1 0 0 0 0 0 0 0 0 0 v')) := setRow_turn (Frm.Turn.refl _ _) (.inl (by simp)) _
  have hT2 : Frm.Turn [bm] W (w'.setRow bm (refCells (A2.lay ws).1 0 0 0 0 0 0 0 0 0 v')) := (hT.mono (by simp)).trans hT1 (fun k hk => .inl hk)
  have hsz : w'.heap.size ≤ (w'.setRow bm (refCells (A2.lay ws).1 0 0 0 0 0 0 0 0 0 v')).heap.size := hT1.size
  have hKW := h.lt
  obtain ⟨M, hs, hd⟩ := h.mem
  have hWw := hT.size
  have gm' : bm ∉ G' := fun hk => by
    rcases hG bm hk with h1 | h1
    · exact h.gm h1
    · have := hKW bm (by simp); omega
  have gr' : br ∉ G' := fun hk => by
    rcases hG br hk with h1 | h1
    · exact h.gr h1
    · have := hKW br (by simp); omega
  refine ⟨_, G', rfl, hmk, by rw [hz0, hz.1], hz.1, hz.2, ⟨⟨M, hs.apart hT2 (fun k hk hk' => by simp at hk'; subst hk'; exact hd _ (by simp) hk) (fun k hk => by simp at hk; subst hk; exact h.nm), fun k hk hk' => ?_⟩, fun k hk => ?_, hr'.turn hT1 (fun k hk hk' => by simp at hk'; subst hk'; exact gm' hk), setRow_heap w' bm _ _ _ _ hmk, hT1.keep hrk (by simp; exact fun e => h.ne e.symm), h.zs, h.ne, h.nm, h.nr, gm', gr'⟩, hs.turn.trans hT2 (fun k hk => by simp at hk; subst hk; exact .inr h.nm)⟩
  · simp only [List.mem_cons] at hk
    rcases hk with rfl | rfl | hk
    · exact hd _ (by simp) hk'
    · exact hd _ (by simp) hk'
    · rcases hG k hk with h1 | h1
      · exact hd k (by simp [h1]) hk'
      · have := hs.lt hk'; omega
  · simp only [List.mem_cons] at hk
    rcases hk with rfl | rfl | hk
    · have := hKW k (by simp); omega
    · have := hKW k (by simp); omega
    · rcases hG k hk with h1 | h1
      · have := hKW k (by simp [h1]); omega
      · omega
end Qud
end Go.Proofs.Ytennngngdmdpnaa
