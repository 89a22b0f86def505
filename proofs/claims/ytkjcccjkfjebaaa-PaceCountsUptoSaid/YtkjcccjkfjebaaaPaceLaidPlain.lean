/- An arena and the document's beside it, laid alike: what each call leaves. -/
import Derived.Test.YtkjcccjkfjebaaaPaceMade
import Derived.Test.YtkjcccjkfjebaaaArenaRefLay3
set_option linter.unusedVariables false
set_option linter.unusedSimpArgs false
namespace Go.Proofs.Ytkjcccjkfjebaaa
namespace Pac
open Go.RowKit Go.Maps Arn

theorem cell_lt {w : World} {a : Addr} {u : Value} (h : w.cell? a = some u) : a.block < w.heap.size := by
  rcases Nat.lt_or_ge a.block w.heap.size with h1 | h1
  · exact h1
  · simp [World.cell?, Array.getElem?_eq_none h1] at h
theorem words_lt {w : World} {v : Value} {ws : List Int} (h : WordsAt w v ws) (hn : ws ≠ []) : ∀ k, v.ownBlock = some k → k < w.heap.size := fun k hk => by
  rcases h with ⟨_, e⟩ | ⟨a, c, rfl, hc⟩
  · exact absurd e hn
  · obtain ⟨x, t, rfl⟩ := List.exists_cons_of_ne_nil hn
    have h0 := cell_lt (hc 0 (.int .u64 x) rfl)
    have hb : (a.add 0).block = a.block := by unfold Addr.add; split <;> rfl
    rw [hb] at h0
    simp [Value.ownBlock] at hk
    omega
structure LaidS (w : World) (b bm br : Nat) (A A2 : Ar) (n : Nat) (CS Z : Array Value) (G : List Nat) (W : World) : Prop where
  mach : Mach w b (bm :: br :: G) A n Bare W
  ref : RefAt W A2 0 0 0 0 0 0 0 0 0 (.agg CS) G
  hm : W.heap[bm]? = some (.cells CS 54 (0, 0))
  hr : W.heap[br]? = some (.cells Z 54 (0, 0))
  zs : Z.size = 20
  ne : bm ≠ br
  nm : w.heap.size ≤ bm
  nr : w.heap.size ≤ br
  gm : bm ∉ G
  gr : br ∉ G
theorem ref_size {W : World} {A : Ar} {f0 f1 f2 f3 f4 f5 f6 f7 f8 : Int} {CS : Array Value} {G : List Nat} (h : RefAt W A f0 f1 f2 f3 f4 f5 f6 f7 f8 (.agg CS) G) : CS.size = 20 ∧ CS.all (·.oneCell') = true := by
  obtain ⟨v, l, h1, _, h2, _⟩ := h
  simp only [Value.agg.injEq] at h1
  obtain ⟨a, c, rfl⟩ := h2.form
  rw [h1]
  exact ⟨rfl, refCells_one _ _ _ _ _ _ _ _ _ _ _ _ _⟩
theorem LaidS.lay {w W : World} {b bm br n : Nat} {A A2 : Ar} {CS Z : Array Value} {G : List Nat} (h : LaidS w b bm br A A2 n CS Z G W) (hn : n ≤ 100000000) {v : Value} {ws : List Int} (hv : WordsAt w v ws) (hw : ∀ x, x ∈ ws → W64 x) :
    Calls Try.prog 12 #[.pointer (some ⟨b, 0, none⟩), v] W fun e w' => e = .returned (.tuple #[.int .u64 (A.lay ws).2.1, .int .i64 (A.lay ws).2.2]) ∧ LaidS w b bm br (A.lay ws).1 A2 (n + 1) CS Z G w' ∧ Frm.Turn [] w w' := by
  refine (h.mach.acts bare_stays (fun M hs => sin_lay hs hn (hv.turn hs.turn (by simp)) (fun hne k hk hk' => ?_) hw)).mono ?_
  · have h1 := words_lt hv hne k hk
    have h2 := hs.new k hk'
    omega
  · rintro e w' ⟨he, hm, F, hT, hK, _⟩
    exact ⟨he, ⟨hm, h.ref.turn hT (fun k hk => hK k (by simp [hk])), hT.keep h.hm (hK bm (by simp)), hT.keep h.hr (hK br (by simp)), h.zs, h.ne, h.nm, h.nr, h.gm, h.gr⟩, hm.turn⟩
theorem LaidS.refLay {w W : World} {b bm br n : Nat} {A A2 : Ar} {CS Z : Array Value} {G : List Nat} (h : LaidS w b bm br A A2 n CS Z G W) (hok : A2.Ok) (hb : A2.births ≤ 100000000) (hl : A2.t.lays ≤ 100000000) {v : Value} {ws : List Int} (hv : WordsAt w v ws) (hws : ws.length ≤ 9223372036854775807) :
    Calls Try.prog 30 #[.agg CS, v] W fun e w' => ∃ CS' G', e = .returned (.tuple #[.agg CS', .int .u64 (A2.lay ws).2.1, .int .i64 (A2.lay ws).2.2]) ∧ w'.heap[bm]? = some (.cells CS 54 (0, 0)) ∧ CS.size = CS'.size ∧ CS'.size = 20 ∧ CS'.all (·.oneCell') = true ∧
      LaidS w b bm br A (A2.lay ws).1 n CS' Z G' (w'.setRow bm CS') ∧ Frm.Turn [] w (w'.setRow bm CS') := by
  refine (refLay_any A2 0 0 0 0 0 0 0 0 0 (.agg CS) G W h.ref hok hb hl v ws (hv.turn h.mach.turn (by simp)) hws).mono ?_
  rintro e w' ⟨u', G', rfl, hr, hT, hG⟩
  obtain ⟨v', l', rfl, e1, e2, e3⟩ := hr
  have hr' : RefAt w' (A2.lay ws).1 0 0 0 0 0 0 0 0 0 (.agg (refCells (A2.lay ws).1 0 0 0 0 0 0 0 0 0 v')) G' := ⟨v', l', rfl, e1, e2, e3⟩
  have hz := ref_size hr'
  have hz0 := (ref_size h.ref).1
  have hmk := hT.keep h.hm (by simp)
  have hrk := hT.keep h.hr (by simp)
  have hT1 : Frm.Turn [bm] w' (w'.setRow bm (refCells (A2.lay ws).1 0 0 0 0 0 0 0 0 0 v')) := setRow_turn (Frm.Turn.refl _ _) (.inl (by simp)) _
  have hT2 : Frm.Turn [bm] W (w'.setRow bm (refCells (A2.lay ws).1 0 0 0 0 0 0 0 0 0 v')) := (hT.mono (by simp)).trans hT1 (fun k hk => .inl hk)
  have hsz : w'.heap.size ≤ (w'.setRow bm (refCells (A2.lay ws).1 0 0 0 0 0 0 0 0 0 v')).heap.size := hT1.size
  have hKW : ∀ k, k ∈ bm :: br :: G → k < W.heap.size := fun k hk => by
    obtain ⟨M, F, _, _, _, h5⟩ := h.mach
    exact (h5 k hk).2.2
  have hWw := hT.size
  have gm' : bm ∉ G' := fun hk => by
    rcases hG bm hk with h1 | h1
    · exact h.gm h1
    · have := hKW bm (by simp); omega
  have gr' : br ∉ G' := fun hk => by
    rcases hG br hk with h1 | h1
    · exact h.gr h1
    · have := hKW br (by simp); omega
  refine ⟨_, G', rfl, hmk, by rw [hz0, hz.1], hz.1, hz.2, ⟨?_, hr'.turn hT1 (fun k hk hk' => by simp at hk'; subst hk'; exact gm' hk), setRow_heap w' bm _ _ _ _ hmk, hT1.keep hrk (by simp; exact fun e => h.ne e.symm), h.zs, h.ne, h.nm, h.nr, gm', gr'⟩, h.mach.turn.trans hT2 (fun k hk => by simp at hk; subst hk; exact .inr h.nm)⟩
  refine h.mach.own bare_stays hT2 (fun k hk => by simp at hk; subst hk; exact .inl ⟨by simp, h.nm⟩) (fun k hk => ?_)
  simp only [List.mem_cons] at hk
  rcases hk with rfl | rfl | hk
  · exact ⟨.inl (by simp), by have := hKW k (by simp); omega⟩
  · exact ⟨.inl (by simp), by have := hKW k (by simp); omega⟩
  · rcases hG k hk with h1 | h1
    · exact ⟨.inl (by simp [h1]), by have := hKW k (by simp [h1]); omega⟩
    · exact ⟨.inr h1.1, by omega⟩
end Pac
end Go.Proofs.Ytkjcccjkfjebaaa
