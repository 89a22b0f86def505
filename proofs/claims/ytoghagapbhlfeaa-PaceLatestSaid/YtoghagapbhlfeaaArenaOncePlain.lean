/- ArenaOnce: what its calls keep. -/
import Derived.Test.YtoghagapbhlfeaaArenaBox
set_option linter.unusedVariables false
set_option linter.unusedSimpArgs false
namespace Go.Proofs.Ytoghagapbhlfeaa
namespace Arn
open Go.RowKit Hp Go.Maps

theorem lay_cap (A : Ar) (ws : List Int) : (A.lay ws).1.cap = A.cap := by unfold Ar.lay; split; rfl; split <;> rfl
theorem free_cap (A : Ar) (k : Int) : (A.free k).1.cap = A.cap := by unfold Ar.free; split <;> rfl
theorem free_births (A : Ar) (k : Int) : (A.free k).1.births = A.births := by unfold Ar.free; split <;> rfl
theorem lay_births {A : Ar} (hb : A.births < 268435455) (hL : A.L.length ≤ 60000) (ws : List Int) : ((A.lay ws).2.2 = 0 ∧ (A.lay ws).2.1 / 65536 = (A.births : Int) + 1 ∧ (A.lay ws).1.births = A.births + 1 ∧ W64 (A.lay ws).2.1) ∨ ((A.lay ws).2.2 ≠ 0 ∧ (A.lay ws).2.1 = 0 ∧ (A.lay ws).1.births = A.births) := by
  unfold Ar.lay
  split
  · exact .inr ⟨by simp, rfl, rfl⟩
  split
  · exact .inr ⟨by simp, rfl, rfl⟩
  · have hl := lead_le A.L 0
    refine .inl ⟨rfl, ?_, rfl, ?_⟩
    · show (((A.births : Int) + 1) * 65536 + ((lead 0 A.L : Int) + 1)) / 65536 = _
      omega
    · show W64 (((A.births : Int) + 1) * 65536 + ((lead 0 A.L : Int) + 1))
      unfold W64; omega
theorem gone_row {A : Ar} {k : Int} (hk : hasH A.L k = false) (h0 : k ≠ 0) (i : Int) : A.err k i = 23 := by
  unfold Ar.err Ar.row; rw [if_neg h0, look_none.2 hk]
theorem gone_read {A : Ar} {k : Int} (hk : hasH A.L k = false) (h0 : k ≠ 0) (i : Int) : A.read k i = (A.miss, 0, 23) := by
  unfold Ar.read; rw [gone_row hk h0, if_neg (by decide)]
theorem gone_write {A : Ar} {k : Int} (hk : hasH A.L k = false) (h0 : k ≠ 0) (i v : Int) : A.write k i v = (A.miss, 23) := by
  unfold Ar.write; rw [gone_row hk h0, if_neg (by decide)]
theorem gone_swap {A : Ar} {k : Int} (hk : hasH A.L k = false) (h0 : k ≠ 0) (i o v : Int) : A.swap k i o v = (A.miss, false, 23) := by
  unfold Ar.swap; rw [gone_row hk h0, if_neg (by decide)]
theorem gone_add {A : Ar} {k : Int} (hk : hasH A.L k = false) (h0 : k ≠ 0) (i v : Int) : A.add k i v = (A.miss, 0, 23) := by
  unfold Ar.add; rw [gone_row hk h0, if_neg (by decide)]
theorem gone_free {A : Ar} {k : Int} (hk : hasH A.L k = false) : A.free k = (A.miss, 23) := by unfold Ar.free; rw [hk]; rfl
theorem free_gone_after {A : Ar} {k : Int} (hk : hasH A.L k = true) : hasH (A.free k).1.L k = false := by
  unfold Ar.free; rw [if_pos hk]
  rw [hasH_false]
  intro x hx
  simp only [drop, List.mem_filter] at hx
  simpa using hx.2
theorem sameAr_refl {A B : Ar} (hok : A.Ok) (hf : B.fixed = A.fixed) (hL : B.L = A.L) : sameAr B A = true := by
  unfold sameAr sameSet
  rw [hf, hL]
  simp only [beq_self_eq_true, decide_true, Bool.true_and, List.all_eq_true]
  intro x hx
  unfold sameAs
  simp only [List.any_eq_true]
  exact ⟨x, hx, by simp⟩

/-- Between two rounds of ArenaOnce. -/
def OnceRel (w : World) (b m cap len : Nat) (k : Nat) (wr : World) : Prop :=
  ∃ (M : Mem) (A : Ar) (n : Nat) (D : DataW Unit), Sin w b M A (20 * k) wr ∧ wr.ownsMap Try.prog 29 (plainElem Try.prog 3) m n D ∧ n ≤ k ∧ m ∉ M.foot b ∧ w.heap.size ≤ m ∧ m < wr.heap.size ∧ A.cap = cap ∧ ∀ x : Int, Maps.has D (.int .u64 x) = true → x = 0 ∨ x / 65536 ≤ (A.births : Int)
theorem mapI : Try.prog.underlying 74 = some (.map 29 3) := by kernel_rfl
theorem under_i64 : Try.prog.underlying 3 = some (.int .i64) := by kernel_rfl

abbrev OwnI (W : World) (m n : Nat) (D : DataW Unit) : Prop := W.ownsMap Try.prog 29 (plainElem Try.prog 3) m n D
theorem once_lay {w wc : World} {b n0 m n : Nat} {M : Mem} {A : Ar} {D : DataW Unit} {v : Value} {ws : List Int} (h : Sin w b M A n0 wc) (hn : n0 ≤ 10000000) (hv : WordsAt wc v ws) (ha : ws ≠ [] → ∀ k, v.ownBlock = some k → k ∉ M.foot b) (hw : ∀ x, x ∈ ws → W64 x)
    (hown : OwnI wc m n D) (hm : m ∉ M.foot b) (hml : m < wc.heap.size) (hD : ∀ x : Int, Maps.has D (.int .u64 x) = true → x = 0 ∨ x / 65536 ≤ (A.births : Int)) :
    ∃ (hh ff : Int) (A' : Ar), (Calls Try.prog 12 #[.pointer (some ⟨b, 0, none⟩), v] wc fun e w' => e = .returned (.tuple #[.int .u64 hh, .int .i64 ff]) ∧ ∃ M' cc, Sin w b M' A' (n0 + 1) w' ∧ OwnI w' m n D ∧ m ∉ M'.foot b ∧ m < w'.heap.size ∧
        (Instr.lookup 74 (.map (some m)) (.int .u64 hh) false).run Try.prog w' = .ok (.int .i64 cc) w' ∧ (ff = 0 → cc = 0)) ∧ A'.cap = A.cap ∧ W64 hh ∧ (hh = 0 ∨ hh / 65536 ≤ (A'.births : Int)) ∧ A.births ≤ A'.births := by
  have hb : A.births < 268435455 := by have := h.born; omega
  have hL : A.L.length ≤ 60000 := by
    have h3 := length_le_used (fun x hx => (h.at_.ok.len x hx).1)
    have h4 := h.at_.ok.top
    have h5 := h.at_.ok.peak
    have h6 := h.at_.ok.cap
    omega
  have hres := lay_births hb hL ws
  have h64 : W64 (A.lay ws).2.1 := by rcases hres with ⟨_, _, _, h4⟩ | ⟨_, h2, _⟩; exact h4; rw [h2]; unfold W64; omega
  refine ⟨(A.lay ws).2.1, (A.lay ws).2.2, (A.lay ws).1, (sin_lay h (by omega) hv ha hw).mono ?_, lay_cap A ws, h64, ?_, ?_⟩
  · rintro e w' ⟨rfl, M', hs, hT, hf⟩
    have hown' : OwnI w' m n D := Lst.own_turn hown hT hm
    obtain ⟨cc, hrun, hat, _⟩ := hown'.lookup_int keyU mapI under_i64 (by kernel_rfl) (key_u64 _ h64)
    refine ⟨rfl, M', cc, hs, hown', fun hk => (hf m hk).elim hm (fun e => by omega), Nat.lt_of_lt_of_le hml hT.size, hrun, fun hff => ?_⟩
    rcases hres with ⟨_, h2, _, _⟩ | ⟨h1, _, _⟩
    · have hno : Maps.has D (.int .u64 (A.lay ws).2.1) = false := by
        cases hh : Maps.has D (.int .u64 (A.lay ws).2.1) with
        | false => rfl
        | true =>
          rcases hD _ hh with e | e
          · rw [e] at h2; simp at h2; omega
          · omega
      rw [atKey_of_not_has hno] at hat
      simpa using hat.symm
    · exact absurd hff h1
  · rcases hres with ⟨_, h2, h3, _⟩ | ⟨_, h2, _⟩
    · right; rw [h2, h3]; omega
    · left; exact h2
  · rcases hres with ⟨_, _, h3, _⟩ | ⟨_, _, h3⟩ <;> omega

/-- A handle that is gone: nothing that is done with it changes more than the faults. -/
structure Gone (w : World) (b nb m n Bo : Nat) (Mb : Mem) (A1 : Ar) (D : DataW Unit) (y : OpV) (j : Nat) (wc : World) : Prop where
  arena : ∃ M2 A2, Sin w b M2 A2 j wc ∧ (∀ q, q ∈ Mb.foot nb → q ∉ M2.foot b) ∧ A2.fixed = A1.fixed ∧ A2.L = A1.L ∧ A2.cap = A1.cap ∧ A2.births = A1.births ∧ m ∉ M2.foot b ∧ Bo ∉ M2.foot b
  twin : ArAt wc nb Mb A1
  gone : hasH A1.L y.h = false ∧ y.h ≠ 0
  own : OwnI wc m n D
  box : BoxOp wc Bo y
  ok : y.Ok
variable {w wc : World} {b nb m n Bo j : Nat} {Mb : Mem} {A1 : Ar} {D : DataW Unit} {y : OpV}
theorem Gone.step {w' : World} (h : Gone w b nb m n Bo Mb A1 D y j wc) (ht : Frm.Turn [] wc w') : Gone w b nb m n Bo Mb A1 D y j w' := by
  obtain ⟨M2, A2, h1, h2⟩ := h.arena
  exact ⟨⟨M2, A2, h1.step ht, h2⟩, h.twin.step ht, h.gone, Lst.own_turn h.own ht (by simp), h.box.turn ht (by simp), h.ok⟩
theorem Gone.miss {w' : World} {M2 : Mem} {A2 : Ar} (h : Gone w b nb m n Bo Mb A1 D y j wc) (h2 : ∀ q, q ∈ Mb.foot nb → q ∉ M2.foot b) (h3 : A2.fixed = A1.fixed) (h4 : A2.L = A1.L) (h5 : A2.cap = A1.cap) (h6 : A2.births = A1.births) (h7 : m ∉ M2.foot b) (h8 : Bo ∉ M2.foot b)
    (ha : After w b M2 A2.miss (j + 1) wc w') : Gone w b nb m n Bo Mb A1 D y (j + 1) w' := by
  obtain ⟨M', hs, hT, hf⟩ := ha
  have lt : ∀ {q}, q < wc.heap.size → q ∉ M2.foot b → q ∉ M'.foot b := fun hq hn hk => (hf _ hk).elim hn (fun e => by omega)
  have hmw : m < wc.heap.size := h.own.lt
  have hbw : Bo < wc.heap.size := (Array.getElem?_eq_some_iff.1 h.box).1
  exact ⟨⟨M', A2.miss, hs, fun q hq => lt (h.twin.lt q hq) (h2 q hq), h3, h4, h5, h6, lt hmw h7, lt hbw h8⟩, h.twin.turn hT h2, h.gone, Lst.own_turn h.own hT h7, h.box.turn hT h8, h.ok⟩
theorem gone_calls (h : Gone w b nb m n Bo Mb A1 D y j wc) (hj : j ≤ 10000000) :
    (Calls Try.prog 13 #[.pointer (some ⟨b, 0, none⟩), .agg #[.int .u64 y.h, .int .i64 0]] wc fun e w' => e = .returned (.tuple #[.int .u64 0, .int .i64 23]) ∧ Gone w b nb m n Bo Mb A1 D y (j + 1) w') ∧
    (Calls Try.prog 14 #[.pointer (some ⟨b, 0, none⟩), .agg #[.int .u64 y.h, .int .i64 0], .int .u64 y.n, .int .u64 y.m] wc fun e w' => e = .returned (.tuple #[.bool false, .int .i64 23]) ∧ Gone w b nb m n Bo Mb A1 D y (j + 1) w') ∧
    (Calls Try.prog 15 #[.pointer (some ⟨b, 0, none⟩), .agg #[.int .u64 y.h, .int .i64 0], .int .u64 1] wc fun e w' => e = .returned (.tuple #[.int .u64 0, .int .i64 23]) ∧ Gone w b nb m n Bo Mb A1 D y (j + 1) w') ∧
    (Calls Try.prog 17 #[.pointer (some ⟨b, 0, none⟩), .agg #[.int .u64 y.h, .int .i64 0], .int .u64 1] wc fun e w' => e = .returned (.int .i64 23) ∧ Gone w b nb m n Bo Mb A1 D y (j + 1) w') ∧
    (Calls Try.prog 16 #[.pointer (some ⟨b, 0, none⟩), .int .u64 y.h] wc fun e w' => e = .returned (.int .i64 23) ∧ Gone w b nb m n Bo Mb A1 D y (j + 1) w') ∧
    (Calls Try.prog 28 #[.pointer (some ⟨b, 0, none⟩), .pointer (some ⟨nb, 0, none⟩)] wc fun e w' => e = .returned (.bool true) ∧ Gone w b nb m n Bo Mb A1 D y j w') ∧
    (Calls Try.prog 23 #[.pointer (some ⟨b, 0, none⟩), .int .u64 y.h] wc fun e w' => e = .returned (.int .i64 0) ∧ wc = w') := by
  obtain ⟨M2, A2, h1, h2, h3, h4, h5, h6, h7, h8⟩ := h.arena
  have hk : hasH A2.L y.h = false := by rw [h4]; exact h.gone.1
  have k0 := h.gone.2
  have hb := h.ok.h
  refine ⟨?_, ?_, ?_, ?_, ?_, ?_, ?_⟩
  · exact (sin_read h1 (by omega) y.h 0 hb (by decide)).mono (by rw [gone_read hk k0]; rintro e w' ⟨he, ha⟩; exact ⟨he, h.miss h2 h3 h4 h5 h6 h7 h8 ha⟩)
  · exact (sin_swap h1 (by omega) y.h 0 y.n y.m hb (by decide) h.ok.m).mono (by rw [gone_swap hk k0]; rintro e w' ⟨he, ha⟩; exact ⟨he, h.miss h2 h3 h4 h5 h6 h7 h8 ha⟩)
  · exact (sin_add h1 (by omega) y.h 0 1 hb (by decide) (w64_small _ (by omega))).mono (by rw [gone_add hk k0]; rintro e w' ⟨he, ha⟩; exact ⟨he, h.miss h2 h3 h4 h5 h6 h7 h8 ha⟩)
  · exact (sin_write h1 (by omega) y.h 0 1 hb (by decide) (w64_small _ (by omega))).mono (by rw [gone_write hk k0]; rintro e w' ⟨he, ha⟩; exact ⟨he, h.miss h2 h3 h4 h5 h6 h7 h8 ha⟩)
  · exact (sin_free h1 (by omega) y.h hb).mono (by rw [gone_free hk]; rintro e w' ⟨he, ha⟩; exact ⟨he, h.miss h2 h3 h4 h5 h6 h7 h8 ha⟩)
  · exact (same_any h1.at_ h.twin).mono (by rw [sameAr_refl h.twin.ok h3 h4]; rintro e w' ⟨he, ht⟩; exact ⟨he, h.step ht⟩)
  · have e0 : A2.size y.h = 0 := by unfold Ar.size; rw [look_none.2 hk]; rfl
    have := size_any h1.at_ y.h hb
    rw [e0] at this
    exact this

end Arn
end Go.Proofs.Ytoghagapbhlfeaa
