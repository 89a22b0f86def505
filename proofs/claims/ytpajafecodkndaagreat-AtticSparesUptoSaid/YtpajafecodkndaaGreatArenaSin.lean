/- An arena that was made since a world, with its counters bounded: each call in one form, whatever it answers. -/
import Derived.Test.YtpajafecodkndaaGreatArenaBlocks
import Derived.Test.YtpajafecodkndaaGreatArenaCopy
import Derived.Laws.Rows
import Derived.Deep.WholeRow
import Derived.Laws.StructEq
set_option linter.unusedVariables false
set_option linter.unusedSimpArgs false
namespace Go.Proofs.YtpajafecodkndaaGreat
namespace Arn
open Go.RowKit Hp Go.Maps

structure Sin (w : World) (b : Nat) (M : Mem) (A : Ar) (n : Nat) (wc : World) : Prop where
  at_ : ArAt wc b M A
  new : ∀ k, k ∈ M.foot b → w.heap.size ≤ k
  turn : Frm.Turn [] w wc
  low : A.Low n
  born : A.births ≤ n
def After (w : World) (b : Nat) (M : Mem) (A' : Ar) (n : Nat) (wc w' : World) : Prop := ∃ M', Sin w b M' A' n w' ∧ Frm.Turn (M.foot b) wc w' ∧ ∀ k, k ∈ M'.foot b → k ∈ M.foot b ∨ wc.heap.size ≤ k
theorem Sin.step {w wc w' : World} {b n : Nat} {M : Mem} {A : Ar} (h : Sin w b M A n wc) (ht : Frm.Turn [] wc w') : Sin w b M A n w' := ⟨h.at_.step ht, h.new, h.turn.trans ht (by simp), h.low, h.born⟩
theorem Sin.apart {w wc w' : World} {b n : Nat} {M : Mem} {A : Ar} {G : List Nat} (h : Sin w b M A n wc) (ht : Frm.Turn G wc w') (hn : ∀ k, k ∈ M.foot b → k ∉ G) (hw : ∀ k, k ∈ G → w.heap.size ≤ k) : Sin w b M A n w' :=
  ⟨h.at_.turn ht hn, h.new, h.turn.trans ht (fun k hk => Or.inr (hw k hk)), h.low, h.born⟩
theorem Sin.more {w wc : World} {b n m : Nat} {M : Mem} {A : Ar} (h : Sin w b M A n wc) (hm : n ≤ m) : Sin w b M A m wc := ⟨h.at_, h.new, h.turn, h.low.mono hm, by have := h.born; omega⟩
theorem Sin.lows {w wc : World} {b n : Nat} {M : Mem} {A : Ar} (h : Sin w b M A n wc) (hn : n ≤ 100000000) : A.Low lim := h.low.mono (by unfold lim; omega)
theorem Sin.lt {w wc : World} {b n : Nat} {M : Mem} {A : Ar} (h : Sin w b M A n wc) {k : Nat} (hk : k ∈ M.foot b) : k < wc.heap.size := h.at_.lt k hk
theorem Sin.after {w wc w' : World} {b n m : Nat} {M : Mem} {A A' : Ar} (h : Sin w b M A n wc) (hl : LeftM b M A' wc w') (hL : A'.Low m) (hb : A'.births ≤ m) : After w b M A' m wc w' := by
  obtain ⟨M', h1, h2, h3⟩ := hl
  have hs := h.turn.size
  exact ⟨M', ⟨h1, fun k hk => (h3 k hk).elim (h.new k) (fun e => by omega), h.turn.trans h2 (fun k hk => Or.inr (h.new k hk)), hL, hb⟩, h2, h3⟩
theorem Sin.stay {w wc w' : World} {b n m : Nat} {M : Mem} {A : Ar} (h : Sin w b M A n wc) (ht : Frm.Turn [] wc w') (hm : n ≤ m) : After w b M A m wc w' :=
  ⟨M, (h.step ht).more hm, ht.mono (by simp), fun k hk => Or.inl hk⟩

theorem low_miss {A : Ar} {n : Nat} (h : A.Low n) : A.miss.Low (n + 1) := by
  obtain ⟨h0, h1, h2, h3, h4, h5, h6⟩ := h
  constructor <;> simp only [Ar.miss] <;> omega
theorem low_t {A A' : Ar} {n : Nat} (h : A.Low n) (e : A'.faults = A.faults) (l : A'.t.lays ≤ A.t.lays + 1) (f : A'.t.frees ≤ A.t.frees + 1) (r : A'.t.reads ≤ A.t.reads + 1) (wr : A'.t.writes ≤ A.t.writes + 1) (s : A'.t.swaps ≤ A.t.swaps + 1) (a : A'.t.adds ≤ A.t.adds + 1) : A'.Low (n + 1) := by
  obtain ⟨h0, h1, h2, h3, h4, h5, h6⟩ := h
  constructor <;> omega
theorem set_parts (A : Ar) (blk i v : Int) : (A.set blk i v).faults = A.faults ∧ (A.set blk i v).t = A.t ∧ (A.set blk i v).births = A.births ∧ (A.set blk i v).cap = A.cap ∧ (A.set blk i v).peak = A.peak := by
  unfold Ar.set; split <;> exact ⟨rfl, rfl, rfl, rfl, rfl⟩
theorem low_lay {A : Ar} {n : Nat} (h : A.Low n) (hb : A.births ≤ n) (ws : List Int) : (A.lay ws).1.Low (n + 1) ∧ (A.lay ws).1.births ≤ n + 1 := by
  unfold Ar.lay
  split
  · exact ⟨h.mono (by omega), by show A.births ≤ _; omega⟩
  split
  · exact ⟨h.mono (by omega), by show A.births ≤ _; omega⟩
  · exact ⟨low_t h rfl (Nat.le_refl _) (Nat.le_succ _) (Nat.le_succ _) (Nat.le_succ _) (Nat.le_succ _) (Nat.le_succ _), by show A.births + 1 ≤ _; omega⟩
theorem low_free {A : Ar} {n : Nat} (h : A.Low n) (hb : A.births ≤ n) (k : Int) : (A.free k).1.Low (n + 1) ∧ (A.free k).1.births ≤ n + 1 := by
  unfold Ar.free
  split
  · exact ⟨low_t h rfl (Nat.le_succ _) (Nat.le_refl _) (Nat.le_succ _) (Nat.le_succ _) (Nat.le_succ _) (Nat.le_succ _), by show A.births ≤ _; omega⟩
  · exact ⟨low_miss h, by show A.births ≤ _; omega⟩
theorem low_read {A : Ar} {n : Nat} (h : A.Low n) (hb : A.births ≤ n) (blk i : Int) : (A.read blk i).1.Low (n + 1) ∧ (A.read blk i).1.births ≤ n + 1 := by
  unfold Ar.read
  split
  · exact ⟨low_t h rfl (Nat.le_succ _) (Nat.le_succ _) (Nat.le_refl _) (Nat.le_succ _) (Nat.le_succ _) (Nat.le_succ _), by show A.births ≤ _; omega⟩
  · exact ⟨low_miss h, by show A.births ≤ _; omega⟩
theorem low_write {A : Ar} {n : Nat} (h : A.Low n) (hb : A.births ≤ n) (blk i v : Int) : (A.write blk i v).1.Low (n + 1) ∧ (A.write blk i v).1.births ≤ n + 1 := by
  obtain ⟨e1, e2, e3, _⟩ := set_parts A blk i v
  unfold Ar.write
  split
  · exact ⟨low_t h e1 (by simp [e2]) (by simp [e2]) (by simp [e2]) (by simp [e2]) (by simp [e2]) (by simp [e2]), by show (A.set blk i v).births ≤ _; rw [e3]; omega⟩
  · exact ⟨low_miss h, by show A.births ≤ _; omega⟩
theorem low_swap {A : Ar} {n : Nat} (h : A.Low n) (hb : A.births ≤ n) (blk i o v : Int) : (A.swap blk i o v).1.Low (n + 1) ∧ (A.swap blk i o v).1.births ≤ n + 1 := by
  obtain ⟨e1, e2, e3, _⟩ := set_parts A blk i v
  unfold Ar.swap
  split
  · split
    · exact ⟨low_t h e1 (by simp [e2]) (by simp [e2]) (by simp [e2]) (by simp [e2]) (by simp [e2]) (by simp [e2]), by show (A.set blk i v).births ≤ _; rw [e3]; omega⟩
    · exact ⟨low_t h rfl (Nat.le_succ _) (Nat.le_succ _) (Nat.le_succ _) (Nat.le_succ _) (Nat.le_refl _) (Nat.le_succ _), by show A.births ≤ _; omega⟩
  · exact ⟨low_miss h, by show A.births ≤ _; omega⟩
theorem low_add {A : Ar} {n : Nat} (h : A.Low n) (hb : A.births ≤ n) (blk i v : Int) : (A.add blk i v).1.Low (n + 1) ∧ (A.add blk i v).1.births ≤ n + 1 := by
  obtain ⟨e1, e2, e3, _⟩ := set_parts A blk i ((A.get blk i + v) % 18446744073709551616)
  unfold Ar.add
  split
  · exact ⟨low_t h e1 (by simp [e2]) (by simp [e2]) (by simp [e2]) (by simp [e2]) (by simp [e2]) (by simp [e2]), by show (A.set blk i _).births ≤ _; rw [e3]; omega⟩
  · exact ⟨low_miss h, by show A.births ≤ _; omega⟩

variable {w wc : World} {b n : Nat} {M : Mem} {A : Ar}
theorem sin_lay (h : Sin w b M A n wc) (hn : n ≤ 100000000) {v : Value} {ws : List Int} (hv : WordsAt wc v ws) (ha : ws ≠ [] → ∀ k, v.ownBlock = some k → k ∉ M.foot b) (hw : ∀ x, x ∈ ws → W64 x) :
    Calls Tryz.prog 10 #[.pointer (some ⟨b, 0, none⟩), v] wc fun e w' => e = .returned (.tuple #[.int .u64 (A.lay ws).2.1, .int .i64 (A.lay ws).2.2]) ∧ After w b M (A.lay ws).1 (n + 1) wc w' := by
  obtain ⟨hL, hB⟩ := low_lay h.low h.born ws
  have hshape : ∃ ao c, v = .slice ao ws.length c := by
    rcases hv with ⟨rfl, rfl⟩ | ⟨a, c, rfl, _⟩
    · exact ⟨none, 0, rfl⟩
    · exact ⟨_, c, rfl⟩
  by_cases h1 : ws.length < 1 ∨ 2048 < ws.length
  · obtain ⟨ao, c, rfl⟩ := hshape
    refine (lay_arg b ao ws.length c wc h1).mono ?_
    rintro e w' ⟨rfl, rfl⟩
    have e1 : A.lay ws = (A, 0, 2) := by unfold Ar.lay; rw [if_pos h1]
    rw [e1]
    exact ⟨rfl, h.stay (Frm.Turn.refl [] _) (by omega)⟩
  · by_cases h2 : A.cap < used A.L + ws.length
    · obtain ⟨ao, c, rfl⟩ := hshape
      refine (lay_room h.at_ ao ws.length c (by omega) (by omega) h2).mono ?_
      rintro e w' ⟨rfl, hT⟩
      have e1 : A.lay ws = (A, 0, 20) := by unfold Ar.lay; rw [if_neg h1, if_pos h2]
      rw [e1]
      exact ⟨rfl, h.stay hT (by omega)⟩
    · rcases hv with ⟨rfl, rfl⟩ | ⟨a, c, rfl, hc⟩
      · exact absurd (Or.inl (by simp)) h1
      · refine (lay_yes h.at_ (h.lows hn) a c ws hc (ha (by intro e; simp [e] at h1) a.block rfl) (by omega) (by omega) (by omega) (by have := h.born; omega) hw).mono ?_
        rintro e w' ⟨rfl, hT⟩
        have e2 : (A.lay ws).2 = (layH A, 0) := by rw [lay_eq (by omega) (by omega) (by omega)]
        rw [e2]
        exact ⟨rfl, h.after hT hL hB⟩
theorem sin_free (h : Sin w b M A n wc) (hn : n ≤ 100000000) (k : Int) (hk : W64 k) :
    Calls Tryz.prog 180 #[.pointer (some ⟨b, 0, none⟩), .int .u64 k] wc fun e w' => e = .returned (.int .i64 (A.free k).2) ∧ After w b M (A.free k).1 (n + 1) wc w' := by
  obtain ⟨hL, hB⟩ := low_free h.low h.born k
  cases hh : hasH A.L k with
  | false =>
    refine (free_gone h.at_ (h.lows hn) k hk hh).mono ?_
    rintro e w' ⟨rfl, hT⟩
    have e1 : A.free k = (A.miss, 23) := by unfold Ar.free; rw [hh]; rfl
    rw [e1] at hL hB ⊢
    exact ⟨rfl, h.after hT.m hL hB⟩
  | true =>
    refine (free_live h.at_ (h.lows hn) k hk hh).mono ?_
    rintro e w' ⟨rfl, hT⟩
    have e2 : (A.free k).2 = 0 := by unfold Ar.free; rw [hh]; rfl
    rw [e2]
    exact ⟨rfl, h.after hT hL hB⟩
theorem sin_read (h : Sin w b M A n wc) (hn : n ≤ 100000000) (blk i : Int) (hb : W64 blk) (hi : (Lit.int .i64 i).wf = true) :
    Calls Tryz.prog 58 #[.pointer (some ⟨b, 0, none⟩), .agg #[.int .u64 blk, .int .i64 i]] wc fun e w' =>
      e = .returned (.tuple #[.int .u64 (A.read blk i).2.1, .int .i64 (A.read blk i).2.2]) ∧ After w b M (A.read blk i).1 (n + 1) wc w' :=
  (read_any h.at_ (h.lows hn) blk i hb hi).mono fun e w' ⟨he, hT⟩ => ⟨he, h.after hT.m (low_read h.low h.born blk i).1 (low_read h.low h.born blk i).2⟩
theorem sin_write (h : Sin w b M A n wc) (hn : n ≤ 100000000) (blk i v : Int) (hb : W64 blk) (hi : (Lit.int .i64 i).wf = true) (hv : W64 v) :
    Calls Tryz.prog 15 #[.pointer (some ⟨b, 0, none⟩), .agg #[.int .u64 blk, .int .i64 i], .int .u64 v] wc fun e w' =>
      e = .returned (.int .i64 (A.write blk i v).2) ∧ After w b M (A.write blk i v).1 (n + 1) wc w' :=
  (write_any h.at_ (h.lows hn) blk i v hb hi hv).mono fun e w' ⟨he, hT⟩ => ⟨he, h.after hT.m (low_write h.low h.born blk i v).1 (low_write h.low h.born blk i v).2⟩
theorem sin_swap (h : Sin w b M A n wc) (hn : n ≤ 100000000) (blk i o v : Int) (hb : W64 blk) (hi : (Lit.int .i64 i).wf = true) (hv : W64 v) :
    Calls Tryz.prog 218 #[.pointer (some ⟨b, 0, none⟩), .agg #[.int .u64 blk, .int .i64 i], .int .u64 o, .int .u64 v] wc fun e w' =>
      e = .returned (.tuple #[.bool (A.swap blk i o v).2.1, .int .i64 (A.swap blk i o v).2.2]) ∧ After w b M (A.swap blk i o v).1 (n + 1) wc w' :=
  (swap_any h.at_ (h.lows hn) blk i o v hb hi hv).mono fun e w' ⟨he, hT⟩ => ⟨he, h.after hT.m (low_swap h.low h.born blk i o v).1 (low_swap h.low h.born blk i o v).2⟩
theorem sin_add (h : Sin w b M A n wc) (hn : n ≤ 100000000) (blk i v : Int) (hb : W64 blk) (hi : (Lit.int .i64 i).wf = true) (hv : W64 v) :
    Calls Tryz.prog 101 #[.pointer (some ⟨b, 0, none⟩), .agg #[.int .u64 blk, .int .i64 i], .int .u64 v] wc fun e w' =>
      e = .returned (.tuple #[.int .u64 (A.add blk i v).2.1, .int .i64 (A.add blk i v).2.2]) ∧ After w b M (A.add blk i v).1 (n + 1) wc w' :=
  (add_any h.at_ (h.lows hn) blk i v hb hi hv).mono fun e w' ⟨he, hT⟩ => ⟨he, h.after hT.m (low_add h.low h.born blk i v).1 (low_add h.low h.born blk i v).2⟩
theorem sin_new (cap : Nat) (w : World) (hc : cap ≤ 60000) :
    Calls Tryz.prog 59 #[.int .i64 (cap : Int)] w fun e w' => ∃ b M, e = .returned (.tuple #[.pointer (some ⟨b, 0, none⟩), .int .i64 0]) ∧ Sin w b M (Ar.new cap) 0 w' :=
  (new_yes cap w hc).mono fun e w' ⟨b, M, he, h1, h2, h3⟩ => ⟨b, M, he, h1, h2, h3, ⟨Nat.le_refl _, Nat.le_refl _, Nat.le_refl _, Nat.le_refl _, Nat.le_refl _, Nat.le_refl _, Nat.le_refl _⟩, Nat.le_refl _⟩
end Arn
end Go.Proofs.YtpajafecodkndaaGreat
