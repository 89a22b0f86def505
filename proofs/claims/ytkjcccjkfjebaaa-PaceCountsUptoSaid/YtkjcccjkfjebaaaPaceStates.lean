/- Machines beside their arena, and beside blocks that they leave alone. -/
import Derived.Test.YtkjcccjkfjebaaaPaceLays2
import Derived.Test.YtkjcccjkfjebaaaPaceLays3
set_option linter.unusedVariables false
set_option linter.unusedSimpArgs false
namespace Go.Proofs.Ytkjcccjkfjebaaa
namespace Pac
open Go.RowKit Go.Maps Arn

/-- Only blocks that were made since w have turned, and none of K. -/
def Aside (w : World) (K : List Nat) (W W' : World) : Prop := ∃ F, Frm.Turn F W W' ∧ (∀ k, k ∈ K → k ∉ F) ∧ ∀ k, k ∈ F → w.heap.size ≤ k
theorem Aside.refl (w : World) (K : List Nat) (W : World) : Aside w K W W := ⟨[], Frm.Turn.refl [] _, by simp, by simp⟩
theorem Aside.of {w W W' : World} (K : List Nat) (h : Frm.Turn [] W W') : Aside w K W W' := ⟨[], h, by simp, by simp⟩
/-- A machine with its own footprint F, beside an arena; K: blocks that it leaves alone. -/
def Mach (w : World) (b : Nat) (K : List Nat) (A : Ar) (n : Nat) (P : List Nat → World → Prop) (W : World) : Prop :=
  ∃ M F, Sin w b M A n W ∧ P F W ∧ (∀ k, k ∈ F → k ∉ M.foot b ∧ w.heap.size ≤ k ∧ k < W.heap.size) ∧ (∀ k, k ∈ K → k ∉ M.foot b ∧ k ∉ F ∧ k < W.heap.size)
/-- What stays when nothing of its footprint turns. -/
def Stays (P : List Nat → World → Prop) : Prop := ∀ F G W W', P F W → Frm.Turn G W W' → (∀ k, k ∈ F → k ∉ G) → P F W'
variable {w W W' : World} {b n : Nat} {K : List Nat} {A : Ar} {P : List Nat → World → Prop}
theorem Mach.low (h : Mach w b K A n P W) : A.Low n ∧ A.births ≤ n ∧ A.Ok := by obtain ⟨M, F, hs, _⟩ := h; exact ⟨hs.low, hs.born, hs.at_.ok⟩
theorem Mach.turn (h : Mach w b K A n P W) : Frm.Turn [] w W := by obtain ⟨M, F, hs, _⟩ := h; exact hs.turn
theorem Mach.own (hP : Stays P) (h : Mach w b K A n P W) {G K' : List Nat} (ht : Frm.Turn G W W') (hG : ∀ k, k ∈ G → k ∈ K ∧ w.heap.size ≤ k ∨ W.heap.size ≤ k) (hK : ∀ k, k ∈ K' → (k ∈ K ∨ W.heap.size ≤ k) ∧ k < W'.heap.size) : Mach w b K' A n P W' := by
  obtain ⟨M, F, hs, hp, hF, hk⟩ := h
  have hsz := ht.size
  refine ⟨M, F, hs.apart ht (fun k hk1 hk2 => ?_) (fun k hk1 => ?_), hP _ _ _ _ hp ht (fun k hk1 hk2 => ?_), fun k hk1 => ⟨(hF k hk1).1, (hF k hk1).2.1, by have := (hF k hk1).2.2; omega⟩, fun k hk1 => ?_⟩
  · rcases hG k hk2 with h1 | h1
    · exact (hk k h1.1).1 hk1
    · have := hs.lt hk1; omega
  · rcases hG k hk1 with h1 | h1
    · exact h1.2
    · have := hs.turn.size; omega
  · rcases hG k hk2 with h1 | h1
    · exact (hk k h1.1).2.1 hk1
    · have := (hF k hk1).2.2; omega
  · obtain ⟨h1, h2⟩ := hK k hk1
    rcases h1 with h1 | h1
    · exact ⟨(hk k h1).1, (hk k h1).2.1, h2⟩
    · exact ⟨fun h3 => by have := hs.lt h3; omega, fun h3 => by have := (hF k h3).2.2; omega, h2⟩
theorem Mach.step (hP : Stays P) (h : Mach w b K A n P W) (ht : Frm.Turn [] W W') : Mach w b K A n P W' := by
  obtain ⟨M, F, hs, hp, hF, hk⟩ := h
  have hsz := ht.size
  exact ⟨M, F, hs.step ht, hP _ _ _ _ hp ht (by simp), fun k hk1 => ⟨(hF k hk1).1, (hF k hk1).2.1, by have := (hF k hk1).2.2; omega⟩, fun k hk1 => ⟨(hk k hk1).1, (hk k hk1).2.1, by have := (hk k hk1).2.2; omega⟩⟩
theorem Mach.more {m : Nat} (h : Mach w b K A n P W) (hm : n ≤ m) : Mach w b K A m P W := by
  obtain ⟨M, F, hs, hp, hF, hk⟩ := h
  exact ⟨M, F, hs.more hm, hp, hF, hk⟩
/-- Something is done to the arena. -/
theorem Mach.acts (hP : Stays P) {A' : Ar} {m : Nat} {f : FuncId} {args : Array Value} {R : Ending → Prop} (h : Mach w b K A n P W) (hc : ∀ M, Sin w b M A n W → Calls Try.prog f args W fun e w' => R e ∧ After w b M A' m W w') :
    Calls Try.prog f args W fun e w' => R e ∧ Mach w b K A' m P w' ∧ Aside w K W w' := by
  obtain ⟨M, F, hs, hp, hF, hk⟩ := h
  refine (hc M hs).mono ?_
  rintro e w' ⟨hr, M', hs', hT, hf⟩
  have hsz := hT.size
  refine ⟨hr, ⟨M', F, hs', hP _ _ _ _ hp hT (fun k hk1 => (hF k hk1).1), fun k hk1 => ⟨fun h3 => ?_, (hF k hk1).2.1, by have := (hF k hk1).2.2; omega⟩, fun k hk1 => ⟨fun h3 => ?_, (hk k hk1).2.1, by have := (hk k hk1).2.2; omega⟩⟩, ⟨_, hT, fun k hk1 => (hk k hk1).1, fun k hk1 => hs.new k hk1⟩⟩
  · rcases hf k h3 with h4 | h4
    · exact (hF k hk1).1 h4
    · have := (hF k hk1).2.2; omega
  · rcases hf k h3 with h4 | h4
    · exact (hk k hk1).1 h4
    · have := (hk k hk1).2.2; omega

/-! ### reads -/
def RdP (r b : Nat) (L : List (Int × Int)) (Wd : List Int) (F : List Nat) (W : World) : Prop := ∃ lv wv, RdAt W r b L Wd lv wv ∧ F = rdFoot r lv wv
theorem rd_stays (r b : Nat) (L : List (Int × Int)) (Wd : List Int) : Stays (RdP r b L Wd) := by
  rintro F G W W' ⟨lv, wv, h, rfl⟩ ht hn
  exact ⟨lv, wv, h.turn ht hn, rfl⟩
/-- No machine. -/
def Bare : List Nat → World → Prop := fun F _ => F = []
theorem bare_stays : Stays Bare := fun F G W W' h _ _ => h
theorem mach_bare {M : Mem} {A : Ar} (h : Sin w b M A n W) (hK : ∀ k, k ∈ K → k ∉ M.foot b ∧ k < W.heap.size) : Mach w b K A n Bare W :=
  ⟨M, [], h, rfl, by simp, fun k hk => ⟨(hK k hk).1, by simp, (hK k hk).2⟩⟩
/-- What a step of a machine leaves, in one form. -/
theorem mach_after {M : Mem} {F : List Nat} {A' : Ar} {m : Nat} {Q : List Nat → World → Prop} {M' : Mem} {F' : List Nat} (hs : Sin w b M A n W) (hF : ∀ k, k ∈ F → k ∉ M.foot b ∧ w.heap.size ≤ k ∧ k < W.heap.size) (hk : ∀ k, k ∈ K → k ∉ M.foot b ∧ k ∉ F ∧ k < W.heap.size)
    (hs' : Sin w b M' A' m W') (hq : Q F' W') (hd' : ∀ k, k ∈ F' → k ∉ M'.foot b ∧ w.heap.size ≤ k) (hT : Frm.Turn (M.foot b ++ F) W W') (hf : ∀ k, k ∈ M'.foot b → k ∈ M.foot b ∨ W.heap.size ≤ k) (hff : ∀ k, k ∈ F' → k ∈ F ∨ (W.heap.size ≤ k ∧ k < W'.heap.size)) :
    Mach w b K A' m Q W' ∧ Aside w K W W' := by
  have hsz := hT.size
  refine ⟨⟨M', F', hs', hq, fun k hk1 => ⟨(hd' k hk1).1, (hd' k hk1).2, ?_⟩, fun k hk1 => ⟨fun h3 => ?_, fun h3 => ?_, by have := (hk k hk1).2.2; omega⟩⟩, ⟨_, hT, fun k hk1 h3 => ?_, fun k hk1 => ?_⟩⟩
  · rcases hff k hk1 with h2 | h2
    · have := (hF k h2).2.2; omega
    · exact h2.2
  · rcases hf k h3 with h4 | h4
    · exact (hk k hk1).1 h4
    · have := (hk k hk1).2.2; omega
  · rcases hff k h3 with h4 | h4
    · exact (hk k hk1).2.1 h4
    · have := (hk k hk1).2.2; omega
  · rcases List.mem_append.1 h3 with h4 | h4
    · exact (hk k hk1).1 h4
    · exact (hk k hk1).2.1 h4
  · rcases List.mem_append.1 hk1 with h4 | h4
    · exact hs.new k h4
    · exact (hF k h4).2.1
/-- A machine is made. -/
theorem mach_new {Q : List Nat → World → Prop} {F' : List Nat} (h : Mach w b K A n Bare W) (hq : Q F' W') (hF : ∀ k, k ∈ F' → W.heap.size ≤ k ∧ k < W'.heap.size) (hT : Frm.Turn [] W W') : Mach w b K A n Q W' := by
  obtain ⟨M, F, hs, rfl, hF0, hk⟩ := h
  have hsz := hT.size
  have hw := hs.turn.size
  exact ⟨M, F', hs.step hT, hq, fun k hk1 => ⟨fun h3 => by have := hs.lt h3; have := (hF k hk1).1; omega, by have := (hF k hk1).1; omega, (hF k hk1).2⟩, fun k hk1 => ⟨(hk k hk1).1, fun h3 => by have := (hF k h3).1; have := (hk k hk1).2.2; omega, by have := (hk k hk1).2.2; omega⟩⟩
theorem rd_step {r : Nat} {blk i : Int} {L : List (Int × Int)} {Wd : List Int} (h : Mach w b K A n (RdP r b ((blk, i) :: L) Wd) W) (hn : n ≤ 10000000) (hW : Wd.length ≤ 60000) (hL : L.length ≤ 60000) (hb : W64 blk) (hi : (Lit.int .i64 i).wf = true) :
    Calls Try.prog 53 #[.pointer (some ⟨r, 0, none⟩)] W fun e w' => e = .returned (.tuple #[]) ∧ Mach w b K (A.read blk i).1 (n + 1) (RdP r b L (Wd ++ [(A.read blk i).2.1])) w' ∧ Aside w K W w' := by
  obtain ⟨M, F, hs, ⟨lv, wv, hr, rfl⟩, hF, hk⟩ := h
  refine (rstep_more hs hn hr (fun k hk1 => ⟨(hF k hk1).1, (hF k hk1).2.1⟩) hW hL hb hi).mono ?_
  rintro e w' ⟨rfl, M', lv', wv', hs', hr', hd', hT, hf, hff⟩
  exact ⟨rfl, mach_after hs hF hk hs' ⟨lv', wv', hr', rfl⟩ hd' hT hf hff⟩
theorem rd_new (v : Value) (L : List (Int × Int)) (h : Mach w b K A n Bare W) (hv : AddrsAt W v L) (hL : L.length ≤ 60000) :
    Calls Try.prog 44 #[.pointer (some ⟨b, 0, none⟩), v] W fun e w' => ∃ r, e = .returned (.pointer (some ⟨r, 0, none⟩)) ∧ Mach w b K A n (RdP r b L []) w' ∧ Frm.Turn [] W w' :=
  (newReads_any b v L W hv hL).mono fun e w' ⟨r, lv, he, hr, hF, hT⟩ => ⟨r, he, mach_new h ⟨lv, _, hr, rfl⟩ hF hT, hT⟩
theorem rd_none {r : Nat} {Wd : List Int} (h : Mach w b K A n (RdP r b [] Wd) W) : Calls Try.prog 53 #[.pointer (some ⟨r, 0, none⟩)] W fun e w' => e = .returned (.tuple #[]) ∧ w' = W := by
  obtain ⟨M, F, hs, ⟨lv, wv, hr, rfl⟩, hF, hk⟩ := h
  exact rstep_none hr
theorem rd_done_is {r : Nat} {L : List (Int × Int)} {Wd : List Int} (h : Mach w b K A n (RdP r b L Wd) W) : Calls Try.prog 56 #[.pointer (some ⟨r, 0, none⟩)] W fun e w' => e = .returned (.bool (decide (L.length = 0))) ∧ W = w' := by
  obtain ⟨M, F, hs, ⟨lv, wv, hr, rfl⟩, hF, hk⟩ := h
  exact rdone_any hr
theorem rd_words_is {r : Nat} {L : List (Int × Int)} {Wd : List Int} (h : Mach w b K A n (RdP r b L Wd) W) (hW : Wd.length ≤ 65536) : Calls Try.prog 55 #[.pointer (some ⟨r, 0, none⟩)] W (UCloneOf W Wd) := by
  obtain ⟨M, F, hs, ⟨lv, wv, hr, rfl⟩, hF, hk⟩ := h
  exact rwords_any hr hW
/-- A machine that rests: its blocks are aside. -/
theorem rd_rest {r : Nat} {L : List (Int × Int)} {Wd : List Int} (h : Mach w b K A n (RdP r b L Wd) W) : ∃ lv wv, RdAt W r b L Wd lv wv ∧ Mach w b (rdFoot r lv wv ++ K) A n Bare W := by
  obtain ⟨M, F, hs, ⟨lv, wv, hr, rfl⟩, hF, hk⟩ := h
  refine ⟨lv, wv, hr, mach_bare hs (fun k hk1 => ?_)⟩
  rcases List.mem_append.1 hk1 with h1 | h1
  · exact ⟨(hF k h1).1, (hF k h1).2.2⟩
  · exact ⟨(hk k h1).1, (hk k h1).2.2⟩

/-! ### frees -/
def FrP (r b : Nat) (L : List Int) (F : List Nat) (W : World) : Prop := ∃ lv, FrAt W r b L lv ∧ F = frFoot r lv
theorem fr_stays (r b : Nat) (L : List Int) : Stays (FrP r b L) := by
  rintro F G W W' ⟨lv, h, rfl⟩ ht hn
  exact ⟨lv, h.turn ht hn, rfl⟩
theorem fr_step {r : Nat} {h0 : Int} {L : List Int} (h : Mach w b K A n (FrP r b (h0 :: L)) W) (hn : n ≤ 10000000) (hL : L.length ≤ 60000) (hb : W64 h0) :
    Calls Try.prog 80 #[.pointer (some ⟨r, 0, none⟩)] W fun e w' => e = .returned (.tuple #[]) ∧ Mach w b K (A.free h0).1 (n + 1) (FrP r b L) w' ∧ Aside w K W w' := by
  obtain ⟨M, F, hs, ⟨lv, hr, rfl⟩, hF, hk⟩ := h
  refine (fstep_more hs hn hr (fun k hk1 => ⟨(hF k hk1).1, (hF k hk1).2.1⟩) hL hb).mono ?_
  rintro e w' ⟨rfl, M', lv', hs', hr', hd', hT, hf, hff⟩
  exact ⟨rfl, mach_after hs hF hk hs' ⟨lv', hr', rfl⟩ hd' hT hf (fun k hk1 => .inl (hff k hk1))⟩
theorem fr_new (v : Value) (L : List Int) (h : Mach w b K A n Bare W) (hv : WordsAt W v L) (hL : L.length ≤ 60000) :
    Calls Try.prog 79 #[.pointer (some ⟨b, 0, none⟩), v] W fun e w' => ∃ r, e = .returned (.pointer (some ⟨r, 0, none⟩)) ∧ Mach w b K A n (FrP r b L) w' ∧ Frm.Turn [] W w' :=
  (newFrees_any b v L W hv hL).mono fun e w' ⟨r, lv, he, hr, hF, hT⟩ => ⟨r, he, mach_new h ⟨lv, hr, rfl⟩ hF hT, hT⟩
theorem fr_none {r : Nat} (h : Mach w b K A n (FrP r b []) W) : Calls Try.prog 80 #[.pointer (some ⟨r, 0, none⟩)] W fun e w' => e = .returned (.tuple #[]) ∧ w' = W := by
  obtain ⟨M, F, hs, ⟨lv, hr, rfl⟩, hF, hk⟩ := h
  exact fstep_none hr
theorem fr_done_is {r : Nat} {L : List Int} (h : Mach w b K A n (FrP r b L) W) : Calls Try.prog 82 #[.pointer (some ⟨r, 0, none⟩)] W fun e w' => e = .returned (.bool (decide (L.length = 0))) ∧ W = w' := by
  obtain ⟨M, F, hs, ⟨lv, hr, rfl⟩, hF, hk⟩ := h
  exact fdone_any hr
theorem fr_left_is {r : Nat} {L : List Int} (h : Mach w b K A n (FrP r b L) W) (hL : L.length ≤ 65536) : Calls Try.prog 81 #[.pointer (some ⟨r, 0, none⟩)] W (UCloneOf W L) := by
  obtain ⟨M, F, hs, ⟨lv, hr, rfl⟩, hF, hk⟩ := h
  exact fleft_any hr hL
theorem fr_rest {r : Nat} {L : List Int} (h : Mach w b K A n (FrP r b L) W) : ∃ lv, FrAt W r b L lv ∧ Mach w b (frFoot r lv ++ K) A n Bare W := by
  obtain ⟨M, F, hs, ⟨lv, hr, rfl⟩, hF, hk⟩ := h
  refine ⟨lv, hr, mach_bare hs (fun k hk1 => ?_)⟩
  rcases List.mem_append.1 hk1 with h1 | h1
  · exact ⟨(hF k h1).1, (hF k h1).2.2⟩
  · exact ⟨(hk k h1).1, (hk k h1).2.2⟩

/-! ### lays -/
def LyP (r b : Nat) (Q : List (List Int)) (H : List Int) (ee : Int) (F : List Nat) (W : World) : Prop := ∃ lv hv R, LyAt W r b R H ee lv hv ∧ R.map Prod.snd = Q ∧ F = lyFoot r lv hv R
theorem ly_stays (r b : Nat) (Q : List (List Int)) (H : List Int) (ee : Int) : Stays (LyP r b Q H ee) := by
  rintro F G W W' ⟨lv, hv, R, h, hq, rfl⟩ ht hn
  exact ⟨lv, hv, R, h.turn ht hn, hq, rfl⟩
def lyQ (A : Ar) (ws : List Int) (Q : List (List Int)) : List (List Int) := if (A.lay ws).2.2 = 0 then Q else []
theorem ly_step {r : Nat} {ws : List Int} {Q : List (List Int)} {H : List Int} {e0 : Int} (h : Mach w b K A n (LyP r b (ws :: Q) H e0) W) (hn : n ≤ 10000000) (hH : H.length ≤ 60000) (hQ : Q.length ≤ 60000) (hw : ∀ x, x ∈ ws → W64 x) :
    Calls Try.prog 77 #[.pointer (some ⟨r, 0, none⟩)] W fun e w' => e = .returned (.tuple #[]) ∧ Mach w b K (A.lay ws).1 (n + 1) (LyP r b (lyQ A ws Q) (lyH A ws H) (A.lay ws).2.2) w' ∧ Aside w K W w' := by
  obtain ⟨M, F, hs, ⟨lv, hv, R, hr, hq, rfl⟩, hF, hk⟩ := h
  cases R with
  | nil => simp at hq
  | cons x R =>
    obtain ⟨v, ws'⟩ := x
    simp at hq
    obtain ⟨rfl, rfl⟩ := hq
    refine (lstep_more hs hn hr (fun k hk1 => ⟨(hF k hk1).1, (hF k hk1).2.1⟩) (fun k hk1 => (hF k (mem_lfoot.2 (.inr (.inr (.inr hk1))))).2.2) hH (by simpa using hQ) hw).mono ?_
    rintro e w' ⟨rfl, M', lv', hv', hs', hr', hd', hT, hf, hff⟩
    refine ⟨rfl, mach_after hs hF hk hs' ⟨lv', hv', _, hr', ?_, rfl⟩ hd' hT hf hff⟩
    unfold lyL lyQ
    split
    · rfl
    · rfl
theorem ly_new (v : Value) (R0 : List RowV) (h : Mach w b K A n Bare W) (hv : RowsAt W v R0) (hL : R0.length ≤ 60000) (hW : ∀ x, x ∈ R0 → x.2.length ≤ 60000) :
    Calls Try.prog 76 #[.pointer (some ⟨b, 0, none⟩), v] W fun e w' => ∃ r, e = .returned (.pointer (some ⟨r, 0, none⟩)) ∧ Mach w b K A n (LyP r b (R0.map Prod.snd) [] 0) w' ∧ Frm.Turn [] W w' :=
  (newLays_any b v R0 W hv hL hW).mono fun e w' ⟨r, lv, R, he, hq, hr, hF, hT⟩ => ⟨r, he, mach_new h ⟨lv, _, R, hr, hq, rfl⟩ hF hT, hT⟩
theorem ly_none {r : Nat} {H : List Int} {e0 : Int} (h : Mach w b K A n (LyP r b [] H e0) W) : Calls Try.prog 77 #[.pointer (some ⟨r, 0, none⟩)] W fun e w' => e = .returned (.tuple #[]) ∧ w' = W := by
  obtain ⟨M, F, hs, ⟨lv, hv, R, hr, hq, rfl⟩, hF, hk⟩ := h
  obtain rfl := List.map_eq_nil_iff.1 hq
  exact lstep_none hr
theorem ly_done_is {r : Nat} {Q : List (List Int)} {H : List Int} {e0 : Int} (h : Mach w b K A n (LyP r b Q H e0) W) : Calls Try.prog 78 #[.pointer (some ⟨r, 0, none⟩)] W fun e w' => e = .returned (.bool (decide (Q.length = 0))) ∧ W = w' := by
  obtain ⟨M, F, hs, ⟨lv, hv, R, hr, rfl, rfl⟩, hF, hk⟩ := h
  rw [List.length_map]
  exact ldone_any hr
theorem ly_handles_is {r : Nat} {Q : List (List Int)} {H : List Int} {e0 : Int} (h : Mach w b K A n (LyP r b Q H e0) W) (hH : H.length ≤ 65536) : Calls Try.prog 51 #[.pointer (some ⟨r, 0, none⟩)] W (HCloneOf W H) := by
  obtain ⟨M, F, hs, ⟨lv, hv, R, hr, hq, rfl⟩, hF, hk⟩ := h
  exact lhandles_any hr hH
theorem ly_err_is {r : Nat} {Q : List (List Int)} {H : List Int} {e0 : Int} (h : Mach w b K A n (LyP r b Q H e0) W) : Calls Try.prog 50 #[.pointer (some ⟨r, 0, none⟩)] W fun e w' => e = .returned (.int .i64 e0) ∧ W = w' := by
  obtain ⟨M, F, hs, ⟨lv, hv, R, hr, hq, rfl⟩, hF, hk⟩ := h
  exact lerr_any hr
theorem ly_rest {r : Nat} {Q : List (List Int)} {H : List Int} {e0 : Int} (h : Mach w b K A n (LyP r b Q H e0) W) : ∃ F, LyP r b Q H e0 F W ∧ Mach w b (F ++ K) A n Bare W := by
  obtain ⟨M, F, hs, hp, hF, hk⟩ := h
  refine ⟨F, hp, mach_bare hs (fun k hk1 => ?_)⟩
  rcases List.mem_append.1 hk1 with h1 | h1
  · exact ⟨(hF k h1).1, (hF k h1).2.2⟩
  · exact ⟨(hk k h1).1, (hk k h1).2.2⟩
end Pac
end Go.Proofs.Ytkjcccjkfjebaaa
