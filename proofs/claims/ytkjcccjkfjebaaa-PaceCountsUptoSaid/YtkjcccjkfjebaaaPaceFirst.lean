/- first of the machines' laws. -/
import Derived.Test.YtkjcccjkfjebaaaPaceStates
import Derived.Test.YtkjcccjkfjebaaaArenaFirst
set_option linter.unusedVariables false
set_option linter.unusedSimpArgs false
namespace Go.Proofs.Ytkjcccjkfjebaaa
namespace Pac
open Go.RowKit Go.Maps Arn

def p1 : Ar := ⟨9, 1, 2, 0, List.replicate 9 0, [⟨65537, [1, 2]⟩], ⟨1, 0, 0, 0, 0, 0⟩⟩
def p2 : Ar := ⟨9, 2, 3, 0, List.replicate 9 0, [⟨65537, [1, 2]⟩, ⟨131074, [3]⟩], ⟨2, 0, 0, 0, 0, 0⟩⟩
def p3 : Ar := ⟨9, 2, 3, 0, List.replicate 9 0, [⟨65537, [1, 2]⟩, ⟨131074, [3]⟩], ⟨2, 0, 1, 0, 0, 0⟩⟩
def p4 : Ar := ⟨9, 2, 3, 0, List.replicate 9 0, [⟨65537, [1, 2]⟩, ⟨131074, [3]⟩], ⟨2, 0, 2, 0, 0, 0⟩⟩
def p5 : Ar := ⟨9, 2, 3, 0, List.replicate 9 0, [⟨131074, [3]⟩], ⟨2, 1, 2, 0, 0, 0⟩⟩
def p6 : Ar := ⟨9, 2, 3, 0, List.replicate 9 0, [], ⟨2, 2, 2, 0, 0, 0⟩⟩
theorem q1 : (Ar.new 9).lay [1, 2] = (p1, 65537, 0) := by rfl
theorem q2 : p1.lay [3] = (p2, 131074, 0) := by rfl
theorem q3 : p2.read 65537 1 = (p3, 2, 0) := by rfl
theorem q4 : p3.read 131074 0 = (p4, 3, 0) := by rfl
theorem q5 : p4.free 65537 = (p5, 0) := by rfl
theorem q6 : p5.free 131074 = (p6, 0) := by rfl
/-- Two words that lie in a block. -/
def Two (g o : Nat) (x y : Int) (W : World) : Prop := W.cell? ⟨g, o, none⟩ = some (.int .u64 x) ∧ W.cell? ⟨g, o + 1, none⟩ = some (.int .u64 y)
theorem Two.turn {g o : Nat} {x y : Int} {W W' : World} {F : List Nat} (h : Two g o x y W) (ht : Frm.Turn F W W') (hn : g ∉ F) : Two g o x y W' := ⟨ht.cell h.1 hn, ht.cell h.2 hn⟩
theorem Two.aside {w : World} {K : List Nat} {g o : Nat} {x y : Int} {W W' : World} (h : Two g o x y W) (ha : Aside w K W W') (hg : g ∈ K) : Two g o x y W' := by
  obtain ⟨F, hT, h1, _⟩ := ha
  exact h.turn hT (h1 g hg)
theorem Two.words {g o c : Nat} {x y : Int} {W : World} (h : Two g o x y W) : WordsAt W (.slice (some ⟨g, o, none⟩) 2 c) [x, y] := by
  refine .inr ⟨⟨g, o, none⟩, c, rfl, fun j u hu => ?_⟩
  rw [add_at]
  match j, hu with
  | 0, hu => simp [u64s] at hu; subst hu; exact h.1
  | 1, hu => simp [u64s] at hu; subst hu; exact h.2
/-- A clone of two words. -/
theorem two_of {w w' : World} {x y : Int} {e : Ending} (h : HCloneOf w [x, y] e w') : ∃ g o c, e = .returned (.slice (some ⟨g, o, none⟩) 2 c) ∧ Two g o x y w' ∧ w.heap.size ≤ g ∧ g < w'.heap.size ∧ Frm.Turn [] w w' := by
  obtain ⟨ao, c, rfl, h1, h2, h3⟩ := h
  rcases h1 with ⟨_, h⟩ | ⟨g, o, c', e, _, _, hc⟩
  · cases h
  · simp at e
    obtain ⟨rfl, rfl⟩ := e
    exact ⟨g, o, c, rfl, ⟨hc 0 _ rfl, hc 1 _ rfl⟩, (h2 g rfl).1, (h2 g rfl).2, h3⟩
theorem rwords_hs {w : World} {r b : Nat} {L : List (Int × Int)} {W : List Int} {lv wv : Value} (hr : RdAt w r b L W lv wv) (hW : W.length ≤ 65536) :
    Calls Try.prog 55 #[.pointer (some ⟨r, 0, none⟩)] w (HCloneOf w W) := by
  obtain ⟨_, _, _, c3⟩ := hr.body.cells
  have H := Lib.hid (hclone_any wv W w (words_of_row hr.words) hW)
  clear hr
  go_enter Try.func55, Try.ntmps55
  go_wp2_with (go_at_call 60; (with_reducible refine (H.out).mono ?_); rintro e w1 ⟨ao, c, rfl, h⟩; have H1 := Lib.hid h; clear h)
  go_ret
  exact ⟨ao, c, rfl, H1.out⟩
theorem cells_new (W : World) (l : List Value) (t : TypeId) (s : Nat) (hs : s = W.heap.size) : ∀ j u, l[j]? = some u → (W.alloc (.cells l.toArray t)).cell? ⟨s, j, none⟩ = some u := by
  intro j u hj
  subst hs
  have hb := World.alloc_heap_new W (.cells l.toArray t)
  unfold World.cell?
  rw [hb]
  simp [hj]
theorem addrs_two (W : World) (x1 x2 : Int × Int) : AddrsAt (W.alloc (.cells #[.int .u64 x1.1, .int .i64 x1.2, .int .u64 x2.1, .int .i64 x2.2] 34)) (.slice (some ⟨W.heap.size, 0, none⟩) 2 2) [x1, x2] := by
  refine .inr ⟨W.heap.size, 0, 2, rfl, Nat.le_refl _, by unfold maxLen; omega, fun j u hu => ?_⟩
  rw [Nat.zero_add]
  exact cells_new W [.int .u64 x1.1, .int .i64 x1.2, .int .u64 x2.1, .int .i64 x2.2] _ _ rfl j u hu
theorem rows_first (W : World) : RowsAt (((W.alloc (.cells #[.int .u64 1, .int .u64 2] 29)).alloc (.cells #[.int .u64 3] 29)).alloc (.cells #[.slice (some ⟨W.heap.size, 0, none⟩) 2 2, .slice (some ⟨W.heap.size + 1, 0, none⟩) 1 1] 42))
    (.slice (some ⟨W.heap.size + 2, 0, none⟩) 2 2) [(.slice (some ⟨W.heap.size, 0, none⟩) 2 2, [1, 2]), (.slice (some ⟨W.heap.size + 1, 0, none⟩) 1 1, [3])] := by
  refine ⟨.inr ⟨W.heap.size + 2, 0, 2, rfl, Nat.le_refl _, by unfold maxLen; omega, fun j x hx => ?_⟩, fun x hx => ?_⟩
  · rw [Nat.zero_add]
    refine cells_new _ [.slice (some ⟨W.heap.size, 0, none⟩) 2 2, .slice (some ⟨W.heap.size + 1, 0, none⟩) 1 1] _ _ (by simp) j x.1 ?_
    match j, hx with
    | 0, hx => simp at hx; subst hx; rfl
    | 1, hx => simp at hx; subst hx; rfl
  · simp at hx
    rcases hx with rfl | rfl
    · refine WordsAt.turn (F := []) (w := W.alloc (.cells #[.int .u64 1, .int .u64 2] 29)) (.inr ⟨_, 2, rfl, fun j u hu => ?_⟩) (((Frm.Turn.refl [] _).alloc _).alloc _) (by simp)
      rw [add_at, Nat.zero_add]
      exact cells_new W [.int .u64 1, .int .u64 2] _ _ rfl j u hu
    · refine WordsAt.turn (F := []) (w := (W.alloc (.cells #[.int .u64 1, .int .u64 2] 29)).alloc (.cells #[.int .u64 3] 29)) (.inr ⟨_, 1, rfl, fun j u hu => ?_⟩) ((Frm.Turn.refl [] _).alloc _) (by simp)
      rw [add_at, Nat.zero_add]
      exact cells_new _ [.int .u64 3] _ _ (by simp) j u hu
variable {w : World} {b r g o g2 o2 f : Nat}
def S2 (w : World) (b r g o : Nat) (W : World) : Prop := Mach w b [g] p2 2 (LyP r b [] [65537, 131074] 0) W ∧ Two g o 65537 131074 W
def S3 (w : World) (b r g o : Nat) (A : Ar) (n : Nat) (L : List (Int × Int)) (Wd : List Int) (W : World) : Prop := Mach w b [g] A n (RdP r b L Wd) W ∧ Two g o 65537 131074 W
def S4 (w : World) (b r g o g2 o2 : Nat) (W : World) : Prop := ∃ lv wv, RdAt W r b [] [2, 3] lv wv ∧ Mach w b (rdFoot r lv wv ++ [g, g2]) p4 4 Bare W ∧ Two g o 65537 131074 W ∧ Two g2 o2 2 3 W
def S5 (w : World) (b r g2 o2 f : Nat) (A : Ar) (n : Nat) (L : List Int) (W : World) : Prop := ∃ lv wv, RdAt W r b [] [2, 3] lv wv ∧ Mach w b (rdFoot r lv wv ++ [g2]) A n (FrP f b L) W ∧ Two g2 o2 2 3 W
theorem w64s {l : List Int} (h : l.all (fun x => decide (0 ≤ x ∧ x ≤ 100000)) = true) : ∀ x, x ∈ l → W64 x := by
  intro x hx
  have := List.all_eq_true.1 h x hx
  exact w64_small _ (by simpa using this)
theorem Mach.arena {w W : World} {K : List Nat} {A : Ar} {n : Nat} {P : List Nat → World → Prop} (h : Mach w b K A n P W) : ∃ M, ArAt W b M A := by obtain ⟨M, F, hs, _⟩ := h; exact ⟨M, hs.at_⟩
theorem rd_idle {W : World} {lv wv : Value} (h : RdAt W r b [] [2, 3] lv wv) : Calls Try.prog 56 #[.pointer (some ⟨r, 0, none⟩)] W fun e w' => e = .returned (.bool true) ∧ W = w' := rdone_any h

set_option maxRecDepth 100000 in
set_option maxHeartbeats 4000000 in
theorem pfirst_any (w : World) : Calls Try.prog 38 #[] w fun e w' => e = .returned (.bool true) ∧ Frm.Turn [] w w' := by
  have HN : Hid (Calls Try.prog 11 #[.int .i64 9] w fun e w' => ∃ b, e = .returned (.tuple #[.pointer (some ⟨b, 0, none⟩), .int .i64 0]) ∧ Mach w b [] (Ar.new 9) 0 Bare w') :=
    Lib.hid ((sin_new 9 w (by omega)).mono fun e w' ⟨b, M, he, hs⟩ => ⟨b, he, mach_bare hs (by simp)⟩)
  have HL : Hid (∀ b W, Mach w b [] (Ar.new 9) 0 Bare W → Calls Try.prog 76 #[.pointer (some ⟨b, 0, none⟩), .slice (some ⟨W.heap.size + 2, 0, none⟩) 2 2] (((W.alloc (.cells #[.int .u64 1, .int .u64 2] 29)).alloc (.cells #[.int .u64 3] 29)).alloc (.cells #[.slice (some ⟨W.heap.size, 0, none⟩) 2 2, .slice (some ⟨W.heap.size + 1, 0, none⟩) 1 1] 42))
      fun e w' => ∃ r, e = .returned (.pointer (some ⟨r, 0, none⟩)) ∧ Mach w b [] (Ar.new 9) 0 (LyP r b [[1, 2], [3]] [] 0) w') :=
    Lib.hid fun b W h => (ly_new _ _ (h.step bare_stays ((((Frm.Turn.refl [] W).alloc _).alloc _).alloc _)) (rows_first W) (by simp) (by simp)).mono fun e w' ⟨r, he, hm, _⟩ => ⟨r, he, hm⟩
  have HS1 : Hid (∀ b r W, Mach w b [] (Ar.new 9) 0 (LyP r b [[1, 2], [3]] [] 0) W → Calls Try.prog 77 #[.pointer (some ⟨r, 0, none⟩)] W fun e w' => e = .returned (.tuple #[]) ∧ Mach w b [] p1 1 (LyP r b [[3]] [65537] 0) w') :=
    Lib.hid fun b r W h => (ly_step h (by omega) (by simp) (by simp) (w64s (by decide))).mono fun e w' ⟨he, hm, _⟩ => ⟨he, hm⟩
  have HH1 : Hid (∀ b r W, Mach w b [] p1 1 (LyP r b [[3]] [65537] 0) W → Calls Try.prog 51 #[.pointer (some ⟨r, 0, none⟩)] W fun e w' => (∃ ao c, e = .returned (.slice ao 1 c)) ∧ Mach w b [] p1 1 (LyP r b [[3]] [65537] 0) w') :=
    Lib.hid fun b r W h => (ly_handles_is h (by simp)).mono fun e w' ⟨ao, c, he, _, _, hT⟩ => ⟨⟨ao, c, he⟩, h.step (ly_stays _ _ _ _ _) hT⟩
  have HS2 : Hid (∀ b r W, Mach w b [] p1 1 (LyP r b [[3]] [65537] 0) W → Calls Try.prog 77 #[.pointer (some ⟨r, 0, none⟩)] W fun e w' => e = .returned (.tuple #[]) ∧ Mach w b [] p2 2 (LyP r b [] [65537, 131074] 0) w') :=
    Lib.hid fun b r W h => (ly_step h (by omega) (by simp) (by simp) (w64s (by decide))).mono fun e w' ⟨he, hm, _⟩ => ⟨he, hm⟩
  have HH2 : Hid (∀ b r W, Mach w b [] p2 2 (LyP r b [] [65537, 131074] 0) W → Calls Try.prog 51 #[.pointer (some ⟨r, 0, none⟩)] W fun e w' => ∃ g o c, e = .returned (.slice (some ⟨g, o, none⟩) 2 c) ∧ S2 w b r g o w') :=
    Lib.hid fun b r W h => (ly_handles_is h (by simp)).mono fun e w' hc => by
      obtain ⟨g, o, c, he, h2, hg, hg2, hT⟩ := two_of hc
      exact ⟨g, o, c, he, h.own (ly_stays _ _ _ _ _) hT (by simp) (fun k hk => by simp at hk; subst hk; exact ⟨.inr hg, hg2⟩), h2⟩
  have HD1 : Hid (∀ b r g o W, S2 w b r g o W → Calls Try.prog 78 #[.pointer (some ⟨r, 0, none⟩)] W fun e w' => e = .returned (.bool true) ∧ W = w') := Lib.hid fun b r g o W h => ly_done_is h.1
  have HE1 : Hid (∀ b r g o W, S2 w b r g o W → Calls Try.prog 50 #[.pointer (some ⟨r, 0, none⟩)] W fun e w' => e = .returned (.int .i64 0) ∧ W = w') := Lib.hid fun b r g o W h => ly_err_is h.1
  have HR : Hid (∀ b r g o W, S2 w b r g o W → Calls Try.prog 44 #[.pointer (some ⟨b, 0, none⟩), .slice (some ⟨W.heap.size, 0, none⟩) 2 2] ((W.alloc (.cells #[.int .u64 65537, .int .i64 1, .int .u64 131074, .int .i64 0] 34)).drew)
      fun e w' => ∃ r, e = .returned (.pointer (some ⟨r, 0, none⟩)) ∧ S3 w b r g o p2 2 [(65537, 1), (131074, 0)] [] w') :=
    Lib.hid fun b r g o W h => by
      obtain ⟨F, hp, hm⟩ := ly_rest h.1
      have hT : Frm.Turn [] W ((W.alloc (.cells #[.int .u64 65537, .int .i64 1, .int .u64 131074, .int .i64 0] 34)).drew) := ((Frm.Turn.refl [] W).alloc _).drew
      have hm2 : Mach w b [g] p2 2 Bare ((W.alloc (.cells #[.int .u64 65537, .int .i64 1, .int .u64 131074, .int .i64 0] 34)).drew) := hm.own bare_stays hT (by simp) (fun k hk => by
        simp at hk; subst hk
        obtain ⟨M, F', _, _, _, h5⟩ := h.1
        have := (h5 k (by simp)).2.2
        exact ⟨.inl (by simp), by have := hT.size; omega⟩)
      exact (rd_new _ _ hm2 ((addrs_two W (65537, 1) (131074, 0)).turn ((Frm.Turn.refl [] _).drew) (by simp)) (by simp)).mono fun e w' ⟨r, he, h1, h2⟩ => ⟨r, he, h1, (h.2.turn hT (by simp)).turn h2 (by simp)⟩
  have HRs1 : Hid (∀ b r g o W, S3 w b r g o p2 2 [(65537, 1), (131074, 0)] [] W → Calls Try.prog 53 #[.pointer (some ⟨r, 0, none⟩)] W fun e w' => e = .returned (.tuple #[]) ∧ S3 w b r g o p3 3 [(131074, 0)] [2] w') :=
    Lib.hid fun b r g o W h => (rd_step h.1 (by omega) (by simp) (by simp) (by unfold W64; omega) (by decide)).mono fun e w' ⟨he, h1, h2⟩ => ⟨he, h1, h.2.aside h2 (by simp)⟩
  have HRs2 : Hid (∀ b r g o W, S3 w b r g o p3 3 [(131074, 0)] [2] W → Calls Try.prog 53 #[.pointer (some ⟨r, 0, none⟩)] W fun e w' => e = .returned (.tuple #[]) ∧ S3 w b r g o p4 4 [] [2, 3] w') :=
    Lib.hid fun b r g o W h => (rd_step h.1 (by omega) (by simp) (by simp) (by unfold W64; omega) (by decide)).mono fun e w' ⟨he, h1, h2⟩ => ⟨he, h1, h.2.aside h2 (by simp)⟩
  have HW : Hid (∀ b r g o W, S3 w b r g o p4 4 [] [2, 3] W → Calls Try.prog 55 #[.pointer (some ⟨r, 0, none⟩)] W fun e w' => ∃ g2 o2 c, e = .returned (.slice (some ⟨g2, o2, none⟩) 2 c) ∧ S4 w b r g o g2 o2 w') :=
    Lib.hid fun b r g o W h => by
      obtain ⟨lv, wv, hr, hm⟩ := rd_rest h.1
      exact (rwords_hs hr (by simp)).mono fun e w' hc => by
        obtain ⟨g2, o2, c, he, h2, hg, hg2, hT⟩ := two_of hc
        have hsz := hT.size
        refine ⟨g2, o2, c, he, lv, wv, hr.turn hT (by simp), hm.own bare_stays hT (by simp) (fun k hk => ?_), h.2.turn hT (by simp), h2⟩
        rcases List.mem_append.1 hk with h1 | h1
        · refine ⟨.inl (List.mem_append.2 (.inl h1)), ?_⟩
          obtain ⟨_, _, _, _, _, h5⟩ := hm
          have := (h5 k (List.mem_append.2 (.inl h1))).2.2; omega
        · simp at h1
          rcases h1 with rfl | rfl
          · refine ⟨.inl (by simp), ?_⟩
            obtain ⟨_, _, _, _, _, h5⟩ := hm
            have := (h5 k (by simp)).2.2; omega
          · exact ⟨.inr hg, hg2⟩
  have HF : Hid (∀ b r g o g2 o2 c W, S4 w b r g o g2 o2 W → Calls Try.prog 79 #[.pointer (some ⟨b, 0, none⟩), .slice (some ⟨g, o, none⟩) 2 c] W fun e w' => ∃ f, e = .returned (.pointer (some ⟨f, 0, none⟩)) ∧ S5 w b r g2 o2 f p4 4 [65537, 131074] w') :=
    Lib.hid fun b r g o g2 o2 c W h => by
      obtain ⟨lv, wv, hr, hm, h1, h2⟩ := h
      exact (fr_new _ _ hm (h1.words (c := c)) (by simp)).mono fun e w' ⟨f, he, hm', hT⟩ => by
        refine ⟨f, he, lv, wv, hr.turn hT (by simp), ?_, h2.turn hT (by simp)⟩
        obtain ⟨M, F, a1, a2, a3, a4⟩ := hm'
        refine ⟨M, F, a1, a2, a3, fun k hk => a4 k ?_⟩
        rcases List.mem_append.1 hk with h5 | h5
        · exact List.mem_append.2 (.inl h5)
        · simp at h5; subst h5; simp
  have HFs : Hid (∀ b r g2 o2 f W (A : Ar) (n : Nat) (x : Int) (L : List Int), n ≤ 100 → 0 ≤ x ∧ x ≤ 1000000 → L.length ≤ 10 → S5 w b r g2 o2 f A n (x :: L) W → Calls Try.prog 80 #[.pointer (some ⟨f, 0, none⟩)] W fun e w' => e = .returned (.tuple #[]) ∧ S5 w b r g2 o2 f (A.free x).1 (n + 1) L w') :=
    Lib.hid fun b r g2 o2 f W A n x L hn hx hL h => by
      obtain ⟨lv, wv, hr, hm, h2⟩ := h
      exact (fr_step hm (by omega) (by omega) (by unfold W64; omega)).mono fun e w' ⟨he, hm', ha⟩ => by
        refine ⟨he, lv, wv, ?_, hm', h2.aside ha (by simp)⟩
        obtain ⟨F, hT, h3, _⟩ := ha
        exact hr.turn hT (fun k hk => h3 k (List.mem_append.2 (.inl hk)))
  have HFl : Hid (∀ b r g2 o2 f W (A : Ar) (n : Nat) (x : Int), S5 w b r g2 o2 f A n [x] W → Calls Try.prog 81 #[.pointer (some ⟨f, 0, none⟩)] W fun e w' => (∃ ao c, e = .returned (.slice ao 1 c)) ∧ S5 w b r g2 o2 f A n [x] w') :=
    Lib.hid fun b r g2 o2 f W A n x h => by
      obtain ⟨lv, wv, hr, hm, h2⟩ := h
      exact (fr_left_is hm (by simp)).mono fun e w' ⟨ao, c, he, _, _, hT⟩ => ⟨⟨ao, c, he⟩, lv, wv, hr.turn hT (by simp), hm.step (fr_stays _ _ _) hT, h2.turn hT (by simp)⟩
  have HFn : Hid (∀ b r g2 o2 f W (A : Ar) (n : Nat), S5 w b r g2 o2 f A n [] W → Calls Try.prog 80 #[.pointer (some ⟨f, 0, none⟩)] W fun e w' => e = .returned (.tuple #[]) ∧ W = w') :=
    Lib.hid fun b r g2 o2 f W A n h => by
      obtain ⟨lv, wv, hr, hm, h2⟩ := h
      exact (fr_none hm).mono fun e w' ⟨h1, h2⟩ => ⟨h1, h2.symm⟩
  have HG : Hid (∀ b r g2 o2 f W, S5 w b r g2 o2 f p6 6 [] W → (Calls Try.prog 56 #[.pointer (some ⟨r, 0, none⟩)] W fun e w' => e = .returned (.bool true) ∧ W = w') ∧ (Calls Try.prog 82 #[.pointer (some ⟨f, 0, none⟩)] W fun e w' => e = .returned (.bool true) ∧ W = w') ∧
      (Calls Try.prog 21 #[.pointer (some ⟨b, 0, none⟩)] W fun e w' => e = .returned (.int .i64 0) ∧ W = w') ∧
      (Calls Try.prog 79 #[.pointer (some ⟨b, 0, none⟩), .slice none 0 0] W fun e w' => ∃ f2, e = .returned (.pointer (some ⟨f2, 0, none⟩)) ∧ Mach w b [] p6 6 (FrP f2 b []) w')) :=
    Lib.hid fun b r g2 o2 f W h => by
      obtain ⟨lv, wv, hr, hm, h2⟩ := h
      obtain ⟨M, ha⟩ := hm.arena
      obtain ⟨flv, _, hmb⟩ := fr_rest hm
      refine ⟨rd_idle hr, fr_done_is hm, len_any ha, (fr_new (.slice none 0 0) [] hmb (.inl ⟨rfl, rfl⟩) (by simp)).mono fun e w' ⟨f2, he, hm', hT⟩ => ⟨f2, he, ?_⟩⟩
      obtain ⟨M, F, a1, a2, a3, a4⟩ := hm'
      exact ⟨M, F, a1, a2, a3, by simp⟩
  have HG2 : Hid (∀ b f2 W, Mach w b [] p6 6 (FrP f2 b []) W → (Calls Try.prog 82 #[.pointer (some ⟨f2, 0, none⟩)] W fun e w' => e = .returned (.bool true) ∧ W = w') ∧ (Calls Try.prog 22 #[.pointer (some ⟨b, 0, none⟩)] W fun e w' => e = .returned (.int .i64 0) ∧ W = w')) :=
    Lib.hid fun b f2 W h => by
      obtain ⟨M, ha⟩ := h.arena
      exact ⟨fr_done_is h, faults_any ha⟩
  go_enter Try.func38, Try.ntmps38
  go_upto_region 9 with (first
    | (go_at_call 11; (with_reducible refine (HN.out).mono ?_); rintro e w1 ⟨b, rfl, h⟩; have H0 := Lib.hid h; clear h)
    | (go_at_call 76; (with_reducible refine (HL.out _ _ H0.out).mono ?_); rintro e w2 ⟨r, rfl, h⟩; have H1 := Lib.hid h; clear h)
    | (go_at_call 77; (with_reducible refine (HS1.out _ _ _ H1.out).mono ?_); rintro e w3 ⟨rfl, h⟩; have H2 := Lib.hid h; clear h)
    | (go_at_call 51; (with_reducible refine (HH1.out _ _ _ H2.out).mono ?_); rintro e w4 ⟨⟨ao1, c1, rfl⟩, h⟩; have H3 := Lib.hid h; clear h)
    | (go_at_call 77; (with_reducible refine (HS2.out _ _ _ H3.out).mono ?_); rintro e w5 ⟨rfl, h⟩; have H4 := Lib.hid h; clear h)
    | (go_at_call 51; (with_reducible refine (HH2.out _ _ _ H4.out).mono ?_); rintro e w6 ⟨g, o, c, rfl, h⟩; have H5 := Lib.hid h; clear h)
    | (go_at_call 78; (with_reducible refine (HD1.out _ _ _ _ _ H5.out).mono ?_); rintro e w7 ⟨rfl, rfl⟩)
    | (go_at_call 50; (with_reducible refine (HE1.out _ _ _ _ _ H5.out).mono ?_); rintro e w7 ⟨rfl, rfl⟩))
  have k1 := H5.out.2.1
  have k2 := H5.out.2.2
  go_cut [6] (fun s6 W => ∃ r2, s6 = .pointer (some ⟨r2, 0, none⟩) ∧ S3 w b r2 g o p2 2 [(65537, 1), (131074, 0)] [] W)
  case first =>
    go_region_with ((go_at_call 44; (with_reducible refine (HR.out _ _ _ _ _ H5.out).mono ?_); rintro e w8 ⟨r2, rfl, h⟩; have H6 := Lib.hid h; clear h))
    all_goals go_wp2_with fail
    all_goals go_meet
    all_goals exact ⟨_, rfl, H6.out⟩
  case rest =>
    obtain ⟨r2, rfl, h6⟩ := hcut
    have H6 := Lib.hid h6
    clear h6 k1 k2
    go_upto_region 18 with (first
      | (go_at_call 53; (with_reducible refine (HRs1.out _ _ _ _ _ H6.out).mono ?_); rintro e w3 ⟨rfl, h⟩; have H7 := Lib.hid h; clear h)
      | (go_at_call 53; (with_reducible refine (HRs2.out _ _ _ _ _ H7.out).mono ?_); rintro e w3 ⟨rfl, h⟩; have H8 := Lib.hid h; clear h)
      | (go_at_call 55; (with_reducible refine (HW.out _ _ _ _ _ H8.out).mono ?_); rintro e w3 ⟨g2, o2, c2, rfl, h⟩; have H9 := Lib.hid h; clear h)
      | (go_at_call 79; (with_reducible refine (HF.out _ _ _ _ _ _ _ _ H9.out).mono ?_); rintro e w3 ⟨f, rfl, h⟩; have H10 := Lib.hid h; clear h)
      | (go_at_call 80; (with_reducible refine (HFs.out _ _ _ _ _ _ _ _ _ _ (by omega) (by omega) (by simp) H10.out).mono ?_); rintro e w3 ⟨rfl, h⟩; have H11 : Hid (S5 w b r2 g2 o2 f p5 5 [131074] w3) := Lib.hid h; clear h)
      | (go_at_call 81; (with_reducible refine (HFl.out _ _ _ _ _ _ _ _ _ H11.out).mono ?_); rintro e w3 ⟨⟨ao3, c3, rfl⟩, h⟩; have H12 := Lib.hid h; clear h)
      | (go_at_call 80; (with_reducible refine (HFs.out _ _ _ _ _ _ _ _ _ _ (by omega) (by omega) (by simp) H12.out).mono ?_); rintro e w3 ⟨rfl, h⟩; have H13 : Hid (S5 w b r2 g2 o2 f p6 6 [] w3) := Lib.hid h; clear h)
      | (go_at_call 80; (with_reducible refine (HFn.out _ _ _ _ _ _ _ _ H13.out).mono ?_); rintro e w3 ⟨rfl, rfl⟩))
    have hg := HG.out _ _ _ _ _ _ H13.out
    have HG' := Lib.hid hg
    have k1 : _ ∧ _ := H13.out.elim fun _ x => x.elim fun _ x => x.2.2
    obtain ⟨k1, k2⟩ := k1
    clear hg
    go_wp2_with (first
      | (go_at_call 56; (with_reducible refine (HG'.out.1).mono ?_); rintro e w3 ⟨rfl, rfl⟩)
      | (go_at_call 82; (with_reducible refine (HG'.out.2.1).mono ?_); rintro e w3 ⟨rfl, rfl⟩)
      | (go_at_call 21; (with_reducible refine (HG'.out.2.2.1).mono ?_); rintro e w3 ⟨rfl, rfl⟩)
      | (go_at_call 79; (with_reducible refine (HG'.out.2.2.2).mono ?_); rintro e w4 ⟨f2, rfl, h⟩; have H14 := Lib.hid h; clear h)
      | (go_at_call 82; (with_reducible refine ((HG2.out _ _ _ H14.out).1).mono ?_); rintro e w3 ⟨rfl, rfl⟩)
      | (go_at_call 22; (with_reducible refine ((HG2.out _ _ _ H14.out).2).mono ?_); rintro e w3 ⟨rfl, rfl⟩))
    go_ret
    exact ⟨rfl, H14.out.turn⟩
end Pac
end Go.Proofs.Ytkjcccjkfjebaaa
