/- first of the laws of layer 9. -/
import Derived.Test.YtmjdcpcndggflaaDoorHeadList
import Derived.Test.YtmjdcpcndggflaaDoorHeadRead
import Derived.Test.YtmjdcpcndggflaaDoorHeadSame
set_option linter.unusedVariables false
set_option linter.unusedSimpArgs false
namespace Go.Proofs.YtmjdcpcndggflaaDoor
namespace Hed
open Go.RowKit Go.Maps Arn

def f1 : Ar := ⟨9, 1, 3, 0, List.replicate 9 0, [⟨65537, [3, 4294967296, 0]⟩], ⟨1, 0, 0, 0, 0, 0⟩⟩
def f2 : Ar := ⟨9, 2, 6, 0, List.replicate 9 0, [⟨65537, [3, 4294967296, 0]⟩, ⟨131074, [4, 4294967296, 65537]⟩], ⟨2, 0, 0, 0, 0, 0⟩⟩
theorem e1 : (Ar.new 9).lay [3, 4294967296, 0] = (f1, 65537, 0) := by rfl
theorem e2 : f1.lay [4, 4294967296, 65537] = (f2, 131074, 0) := by rfl
theorem chain2 : chainF (entsOf f2.L) 1000 131074 = some [(131074, (4, 4294967296, 65537)), (65537, (3, 4294967296, 0))] := by decide +kernel
theorem head0 : headB 0 0 0 0 0 0 0 0 = true := by decide +kernel
theorem head1 : headB 65537 0 0 131074 255 1 0 0 = true := by decide +kernel
theorem ent1 : entB 254 30064771077 65537 = true := by decide +kernel
theorem ent2 : entB 3 4294967296 0 = true := by decide +kernel
theorem ent3 : entB 255 0 0 = false := by decide +kernel
theorem wr_lit : IntKind.i64.wrap 0 = 0 ∧ IntKind.i64.wrap 1 = 1 ∧ IntKind.i64.wrap 3 = 3 ∧ IntKind.i64.wrap 255 = 255 := by decide +kernel
theorem list_some {w w' : World} {e : Ending} {l : List (Int × Ent)} (h : ListEnd w (some l) e w') : ∃ v, e = .returned (.tuple #[v, .bool true]) ∧ w'.ownsRow w.heap.size 26 3 v l.length (entCells l) ∧ Frm.Turn [] w w' := by
  rcases h with ⟨h, _⟩ | ⟨pre, v, h, he, ho, hT⟩
  · cases h
  · cases h; exact ⟨v, he, ho, hT⟩
theorem hands_some {w w' : World} {e : Ending} {l : List (Int × Ent)} (h : HandsEnd w (some l) e w') : ∃ v, e = .returned (.tuple #[v, .bool true]) ∧ w'.ownsRow w.heap.size 22 1 v l.length (u64s (hands l)) ∧ Frm.Turn [] w w' := by
  rcases h with ⟨h, _⟩ | ⟨pre, v, h, he, ho, hT⟩
  · cases h
  · cases h; exact ⟨v, he, ho, hT⟩
theorem list_none {w w' : World} {e : Ending} (h : ListEnd w none e w') : e = .returned (.tuple #[.slice none 0 0, .bool false]) ∧ Frm.Turn [] w w' := by
  rcases h with ⟨_, he, hT⟩ | ⟨pre, v, h, _⟩
  · exact ⟨he, hT⟩
  · cases h
theorem hands_none {w w' : World} {e : Ending} (h : HandsEnd w none e w') : e = .returned (.tuple #[.slice none 0 0, .bool false]) ∧ Frm.Turn [] w w' := by
  rcases h with ⟨_, he, hT⟩ | ⟨pre, v, h, _⟩
  · exact ⟨he, hT⟩
  · cases h
theorem Read_yes (c m ml q fr ql s sl x2 x4 x5 x7 : Int) (v : Value) (w : World) (h : WordsAt w v [c, m, x2, q, x4, x5, s, x7]) (hc : W64 c) (hm : W64 m) (hq : W64 q) (hs : W64 s) (i2 : IntKind.i64.wrap x2 = ml) (i4 : IntKind.i64.wrap x4 = fr) (i5 : IntKind.i64.wrap x5 = ql) (i7 : IntKind.i64.wrap x7 = sl) (hb : headB c m ml q fr ql s sl = true) :
    Calls Tryd.prog 14 #[v] w fun e w' => e = .returned (.tuple #[.int .u64 c, .agg #[.int .u64 m, .int .i64 ml, .int .u64 q, .int .i64 fr, .int .i64 ql, .int .u64 s, .int .i64 sl], .bool true]) ∧ Frm.Turn [] w w' :=
  (Read_eight c m ml q fr ql s sl x2 x4 x5 x7 v w h hc hm hq hs i2 i4 i5 i7 true hb).mono fun e w' h => ⟨h.1.trans (by rw [if_pos rfl]), h.2⟩
theorem Read_no (c m ml q fr ql s sl x2 x4 x5 x7 : Int) (v : Value) (w : World) (h : WordsAt w v [c, m, x2, q, x4, x5, s, x7]) (hc : W64 c) (hm : W64 m) (hq : W64 q) (hs : W64 s) (i2 : IntKind.i64.wrap x2 = ml) (i4 : IntKind.i64.wrap x4 = fr) (i5 : IntKind.i64.wrap x5 = ql) (i7 : IntKind.i64.wrap x7 = sl) (hb : headB c m ml q fr ql s sl = false) :
    Calls Tryd.prog 14 #[v] w fun e w' => e = .returned (.tuple #[.int .u64 0, .agg #[.int .u64 0, .int .i64 0, .int .u64 0, .int .i64 0, .int .i64 0, .int .u64 0, .int .i64 0], .bool false]) ∧ Frm.Turn [] w w' :=
  (Read_eight c m ml q fr ql s sl x2 x4 x5 x7 v w h hc hm hq hs i2 i4 i5 i7 false hb).mono fun e w' h => ⟨h.1.trans (by rw [if_neg (by decide)]), h.2⟩
theorem w64s (x : Int) (h : 0 ≤ x ∧ x ≤ 100000000000000) : W64 x := by unfold W64; omega
theorem words1 (W : World) : WordsAt (W.alloc (.cells #[.int .u64 65537, .int .u64 0, .int .u64 0, .int .u64 131074, .int .u64 255, .int .u64 1, .int .u64 0, .int .u64 0] 22)) (.slice (some ⟨W.heap.size, 0, none⟩) 8 8) [65537, 0, 0, 131074, 255, 1, 0, 0] := words_made W [65537, 0, 0, 131074, 255, 1, 0, 0]
theorem read1 (W W' : World) (h : WordsAt W (.slice (some ⟨W'.heap.size, 0, none⟩) 8 8) [65537, 0, 0, 131074, 255, 1, 0, 0]) : Calls Tryd.prog 14 #[.slice (some ⟨W'.heap.size, 0, none⟩) 8 8] W fun e w' => e = .returned (.tuple #[.int .u64 65537, .agg #[.int .u64 0, .int .i64 0, .int .u64 131074, .int .i64 255, .int .i64 1, .int .u64 0, .int .i64 0], .bool true]) ∧ Frm.Turn [] W w' := by
  obtain ⟨i0, i1, i3, i255⟩ := wr_lit
  exact Read_yes 65537 0 0 131074 255 1 0 0 0 255 1 0 _ _ h (w64s _ (by omega)) (w64s _ (by omega)) (w64s _ (by omega)) (w64s _ (by omega)) i0 i255 i1 i0 head1
theorem make8 (W : World) : (Instr.makeSlice 28 (.int .i64 8) (.int .i64 8)).run Tryd.prog W = .ok (.slice (some ⟨W.heap.size, 0, none⟩) 8 8) (W.alloc (.cells #[.int .u64 0, .int .u64 0, .int .u64 0, .int .u64 0, .int .u64 0, .int .u64 0, .int .u64 0, .int .u64 0] 22)) := by kernel_rfl
set_option maxRecDepth 100000 in
set_option maxHeartbeats 8000000 in
theorem first_any (w : World) (hk : Ops.Kn w) : Calls Tryd.prog 8 #[] w fun e w' => e = .returned (.bool true) ∧ Frm.Turn [] w w' := by
  obtain ⟨i0, i1, i3, i255⟩ := wr_lit
  have HW : Hid (∀ W : World, Calls Tryd.prog 9 #[.int .u64 0, .agg #[.int .u64 0, .int .i64 0, .int .u64 0, .int .i64 0, .int .i64 0, .int .u64 0, .int .i64 0]] W fun e w' => ∃ g, e = .returned (.tuple #[.slice (some ⟨g, 0, none⟩) 8 8, .bool true]) ∧ WordsAt w' (.slice (some ⟨g, 0, none⟩) 8 8) [0, 0, 0, 0, 0, 0, 0, 0] ∧ W.heap.size ≤ g ∧ Frm.Turn [] W w') :=
    Lib.hid fun W => Words_yes 0 0 0 0 0 0 0 0 W (w64s _ (by omega)) (w64s _ (by omega)) (w64s _ (by omega)) (w64s _ (by omega)) head0
  have HR : Hid (∀ W : World, Calls Tryd.prog 14 #[.slice (some ⟨W.heap.size, 0, none⟩) 8 8] (W.alloc (.cells #[.int .u64 65537, .int .u64 0, .int .u64 0, .int .u64 131074, .int .u64 255, .int .u64 1, .int .u64 0, .int .u64 0] 22)) fun e w' => e = .returned (.tuple #[.int .u64 65537, .agg #[.int .u64 0, .int .i64 0, .int .u64 131074, .int .i64 255, .int .i64 1, .int .u64 0, .int .i64 0], .bool true]) ∧ Frm.Turn [] (W.alloc (.cells #[.int .u64 65537, .int .u64 0, .int .u64 0, .int .u64 131074, .int .u64 255, .int .u64 1, .int .u64 0, .int .u64 0] 22)) w') :=
    Lib.hid fun W => read1 _ _ (words1 W)
  have HEW : Hid (∀ W : World, Frm.Turn [] w W → Calls Tryd.prog 11 #[.agg #[.int .i64 254, .int .u64 30064771077, .int .u64 65537]] W fun e w' => ∃ g, e = .returned (.tuple #[.slice (some ⟨g, 0, none⟩) 3 3, .bool true]) ∧ WordsAt w' (.slice (some ⟨g, 0, none⟩) 3 3) [254, 30064771077, 65537] ∧ W.heap.size ≤ g ∧ Frm.Turn [] W w') :=
    Lib.hid fun W hT => EntryWords_yes 254 30064771077 65537 W (hk.turn hT) (w64s _ (by omega)) (w64s _ (by omega)) ent1
  have HRE : Hid (∀ W : World, Frm.Turn [] w W → Calls Tryd.prog 16 #[.slice (some ⟨W.heap.size, 0, none⟩) 3 3] (W.alloc (.cells #[.int .u64 3, .int .u64 4294967296, .int .u64 0] 22)) fun e w' => e = .returned (.tuple #[.agg #[.int .i64 3, .int .u64 4294967296, .int .u64 0], .bool true]) ∧ Frm.Turn [] (W.alloc (.cells #[.int .u64 3, .int .u64 4294967296, .int .u64 0] 22)) w') :=
    Lib.hid fun W hT => by
      have h := ReadEntry_three 3 4294967296 0 _ _ (words_made W [3, 4294967296, 0]) (hk.turn (hT.alloc _)) (w64s _ (by omega)) (w64s _ (by omega)) true (by rw [i3]; exact ent2)
      rw [i3] at h
      exact h
  have HRF : Hid (∀ (W : World) (o : Obj), Frm.Turn [] w W → Calls Tryd.prog 16 #[.slice (some ⟨W.heap.size + 1, 0, none⟩) 3 3] ((W.alloc o).alloc (.cells #[.int .u64 255, .int .u64 0, .int .u64 0] 22)) fun e w' => e = .returned (.tuple #[.agg #[.int .i64 0, .int .u64 0, .int .u64 0], .bool false]) ∧ Frm.Turn [] ((W.alloc o).alloc (.cells #[.int .u64 255, .int .u64 0, .int .u64 0] 22)) w') :=
    Lib.hid fun W o hT => by
      have h := ReadEntry_three 255 0 0 (.slice (some ⟨W.heap.size + 1, 0, none⟩) 3 3) ((W.alloc o).alloc (.cells #[.int .u64 255, .int .u64 0, .int .u64 0] 22)) (by have := words_made (W.alloc o) [255, 0, 0]; rwa [World.size_alloc] at this) (hk.turn ((hT.alloc _).alloc _)) (w64s _ (by omega)) (w64s _ (by omega)) false (by rw [i255]; exact ent3)
      rw [i255] at h
      exact h
  have HN : Hid (∀ W : World, Calls Tryd.prog 24 #[.int .i64 9] W fun e w' => ∃ b M, e = .returned (.tuple #[.pointer (some ⟨b, 0, none⟩), .int .i64 0]) ∧ Sin W b M (Ar.new 9) 0 w') := Lib.hid fun W => sin_new 9 W (by omega)
  have HL1 : Hid (∀ (V : World) (b : Nat) (M : Mem) (W : World), Sin V b M (Ar.new 9) 0 W → Calls Tryd.prog 25 #[.pointer (some ⟨b, 0, none⟩), .slice (some ⟨W.heap.size, 0, none⟩) 3 3] (W.alloc (.cells #[.int .u64 3, .int .u64 4294967296, .int .u64 0] 22)) fun e w' => e = .returned (.tuple #[.int .u64 65537, .int .i64 0]) ∧ ∃ M', Sin V b M' f1 1 w') :=
    Lib.hid fun V b M W h => (sin_lay (h.step ((Frm.Turn.refl [] W).alloc _)) (by omega) (words_made W [3, 4294967296, 0]) (fun _ k hk hk' => by simp [Value.ownBlock] at hk; subst hk; have := h.lt hk'; omega) (by intro x hx; simp at hx; rcases hx with rfl | rfl | rfl <;> exact w64s _ (by omega))).mono
      (by rw [e1]; rintro e w' ⟨h1, M', h2, _⟩; exact ⟨h1, M', h2⟩)
  have HL2 : Hid (∀ (V : World) (b : Nat) (M : Mem) (W : World), Sin V b M f1 1 W → Calls Tryd.prog 25 #[.pointer (some ⟨b, 0, none⟩), .slice (some ⟨W.heap.size, 0, none⟩) 3 3] (W.alloc (.cells #[.int .u64 4, .int .u64 4294967296, .int .u64 65537] 22)) fun e w' => e = .returned (.tuple #[.int .u64 131074, .int .i64 0]) ∧ ∃ M', Sin V b M' f2 2 w') :=
    Lib.hid fun V b M W h => (sin_lay (h.step ((Frm.Turn.refl [] W).alloc _)) (by omega) (words_made W [4, 4294967296, 65537]) (fun _ k hk hk' => by simp [Value.ownBlock] at hk; subst hk; have := h.lt hk'; omega) (by intro x hx; simp at hx; rcases hx with rfl | rfl | rfl <;> exact w64s _ (by omega))).mono
      (by rw [e2]; rintro e w' ⟨h1, M', h2, _⟩; exact ⟨h1, M', h2⟩)
  have HLi : Hid (∀ (V : World) (b : Nat) (M : Mem) (W : World), Frm.Turn [] w V → Sin V b M f2 2 W → Calls Tryd.prog 20 #[.pointer (some ⟨b, 0, none⟩), .int .u64 131074] W fun e w' => ∃ v, e = .returned (.tuple #[v, .bool true]) ∧ w'.ownsRow W.heap.size 26 3 v 2 [.int .i64 4, .int .u64 4294967296, .int .u64 65537, .int .i64 3, .int .u64 4294967296, .int .u64 0] ∧ Frm.Turn [] W w') :=
    Lib.hid fun V b M W hV h => (List_of _ _ _ _ (follow_any h.at_ (hk.turn (hV.trans h.turn (by simp))) 131074 (w64s _ (by omega)))).mono (by rw [chain2]; intro e w' he; exact list_some he)
  have HHa : Hid (∀ (V : World) (b : Nat) (M : Mem) (W : World), Frm.Turn [] w V → Sin V b M f2 2 W → Calls Tryd.prog 21 #[.pointer (some ⟨b, 0, none⟩), .int .u64 131074] W fun e w' => ∃ v, e = .returned (.tuple #[v, .bool true]) ∧ w'.ownsRow W.heap.size 22 1 v 2 [.int .u64 131074, .int .u64 65537] ∧ Frm.Turn [] W w') :=
    Lib.hid fun V b M W hV h => (Handles_of _ _ _ _ (follow_any h.at_ (hk.turn (hV.trans h.turn (by simp))) 131074 (w64s _ (by omega)))).mono (by rw [chain2]; intro e w' he; exact hands_some he)
  have eqv := fun W : World => eq_ver W 0 0 131074 255 1 0 0
  have eqe := fun W : World => eq_ent W 3 4294967296 0
  have TR := Lib.hid (Frm.Turn.refl [] w)
  clear i0 i1 i3 i255 hk
  go_enter Tryd.func8, Tryd.ntmps8
  go_wp2_with (first
    | (go_at_call 9; (with_reducible refine (HW.out _).mono ?_); rintro e w1 ⟨g, rfl, hw, _, hT⟩; have HW1 := Lib.hid hw; have T1 := Lib.hid (TR.out.trans hT (by simp)); clear hw hT)
    | (go_at_call 14; (with_reducible refine (HR.out _).mono ?_); rintro e w2 ⟨rfl, hT⟩; have T2 := Lib.hid ((T1.out.alloc _).trans hT (by simp)); have X2 := Lib.hid (((Frm.Turn.refl [] w1).alloc _).trans hT (by simp)); clear hT)
    | (go_at_call 11; (with_reducible refine (HEW.out _ (T2.out.alloc _)).mono ?_); rintro e w3 ⟨g3, rfl, hw, _, hT⟩; have B3 := Lib.hid (hT.keep (heap_new w2 _) (by simp)); have T3 := Lib.hid ((T2.out.alloc _).trans hT (by simp)); have X3 := Lib.hid ((X2.out.alloc _).trans hT (by simp)); clear hw hT)
    | (go_at_call 16; (with_reducible refine (HRE.out _ T3.out).mono ?_); rintro e w4 ⟨rfl, hT⟩; have T4 := Lib.hid ((T3.out.alloc _).trans hT (by simp)); have Y4 := Lib.hid (((Frm.Turn.refl [] w3).alloc _).trans hT (by simp)); clear hT)
    | (go_at_call 16; (with_reducible refine (HRF.out _ _ T4.out).mono ?_); rintro e w5 ⟨rfl, hT⟩; have T5 := Lib.hid (((T4.out.alloc _).alloc _).trans hT (by simp)); have Y5 := Lib.hid (((Y4.out.alloc _).alloc _).trans hT (by simp)); have B5 := Lib.hid (hT.keep (Ops.heap_below w4 _ _) (by simp)); clear hT)
    | (go_at_call 24; (with_reducible refine (HN.out _).mono ?_); rintro e w6 ⟨b, M, rfl, h⟩; have HS0 := Lib.hid h; have TV := Lib.hid (T5.out.alloc (.cells #[.int .i64 0, .int .u64 0, .int .u64 0] 26)); clear h)
    | (go_at_call 25; (with_reducible refine (HL1.out _ _ _ _ HS0.out).mono ?_); rintro e w7 ⟨rfl, M1, h⟩; have HS1 := Lib.hid h; clear h)
    | (go_at_call 25; (with_reducible refine (HL2.out _ _ _ _ HS1.out).mono ?_); rintro e w8 ⟨rfl, M2, h⟩; have HS2 := Lib.hid h; clear h)
    | (go_at_call 20; (with_reducible refine (HLi.out _ _ _ _ TV.out HS2.out).mono ?_); rintro e w9 ⟨v9, rfl, ho, hT⟩; obtain ⟨gl, cl, rfl⟩ := ownsRow_succ ho; have HO9 := Lib.hid ho; have T9 := Lib.hid hT; clear ho hT)
    | (go_at_call 21; (with_reducible refine (HHa.out _ _ _ _ TV.out (HS2.out.step T9.out)).mono ?_); rintro e w10 ⟨v10, rfl, ho, hT⟩; obtain ⟨gh, ch, rfl⟩ := ownsRow_succ ho; have HO10 := Lib.hid ho; have T10 := Lib.hid hT; clear ho hT))
  have Z5 : Frm.Turn [] w5 w10 := ((((Frm.Turn.refl [] w5).alloc _).trans HS2.out.turn (by simp)).trans T9.out (by simp)).trans T10.out (by simp)
  have Z3 := Y5.out.trans Z5 (by simp)
  have Z1 := X3.out.trans Z3 (by simp)
  have ZW : Frm.Turn [] w w10 := T5.out.trans Z5 (by simp)
  have HV := Lib.hid (Z3.keep B3.out (by simp))
  have HE := Lib.hid (Z5.keep B5.out (by simp))
  have hl := fun j u hu => T10.out.cell (World.ownsRow.cells HO9.out rfl j u hu) (by simp)
  have hh := fun j u hu => World.ownsRow.cells HO10.out rfl j u hu
  have l3 := hl 3 _ rfl
  have l4 := hl 4 _ rfl
  have l5 := hl 5 _ rfl
  have h0 := hh 0 _ rfl
  rw [Addr.add_lit, Nat.zero_add] at l3 l4 l5 h0
  have HL := Lib.hid (And.intro l3 (And.intro l4 (And.intro l5 h0)))
  have HWd : Hid (Calls Tryd.prog 13 #[.slice (some ⟨g, 0, none⟩) 8 8, .slice (some ⟨w10.heap.size, 0, none⟩) 8 8] ((w10.alloc (.cells #[.int .u64 0, .int .u64 0, .int .u64 0, .int .u64 0, .int .u64 0, .int .u64 0, .int .u64 0, .int .u64 0] 22)).drew) fun e w' => e = .returned (.int .i64 1) ∧ Frm.Turn [] ((w10.alloc (.cells #[.int .u64 0, .int .u64 0, .int .u64 0, .int .u64 0, .int .u64 0, .int .u64 0, .int .u64 0, .int .u64 0] 22)).drew) w') :=
    Lib.hid (Words_same (WordsAt.turn' HW1.out (Z1.alloc _).drew) (WordsAt.turn' (words_made w10 [0, 0, 0, 0, 0, 0, 0, 0]) (Frm.Turn.refl [] _).drew) (by simp))
  have HZW := Lib.hid ZW
  clear Z5 Z3 Z1 ZW hl hh l3 l4 l5 h0 HW1 T1 T2 X2 B3 T3 X3 T4 Y4 T5 Y5 B5 HS0 TV HS1 HS2 HO9 T9 HO10 T10 HW HR HEW HRE HRF HN HL1 HL2 HLi HHa
  have hmk := make8
  have HS : Hid (∀ W' : World, Frm.Turn [] w10 W' → W'.cell? ⟨w2.heap.size, 0, none⟩ = some (.int .u64 0) ∧ W'.cell? ⟨w2.heap.size, 1, none⟩ = some (.int .i64 0) ∧ W'.cell? ⟨w2.heap.size, 2, none⟩ = some (.int .u64 131074) ∧ W'.cell? ⟨w2.heap.size, 3, none⟩ = some (.int .i64 255) ∧ W'.cell? ⟨w2.heap.size, 4, none⟩ = some (.int .i64 1) ∧ W'.cell? ⟨w2.heap.size, 5, none⟩ = some (.int .u64 0) ∧ W'.cell? ⟨w2.heap.size, 6, none⟩ = some (.int .i64 0) ∧ W'.cell? ⟨w4.heap.size, 0, none⟩ = some (.int .i64 3) ∧ W'.cell? ⟨w4.heap.size, 1, none⟩ = some (.int .u64 4294967296) ∧ W'.cell? ⟨w4.heap.size, 2, none⟩ = some (.int .u64 0) ∧ W'.cell? ⟨gl, 3, none⟩ = some (.int .i64 3) ∧ W'.cell? ⟨gl, 4, none⟩ = some (.int .u64 4294967296) ∧ W'.cell? ⟨gl, 5, none⟩ = some (.int .u64 0) ∧ W'.cell? ⟨gh, 0, none⟩ = some (.int .u64 131074)) := Lib.hid fun W' ZT => by
    obtain ⟨⟨e0, e1, e2, e3, e4, e5, e6⟩, _⟩ := blk7 (ZT.keep HV.out (by simp))
    obtain ⟨⟨d0, d1, d2⟩, _⟩ := blk3 (ZT.keep HE.out (by simp))
    exact ⟨e0, e1, e2, e3, e4, e5, e6, d0, d1, d2, ZT.cell HL.out.1 (by simp), ZT.cell HL.out.2.1 (by simp), ZT.cell HL.out.2.2.1 (by simp), ZT.cell HL.out.2.2.2 (by simp)⟩
  simp only [List.append_eq, List.cons_append, List.nil_append]
  refine wp_region_held_drew (S := fun W' => W'.cell? ⟨w2.heap.size, 0, none⟩ = some (.int .u64 0) ∧ W'.cell? ⟨w2.heap.size, 1, none⟩ = some (.int .i64 0) ∧ W'.cell? ⟨w2.heap.size, 2, none⟩ = some (.int .u64 131074) ∧ W'.cell? ⟨w2.heap.size, 3, none⟩ = some (.int .i64 255) ∧ W'.cell? ⟨w2.heap.size, 4, none⟩ = some (.int .i64 1) ∧ W'.cell? ⟨w2.heap.size, 5, none⟩ = some (.int .u64 0) ∧ W'.cell? ⟨w2.heap.size, 6, none⟩ = some (.int .i64 0) ∧ W'.cell? ⟨w4.heap.size, 0, none⟩ = some (.int .i64 3) ∧ W'.cell? ⟨w4.heap.size, 1, none⟩ = some (.int .u64 4294967296) ∧ W'.cell? ⟨w4.heap.size, 2, none⟩ = some (.int .u64 0) ∧ W'.cell? ⟨gl, 3, none⟩ = some (.int .i64 3) ∧ W'.cell? ⟨gl, 4, none⟩ = some (.int .u64 4294967296) ∧ W'.cell? ⟨gl, 5, none⟩ = some (.int .u64 0) ∧ W'.cell? ⟨gh, 0, none⟩ = some (.int .u64 131074)) (by kernel_rfl) ?_ (fun hHeld => ?_)
  · exact HS.out _ (Frm.Turn.refl [] w10).drew
  refine wpAnyH_take (i := 0) (v := ?_) rfl (by kernel_rfl) (by kernel_rfl) (by kernel_rfl) (fun _ _ _ h => h) (Or.inl ⟨by rfl, ?_⟩) (by assumption) ?_
  rotate_left
  · (intro w hSw; (try dsimp only at hSw); go_simp; try with_reducible rfl)
  try simp only [Act.put, List.getElem_toArray, List.getElem_cons_succ, List.getElem_cons_zero, List.setIfInBounds_toArray, List.set_cons_zero, List.set_cons_succ]
  refine wpAnyH_take (i := 1) (v := ?_) rfl (by kernel_rfl) (by kernel_rfl) (by kernel_rfl) (fun _ _ _ h => h) (Or.inl ⟨by rfl, ?_⟩) (by assumption) ?_
  rotate_left
  · (intro w hSw; (try dsimp only at hSw); go_simp; try with_reducible rfl)
  try simp only [Act.put, List.getElem_toArray, List.getElem_cons_succ, List.getElem_cons_zero, List.setIfInBounds_toArray, List.set_cons_zero, List.set_cons_succ]
  refine wpAnyH_take (i := 2) (v := ?_) rfl (by kernel_rfl) (by kernel_rfl) (by kernel_rfl) (fun _ _ _ h => h) (Or.inl ⟨by rfl, ?_⟩) (by assumption) ?_
  rotate_left
  · (intro w hSw; (try dsimp only at hSw); go_simp; try with_reducible rfl)
  try simp only [Act.put, List.getElem_toArray, List.getElem_cons_succ, List.getElem_cons_zero, List.setIfInBounds_toArray, List.set_cons_zero, List.set_cons_succ]
  refine wpAnyH_ready (rs := [3]) (by kernel_rfl) (by simp) ?_
  refine AllReadyH.cons rfl (fun K hK => ?_) AllReadyH.nil
  try simp only [List.getElem_toArray, List.getElem_cons_succ, List.getElem_cons_zero]
  go_simp
  refine hK _ _ (HS.out _ ((Frm.Turn.refl [] w10).drew.alloc _)) (fun hHeld => ?_)
  clear hK K
  try simp only [Act.put, List.getElem_toArray, List.getElem_cons_succ, List.getElem_cons_zero, List.setIfInBounds_toArray, List.set_cons_zero, List.set_cons_succ]
  refine wpAnyH_ready (rs := [4]) (by kernel_rfl) (by simp) ?_
  refine AllReadyH.cons rfl (fun K hK => ?_) AllReadyH.nil
  have HK4 := Lib.hid hK
  clear hK
  try simp only [List.getElem_toArray, List.getElem_cons_succ, List.getElem_cons_zero]
  go_simp
  (go_at_call 13; go_must (with_reducible refine (HWd.out).mono ?_))
  rintro e w11 ⟨rfl, hT⟩
  have ZT : Hid (Frm.Turn [] w10 w11) := Lib.hid ((((Frm.Turn.refl [] w10).alloc _).drew).trans hT (by simp))
  clear hT
  refine HK4.out _ _ (HS.out _ ZT.out) (fun hHeld => ?_)
  clear HK4 K
  try simp only [Act.put, List.getElem_toArray, List.getElem_cons_succ, List.getElem_cons_zero, List.setIfInBounds_toArray, List.set_cons_zero, List.set_cons_succ]
  refine wpAnyH_take (i := 5) (v := ?_) rfl (by kernel_rfl) (by kernel_rfl) (by kernel_rfl) (fun _ _ _ h => h) (Or.inl ⟨by rfl, ?_⟩) (by assumption) ?_
  rotate_left
  · (intro w hSw; (try dsimp only at hSw); go_simp; try with_reducible rfl)
  try simp only [Act.put, List.getElem_toArray, List.getElem_cons_succ, List.getElem_cons_zero, List.setIfInBounds_toArray, List.set_cons_zero, List.set_cons_succ]
  refine wpAnyH_take (i := 6) (v := ?_) rfl (by kernel_rfl) (by kernel_rfl) (by kernel_rfl) (fun _ _ _ h => h) (Or.inl ⟨by rfl, ?_⟩) (by assumption) ?_
  rotate_left
  · (intro w hSw; (try dsimp only at hSw); go_simp; try with_reducible rfl)
  try simp only [Act.put, List.getElem_toArray, List.getElem_cons_succ, List.getElem_cons_zero, List.setIfInBounds_toArray, List.set_cons_zero, List.set_cons_succ]
  refine wpAnyH_take (i := 7) (v := ?_) rfl (by kernel_rfl) (by kernel_rfl) (by kernel_rfl) (fun _ _ _ h => h) (Or.inl ⟨by rfl, ?_⟩) (by assumption) ?_
  rotate_left
  · (intro w hSw; (try dsimp only at hSw); go_simp; try with_reducible rfl)
  try simp only [Act.put, List.getElem_toArray, List.getElem_cons_succ, List.getElem_cons_zero, List.setIfInBounds_toArray, List.set_cons_zero, List.set_cons_succ]
  refine wpAnyH_take (i := 8) (v := ?_) rfl (by kernel_rfl) (by kernel_rfl) (by kernel_rfl) (fun _ _ _ h => h) (Or.inl ⟨by rfl, ?_⟩) (by assumption) ?_
  rotate_left
  · (intro w hSw; (try dsimp only at hSw); go_simp; try with_reducible rfl)
  try simp only [Act.put, List.getElem_toArray, List.getElem_cons_succ, List.getElem_cons_zero, List.setIfInBounds_toArray, List.set_cons_zero, List.set_cons_succ]
  refine wpAnyH_take (i := 9) (v := ?_) rfl (by kernel_rfl) (by kernel_rfl) (by kernel_rfl) (fun _ _ _ h => h) (Or.inl ⟨by rfl, ?_⟩) (by assumption) ?_
  rotate_left
  · (intro w hSw; (try dsimp only at hSw); go_simp; try with_reducible rfl)
  try simp only [Act.put, List.getElem_toArray, List.getElem_cons_succ, List.getElem_cons_zero, List.setIfInBounds_toArray, List.set_cons_zero, List.set_cons_succ]
  refine wpAnyH_take (i := 10) (v := ?_) rfl (by kernel_rfl) (by kernel_rfl) (by kernel_rfl) (fun _ _ _ h => h) (Or.inl ⟨by rfl, ?_⟩) (by assumption) ?_
  rotate_left
  · (intro w hSw; (try dsimp only at hSw); go_simp; try with_reducible rfl)
  try simp only [Act.put, List.getElem_toArray, List.getElem_cons_succ, List.getElem_cons_zero, List.setIfInBounds_toArray, List.set_cons_zero, List.set_cons_succ]
  refine wpAnyH_take (i := 11) (v := ?_) rfl (by kernel_rfl) (by kernel_rfl) (by kernel_rfl) (fun _ _ _ h => h) (Or.inl ⟨by rfl, ?_⟩) (by assumption) ?_
  rotate_left
  · (intro w hSw; (try dsimp only at hSw); go_simp; try with_reducible rfl)
  try simp only [Act.put, List.getElem_toArray, List.getElem_cons_succ, List.getElem_cons_zero, List.setIfInBounds_toArray, List.set_cons_zero, List.set_cons_succ]
  refine wpAnyH_take (i := 12) (v := ?_) rfl (by kernel_rfl) (by kernel_rfl) (by kernel_rfl) (fun _ _ _ h => h) (Or.inl ⟨by rfl, ?_⟩) (by assumption) ?_
  rotate_left
  · (intro w hSw; (try dsimp only at hSw); go_simp; try with_reducible rfl)
  try simp only [Act.put, List.getElem_toArray, List.getElem_cons_succ, List.getElem_cons_zero, List.setIfInBounds_toArray, List.set_cons_zero, List.set_cons_succ]
  refine wpAnyH_take (i := 13) (v := ?_) rfl (by kernel_rfl) (by kernel_rfl) (by kernel_rfl) (fun _ _ _ h => h) (Or.inl ⟨by rfl, ?_⟩) (by assumption) ?_
  rotate_left
  · (intro w hSw; (try dsimp only at hSw); go_simp; try with_reducible rfl)
  try simp only [Act.put, List.getElem_toArray, List.getElem_cons_succ, List.getElem_cons_zero, List.setIfInBounds_toArray, List.set_cons_zero, List.set_cons_succ]
  refine wpAnyH_take (i := 14) (v := ?_) rfl (by kernel_rfl) (by kernel_rfl) (by kernel_rfl) (fun _ _ _ h => h) (Or.inl ⟨by rfl, ?_⟩) (by assumption) ?_
  rotate_left
  · (intro w hSw; (try dsimp only at hSw); go_simp; try with_reducible rfl)
  try simp only [Act.put, List.getElem_toArray, List.getElem_cons_succ, List.getElem_cons_zero, List.setIfInBounds_toArray, List.set_cons_zero, List.set_cons_succ]
  refine wpAnyH_take (i := 15) (v := ?_) rfl (by kernel_rfl) (by kernel_rfl) (by kernel_rfl) (fun _ _ _ h => h) (Or.inl ⟨by rfl, ?_⟩) (by assumption) ?_
  rotate_left
  · (intro w hSw; (try dsimp only at hSw); go_simp; try with_reducible rfl)
  try simp only [Act.put, List.getElem_toArray, List.getElem_cons_succ, List.getElem_cons_zero, List.setIfInBounds_toArray, List.set_cons_zero, List.set_cons_succ]
  refine wpAnyH_take (i := 16) (v := ?_) rfl (by kernel_rfl) (by kernel_rfl) (by kernel_rfl) (fun _ _ _ h => h) (Or.inl ⟨by rfl, ?_⟩) (by assumption) ?_
  rotate_left
  · (intro w hSw; (try dsimp only at hSw); go_simp; try with_reducible rfl)
  try simp only [Act.put, List.getElem_toArray, List.getElem_cons_succ, List.getElem_cons_zero, List.setIfInBounds_toArray, List.set_cons_zero, List.set_cons_succ]
  refine wpAnyH_take (i := 17) (v := ?_) rfl (by kernel_rfl) (by kernel_rfl) (by kernel_rfl) (fun _ _ _ h => h) (Or.inl ⟨by rfl, ?_⟩) (by assumption) ?_
  rotate_left
  · (intro w hSw; (try dsimp only at hSw); go_simp; try with_reducible rfl)
  try simp only [Act.put, List.getElem_toArray, List.getElem_cons_succ, List.getElem_cons_zero, List.setIfInBounds_toArray, List.set_cons_zero, List.set_cons_succ]
  refine wpAnyH_take (i := 18) (v := ?_) rfl (by kernel_rfl) (by kernel_rfl) (by kernel_rfl) (fun _ _ _ h => h) (Or.inl ⟨by rfl, ?_⟩) (by assumption) ?_
  rotate_left
  · (intro w hSw; (try dsimp only at hSw); go_simp; try with_reducible rfl)
  try simp only [Act.put, List.getElem_toArray, List.getElem_cons_succ, List.getElem_cons_zero, List.setIfInBounds_toArray, List.set_cons_zero, List.set_cons_succ]
  refine wpAnyH_take (i := 19) (v := ?_) rfl (by kernel_rfl) (by kernel_rfl) (by kernel_rfl) (fun _ _ _ h => h) (Or.inl ⟨by rfl, ?_⟩) (by assumption) ?_
  rotate_left
  · (intro w hSw; (try dsimp only at hSw); go_simp; try with_reducible rfl)
  try simp only [Act.put, List.getElem_toArray, List.getElem_cons_succ, List.getElem_cons_zero, List.setIfInBounds_toArray, List.set_cons_zero, List.set_cons_succ]
  refine wpAnyH_take (i := 20) (v := ?_) rfl (by kernel_rfl) (by kernel_rfl) (by kernel_rfl) (fun _ _ _ h => h) (Or.inl ⟨by rfl, ?_⟩) (by assumption) ?_
  rotate_left
  · (intro w hSw; (try dsimp only at hSw); go_simp; try with_reducible rfl)
  try simp only [Act.put, List.getElem_toArray, List.getElem_cons_succ, List.getElem_cons_zero, List.setIfInBounds_toArray, List.set_cons_zero, List.set_cons_succ]
  refine wpAnyH_take (i := 21) (v := ?_) rfl (by kernel_rfl) (by kernel_rfl) (by kernel_rfl) (fun _ _ _ h => h) (Or.inl ⟨by rfl, ?_⟩) (by assumption) ?_
  rotate_left
  · (intro w hSw; (try dsimp only at hSw); go_simp; try with_reducible rfl)
  try simp only [Act.put, List.getElem_toArray, List.getElem_cons_succ, List.getElem_cons_zero, List.setIfInBounds_toArray, List.set_cons_zero, List.set_cons_succ]
  refine wpAnyH_take (i := 22) (v := ?_) rfl (by kernel_rfl) (by kernel_rfl) (by kernel_rfl) (fun _ _ _ h => h) (Or.inl ⟨by rfl, ?_⟩) (by assumption) ?_
  rotate_left
  · (intro w hSw; (try dsimp only at hSw); go_simp; try with_reducible rfl)
  try simp only [Act.put, List.getElem_toArray, List.getElem_cons_succ, List.getElem_cons_zero, List.setIfInBounds_toArray, List.set_cons_zero, List.set_cons_succ]
  refine wpAnyH_take (i := 23) (v := ?_) rfl (by kernel_rfl) (by kernel_rfl) (by kernel_rfl) (fun _ _ _ h => h) (Or.inl ⟨by rfl, ?_⟩) (by assumption) ?_
  rotate_left
  · (intro w hSw; (try dsimp only at hSw); go_simp; try with_reducible rfl)
  try simp only [Act.put, List.getElem_toArray, List.getElem_cons_succ, List.getElem_cons_zero, List.setIfInBounds_toArray, List.set_cons_zero, List.set_cons_succ]
  refine wpAnyH_take (i := 24) (v := ?_) rfl (by kernel_rfl) (by kernel_rfl) (by kernel_rfl) (fun _ _ _ h => h) (Or.inl ⟨by rfl, ?_⟩) (by assumption) ?_
  rotate_left
  · (intro w hSw; (try dsimp only at hSw); go_simp; try with_reducible rfl)
  try simp only [Act.put, List.getElem_toArray, List.getElem_cons_succ, List.getElem_cons_zero, List.setIfInBounds_toArray, List.set_cons_zero, List.set_cons_succ]
  refine wpAnyH_take (i := 25) (v := ?_) rfl (by kernel_rfl) (by kernel_rfl) (by kernel_rfl) (fun _ _ _ h => h) (Or.inl ⟨by rfl, ?_⟩) (by assumption) ?_
  rotate_left
  · (intro w hSw; (try dsimp only at hSw); go_simp; try with_reducible rfl)
  try simp only [Act.put, List.getElem_toArray, List.getElem_cons_succ, List.getElem_cons_zero, List.setIfInBounds_toArray, List.set_cons_zero, List.set_cons_succ]
  refine wpAnyH_take (i := 26) (v := ?_) rfl (by kernel_rfl) (by kernel_rfl) (by kernel_rfl) (fun _ _ _ h => h) (Or.inl ⟨by rfl, ?_⟩) (by assumption) ?_
  rotate_left
  · (intro w hSw; (try dsimp only at hSw); go_simp; try with_reducible rfl)
  try simp only [Act.put, List.getElem_toArray, List.getElem_cons_succ, List.getElem_cons_zero, List.setIfInBounds_toArray, List.set_cons_zero, List.set_cons_succ]
  refine wpAnyH_take (i := 27) (v := ?_) rfl (by kernel_rfl) (by kernel_rfl) (by kernel_rfl) (fun _ _ _ h => h) (Or.inl ⟨by rfl, ?_⟩) (by assumption) ?_
  rotate_left
  · (intro w hSw; (try dsimp only at hSw); go_simp; try with_reducible rfl)
  try simp only [Act.put, List.getElem_toArray, List.getElem_cons_succ, List.getElem_cons_zero, List.setIfInBounds_toArray, List.set_cons_zero, List.set_cons_succ]
  refine wpAnyH_take (i := 28) (v := ?_) rfl (by kernel_rfl) (by kernel_rfl) (by kernel_rfl) (fun _ _ _ h => h) (Or.inl ⟨by rfl, ?_⟩) (by assumption) ?_
  rotate_left
  · (intro w hSw; (try dsimp only at hSw); go_simp; try with_reducible rfl)
  try simp only [Act.put, List.getElem_toArray, List.getElem_cons_succ, List.getElem_cons_zero, List.setIfInBounds_toArray, List.set_cons_zero, List.set_cons_succ]
  refine wpAnyH_take (i := 29) (v := ?_) rfl (by kernel_rfl) (by kernel_rfl) (by kernel_rfl) (fun _ _ _ h => h) (Or.inl ⟨by rfl, ?_⟩) (by assumption) ?_
  rotate_left
  · (intro w hSw; (try dsimp only at hSw); go_simp; try with_reducible rfl)
  try simp only [Act.put, List.getElem_toArray, List.getElem_cons_succ, List.getElem_cons_zero, List.setIfInBounds_toArray, List.set_cons_zero, List.set_cons_succ]
  refine wpAnyH_take (i := 30) (v := ?_) rfl (by kernel_rfl) (by kernel_rfl) (by kernel_rfl) (fun _ _ _ h => h) (Or.inl ⟨by rfl, ?_⟩) (by assumption) ?_
  rotate_left
  · (intro w hSw; (try dsimp only at hSw); go_simp; try with_reducible rfl)
  try simp only [Act.put, List.getElem_toArray, List.getElem_cons_succ, List.getElem_cons_zero, List.setIfInBounds_toArray, List.set_cons_zero, List.set_cons_succ]
  refine wpAnyH_take (i := 31) (v := ?_) rfl (by kernel_rfl) (by kernel_rfl) (by kernel_rfl) (fun _ _ _ h => h) (Or.inl ⟨by rfl, ?_⟩) (by assumption) ?_
  rotate_left
  · (intro w hSw; (try dsimp only at hSw); go_simp; try with_reducible rfl)
  try simp only [Act.put, List.getElem_toArray, List.getElem_cons_succ, List.getElem_cons_zero, List.setIfInBounds_toArray, List.set_cons_zero, List.set_cons_succ]
  refine wpAnyH_take (i := 32) (v := ?_) rfl (by kernel_rfl) (by kernel_rfl) (by kernel_rfl) (fun _ _ _ h => h) (Or.inl ⟨by rfl, ?_⟩) (by assumption) ?_
  rotate_left
  · (intro w hSw; (try dsimp only at hSw); go_simp; try with_reducible rfl)
  try simp only [Act.put, List.getElem_toArray, List.getElem_cons_succ, List.getElem_cons_zero, List.setIfInBounds_toArray, List.set_cons_zero, List.set_cons_succ]
  refine wpAnyH_take (i := 33) (v := ?_) rfl (by kernel_rfl) (by kernel_rfl) (by kernel_rfl) (fun _ _ _ h => h) (Or.inl ⟨by rfl, ?_⟩) (by assumption) ?_
  rotate_left
  · (intro w hSw; (try dsimp only at hSw); go_simp; try with_reducible rfl)
  try simp only [Act.put, List.getElem_toArray, List.getElem_cons_succ, List.getElem_cons_zero, List.setIfInBounds_toArray, List.set_cons_zero, List.set_cons_succ]
  refine wpAnyH_take (i := 34) (v := ?_) rfl (by kernel_rfl) (by kernel_rfl) (by kernel_rfl) (fun _ _ _ h => h) (Or.inl ⟨by rfl, ?_⟩) (by assumption) ?_
  rotate_left
  · (intro w hSw; (try dsimp only at hSw); go_simp; try with_reducible rfl)
  try simp only [Act.put, List.getElem_toArray, List.getElem_cons_succ, List.getElem_cons_zero, List.setIfInBounds_toArray, List.set_cons_zero, List.set_cons_succ]
  refine wpAnyH_take (i := 35) (v := ?_) rfl (by kernel_rfl) (by kernel_rfl) (by kernel_rfl) (fun _ _ _ h => h) (Or.inl ⟨by rfl, ?_⟩) (by assumption) ?_
  rotate_left
  · (intro w hSw; (try dsimp only at hSw); go_simp; try with_reducible rfl)
  try simp only [Act.put, List.getElem_toArray, List.getElem_cons_succ, List.getElem_cons_zero, List.setIfInBounds_toArray, List.set_cons_zero, List.set_cons_succ]
  refine wpAnyH_take (i := 36) (v := ?_) rfl (by kernel_rfl) (by kernel_rfl) (by kernel_rfl) (fun _ _ _ h => h) (Or.inl ⟨by rfl, ?_⟩) (by assumption) ?_
  rotate_left
  · (intro w hSw; (try dsimp only at hSw); go_simp; try with_reducible rfl)
  try simp only [Act.put, List.getElem_toArray, List.getElem_cons_succ, List.getElem_cons_zero, List.setIfInBounds_toArray, List.set_cons_zero, List.set_cons_succ]
  refine wpAnyH_take (i := 37) (v := ?_) rfl (by kernel_rfl) (by kernel_rfl) (by kernel_rfl) (fun _ _ _ h => h) (Or.inl ⟨by rfl, ?_⟩) (by assumption) ?_
  rotate_left
  · (intro w hSw; (try dsimp only at hSw); go_simp; try with_reducible rfl)
  try simp only [Act.put, List.getElem_toArray, List.getElem_cons_succ, List.getElem_cons_zero, List.setIfInBounds_toArray, List.set_cons_zero, List.set_cons_succ]
  refine wpAnyH_take (i := 38) (v := ?_) rfl (by kernel_rfl) (by kernel_rfl) (by kernel_rfl) (fun _ _ _ h => h) (Or.inl ⟨by rfl, ?_⟩) (by assumption) ?_
  rotate_left
  · (intro w hSw; (try dsimp only at hSw); go_simp; try with_reducible rfl)
  try simp only [Act.put, List.getElem_toArray, List.getElem_cons_succ, List.getElem_cons_zero, List.setIfInBounds_toArray, List.set_cons_zero, List.set_cons_succ]
  refine wpAnyH_take (i := 39) (v := ?_) rfl (by kernel_rfl) (by kernel_rfl) (by kernel_rfl) (fun _ _ _ h => h) (Or.inl ⟨by rfl, ?_⟩) (by assumption) ?_
  rotate_left
  · (intro w hSw; (try dsimp only at hSw); go_simp; try with_reducible rfl)
  try simp only [Act.put, List.getElem_toArray, List.getElem_cons_succ, List.getElem_cons_zero, List.setIfInBounds_toArray, List.set_cons_zero, List.set_cons_succ]
  refine wpAnyH_take (i := 40) (v := ?_) rfl (by kernel_rfl) (by kernel_rfl) (by kernel_rfl) (fun _ _ _ h => h) (Or.inl ⟨by rfl, ?_⟩) (by assumption) ?_
  rotate_left
  · (intro w hSw; (try dsimp only at hSw); go_simp; try with_reducible rfl)
  try simp only [Act.put, List.getElem_toArray, List.getElem_cons_succ, List.getElem_cons_zero, List.setIfInBounds_toArray, List.set_cons_zero, List.set_cons_succ]
  refine wpAnyH_take (i := 41) (v := ?_) rfl (by kernel_rfl) (by kernel_rfl) (by kernel_rfl) (fun _ _ _ h => h) (Or.inl ⟨by rfl, ?_⟩) (by assumption) ?_
  rotate_left
  · (intro w hSw; (try dsimp only at hSw); go_simp; try with_reducible rfl)
  try simp only [Act.put, List.getElem_toArray, List.getElem_cons_succ, List.getElem_cons_zero, List.setIfInBounds_toArray, List.set_cons_zero, List.set_cons_succ]
  refine wpAnyH_take (i := 42) (v := ?_) rfl (by kernel_rfl) (by kernel_rfl) (by kernel_rfl) (fun _ _ _ h => h) (Or.inl ⟨by rfl, ?_⟩) (by assumption) ?_
  rotate_left
  · (intro w hSw; (try dsimp only at hSw); go_simp; try with_reducible rfl)
  try simp only [Act.put, List.getElem_toArray, List.getElem_cons_succ, List.getElem_cons_zero, List.setIfInBounds_toArray, List.set_cons_zero, List.set_cons_succ]
  refine wpAnyH_take (i := 43) (v := ?_) rfl (by kernel_rfl) (by kernel_rfl) (by kernel_rfl) (fun _ _ _ h => h) (Or.inl ⟨by rfl, ?_⟩) (by assumption) ?_
  rotate_left
  · (intro w hSw; (try dsimp only at hSw); go_simp; try with_reducible rfl)
  try simp only [Act.put, List.getElem_toArray, List.getElem_cons_succ, List.getElem_cons_zero, List.setIfInBounds_toArray, List.set_cons_zero, List.set_cons_succ]
  refine wpAnyH_take (i := 44) (v := ?_) rfl (by kernel_rfl) (by kernel_rfl) (by kernel_rfl) (fun _ _ _ h => h) (Or.inl ⟨by rfl, ?_⟩) (by assumption) ?_
  rotate_left
  · (intro w hSw; (try dsimp only at hSw); go_simp; try with_reducible rfl)
  try simp only [Act.put, List.getElem_toArray, List.getElem_cons_succ, List.getElem_cons_zero, List.setIfInBounds_toArray, List.set_cons_zero, List.set_cons_succ]
  refine wpAnyH_take (i := 45) (v := ?_) rfl (by kernel_rfl) (by kernel_rfl) (by kernel_rfl) (fun _ _ _ h => h) (Or.inl ⟨by rfl, ?_⟩) (by assumption) ?_
  rotate_left
  · (intro w hSw; (try dsimp only at hSw); go_simp; try with_reducible rfl)
  try simp only [Act.put, List.getElem_toArray, List.getElem_cons_succ, List.getElem_cons_zero, List.setIfInBounds_toArray, List.set_cons_zero, List.set_cons_succ]
  refine wpAnyH_take (i := 46) (v := ?_) rfl (by kernel_rfl) (by kernel_rfl) (by kernel_rfl) (fun _ _ _ h => h) (Or.inl ⟨by rfl, ?_⟩) (by assumption) ?_
  rotate_left
  · (intro w hSw; (try dsimp only at hSw); go_simp; try with_reducible rfl)
  try simp only [Act.put, List.getElem_toArray, List.getElem_cons_succ, List.getElem_cons_zero, List.setIfInBounds_toArray, List.set_cons_zero, List.set_cons_succ]
  refine wpAnyH_take (i := 47) (v := ?_) rfl (by kernel_rfl) (by kernel_rfl) (by kernel_rfl) (fun _ _ _ h => h) (Or.inl ⟨by rfl, ?_⟩) (by assumption) ?_
  rotate_left
  · (intro w hSw; (try dsimp only at hSw); go_simp; try with_reducible rfl)
  try simp only [Act.put, List.getElem_toArray, List.getElem_cons_succ, List.getElem_cons_zero, List.setIfInBounds_toArray, List.set_cons_zero, List.set_cons_succ]
  refine wpAnyH_take (i := 48) (v := ?_) rfl (by kernel_rfl) (by kernel_rfl) (by kernel_rfl) (fun _ _ _ h => h) (Or.inl ⟨by rfl, ?_⟩) (by assumption) ?_
  rotate_left
  · (intro w hSw; (try dsimp only at hSw); go_simp; try with_reducible rfl)
  try simp only [Act.put, List.getElem_toArray, List.getElem_cons_succ, List.getElem_cons_zero, List.setIfInBounds_toArray, List.set_cons_zero, List.set_cons_succ]
  refine wpAnyH_take (i := 49) (v := ?_) rfl (by kernel_rfl) (by kernel_rfl) (by kernel_rfl) (fun _ _ _ h => h) (Or.inl ⟨by rfl, ?_⟩) (by assumption) ?_
  rotate_left
  · (intro w hSw; (try dsimp only at hSw); go_simp; try with_reducible rfl)
  try simp only [Act.put, List.getElem_toArray, List.getElem_cons_succ, List.getElem_cons_zero, List.setIfInBounds_toArray, List.set_cons_zero, List.set_cons_succ]
  refine wpAnyH_take (i := 50) (v := ?_) rfl (by kernel_rfl) (by kernel_rfl) (by kernel_rfl) (fun _ _ _ h => h) (Or.inl ⟨by rfl, ?_⟩) (by assumption) ?_
  rotate_left
  · (intro w hSw; (try dsimp only at hSw); go_simp; try with_reducible rfl)
  try simp only [Act.put, List.getElem_toArray, List.getElem_cons_succ, List.getElem_cons_zero, List.setIfInBounds_toArray, List.set_cons_zero, List.set_cons_succ]
  refine wpAnyH_take (i := 51) (v := ?_) rfl (by kernel_rfl) (by kernel_rfl) (by kernel_rfl) (fun _ _ _ h => h) (Or.inl ⟨by rfl, ?_⟩) (by assumption) ?_
  rotate_left
  · (intro w hSw; (try dsimp only at hSw); go_simp; try with_reducible rfl)
  try simp only [Act.put, List.getElem_toArray, List.getElem_cons_succ, List.getElem_cons_zero, List.setIfInBounds_toArray, List.set_cons_zero, List.set_cons_succ]
  refine wpAnyH_take (i := 52) (v := ?_) rfl (by kernel_rfl) (by kernel_rfl) (by kernel_rfl) (fun _ _ _ h => h) (Or.inl ⟨by rfl, ?_⟩) (by assumption) ?_
  rotate_left
  · (intro w hSw; (try dsimp only at hSw); go_simp; try with_reducible rfl)
  try simp only [Act.put, List.getElem_toArray, List.getElem_cons_succ, List.getElem_cons_zero, List.setIfInBounds_toArray, List.set_cons_zero, List.set_cons_succ]
  refine wpAnyH_take (i := 53) (v := ?_) rfl (by kernel_rfl) (by kernel_rfl) (by kernel_rfl) (fun _ _ _ h => h) (Or.inl ⟨by rfl, ?_⟩) (by assumption) ?_
  rotate_left
  · (intro w hSw; (try dsimp only at hSw); go_simp; try with_reducible rfl)
  try simp only [Act.put, List.getElem_toArray, List.getElem_cons_succ, List.getElem_cons_zero, List.setIfInBounds_toArray, List.set_cons_zero, List.set_cons_succ]
  refine wpAnyH_take (i := 54) (v := ?_) rfl (by kernel_rfl) (by kernel_rfl) (by kernel_rfl) (fun _ _ _ h => h) (Or.inl ⟨by rfl, ?_⟩) (by assumption) ?_
  rotate_left
  · (intro w hSw; (try dsimp only at hSw); go_simp; try with_reducible rfl)
  try simp only [Act.put, List.getElem_toArray, List.getElem_cons_succ, List.getElem_cons_zero, List.setIfInBounds_toArray, List.set_cons_zero, List.set_cons_succ]
  refine wpAnyH_take (i := 55) (v := ?_) rfl (by kernel_rfl) (by kernel_rfl) (by kernel_rfl) (fun _ _ _ h => h) (Or.inl ⟨by rfl, ?_⟩) (by assumption) ?_
  rotate_left
  · (intro w hSw; (try dsimp only at hSw); go_simp; try with_reducible rfl)
  try simp only [Act.put, List.getElem_toArray, List.getElem_cons_succ, List.getElem_cons_zero, List.setIfInBounds_toArray, List.set_cons_zero, List.set_cons_succ]
  refine wpAnyH_take (i := 56) (v := ?_) rfl (by kernel_rfl) (by kernel_rfl) (by kernel_rfl) (fun _ _ _ h => h) (Or.inl ⟨by rfl, ?_⟩) (by assumption) ?_
  rotate_left
  · (intro w hSw; (try dsimp only at hSw); go_simp; try with_reducible rfl)
  try simp only [Act.put, List.getElem_toArray, List.getElem_cons_succ, List.getElem_cons_zero, List.setIfInBounds_toArray, List.set_cons_zero, List.set_cons_succ]
  refine wpAnyH_take (i := 57) (v := ?_) rfl (by kernel_rfl) (by kernel_rfl) (by kernel_rfl) (fun _ _ _ h => h) (Or.inl ⟨by rfl, ?_⟩) (by assumption) ?_
  rotate_left
  · (intro w hSw; (try dsimp only at hSw); go_simp; try with_reducible rfl)
  try simp only [Act.put, List.getElem_toArray, List.getElem_cons_succ, List.getElem_cons_zero, List.setIfInBounds_toArray, List.set_cons_zero, List.set_cons_succ]
  refine wpAnyH_take (i := 58) (v := ?_) rfl (by kernel_rfl) (by kernel_rfl) (by kernel_rfl) (fun _ _ _ h => h) (Or.inl ⟨by rfl, ?_⟩) (by assumption) ?_
  rotate_left
  · (intro w hSw; (try dsimp only at hSw); go_simp; try with_reducible rfl)
  try simp only [Act.put, List.getElem_toArray, List.getElem_cons_succ, List.getElem_cons_zero, List.setIfInBounds_toArray, List.set_cons_zero, List.set_cons_succ]
  refine wpAnyH_take (i := 59) (v := ?_) rfl (by kernel_rfl) (by kernel_rfl) (by kernel_rfl) (fun _ _ _ h => h) (Or.inl ⟨by rfl, ?_⟩) (by assumption) ?_
  rotate_left
  · (intro w hSw; (try dsimp only at hSw); go_simp; try with_reducible rfl)
  try simp only [Act.put, List.getElem_toArray, List.getElem_cons_succ, List.getElem_cons_zero, List.setIfInBounds_toArray, List.set_cons_zero, List.set_cons_succ]
  refine wpAnyH_take (i := 60) (v := ?_) rfl (by kernel_rfl) (by kernel_rfl) (by kernel_rfl) (fun _ _ _ h => h) (Or.inl ⟨by rfl, ?_⟩) (by assumption) ?_
  rotate_left
  · (intro w hSw; (try dsimp only at hSw); go_simp; try with_reducible rfl)
  try simp only [Act.put, List.getElem_toArray, List.getElem_cons_succ, List.getElem_cons_zero, List.setIfInBounds_toArray, List.set_cons_zero, List.set_cons_succ]
  refine wpAnyH_take (i := 61) (v := ?_) rfl (by kernel_rfl) (by kernel_rfl) (by kernel_rfl) (fun _ _ _ h => h) (Or.inl ⟨by rfl, ?_⟩) (by assumption) ?_
  rotate_left
  · (intro w hSw; (try dsimp only at hSw); go_simp; try with_reducible rfl)
  try simp only [Act.put, List.getElem_toArray, List.getElem_cons_succ, List.getElem_cons_zero, List.setIfInBounds_toArray, List.set_cons_zero, List.set_cons_succ]
  refine wpAnyH_take (i := 62) (v := ?_) rfl (by kernel_rfl) (by kernel_rfl) (by kernel_rfl) (fun _ _ _ h => h) (Or.inl ⟨by rfl, ?_⟩) (by assumption) ?_
  rotate_left
  · (intro w hSw; (try dsimp only at hSw); go_simp; try with_reducible rfl)
  try simp only [Act.put, List.getElem_toArray, List.getElem_cons_succ, List.getElem_cons_zero, List.setIfInBounds_toArray, List.set_cons_zero, List.set_cons_succ]
  refine wpAnyH_take (i := 63) (v := ?_) rfl (by kernel_rfl) (by kernel_rfl) (by kernel_rfl) (fun _ _ _ h => h) (Or.inl ⟨by rfl, ?_⟩) (by assumption) ?_
  rotate_left
  · (intro w hSw; (try dsimp only at hSw); go_simp; try with_reducible rfl)
  try simp only [Act.put, List.getElem_toArray, List.getElem_cons_succ, List.getElem_cons_zero, List.setIfInBounds_toArray, List.set_cons_zero, List.set_cons_succ]
  refine wpAnyH_take (i := 64) (v := ?_) rfl (by kernel_rfl) (by kernel_rfl) (by kernel_rfl) (fun _ _ _ h => h) (Or.inl ⟨by rfl, ?_⟩) (by assumption) ?_
  rotate_left
  · (intro w hSw; (try dsimp only at hSw); go_simp; try with_reducible rfl)
  try simp only [Act.put, List.getElem_toArray, List.getElem_cons_succ, List.getElem_cons_zero, List.setIfInBounds_toArray, List.set_cons_zero, List.set_cons_succ]
  refine wpAnyH_take (i := 65) (v := ?_) rfl (by kernel_rfl) (by kernel_rfl) (by kernel_rfl) (fun _ _ _ h => h) (Or.inl ⟨by rfl, ?_⟩) (by assumption) ?_
  rotate_left
  · (intro w hSw; (try dsimp only at hSw); go_simp; try with_reducible rfl)
  try simp only [Act.put, List.getElem_toArray, List.getElem_cons_succ, List.getElem_cons_zero, List.setIfInBounds_toArray, List.set_cons_zero, List.set_cons_succ]
  refine wpAnyH_take (i := 66) (v := ?_) rfl (by kernel_rfl) (by kernel_rfl) (by kernel_rfl) (fun _ _ _ h => h) (Or.inl ⟨by rfl, ?_⟩) (by assumption) ?_
  rotate_left
  · (intro w hSw; (try dsimp only at hSw); go_simp; try with_reducible rfl)
  try simp only [Act.put, List.getElem_toArray, List.getElem_cons_succ, List.getElem_cons_zero, List.setIfInBounds_toArray, List.set_cons_zero, List.set_cons_succ]
  refine wpAnyH_take (i := 67) (v := ?_) rfl (by kernel_rfl) (by kernel_rfl) (by kernel_rfl) (fun _ _ _ h => h) (Or.inl ⟨by rfl, ?_⟩) (by assumption) ?_
  rotate_left
  · (intro w hSw; (try dsimp only at hSw); go_simp; try with_reducible rfl)
  try simp only [Act.put, List.getElem_toArray, List.getElem_cons_succ, List.getElem_cons_zero, List.setIfInBounds_toArray, List.set_cons_zero, List.set_cons_succ]
  refine wpAnyH_take (i := 68) (v := ?_) rfl (by kernel_rfl) (by kernel_rfl) (by kernel_rfl) (fun _ _ _ h => h) (Or.inl ⟨by rfl, ?_⟩) (by assumption) ?_
  rotate_left
  · (intro w hSw; (try dsimp only at hSw); go_simp; try with_reducible rfl)
  try simp only [Act.put, List.getElem_toArray, List.getElem_cons_succ, List.getElem_cons_zero, List.setIfInBounds_toArray, List.set_cons_zero, List.set_cons_succ]
  refine wpAnyH_take (i := 69) (v := ?_) rfl (by kernel_rfl) (by kernel_rfl) (by kernel_rfl) (fun _ _ _ h => h) (Or.inl ⟨by rfl, ?_⟩) (by assumption) ?_
  rotate_left
  · (intro w hSw; (try dsimp only at hSw); go_simp; try with_reducible rfl)
  try simp only [Act.put, List.getElem_toArray, List.getElem_cons_succ, List.getElem_cons_zero, List.setIfInBounds_toArray, List.set_cons_zero, List.set_cons_succ]
  refine wpAnyH_done (by kernel_rfl) ?_ _
  go_wp2
  go_ret
  exact ⟨rfl, HZW.out.trans ZT.out (by simp)⟩
end Hed
end Go.Proofs.YtmjdcpcndggflaaDoor
