/- All of a nil arena: nothing comes. -/
/- Blocks of a nil arena: none. -/
import Derived.Test.YtgjgoflkbcmgnaaArenaAll
import Derived.Test.YtgjgoflkbcmgnaaArenaIter
import Derived.Laws.IdiomRangeMap
import Derived.Test.YtgjgoflkbcmgnaaArenaBlocks
set_option linter.unusedVariables false
set_option linter.unusedSimpArgs false
namespace Go.Proofs.Ytgjgoflkbcmgnaa
namespace Arn
open Go.RowKit Hp Go.Maps Go.Sort Go.Shelf

set_option maxRecDepth 100000 in
set_option maxHeartbeats 1000000 in
theorem keys1_nil_in (n : Nat) (hn : 1 ≤ n) (l Bm : Nat) (J : List Int → World → Prop) (W : World) (hJ : AbidesFrom W.heap.size J) (hm : W.cell? ⟨Bm, 0, none⟩ = some (.map none)) (h0 : J [] W) :
    CallsIn Fence.wide n Try.prog 68 #[.func (.yield l) #[] #[], .pointer (some ⟨Bm, 0, none⟩)] W fun e W' => (∃ v, e = .returned v) ∧ J [] W' := by
  refine callsIn_of_wp Try.func68 rfl trivial ?_ rfl
  simp only [Try.ntmps68, List.size_toArray, List.length_cons, List.length_nil, Nat.reduceAdd, Nat.reduceSub, Array.replicate_succ, Array.replicate_zero, List.push_toArray, List.append_toArray, List.nil_append, List.cons_append]
  have hrg := run_range_nilMap (P := Try.prog) W 79 29 42 mapU
  have hnx : ∀ ty, (Instr.next (.pointer (some ⟨W.heap.size, 0, none⟩)) false ty).run Try.prog (W.alloc (.mapIter none 0 #[] 0)) = _ := fun ty => run_next_nilMap _ ty 0 0 #[]
  gi_wp2
  refine wpIn_loop_rounds 1 ?_
  rw [roundsIn_succ]
  gi_wp2
  go_end0
  exact ⟨⟨_, rfl⟩, hJ [] W _ none h0 (World.grownBy_alloc W _ none) (fun r e => by cases e)⟩
theorem keys_stops_nil (n : Nat) (hn : 1 ≤ n) (Bm : Nat) (w : World) (hBm : Bm < w.heap.size) (hm : w.cell? ⟨Bm, 0, none⟩ = some (.map none)) :
    SeqStopsK Fence.wide n Try.prog 68 #[.pointer (some ⟨Bm, 0, none⟩)] (fun x : Int => #[Value.int .u64 x]) KeepsWalks (fun ss => ss.Nodup ∧ ∀ x, x ∈ ss ↔ hasH [] x = true) (fun _ => True) 0 w := fun l J Jx W hW hJ _ hY h0 =>
  (keys1_nil_in n hn l Bm J W hJ ((hW.cell (p := ⟨Bm, 0, none⟩) hBm).trans hm) h0).mono fun _ _ ⟨he, hj⟩ => ⟨he, .inl ⟨[], ⟨List.nodup_nil, fun x => by simp [hasH]⟩, hj⟩⟩
theorem keysNil_any (w : World) : Calls Try.prog 58 #[.map none] w fun e w' => e = .returned (.func (.func 68) #[] #[.pointer (some ⟨w.heap.size, 0, none⟩)]) ∧ w' = w.alloc (.cells #[.map none] 79) := by
  go_enter Try.func58, Try.ntmps58
  go_wp2
  go_ret
  exact ⟨rfl, rfl⟩
theorem sortedNil_any (Bx : Nat) (W : World) (hc : W.cell? ⟨Bx, 0, none⟩ = some (.map none)) (hl : Bx < W.heap.size) :
    Calls Try.prog 57 #[.func (.func 68) #[] #[.pointer (some ⟨Bx, 0, none⟩)], .func (.func 59) #[] #[]] W fun e w' => ∃ v, e = .returned v ∧ w'.ownsRow W.heap.size 29 1 v 0 [] ∧ Below W.heap.size W w' :=
  sortedFunc_any (L := []) (enters_of Try.func68 (by kernel_rfl) rfl) (keys_stops_nil 4 (by omega) Bx W hl hc) (by omega) List.Pairwise.nil (by simp) (by simp)
set_option maxHeartbeats 1000000 in
/-- All of a nil arena: an iterator over no handles. -/
theorem allNil_any (w : World) :
    Calls Try.prog 43 #[.pointer none] w fun e w' => ∃ Bk Bm v, e = .returned (.func (.func 61) #[] #[.pointer (some ⟨Bk, 0, none⟩), .pointer (some ⟨Bm, 0, none⟩)]) ∧
      w'.cell? ⟨Bk, 0, none⟩ = some v ∧ (∃ a c, v = .slice a 0 c) ∧ w.heap.size ≤ Bk ∧ Bk < w'.heap.size ∧ Frm.Turn [] w w' := by
  have HC := Lib.hid (copies_nil w)
  have HSF : Hid (∀ w1 : World, Frm.Turn [] w w1 → Calls Try.prog 57 #[.func (.func 68) #[] #[.pointer (some ⟨w1.heap.size + 1, 0, none⟩)], .func (.func 59) #[] #[]] ((w1.alloc (.cells #[.map none] 79)).alloc (.cells #[.map none] 79))
        fun e w' => ∃ a c, e = .returned (.slice a 0 c) ∧ Frm.Turn [] w w') :=
    Lib.hid fun w1 hT => by
      have b1 := Boxed.new (w1.alloc (.cells #[.map none] 79)) 79 (.map none)
      rw [World.size_alloc] at b1
      refine (sortedNil_any (w1.heap.size + 1) _ b1.cell b1.lt).mono ?_
      rintro e w3 ⟨v, rfl, hrow, hbl⟩
      have T2 : Frm.Turn [] w1 ((w1.alloc (.cells #[.map none] 79)).alloc (.cells #[.map none] 79)) := ((Frm.Turn.refl [] w1).alloc _).alloc _
      have T3 : Frm.Turn [] _ w3 := Frm.Turn.of_below hbl
      obtain ⟨a, c, rfl⟩ : ∃ a c, v = .slice a 0 c := by
        rcases ownsRow_shape hrow with ⟨rfl, _⟩ | ⟨g, cap, rfl, _⟩
        · exact ⟨_, _, rfl⟩
        · exact ⟨_, _, rfl⟩
      exact ⟨a, c, rfl, (hT.trans T2 (by simp)).trans T3 (by simp)⟩
  go_enter Try.func43, Try.ntmps43
  go_wp2_with (first
    | (go_at_call 44; (with_reducible refine (HC.out).mono ?_); rintro e w1 ⟨rfl, rfl⟩; have HT1 := Lib.hid (Frm.Turn.refl [] w))
    | (go_at_call 58; (with_reducible refine (keysNil_any _).mono ?_); rintro e w2 ⟨rfl, rfl⟩)
    | (go_at_call 57; (with_reducible refine (HSF.out _ HT1.out).mono ?_); rintro e w3 ⟨a, c, rfl, hT⟩; have HT3 := Lib.hid hT; clear hT))
  go_ret
  refine ⟨_, _, _, rfl, Frm.cell_row _ _ _ _ _ _ (World.alloc_heap_new w3 _), ⟨a, c, rfl⟩, HT3.out.size, by simp, HT3.out.alloc _⟩
end Arn
end Go.Proofs.Ytgjgoflkbcmgnaa

set_option linter.unusedVariables false
set_option linter.unusedSimpArgs false
namespace Go.Proofs.Ytgjgoflkbcmgnaa
namespace Arn
open Go.RowKit Hp Go.Maps Go.Sort Go.Shelf
attribute [local go_sem] Oper.semAt_some

set_option maxRecDepth 100000 in
set_option maxHeartbeats 2000000 in
theorem iter1_nil_in (n : Nat) (hn : 1 ≤ n) (l Bk Bm : Nat) (a0 : Option Addr) (c0 : Nat) (J : List Got → World → Prop) (W : World) (hcK : W.cell? ⟨Bk, 0, none⟩ = some (.slice a0 0 c0)) (h0 : J [] W) :
    CallsIn Fence.wide n Try.prog 61 #[.func (.yield l) #[] #[], .pointer (some ⟨Bk, 0, none⟩), .pointer (some ⟨Bm, 0, none⟩)] W fun e W' => (∃ v, e = .returned v) ∧ J [] W' := by
  refine callsIn_of_wp Try.func61 rfl trivial ?_ rfl
  simp only [Try.ntmps61, List.size_toArray, List.length_cons, List.length_nil, Nat.reduceAdd, Nat.reduceSub, Array.replicate_succ, Array.replicate_zero, List.push_toArray, List.append_toArray, List.nil_append, List.cons_append]
  gi_wp2
  gi_loopw [8] (fun i wr => i = .int .i64 0 ∧ J [] wr) (fun _ _ => 0)
  case atStart => exact ⟨rfl, h0⟩
  case round =>
    obtain ⟨rfl, hJs⟩ := hrel
    gi_wp2
    go_end0
    exact ⟨⟨_, rfl⟩, hJs⟩
set_option maxRecDepth 100000 in
set_option maxHeartbeats 4000000 in
theorem blocksNil_any (w : World) (most : Int) :
    Calls Try.prog 22 #[.pointer none, .int .i64 most] w fun e w' => (∃ a c, e = .returned (.slice a 0 c)) ∧ Frm.Turn [] w w' := by
  have T2 : Frm.Turn [] w ((w.alloc (.cells #[.int .i64 most] 3)).alloc (.cells #[.slice none 0 0] 44)) := ((Frm.Turn.refl [] w).alloc _).alloc _
  have HAll := Lib.hid (allNil_any ((w.alloc (.cells #[.int .i64 most] 3)).alloc (.cells #[.slice none 0 0] 44)))
  refine callsIn_wide.1 (?_ : CallsIn Fence.wide 6 _ _ _ _ _)
  refine callsIn_of_wp_marks Try.func22 rfl trivial ?_ rfl
  simp only [Try.ntmps22, List.size_toArray, List.length_cons, List.length_nil, Nat.reduceAdd, Nat.reduceSub, Array.replicate_succ, Array.replicate_zero, List.push_toArray, List.append_toArray, List.nil_append, List.cons_append]
  gi_wp2_with (refine ⟨trivial, ?_⟩; gi_at_call 43; refine (callsIn_wide.2 HAll.out).mono ?_; rintro e W0 ⟨Bk, Bm, v0, rfl, hc0, ⟨a0, c0, rfl⟩, hF, hFl, hT⟩)
  have b0 : Boxed W0 w.heap.size 3 (.int .i64 most) := hT.keep (show _ = _ from (Boxed.new w 3 (.int .i64 most)).alloc _) (by simp)
  have b1 : Boxed W0 (w.heap.size + 1) 44 (.slice none 0 0) := hT.keep (by
    have := Boxed.new (w.alloc (.cells #[.int .i64 most] 3)) 44 (.slice none 0 0)
    rw [World.size_alloc] at this
    exact this) (by simp)
  have hTw : Frm.Turn [] w W0 := T2.trans hT (by simp)
  have hs0 := hTw.size
  have hs1 := hT.size
  simp at hs1
  have HC0 := Lib.hid hc0
  have HFL := Lib.hid hFl
  have hB0 : Below w.heap.size w W0 := hTw.below (Nat.le_refl _) (by simp)
  have HO := Lib.hid (BlkAt.own w W0.heap.size (w.heap.size + 1) w.heap.size most [] hs0)
  refine Told.wp_told (n := 6) (by omega) (gf := 61) (lb := #[.pointer (some ⟨Bk, 0, none⟩), .pointer (some ⟨Bm, 0, none⟩)]) rfl (enters_of Try.func61 (by kernel_rfl) rfl)
    (encs := gotEnc) (Kp := KeepsAll []) (G := Gives []) (S := fun xs => xs = []) (Sp := fun pre => True) (w0 := W0)
    (fun l J Jx W hW hJ _ hY hj0 => (iter1_nil_in 5 (by omega) l Bk Bm a0 c0 J W ((hW.cell (p := ⟨Bk, 0, none⟩) HFL.out).trans HC0.out) hj0).mono (by rintro e W' ⟨h1, h3⟩; exact ⟨h1, .inl ⟨[], rfl, h3⟩⟩))
    KeepsAll.trans
    (fun W l o o' hl ho hc hw => ⟨[l], fun k hk hk' => by simp at hk', Frm.Turn.of_grown (grownBy_putObj' W l o')⟩)
    (Below.refl _ _) (fun _ => rfl)
    (BlkAt w W0.heap.size (w.heap.size + 1) w.heap.size most [])
    (fun c pre' W => False)
    HO.out
    (fun c s X Y row hs hg hr => hs)
    (fun pre => gives_own [] _ pre)
    ⟨⟨_, b1, World.ownsRow_nil _ _ _ _, trivial⟩, b0, by simp, hB0, rfl, Nat.zero_le _, Nat.le_refl _⟩
    (fun x => { tmps := #[.pointer none, .int .i64 most, undef, .pointer (some ⟨w.heap.size, 0, none⟩), .slice none 0 0, .pointer (some ⟨w.heap.size + 1, 0, none⟩), .int .u64 x.1.h, .slice (some ⟨x.2.1, 0, none⟩) x.1.ws.length x.2.2, .pointer none, .func (.func 61) #[] #[.pointer (some ⟨Bk, 0, none⟩), .pointer (some ⟨Bm, 0, none⟩)], .int .u64 x.1.h, .slice (some ⟨x.2.1, 0, none⟩) x.1.ws.length x.2.2, undef, undef, undef, undef, undef, undef, undef, undef, undef, undef, undef], defers := [] }) ?assign ?body ?done ?stop
  case assign =>
    intro l x W K hK
    unfold gotEnc
    gi_wp2
    exact hK
  case body =>
    rintro l pre x W hI hgx
    exact absurd hgx.2.1 (by simp)
  case done =>
    rintro D ys W hD rfl hI hK
    obtain ⟨v, hv, hrow, _⟩ := hI.box
    have hc := hv.cell
    have hI2 := Lib.hid (HO.out.putObj (.deferred none) hI (by omega) hK rfl)
    clear hI
    obtain ⟨a1, c1, rfl⟩ : ∃ a c, v = .slice a 0 c := by
      rcases ownsRow_shape hrow with ⟨rfl, _⟩ | ⟨g, cap, rfl, _⟩
      · exact ⟨_, _, rfl⟩
      · exact ⟨_, _, rfl⟩
    gi_wp2
    refine ⟨by simp, .inl ⟨_, _, rfl, run_takeDeferred hK, ?_⟩⟩
    exact ⟨_, results_tmp rfl _ _ _, ⟨a1, c1, rfl⟩, Frm.Turn.of_below hI2.out.below⟩
  case stop =>
    rintro D c pre' W hD _ h hK
    exact h.elim
end Arn
end Go.Proofs.Ytgjgoflkbcmgnaa
