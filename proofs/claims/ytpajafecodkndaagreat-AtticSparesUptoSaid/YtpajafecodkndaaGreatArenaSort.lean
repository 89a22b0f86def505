/- maps.Keys at handles: its iterator for whatever loop; slices.AppendSeq, slices.Collect over it. -/
/- The laying of slices.SortFunc of handles: the plain text. -/
/- slices.SortFunc of handles by their numbers, with the closure of All; slices.SortedFunc over what maps.Keys gives. -/
import Derived.Test.YtpajafecodkndaaGreatArenaCopy
import Derived.RangeFuncNested
import Derived.RangeFuncBound
import Derived.RangeFuncCalls
import Derived.RangeFuncLeaves
import Derived.RangeFuncBox
import Derived.Maps.OwnIn
import Derived.Maps.AppendAt
import Derived.Shelf.Abstract
import Derived.Shelf.RegionOpen
import Derived.WalkKit
import Derived.OwnWalkIn
import Derived.TacticsInMore
import Derived.LoopNIn
import Derived.LoopIn
import Derived.Test.YtpajafecodkndaaGreatArenaPlain
import Derived.Test.YtpajafecodkndaaGreatArenaSmall
import Derived.Shelf.SlSortCmp.Whole1
import Derived.Shelf.SlSortCmp.NoneTotal
set_option linter.unusedVariables false
set_option linter.unusedSimpArgs false
namespace Go.Proofs.YtpajafecodkndaaGreat
namespace Arn
open Go.RowKit Hp Go.Maps Go.Shelf
attribute [local go_sem] Oper.semAt_some

/-- The handles that have come: each once, and just those that are no more left. -/
structure Coll (L : List Blk) (left : Lit → Bool) (ss : List Int) : Prop where
  nd : ss.Nodup
  mem : ∀ x, x ∈ ss ↔ (hasH L x = true ∧ left (.int .u64 x) = false)
theorem Coll.step {L : List Blk} {left : Lit → Bool} {ss : List Int} {x : Int} (h : Coll L left ss) (hx : left (.int .u64 x) = true) (hh : hasH L x = true) :
    Coll L (fun z => left z && !z.sameKey (.int .u64 x)) (ss ++ [x]) := by
  have hno : x ∉ ss := fun hm => by have := ((h.mem x).1 hm).2; rw [hx] at this; cases this
  refine ⟨?_, fun y => ?_⟩
  · rw [List.nodup_append]
    refine ⟨h.nd, by simp, fun a ha b hb e => ?_⟩
    simp at hb; subst hb; subst e; exact hno ha
  · rw [List.mem_append, h.mem y]
    by_cases e : y = x
    · subst e
      have : (Lit.int .u64 y).sameKey (.int .u64 y) = true := WideAt.sameKey_self trivial
      rw [this]; simp [hh]
    · have : (Lit.int .u64 y).sameKey (.int .u64 x) = false := sameKey_ne (by simpa using e)
      rw [this]; simp [e]

set_option maxRecDepth 100000 in
set_option maxHeartbeats 1000000 in
theorem keys1_in (n : Nat) (hn : 1 ≤ n) (l Bm m nn : Nat) (L : List Blk) (D : DataW Unit) (J Jx : List Int → World → Prop) (hh : ∀ k : Int, Maps.has D (.int .u64 k) = hasH L k)
    (hY : ∀ pre x W, J pre W → pre.length < Maps.size D → YieldAt Fence.wide (n - 1) Tryz.prog l #[.int .u64 x] W fun e W' =>
      (e = .returned (.bool true) ∧ J (pre ++ [x]) W' ∧ KeepsWalks W W') ∨ (e = .returned (.bool false) ∧ Jx (pre ++ [x]) W'))
    (W : World) (hJ : AbidesFrom W.heap.size J) (hm : W.cell? ⟨Bm, 0, none⟩ = some (.map (some m))) (hown : W.ownsMap Tryz.prog 31 hdr m nn D) (h0 : J [] W) :
    CallsIn Fence.wide n Tryz.prog 162 #[.func (.yield l) #[] #[], .pointer (some ⟨Bm, 0, none⟩)] W fun e W' => (∃ v, e = .returned v) ∧
      ((∃ ss : List Int, (ss.Nodup ∧ ∀ x, x ∈ ss ↔ hasH L x = true) ∧ J ss W') ∨ (∃ pre : List Int, True ∧ Jx pre W')) := by
  refine callsIn_of_wp Tryz.func162 rfl trivial ?_ rfl
  simp only [Tryz.ntmps162, List.size_toArray, List.length_cons, List.length_nil, Nat.reduceAdd, Nat.reduceSub, Array.replicate_succ, Array.replicate_zero, List.push_toArray, List.append_toArray, List.nil_append, List.cons_append]
  gi_wp2_with (first
    | (gi_at_range; refine wpListIn_range_own _ rfl _ 125 rfl 31 25 keyU mapU hdr m nn _ rfl hown ?_; intro w0 hrg0 hg0 hs0)
    | gi_in)
  go_frame
  gi_loopw [3] (fun _ wr => ∃ (left : Lit → Bool) (cnt : Nat) (ss : List Int), wr.ranges Tryz.prog 31 hdr m W.heap.size nn D left cnt ∧ ss.length + cnt ≤ Maps.size D ∧ Coll L left ss ∧ J ss wr)
    (fun _ wr => wr.rangeLeft m W.heap.size)
  case atStart =>
    exact ⟨_, _, [], hrg0, by simp, ⟨List.nodup_nil, fun x => by rw [hh]; cases hasH L x <;> simp⟩, hJ [] W w0 none h0 hg0 (fun r e => by cases e)⟩
  case round =>
    obtain ⟨left, cnt, ss, hrg, hcs, hC, hJs⟩ := hrel
    gi_wp2_with (first
      | (gi_at_next; refine wpListIn_next_ranges _ rfl _ rfl 31 keyU hdr (Value.int .u64) id (fun key kl hk => by obtain ⟨x, rfl, _⟩ := Maps.keyOf_int_inv under_u64 hk; exact ⟨x, rfl⟩) (fun v y hv => ⟨v, rfl⟩) m W.heap.size nn D left cnt rfl hrg ?_ ?_)
      | gi_in)
    · intro hc0 hl0
      gi_wp2
      go_end0
      exact ⟨⟨_, rfl⟩, .inl ⟨ss, ⟨hC.nd, fun x => by rw [hC.mem x, hl0]; simp⟩, hJs⟩⟩
    · intro x c kl yd yp w2 cnt2 hkey hlk hv hat hrg2 hlt hg2 hs2 hen
      obtain ⟨x', ex, rfl, _⟩ := Maps.keyOf_int_inv under_u64 hkey
      cases ex
      have hJ2 : J ss w2 := hJ ss wr w2 (some W.heap.size) hJs hg2 (fun r e => by cases e; exact ⟨Nat.le_refl _, hrg.iter_walk⟩)
      have hC2 := hC.step hlk (by rw [← hh]; exact has_true_of_atKey hat)
      obtain ⟨fn, tmps, assign, body, hy, hR⟩ := hY ss x w2 hJ2 (by omega)
      clear hs2
      gi_wp2
      refine hR.mono ?_
      rintro e W3 (⟨rfl, hJ3, hk3⟩ | ⟨rfl, hJx3⟩)
      · gi_wp2
        have hrg3 := hrg2.of_walks hk3
        go_roundw
        case rel => exact ⟨_, cnt2, ss ++ [x], hrg3, by simp; omega, hC2, hJ3⟩
        case measure => rw [hrg3.left_eq, hrg.left_eq]; exact hlt
      · gi_wp2
        refine bodyPost_ret (results_none rfl _ _ _) rfl ?_
        exact ⟨⟨_, rfl⟩, .inr ⟨ss ++ [x], trivial, hJx3⟩⟩

/-- What it gives, as a contract of the caller's law. -/
theorem keys_stops (n : Nat) (hn : 1 ≤ n) (Bm m nn : Nat) (L : List Blk) (D : DataW Unit) (hh : ∀ k : Int, Maps.has D (.int .u64 k) = hasH L k) (w : World) (hBm : Bm < w.heap.size)
    (hm : w.cell? ⟨Bm, 0, none⟩ = some (.map (some m))) (hown : w.ownsMap Tryz.prog 31 hdr m nn D) :
    SeqStopsK Fence.wide n Tryz.prog 162 #[.pointer (some ⟨Bm, 0, none⟩)] (fun x : Int => #[Value.int .u64 x]) KeepsWalks (fun ss => ss.Nodup ∧ ∀ x, x ∈ ss ↔ hasH L x = true) (fun _ => True) (Maps.size D) w := fun l J Jx W hW hJ _ hY h0 => by
  have hown' : W.ownsMap Tryz.prog 31 hdr m nn D := by
    have hbl := hown.lt
    obtain ⟨es, clock, hb, Ft, hs, hD⟩ := hown
    exact ⟨es, clock, (hW.block m hbl).trans hb, Ft, hs, hD⟩
  exact keys1_in n hn l Bm m nn L D J Jx hh hY W hJ ((hW.cell (p := ⟨Bm, 0, none⟩) hBm).trans hm) hown' h0

theorem keeps_walks {W W' : World} (h : KeepsOthers W W') : KeepsWalks W W' := ⟨h.size, fun k o hk ho => h.same k o hk (Obj.not_cells_of_walk ho)⟩
theorem u64s_snoc (l : List Int) (x : Int) : u64s (l ++ [x]) = u64s l ++ [Value.int .u64 x] := by simp [u64s]
set_option maxRecDepth 100000 in
set_option maxHeartbeats 2000000 in
theorem append_in {gf : Nat} {lb : Array Value} {S Sp : List Int → Prop} {N : Nat} {w : World} (eg : ∀ args w, (callFunc gf args).run Tryz.prog w = .ok (.enter gf args) w)
    (hseq : SeqStopsK Fence.wide 4 Tryz.prog gf lb (fun x : Int => #[Value.int .u64 x]) KeepsWalks S Sp N w) (hN : N ≤ 1000000000000) :
    CallsIn Fence.wide 5 Tryz.prog 171 #[.slice none 0 0, .func (.func gf) #[] lb] w fun e W' => ∃ v ss, e = .returned v ∧ S ss ∧ W'.ownsRow w.heap.size 31 1 v ss.length (u64s ss) ∧ (v = .slice none 0 0 ↔ ss = []) ∧ Below w.heap.size w W' := by
  obtain ⟨i0, hi, hz0, hz1, hz2⟩ := info_parts info_u64
  refine callsIn_of_wp_marks Tryz.func171 rfl trivial ?_ rfl
  simp only [Tryz.ntmps171, List.size_toArray, List.length_cons, List.length_nil, Nat.reduceAdd, Nat.reduceSub, Array.replicate_succ, Array.replicate_zero, List.push_toArray, List.append_toArray, List.nil_append, List.cons_append]
  gi_wp2
  have bO := Boxed.new w 25 (.slice none 0 0)
  have hB0 : Below w.heap.size w (w.alloc (.cells #[.slice none 0 0] 25)) := (Below.refl _ w).alloc (Nat.le_refl _) _
  refine wpIn_rangeFunc_ownG rfl (by omega) (gf := gf) (lb := lb) rfl trivial eg
    hseq walksK_t walksK_b hB0 (fun _ => rfl)
    (fun pre W => (∃ v, Boxed W w.heap.size 25 v ∧ W.ownsRow w.heap.size 31 1 v pre.length (u64s pre) ∧ (v = .slice none 0 0 ↔ pre = [])) ∧ Below w.heap.size w W)
    (fun _ _ _ => False)
    (OwnFrom.and (Own.from (holdsRow_own w.heap.size w.heap.size 25 31 1 (fun pre => pre.length) (fun pre => u64s pre) (fun pre v => v = .slice none 0 0 ↔ pre = [])) _) (ownFrom_below (Nat.le_refl _) (by simp)))
    (fun _ _ _ _ _ hs _ _ => hs)
    ⟨⟨_, bO, World.ownsRow_nil _ _ _ _, by simp⟩, hB0⟩
    (fun x => { tmps := #[.slice none 0 0, .func (.func gf) #[] lb, .pointer (some ⟨w.heap.size, 0, none⟩), undef, .slice none 0 0, .int .u64 x, .func (.func gf) #[] lb, .int .u64 x, undef, undef, undef, undef, undef], defers := [] }) ?assign ?body ?done ?stop
  case assign =>
    intro l x W K hK
    gi_wp2
    exact hK
  case body =>
    rintro l pre x W ⟨⟨v, hv, hrow, hnil⟩, hB⟩ hlt
    have hc := hv.cell
    gi_wp2_with (gi_at_builtin; refine wpListIn_append_own _ rfl _ _ 25 rfl w.heap.size 31 i0 (.int .u64 0) 1 8 under_u64s hi hz0 hz1 hz2 rfl (by decide) _ _ _ rfl (hrow.alloc _) ⟨W.heap.size, 0, none⟩ 1 1 [.int .u64 x] rfl rfl (cell_one_new _ _ _) (by simp [Value.oneCell']) (by unfold maxLen; omega) (by omega) (by have := hB.size; simp; omega) ?_; intro v' w1 hown' hgrow _; obtain ⟨g', cap', rfl⟩ := ownsRow_succ hown'; obtain ⟨hv1, hv2, hr2, hk2, hb2⟩ := hv.appended (by decide) hrow hB.size (Nat.le_refl _) hown' hgrow; have hc1 := hv1.cell; have hf1 := hv1.frozen)
    exact ⟨hk2.from _, keeps_walks hk2, ⟨_, hv2, by rw [u64s_snoc]; simpa using hr2, by simp⟩, hB.trans hb2⟩
  case done =>
    rintro D ys W hD hS ⟨⟨v, hv, hrow, hnil⟩, hB⟩ hK
    have hc := hv.cell
    gi_wp2
    refine ⟨by simp, .inl ⟨_, _, rfl, run_takeDeferred hK, ?_⟩⟩
    exact ⟨_, results_tmp rfl _ _ _, v, ys, rfl, hS, ownsRow_putObj hrow _ hK rfl, hnil, hB.trans (belowK_b (w := w) (Nat.le_refl _) W D _ _ (by simp at hD; omega) hK rfl rfl)⟩
  case stop =>
    rintro D c pre W _ _ h _
    exact h.elim

set_option maxHeartbeats 2000000 in
theorem collect_in {gf : Nat} {lb : Array Value} {S Sp : List Int → Prop} {N : Nat} {w : World} (eg : ∀ args w, (callFunc gf args).run Tryz.prog w = .ok (.enter gf args) w)
    (hseq : SeqStopsK Fence.wide 4 Tryz.prog gf lb (fun x : Int => #[Value.int .u64 x]) KeepsWalks S Sp N w) (hN : N ≤ 1000000000000) :
    Calls Tryz.prog 160 #[.func (.func gf) #[] lb] w fun e W' => ∃ v ss, e = .returned v ∧ S ss ∧ W'.ownsRow w.heap.size 31 1 v ss.length (u64s ss) ∧ (v = .slice none 0 0 ↔ ss = []) ∧ Below w.heap.size w W' := by
  have HA := Lib.hid (callsIn_wide.1 (append_in eg hseq hN))
  go_enter Tryz.func160, Tryz.ntmps160
  go_wp2_with (go_at_call 171; (with_reducible refine (HA.out).mono ?_); rintro e w1 ⟨v, ss, rfl, h1, h2, h3, h4⟩; have H := Lib.hid (And.intro h1 (And.intro h2 (And.intro h3 h4))); clear h1 h2 h3 h4)
  go_ret
  exact ⟨_, _, rfl, H.out⟩
end Arn
end Go.Proofs.YtpajafecodkndaaGreat

namespace Go.Proofs.YtpajafecodkndaaGreat
namespace Arn
open Go.Shelf
def sortH_ren : Go.Shelf.Ren := ⟨fun | 6 => 161 | 15 => 167 | 14 => 172 | 28 => 178 | 29 => 179 | 20 => 181 | 21 => 182 | 22 => 183 | 23 => 184 | 24 => 185 | 25 => 186 | 26 => 187 | 27 => 188 | 46 => 193 | 47 => 194 | 48 => 195 | 49 => 196 | 50 => 197 | 57 => 200 | n => n, fun | 22 => 25 | 24 => 31 | 25 => 239 | 3 => 3 | 39 => 51 | 0 => 0 | 53 => 265 | 55 => 31 | 4 => 4 | 46 => 269 | 45 => 268 | 50 => 196 | 5 => 5 | 9 => 9 | 66 => 277 | 70 => 280 | 76 => 283 | 77 => 182 | n => n, fun | n => n⟩
theorem sortH : Go.Proofs.SlLaysF.n6 Tryz.prog sortH_ren := {
  mixed := by kernel_rfl,
  f6 := ⟨Tryz.f161.name, by decide, Tryz.func161.trans (congrArg some (by kernel_rfl))⟩,
  f14 := ⟨Tryz.f172.name, by decide, Tryz.func172.trans (congrArg some (by kernel_rfl))⟩,
  f15 := Tryz.func167.trans (congrArg some (by kernel_rfl)),
  f20 := ⟨Tryz.f181.name, by decide, Tryz.func181.trans (congrArg some (by kernel_rfl))⟩,
  f21 := ⟨Tryz.f182.name, by decide, Tryz.func182.trans (congrArg some (by kernel_rfl))⟩,
  f22 := ⟨Tryz.f183.name, by decide, Tryz.func183.trans (congrArg some (by kernel_rfl))⟩,
  f23 := ⟨Tryz.f184.name, by decide, Tryz.func184.trans (congrArg some (by kernel_rfl))⟩,
  f24 := ⟨Tryz.f185.name, by decide, Tryz.func185.trans (congrArg some (by kernel_rfl))⟩,
  f25 := ⟨Tryz.f186.name, by decide, Tryz.func186.trans (congrArg some (by kernel_rfl))⟩,
  f26 := ⟨Tryz.f187.name, by decide, Tryz.func187.trans (congrArg some (by kernel_rfl))⟩,
  f27 := ⟨Tryz.f188.name, by decide, Tryz.func188.trans (congrArg some (by kernel_rfl))⟩,
  f28 := Tryz.func178.trans (congrArg some (by kernel_rfl)),
  f29 := Tryz.func179.trans (congrArg some (by kernel_rfl)),
  f46 := ⟨Tryz.f193.name, by decide, Tryz.func193.trans (congrArg some (by kernel_rfl))⟩,
  f47 := Tryz.func194.trans (congrArg some (by kernel_rfl)),
  f48 := Tryz.func195.trans (congrArg some (by kernel_rfl)),
  f49 := ⟨Tryz.f196.name, by decide, Tryz.func196.trans (congrArg some (by kernel_rfl))⟩,
  f50 := ⟨Tryz.f197.name, by decide, Tryz.func197.trans (congrArg some (by kernel_rfl))⟩,
  f57 := ⟨Tryz.f200.name, by decide, Tryz.func200.trans (congrArg some (by kernel_rfl))⟩,
  t0 := Tryz.underlying0,
  a0 := Tryz.isAgg0,
  z0 := Tryz.sizeOf0,
  v0 := Tryz.zeroValue0,
  t3 := Tryz.underlying3,
  a3 := Tryz.isAgg3,
  z3 := Tryz.sizeOf3,
  v3 := Tryz.zeroValue3,
  t4 := Tryz.underlying4,
  a4 := Tryz.isAgg4,
  z4 := Tryz.sizeOf4,
  v4 := Tryz.zeroValue4,
  t5 := Tryz.underlying5,
  a5 := Tryz.isAgg5,
  z5 := Tryz.sizeOf5,
  v5 := Tryz.zeroValue5,
  t9 := Tryz.underlying9,
  a9 := Tryz.isAgg9,
  z9 := Tryz.sizeOf9,
  v9 := Tryz.zeroValue9,
  t22 := Tryz.underlying25,
  a22 := Tryz.isAgg25,
  z22 := Tryz.sizeOf25,
  v22 := Tryz.zeroValue25,
  a24 := Tryz.isAgg31,
  z24 := Tryz.sizeOf31,
  t25 := Tryz.underlying239,
  a25 := Tryz.isAgg239,
  z25 := Tryz.sizeOf239,
  v25 := Tryz.zeroValue239,
  t39 := Tryz.underlying51,
  a39 := Tryz.isAgg51,
  z39 := Tryz.sizeOf51,
  v39 := Tryz.zeroValue51,
  t45 := Tryz.underlying268,
  a45 := Tryz.isAgg268,
  z45 := Tryz.sizeOf268,
  v45 := Tryz.zeroValue268,
  t46 := Tryz.underlying269,
  a46 := Tryz.isAgg269,
  z46 := Tryz.sizeOf269,
  v46 := Tryz.zeroValue269,
  t50 := Tryz.underlying196,
  a50 := Tryz.isAgg196,
  z50 := Tryz.sizeOf196,
  v50 := Tryz.zeroValue196,
  t53 := Tryz.underlying265,
  a53 := Tryz.isAgg265,
  z53 := Tryz.sizeOf265,
  v53 := Tryz.zeroValue265,
  t55 := Tryz.underlying31,
  a55 := Tryz.isAgg31,
  z55 := Tryz.sizeOf31,
  v55 := Tryz.zeroValue31,
  t66 := Tryz.underlying277,
  a66 := Tryz.isAgg277,
  z66 := Tryz.sizeOf277,
  v66 := Tryz.zeroValue277,
  t70 := Tryz.underlying280,
  a70 := Tryz.isAgg280,
  z70 := Tryz.sizeOf280,
  v70 := Tryz.zeroValue280,
  t76 := Tryz.underlying283,
  a76 := Tryz.isAgg283,
  z76 := Tryz.sizeOf283,
  v76 := Tryz.zeroValue283,
  t77 := Tryz.underlying182,
  a77 := Tryz.isAgg182,
  z77 := Tryz.sizeOf182,
  v77 := Tryz.zeroValue182 }
end Arn
end Go.Proofs.YtpajafecodkndaaGreat

set_option linter.unusedVariables false
set_option linter.unusedSimpArgs false
namespace Go.Proofs.YtpajafecodkndaaGreat
namespace Arn
open Go.RowKit Hp Go.Maps Go.Shelf Go.Sort Go.Lib

abbrev U64 := { x : Int // W64 x }
instance : Inhabited U64 := ⟨⟨0, by unfold W64; omega⟩⟩
def encU (x : U64) : Value := .int .u64 x.1
def cmpI (a b : Int) : Int := if a < b then -1 else if b < a then 1 else 0
def cfB (x y : U64) : Int := cmpI (x.1 % 65536) (y.1 % 65536)
theorem lt_cfB (x y : U64) : ltOf cfB x y = decide (x.1 % 65536 < y.1 % 65536) := by
  unfold ltOf cfB cmpI
  by_cases h1 : x.1 % 65536 < y.1 % 65536
  · simp [h1]
  · by_cases h2 : y.1 % 65536 < x.1 % 65536 <;> simp [h1, h2]
theorem swo_cfB : SWO (ltOf cfB) where
  irrefl x := by rw [lt_cfB]; simp
  trans x y z h1 h2 := by rw [lt_cfB] at *; simp at *; omega
  ntrans x y z h1 h2 := by rw [lt_cfB] at *; simp at *; omega

theorem nan_any (a : Int) (w : World) : Calls Tryz.prog 163 #[.int .u64 a] w fun e w' => e = .returned (.bool false) ∧ w = w' := by
  go_enter Tryz.func163, Tryz.ntmps163
  go_wp2
  go_ret
  exact ⟨rfl, rfl⟩
theorem compare_any (a b : Int) (w : World) : Calls Tryz.prog 142 #[.int .u64 a, .int .u64 b] w fun e w' => e = .returned (.int .i64 (cmpI a b)) ∧ w = w' := by
  have hc := Lib.hid (show (a < b ∧ cmpI a b = -1) ∨ (¬ a < b ∧ b < a ∧ cmpI a b = 1) ∨ (¬ a < b ∧ ¬ b < a ∧ cmpI a b = 0) by unfold cmpI; split <;> (try split) <;> simp [*])
  generalize cmpI a b = r at hc ⊢
  rcases hc.out with ⟨h1, rfl⟩ | ⟨h1, h2, rfl⟩ | ⟨h1, h2, rfl⟩ <;> clear hc
  all_goals
    go_enter Tryz.func142, Tryz.ntmps142
    go_wp2_with (go_at_call 163; (with_reducible refine (nan_any _ _).mono ?_); rintro e w1 ⟨rfl, rfl⟩)
    go_ret
    exact ⟨rfl, rfl⟩
theorem closure_any (x y : U64) (w : World) : Calls Tryz.prog 141 #[encU x, encU y] w fun e w' => e = .returned (.int .i64 (cfB x y)) ∧ ∃ q, w' = w.drewN q := by
  obtain ⟨x, hx⟩ := x
  obtain ⟨y, hy⟩ := y
  have HC := Lib.hid (compare_any (x % 65536) (y % 65536))
  have HX := Lib.hid (fun w => block_any x w hx)
  have HY := Lib.hid (fun w => block_any y w hy)
  show Calls _ _ #[.int .u64 x, .int .u64 y] _ _
  have hr : cfB ⟨x, hx⟩ ⟨y, hy⟩ = cmpI (x % 65536) (y % 65536) := rfl
  rw [hr]
  generalize cmpI (x % 65536) (y % 65536) = r at HC ⊢
  generalize x % 65536 = xm at HX HC
  generalize y % 65536 = ym at HY HC
  clear hr
  go_enter Tryz.func141, Tryz.ntmps141
  go_wp2_with (first
    | (go_at_call 143; (with_reducible refine (HX.out _).mono ?_); rintro e w1 ⟨rfl, rfl⟩)
    | (go_at_call 143; (with_reducible refine (HY.out _).mono ?_); rintro e w1 ⟨rfl, rfl⟩)
    | (go_at_call 142; (with_reducible refine (HC.out _).mono ?_); rintro e w1 ⟨rfl, rfl⟩))
  go_ret
  exact ⟨rfl, 0, rfl⟩

/-- A row whose cells are put anew. -/
theorem row_put {w : World} {base g cap : Nat} {d d' : Array U64} (h : w.ownsRow base 31 1 (.slice (some ⟨g, 0, none⟩) d.size cap) d.size (d.toList.map encU)) (hd : d'.size = d.size) (m : Nat) (os : Array Obj) :
    (sortWorld encU w g 0 m d' os).ownsRow base 31 1 (.slice (some ⟨g, 0, none⟩) d.size cap) d.size (d'.toList.map encU) ∧ Frm.Turn [g] w (sortWorld encU w g 0 m d' os) := by
  obtain ⟨hl, h0⟩ := h
  rcases h0 with ⟨e, _⟩ | ⟨g', cap', cur, e, hb, hg, hn, hc, hs, ht⟩
  · cases e
  · cases e
    have hlt := (Array.getElem?_eq_some_iff.1 hg).1
    have hheap : (sortWorld encU w g 0 m d' os).heap = w.heap.modify g (onCells (putCells encU 0 d')) ++ os := rfl
    refine ⟨⟨by simp [hd], .inr ⟨g, cap, putCells encU 0 d' cur, rfl, hb, ?_, hn, hc, by simp [putCells, hs], ?_⟩⟩, rfl, rfl, rfl, ?_, fun k hk hF => ?_⟩
    · rw [hheap, Array.getElem?_append_left (by simpa using hlt), Array.getElem?_modify, if_pos rfl, hg]
      rfl
    · apply List.ext_getElem?
      intro j
      rw [List.getElem?_take]
      by_cases hj : j < d.size
      · have hjc : j < cur.size := by omega
        rw [if_pos (by omega)]
        simp [putCells, hjc, hd, hj]
      · rw [if_neg (by omega)]
        simp [hd, hj]
    · rw [hheap]; simp
    · rw [hheap, Array.getElem?_append_left (by simpa using hk), Array.getElem?_modify]
      rw [if_neg (by simp at hF; omega)]

theorem sort_any {w : World} {base g cap : Nat} (d : Array U64) (h : w.ownsRow base 31 1 (.slice (some ⟨g, 0, none⟩) d.size cap) d.size (d.toList.map encU)) (hd : d.size < 4611686018427387904) :
    Calls Tryz.prog 161 #[.slice (some ⟨g, 0, none⟩) d.size cap, .func (.func 141) #[] #[]] w fun e w' => e = .returned (.tuple #[]) ∧ ∃ d' : Array U64, d'.toList.Perm d.toList ∧ (∀ i j, i < j → j < d'.size → d'[i]!.1 % 65536 ≤ d'[j]!.1 % 65536) ∧
      w'.ownsRow base 31 1 (.slice (some ⟨g, 0, none⟩) d.size cap) d.size (d'.toList.map encU) ∧ Frm.Turn [g] w w' := by
  have eg : ∀ args w, (callFunc 141 args).run Tryz.prog w = .ok (.enter 141 args) w := enters_of Tryz.func141 (by kernel_rfl) rfl
  have hblk : g < w.heap.size := by
    obtain ⟨hl, h0⟩ := h
    rcases h0 with ⟨e, _⟩ | ⟨g', cap', cur, e, hb, hg, hn, hc, hs, ht⟩
    · cases e
    · cases e; exact (Array.getElem?_eq_some_iff.1 hg).1
  have hH : Holds encU w g 0 d := fun j hj => by
    obtain ⟨hl, h0⟩ := h
    rcases h0 with ⟨e, _⟩ | ⟨g', cap', cur, e, hb, hg, hn, hc, hs, ht⟩
    · cases e
    · cases e
      have hcj : cur[j]? = some (encU d[j]!) := by
        have h1 : (cur.toList.take (d.size * 1))[j]? = (d.toList.map encU)[j]? := by rw [ht]
        rw [List.getElem?_take, if_pos (by omega), List.getElem?_map, Array.getElem?_toList, Array.getElem?_toList, Array.getElem?_eq_getElem hj] at h1
        rw [h1, getElem!_pos d j hj]; rfl
      exact ⟨by simp [World.cell?, hg, hcj], by simp [World.frozen?, hg]⟩
  have hcon := Any.slices_SortFunc sortH encU (fun _ => rfl) cfB swo_cfB 141 #[] g 0 cap d w eg (CmpReads.lays (fun m os dk hs x y => closure_any x y _)) hH hblk hd
  refine Calls.mono hcon ?_
  rintro e w' ⟨rfl, d', n, os, hp, hs, rfl⟩
  obtain ⟨hr, hT⟩ := row_put h hp.1 n os
  refine ⟨rfl, d', ?_, fun i j hij hj => ?_, hr, hT⟩
  · have h2 := hp.2.2
    have e1 : d.extract 0 d.size = d := by simp
    have e2 : d'.extract 0 d.size = d' := by rw [← hp.1]; simp
    rw [e1, e2] at h2
    exact h2
  · have h3 := hs i j (Nat.zero_le _) hij (by have := hp.1; omega)
    rw [lt_cfB] at h3
    simp at h3
    omega

theorem ownsRow_shape {w : World} {base : Nat} {e : TypeId} {size n : Nat} {v : Value} {xs : List Value} (h : w.ownsRow base e size v n xs) : (v = .slice none 0 0 ∧ n = 0) ∨ ∃ g cap, v = .slice (some ⟨g, 0, none⟩) n cap ∧ base ≤ g := by
  rcases h.2 with h0 | ⟨g, cap, cur, e, hb, _⟩
  · exact .inl h0
  · exact .inr ⟨g, cap, e, hb⟩
theorem sorted_unique {l l' : List Int} (hp : l.Perm l') (hs : l.Pairwise (fun a b => a % 65536 ≤ b % 65536)) (hr : l'.Pairwise (fun a b => a % 65536 < b % 65536)) : l = l' := by
  refine List.Perm.eq_of_pairwise (le := fun a b : Int => a % 65536 ≤ b % 65536) (fun a b ha hb h1 h2 => ?_) hs (hr.imp fun h => by omega) hp
  have e : a % 65536 = b % 65536 := by omega
  have ha' := hp.mem_iff.1 ha
  obtain ⟨i, hi⟩ := List.mem_iff_getElem?.1 ha'
  obtain ⟨j, hj⟩ := List.mem_iff_getElem?.1 hb
  obtain ⟨hi1, hi2⟩ := List.getElem?_eq_some_iff.1 hi
  obtain ⟨hj1, hj2⟩ := List.getElem?_eq_some_iff.1 hj
  rw [List.pairwise_iff_getElem] at hr
  rcases Nat.lt_trichotomy i j with hij | hij | hij
  · have := hr i j hi1 hj1 hij; rw [hi2, hj2] at this; omega
  · subst hij; rw [← hi2, ← hj2]
  · have := hr j i hj1 hi1 hij; rw [hi2, hj2] at this; omega

def hs_ (L : List Blk) : List Int := L.map Blk.h
theorem mem_hs {L : List Blk} {x : Int} : x ∈ hs_ L ↔ hasH L x = true := by
  rw [hasH_iff]; simp [hs_]

theorem sortedFunc_any {gf : Nat} {lb : Array Value} {Sp : List Int → Prop} {N : Nat} {w : World} {L : List Blk} (eg : ∀ args w, (callFunc gf args).run Tryz.prog w = .ok (.enter gf args) w)
    (hseq : SeqStopsK Fence.wide 4 Tryz.prog gf lb (fun x : Int => #[Value.int .u64 x]) KeepsWalks (fun ss => ss.Nodup ∧ ∀ x, x ∈ ss ↔ hasH L x = true) Sp N w) (hN : N ≤ 1000000000000) (hr : L.Pairwise (fun a b => a.h % 65536 < b.h % 65536)) (h64 : ∀ x, x ∈ L → W64 x.h) (hlen : L.length ≤ 1000000000000) :
    Calls Tryz.prog 139 #[.func (.func gf) #[] lb, .func (.func 141) #[] #[]] w fun e w' => ∃ v, e = .returned v ∧ w'.ownsRow w.heap.size 31 1 v L.length (u64s (hs_ L)) ∧ Below w.heap.size w w' := by
  have HC := Lib.hid (collect_in eg hseq hN)
  have HS : Hid (∀ (w1 : World) (v : Value) (ss : List Int), (ss.Nodup ∧ ∀ x, x ∈ ss ↔ hasH L x = true) → w1.ownsRow w.heap.size 31 1 v ss.length (u64s ss) → Below w.heap.size w w1 →
      Calls Tryz.prog 161 #[v, .func (.func 141) #[] #[]] w1 fun e w' => e = .returned (.tuple #[]) ∧ w'.ownsRow w.heap.size 31 1 v L.length (u64s (hs_ L)) ∧ Below w.heap.size w w') := by
    refine Lib.hid fun w1 v ss hss hrow hb => ?_
    have hrL : (hs_ L).Pairwise (fun a b => a % 65536 < b % 65536) := List.pairwise_map.2 hr
    have hndL : (hs_ L).Nodup := hrL.imp fun h e => by rw [e] at h; omega
    have hperm : ss.Perm (hs_ L) := (List.perm_ext_iff_of_nodup hss.1 hndL).2 fun x => by rw [hss.2, mem_hs]
    have hl : ss.length = L.length := by rw [hperm.length_eq]; simp [hs_]
    have hw : ∀ x, x ∈ ss → W64 x := fun x hx => by
      obtain ⟨y, hy, rfl⟩ := hasH_iff.1 ((hss.2 x).1 hx)
      exact h64 y hy
    obtain ⟨d, hd⟩ : ∃ d : Array U64, d.toList.map Subtype.val = ss := ⟨(ss.pmap (fun x h => (⟨x, h⟩ : U64)) hw).toArray, by simp [List.map_pmap]⟩
    have hdl : d.size = ss.length := by rw [← hd]; simp
    have hdu : d.toList.map encU = u64s ss := by rw [← hd]; simp [u64s, encU]
    rcases ownsRow_shape hrow with ⟨rfl, h0⟩ | ⟨g, cap, rfl, hg⟩
    · refine Calls.mono (AnyF.slices_SortFunc_none (P := Tryz.prog) (ρ := sortH_ren) { sortH with } none 0 _ w1) ?_
      rintro e w' ⟨rfl, rfl⟩
      have : L = [] := List.length_eq_zero_iff.1 (by omega)
      subst this
      exact ⟨rfl, World.ownsRow_nil _ _ _ _, hb⟩
    · rw [← hdl, ← hdu] at hrow
      rw [← hdl]
      refine Calls.mono (sort_any d hrow (by omega)) ?_
      rintro e w' ⟨rfl, d', hp, hsrt, hr', hT⟩
      have hfin : d'.toList.map Subtype.val = hs_ L := by
        refine sorted_unique ((hp.map _).trans (by rw [hd]; exact hperm)) ?_ hrL
        rw [List.pairwise_map, List.pairwise_iff_getElem]
        intro i j hi hj hij
        have := hsrt i j hij (by simpa using hj)
        rw [getElem!_pos d' i (by simpa using hi), getElem!_pos d' j (by simpa using hj)] at this
        simpa using this
      have hu : d'.toList.map encU = u64s (hs_ L) := by rw [← hfin]; simp [u64s, encU]
      rw [hu, hdl, hl] at hr'
      rw [hdl, hl]
      exact ⟨rfl, hr', hb.trans (hT.below hb.size (fun k hk => by simp at hk; omega))⟩
  go_enter Tryz.func139, Tryz.ntmps139
  go_wp2_with (first
    | (go_at_call 160; (with_reducible refine (HC.out).mono ?_); rintro e w1 ⟨v, ss, rfl, h1, h2, h3, h4⟩; have H1 := Lib.hid (HS.out w1 v ss h1 h2 h4); clear h1 h2 h3 h4)
    | (go_at_call 161; (with_reducible refine (H1.out).mono ?_); rintro e w2 ⟨rfl, h5, h6⟩; have H2 := Lib.hid (And.intro h5 h6); clear h5 h6))
  go_ret
  exact ⟨_, rfl, H2.out⟩
end Arn
end Go.Proofs.YtpajafecodkndaaGreat
