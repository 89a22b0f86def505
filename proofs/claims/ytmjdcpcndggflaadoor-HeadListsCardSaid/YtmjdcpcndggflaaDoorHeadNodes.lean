/- entriesOf: the blocks of an arena that are entries, as a map. -/
import Derived.Test.YtmjdcpcndggflaaDoorHeadEntry
import Derived.Test.YtmjdcpcndggflaaDoorArenaBlocks
import Derived.RangeFuncCalls
set_option linter.unusedVariables false
set_option linter.unusedSimpArgs false
namespace Go.Proofs.YtmjdcpcndggflaaDoor
namespace Hed
open Go.RowKit Go.Maps Go.Shelf Arn
attribute [local go_sem] Oper.semAt_some

structure EntS (w : World) (m Bx : Nat) (pre : List Got) (W : World) : Prop where
  box : Boxed W Bx 97 (.map (some m))
  eat : EAt W m pre.length (entsOf (pre.map Prod.fst))
  turn : Frm.Turn [] w W
theorem EntS.own {w : World} {m Bx B : Nat} (hm : m < B) (hx : Bx < B) (hB : w.heap.size ≤ B) : OwnFrom B (EntS w m Bx) := fun s X Y row hs hg hr => by
  have hno : ∀ k, k < B → k ∉ row.toList := fun k hk hk' => by
    simp at hk'
    obtain ⟨h1, _⟩ := hr _ hk'
    omega
  refine ⟨?_, hs.eat.turn (Frm.Turn.of_grown hg) (hno m hm), hs.turn.trans (Frm.Turn.of_grown hg) (fun k hk => .inr ?_)⟩
  · exact (Frm.Turn.of_grown hg).keep (show _ = _ from hs.box) (hno Bx hx)
  · simp at hk
    obtain ⟨h1, _⟩ := hr _ hk
    omega
theorem HasRow.words {W : World} {x : Got} (h : HasRow W x) : WordsAt W (.slice (some ⟨x.2.1, 0, none⟩) x.1.ws.length x.2.2) x.1.ws :=
  .inr ⟨⟨x.2.1, 0, none⟩, x.2.2, rfl, fun j u hu => World.ownsRow.cells h rfl j u hu⟩
theorem keeps_of_turn {B : Nat} {W W' : World} (h : Frm.Turn [] W W') : KeepsFrom B W W' := ⟨h.size, fun i o hB hi ho => h.keep hi (by simp)⟩

set_option maxRecDepth 100000 in
set_option maxHeartbeats 4000000 in
theorem entries_any {w : World} {b : Nat} {M : Mem} {A : Ar} (h : ArAt w b M A) (hk : Ops.Kn w) :
    Calls Tryd.prog 47 #[.pointer (some ⟨b, 0, none⟩)] w fun e w' => ∃ m n, e = .returned (.map (some m)) ∧ EAt w' m n (entsOf A.L) ∧ w.heap.size ≤ m ∧ Frm.Turn [] w w' := by
  have T2 : Frm.Turn [] w ((w.alloc (.map #[] 0)).alloc (.cells #[.map (some w.heap.size)] 97)) := ((Frm.Turn.refl [] w).alloc _).alloc _
  have HAll := Lib.hid (all_any (h.step T2))
  have hmm := @run_makeMap Tryd.prog
  have h64 : ∀ x, x ∈ A.L → W64 x.h ∧ x.ws.length ≤ 2048 := fun x hx => by
    have := h.ok.hnd x hx; have := h.ok.births; have := h.ok.len x hx; unfold W64; omega
  have hw64 : ∀ x, x ∈ A.L → ∀ u, u ∈ x.ws → W64 u := fun x hx u hu => h.ok.wrd x hx u hu
  have HK := Lib.hid hk
  have hlen : A.L.length ≤ 60000 := by
    have h3 := length_le_used (fun x hx => (h.ok.len x hx).1)
    have h4 := h.ok.top
    have h5 := h.ok.peak
    have h6 := h.ok.cap
    omega
  refine callsIn_wide.1 (?_ : CallsIn Fence.wide 6 _ _ _ _ _)
  refine callsIn_of_wp_marks Tryd.func47 rfl trivial ?_ rfl
  simp only [Tryd.ntmps47, List.size_toArray, List.length_cons, List.length_nil, Nat.reduceAdd, Nat.reduceSub, Array.replicate_succ, Array.replicate_zero, List.push_toArray, List.append_toArray, List.nil_append, List.cons_append]
  gi_wp2_with (refine ⟨trivial, ?_⟩; gi_at_call 52; refine (callsIn_wide.2 HAll.out).mono ?_; rintro e W0 ⟨Bk, Bm, m, kv, B, rfl, hA, hF, hT⟩)
  have b1 : Boxed W0 (w.heap.size + 1) 97 (.map (some w.heap.size)) := hT.keep (by
    have := Boxed.new (w.alloc (.map #[] 0)) 97 (.map (some w.heap.size))
    rw [World.size_alloc] at this
    exact this) (by simp)
  have hn0 : EAt W0 w.heap.size 0 (fun _ => none) := ((eat_made w).turn ((Frm.Turn.refl [] _).alloc _) (by simp)).turn hT (by simp)
  have hTw : Frm.Turn [] w W0 := T2.trans hT (by simp)
  have hs0 := hTw.size
  have hs1 := hT.size
  simp at hs1
  have hF' : ∀ k, k ∈ allFoot Bk Bm m kv B → w.heap.size + 2 ≤ k ∧ k < W0.heap.size := fun k hk => by
    have h1 := hF k hk
    simp at h1
    exact ⟨by omega, hA.lt hk⟩
  have hA0 := Lib.hid hA
  have HO := Lib.hid (EntS.own (w := w) (m := w.heap.size) (Bx := w.heap.size + 1) (B := W0.heap.size) (by omega) (by omega) hs0)
  refine Told.wp_told (n := 6) (by omega) (gf := 62) (lb := #[.pointer (some ⟨Bk, 0, none⟩), .pointer (some ⟨Bm, 0, none⟩)]) rfl (enters_of Tryd.func62 (by kernel_rfl) rfl)
    (encs := gotEnc) (Kp := KeepsAll (allFoot Bk Bm m kv B)) (G := Gives A.L) (S := fun xs => xs.map Prod.fst = A.L) (Sp := fun pre => True) (w0 := W0)
    (fun l J Jx W hW hJ _ hY hj0 => (iter1_in 5 (by omega) l Bk Bm m kv B A.L h64 hlen J Jx hY W hJ (hA0.out.turn (Frm.Turn.of_below (F := []) hW) (by simp)) hj0).mono (by rintro e W' ⟨h1, ⟨xs, h2, h3⟩ | ⟨pre, _, h3⟩⟩; exact ⟨h1, .inl ⟨xs, h2, h3⟩⟩; exact ⟨h1, .inr ⟨pre, trivial, h3⟩⟩))
    KeepsAll.trans
    (fun W l o o' hl ho hc hw => ⟨[l], fun k hk hk' => by have := (hF' k hk').2; simp at hk; omega, Frm.Turn.of_grown (grownBy_putObj' W l o')⟩)
    (Below.refl _ _) (fun _ => rfl)
    (EntS w w.heap.size (w.heap.size + 1))
    (fun c pre' W => False)
    HO.out
    (fun c s X Y row hs hg hr => hs.elim)
    (fun pre => gives_own A.L _ pre)
    ⟨b1, hn0, hTw⟩
    (fun x => { tmps := #[.pointer (some ⟨b, 0, none⟩), undef, .map none, .pointer (some ⟨w.heap.size + 1, 0, none⟩), .int .u64 x.1.h, .slice (some ⟨x.2.1, 0, none⟩) x.1.ws.length x.2.2, undef, undef, .pointer (some ⟨b, 0, none⟩), .bool false, .map (some w.heap.size), .pointer (some ⟨b, 0, none⟩), .func (.func 62) #[] #[.pointer (some ⟨Bk, 0, none⟩), .pointer (some ⟨Bm, 0, none⟩)], .int .u64 x.1.h, .slice (some ⟨x.2.1, 0, none⟩) x.1.ws.length x.2.2, undef, undef, undef, undef, undef, undef, undef, undef, undef, undef], defers := [] }) ?assign ?body ?done ?stop
  case assign =>
    intro l x W K hK
    unfold gotEnc
    gi_wp2
    exact hK
  case body =>
    rintro l pre x W hI hgx
    have hbx := hI.box
    have hxm : x.1 ∈ A.L := List.mem_of_getElem? hgx.2.1
    have hpl : pre.length ≤ 60000 := by
      have := (List.getElem?_eq_some_iff.1 hgx.2.1).1
      omega
    have HRE := Lib.hid (ReadEntry_any x.1.ws _ W (HasRow.words hgx.1) (hw64 x.1 hxm) (HK.out.turn hI.turn))
    have hxh := (h64 x.1 hxm).1
    have HI := Lib.hid hI
    have hupd : ∀ p, p = pre ++ [x] → entsOf (p.map Prod.fst) = updE (entsOf (pre.map Prod.fst)) x.1 := fun p hp => by
      rw [hp, List.map_append, List.map_cons, List.map_nil, entsOf_snoc]
    have HU := Lib.hid hupd
    clear hI hgx hbx hupd
    cases hr : readE x.1.ws with
    | none =>
      rw [hr] at HRE
      have HFin : Hid (∀ W1, Frm.Turn [] W W1 → KeepsFrom W0.heap.size W W1 ∧ KeepsAll (allFoot Bk Bm m kv B) W W1 ∧ EntS w w.heap.size (w.heap.size + 1) (pre ++ [x]) W1) := Lib.hid fun W1 hT1 => by
        refine ⟨keeps_of_turn hT1, ⟨[], by simp, hT1⟩, hT1.keep (show _ = _ from HI.out.box) (by simp), ?_, HI.out.turn.trans hT1 (by simp)⟩
        rw [HU.out _ rfl, List.length_append, List.length_singleton]
        have e : updE (entsOf (pre.map Prod.fst)) x.1 = entsOf (pre.map Prod.fst) := by
          funext j
          unfold updE
          rw [hr, if_neg (by simp)]
        rw [e]
        exact (HI.out.eat.turn hT1 (by simp)).more
      clear hr
      gi_wp2_with (refine ⟨trivial, ?_⟩; gi_at_call 16; refine (CallsIn.inRound l (callsIn_wide.2 HRE.out)).mono ?_; rintro e W1 ⟨rfl, hT1⟩; have HT1 := Lib.hid hT1; clear hT1)
      exact HFin.out _ (HT1.out.alloc _)
    | some en =>
      rw [hr] at HRE
      have hst : Hid (∀ W1, Frm.Turn [] W W1 → ∃ w2, (Instr.mapUpdate 97 (.map (some w.heap.size)) (.int .u64 x.1.h) (entV en)).run Tryd.prog W1 = .ok () w2 ∧ Hid (KeepsFrom W0.heap.size W w2 ∧ KeepsAll (allFoot Bk Bm m kv B) W w2 ∧ EntS w w.heap.size (w.heap.size + 1) (pre ++ [x]) w2)) := Lib.hid fun W1 hT1 => by
        obtain ⟨w2, hrun, hn2, hG2⟩ := (HI.out.eat.turn hT1 (by simp)).store (by unfold maxLen; omega) hxh en
        have hT2 : Frm.Turn [w.heap.size] W w2 := (hT1.mono (by simp)).trans (by simpa using Frm.Turn.of_grown hG2) (fun k hk => .inl hk)
        have hKF := KeepsFrom.of_grownBy (B := W0.heap.size) (W := W1) hG2 (fun j hj => by have e : w.heap.size = j := Option.some.inj hj; omega)
        refine ⟨w2, hrun, Lib.hid ⟨⟨Nat.le_trans hT1.size hKF.size, fun i o hB hi ho => hKF.same i o hB (hT1.keep hi (by simp)) ho⟩, ⟨[w.heap.size], fun k hk hk' => by have := (hF' k hk').1; simp at hk; omega, hT2⟩, hT2.keep (show _ = _ from HI.out.box) (by simp), ?_, HI.out.turn.trans hT2 (fun k hk => .inr (by simp at hk; omega))⟩⟩
        rw [HU.out _ rfl, List.length_append, List.length_singleton]
        have e : updE (entsOf (pre.map Prod.fst)) x.1 = fun j => if x.1.h = j then some en else entsOf (pre.map Prod.fst) j := by
          funext j
          unfold updE
          rw [hr]
          simp
        rw [e]
        exact hn2
      have HBX : Hid (∀ W1, Frm.Turn [] W W1 → W1.cell? ⟨w.heap.size + 1, 0, none⟩ = some (.map (some w.heap.size))) := Lib.hid fun W1 hT1 => (show Boxed W1 _ _ _ from hT1.keep (show _ = _ from HI.out.box) (by simp)).cell
      clear hr
      obtain ⟨s, n, q⟩ := en
      dsimp only [entV, Option.getD_some, Option.isSome_some] at HRE
      gi_wp2_with (refine ⟨trivial, ?_⟩; gi_at_call 16; refine (CallsIn.inRound l (callsIn_wide.2 HRE.out)).mono ?_; rintro e W1 ⟨rfl, hT1⟩; obtain ⟨w2, hrun, HF2⟩ := hst.out _ (hT1.alloc (entO s n q)); have hcb := HBX.out _ (hT1.alloc (entO s n q)); unfold entO at hrun hcb; dsimp only [entV] at hrun; clear hT1)
      exact HF2.out
  case done =>
    rintro D ys W hD hS hI hK
    have hc := hI.box.cell
    have hI2 := Lib.hid (HO.out.putObj (.deferred none) hI (by omega) hK rfl)
    clear hI
    gi_wp2
    refine ⟨by simp, .inl ⟨_, _, rfl, run_takeDeferred hK, ?_⟩⟩
    refine ⟨_, results_tmp rfl _ _ _, _, _, rfl, by have := hI2.out.eat; rw [hS] at this; exact this, Nat.le_refl _, hI2.out.turn⟩
  case stop =>
    rintro D c pre W hD _ hI hK
    exact hI.elim
set_option maxRecDepth 100000 in
theorem entries_nil (w : World) : Calls Tryd.prog 47 #[.pointer none] w fun e w' => e = .returned (.map none) ∧ Frm.Turn [] w w' := by
  go_enter Tryd.func47, Tryd.ntmps47
  go_wp2
  go_ret
  exact ⟨rfl, Frm.Turn.refl [] w⟩
end Hed
end Go.Proofs.YtmjdcpcndggflaaDoor
