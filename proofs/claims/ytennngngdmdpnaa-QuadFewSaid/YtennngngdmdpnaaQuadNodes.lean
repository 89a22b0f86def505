/- nodesOf: the blocks of four words, as a map. -/
import Derived.Test.YtennngngdmdpnaaQuadMem
import Derived.Test.YtennngngdmdpnaaArenaBlocks
set_option linter.unusedVariables false
set_option linter.unusedSimpArgs false
namespace Go.Proofs.Ytennngngdmdpnaa
namespace Qud
open Go.RowKit Go.Maps Go.Shelf Arn
attribute [local go_sem] Oper.semAt_some

theorem NAt.more {w : World} {m n : Nat} {f : Int → List Int} (h : NAt w m n f) : NAt w m (n + 1) f := by
  obtain ⟨D, ⟨es, c, hb, F, hs, hD⟩, hk⟩ := h
  exact ⟨D, ⟨es, c, hb, F, Nat.le_succ_of_le hs, hD⟩, hk⟩
structure NodS (w : World) (m Bx : Nat) (pre : List Got) (W : World) : Prop where
  box : Boxed W Bx 96 (.map (some m))
  nat : NAt W m pre.length (ndOf (pre.map Prod.fst))
  turn : Frm.Turn [] w W
theorem NodS.own {w : World} {m Bx B : Nat} (hm : m < B) (hx : Bx < B) (hB : w.heap.size ≤ B) : OwnFrom B (NodS w m Bx) := fun s X Y row hs hg hr => by
  have hno : ∀ k, k < B → k ∉ row.toList := fun k hk hk' => by
    simp at hk'
    obtain ⟨h1, _⟩ := hr _ hk'
    omega
  refine ⟨?_, hs.nat.turn (Frm.Turn.of_grown hg) (hno m hm), hs.turn.trans (Frm.Turn.of_grown hg) (fun k hk => .inr ?_)⟩
  · exact (Frm.Turn.of_grown hg).keep (show _ = _ from hs.box) (hno Bx hx)
  · simp at hk
    obtain ⟨h1, _⟩ := hr _ hk
    omega
theorem row_cells {W : World} {x : Got} {x0 x1 x2 x3 : Int} (h : HasRow W x) (h4 : x.1.ws = [x0, x1, x2, x3]) : W.cell? ⟨x.2.1, 0, none⟩ = some (.int .u64 x0) ∧ W.cell? ⟨x.2.1, 1, none⟩ = some (.int .u64 x1) ∧ W.cell? ⟨x.2.1, 2, none⟩ = some (.int .u64 x2) ∧ W.cell? ⟨x.2.1, 3, none⟩ = some (.int .u64 x3) := by
  have hc := fun j u hu => World.ownsRow.cells h rfl j u hu
  rw [h4] at hc
  refine ⟨?_, ?_, ?_, ?_⟩
  · have := hc 0 _ rfl
    rwa [Addr.add_lit] at this
  · have := hc 1 _ rfl
    rwa [Addr.add_lit] at this
  · have := hc 2 _ rfl
    rwa [Addr.add_lit] at this
  · have := hc 3 _ rfl
    rwa [Addr.add_lit] at this
theorem arr_at (W : World) (g : Nat) (c : Nat) : (Instr.arrayAt 24 (.slice (some ⟨g, 0, none⟩) 4 c)).run Try.prog W = .ok (.pointer (some ⟨g, 0, none⟩)) W := by
  kernel_rfl

set_option maxRecDepth 100000 in
set_option maxHeartbeats 4000000 in
theorem nodes_any {w : World} {b : Nat} {M : Mem} {A : Ar} (h : ArAt w b M A) :
    Calls Try.prog 65 #[.pointer (some ⟨b, 0, none⟩)] w fun e w' => ∃ m n, e = .returned (.map (some m)) ∧ NAt w' m n (ndOf A.L) ∧ w.heap.size ≤ m ∧ Frm.Turn [] w w' := by
  have T2 : Frm.Turn [] w ((w.alloc (.map #[] 0)).alloc (.cells #[.map (some w.heap.size)] 96)) := ((Frm.Turn.refl [] w).alloc _).alloc _
  have HAll := Lib.hid (all_any (h.step T2))
  have hmm := @run_makeMap Try.prog
  have h64 : ∀ x, x ∈ A.L → W64 x.h ∧ x.ws.length ≤ 2048 := fun x hx => by
    have := h.ok.hnd x hx; have := h.ok.births; have := h.ok.len x hx; unfold W64; omega
  have hlen : A.L.length ≤ 60000 := by
    have h3 := length_le_used (fun x hx => (h.ok.len x hx).1)
    have h4 := h.ok.top
    have h5 := h.ok.peak
    have h6 := h.ok.cap
    omega
  refine callsIn_wide.1 (?_ : CallsIn Fence.wide 6 _ _ _ _ _)
  refine callsIn_of_wp_marks Try.func65 rfl trivial ?_ rfl
  simp only [Try.ntmps65, List.size_toArray, List.length_cons, List.length_nil, Nat.reduceAdd, Nat.reduceSub, Array.replicate_succ, Array.replicate_zero, List.push_toArray, List.append_toArray, List.nil_append, List.cons_append]
  gi_wp2_with (refine ⟨trivial, ?_⟩; gi_at_call 54; refine (callsIn_wide.2 HAll.out).mono ?_; rintro e W0 ⟨Bk, Bm, m, kv, B, rfl, hA, hF, hT⟩)
  have b1 : Boxed W0 (w.heap.size + 1) 96 (.map (some w.heap.size)) := hT.keep (by
    have := Boxed.new (w.alloc (.map #[] 0)) 96 (.map (some w.heap.size))
    rw [World.size_alloc] at this
    exact this) (by simp)
  have hn0 : NAt W0 w.heap.size 0 (fun _ => zero4) := ((nat_made w).turn ((Frm.Turn.refl [] _).alloc _) (by simp)).turn hT (by simp)
  have hTw : Frm.Turn [] w W0 := T2.trans hT (by simp)
  have hs0 := hTw.size
  have hs1 := hT.size
  simp at hs1
  have hF' : ∀ k, k ∈ allFoot Bk Bm m kv B → w.heap.size + 2 ≤ k ∧ k < W0.heap.size := fun k hk => by
    have h1 := hF k hk
    simp at h1
    exact ⟨by omega, hA.lt hk⟩
  have hA0 := Lib.hid hA
  have HO := Lib.hid (NodS.own (w := w) (m := w.heap.size) (Bx := w.heap.size + 1) (B := W0.heap.size) (by omega) (by omega) hs0)
  refine Told.wp_told (n := 6) (by omega) (gf := 74) (lb := #[.pointer (some ⟨Bk, 0, none⟩), .pointer (some ⟨Bm, 0, none⟩)]) rfl (enters_of Try.func74 (by kernel_rfl) rfl)
    (encs := gotEnc) (Kp := KeepsAll (allFoot Bk Bm m kv B)) (G := Gives A.L) (S := fun xs => xs.map Prod.fst = A.L) (Sp := fun pre => True) (w0 := W0)
    (fun l J Jx W hW hJ _ hY hj0 => (iter1_in 5 (by omega) l Bk Bm m kv B A.L h64 hlen J Jx hY W hJ (hA0.out.turn (Frm.Turn.of_below (F := []) hW) (by simp)) hj0).mono (by rintro e W' ⟨h1, ⟨xs, h2, h3⟩ | ⟨pre, _, h3⟩⟩; exact ⟨h1, .inl ⟨xs, h2, h3⟩⟩; exact ⟨h1, .inr ⟨pre, trivial, h3⟩⟩))
    KeepsAll.trans
    (fun W l o o' hl ho hc hw => ⟨[l], fun k hk hk' => by have := (hF' k hk').2; simp at hk; omega, Frm.Turn.of_grown (grownBy_putObj' W l o')⟩)
    (Below.refl _ _) (fun _ => rfl)
    (NodS w w.heap.size (w.heap.size + 1))
    (fun c pre' W => False)
    HO.out
    (fun c s X Y row hs hg hr => hs.elim)
    (fun pre => gives_own A.L _ pre)
    ⟨b1, hn0, hTw⟩
    (fun x => { tmps := #[.pointer (some ⟨b, 0, none⟩), undef, .map none, .pointer (some ⟨w.heap.size + 1, 0, none⟩), .int .u64 x.1.h, .slice (some ⟨x.2.1, 0, none⟩) x.1.ws.length x.2.2, .map (some w.heap.size), .pointer (some ⟨b, 0, none⟩), .func (.func 74) #[] #[.pointer (some ⟨Bk, 0, none⟩), .pointer (some ⟨Bm, 0, none⟩)], .int .u64 x.1.h, .slice (some ⟨x.2.1, 0, none⟩) x.1.ws.length x.2.2, undef, undef, undef, undef, undef, undef, undef, undef, undef], defers := [] }) ?assign ?body ?done ?stop
  case assign =>
    intro l x W K hK
    unfold gotEnc
    gi_wp2
    exact hK
  case body =>
    rintro l pre x W hI hgx
    have hc := hI.box.cell
    have hxm : x.1 ∈ A.L := List.mem_of_getElem? hgx.2.1
    have hpl : pre.length ≤ 60000 := by
      have := (List.getElem?_eq_some_iff.1 hgx.2.1).1
      omega
    by_cases h4 : x.1.ws.length = 4
    · obtain ⟨w2, hrun, hn2, hG2⟩ := (show NAt W.drew w.heap.size pre.length _ from hI.nat.turn (Frm.Turn.refl [] W).drew (by simp)).store (by unfold maxLen; omega) (h64 x.1 hxm).1 x.1.ws
      obtain ⟨x0, x1, x2, x3, h4e⟩ : ∃ x0 x1 x2 x3, x.1.ws = [x0, x1, x2, x3] := by
        match hv : x.1.ws, h4 with
        | [x0, x1, x2, x3], _ => exact ⟨x0, x1, x2, x3, rfl⟩
      obtain ⟨a0, a1, a2, a3⟩ := row_cells (W := W.drew) (hgx.1.turn (Frm.Turn.refl [] W).drew (by simp)) h4e
      have hT2 : Frm.Turn [w.heap.size] W w2 := ((Frm.Turn.refl [w.heap.size] W).drew).trans (by simpa using Frm.Turn.of_grown hG2) (fun k hk => .inl hk)
      have hKF := KeepsFrom.of_grownBy (B := W0.heap.size) (W := W.drew) hG2 (fun j hj => by have e : w.heap.size = j := Option.some.inj hj; omega)
      have hfin : KeepsFrom W0.heap.size W w2 ∧ KeepsAll (allFoot Bk Bm m kv B) W w2 ∧ NodS w w.heap.size (w.heap.size + 1) (pre ++ [x]) w2 := by
        refine ⟨⟨hKF.size, fun i o hB hi ho => hKF.same i o hB hi ho⟩, ⟨[w.heap.size], fun k hk hk' => by have := (hF' k hk').1; simp at hk; omega, hT2⟩, ?_, ?_, hI.turn.trans hT2 (fun k hk => .inr (by simp at hk; omega))⟩
        · exact hT2.keep (show _ = _ from hI.box) (by simp)
        · rw [List.map_append, List.map_cons, List.map_nil, ndOf_snoc, List.length_append, List.length_singleton]
          have e : upd (ndOf (pre.map Prod.fst)) x.1 = fun j => if x.1.h = j then x.1.ws else ndOf (pre.map Prod.fst) j := by
            funext j
            simp [upd, h4]
          rw [e]
          exact hn2
      have HF := Lib.hid hfin
      clear hfin hn2 hG2 hT2 hKF
      rw [h4e] at hrun
      simp only [nodeV, u64s, List.map_cons, List.map_nil] at hrun
      have harr := arr_at W.drew x.2.1 x.2.2
      have HI := Lib.hid hI
      have HG := Lib.hid hgx
      clear hI hgx
      rw [h4]
      gi_wp2
      gi_region
      all_goals gi_wp2
      all_goals exact HF.out
    · have HI := Lib.hid hI
      have hne : ¬ ((x.1.ws.length : Nat) : Int) = 4 := by omega
      clear hI hgx
      gi_wp2
      refine ⟨KeepsFrom.refl _ _, ⟨[], by simp, Frm.Turn.refl _ _⟩, HI.out.box, ?_, HI.out.turn⟩
      rw [List.map_append, List.map_cons, List.map_nil, ndOf_snoc, List.length_append, List.length_singleton]
      have e : upd (ndOf (pre.map Prod.fst)) x.1 = ndOf (pre.map Prod.fst) := by
        funext j
        simp [upd, h4]
      rw [e]
      exact HI.out.nat.more
  case done =>
    rintro D ys W hD hS hI hK
    have hc := hI.box.cell
    have hI2 := Lib.hid (HO.out.putObj (.deferred none) hI (by omega) hK rfl)
    clear hI
    gi_wp2
    refine ⟨by simp, .inl ⟨_, _, rfl, run_takeDeferred hK, ?_⟩⟩
    refine ⟨_, results_tmp rfl _ _ _, _, _, rfl, by have := hI2.out.nat; rw [hS] at this; exact this, Nat.le_refl _, hI2.out.turn⟩
  case stop =>
    rintro D c pre W hD _ hI hK
    exact hI.elim
end Qud
end Go.Proofs.Ytennngngdmdpnaa
