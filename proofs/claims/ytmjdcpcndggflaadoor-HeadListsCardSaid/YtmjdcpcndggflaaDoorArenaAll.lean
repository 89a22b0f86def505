/- All: the handles by their numbers, the copies of the blocks; its iterator, for whatever loop that leaves those alone. -/
import Derived.Test.YtmjdcpcndggflaaDoorArenaSort
import Derived.Test.YtmjdcpcndggflaaDoorRangeTold
set_option linter.unusedVariables false
set_option linter.unusedSimpArgs false
namespace Go.Proofs.YtmjdcpcndggflaaDoor
namespace Arn
open Go.RowKit Hp Go.Maps Go.Shelf

theorem MapAt.look_is {w : World} {m : Nat} {B : List Row} {L : List Blk} {D : DataW Unit} (h : MapAt w m B L D) {i : Nat} {r : Row} {x : Blk} (hr : B[i]? = some r) (hx : L[i]? = some x) (he : r.h = x.h) (h64 : W64 x.h) :
    (Instr.lookup 75 (.map (some m)) (.int .u64 x.h) false).run Tryd.prog w = .ok (.slice (some ⟨r.g, 0, none⟩) x.ws.length r.c) w := by
  obtain ⟨v, ps, hrun, hv⟩ := h.own.lookup keyU mapU (zeroS w) hdr_nil (key_u64 x.h h64)
  have := h.at_ i r x hr hx (hdat 0 0 0)
  rw [← he] at hv hrun
  rw [← he]
  rw [h.at_ i r x hr hx] at hv
  rw [hrun, hdr_of hv]

/-- What All has laid: a box with the handles' slice, a box with the map of the copies. -/
structure AllAt (W : World) (Bk Bm m : Nat) (kv : Value) (B : List Row) (L : List Blk) : Prop where
  bk : Boxed W Bk 28 kv
  bm : Boxed W Bm 75 (.map (some m))
  row : W.ownsRow 0 22 1 kv L.length (u64s (hs_ L))
  map : ∃ D, MapAt W m B L D
  rows : B.length = L.length ∧ ∀ (i : Nat) (r : Row) (x : Blk), B[i]? = some r → L[i]? = some x → RowOk W r x
def allFoot (Bk Bm m : Nat) (kv : Value) (B : List Row) : List Nat := Bk :: Bm :: m :: (kv.ownBlock.toList ++ B.map Row.g)
theorem AllAt.turn {W W' : World} {Bk Bm m : Nat} {kv : Value} {B : List Row} {L : List Blk} {G : List Nat} (h : AllAt W Bk Bm m kv B L) (ht : Frm.Turn G W W') (hn : ∀ k, k ∈ allFoot Bk Bm m kv B → k ∉ G) : AllAt W' Bk Bm m kv B L := by
  obtain ⟨D, hD⟩ := h.map
  refine ⟨ht.keep h.bk (hn Bk (by simp [allFoot])), ht.keep h.bm (hn Bm (by simp [allFoot])), Frm.owns_turn h.row ht (fun k hk => hn k ?_), ⟨D, hD.turn ht (hn m (by simp [allFoot]))⟩, h.rows.1, fun i r x hr hx => (h.rows.2 i r x hr hx).turn ht (hn r.g ?_)⟩
  · simp [allFoot, hk]
  · have := g_mem (M := ⟨0, 0, [], B⟩) hr
    simp only [allFoot, List.mem_cons, List.mem_append]
    exact Or.inr (Or.inr (Or.inr (Or.inr this)))
theorem AllAt.lt {W : World} {Bk Bm m : Nat} {kv : Value} {B : List Row} {L : List Blk} (h : AllAt W Bk Bm m kv B L) {k : Nat} (hk : k ∈ allFoot Bk Bm m kv B) : k < W.heap.size := by
  obtain ⟨D, hD⟩ := h.map
  simp only [allFoot, List.mem_cons, List.mem_append] at hk
  rcases hk with rfl | rfl | rfl | hk | hk
  · exact h.bk.lt
  · exact h.bm.lt
  · exact hD.own.lt
  · simp at hk; exact (h.row.lt k hk).2
  · obtain ⟨r, hr, rfl⟩ := List.mem_map.1 hk
    obtain ⟨i, hi⟩ := List.mem_iff_getElem?.1 hr
    have hil : i < L.length := by have := (List.getElem?_eq_some_iff.1 hi).1; have := h.rows.1; omega
    exact ((h.rows.2 i r _ hi (List.getElem?_eq_getElem hil)).own.lt r.g rfl).2

theorem slice_of_row {w : World} {base : Nat} {e : TypeId} {size n : Nat} {v : Value} {xs : List Value} (h : w.ownsRow base e size v n xs) : ∃ a n c, v = .slice a n c := by
  rcases ownsRow_shape h with ⟨rfl, _⟩ | ⟨g, cap, rfl, _⟩
  · exact ⟨_, _, _, rfl⟩
  · exact ⟨_, _, _, rfl⟩
theorem keys_any (m : Nat) (w : World) : Calls Tryd.prog 59 #[.map (some m)] w fun e w' => e = .returned (.func (.func 66) #[] #[.pointer (some ⟨w.heap.size, 0, none⟩)]) ∧ w' = w.alloc (.cells #[.map (some m)] 75) := by
  go_enter Tryd.func59, Tryd.ntmps59
  go_wp2
  go_ret
  exact ⟨rfl, rfl⟩
set_option maxHeartbeats 1000000 in
theorem all_any {w : World} {b : Nat} {M : Mem} {A : Ar} (h : ArAt w b M A) :
    Calls Tryd.prog 52 #[.pointer (some ⟨b, 0, none⟩)] w fun e w' => ∃ Bk Bm m kv B, e = .returned (.func (.func 62) #[] #[.pointer (some ⟨Bk, 0, none⟩), .pointer (some ⟨Bm, 0, none⟩)]) ∧
      AllAt w' Bk Bm m kv B A.L ∧ (∀ k, k ∈ allFoot Bk Bm m kv B → w.heap.size ≤ k) ∧ Frm.Turn [] w w' := by
  have HC := Lib.hid (copies_any h)
  have HS : Hid (∀ (W : World) (m Bx : Nat) (B : List Row) (D : DataW Unit), MapAt W m B A.L D → W.cell? ⟨Bx, 0, none⟩ = some (.map (some m)) → Bx < W.heap.size →
      Calls Tryd.prog 58 #[.func (.func 66) #[] #[.pointer (some ⟨Bx, 0, none⟩)], .func (.func 60) #[] #[]] W fun e w' => ∃ v, e = .returned v ∧ w'.ownsRow W.heap.size 22 1 v A.L.length (u64s (hs_ A.L)) ∧ Below W.heap.size W w') :=
    Lib.hid fun W m Bx B D hD hc hl => by
      have hlen : A.L.length ≤ 60000 := by
        have h3 := length_le_used (fun x hx => (h.ok.len x hx).1)
        have h4 := h.ok.top
        have h5 := h.ok.peak
        have h6 := h.ok.cap
        omega
      exact sortedFunc_any (enters_of Tryd.func66 (by kernel_rfl) rfl) (keys_stops 4 (by omega) Bx m (Maps.size D) A.L D hD.has W hl hc hD.own) (by rw [hD.size]; omega) h.ok.rise (fun x hx => by have := h.ok.hnd x hx; have := h.ok.births; unfold W64; omega) (by omega)
  have HSF : Hid (∀ (m : Nat) (B : List Row) (w1 : World), Copied w m B A.L w1 →
      Calls Tryd.prog 58 #[.func (.func 66) #[] #[.pointer (some ⟨w1.heap.size + 1, 0, none⟩)], .func (.func 60) #[] #[]] ((w1.alloc (.cells #[.map (some m)] 75)).alloc (.cells #[.map (some m)] 75))
        fun e w' => ∃ v, e = .returned v ∧ AllAt (w'.alloc (.cells #[v] 28)) w'.heap.size w1.heap.size m v B A.L ∧ (∀ k, k ∈ allFoot w'.heap.size w1.heap.size m v B → w.heap.size ≤ k) ∧ Frm.Turn [] w (w'.alloc (.cells #[v] 28))) :=
    Lib.hid fun m B w1 hcp => by
      obtain ⟨D, hD⟩ := hcp.map
      have T2 : Frm.Turn [] w1 ((w1.alloc (.cells #[.map (some m)] 75)).alloc (.cells #[.map (some m)] 75)) := ((Frm.Turn.refl [] w1).alloc _).alloc _
      have b0 := (Boxed.new w1 75 (.map (some m))).alloc (.cells #[.map (some m)] 75)
      have b1 := Boxed.new (w1.alloc (.cells #[.map (some m)] 75)) 75 (.map (some m))
      rw [World.size_alloc] at b1
      refine (HS.out _ m (w1.heap.size + 1) B D (hD.turn T2 (by simp)) b1.cell b1.lt).mono ?_
      rintro e w3 ⟨v, rfl, hrow, hbl⟩
      have T3 : Frm.Turn [] ((w1.alloc (.cells #[.map (some m)] 75)).alloc (.cells #[.map (some m)] 75)) w3 := Frm.Turn.of_below hbl
      have T4 : Frm.Turn [] w1 (w3.alloc (.cells #[v] 28)) := (T2.trans T3 (by simp)).alloc _
      have h2 := hbl.size
      have h1 := hcp.turn.size
      simp at h2
      have hrow0 : w3.ownsRow 0 22 1 v A.L.length (u64s (hs_ A.L)) := ⟨hrow.1, hrow.2.imp id (fun ⟨g, cap, cur, e, _, r⟩ => ⟨g, cap, cur, e, Nat.zero_le _, r⟩)⟩
      refine ⟨v, rfl, ⟨Boxed.new _ _ _, ?_, hrow0.alloc _, ⟨D, hD.turn T4 (by simp)⟩, hcp.rows.1, fun i r x hr hx => (hcp.rows.2 i r x hr hx).turn T4 (by simp)⟩, fun k hk => ?_, hcp.turn.trans T4 (by simp)⟩
      · have := T3.keep (show _ = _ from b0) (by simp)
        exact Boxed.alloc this _
      · simp only [allFoot, List.mem_cons, List.mem_append] at hk
        rcases hk with rfl | rfl | rfl | hk | hk
        · omega
        · omega
        · exact hcp.newm
        · simp at hk
          have := (hrow.lt k hk).1
          simp at this
          omega
        · exact hcp.new k hk
  clear h HS
  go_enter Tryd.func52, Tryd.ntmps52
  go_wp2_with (first
    | (go_at_call 57; (with_reducible refine (HC.out).mono ?_); rintro e w1 ⟨m, B, rfl, hcp⟩; have HCP := Lib.hid hcp; clear hcp)
    | (go_at_call 59; (with_reducible refine (keys_any _ _).mono ?_); rintro e w2 ⟨rfl, rfl⟩)
    | (go_at_call 58; (with_reducible refine (HSF.out _ _ _ HCP.out).mono ?_); rintro e w3 ⟨v, rfl, h1, h2, h3⟩; obtain ⟨a0, n0, c0, rfl⟩ := slice_of_row h1.row; have HF := Lib.hid (And.intro h1 (And.intro h2 h3)); clear h1 h2 h3))
  go_ret
  exact ⟨_, _, _, _, _, rfl, HF.out⟩
end Arn
end Go.Proofs.YtmjdcpcndggflaaDoor
