/- All's iterator: for whatever loop that leaves what All has laid alone, it hands out each block in its place, in a row of its own, and says so. -/
import Derived.Test.YtmjdcpcndggflaaDoorArenaAll
set_option linter.unusedVariables false
set_option linter.unusedSimpArgs false
namespace Go.Proofs.YtmjdcpcndggflaaDoor
namespace Arn
open Go.RowKit Hp Go.Maps Go.Shelf
attribute [local go_sem] Oper.semAt_some

abbrev Got := Blk × Nat × Nat
def gotEnc (x : Got) : Array Value := #[.int .u64 x.1.h, .slice (some ⟨x.2.1, 0, none⟩) x.1.ws.length x.2.2]
def KeepsAll (F : List Nat) (W W' : World) : Prop := ∃ G : List Nat, (∀ k, k ∈ G → k ∉ F) ∧ Frm.Turn G W W'
theorem KeepsAll.trans {F : List Nat} {A B C : World} (h : KeepsAll F A B) (k : KeepsAll F B C) : KeepsAll F A C := by
  obtain ⟨G, hG, hT⟩ := h
  obtain ⟨G', hG', hT'⟩ := k
  refine ⟨G ++ G', fun i hi => ?_, (hT.mono (by simp +contextual)).trans (hT'.mono (F := G') (G := G ++ G') (by simp +contextual)) (fun k hk => Or.inl hk)⟩
  rcases List.mem_append.1 hi with h | h
  · exact hG i h
  · exact hG' i h
/-- The words of x lie in its row. -/
def HasRow (W : World) (x : Got) : Prop := W.ownsRow 0 22 1 (.slice (some ⟨x.2.1, 0, none⟩) x.1.ws.length x.2.2) x.1.ws.length (u64s x.1.ws)
theorem HasRow.turn {W W' : World} {x : Got} {G : List Nat} (h : HasRow W x) (ht : Frm.Turn G W W') (hn : x.2.1 ∉ G) : HasRow W' x :=
  Frm.owns_turn h ht (fun k hk => by simp [Value.ownBlock] at hk; subst hk; exact hn)
def Gives (L : List Blk) (pre : List Got) (x : Got) (W : World) : Prop := HasRow W x ∧ L[pre.length]? = some x.1 ∧ pre.map Prod.fst = L.take pre.length

set_option maxRecDepth 100000 in
set_option maxHeartbeats 2000000 in
theorem iter1_in (n : Nat) (hn : 1 ≤ n) (l Bk Bm m : Nat) (kv : Value) (B : List Row) (L : List Blk) (h64 : ∀ x, x ∈ L → W64 x.h ∧ x.ws.length ≤ 2048) (hlen : L.length ≤ 60000) (J Jx : List Got → World → Prop)
    (hY : ∀ pre x W, J pre W → Gives L pre x W → YieldAt Fence.wide (n - 1) Tryd.prog l (gotEnc x) W fun e W' =>
      (e = .returned (.bool true) ∧ J (pre ++ [x]) W' ∧ KeepsAll (allFoot Bk Bm m kv B) W W') ∨ (e = .returned (.bool false) ∧ Jx (pre ++ [x]) W'))
    (W : World) (hJ : AbidesFrom W.heap.size J) (hA : AllAt W Bk Bm m kv B L) (h0 : J [] W) :
    CallsIn Fence.wide n Tryd.prog 62 #[.func (.yield l) #[] #[], .pointer (some ⟨Bk, 0, none⟩), .pointer (some ⟨Bm, 0, none⟩)] W fun e W' => (∃ v, e = .returned v) ∧
      ((∃ xs : List Got, xs.map Prod.fst = L ∧ J xs W') ∨ (∃ pre : List Got, (∃ k, pre.map Prod.fst = L.take (k + 1)) ∧ Jx pre W')) := by
  have hcK := hA.bk.cell
  rcases ownsRow_shape hA.row with ⟨rfl, hL0⟩ | ⟨kg, cap, rfl, _⟩
  · have : L = [] := List.length_eq_zero_iff.1 hL0
    subst this
    refine callsIn_of_wp Tryd.func62 rfl trivial ?_ rfl
    simp only [Tryd.ntmps62, List.size_toArray, List.length_cons, List.length_nil, Nat.reduceAdd, Nat.reduceSub, Array.replicate_succ, Array.replicate_zero, List.push_toArray, List.append_toArray, List.nil_append, List.cons_append]
    gi_wp2
    gi_loopw [8] (fun i wr => i = .int .i64 0 ∧ J [] wr) (fun _ _ => 0)
    case atStart => exact ⟨rfl, h0⟩
    case round =>
      obtain ⟨rfl, hJs⟩ := hrel
      gi_wp2
      go_end0
      exact ⟨⟨_, rfl⟩, .inl ⟨[], rfl, hJs⟩⟩
  · refine callsIn_of_wp Tryd.func62 rfl trivial ?_ rfl
    simp only [Tryd.ntmps62, List.size_toArray, List.length_cons, List.length_nil, Nat.reduceAdd, Nat.reduceSub, Array.replicate_succ, Array.replicate_zero, List.push_toArray, List.append_toArray, List.nil_append, List.cons_append]
    gi_wp2
    gi_loopw [8] (fun i wr => ∃ pre : List Got, pre.length ≤ L.length ∧ i = .int .i64 pre.length ∧ pre.map Prod.fst = L.take pre.length ∧ J pre wr ∧ AllAt wr Bk Bm m (.slice (some ⟨kg, 0, none⟩) L.length cap) B L)
      (fun i _ => L.length - (intOf i).toNat)
    case atStart => exact ⟨[], Nat.zero_le _, rfl, rfl, h0, hA⟩
    case round =>
      obtain ⟨pre, hk, rfl, hpre, hJs, hAr⟩ := hrel
      by_cases hlt : pre.length < L.length
      · obtain ⟨x, hx⟩ : ∃ x, L[pre.length]? = some x := ⟨_, List.getElem?_eq_getElem hlt⟩
        obtain ⟨r, hr⟩ : ∃ r, B[pre.length]? = some r := ⟨_, List.getElem?_eq_getElem (by have := hAr.rows.1; omega)⟩
        obtain ⟨D, hD⟩ := hAr.map
        have hR := hAr.rows.2 _ r x hr hx
        have hm := List.mem_of_getElem? hx
        have hlk := hD.look_is hr hx hR.h (h64 x hm).1
        have hcm := hAr.bm.cell
        have hck : wr.cell? ⟨kg, pre.length, none⟩ = some (.int .u64 x.h) := by
          have := World.ownsRow.cells hAr.row rfl pre.length (.int .u64 x.h) (by simp [u64s, hs_, hx])
          have hadd : (⟨kg, 0, none⟩ : Addr).add pre.length = ⟨kg, pre.length, none⟩ := by
            unfold Addr.add; split
            · rename_i e; rw [e]
            · simp
          rwa [hadd] at this
        have HCL := Lib.hid (uclone_some ⟨r.g, 0, none⟩ r.c x.ws wr (fun j u hu => World.ownsRow.cells hR.own rfl j u hu) (by have := (h64 x hm).2; omega))
        have HX := Lib.hid hx
        have HA := Lib.hid hAr
        clear hD hR hr hx hm hA h0 hAr
        have HJ : Hid (∀ (w3 : World) (g' c' : Nat), w3.ownsRow 0 22 1 (.slice (some ⟨g', 0, none⟩) x.ws.length c') x.ws.length (u64s x.ws) → Frm.Turn [] wr w3 → ∃ fn tmps assign body, (Instr.yield l #[.int .u64 x.h, .slice (some ⟨g', 0, none⟩) x.ws.length c']).run Tryd.prog w3 = .ok (.round l fn tmps assign body) w3 ∧
            Hid (RoundIn Fence.wide (n - 1) Tryd.prog l fn tmps assign body w3 fun e W' => (e = .returned (.bool true) ∧ J (pre ++ [(x, g', c')]) W' ∧ KeepsAll (allFoot Bk Bm m (.slice (some ⟨kg, 0, none⟩) L.length cap) B) w3 W') ∨ (e = .returned (.bool false) ∧ Jx (pre ++ [(x, g', c')]) W'))) :=
          Lib.hid fun w3 g' c' ho hT => by
            obtain ⟨fn, tmps, assign, body, hy, hRR⟩ := hY pre (x, g', c') w3 (hJ pre wr w3 none hJs (grown_of hT) (by simp)) ⟨ho, HX.out, hpre⟩
            exact ⟨fn, tmps, assign, body, hy, Lib.hid hRR⟩
        gi_wp2_with ((refine ⟨trivial, ?_⟩; gi_at_call 38; refine (callsIn_wide.2 HCL.out).mono ?_; rintro e w3 ⟨g', c', rfl, ho, hg, hT⟩; obtain ⟨fn, tmps, assign, body, hy, hRR⟩ := HJ.out w3 g' c' ho hT; have HT3 := Lib.hid hT; clear ho hg hT))
        refine hRR.out.mono ?_
        rintro e W3 (⟨rfl, hJ3, hk3⟩ | ⟨rfl, hJx3⟩)
        · have HA3 : AllAt W3 Bk Bm m (.slice (some ⟨kg, 0, none⟩) L.length cap) B L := by
            obtain ⟨G, hG, hTG⟩ := hk3
            exact (HA.out.turn HT3.out (by simp)).turn hTG (fun k hk hk' => hG k hk' hk)
          have htk : (pre ++ [(x, g', c')]).map Prod.fst = L.take (pre ++ [(x, g', c')]).length := by
            rw [List.map_append, hpre, List.length_append, List.length_singleton, List.take_add_one, HX.out]; rfl
          have HH := Lib.hid (And.intro htk (And.intro hJ3 HA3))
          clear hJ3 hk3 HA3 htk
          gi_wp2
          go_roundw
          case rel => exact ⟨pre ++ [(x, g', c')], by simp; omega, by simp, HH.out⟩
          case measure => simp [intOf]; omega
        · have htk : (pre ++ [(x, g', c')]).map Prod.fst = L.take (pre.length + 1) := by
            rw [List.map_append, hpre, List.take_add_one, HX.out]; rfl
          gi_wp2
          refine bodyPost_ret (results_none rfl _ _ _) rfl ?_
          exact ⟨⟨_, rfl⟩, .inr ⟨_, ⟨_, htk⟩, hJx3⟩⟩
      · have hke : pre.length = L.length := by omega
        have hall : pre.map Prod.fst = L := by rw [hpre, hke]; simp
        clear hpre hAr hA
        gi_wp2
        go_end0
        exact ⟨⟨_, rfl⟩, .inl ⟨pre, hall, hJs⟩⟩
end Arn
end Go.Proofs.YtmjdcpcndggflaaDoor
