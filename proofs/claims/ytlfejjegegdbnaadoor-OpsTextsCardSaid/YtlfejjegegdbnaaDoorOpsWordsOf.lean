/- The document's split at blanks: contracts of the call. -/
import Derived.Test.YtlfejjegegdbnaaDoorOpsRight
import Derived.Test.YtlfejjegegdbnaaDoorOpsSplit
import Derived.Laws.AppendOwn
import Derived.Laws.OwnMore
import Derived.Laws.Concat
import Derived.Deep.AppendLies
import Derived.LoopTactic
import Derived.IntWalk
import Derived.RegionTactic
import Derived.ChangeAlike
import Derived.Outline
set_option linter.unusedVariables false
set_option linter.unusedSimpArgs false
namespace Go.Proofs.YtlfejjegegdbnaaDoor
namespace Ops
open Go.RowKit Go.Lib

def strV (x : List UInt8) : Value := .string ⟨x.toArray⟩
theorem info_str : (Tryd.prog.info? 9).map (fun i => (i.zero, i.size, i.bytes)) = some (some (.string ⟨#[]⟩), 1, 16) := by kernel_rfl
theorem words_new (l : List UInt8) : wordsOf (l ++ [32]) = wordsOf l ++ [[]] := by
  unfold wordsOf
  rw [wall_snoc]
  unfold wst
  rw [if_pos rfl]
theorem words_more (l : List UInt8) (c : UInt8) (h : c ≠ 32) : wordsOf (l ++ [c]) = (wordsOf l).set (wall l).1.length ((wall l).2 ++ [c]) := by
  unfold wordsOf
  rw [wall_snoc]
  unfold wst
  rw [if_neg h]
  simp [List.set_append]
theorem words_last (l : List UInt8) : (wordsOf l).length = (wall l).1.length + 1 ∧ (wordsOf l)[(wall l).1.length]? = some (wall l).2 := by
  unfold wordsOf
  simp
def SplitAt (l : List UInt8) (w0 : World) (v i : Value) (wr : World) : Prop := ∃ k : Nat, k ≤ l.length ∧ i = .int .i64 k ∧ wr.ownsRow w0.heap.size 9 1 v (wordsOf (l.take k)).length ((wordsOf (l.take k)).map strV) ∧ Frm.Turn [] w0 wr
theorem take_one (s : ByteArray) (k : Nat) (h : k < s.size) : s.data.toList.take (k + 1) = s.data.toList.take k ++ [s[k]] := by
  rw [List.take_succ_eq_append_getElem (by simpa using h)]; rfl
theorem ext_one (s : ByteArray) (k : Nat) (h : k < s.size) : s.extract k (k + 1) = ⟨[s[k]].toArray⟩ := by
  apply ByteArray.ext
  rw [ByteArray.data_extract]
  apply Array.ext'
  rw [Array.toList_extract]
  simp
  have hk : k < s.data.toList.length := by simpa using h
  rw [List.drop_eq_getElem_cons hk]
  rfl

set_option maxRecDepth 100000 in
set_option maxHeartbeats 2000000 in
theorem words_any (s : ByteArray) (w : World) (hs : s.size ≤ 1000) :
    Calls Tryd.prog 34 #[.string s] w fun e w' => ∃ v, e = .returned v ∧ w'.ownsRow w.heap.size 9 1 v (wordsOf s.data.toList).length ((wordsOf s.data.toList).map strV) ∧ Frm.Turn [] w w' := by
  obtain ⟨i0, hi, hz0, hz1, hz2⟩ := info_parts info_str
  have hsl : s.data.toList.length = s.size := by simp
  have HSL := Lib.hid hsl
  have H0 := Lib.hid (World.ownsRow_lit (base := w.heap.size) (e := 9) (size := 1) w #[.string ⟨#[]⟩] 1 (Nat.le_refl _) (by decide) rfl)
  have HT0 := Lib.hid ((Frm.Turn.refl [] w).alloc (.cells #[.string ⟨#[]⟩] 9))
  clear hsl
  go_enter Tryd.func34, Tryd.ntmps34
  go_wp2
  go_loopw [3, 4] (fun v i wr => SplitAt s.data.toList w v i wr) (fun _ i _ => s.size - (RowKit.intOf i).toNat)
  case atStart => exact ⟨0, Nat.zero_le _, rfl, H0.out, HT0.out⟩
  case round =>
    obtain ⟨k, hk, rfl, hown, hT⟩ := hrel
    rw [HSL.out] at hk
    have HO := Lib.hid hown
    have HTr := Lib.hid hT
    obtain ⟨m, hm⟩ : ∃ m, m = (wall (s.data.toList.take k)).1.length := ⟨_, rfl⟩
    obtain ⟨hl1, hl2⟩ := words_last (s.data.toList.take k)
    rw [← hm] at hl1 hl2
    rw [hl1] at hown
    obtain ⟨g, cap, rfl, hgb, hgl⟩ := hown.form (by omega)
    have HOm := Lib.hid hown
    have hcell := hown.cellAt m (by omega)
    rw [List.getElem?_map, hl2] at hcell
    have hfz := hown.frozenAt m
    have hcnt := words_count (s.data.toList.take k)
    rw [hl1] at hcnt
    have hmk : m ≤ 1000 := by simp at hcnt; omega
    have hll := words_each (s.data.toList.take k) (wall (s.data.toList.take k)).2 (List.mem_of_getElem? hl2)
    simp at hll
    obtain ⟨last, hlast⟩ : ∃ x, x = (wall (s.data.toList.take k)).2 := ⟨_, rfl⟩
    rw [← hlast] at hcell hll hl2
    simp only [Option.map_some, strV] at hcell
    have HW := Lib.hid hlast
    have HM := Lib.hid hm
    have HL1 := Lib.hid hl1
    have HL2 := Lib.hid hl2
    clear hlast hm hl1 hl2 hcnt hown hT
    by_cases hlt : k < s.size
    · have htake := Lib.hid (take_one s k hlt)
      by_cases hc : s[k] = 32
      · have hc1 : ((s[k].toNat : Int) == 32) = true := by
          rw [hc]; rfl
        go_wp2_with (at_builtin; refine wpList_append_own _ rfl (.tmp 16) (.tmp 17) 62 rfl w.heap.size 9 i0 (.string ⟨#[]⟩) 1 16 Tryd.underlying62 hi hz0 hz1 hz2 rfl (by decide) _ _ _ rfl (HOm.out.alloc _) ⟨wr.heap.size, 0, none⟩ 1 1 [.string ⟨#[]⟩] rfl rfl ?c1 ?c2 ?c3 ?c4 ?c5 ?_)
        case c1 => intro j u hj; match j, hj with | 0, hj => (simp at hj; subst hj; go_simp) | j + 1, hj => simp at hj
        case c2 => intro u hu; simp at hu; subst hu; rfl
        case c3 => unfold maxLen; omega
        case c4 => omega
        case c5 => have := HTr.out.size; simp; omega
        intro v' w1 hown' hgrow _
        have HO1 := Lib.hid hown'
        have HT1 := Lib.hid ((HTr.out.alloc (.cells #[.string ⟨#[]⟩] 9)).trans (Frm.Turn.of_grown hgrow) (fun q hq => .inr (by simp [Value.ownBlock] at hq; omega)))
        obtain ⟨ao, cp, rfl⟩ := Frm.row_form hown'
        clear hown' hgrow
        go_wp2
        go_roundw
        case rel =>
          refine ⟨k + 1, by rw [HSL.out]; omega, by go_num, ?_, HT1.out⟩
          have h1 := HO1.out
          rw [htake.out, hc, words_new, List.map_append, List.length_append, HL1.out]
          exact h1
        case measure => simp [RowKit.intOf]; omega
      · have hc1 : ((s[k].toNat : Int) == 32) = false := by
          rw [beq_eq_false_iff_ne]
          intro e
          exact hc (UInt8.toNat_inj.1 (by simpa using Int.ofNat_inj.1 e))
        have ha : ∀ W : World, (Op.stringOp .add ⟨last.toArray⟩ (s.extract k (k + 1))).run Tryd.prog W = .ok (.string ⟨(last ++ [s[k]]).toArray⟩) W := fun W => by
          rw [ext_one s k hlt]
          exact run_string_add_lists W last [s[k]] (by omega) (by simp)
        have hk1 : (k : Int) + 1 ≤ s.size := by omega
        have hs1 : IntKind.i64.wrap (m : Int) = m := IntWalk.i64_in _ (by omega)
        have hs3 : (m : Int) < (m : Int) + 1 := by omega
        have hs4 : (k : Int) ≤ (k : Int) + 1 := by omega
        have hs5 : ((k : Int) + 1).toNat = k + 1 := by omega
        have hs6 : (0 : Int) ≤ (k : Int) + 1 := by omega
        have hs2 : IntKind.i64.wrap ((k : Int) + 1) = k + 1 := IntWalk.i64_in _ (by omega)
        go_wp2
        refine wp_tail 13 (by kernel_rfl) (by kernel_rfl) ?_
        simp only [List.take_succ_cons, List.take_zero, List.drop_succ_cons, List.drop_zero]
        iterate 13 still_step
        refine wpStill_nil ?_
        go_wp2
        go_roundw
        case rel =>
          have h1 := (HOm.out.drew.stored m (strV (last ++ [s[k]]))).1
          refine ⟨k + 1, by rw [HSL.out]; omega, by go_num, ?_, (HTr.out.drew).setCell (.inr hgb) _⟩
          rw [htake.out, words_more _ _ hc, ← HM.out, ← HW.out, List.length_set, HL1.out, List.map_set]
          exact h1
        case measure => simp [RowKit.intOf]; omega
    · go_wp2
      go_ret
      have hke : s.data.toList.take k = s.data.toList := List.take_of_length_le (by rw [HSL.out]; omega)
      have h1 := HO.out
      rw [hke] at h1
      exact ⟨_, rfl, h1, HTr.out⟩
end Ops
end Go.Proofs.YtlfejjegegdbnaaDoor
