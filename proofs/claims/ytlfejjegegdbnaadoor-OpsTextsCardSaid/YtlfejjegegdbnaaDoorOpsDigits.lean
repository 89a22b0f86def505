/- The document's numerals and names: contracts of the calls. -/
import Derived.Test.YtlfejjegegdbnaaDoorOpsRefs2
import Derived.Test.YtlfejjegegdbnaaDoorOpsFits
import Derived.Laws.BytesString
import Derived.Laws.Concat
import Derived.LoopTactic
set_option linter.unusedVariables false
set_option linter.unusedSimpArgs false
namespace Go.Proofs.YtlfejjegegdbnaaDoor
namespace Ops
open Go.RowKit Go.Lib

theorem dig_norm (k : Nat) : UInt8.ofNat (48 + k) = 48 + UInt8.ofNat k := by simp [UInt8.ofNat_add]
theorem byte_str (d : Int) (W : World) : (convert 72 9 (.slice (some ⟨W.heap.size, 0, none⟩) 1 1)).run Tryd.prog (W.alloc (.cells #[.int .u8 d] 5)) = .ok (.string ⟨[UInt8.ofNat d.toNat].toArray⟩) (W.alloc (.cells #[.int .u8 d] 5)) := by
  rw [run_convert_bytes_string _ _ _ _ _ _ _ Tryd.underlying72 Tryd.underlying5 Tryd.underlying9]
  rw [run_bytesToString _ _ _ _ [d] (by go_simp)]
  rfl

/-- One digit ahead. -/
def DigAt (n0 : Nat) (W : World) (n s : Value) (wr : World) : Prop := ∃ (m : Nat) (l : List UInt8), n = .int .i64 m ∧ s = .string ⟨l.toArray⟩ ∧ m ≤ n0 ∧ (if m < 10 then l = decDigits n0 else decDigits (m / 10) ++ l = decDigits n0) ∧ Frm.Turn [] W wr
theorem dig_start (n : Nat) : if n < 10 then [48 + UInt8.ofNat (n % 10)] = decDigits n else decDigits (n / 10) ++ [48 + UInt8.ofNat (n % 10)] = decDigits n := by
  rw [← dig_norm]
  split
  · rename_i h; rw [decDigits, dif_pos h, Nat.mod_eq_of_lt h]
  · rename_i h; conv => rhs; rw [decDigits, dif_neg h]
theorem dig_next {n0 m : Nat} {l : List UInt8} (hm : ¬ m < 10) (h : if m < 10 then l = decDigits n0 else decDigits (m / 10) ++ l = decDigits n0) :
    if m / 10 < 10 then (48 + UInt8.ofNat (m / 10 % 10)) :: l = decDigits n0 else decDigits (m / 10 / 10) ++ ((48 + UInt8.ofNat (m / 10 % 10)) :: l) = decDigits n0 := by
  rw [if_neg hm] at h
  rw [← dig_norm]
  split
  · rename_i h1
    rw [decDigits, dif_pos h1] at h
    rw [Nat.mod_eq_of_lt h1]; exact h
  · rename_i h1
    rw [decDigits, dif_neg h1] at h
    simpa using h
theorem dig_len {n0 m : Nat} {l : List UInt8} (hn : n0 ≤ 999999999) (h : if m < 10 then l = decDigits n0 else decDigits (m / 10) ++ l = decDigits n0) : l.length ≤ 9 := by
  have := digs_le n0 8 (by omega)
  rw [← decDigits_length] at this
  split at h
  · rw [h]; exact this
  · rw [← h] at this; simp at this; omega

set_option maxRecDepth 100000 in
set_option maxHeartbeats 1000000 in
theorem digits_nat (n : Nat) (w : World) (hn : n ≤ 999999999) :
    Calls Tryd.prog 40 #[.int .i64 n] w fun e w' => e = .returned (.string ⟨(decDigits n).toArray⟩) ∧ Frm.Turn [] w w' := by
  have h1 : (0 : Int) ≤ n := by omega
  have h2 : (n : Int) ≤ 999999999 := by omega
  have e0 : UInt8.ofNat (48 + (n : Int) % 10).toNat = 48 + UInt8.ofNat (n % 10) := by rw [show (48 + (n : Int) % 10).toNat = 48 + n % 10 by omega, dig_norm]
  have hb := byte_str (48 + (n : Int) % 10) w
  rw [e0] at hb
  have HN := Lib.hid hn
  have HT := Lib.hid (fun o => (Frm.Turn.refl [] w).alloc o)
  clear e0 hn
  go_enter Tryd.func40, Tryd.ntmps40
  go_wp2
  go_loopw [0, 3] (fun a s wr => DigAt n w a s wr) (fun a _ _ => (RowKit.intOf a).toNat)
  case atStart => exact ⟨n, _, rfl, rfl, Nat.le_refl _, dig_start n, HT.out _⟩
  case round =>
    obtain ⟨m, l, rfl, rfl, hmn, hd, hT⟩ := hrel
    have HD := Lib.hid hd
    have HTr := Lib.hid hT
    have hll := dig_len HN.out hd
    have m0 : (0 : Int) ≤ m := by omega
    have m2 : (m : Int) ≤ 999999999 := by have := HN.out; omega
    clear hd hT hb
    by_cases hm : m < 10
    · go_wp2
      go_ret
      have := HD.out
      rw [if_pos hm] at this
      exact ⟨by rw [this]; rfl, HTr.out⟩
    · have m1 : (10 : Int) ≤ m := by omega
      have e1 : UInt8.ofNat (48 + (m : Int) / 10 % 10).toNat = 48 + UInt8.ofNat (m / 10 % 10) := by rw [show (48 + (m : Int) / 10 % 10).toNat = 48 + m / 10 % 10 by omega, dig_norm]
      have hb := byte_str (48 + (m : Int) / 10 % 10) wr
      rw [e1] at hb
      have ha : ∀ W : World, (Op.stringOp .add ⟨[48 + UInt8.ofNat (m / 10 % 10)].toArray⟩ ⟨l.toArray⟩).run Tryd.prog W = .ok (.string ⟨((48 + UInt8.ofNat (m / 10 % 10)) :: l).toArray⟩) W := fun W => run_string_add_lists W [48 + UInt8.ofNat (m / 10 % 10)] l (by simp) (by omega)
      have HT2 := Lib.hid (fun o => HTr.out.alloc o)
      clear e1 hll
      go_wp2
      go_roundw
      case rel => exact ⟨m / 10, _, by go_num, rfl, by omega, dig_next hm HD.out, HT2.out _⟩
      case measure => simp [RowKit.intOf]; omega
theorem digits_any (n : Int) (w : World) (h0 : 0 ≤ n) (h1 : n ≤ 999999999) :
    Calls Tryd.prog 40 #[.int .i64 n] w fun e w' => e = .returned (.string ⟨(itoa n).toArray⟩) ∧ Frm.Turn [] w w' := by
  have := digits_nat n.toNat w (by omega)
  rw [(itoa_val n h0 h1).2.2]
  rw [show ((n.toNat : Nat) : Int) = n from by omega] at this
  exact this

set_option maxHeartbeats 2000000 in
theorem name_any (c : Int) (w : World) (h : 0 ≤ c ∧ c ≤ 14) :
    Calls Tryd.prog 36 #[.int .i64 c] w fun e w' => e = .returned (.string ⟨(opT.nm c.toNat).toArray⟩) ∧ Frm.Turn [] w w' := by
  have h' : c = 0 ∨ c = 1 ∨ c = 2 ∨ c = 3 ∨ c = 4 ∨ c = 5 ∨ c = 6 ∨ c = 7 ∨ c = 8 ∨ c = 9 ∨ c = 10 ∨ c = 11 ∨ c = 12 ∨ c = 13 ∨ c = 14 := by omega
  clear h
  rcases h' with rfl | rfl | rfl | rfl | rfl | rfl | rfl | rfl | rfl | rfl | rfl | rfl | rfl | rfl | rfl
  all_goals
    go_enter Tryd.func36, Tryd.ntmps36
    go_wp2
    go_ret
    exact ⟨rfl, (Frm.Turn.refl [] w).alloc _⟩
set_option maxHeartbeats 2000000 in
theorem kind_any (c : Int) (w : World) (h : 0 ≤ c ∧ c ≤ 5) :
    Calls Tryd.prog 38 #[.int .i64 c] w fun e w' => e = .returned (.string ⟨(respT.nm c.toNat).toArray⟩) ∧ Frm.Turn [] w w' := by
  have h' : c = 0 ∨ c = 1 ∨ c = 2 ∨ c = 3 ∨ c = 4 ∨ c = 5 := by omega
  clear h
  rcases h' with rfl | rfl | rfl | rfl | rfl | rfl
  all_goals
    go_enter Tryd.func38, Tryd.ntmps38
    go_wp2
    go_ret
    exact ⟨rfl, (Frm.Turn.refl [] w).alloc _⟩
end Ops
end Go.Proofs.YtlfejjegegdbnaaDoor
