/- The accesses of the document's environment, by their places. -/
import Derived.Test.YtolcpfidmpoipaaGreatEnvRead
import Derived.Test.YtolcpfidmpoipaaGreatEnvSwap
import Derived.Test.YtolcpfidmpoipaaGreatEnvBegin
import Derived.Test.YtolcpfidmpoipaaGreatEnvTie
set_option linter.unusedVariables false
set_option linter.unusedSimpArgs false
namespace Go.Proofs.YtolcpfidmpoipaaGreat
namespace Evn
open Go.RowKit Go.Maps Arn

/-- Behind i accesses, the last one that of the stop. -/
def plcE (A A' : Ar) (L : List Res) (r : Res) (i : Nat) : En := if i ≤ L.length + 1 then posE A A' L r i else endE A' L r
theorem plc_begin (E : En) (A A' : Ar) (r : Res) : E.begin A = plcE A A' E.log r 0 := by
  unfold plcE
  rw [if_pos (by omega), begin_pos E A A' r]
theorem plc_acc {A A' : Ar} {L : List Res} {r : Res} {i : Nat} (f : Ar → Ar × Res) (hi : i ≤ L.length + 1) (hf : i = L.length → f A = (A', r)) : (plcE A A' L r i).acc f = (plcE A A' L r (i + 1), ansE L r i) := by
  unfold plcE
  rw [if_pos hi]
  by_cases h : i ≤ L.length
  · rw [if_pos (by omega)]
    exact acc_at f h hf
  · obtain rfl : i = L.length + 1 := by omega
    rw [if_neg (by omega), acc_end]
    simp [ansE]
/-- What is asked of an arena. -/
structure LimA (A : Ar) : Prop where
  ok : A.Ok
  faults : A.faults ≤ 100000000
  births : A.births ≤ 100000000
  reads : A.t.reads ≤ 100000000
  swaps : A.t.swaps ≤ 100000000
  lays : A.t.lays ≤ 100000000
  frees : A.t.frees ≤ 100000000
theorem plc_facts (A A' : Ar) (L : List Res) (r : Res) (i : Nat) (hL : L.length ≤ 50000) (h : LimA A) (h' : LimA A') : (plcE A A' L r i).log.length ≤ 100000 ∧ (plcE A A' L r i).at_ ≤ 100000 ∧ LimA (plcE A A' L r i).A := by
  unfold plcE posE endE
  split
  · split
    · exact ⟨by dsimp only; omega, by dsimp only; omega, h⟩
    · exact ⟨by simp; omega, by dsimp only; omega, h'⟩
  · exact ⟨by simp; omega, by dsimp only; omega, h'⟩
theorem plc_stop {A A' : Ar} {L : List Res} {r : Res} {i : Nat} : (plcE A A' L r i).stop = decide (L.length + 2 ≤ i) := by
  unfold plcE posE endE
  split
  · rw [decide_eq_false (by omega)]
    split <;> rfl
  · rw [decide_eq_true (by omega)]
variable {W : World} {eb : Nat} {CS : Array Value} {lv : Value} {G : List Nat} {A A' : Ar} {L : List Res} {r : Res} {i : Nat}
theorem read_pos (h : EnAt W eb (plcE A A' L r i) CS lv G) (hL : L.length ≤ 50000) (lA : LimA A) (lA' : LimA A') (hi : i ≤ L.length + 1) (b x : Int) (hf : i = L.length → aRead b x A = (A', r)) :
    Calls Tryz.prog 49 #[.pointer (some ⟨eb, 0, none⟩), .agg #[.int .u64 b, .int .i64 x]] W (AccPost W eb (plcE A A' L r (i + 1)) lv G (.int .u64 (ansE L r i).w)) := by
  obtain ⟨h1, h2, h3⟩ := plc_facts A A' L r i hL lA lA'
  have := read_any h h1 h2 h3.ok h3.faults h3.reads b x
  rw [plc_acc _ hi hf] at this
  exact this
theorem swap_pos (h : EnAt W eb (plcE A A' L r i) CS lv G) (hL : L.length ≤ 50000) (lA : LimA A) (lA' : LimA A') (hi : i ≤ L.length + 1) (b x o n : Int) (hf : i = L.length → aSwap b x o n A = (A', r)) :
    Calls Tryz.prog 31 #[.pointer (some ⟨eb, 0, none⟩), .agg #[.int .u64 b, .int .i64 x], .int .u64 o, .int .u64 n] W (AccPost W eb (plcE A A' L r (i + 1)) lv G (.bool (ansE L r i).ok)) := by
  obtain ⟨h1, h2, h3⟩ := plc_facts A A' L r i hL lA lA'
  have := swap_any h h1 h2 h3.ok h3.faults h3.swaps b x o n
  rw [plc_acc _ hi hf] at this
  exact this
theorem lay_pos (h : EnAt W eb (plcE A A' L r i) CS lv G) (hL : L.length ≤ 50000) (lA : LimA A) (lA' : LimA A') (hi : i ≤ L.length + 1) (x : Value) (ws : List Int) (hx : ∀ W', Frm.Turn [eb] W W' → WordsAt W' x ws) (hws : ws.length ≤ 9223372036854775807) (hf : i = L.length → aLay ws A = (A', r)) :
    Calls Tryz.prog 50 #[.pointer (some ⟨eb, 0, none⟩), x] W (AccPost W eb (plcE A A' L r (i + 1)) lv G (.tuple #[.int .u64 (ansE L r i).w, .int .i64 (ansE L r i).e])) := by
  obtain ⟨h1, h2, h3⟩ := plc_facts A A' L r i hL lA lA'
  have := lay_any h h1 h2 h3.ok h3.births h3.lays x ws hx hws
  rw [plc_acc _ hi hf] at this
  exact this
theorem free_pos (h : EnAt W eb (plcE A A' L r i) CS lv G) (hL : L.length ≤ 50000) (lA : LimA A) (lA' : LimA A') (hi : i ≤ L.length + 1) (k : Int) (hf : i = L.length → aFree k A = (A', r)) :
    Calls Tryz.prog 51 #[.pointer (some ⟨eb, 0, none⟩), .int .u64 k] W (AccPost W eb (plcE A A' L r (i + 1)) lv G (.tuple #[])) := by
  obtain ⟨h1, h2, h3⟩ := plc_facts A A' L r i hL lA lA'
  have := free_any h h1 h2 h3.ok h3.faults h3.frees k
  rw [plc_acc _ hi hf] at this
  exact this
end Evn
end Go.Proofs.YtolcpfidmpoipaaGreat
