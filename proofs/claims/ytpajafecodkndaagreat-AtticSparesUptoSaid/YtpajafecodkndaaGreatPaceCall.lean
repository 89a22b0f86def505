/- The calls that catch a panic; gears. -/
import Derived.Test.YtpajafecodkndaaGreatLeastFrame
import Derived.Test.YtpajafecodkndaaGreatLeastRow
import Derived.Shelf.Abstract
import Derived.Defers
import Derived.Recover
import Derived.Laws.EntriesVeiled
import Derived.Outline
set_option linter.unusedVariables false
set_option linter.unusedSimpArgs false
namespace Go.Proofs.YtpajafecodkndaaGreat
namespace Pac
open Go.RowKit Go.Extern.Stop Go.Stop Go.Extern

theorem recover_idle (w : World) : CallsD Tryz.prog 137 #[] .returning w fun e u' w' => e = .returned (.tuple #[]) ∧ u' = .returning ∧ w' = w := by
  refine callsD_of_wpS Tryz.func137 rfl fun c₀ cs hu => ?_
  apply wpS_region
  simp [wpOpsS, go_sem, recoverD, hu, Tryz.ntmps137, Exit.thenS]
  cases c₀
  simp_all [bodyPostS, results, Tryz.results137, Exit.thenS]

theorem hmf (fn : Fn) (first cap : Array Value) (w : World) : (Instr.makeFunc fn first cap).run Tryz.prog w = .ok (.func fn first cap) w := rfl
theorem not_nil (fn : Fn) (first cap : Array Value) (w : World) : (binOp BinOp.neq 1 (.func fn first cap) .nilFunc).run Tryz.prog w = .ok (.bool true) w := by kernel_rfl
theorem is_nil (w : World) : (binOp BinOp.neq 1 .nilFunc .nilFunc).run Tryz.prog w = .ok (.bool false) w := by kernel_rfl

theorem call_none (w : World) : Calls Tryz.prog 115 #[.nilFunc] w fun e w' => e = .returned (.tuple #[]) ∧ w' = w := by
  have h1 := is_nil
  have h2 := hmf
  go_enter_defers Tryz.func115, Tryz.ntmps115
  go_wp2
  refine leaves_cons (f := 137) (args := #[]) (by simp) (by simp [go_sem]) ?_
  refine (recover_idle _).mono ?_
  rintro e u' w'' ⟨rfl, rfl, rfl⟩
  simp [Leaves, settle, results, Tryz.results115, go_sem]
/-- Whatever is called and ends rightly. -/
theorem call_fn {g : FuncId} (first caps : Array Value) (w : World) {R : World → Prop} (eg : Enters Tryz.prog g) (h : Calls Tryz.prog g (first ++ caps) w fun e w' => e = .returned (.tuple #[]) ∧ R w') :
    Calls Tryz.prog 115 #[.func (.func g) first caps] w fun e w' => e = .returned (.tuple #[]) ∧ R w' := by
  have h1 := not_nil
  have h2 := hmf
  have h3 : ∀ (args : Array Value) (w : World), (callFunc g args).run Tryz.prog w = .ok (.enter g args) w := eg
  have H := Lib.hid h
  clear h
  go_enter_defers Tryz.func115, Tryz.ntmps115
  go_wp2_with fail
  refine (H.out).mono ?_
  rintro e w' ⟨rfl, hR⟩
  have HR := Lib.hid hR
  clear hR
  go_wp2
  refine leaves_cons (f := 137) (args := #[]) (by simp) (by simp [go_sem]) ?_
  refine (recover_idle _).mono ?_
  rintro e u' w'' ⟨rfl, rfl, rfl⟩
  simp [Leaves, settle, results, Tryz.results115, go_sem]
  exact HR.out
set_option maxRecDepth 10000 in
/-- A method of what lies behind an interface, kept as a value. -/
theorem call_meth {g : FuncId} {T : TypeId} {name : String} (p v : Value) (w : World) {R : World → Prop} (eg : Enters Tryz.prog g) (hm : ∀ (n : Nat) (w : World), (method (n + 1) T p name).run Tryz.prog w = .ok (g, v) w)
    (h : Calls Tryz.prog g #[v] w fun e w' => e = .returned (.tuple #[]) ∧ R w') :
    Calls Tryz.prog 115 #[.func (.method name) #[.iface T p] #[]] w fun e w' => e = .returned (.tuple #[]) ∧ R w' := by
  have h1 := not_nil
  have h2 := hmf
  have h3 : ∀ (args : Array Value) (w : World), (callFunc g args).run Tryz.prog w = .ok (.enter g args) w := eg
  have h4 : ∀ (w : World), (method (Tryz.prog.types.size + Made.depth) T p name).run Tryz.prog w = .ok (g, v) w := fun w => hm _ w
  have H := Lib.hid h
  clear h
  go_enter_defers Tryz.func115, Tryz.ntmps115
  go_wp2_with fail
  refine (H.out).mono ?_
  rintro e w' ⟨rfl, hR⟩
  have HR := Lib.hid hR
  clear hR
  go_wp2
  refine leaves_cons (f := 137) (args := #[]) (by simp) (by simp [go_sem]) ?_
  refine (recover_idle _).mono ?_
  rintro e u' w'' ⟨rfl, rfl, rfl⟩
  simp [Leaves, settle, results, Tryz.results115, go_sem]
  exact HR.out


/-- Nothing, or a function. -/
def IsFn (v : Value) : Prop := v = .nilFunc ∨ ∃ fn fi ca, v = .func fn fi ca
theorem isFn_nil : IsFn .nilFunc := .inl rfl
theorem isFn_func (fn : Fn) (fi ca : Array Value) : IsFn (.func fn fi ca) := .inr ⟨_, _, _, rfl⟩
theorem to_any (b : Nat) (v old : Value) (w : World) (hv : IsFn v) (hc : w.cell? ⟨b, 0, none⟩ = some old) (hf : w.frozen? ⟨b, 0, none⟩ = false) :
    Calls Tryz.prog 66 #[.pointer (some ⟨b, 0, none⟩), v] w fun e w' => e = .returned (.tuple #[]) ∧ w' = w.setCell ⟨b, 0, none⟩ v := by
  rcases hv with rfl | ⟨fn, fi, ca, rfl⟩
  · go_enter Tryz.func66, Tryz.ntmps66
    go_wp2
    go_end0
    exact ⟨rfl, rfl⟩
  · go_enter Tryz.func66, Tryz.ntmps66
    go_wp2
    go_end0
    exact ⟨rfl, rfl⟩
theorem end_any (b : Nat) (old : Value) (w : World) (hc : w.cell? ⟨b, 0, none⟩ = some old) (hf : w.frozen? ⟨b, 0, none⟩ = false) :
    Calls Tryz.prog 125 #[.pointer (some ⟨b, 0, none⟩)] w fun e w' => e = .returned (.tuple #[]) ∧ w' = w.setCell ⟨b, 0, none⟩ .nilFunc := by
  go_enter Tryz.func125, Tryz.ntmps125
  go_wp2_with (go_at_call 66; (with_reducible refine (to_any _ _ _ _ isFn_nil hc hf).mono ?_); rintro e w1 ⟨rfl, rfl⟩)
  go_end0
  exact ⟨rfl, rfl⟩
theorem eql_func (fn : Fn) (first cap : Array Value) (w : World) : (binOp BinOp.eql 1 (.func fn first cap) .nilFunc).run Tryz.prog w = .ok (.bool false) w := by kernel_rfl
theorem eql_nil (w : World) : (binOp BinOp.eql 1 .nilFunc .nilFunc).run Tryz.prog w = .ok (.bool true) w := by kernel_rfl
/-- What comes next: is it nothing? -/
def idle (v : Value) : Bool := match v with | .nilFunc => true | _ => false
theorem gdone_any (b : Nat) (v : Value) (w : World) (hv : IsFn v) (hc : w.cell? ⟨b, 0, none⟩ = some v) :
    Calls Tryz.prog 76 #[.pointer (some ⟨b, 0, none⟩)] w fun e w' => e = .returned (.bool (idle v)) ∧ w = w' := by
  have h1 := eql_func
  have h2 := eql_nil
  rcases hv with rfl | ⟨fn, fi, ca, rfl⟩
  · go_enter Tryz.func76, Tryz.ntmps76
    go_wp2
    go_ret
    exact ⟨rfl, rfl⟩
  · go_enter Tryz.func76, Tryz.ntmps76
    go_wp2
    go_ret
    exact ⟨rfl, rfl⟩
/-- A step of a gear: a call of what comes next. -/
theorem gstep_any {R : World → Prop} (b : Nat) (v : Value) (w : World) (hc : w.cell? ⟨b, 0, none⟩ = some v) (h : Calls Tryz.prog 115 #[v] w fun e w' => e = .returned (.tuple #[]) ∧ R w') :
    Calls Tryz.prog 73 #[.pointer (some ⟨b, 0, none⟩)] w fun e w' => e = .returned (.tuple #[]) ∧ R w' := by
  have H := Lib.hid h
  clear h
  go_enter Tryz.func73, Tryz.ntmps73
  go_wp2_with (go_at_call 115; (with_reducible refine (H.out).mono ?_); rintro e w1 ⟨rfl, hR⟩)
  go_end0
  exact ⟨rfl, hR⟩
/-- toWhile: with nothing left nothing comes next. -/
theorem while_none (b : Nat) (old v : Value) (w : World) (hc : w.cell? ⟨b, 0, none⟩ = some old) (hf : w.frozen? ⟨b, 0, none⟩ = false) :
    Calls Tryz.prog 151 #[.pointer (some ⟨b, 0, none⟩), .int .i64 0, v] w fun e w' => e = .returned (.tuple #[]) ∧ w' = w.setCell ⟨b, 0, none⟩ .nilFunc := by
  go_enter Tryz.func151, Tryz.ntmps151
  go_wp2_with (go_at_call 125; (with_reducible refine (end_any _ _ _ hc hf).mono ?_); rintro e w1 ⟨rfl, rfl⟩)
  refine bodyPost_ret (results_none rfl _ _ _) rfl ?_
  exact ⟨rfl, rfl⟩
theorem while_some (b n : Nat) (old v : Value) (w : World) (hv : IsFn v) (hn : 0 < n) (hm : n ≤ 1000000) (hc : w.cell? ⟨b, 0, none⟩ = some old) (hf : w.frozen? ⟨b, 0, none⟩ = false) :
    Calls Tryz.prog 151 #[.pointer (some ⟨b, 0, none⟩), .int .i64 n, v] w fun e w' => e = .returned (.tuple #[]) ∧ w' = w.setCell ⟨b, 0, none⟩ v := by
  have h0 : (((n : Nat) : Int) == 0) = false := by simp; omega
  have HV := Lib.hid hv
  clear hv
  go_enter Tryz.func151, Tryz.ntmps151
  go_wp2_with (go_at_call 66; (with_reducible refine (to_any _ _ _ _ HV.out hc hf).mono ?_); rintro e w1 ⟨rfl, rfl⟩)
  go_end0
  exact ⟨rfl, rfl⟩
/-- toWhile in one form. -/
def nextOf (n : Nat) (v : Value) : Value := if n = 0 then .nilFunc else v
theorem while_any (b n : Nat) (old v : Value) (w : World) (hv : IsFn v) (hm : n ≤ 1000000) (hc : w.cell? ⟨b, 0, none⟩ = some old) (hf : w.frozen? ⟨b, 0, none⟩ = false) :
    Calls Tryz.prog 151 #[.pointer (some ⟨b, 0, none⟩), .int .i64 n, v] w fun e w' => e = .returned (.tuple #[]) ∧ w' = w.setCell ⟨b, 0, none⟩ (nextOf n v) := by
  unfold nextOf
  by_cases h : n = 0
  · subst h; exact while_none b old v w hc hf
  · rw [if_neg h]; exact while_some b n old v w hv (by omega) hm hc hf
end Pac
end Go.Proofs.YtpajafecodkndaaGreat
