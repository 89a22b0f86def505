/- The calls that catch a panic; gears. -/
import Derived.Test.YtfbnidjcimcfoaaGreatLeastFrame
import Derived.Test.YtfbnidjcimcfoaaGreatLeastRow
import Derived.Shelf.Abstract
import Derived.Defers
import Derived.Recover
import Derived.Laws.EntriesVeiled
import Derived.Outline
set_option linter.unusedVariables false
set_option linter.unusedSimpArgs false
namespace Go.Proofs.YtfbnidjcimcfoaaGreat
namespace Pac
open Go.RowKit Go.Extern.Stop Go.Stop Go.Extern

theorem recover_idle (w : World) : CallsD Tryz.prog 111 #[] .returning w fun e u' w' => e = .returned (.tuple #[]) ∧ u' = .returning ∧ w' = w := by
  refine callsD_of_wpS Tryz.func111 rfl fun c₀ cs hu => ?_
  apply wpS_region
  simp [wpOpsS, go_sem, recoverD, hu, Tryz.ntmps111, Exit.thenS]
  cases c₀
  simp_all [bodyPostS, results, Tryz.results111, Exit.thenS]

theorem hmf (fn : Fn) (first cap : Array Value) (w : World) : (Instr.makeFunc fn first cap).run Tryz.prog w = .ok (.func fn first cap) w := rfl
theorem not_nil (fn : Fn) (first cap : Array Value) (w : World) : (binOp BinOp.neq 1 (.func fn first cap) .nilFunc).run Tryz.prog w = .ok (.bool true) w := by kernel_rfl
theorem is_nil (w : World) : (binOp BinOp.neq 1 .nilFunc .nilFunc).run Tryz.prog w = .ok (.bool false) w := by kernel_rfl

theorem call_none (w : World) : Calls Tryz.prog 93 #[.nilFunc] w fun e w' => e = .returned (.tuple #[]) ∧ w' = w := by
  have h1 := is_nil
  have h2 := hmf
  go_enter_defers Tryz.func93, Tryz.ntmps93
  go_wp2
  refine leaves_cons (f := 111) (args := #[]) (by simp) (by simp [go_sem]) ?_
  refine (recover_idle _).mono ?_
  rintro e u' w'' ⟨rfl, rfl, rfl⟩
  simp [Leaves, settle, results, Tryz.results93, go_sem]
/-- Whatever is called and ends rightly. -/
theorem call_fn {g : FuncId} (first caps : Array Value) (w : World) {R : World → Prop} (eg : Enters Tryz.prog g) (h : Calls Tryz.prog g (first ++ caps) w fun e w' => e = .returned (.tuple #[]) ∧ R w') :
    Calls Tryz.prog 93 #[.func (.func g) first caps] w fun e w' => e = .returned (.tuple #[]) ∧ R w' := by
  have h1 := not_nil
  have h2 := hmf
  have h3 : ∀ (args : Array Value) (w : World), (callFunc g args).run Tryz.prog w = .ok (.enter g args) w := eg
  have H := Lib.hid h
  clear h
  go_enter_defers Tryz.func93, Tryz.ntmps93
  go_wp2_with fail
  refine (H.out).mono ?_
  rintro e w' ⟨rfl, hR⟩
  have HR := Lib.hid hR
  clear hR
  go_wp2
  refine leaves_cons (f := 111) (args := #[]) (by simp) (by simp [go_sem]) ?_
  refine (recover_idle _).mono ?_
  rintro e u' w'' ⟨rfl, rfl, rfl⟩
  simp [Leaves, settle, results, Tryz.results93, go_sem]
  exact HR.out
set_option maxRecDepth 10000 in
/-- A method of what lies behind an interface, kept as a value. -/
theorem call_meth {g : FuncId} {T : TypeId} {name : String} (p v : Value) (w : World) {R : World → Prop} (eg : Enters Tryz.prog g) (hm : ∀ (n : Nat) (w : World), (method (n + 1) T p name).run Tryz.prog w = .ok (g, v) w)
    (h : Calls Tryz.prog g #[v] w fun e w' => e = .returned (.tuple #[]) ∧ R w') :
    Calls Tryz.prog 93 #[.func (.method name) #[.iface T p] #[]] w fun e w' => e = .returned (.tuple #[]) ∧ R w' := by
  have h1 := not_nil
  have h2 := hmf
  have h3 : ∀ (args : Array Value) (w : World), (callFunc g args).run Tryz.prog w = .ok (.enter g args) w := eg
  have h4 : ∀ (w : World), (method (Tryz.prog.types.size + Made.depth) T p name).run Tryz.prog w = .ok (g, v) w := fun w => hm _ w
  have H := Lib.hid h
  clear h
  go_enter_defers Tryz.func93, Tryz.ntmps93
  go_wp2_with fail
  refine (H.out).mono ?_
  rintro e w' ⟨rfl, hR⟩
  have HR := Lib.hid hR
  clear hR
  go_wp2
  refine leaves_cons (f := 111) (args := #[]) (by simp) (by simp [go_sem]) ?_
  refine (recover_idle _).mono ?_
  rintro e u' w'' ⟨rfl, rfl, rfl⟩
  simp [Leaves, settle, results, Tryz.results93, go_sem]
  exact HR.out


/-- Nothing, or a function. -/
def IsFn (v : Value) : Prop := v = .nilFunc ∨ ∃ fn fi ca, v = .func fn fi ca
theorem isFn_nil : IsFn .nilFunc := .inl rfl
theorem isFn_func (fn : Fn) (fi ca : Array Value) : IsFn (.func fn fi ca) := .inr ⟨_, _, _, rfl⟩
theorem to_any (b : Nat) (v old : Value) (w : World) (hv : IsFn v) (hc : w.cell? ⟨b, 0, none⟩ = some old) (hf : w.frozen? ⟨b, 0, none⟩ = false) :
    Calls Tryz.prog 52 #[.pointer (some ⟨b, 0, none⟩), v] w fun e w' => e = .returned (.tuple #[]) ∧ w' = w.setCell ⟨b, 0, none⟩ v := by
  rcases hv with rfl | ⟨fn, fi, ca, rfl⟩
  · go_enter Tryz.func52, Tryz.ntmps52
    go_wp2
    go_end0
    exact ⟨rfl, rfl⟩
  · go_enter Tryz.func52, Tryz.ntmps52
    go_wp2
    go_end0
    exact ⟨rfl, rfl⟩
theorem end_any (b : Nat) (old : Value) (w : World) (hc : w.cell? ⟨b, 0, none⟩ = some old) (hf : w.frozen? ⟨b, 0, none⟩ = false) :
    Calls Tryz.prog 98 #[.pointer (some ⟨b, 0, none⟩)] w fun e w' => e = .returned (.tuple #[]) ∧ w' = w.setCell ⟨b, 0, none⟩ .nilFunc := by
  go_enter Tryz.func98, Tryz.ntmps98
  go_wp2_with (go_at_call 52; (with_reducible refine (to_any _ _ _ _ isFn_nil hc hf).mono ?_); rintro e w1 ⟨rfl, rfl⟩)
  go_end0
  exact ⟨rfl, rfl⟩
theorem eql_func (fn : Fn) (first cap : Array Value) (w : World) : (binOp BinOp.eql 1 (.func fn first cap) .nilFunc).run Tryz.prog w = .ok (.bool false) w := by kernel_rfl
theorem eql_nil (w : World) : (binOp BinOp.eql 1 .nilFunc .nilFunc).run Tryz.prog w = .ok (.bool true) w := by kernel_rfl
/-- What comes next: is it nothing? -/
def idle (v : Value) : Bool := match v with | .nilFunc => true | _ => false
theorem gdone_any (b : Nat) (v : Value) (w : World) (hv : IsFn v) (hc : w.cell? ⟨b, 0, none⟩ = some v) :
    Calls Tryz.prog 63 #[.pointer (some ⟨b, 0, none⟩)] w fun e w' => e = .returned (.bool (idle v)) ∧ w = w' := by
  have h1 := eql_func
  have h2 := eql_nil
  rcases hv with rfl | ⟨fn, fi, ca, rfl⟩
  · go_enter Tryz.func63, Tryz.ntmps63
    go_wp2
    go_ret
    exact ⟨rfl, rfl⟩
  · go_enter Tryz.func63, Tryz.ntmps63
    go_wp2
    go_ret
    exact ⟨rfl, rfl⟩
/-- A step of a gear: a call of what comes next. -/
theorem gstep_any {R : World → Prop} (b : Nat) (v : Value) (w : World) (hc : w.cell? ⟨b, 0, none⟩ = some v) (h : Calls Tryz.prog 93 #[v] w fun e w' => e = .returned (.tuple #[]) ∧ R w') :
    Calls Tryz.prog 59 #[.pointer (some ⟨b, 0, none⟩)] w fun e w' => e = .returned (.tuple #[]) ∧ R w' := by
  have H := Lib.hid h
  clear h
  go_enter Tryz.func59, Tryz.ntmps59
  go_wp2_with (go_at_call 93; (with_reducible refine (H.out).mono ?_); rintro e w1 ⟨rfl, hR⟩)
  go_end0
  exact ⟨rfl, hR⟩
/-- toWhile in one form. -/
def nextOf (n : Nat) (v : Value) : Value := if n = 0 then .nilFunc else v
end Pac
end Go.Proofs.YtfbnidjcimcfoaaGreat
