/- What the laws of layer 12 go by: places, the document's paths and counters, a count beside an arena. -/
import Derived.Test.YtlghinjggkgfmaaGreatCountSegsWalk
set_option linter.unusedVariables false
set_option linter.unusedSimpArgs false
namespace Go.Proofs.YtlghinjggkgfmaaGreat
namespace Cnt
open Go.RowKit Go.Maps Arn Pac Clm

variable {w W W' : World} {b n k r q : Nat} {K : List Nat} {A : Ar} {C : Ct}
theorem but_cell0 {a : Addr} {v : Value} {o : Option Nat} (h : But w K o W W') (hk : a.block ∈ K) (ho : some a.block ≠ o) (hc : W.cell? a = some v) : W'.cell? a = some v := by
  obtain ⟨F, hT, g1, _⟩ := h
  exact hT.cell hc (g1 _ hk ho)
theorem but_subK {K' : List Nat} {o : Option Nat} (h : But w K o W W') (hk : ∀ k, k ∈ K' → k ∈ K) : But w K' o W W' := by
  obtain ⟨F, hT, h1, h2⟩ := h
  exact ⟨F, hT, fun k hk' => h1 k (hk k hk'), h2⟩
/-- The handles' row. -/
def HsAt (W : World) (kh n : Nat) : Prop := ∀ g, g < n → W.cell? ⟨kh, g, none⟩ = some (.int .u64 (hS g))
theorem hs_of {base : Nat} {v : Value} (h : W.ownsRow base 25 1 v n (hsV n)) (hn : 0 < n) : ∃ kh c, v = .slice (some ⟨kh, 0, none⟩) n c ∧ HsAt W kh n ∧ base ≤ kh ∧ kh < W.heap.size := by
  rcases h.2 with ⟨hv, hz⟩ | ⟨g, cap, cur, rfl, hb, hh, hrest⟩
  · omega
  · refine ⟨g, cap, rfl, fun x hx => ?_, hb, (h.lt g rfl).2⟩
    have h2 := h.cellAt x (by have := h.1; omega)
    rw [h2, hsV_get hx]
theorem HsAt.turn {kh : Nat} {F : List Nat} (h : HsAt W kh n) (ht : Frm.Turn F W W') (hn : kh ∉ F) : HsAt W' kh n := fun g hg => ht.cell (h g hg) hn
theorem HsAt.but {kh : Nat} {o : Option Nat} (h : HsAt W kh n) (hb : But w K o W W') (hk : kh ∈ K) (ho : some kh ≠ o) : HsAt W' kh n := fun g hg => but_cell0 hb hk ho (h g hg)
/-- The document's counter. -/
theorem RCounter_any (seg : Int) (g m : Nat) (W : World) (hg : g < 8) (hm : m ≤ 1000) :
    Calls Tryz.prog 76 #[.int .u64 seg, .int .i64 g, .int .i64 m] W fun e w' => e = .returned (.agg #[.int .u64 seg, .int .i64 ((5 * 2 ^ g + m : Nat) : Int)]) ∧ Frm.Turn [] W w' := by
  have HP := Lib.hid (fun W => Pow_any g W (by omega))
  obtain ⟨p0, p1⟩ := pow_le hg
  rw [show ((5 * 2 ^ g + m : Nat) : Int) = 5 * ((2 ^ g : Nat) : Int) + (m : Int) by omega]
  have q0 : (1 : Int) ≤ ((2 ^ g : Nat) : Int) := by omega
  have q1 : ((2 ^ g : Nat) : Int) ≤ 128 := by omega
  have q2 : (0 : Int) ≤ (m : Int) := by omega
  have q3 : (m : Int) ≤ 1000 := by omega
  have HT : Hid (∀ o, Frm.Turn [] W (W.alloc o)) := Lib.hid (fun o => (Frm.Turn.refl [] W).alloc o)
  clear p0 p1 hg hm
  generalize ((2 ^ g : Nat) : Int) = p at HP q0 q1 ⊢
  generalize (m : Int) = y at q2 q3 ⊢
  generalize (g : Int) = gi at HP ⊢
  go_enter Tryz.func76, Tryz.ntmps76
  go_wp2_with (go_at_call 97; (with_reducible refine (HP.out _).mono ?_); rintro e w1 ⟨rfl, rfl⟩)
  have hld := load_adr (World.alloc_heap_new W (.cells #[.int .u64 seg, .int .i64 (5 * p + y)] 80))
  refine bodyPost_ret (v := .agg #[.int .u64 seg, .int .i64 (5 * p + y)]) (by simp [results, Tryz.results76, asAddr, hld, Act.put]) rfl ⟨rfl, ?_⟩
  exact HT.out _
end Cnt
end Go.Proofs.YtlghinjggkgfmaaGreat
