/- A count in memory; its calls that touch no arena. -/
/- A count made, stepped, asked. -/
/- A count made, stepped, asked. -/
/- Enter and Exit. -/
import Derived.Test.YtpajafecodkndaaGreatClaimKin
import Derived.Test.YtpajafecodkndaaGreatDirPath
import Derived.Test.YtpajafecodkndaaGreatCollPlain
import Derived.BigQuiet
import Derived.Deep.RegionWith
set_option linter.unusedVariables false
set_option linter.unusedSimpArgs false
namespace Go.Proofs.YtpajafecodkndaaGreat
namespace Cnt
open Go.RowKit Go.Maps Arn Pac Clm

set_option maxRecDepth 100000 in
set_option maxHeartbeats 4000000 in
/-- A node's counter. -/
theorem Counter_n (seg : Int) (g m : Nat) (w : World) (hg : g < 8) (h1 : 1 ≤ m) (h2 : m < 2 * 2 ^ g) (hz : (seg != 0) = true) :
    Calls Tryz.prog 189 #[.int .u64 seg, .int .i64 g, .int .i64 m] w fun e w' => e = .returned (.tuple #[.agg #[.int .u64 seg, .int .i64 ((5 * 2 ^ g + m : Nat) : Int)], .bool true]) ∧ Frm.Turn [] w w' := by
  have H1 := Lib.hid (fun W => slots_n g W hg)
  have H2 := Lib.hid (fun W => counters_n g W hg)
  have H3 := Lib.hid (fun W => isThere_n seg W hz)
  obtain ⟨r0, r1⟩ := pow_le hg
  rw [show ((5 * 2 ^ g + m : Nat) : Int) = ((2 ^ g : Nat) : Int) * 5 + (m : Int) by omega]
  have q0 : (1 : Int) ≤ ((2 ^ g : Nat) : Int) := by omega
  have q1 : ((2 ^ g : Nat) : Int) ≤ 128 := by omega
  have q2 : (1 : Int) ≤ (m : Int) := by omega
  have q3 : (m : Int) < 2 * ((2 ^ g : Nat) : Int) := by omega
  have HT : Hid (∀ o, Frm.Turn [] w (w.alloc o)) := Lib.hid (fun o => (Frm.Turn.refl [] w).alloc o)
  clear r0 r1 h1 h2 hg hz
  generalize ((2 ^ g : Nat) : Int) = p at H1 H2 q0 q1 q3 ⊢
  generalize (m : Int) = y at q2 q3 ⊢
  generalize (g : Int) = gi at H1 H2 ⊢
  have q4 : ¬ y < 1 := by omega
  have q5 : ¬ 2 * p ≤ y := by omega
  go_enter Tryz.func189, Tryz.ntmps189
  go_wp2_with (first
    | (go_at_call 168; (with_reducible refine (H1.out _).mono ?_); rintro e w1 ⟨rfl, rfl⟩)
    | (go_at_call 191; (with_reducible refine (H2.out _).mono ?_); rintro e w1 ⟨rfl, rfl⟩)
    | (go_at_call 149; (with_reducible refine (H3.out _).mono ?_); rintro e w1 ⟨rfl, rfl⟩))
  refine bodyPost_ret (v := .tuple #[.agg #[.int .u64 seg, .int .i64 (p * 5 + y)], .bool true]) (by simp [results, Tryz.results189, go_sem]) rfl ⟨rfl, ?_⟩
  first | exact HT.out _ | exact ((HT.out _).setCell (p := ⟨w.heap.size, 0, none⟩) (.inr (Nat.le_refl _)) _).setCell (p := ⟨w.heap.size, 1, none⟩) (.inr (Nat.le_refl _)) _
/-- A path's row. -/
def PathAt (W : World) (q s : Nat) : Prop := ∀ k, k < kN s → W.cell? ⟨q, k, none⟩ = some (.int .i64 (ndN s k))
theorem PathAt.turn {W W' : World} {q s : Nat} {F : List Nat} (h : PathAt W q s) (ht : Frm.Turn F W W') (hn : q ∉ F) : PathAt W' q s := fun k hk => ht.cell (h k hk) hn
theorem cell_in {w : World} {a : Addr} {v : Value} (h : w.cell? a = some v) : a.block < w.heap.size := by
  unfold World.cell? at h
  cases hb : w.heap[a.block]? with
  | none => rw [hb] at h; cases h
  | some o => exact (Array.getElem?_eq_some_iff.1 hb).1
theorem PathAt.lt {W : World} {q s : Nat} (h : PathAt W q s) : q < W.heap.size := cell_in (h 0 (by unfold kN; omega))
theorem len_fin : ∀ s : Fin 255, Go.Lib.bitLen (s.val + 1) = kN s.val := by decide +kernel
variable {w W W' : World} {r b q c n : Nat} {M : Mem} {A : Ar} {C : Ct} {g : Value}
end Cnt
end Go.Proofs.YtpajafecodkndaaGreat

set_option linter.unusedVariables false
set_option linter.unusedSimpArgs false
namespace Go.Proofs.YtpajafecodkndaaGreat
namespace Cnt
open Go.RowKit Go.Maps Arn Pac Clm

variable {w W W' : World} {r b q c n : Nat} {M : Mem} {A : Ar} {C : Ct} {g : Value}
theorem path_aft {A' : Ar} {m : Nat} {W1 W2 : World} {s : Nat} (hq : q ∉ M.foot b) (hc : PathAt W q s) (h1 : Frm.Turn [] W W1) (h2 : After w b M A' m W1 W2) : PathAt W2 q s := by
  obtain ⟨M', hs, hT, hf⟩ := h2
  exact (hc.turn h1 (by simp)).turn hT hq
/-- An address that was just laid. -/
def AdrAt (W0 : World) (x : Nat) (seg ad : Int) (W : World) : Prop := W.heap[x]? = some (.cells #[.int .u64 seg, .int .i64 ad] 66 (0, 0)) ∧ W0.heap.size ≤ x ∧ Frm.Turn [] W0 W
theorem AdrAt.told {W0 W : World} {x : Nat} {seg ad : Int} (h : AdrAt W0 x seg ad W) : (loadVar 66 ⟨x, 0, none⟩).run Tryz.prog W = .ok (.agg #[.int .u64 seg, .int .i64 ad]) W := load_adr h.1
end Cnt
end Go.Proofs.YtpajafecodkndaaGreat

set_option linter.unusedVariables false
set_option linter.unusedSimpArgs false
namespace Go.Proofs.YtpajafecodkndaaGreat
namespace Cnt
open Go.RowKit Go.Maps Arn Pac Clm

variable {w W W' : World} {r b q c n : Nat} {M : Mem} {A : Ar} {C : Ct} {g : Value}
end Cnt
end Go.Proofs.YtpajafecodkndaaGreat

set_option linter.unusedVariables false
set_option linter.unusedSimpArgs false
namespace Go.Proofs.YtpajafecodkndaaGreat
namespace Cnt
open Go.RowKit Go.Maps Arn Pac Clm

variable {w W W' : World} {r b q c n : Nat} {M : Mem} {A : Ar} {C : Ct} {g : Value}
end Cnt
end Go.Proofs.YtpajafecodkndaaGreat
