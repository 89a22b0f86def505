/- ArenaPlays at a capacity that no arena has: New tells so, and the nil arena answers as the document says. -/
import Derived.Test.YtgjgoflkbcmgnaaArenaNilBlocks
import Derived.Test.YtgjgoflkbcmgnaaArenaFirst
import Derived.Test.YtgjgoflkbcmgnaaArenaOps
import Derived.Test.YtgjgoflkbcmgnaaArenaClone
import Derived.Test.YtgjgoflkbcmgnaaArenaSame
set_option linter.unusedVariables false
set_option linter.unusedSimpArgs false
namespace Go.Proofs.Ytgjgoflkbcmgnaa
namespace Arn
open Go.RowKit Hp Go.Maps

set_option maxRecDepth 100000 in
set_option maxHeartbeats 8000000 in
theorem plays_none (cap most : Int) (a0 : Option Addr) (len lc : Nat) (w : World) (hops : 0 < len → ∃ bl off, a0 = some ⟨bl, off, none⟩ ∧ OpsAt w bl off len) (hlen : len ≤ 9223372036854775807) (hc : cap < 0 ∨ 60000 < cap) :
    Calls Try.prog 3 #[.int .i64 cap, .slice a0 len lc, .int .i64 most] w fun e w' => e = .returned (.bool true) ∧ Frm.Turn [] w w' := by
  have HF := Lib.hid (first_any w)
  have HG : Hid (∀ W, Frm.Turn [] w W → Calls Try.prog 7 #[.slice a0 len lc] W fun e w' => ∃ r : Bool, e = .returned (.bool r) ∧ (r = false → len ≤ 100) ∧ Frm.Turn [] w w') :=
    Lib.hid fun W hT => (great_any a0 len lc W (fun hp => (hops hp).elim fun bl h => h.elim fun off h => ⟨bl, off, h.1, h.2.step hT⟩) hlen).mono (by rintro e w' ⟨r, h1, h2, h3⟩; exact ⟨r, h1, h2, hT.trans h3 (by simp)⟩)
  have HN : Hid (∀ W, Calls Try.prog 8 #[.int .i64 cap] W fun e w' => e = .returned (.tuple #[.pointer none, .int .i64 2]) ∧ W = w') := Lib.hid fun W => new_no cap W hc
  clear hops
  have hcc : decide (cap < 0) = true ∨ (decide (cap < 0) = false ∧ decide (60000 < cap) = true) := by simp; omega
  clear hc
  rcases hcc with h1 | ⟨h1, h2⟩
  · go_enter Try.func3, Try.ntmps3
    go_wp2_with (first
      | (go_at_call 6; (with_reducible refine (HF.out).mono ?_); rintro e wn ⟨rfl, hT⟩; have HT := Lib.hid hT; clear hT)
      | (go_at_call 7; (with_reducible refine (HG.out _ HT.out).mono ?_); rintro e wn ⟨r, rfl, hr, hT⟩; have HT := Lib.hid hT; clear hT hr)
      | (go_at_call 8; (with_reducible refine (HN.out _).mono ?_); rintro e wn ⟨rfl, rfl⟩)
      | (go_at_call 9; (with_reducible refine (lay_nil _ _).mono ?_); rintro e wn ⟨rfl, rfl⟩)
      | (go_at_call 10; (with_reducible refine (read_nil _ _ _).mono ?_); rintro e wn ⟨rfl, hT⟩; have HT := Lib.hid (Frm.Turn.trans (by repeat (first | exact HT.out | apply Frm.Turn.drewN | apply Frm.Turn.drew | apply Frm.Turn.alloc)) hT (by simp)); clear hT)
      | (go_at_call 11; (with_reducible refine (swap_nil _ _ _ _ _).mono ?_); rintro e wn ⟨rfl, hT⟩; have HT := Lib.hid (Frm.Turn.trans (by repeat (first | exact HT.out | apply Frm.Turn.drewN | apply Frm.Turn.drew | apply Frm.Turn.alloc)) hT (by simp)); clear hT)
      | (go_at_call 12; (with_reducible refine (add_nil _ _ _ _).mono ?_); rintro e wn ⟨rfl, hT⟩; have HT := Lib.hid (Frm.Turn.trans (by repeat (first | exact HT.out | apply Frm.Turn.drewN | apply Frm.Turn.drew | apply Frm.Turn.alloc)) hT (by simp)); clear hT)
      | (go_at_call 13; (with_reducible refine (free_nil _ _).mono ?_); rintro e wn ⟨rfl, rfl⟩)
      | (go_at_call 14; (with_reducible refine (write_nil _ _ _ _).mono ?_); rintro e wn ⟨rfl, hT⟩; have HT := Lib.hid (Frm.Turn.trans (by repeat (first | exact HT.out | apply Frm.Turn.drewN | apply Frm.Turn.drew | apply Frm.Turn.alloc)) hT (by simp)); clear hT)
      | (go_at_call 15; (with_reducible refine (cap_nil _).mono ?_); rintro e wn ⟨rfl, rfl⟩)
      | (go_at_call 16; (with_reducible refine (used_nil _).mono ?_); rintro e wn ⟨rfl, rfl⟩)
      | (go_at_call 17; (with_reducible refine (peak_nil _).mono ?_); rintro e wn ⟨rfl, rfl⟩)
      | (go_at_call 18; (with_reducible refine (len_nil _).mono ?_); rintro e wn ⟨rfl, rfl⟩)
      | (go_at_call 19; (with_reducible refine (faults_nil _).mono ?_); rintro e wn ⟨rfl, rfl⟩)
      | (go_at_call 20; (with_reducible refine (size_nil _ _).mono ?_); rintro e wn ⟨rfl, rfl⟩)
      | (go_at_call 21; (with_reducible refine (words_nil _).mono ?_); rintro e wn ⟨rfl, rfl⟩)
      | (go_at_call 24; (with_reducible refine (aclone_nil _).mono ?_); rintro e wn ⟨rfl, rfl⟩)
      | (go_at_call 22; (with_reducible refine (blocksNil_any _ _).mono ?_); rintro e wn ⟨⟨a9, c9, rfl⟩, hT⟩; have HT := Lib.hid (Frm.Turn.trans (by repeat (first | exact HT.out | apply Frm.Turn.drewN | apply Frm.Turn.drew | apply Frm.Turn.alloc)) hT (by simp)); clear hT)
      | (go_at_call 23; (with_reducible refine (tally_nil _).mono ?_); unfold tal; rintro e wn ⟨rfl, hT⟩; have HT := Lib.hid (Frm.Turn.trans (by repeat (first | exact HT.out | apply Frm.Turn.drewN | apply Frm.Turn.drew | apply Frm.Turn.alloc)) hT (by simp)); clear hT)
      | (go_at_call 25; (with_reducible refine (same_nil _).mono ?_); rintro e wn ⟨rfl, rfl⟩))
    all_goals go_ret
    all_goals exact ⟨rfl, by repeat (first | exact HT.out | apply Frm.Turn.drewN | apply Frm.Turn.drew | apply Frm.Turn.alloc)⟩
  · go_enter Try.func3, Try.ntmps3
    go_wp2_with (first
      | (go_at_call 6; (with_reducible refine (HF.out).mono ?_); rintro e wn ⟨rfl, hT⟩; have HT := Lib.hid hT; clear hT)
      | (go_at_call 7; (with_reducible refine (HG.out _ HT.out).mono ?_); rintro e wn ⟨r, rfl, hr, hT⟩; have HT := Lib.hid hT; clear hT hr)
      | (go_at_call 8; (with_reducible refine (HN.out _).mono ?_); rintro e wn ⟨rfl, rfl⟩)
      | (go_at_call 9; (with_reducible refine (lay_nil _ _).mono ?_); rintro e wn ⟨rfl, rfl⟩)
      | (go_at_call 10; (with_reducible refine (read_nil _ _ _).mono ?_); rintro e wn ⟨rfl, hT⟩; have HT := Lib.hid (Frm.Turn.trans (by repeat (first | exact HT.out | apply Frm.Turn.drewN | apply Frm.Turn.drew | apply Frm.Turn.alloc)) hT (by simp)); clear hT)
      | (go_at_call 11; (with_reducible refine (swap_nil _ _ _ _ _).mono ?_); rintro e wn ⟨rfl, hT⟩; have HT := Lib.hid (Frm.Turn.trans (by repeat (first | exact HT.out | apply Frm.Turn.drewN | apply Frm.Turn.drew | apply Frm.Turn.alloc)) hT (by simp)); clear hT)
      | (go_at_call 12; (with_reducible refine (add_nil _ _ _ _).mono ?_); rintro e wn ⟨rfl, hT⟩; have HT := Lib.hid (Frm.Turn.trans (by repeat (first | exact HT.out | apply Frm.Turn.drewN | apply Frm.Turn.drew | apply Frm.Turn.alloc)) hT (by simp)); clear hT)
      | (go_at_call 13; (with_reducible refine (free_nil _ _).mono ?_); rintro e wn ⟨rfl, rfl⟩)
      | (go_at_call 14; (with_reducible refine (write_nil _ _ _ _).mono ?_); rintro e wn ⟨rfl, hT⟩; have HT := Lib.hid (Frm.Turn.trans (by repeat (first | exact HT.out | apply Frm.Turn.drewN | apply Frm.Turn.drew | apply Frm.Turn.alloc)) hT (by simp)); clear hT)
      | (go_at_call 15; (with_reducible refine (cap_nil _).mono ?_); rintro e wn ⟨rfl, rfl⟩)
      | (go_at_call 16; (with_reducible refine (used_nil _).mono ?_); rintro e wn ⟨rfl, rfl⟩)
      | (go_at_call 17; (with_reducible refine (peak_nil _).mono ?_); rintro e wn ⟨rfl, rfl⟩)
      | (go_at_call 18; (with_reducible refine (len_nil _).mono ?_); rintro e wn ⟨rfl, rfl⟩)
      | (go_at_call 19; (with_reducible refine (faults_nil _).mono ?_); rintro e wn ⟨rfl, rfl⟩)
      | (go_at_call 20; (with_reducible refine (size_nil _ _).mono ?_); rintro e wn ⟨rfl, rfl⟩)
      | (go_at_call 21; (with_reducible refine (words_nil _).mono ?_); rintro e wn ⟨rfl, rfl⟩)
      | (go_at_call 24; (with_reducible refine (aclone_nil _).mono ?_); rintro e wn ⟨rfl, rfl⟩)
      | (go_at_call 22; (with_reducible refine (blocksNil_any _ _).mono ?_); rintro e wn ⟨⟨a9, c9, rfl⟩, hT⟩; have HT := Lib.hid (Frm.Turn.trans (by repeat (first | exact HT.out | apply Frm.Turn.drewN | apply Frm.Turn.drew | apply Frm.Turn.alloc)) hT (by simp)); clear hT)
      | (go_at_call 23; (with_reducible refine (tally_nil _).mono ?_); unfold tal; rintro e wn ⟨rfl, hT⟩; have HT := Lib.hid (Frm.Turn.trans (by repeat (first | exact HT.out | apply Frm.Turn.drewN | apply Frm.Turn.drew | apply Frm.Turn.alloc)) hT (by simp)); clear hT)
      | (go_at_call 25; (with_reducible refine (same_nil _).mono ?_); rintro e wn ⟨rfl, rfl⟩))
    all_goals go_ret
    all_goals exact ⟨rfl, by repeat (first | exact HT.out | apply Frm.Turn.drewN | apply Frm.Turn.drew | apply Frm.Turn.alloc)⟩
end Arn
end Go.Proofs.Ytgjgoflkbcmgnaa
