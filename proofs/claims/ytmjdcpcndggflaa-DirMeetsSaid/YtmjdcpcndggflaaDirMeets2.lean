/- DirMeets: two slots that there are. -/
import Derived.Test.YtmjdcpcndggflaaDirMeets
set_option linter.unusedVariables false
set_option linter.unusedSimpArgs false
namespace Go.Proofs.Ytmjdcpcndggflaa
namespace Dr
open Go.RowKit

set_option maxRecDepth 100000 in
set_option maxHeartbeats 8000000 in
theorem meets_in (a b : Int) (w : World) (a0 : 0 ≤ a) (a1 : a ≤ 254) (b0 : 0 ≤ b) (b1 : b ≤ 254) :
    Calls Try.prog 3 #[.int .u8 a, .int .u8 b] w fun e w' => e = .returned (.bool true) ∧ Frm.Turn [] w w' := by
  have HF := Lib.hid (first_any w)
  obtain ⟨ka, hka, ka7, sa⟩ := len_pos (N := a + 1) (by omega) (by omega)
  obtain ⟨kb, hkb, kb7, sb⟩ := len_pos (N := b + 1) (by omega) (by omega)
  have hta := nd_top (N := a + 1) (by omega) (by omega) hka ka7
  have htb := nd_top (N := b + 1) (by omega) (by omega) hkb kb7
  have hza := nd_zero (N := a + 1) (by omega)
  have hzb := nd_zero (N := b + 1) (by omega)
  have HP := Lib.hid (fun W => Path_row a W a0 a1 (ka + 1) hka)
  have HQ := Lib.hid (fun W => Path_row b W b0 b1 (kb + 1) hkb)
  have HS := Lib.hid (fun W => Segment_yes a W a0 a1)
  have HU := Lib.hid (fun W => Segment_yes b W b0 b1)
  have HAB : Hid (a = b → ka = kb) := Lib.hid (fun e => by subst e; omega)
  generalize p2 (segN (a + 1)) = pa at HS
  generalize p2 (segN (b + 1)) = pb at HU
  rw [sa] at HS
  rw [sb] at HU
  have HLA := Lib.hid (fun k => nd_le (N := a + 1) (by omega) k)
  have HLB := Lib.hid (fun k => nd_le (N := b + 1) (by omega) k)
  have HTA := Lib.hid hta
  have HTB := Lib.hid htb
  have HZA := Lib.hid hza
  have HZB := Lib.hid hzb
  clear hka hkb sa sb hta htb hza hzb
  go_enter Try.func3, Try.ntmps3
  go_wp2_with (first
    | (go_at_call 4; (with_reducible refine (HF.out).mono ?_); rintro e w1 ⟨rfl, hT⟩; have WT := Lib.hid hT; clear hT)
    | (go_at_call 5; (with_reducible refine (HP.out _).mono ?_); rintro e w2 ⟨g1, c1, rfl, hc, hT⟩; have WT := Lib.hid (WT.out.trans hT (by simp)); have C1 := Lib.hid hc; clear hT hc)
    | (go_at_call 5; (with_reducible refine (HQ.out _).mono ?_); rintro e w3 ⟨g2, c2, rfl, hc, hT⟩; have C1 := Lib.hid (fun (W : World) (hW : Frm.Turn [] w3 W) => C1.out W (hT.trans hW (by simp))); have WT := Lib.hid (WT.out.trans hT (by simp)); have C2 := Lib.hid hc; clear hT hc)
    | (go_at_call 6; (with_reducible refine (HS.out _).mono ?_); rintro e w4 ⟨rfl, rfl⟩)
    | (go_at_call 6; (with_reducible refine (HU.out _).mono ?_); rintro e w5 ⟨rfl, rfl⟩; have x1 := C1.out _ (Frm.Turn.refl _ _) ka (by omega); rw [HTA.out] at x1; have y1 := C2.out _ (Frm.Turn.refl _ _) kb (by omega); rw [HTB.out] at y1))
  go_loopw [13] (fun i wr => ∃ k : Nat, k ≤ ka ∧ i = .int .i64 ((k : Int) + 1) ∧ Frm.Turn [] w3 wr) (fun i _ => ka + 1 - (intOf i).toNat)
  case atStart => exact ⟨0, Nat.zero_le _, rfl, Frm.Turn.refl [] _⟩
  case round =>
    obtain ⟨k, hk, rfl, hT⟩ := hrel
    by_cases hlt : k < ka
    · have v1 := C1.out _ hT (k + 1) (by omega)
      have v0 := C1.out _ hT k (by omega)
      rw [nd_half] at v1
      obtain ⟨p0, p1⟩ := HLA.out k
      have HT := Lib.hid hT
      clear hT x1 y1
      generalize nd (a + 1) k = z at v0 v1 p0 p1
      have i1 : (k : Int) + 1 ≤ (ka : Int) := by omega
      have i0 : (0 : Int) ≤ (k : Int) := by omega
      have i2 : (k : Int) ≤ 7 := by omega
      go_wp2_with fail
      go_quiet (fail)
      go_wp2
      refine ⟨⟨k + 1, by omega, by simp, by repeat (first | exact HT.out | apply Frm.Turn.drewN | apply Frm.Turn.drew)⟩, ?_⟩
      simp [intOf]; omega
    · obtain rfl : k = ka := by omega
      have WTr := Lib.hid (WT.out.trans hT (by simp))
      have HT := Lib.hid hT
      clear hT x1 y1 hlt hk
      by_cases hkk : k = kb
      · subst hkk
        have t1 : ((k : Int) != (k : Int)) = false := by simp
        go_wp2_with fail
        go_loopw [106, 14] (fun i tv wq => ∃ (j : Nat) (tb : Bool), j ≤ k + 1 ∧ i = .int .i64 (j : Int) ∧ tv = .bool tb ∧ Hid (Met (a + 1) (b + 1) j tb) ∧ Frm.Turn [] w3 wq) (fun i _ _ => k + 1 - (intOf i).toNat)
        case atStart => exact ⟨0, false, Nat.zero_le _, rfl, rfl, Lib.hid (met_zero _ _), HT.out⟩
        case round =>
          obtain ⟨j, tb, hj, rfl, rfl, HM, hT⟩ := hrel
          by_cases hlt : j < k + 1
          · have v1 := C1.out _ hT j hlt
            have v2 := C2.out _ hT j hlt
            have i1 : (j : Int) < (k : Int) + 1 := by omega
            have i0 : (0 : Int) ≤ (j : Int) := by omega
            have i2 : (j : Int) ≤ 7 := by omega
            have HTj := Lib.hid hT
            clear hT
            cases tb with
            | true =>
              have HE := Lib.hid (met_same HM.out rfl)
              rw [HE.out] at v1
              generalize nd (b + 1) j = z at v1 v2
              go_wp2_with fail
              go_quiet (fail)
              go_wp2_with fail
              go_quiet (fail)
              go_wp2
              refine ⟨⟨j + 1, true, by omega, by simp, rfl, Lib.hid (met_yes HE.out), by repeat (first | exact HTj.out | apply Frm.Turn.drewN | apply Frm.Turn.drew)⟩, ?_⟩
              simp [intOf]; omega
            | false =>
              by_cases he : nd (a + 1) j = nd (b + 1) j
              · have HE := Lib.hid he
                rw [he] at v1
                generalize nd (b + 1) j = z at v1 v2
                clear he
                go_wp2_with fail
                go_quiet (fail)
                go_wp2_with fail
                go_quiet (fail)
                go_wp2
                refine ⟨⟨j + 1, true, by omega, by simp, by simp, Lib.hid (met_yes HE.out), by repeat (first | exact HTj.out | apply Frm.Turn.drewN | apply Frm.Turn.drew)⟩, ?_⟩
                simp [intOf]; omega
              · have HE := Lib.hid he
                have te : (nd (a + 1) j == nd (b + 1) j) = false := by simpa using he
                clear he
                generalize nd (a + 1) j = y at v1 te
                generalize nd (b + 1) j = z at v2 te
                go_wp2_with fail
                go_quiet (fail)
                go_wp2_with fail
                go_quiet (fail)
                go_wp2
                refine ⟨⟨j + 1, false, by omega, by simp, by simp [te], Lib.hid (met_no HM.out HE.out), by repeat (first | exact HTj.out | apply Frm.Turn.drewN | apply Frm.Turn.drew)⟩, ?_⟩
                simp [intOf]; omega
          · obtain rfl : j = k + 1 := by omega
            have htb : tb = true := HM.out.2 ⟨k, by omega, by rw [HTA.out, HTB.out]⟩
            subst htb
            have v1 := C1.out _ hT 0 (by omega)
            have v2 := C2.out _ hT 0 (by omega)
            rw [HZA.out] at v1
            rw [HZB.out] at v2
            have WTq := Lib.hid (WT.out.trans hT (by simp))
            clear hT hlt
            by_cases hab : a = b
            · subst hab
              go_wp2_with fail
              go_quiet (fail)
              go_wp2
              go_ret
              exact ⟨by simp, by repeat (first | exact WTq.out | apply Frm.Turn.drewN | apply Frm.Turn.drew)⟩
            · have q1 : (a == b) = false := by simpa using hab
              have q2 : (a + 1 == b + 1) = false := by simp; exact hab
              clear hab
              go_wp2_with fail
              go_quiet (fail)
              go_wp2
              go_ret
              exact ⟨by simp [q1, q2], by repeat (first | exact WTq.out | apply Frm.Turn.drewN | apply Frm.Turn.drew)⟩
      · have hab : (a != b) = true := by simpa using fun e => hkk (HAB.out e)
        have t1 : ((k : Int) != (kb : Int)) = true := by simp; omega
        go_wp2
        go_ret
        exact ⟨by first | rfl | simp [hab], WTr.out⟩
theorem meets_any (a b : Int) (w : World) (a0 : 0 ≤ a) (a1 : a ≤ 255) (b0 : 0 ≤ b) (b1 : b ≤ 255) :
    Calls Try.prog 3 #[.int .u8 a, .int .u8 b] w fun e w' => e = .returned (.bool true) ∧ Frm.Turn [] w w' := by
  by_cases h : a = 255 ∨ b = 255
  · exact meets_out a b w a0 a1 b0 b1 h
  · exact meets_in a b w a0 (by omega) b0 (by omega)
end Dr
end Go.Proofs.Ytmjdcpcndggflaa
