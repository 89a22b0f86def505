/- The document's claim, walked. -/
import Derived.Test.YtolcpfidmpoipaaGreatRunMem
set_option linter.unusedVariables false
set_option linter.unusedSimpArgs false
namespace Go.Proofs.YtolcpfidmpoipaaGreat
namespace Evn
open Go.RowKit Go.Maps Arn Clm
variable {tok : Int} {A A' : Ar} {L : List Res} {r : Res} {i : Nat} {W0 W : World} {lv0 : Value} {G0 : List Nat} {eb gb rb : Nat} {CS : Array Value} {lv : Value} {G : List Nat}
/-- A claim that looks at slot n. -/
def RunSt (C : Cl) (sg : Int) (n : Nat) : Prop :=
  C.laid = 0 ∧ C.own = false ∧ ((n < 255 ∧ C.slot = n ∧ C.err = 0 ∧ (ofN n = 0 ∧ C.st = 1 ∨ ofN n ≠ 0 ∧ C.st = 5 ∧ C.seg = sg)) ∨ (n = 255 ∧ C.st = 0 ∧ C.err = 12))
theorem run_turn {C : Cl} {sg : Int} {n : Nat} (hst : C.st = 5) (hsl : C.slot = n) (hsg : C.seg = sg) (hld : C.laid = 0) (her : C.err = 0) (hn : n < 255) : RunSt (({ C with own := false } : Cl).turn (C.slot + 1)) sg (n + 1) := by
  unfold Cl.turn
  rw [hsl]
  by_cases h : 255 ≤ n + 1
  · rw [if_pos h]
    exact ⟨hld, rfl, .inr ⟨by omega, rfl, rfl⟩⟩
  · rw [if_neg h]
    refine ⟨hld, rfl, .inl ⟨by omega, rfl, her, ?_⟩⟩
    by_cases h0 : ofN (n + 1) = 0
    · exact .inl ⟨h0, by dsimp only; rw [if_pos h0]⟩
    · exact .inr ⟨h0, by dsimp only; rw [if_neg h0], hsg⟩
def RunRel (tok : Int) (A A' : Ar) (L : List Res) (r : Res) (W0 : World) (lv0 : Value) (G0 : List Nat) (eb gb rb : Nat) (W : World) : Prop :=
  ∃ i sg n, i ≤ L.length + 1 ∧ RunAt W0 lv0 G0 eb gb rb (plcE A A' L r i) sg ((n : Nat) : Int) false 0 0 W ∧ RunSt (clAt tok L r i) sg n
set_option maxRecDepth 100000 in
set_option maxHeartbeats 8000000 in
/-- Run: a claim for tok, from the beginning. -/
theorem run_any (R : Goes tok A A' L r) (h : EnAt W eb (plcE A A' L r 0) CS lv G) :
    Calls Tryz.prog 14 #[.pointer (some ⟨eb, 0, none⟩), .int .u64 tok] W (RunPost tok A A' L r W lv G eb) := by
  have hS0 : RunAt W lv G eb (W.heap.size + 1) W.heap.size (plcE A A' L r 0) 0 ((0 : Nat) : Int) false 0 0 ((W.alloc (.cells (gotAll 0 0 false 0 0) 56)).alloc (.cells (gotAll 0 0 false 0 0) 56)) := by
    have b0 := World.alloc_heap_new W (.cells (gotAll 0 0 false 0 0) 56)
    have b1 := World.alloc_heap_new (W.alloc (.cells (gotAll 0 0 false 0 0) 56)) (.cells (gotAll 0 0 false 0 0) 56)
    simp only [World.size_alloc] at b1
    have t1 := (Frm.Turn.refl [] (W.alloc (.cells (gotAll 0 0 false 0 0) 56))).alloc (.cells (gotAll 0 0 false 0 0) 56)
    have hT : Frm.Turn [] W ((W.alloc (.cells (gotAll 0 0 false 0 0) 56)).alloc (.cells (gotAll 0 0 false 0 0) 56)) := ((Frm.Turn.refl [] W).alloc _).alloc _
    have hlt := h.lt
    have hlb : ∀ k, lv.ownBlock = some k → k < W.heap.size := by
      intro k hk
      rcases h.log.2 with ⟨rfl, _⟩ | ⟨g', c', cur, rfl, _, hh, _⟩
      · simp [Value.ownBlock] at hk
      · simp [Value.ownBlock] at hk
        subst hk
        exact (Array.getElem?_eq_some_iff.1 hh).1
    refine ⟨⟨CS, lv, G, h.step hT, fun k hk => ⟨fun hk2 => by have := h.gl k hk2; omega, fun hk2 => ?_⟩, fun k hk => .inl hk, fun k hk => .inl hk⟩, hT.mono (by simp), b1, t1.keep b0 (by simp), by omega, by omega, hlt, by omega⟩
    have := hlb _ hk2
    omega
  have HRS : Hid (RunSt (clAt tok L r 0) 0 0) := Lib.hid (by
    unfold clAt
    rw [stAt_zero]
    unfold Cl.new
    rw [if_neg R.tk]
    exact ⟨rfl, rfl, .inl ⟨by omega, rfl, rfl, .inl ⟨by decide, rfl⟩⟩⟩)
  have HS0 := Lib.hid hS0
  have HR := Lib.hid R
  have htk : (tok == 0) = false := by simpa using R.tk
  clear hS0 h R
  unfold gotAll at HS0
  go_enter Tryz.func14, Tryz.ntmps14
  go_wp2_with fail
  go_loopw [6] (fun s6 W' => RunRel tok A A' L r W lv G eb (W.heap.size + 1) W.heap.size W') (fun _ W' => L.length + 3 - cntE eb W')
  case atStart => exact ⟨0, 0, 0, by omega, HS0.out, HRS.out⟩
  case round =>
    clear HS0 HRS
    obtain ⟨i, sg1, n, hi, hR0, hld, hown, hc⟩ := hrel
    obtain ⟨⟨a00, a01, a02, a03, a04⟩, ⟨r00, r01, r02, r03, r04⟩, s0, f0, g0⟩ := hR0.cells
    have HR0 := Lib.hid hR0
    clear hR0
    rcases hc with ⟨hn, hsl, her, hc⟩ | ⟨hn, hst, her⟩
    · have HN := Lib.hid hn
      have hn1 : (n : Int) ≤ 254 := by omega
      have hn0 : 0 ≤ (n : Int) := by omega
      have HSG := Lib.hid (fun W => RSegment_any n W HN.out)
      have HC := Lib.hid (And.intro hsl (And.intro her (And.intro hc (And.intro hld (And.intro hown hi)))))
      have hin : i ≤ L.length + 1 := hi
      clear hsl her hc hld hown hi hn
      obtain ⟨oz, hoz⟩ : ∃ oz : Int, oz = (ofN n : Int) := ⟨_, rfl⟩
      have HOZ := Lib.hid hoz
      rw [← hoz] at HSG
      clear hoz
      go_upto_if 25 with (go_at_call 26; go_must (with_reducible refine (HSG.out _).mono ?_); rintro e wz ⟨rfl, rfl⟩)
      go_cut [] (fun W2 => ∃ (j : Nat) (sg : Int), RunAt W lv G eb (W.heap.size + 1) W.heap.size (plcE A A' L r j) sg (n : Int) false 0 0 W2 ∧ i ≤ j ∧ j ≤ L.length + 1 ∧ (clAt tok L r j).st = 5 ∧ (clAt tok L r j).slot = n ∧ (clAt tok L r j).seg = sg ∧ (clAt tok L r j).laid = 0)
      case first =>
        obtain ⟨hsl, her, hc, hld, hown, hi⟩ := HC.out
        rcases hc with ⟨ho, hst⟩ | ⟨ho, hst, hsg⟩
        · have ho' : oz = 0 := by rw [HOZ.out, ho]; rfl
          subst ho'
          have hse := fun (W' : World) (hW : RunAt W lv G eb (W.heap.size + 1) W.heap.size (plcE A A' L r i) sg1 (n : Int) false 0 0 W') => run_segment HR.out hW hi hst hsl rfl
          unfold gotAll at hse
          have HSE := Lib.hid hse
          clear hse hst hsl her hld hown ho hi
          go_upto_region 8 with fail
          go_cut [] (fun W2 => ∃ (j : Nat) (sg2 ld2 er2 : Int), i ≤ j ∧ SegOk tok L r n j sg2 ld2 er2 ∧ RunAt W lv G eb (W.heap.size + 1) W.heap.size (plcE A A' L r j) sg2 (n : Int) false ld2 er2 W2)
          case first =>
            go_wp2_with (go_at_call 30; go_must (with_reducible refine (HSE.out _ HR0.out).mono ?_); rintro e w2 ⟨j, sg2, ld2, er2, hij, rfl, hok, h2⟩; have HIJ := Lib.hid hij; have h3 := h2.put5 sg2 n false ld2 er2; obtain ⟨⟨a20, a21, a22, a23, a24⟩, ⟨r20, r21, r22, r23, r24⟩, s2, f2, g2⟩ := h2.cells; have H3 := Lib.hid h3; have HOK := Lib.hid hok; clear h2 h3 hok hij)
            go_meet
            exact ⟨j, sg2, ld2, er2, HIJ.out, HOK.out, H3.out⟩
          case rest =>
            obtain ⟨j, sg2, ld2, er2, hij, hok, h3⟩ := hcut
            obtain ⟨⟨a30, a31, a32, a33, a34⟩, ⟨r30, r31, r32, r33, r34⟩, s3, f3, g3⟩ := h3.cells
            have H3 := Lib.hid h3
            have HIJ := Lib.hid hij
            clear h3 hij HSE
            rcases hok with ⟨hj, hst, hsl, hld, her⟩ | ⟨hj, hsl, hld, (⟨hst, hsg, her⟩ | ⟨hst, herr, her, hown⟩)⟩
            · have ST3 : (plcE A A' L r j).stop = true := by rw [plc_stop]; exact decide_eq_true (by omega)
              rw [ST3] at s3
              have OK1 : Hid (RunOk tok L r j sg2 n false ld2 er2) := Lib.hid (.inl ⟨hj, hst, hld, rfl, her⟩)
              clear hj hst hsl hld her
              go_wp2
              obtain ⟨hld, hpost⟩ := H3.out.out (OK1.out)
              refine bodyPost_ret (by simp [results, Tryz.results14, asAddr, hld, Act.put, gotAll]) rfl hpost
            · subst her
              have ST3 : (plcE A A' L r j).stop = false := by rw [plc_stop]; exact decide_eq_false (by omega)
              rw [ST3] at s3
              have hld0 : ld2 = 0 := by
                rcases (clAt_way (L := L) (r := r) HR.out.tk j).laid with h | h
                · omega
                · rw [← hld]; exact h
              subst hld0
              have HX := Lib.hid (And.intro hj (And.intro hst (And.intro hsl (And.intro hsg hld))))
              clear hj hst hsl hsg hld
              go_wp2
              go_meet
              exact ⟨j, sg2, H3.out, HIJ.out, HX.out.1, HX.out.2.1, HX.out.2.2.1, HX.out.2.2.2.1, HX.out.2.2.2.2⟩
            · have ST3 : (plcE A A' L r j).stop = false := by rw [plc_stop]; exact decide_eq_false (by omega)
              rw [ST3] at s3
              have OK1 : Hid (RunOk tok L r j sg2 n false ld2 er2) := Lib.hid (.inr ⟨hj, hst, hown, hld, herr, fun e => by cases e⟩)
              have her' : (er2 != 0) = true := by simpa using her
              clear hj hst hsl hld herr hown her
              go_wp2
              obtain ⟨hld, hpost⟩ := H3.out.out (OK1.out)
              refine bodyPost_ret (by simp [results, Tryz.results14, asAddr, hld, Act.put, gotAll]) rfl hpost
        · have ho' : (oz == 0) = false := by rw [HOZ.out]; simpa using ho
          have HX := Lib.hid (And.intro hi (And.intro hst (And.intro hsl (And.intro hsg hld))))
          clear hst hsl her hld hown ho hi hsg
          go_wp2
          go_meet
          exact ⟨i, sg1, HR0.out, Nat.le_refl _, HX.out.1, HX.out.2.1, HX.out.2.2.1, HX.out.2.2.2.1, HX.out.2.2.2.2⟩
      case rest =>
        obtain ⟨j, sg2, h3, hij, hj, hst, hsl, hsg, hld⟩ := hcut
        obtain ⟨⟨a30, a31, a32, a33, a34⟩, ⟨r30, r31, r32, r33, r34⟩, s3, f3, g3⟩ := h3.cells
        have H3 := Lib.hid h3
        clear h3 HC
        clear a00 a01 a02 a03 a04 r00 r01 r02 r03 r04 s0 f0 g0
        have hsw := fun (W' : World) (hW : RunAt W lv G eb (W.heap.size + 1) W.heap.size (plcE A A' L r j) sg2 n false 0 0 W') => run_swap HR.out hW hj hst hsl hsg
        obtain ⟨ck, hck⟩ : ∃ x, x = (ansE L r j).ok := ⟨_, rfl⟩
        rw [← hck] at hsw
        have HWO := Lib.hid (fun W => RWord_any sg2 n W HN.out)
        have hw5 := (clAt_way (L := L) (r := r) HR.out.tk j).own (by omega)
        by_cases h6 : j = L.length + 1
        · have ST5 : (plcE A A' L r (j + 1)).stop = true := by rw [plc_stop]; exact decide_eq_true (by omega)
          have hck0 : ck = false := by rw [hck, h6]; simp [ansE, Res.zero]
          rw [hck0] at hsw
          have HSW := Lib.hid hsw
          have OK5 : Hid (RunOk tok L r (j + 1) sg2 n false 0 0) := Lib.hid (.inl ⟨by omega, by rw [← h6, hst]; omega, by rw [← h6]; exact hld, rfl, rfl⟩)
          clear hsw hck hck0 hst hsl hsg hld hj h6 hw5
          go_wp2_with (first
            | (go_at_call 10; go_must (with_reducible refine (HWO.out _).mono ?_); rintro e w4 ⟨rfl, hT4⟩; have H4 := Lib.hid (H3.out.step hT4); clear hT4)
            | (go_at_call 31; go_must (with_reducible refine (HSW.out _ H4.out).mono ?_); rintro e w5 ⟨rfl, h5⟩; obtain ⟨⟨a50, a51, a52, a53, a54⟩, ⟨r50, r51, r52, r53, r54⟩, s5, f5, g5⟩ := h5.cells; rw [ST5] at s5; have H5 := Lib.hid h5; clear h5))
          obtain ⟨hld, hpost⟩ := H5.out.out (OK5.out)
          refine bodyPost_ret (by simp [results, Tryz.results14, asAddr, hld, Act.put, gotAll]) rfl hpost
        · have hj1 : j ≤ L.length := by omega
          have ST5 : (plcE A A' L r (j + 1)).stop = false := by rw [plc_stop]; exact decide_eq_false (by omega)
          have hn5 := clAt_succ (tok := tok) (r := r) hj1
          unfold Cl.next at hn5
          rw [if_neg (by omega), if_neg (by omega), if_neg (by omega), if_neg (by omega), if_pos hst, ← hck] at hn5
          cases ck with
          | true =>
            rw [if_pos rfl] at hn5
            have HSW := Lib.hid hsw
            have OK5 : Hid (RunOk tok L r (j + 1) sg2 n true 0 0) := Lib.hid (.inr ⟨by omega, by rw [hn5], by rw [hn5], by rw [hn5]; exact hld, by rw [hn5]; exact hw5.2, fun _ => ⟨by rw [hn5]; exact hsg, by rw [hn5]; exact congrArg Nat.cast hsl⟩⟩)
            clear hsw hck hst hsl hsg hld hj hj1 h6 hn5 hw5
            go_wp2_with (first
              | (go_at_call 10; go_must (with_reducible refine (HWO.out _).mono ?_); rintro e w4 ⟨rfl, hT4⟩; have H4 := Lib.hid (H3.out.step hT4); clear hT4)
              | (go_at_call 31; go_must (with_reducible refine (HSW.out _ H4.out).mono ?_); rintro e w5 ⟨rfl, h5⟩; obtain ⟨⟨a50, a51, a52, a53, a54⟩, ⟨r50, r51, r52, r53, r54⟩, s5, f5, g5⟩ := h5.cells; rw [ST5] at s5; have h6 := h5.put 2 (.bool true) (sg' := sg2) (s' := n) (own' := true) (ld' := 0) (er' := 0) rfl; obtain ⟨⟨a60, a61, a62, a63, a64⟩, ⟨r60, r61, r62, r63, r64⟩, s6, f6, g6⟩ := h6.cells; rw [ST5] at s6; have H6 := Lib.hid h6; clear h6; have H5 := Lib.hid h5; clear h5))
            obtain ⟨hld, hpost⟩ := H6.out.out (OK5.out)
            refine bodyPost_ret (by simp [results, Tryz.results14, asAddr, hld, Act.put, gotAll]) rfl hpost
          | false =>
            rw [if_neg (by simp)] at hn5
            have HSW := Lib.hid hsw
            have HTN : Hid (j + 1 ≤ L.length + 1 ∧ RunSt (clAt tok L r (j + 1)) sg2 (n + 1)) := Lib.hid ⟨by omega, by rw [hn5]; exact run_turn hst hsl hsg hld hw5.2 HN.out⟩
            have HJ : Hid (j ≤ L.length + 2 ∧ i ≤ j) := Lib.hid ⟨by omega, hij⟩
            clear hsw hck hst hsl hsg hld hj hj1 h6 hn5 hw5 hij
            go_wp2_with (first
              | (go_at_call 10; go_must (with_reducible refine (HWO.out _).mono ?_); rintro e w4 ⟨rfl, hT4⟩; have H4 := Lib.hid (H3.out.step hT4); clear hT4)
              | (go_at_call 31; go_must (with_reducible refine (HSW.out _ H4.out).mono ?_); rintro e w5 ⟨rfl, h5⟩; obtain ⟨⟨a50, a51, a52, a53, a54⟩, ⟨r50, r51, r52, r53, r54⟩, s5, f5, g5⟩ := h5.cells; rw [ST5] at s5; have h6 := h5.put 1 (.int .i64 ((n : Int) + 1)) (sg' := sg2) (s' := (n : Int) + 1) (own' := false) (ld' := 0) (er' := 0) rfl; obtain ⟨⟨a60, a61, a62, a63, a64⟩, ⟨r60, r61, r62, r63, r64⟩, s6, f6, g6⟩ := h6.cells; rw [ST5] at s6; have H6 := Lib.hid h6; clear h6; have H5 := Lib.hid h5; clear h5))
            have hrr : RunRel tok A A' L r W lv G eb (W.heap.size + 1) W.heap.size (w5.setCell ⟨W.heap.size + 1, 1, none⟩ (.int .i64 ((n : Int) + 1))) := ⟨j + 1, sg2, n + 1, HTN.out.1, by rw [show ((n + 1 : Nat) : Int) = (n : Int) + 1 by omega]; exact H6.out, HTN.out.2⟩
            refine ⟨?_, ?_⟩
            · exact hrr
            · rw [H6.out.cnt, HR0.out.cnt, plc_at (by have := HJ.out; have := HTN.out.1; omega), plc_at (by have := HJ.out; have := HTN.out.1; omega)]
              have := HJ.out; have := HTN.out.1; omega
    · subst hn
      have OK1 : Hid (RunOk tok L r i sg1 255 false 0 12) := Lib.hid (.inr ⟨hi, hst, hown, hld, her, fun e => by cases e⟩)
      have h9 := HR0.out.put 4 (.int .i64 12) (sg' := sg1) (s' := 255) (own' := false) (ld' := 0) (er' := 12) rfl
      obtain ⟨⟨a90, a91, a92, a93, a94⟩, ⟨r90, r91, r92, r93, r94⟩, s9, f9, g9⟩ := h9.cells
      have H9 := Lib.hid h9
      clear h9 hst hown hld her hi
      go_wp2
      obtain ⟨hld, hpost⟩ := H9.out.out (OK1.out)
      refine bodyPost_ret (by simp [results, Tryz.results14, asAddr, hld, Act.put, gotAll]) rfl hpost
end Evn
end Go.Proofs.YtolcpfidmpoipaaGreat
