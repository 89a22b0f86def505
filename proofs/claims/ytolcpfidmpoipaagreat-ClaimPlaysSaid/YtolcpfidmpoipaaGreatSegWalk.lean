/- The document's segment, walked. -/
import Derived.Test.YtolcpfidmpoipaaGreatSegPlain
import Derived.Test.YtolcpfidmpoipaaGreatClaimKin
set_option linter.unusedVariables false
set_option linter.unusedSimpArgs false
namespace Go.Proofs.YtolcpfidmpoipaaGreat
namespace Evn
open Go.RowKit Go.Maps Arn Clm
variable {tok : Int} {A A' : Ar} {L : List Res} {r : Res} {i : Nat} {W0 W : World} {lv0 : Value} {G0 : List Nat} {eb gb rb xb : Nat} {CS : Array Value} {lv : Value} {G : List Nat}
/-- Between two rounds. -/
def SegRel (i0 : Nat) (tok : Int) (A A' : Ar) (L : List Res) (r : Res) (W0 : World) (lv0 : Value) (G0 : List Nat) (eb gb rb xb s g : Nat) (W : World) : Prop :=
  ∃ i sg, i0 ≤ i ∧ i ≤ L.length + 1 ∧ (clAt tok L r i).st = 1 ∧ (clAt tok L r i).slot = s ∧ SegAt W0 lv0 G0 eb gb rb xb (plcE A A' L r i) sg s 0 0 g W
set_option maxRecDepth 100000 in
set_option maxHeartbeats 8000000 in
theorem segment_any (i0 : Nat) (hi00 : i0 ≤ i) (R : Goes tok A A' L r) (h : EnAt W eb (plcE A A' L r i) CS lv G) (hi : i ≤ L.length + 1) (hs : (clAt tok L r i).st = 1) (s g : Nat) (hsl : (clAt tok L r i).slot = s) (hg : sgN s = g) (sg : Int) :
    Calls Tryz.prog 30 #[.pointer (some ⟨eb, 0, none⟩), .int .i64 g, .agg (gotCells sg s 0 0)] W (SegPost i0 tok A A' L r W lv G eb s) := by
  have hs255 : s < 255 := by have := (clAt_way (L := L) (r := r) R.tk i).slot; omega
  have hg8 : g < 8 := by have := (sg_facts hs255).1; omega
  have hS0 : SegAt W lv G eb W.heap.size (W.heap.size + 1) (W.heap.size + 1 + 1) (plcE A A' L r i) sg s 0 0 g (((W.alloc (.cells (gotCells sg s 0 0) 56)).alloc (.cells (gotCells 0 0 0 0) 56)).alloc (.cells #[.int .u64 0, .int .i64 (1 + g)] 50)) := by
    have b0 := World.alloc_heap_new W (.cells (gotCells sg s 0 0) 56)
    have b1 := World.alloc_heap_new (W.alloc (.cells (gotCells sg s 0 0) 56)) (.cells (gotCells 0 0 0 0) 56)
    have b2 := World.alloc_heap_new ((W.alloc (.cells (gotCells sg s 0 0) 56)).alloc (.cells (gotCells 0 0 0 0) 56)) (.cells #[.int .u64 0, .int .i64 (1 + g)] 50)
    simp only [World.size_alloc] at b1 b2
    have t1 := (Frm.Turn.refl [] (W.alloc (.cells (gotCells sg s 0 0) 56))).alloc (.cells (gotCells 0 0 0 0) 56)
    have t2 := (Frm.Turn.refl [] ((W.alloc (.cells (gotCells sg s 0 0) 56)).alloc (.cells (gotCells 0 0 0 0) 56))).alloc (.cells #[.int .u64 0, .int .i64 (1 + g)] 50)
    have hT : Frm.Turn [] W (((W.alloc (.cells (gotCells sg s 0 0) 56)).alloc (.cells (gotCells 0 0 0 0) 56)).alloc (.cells #[.int .u64 0, .int .i64 (1 + g)] 50)) := (((Frm.Turn.refl [] W).alloc _).alloc _).alloc _
    have hlt := h.lt
    have hlb : ∀ k, lv.ownBlock = some k → k < W.heap.size := by
      intro k hk
      rcases h.log.2 with ⟨rfl, _⟩ | ⟨g', c', cur, rfl, _, hh, _⟩
      · simp [Value.ownBlock] at hk
      · simp [Value.ownBlock] at hk
        subst hk
        exact (Array.getElem?_eq_some_iff.1 hh).1
    refine ⟨⟨CS, lv, G, h.step hT, fun k hk => ⟨fun hk2 => by have := h.gl k hk2; omega, fun hk2 => ?_⟩, fun k hk => .inl hk, fun k hk => .inl hk⟩, hT.mono (by simp), (t1.trans t2 (by simp)).keep b0 (by simp), t2.keep b1 (by simp), b2, by omega, by omega, by omega, hlt, by omega, by omega, by omega⟩
    have := hlb _ hk2
    omega
  have hlt := h.lt
  have HS0 := Lib.hid hS0
  have HR := Lib.hid R
  obtain ⟨p, hp⟩ : ∃ p : Nat, p = 2 ^ g := ⟨_, rfl⟩
  have hp8 : p ≤ 256 := by rw [hp]; exact Nat.pow_le_pow_right (n := 2) (by omega) (show g ≤ 8 by omega)
  have HPW : Hid (∀ W, Calls Tryz.prog 46 #[.int .i64 g] W fun e w' => e = .returned (.int .i64 (p : Int)) ∧ W = w') := Lib.hid fun W => by rw [hp]; exact Pow_any g W (by omega)
  have hmk := made_words (7 * p) (by omega)
  rw [show ((7 * p : Nat) : Int) = 7 * (p : Int) by omega] at hmk
  have HG := Lib.hid hg
  have HP := Lib.hid hp
  have hgi : (g : Int) ≤ 8 := by omega
  have hgi0 : 0 ≤ (g : Int) := by omega
  have HLT := Lib.hid hlt
  have HWD : Hid (∀ W2 : World, (∀ {P : En} {sg s ld er : Int}, SegAt W lv G eb W.heap.size (W.heap.size + 1) (W.heap.size + 1 + 1) P sg s ld er g W2 → ∀ W', Frm.Turn [eb] (W2.alloc (.cells (madeCells #[.int .u64 0] (7 * p)) 28)) W' → WordsAt W' (.slice (some ⟨W2.heap.size, 0, none⟩) (7 * p) (7 * p)) (List.replicate (7 * 2 ^ g) 0))) := Lib.hid fun W2 P sg s ld er hS W' hT => by
    rw [← HP.out]
    refine (noughts (7 * p) W2 28).turn hT (fun k hk => ?_)
    simp [Value.ownBlock] at hk
    have := hS.turn.size
    have := HLT.out
    simp; omega
  clear hS0 h R hp hg
  unfold gotCells
  go_enter Tryz.func30, Tryz.ntmps30
  go_wp2_with fail
  go_loopw [8] (fun s8 W' => SegRel i0 tok A A' L r W lv G eb W.heap.size (W.heap.size + 1) (W.heap.size + 1 + 1) s g W') (fun _ W' => L.length + 3 - cntE eb W')
  case atStart => exact ⟨i, sg, hi00, hi, hs, hsl, HS0.out⟩
  case round =>
    clear hi hs hsl HS0 hi00
    obtain ⟨i, sg1, hi0, hi, hs, hsl, hS⟩ := hrel
    have hgs : sgN (clAt tok L r i).slot = g := by rw [hsl]; exact HG.out
    obtain ⟨aw, haw⟩ : ∃ x, x = (ansE L r i).w := ⟨_, rfl⟩
    have hrd := seg_read HR.out hS hi hs hgs
    rw [← haw] at hrd
    have hld0 : (clAt tok L r i).laid = 0 := by
      rcases (clAt_way (L := L) (r := r) HR.out.tk i).laid with h | h
      · omega
      · exact h
    obtain ⟨⟨a00, a01, a02, a03, a04⟩, ⟨x00, x01⟩, _, f0, g0⟩ := hS.cells
    have HS := Lib.hid hS
    clear hS
    by_cases h1 : i = L.length + 1
    · have ST1 : (plcE A A' L r (i + 1)).stop = true := by rw [plc_stop]; exact decide_eq_true (by omega)
      have OK1 : Hid (SegOk tok L r s (i + 1) aw 0 0) := Lib.hid (.inl ⟨by omega, by rw [← h1, hs]; omega, by rw [← h1]; exact hsl, by rw [← h1]; exact hld0, rfl⟩)
      have HRD := Lib.hid hrd
      clear hrd haw hi hs hsl hld0 hgs h1
      go_wp2_with (first
        | (go_at_call 49; go_must (with_reducible refine HRD.out.mono ?_); rintro e w1 ⟨rfl, h1⟩; have h2 := h1.put 0 (.int .u64 aw) (sg' := aw) (ld' := 0) (er' := 0) rfl; obtain ⟨⟨a10, a11, a12, a13, a14⟩, ⟨x10, x11⟩, s1, f1, g1⟩ := h1.cells; obtain ⟨r10, r11, r12, r13, r14⟩ := h1.rcells; rw [ST1] at s1; obtain ⟨⟨a20, a21, a22, a23, a24⟩, ⟨x20, x21⟩, s2, f2, g2⟩ := h2.cells; obtain ⟨r20, r21, r22, r23, r24⟩ := h2.rcells; rw [ST1] at s2; have H2 := Lib.hid h2; clear h1 h2))
      obtain ⟨hld, hpost⟩ := H2.out.out (i0 := i0) (by omega) (OK1.out)
      refine bodyPost_ret (by simp [results, Tryz.results30, asAddr, hld, Act.put, gotCells]) rfl hpost
    · have hi' : i ≤ L.length := by omega
      have hn := clAt_succ (tok := tok) (r := r) hi'
      have ST1 : (plcE A A' L r (i + 1)).stop = false := by rw [plc_stop]; exact decide_eq_false (by omega)
      unfold Cl.next at hn
      rw [if_pos hs, ← haw] at hn
      by_cases hw : aw = 0
      · rw [if_pos hw] at hn
        rw [hw] at hrd
        have HRD := Lib.hid hrd
        have hs1 : (clAt tok L r (i + 1)).st = 2 := by rw [hn]
        have hsl1 : (clAt tok L r (i + 1)).slot = s := by rw [hn]; exact hsl
        have hld1 : (clAt tok L r (i + 1)).laid = 0 := by rw [hn]; exact hld0
        obtain ⟨bw, hbw⟩ : ∃ x, x = (ansE L r (i + 1)).w := ⟨_, rfl⟩
        obtain ⟨be, hbe⟩ : ∃ x, x = (ansE L r (i + 1)).e := ⟨_, rfl⟩
        have hly := fun (W' : World) (hW : SegAt W lv G eb W.heap.size (W.heap.size + 1) (W.heap.size + 1 + 1) (plcE A A' L r (i + 1)) 0 s 0 0 g W') (x : Value) hx => seg_lay HR.out hW (by omega) hs1 (by rw [hsl1]; exact HG.out) x hx hg8
        rw [← hbw, ← hbe] at hly
        clear hrd haw hn hs hsl hld0 hgs hw
        by_cases h2 : i + 1 = L.length + 1
        · have ST2 : (plcE A A' L r (i + 1 + 1)).stop = true := by rw [plc_stop]; exact decide_eq_true (by omega)
          have OK3 : Hid (SegOk tok L r s (i + 1 + 1) 0 0 be) := Lib.hid (.inl ⟨by omega, by rw [← h2, hs1]; omega, by rw [← h2]; exact hsl1, by rw [← h2]; exact hld1, by rw [hbe, h2]; simp [ansE, Res.zero]⟩)
          have HLY := Lib.hid hly
          clear hly hbw hbe hs1 hsl1 hld1 h1 h2 hi hi'
          go_wp2_with (first
            | (go_at_call 49; go_must (with_reducible refine HRD.out.mono ?_); rintro e w1 ⟨rfl, h1⟩; have h2 := h1.put 0 (.int .u64 0) (sg' := 0) (ld' := 0) (er' := 0) rfl; obtain ⟨⟨a10, a11, a12, a13, a14⟩, ⟨x10, x11⟩, s1, f1, g1⟩ := h1.cells; obtain ⟨r10, r11, r12, r13, r14⟩ := h1.rcells; rw [ST1] at s1; obtain ⟨⟨a20, a21, a22, a23, a24⟩, ⟨x20, x21⟩, s2, f2, g2⟩ := h2.cells; obtain ⟨r20, r21, r22, r23, r24⟩ := h2.rcells; rw [ST1] at s2; have H2 := Lib.hid h2; clear h1 h2)
            | (go_at_call 46; go_must (with_reducible refine (HPW.out _).mono ?_); rintro e wz ⟨rfl, rfl⟩)
            | (go_at_call 50; go_must (have hwd := HWD.out _ H2.out; rw [World.size_setCell] at hwd; with_reducible refine (HLY.out _ (H2.out.step ((Frm.Turn.refl [] _).alloc _)) _ hwd).mono ?_); rintro e w3 ⟨rfl, h3⟩; have h4 := h3.put 4 (.int .i64 be) (sg' := 0) (ld' := 0) (er' := be) rfl; obtain ⟨⟨a30, a31, a32, a33, a34⟩, ⟨x30, x31⟩, s3, f3, g3⟩ := h3.cells; obtain ⟨r30, r31, r32, r33, r34⟩ := h3.rcells; rw [ST2] at s3; obtain ⟨⟨a40, a41, a42, a43, a44⟩, ⟨x40, x41⟩, s4, f4, g4⟩ := h4.cells; obtain ⟨r40, r41, r42, r43, r44⟩ := h4.rcells; rw [ST2] at s4; have H4 := Lib.hid h4; clear h3 h4))
          obtain ⟨hld, hpost⟩ := H4.out.out (i0 := i0) (by omega) (OK3.out)
          refine bodyPost_ret (by simp [results, Tryz.results30, asAddr, hld, Act.put, gotCells]) rfl hpost
        · have hi1 : i + 1 ≤ L.length := by omega
          have ST2 : (plcE A A' L r (i + 1 + 1)).stop = false := by rw [plc_stop]; exact decide_eq_false (by omega)
          have hn1 := clAt_succ (tok := tok) (r := r) hi1
          unfold Cl.next at hn1
          rw [if_neg (by omega), if_pos hs1, ← hbe, ← hbw] at hn1
          by_cases h3 : be = 0
          · rw [if_pos h3] at hn1
            rw [h3] at hly
            have HLY := Lib.hid hly
            have hs2 : (clAt tok L r (i + 1 + 1)).st = 3 := by rw [hn1]
            have hsl2 : (clAt tok L r (i + 1 + 1)).slot = s := by rw [hn1]; exact hsl1
            have hld2 : (clAt tok L r (i + 1 + 1)).laid = bw := by rw [hn1]
            obtain ⟨ck, hck⟩ : ∃ x, x = (ansE L r (i + 1 + 1)).ok := ⟨_, rfl⟩
            have hsw := fun (W' : World) (hW : SegAt W lv G eb W.heap.size (W.heap.size + 1) (W.heap.size + 1 + 1) (plcE A A' L r (i + 1 + 1)) 0 s bw 0 g W') => seg_swap HR.out hW (by omega) hs2 (by rw [hsl2]; exact HG.out) bw hld2
            rw [← hck] at hsw
            clear hly hbw hbe hs1 hsl1 hld1 hn1 h3
            by_cases h4 : i + 1 + 1 = L.length + 1
            · have ST3 : (plcE A A' L r (i + 1 + 1 + 1)).stop = true := by rw [plc_stop]; exact decide_eq_true (by omega)
              have OK5 : Hid (SegOk tok L r s (i + 1 + 1 + 1) 0 bw 0) := Lib.hid (.inl ⟨by omega, by rw [← h4, hs2]; omega, by rw [← h4]; exact hsl2, by rw [← h4]; exact hld2, rfl⟩)
              have HSW := Lib.hid hsw
              clear hsw hck hs2 hsl2 hld2 h1 h2 h4 hi hi' hi1
              go_wp2_with (first
                | (go_at_call 49; go_must (with_reducible refine HRD.out.mono ?_); rintro e w1 ⟨rfl, h1⟩; have h2 := h1.put 0 (.int .u64 0) (sg' := 0) (ld' := 0) (er' := 0) rfl; obtain ⟨⟨a10, a11, a12, a13, a14⟩, ⟨x10, x11⟩, s1, f1, g1⟩ := h1.cells; obtain ⟨r10, r11, r12, r13, r14⟩ := h1.rcells; rw [ST1] at s1; obtain ⟨⟨a20, a21, a22, a23, a24⟩, ⟨x20, x21⟩, s2, f2, g2⟩ := h2.cells; obtain ⟨r20, r21, r22, r23, r24⟩ := h2.rcells; rw [ST1] at s2; have H2 := Lib.hid h2; clear h1 h2)
                | (go_at_call 46; go_must (with_reducible refine (HPW.out _).mono ?_); rintro e wz ⟨rfl, rfl⟩)
                | (go_at_call 50; go_must (have hwd := HWD.out _ H2.out; rw [World.size_setCell] at hwd; with_reducible refine (HLY.out _ (H2.out.step ((Frm.Turn.refl [] _).alloc _)) _ hwd).mono ?_); rintro e w3 ⟨rfl, h3⟩; have h4 := h3.put 3 (.int .u64 bw) (sg' := 0) (ld' := bw) (er' := 0) rfl; obtain ⟨⟨a30, a31, a32, a33, a34⟩, ⟨x30, x31⟩, s3, f3, g3⟩ := h3.cells; obtain ⟨r30, r31, r32, r33, r34⟩ := h3.rcells; rw [ST2] at s3; obtain ⟨⟨a40, a41, a42, a43, a44⟩, ⟨x40, x41⟩, s4, f4, g4⟩ := h4.cells; obtain ⟨r40, r41, r42, r43, r44⟩ := h4.rcells; rw [ST2] at s4; have H4 := Lib.hid h4; clear h3 h4)
                | (go_at_call 31; go_must (with_reducible refine (HSW.out _ H4.out).mono ?_); rintro e w5 ⟨rfl, h5⟩; obtain ⟨⟨a50, a51, a52, a53, a54⟩, ⟨x50, x51⟩, s5, f5, g5⟩ := h5.cells; obtain ⟨r50, r51, r52, r53, r54⟩ := h5.rcells; rw [ST3] at s5; have H5 := Lib.hid h5; clear h5))
              obtain ⟨hld, hpost⟩ := H5.out.out (i0 := i0) (by omega) (OK5.out)
              refine bodyPost_ret (by simp [results, Tryz.results30, asAddr, hld, Act.put, gotCells]) rfl hpost
            · have hi2 : i + 1 + 1 ≤ L.length := by omega
              have ST3 : (plcE A A' L r (i + 1 + 1 + 1)).stop = false := by rw [plc_stop]; exact decide_eq_false (by omega)
              have hn2 := clAt_succ (tok := tok) (r := r) hi2
              unfold Cl.next at hn2
              rw [if_neg (by omega), if_neg (by omega), if_pos hs2, ← hck] at hn2
              cases ck with
              | true =>
                rw [if_pos rfl] at hn2
                have OK6 : Hid (SegOk tok L r s (i + 1 + 1 + 1) bw 0 0) := Lib.hid (.inr ⟨by omega, by rw [hn2]; exact hsl2, by rw [hn2], .inl ⟨by rw [hn2], by rw [hn2]; exact hld2, rfl⟩⟩)
                have HSW := Lib.hid hsw
                clear hsw hck hs2 hsl2 hld2 h1 h2 h4 hi hi' hi1 hi2 hn2
                go_wp2_with (first
                  | (go_at_call 49; go_must (with_reducible refine HRD.out.mono ?_); rintro e w1 ⟨rfl, h1⟩; have h2 := h1.put 0 (.int .u64 0) (sg' := 0) (ld' := 0) (er' := 0) rfl; obtain ⟨⟨a10, a11, a12, a13, a14⟩, ⟨x10, x11⟩, s1, f1, g1⟩ := h1.cells; obtain ⟨r10, r11, r12, r13, r14⟩ := h1.rcells; rw [ST1] at s1; obtain ⟨⟨a20, a21, a22, a23, a24⟩, ⟨x20, x21⟩, s2, f2, g2⟩ := h2.cells; obtain ⟨r20, r21, r22, r23, r24⟩ := h2.rcells; rw [ST1] at s2; have H2 := Lib.hid h2; clear h1 h2)
                  | (go_at_call 46; go_must (with_reducible refine (HPW.out _).mono ?_); rintro e wz ⟨rfl, rfl⟩)
                  | (go_at_call 50; go_must (have hwd := HWD.out _ H2.out; rw [World.size_setCell] at hwd; with_reducible refine (HLY.out _ (H2.out.step ((Frm.Turn.refl [] _).alloc _)) _ hwd).mono ?_); rintro e w3 ⟨rfl, h3⟩; have h4 := h3.put 3 (.int .u64 bw) (sg' := 0) (ld' := bw) (er' := 0) rfl; obtain ⟨⟨a30, a31, a32, a33, a34⟩, ⟨x30, x31⟩, s3, f3, g3⟩ := h3.cells; obtain ⟨r30, r31, r32, r33, r34⟩ := h3.rcells; rw [ST2] at s3; obtain ⟨⟨a40, a41, a42, a43, a44⟩, ⟨x40, x41⟩, s4, f4, g4⟩ := h4.cells; obtain ⟨r40, r41, r42, r43, r44⟩ := h4.rcells; rw [ST2] at s4; have H4 := Lib.hid h4; clear h3 h4)
                  | (go_at_call 31; go_must (with_reducible refine (HSW.out _ H4.out).mono ?_); rintro e w5 ⟨rfl, h5⟩; obtain ⟨⟨a50, a51, a52, a53, a54⟩, ⟨x50, x51⟩, s5, f5, g5⟩ := h5.cells; obtain ⟨r50, r51, r52, r53, r54⟩ := h5.rcells; rw [ST3] at s5; have h6 := h5.put 0 (.int .u64 bw) (sg' := bw) (ld' := bw) (er' := 0) rfl; have h7 := h6.put 3 (.int .u64 0) (sg' := bw) (ld' := 0) (er' := 0) rfl; obtain ⟨⟨a60, a61, a62, a63, a64⟩, ⟨x60, x61⟩, s6, f6, g6⟩ := h6.cells; obtain ⟨r60, r61, r62, r63, r64⟩ := h6.rcells; rw [ST3] at s6; obtain ⟨⟨a70, a71, a72, a73, a74⟩, ⟨x70, x71⟩, s7, f7, g7⟩ := h7.cells; obtain ⟨r70, r71, r72, r73, r74⟩ := h7.rcells; rw [ST3] at s7; have H7 := Lib.hid h7; clear h6 h7; have H5 := Lib.hid h5; clear h5))
                obtain ⟨hld, hpost⟩ := H7.out.out (i0 := i0) (by omega) (OK6.out)
                refine bodyPost_ret (by simp [results, Tryz.results30, asAddr, hld, Act.put, gotCells]) rfl hpost
              | false =>
                rw [if_neg (by simp)] at hn2
                have HSW := Lib.hid hsw
                have hs3 : (clAt tok L r (i + 1 + 1 + 1)).st = 4 := by rw [hn2]
                have hsl3 : (clAt tok L r (i + 1 + 1 + 1)).slot = s := by rw [hn2]; exact hsl2
                have hld3 : (clAt tok L r (i + 1 + 1 + 1)).laid = bw := by rw [hn2]; exact hld2
                have hfr := fun (W' : World) (hW : SegAt W lv G eb W.heap.size (W.heap.size + 1) (W.heap.size + 1 + 1) (plcE A A' L r (i + 1 + 1 + 1)) 0 s bw 0 g W') => seg_free HR.out hW (by omega) hs3 bw hld3
                have HFR := Lib.hid hfr
                clear hsw hck hs2 hsl2 hld2 hn2 hfr
                by_cases h5 : i + 1 + 1 + 1 = L.length + 1
                · have ST4 : (plcE A A' L r (i + 1 + 1 + 1 + 1)).stop = true := by rw [plc_stop]; exact decide_eq_true (by omega)
                  have OK7 : Hid (SegOk tok L r s (i + 1 + 1 + 1 + 1) 0 bw 0) := Lib.hid (.inl ⟨by omega, by rw [← h5, hs3]; omega, by rw [← h5]; exact hsl3, by rw [← h5]; exact hld3, rfl⟩)
                  clear hs3 hsl3 hld3 h1 h2 h4 h5 hi hi' hi1 hi2
                  go_wp2_with (first
                    | (go_at_call 49; go_must (with_reducible refine HRD.out.mono ?_); rintro e w1 ⟨rfl, h1⟩; have h2 := h1.put 0 (.int .u64 0) (sg' := 0) (ld' := 0) (er' := 0) rfl; obtain ⟨⟨a10, a11, a12, a13, a14⟩, ⟨x10, x11⟩, s1, f1, g1⟩ := h1.cells; obtain ⟨r10, r11, r12, r13, r14⟩ := h1.rcells; rw [ST1] at s1; obtain ⟨⟨a20, a21, a22, a23, a24⟩, ⟨x20, x21⟩, s2, f2, g2⟩ := h2.cells; obtain ⟨r20, r21, r22, r23, r24⟩ := h2.rcells; rw [ST1] at s2; have H2 := Lib.hid h2; clear h1 h2)
                    | (go_at_call 46; go_must (with_reducible refine (HPW.out _).mono ?_); rintro e wz ⟨rfl, rfl⟩)
                    | (go_at_call 50; go_must (have hwd := HWD.out _ H2.out; rw [World.size_setCell] at hwd; with_reducible refine (HLY.out _ (H2.out.step ((Frm.Turn.refl [] _).alloc _)) _ hwd).mono ?_); rintro e w3 ⟨rfl, h3⟩; have h4 := h3.put 3 (.int .u64 bw) (sg' := 0) (ld' := bw) (er' := 0) rfl; obtain ⟨⟨a30, a31, a32, a33, a34⟩, ⟨x30, x31⟩, s3, f3, g3⟩ := h3.cells; obtain ⟨r30, r31, r32, r33, r34⟩ := h3.rcells; rw [ST2] at s3; obtain ⟨⟨a40, a41, a42, a43, a44⟩, ⟨x40, x41⟩, s4, f4, g4⟩ := h4.cells; obtain ⟨r40, r41, r42, r43, r44⟩ := h4.rcells; rw [ST2] at s4; have H4 := Lib.hid h4; clear h3 h4)
                    | (go_at_call 31; go_must (with_reducible refine (HSW.out _ H4.out).mono ?_); rintro e w5 ⟨rfl, h5⟩; obtain ⟨⟨a50, a51, a52, a53, a54⟩, ⟨x50, x51⟩, s5, f5, g5⟩ := h5.cells; obtain ⟨r50, r51, r52, r53, r54⟩ := h5.rcells; rw [ST3] at s5; have H5 := Lib.hid h5; clear h5)
                    | (go_at_call 51; go_must (with_reducible refine (HFR.out _ H5.out).mono ?_); rintro e w8 ⟨rfl, h8⟩; obtain ⟨⟨a80, a81, a82, a83, a84⟩, ⟨x80, x81⟩, s8, f8, g8⟩ := h8.cells; obtain ⟨r80, r81, r82, r83, r84⟩ := h8.rcells; rw [ST4] at s8; have H8 := Lib.hid h8; clear h8))
                  obtain ⟨hld, hpost⟩ := H8.out.out (i0 := i0) (by omega) (OK7.out)
                  refine bodyPost_ret (by simp [results, Tryz.results30, asAddr, hld, Act.put, gotCells]) rfl hpost
                · have hi3 : i + 1 + 1 + 1 ≤ L.length := by omega
                  have ST4 : (plcE A A' L r (i + 1 + 1 + 1 + 1)).stop = false := by rw [plc_stop]; exact decide_eq_false (by omega)
                  have hn3 := clAt_succ (tok := tok) (r := r) hi3
                  unfold Cl.next at hn3
                  rw [if_neg (by omega), if_neg (by omega), if_neg (by omega), if_pos hs3] at hn3
                  have OK8 : Hid (i + 4 ≤ L.length + 1 ∧ (clAt tok L r (i + 4)).st = 1 ∧ (clAt tok L r (i + 4)).slot = s) := Lib.hid ⟨by omega, by rw [hn3], by rw [hn3]; exact hsl3⟩
                  clear hs3 hsl3 hld3 h1 h2 h4 h5 hi hi' hi1 hi2 hn3
                  go_wp2_with (first
                    | (go_at_call 49; go_must (with_reducible refine HRD.out.mono ?_); rintro e w1 ⟨rfl, h1⟩; have h2 := h1.put 0 (.int .u64 0) (sg' := 0) (ld' := 0) (er' := 0) rfl; obtain ⟨⟨a10, a11, a12, a13, a14⟩, ⟨x10, x11⟩, s1, f1, g1⟩ := h1.cells; obtain ⟨r10, r11, r12, r13, r14⟩ := h1.rcells; rw [ST1] at s1; obtain ⟨⟨a20, a21, a22, a23, a24⟩, ⟨x20, x21⟩, s2, f2, g2⟩ := h2.cells; obtain ⟨r20, r21, r22, r23, r24⟩ := h2.rcells; rw [ST1] at s2; have H2 := Lib.hid h2; clear h1 h2)
                    | (go_at_call 46; go_must (with_reducible refine (HPW.out _).mono ?_); rintro e wz ⟨rfl, rfl⟩)
                    | (go_at_call 50; go_must (have hwd := HWD.out _ H2.out; rw [World.size_setCell] at hwd; with_reducible refine (HLY.out _ (H2.out.step ((Frm.Turn.refl [] _).alloc _)) _ hwd).mono ?_); rintro e w3 ⟨rfl, h3⟩; have h4 := h3.put 3 (.int .u64 bw) (sg' := 0) (ld' := bw) (er' := 0) rfl; obtain ⟨⟨a30, a31, a32, a33, a34⟩, ⟨x30, x31⟩, s3, f3, g3⟩ := h3.cells; obtain ⟨r30, r31, r32, r33, r34⟩ := h3.rcells; rw [ST2] at s3; obtain ⟨⟨a40, a41, a42, a43, a44⟩, ⟨x40, x41⟩, s4, f4, g4⟩ := h4.cells; obtain ⟨r40, r41, r42, r43, r44⟩ := h4.rcells; rw [ST2] at s4; have H4 := Lib.hid h4; clear h3 h4)
                    | (go_at_call 31; go_must (with_reducible refine (HSW.out _ H4.out).mono ?_); rintro e w5 ⟨rfl, h5⟩; obtain ⟨⟨a50, a51, a52, a53, a54⟩, ⟨x50, x51⟩, s5, f5, g5⟩ := h5.cells; obtain ⟨r50, r51, r52, r53, r54⟩ := h5.rcells; rw [ST3] at s5; have H5 := Lib.hid h5; clear h5)
                    | (go_at_call 51; go_must (with_reducible refine (HFR.out _ H5.out).mono ?_); rintro e w8 ⟨rfl, h8⟩; obtain ⟨⟨a80, a81, a82, a83, a84⟩, ⟨x80, x81⟩, s8, f8, g8⟩ := h8.cells; obtain ⟨r80, r81, r82, r83, r84⟩ := h8.rcells; rw [ST4] at s8; have h9 := h8.put 3 (.int .u64 0) (sg' := 0) (ld' := 0) (er' := 0) rfl; obtain ⟨⟨a90, a91, a92, a93, a94⟩, ⟨x90, x91⟩, s9, f9, g9⟩ := h9.cells; obtain ⟨r90, r91, r92, r93, r94⟩ := h9.rcells; rw [ST4] at s9; have H9 := Lib.hid h9; clear h9; have H8 := Lib.hid h8; clear h8))
                  refine ⟨⟨i + 4, 0, by omega, OK8.out.1, OK8.out.2.1, OK8.out.2.2, H9.out⟩, ?_⟩
                  rw [H9.out.cnt, HS.out.cnt, plc_at (by omega), plc_at (by omega)]
                  omega
          · rw [if_neg h3] at hn1
            have OK4 : Hid (SegOk tok L r s (i + 1 + 1) 0 0 be) := Lib.hid (.inr ⟨by omega, by rw [hn1]; exact hsl1, by rw [hn1]; exact hld1, .inr ⟨by rw [hn1], by rw [hn1], h3, by rw [hn1]; exact ((clAt_way (L := L) (r := r) HR.out.tk (i + 1)).own (by omega)).1⟩⟩)
            have HLY := Lib.hid hly
            clear hly hbw hbe hs1 hsl1 hld1 h1 h2 hi hi' hi1 hn1
            go_wp2_with (first
              | (go_at_call 49; go_must (with_reducible refine HRD.out.mono ?_); rintro e w1 ⟨rfl, h1⟩; have h2 := h1.put 0 (.int .u64 0) (sg' := 0) (ld' := 0) (er' := 0) rfl; obtain ⟨⟨a10, a11, a12, a13, a14⟩, ⟨x10, x11⟩, s1, f1, g1⟩ := h1.cells; obtain ⟨r10, r11, r12, r13, r14⟩ := h1.rcells; rw [ST1] at s1; obtain ⟨⟨a20, a21, a22, a23, a24⟩, ⟨x20, x21⟩, s2, f2, g2⟩ := h2.cells; obtain ⟨r20, r21, r22, r23, r24⟩ := h2.rcells; rw [ST1] at s2; have H2 := Lib.hid h2; clear h1 h2)
              | (go_at_call 46; go_must (with_reducible refine (HPW.out _).mono ?_); rintro e wz ⟨rfl, rfl⟩)
              | (go_at_call 50; go_must (have hwd := HWD.out _ H2.out; rw [World.size_setCell] at hwd; with_reducible refine (HLY.out _ (H2.out.step ((Frm.Turn.refl [] _).alloc _)) _ hwd).mono ?_); rintro e w3 ⟨rfl, h3⟩; have h4 := h3.put 4 (.int .i64 be) (sg' := 0) (ld' := 0) (er' := be) rfl; obtain ⟨⟨a30, a31, a32, a33, a34⟩, ⟨x30, x31⟩, s3, f3, g3⟩ := h3.cells; obtain ⟨r30, r31, r32, r33, r34⟩ := h3.rcells; rw [ST2] at s3; obtain ⟨⟨a40, a41, a42, a43, a44⟩, ⟨x40, x41⟩, s4, f4, g4⟩ := h4.cells; obtain ⟨r40, r41, r42, r43, r44⟩ := h4.rcells; rw [ST2] at s4; have H4 := Lib.hid h4; clear h3 h4))
            obtain ⟨hld, hpost⟩ := H4.out.out (i0 := i0) (by omega) (OK4.out)
            refine bodyPost_ret (by simp [results, Tryz.results30, asAddr, hld, Act.put, gotCells]) rfl hpost
      · rw [if_neg hw] at hn
        have OK2 : Hid (SegOk tok L r s (i + 1) aw 0 0) := Lib.hid (.inr ⟨by omega, by rw [hn]; exact hsl, by rw [hn]; exact hld0, .inl ⟨by rw [hn], by rw [hn], rfl⟩⟩)
        have HRD := Lib.hid hrd
        clear hrd haw hi hs hsl hld0 hgs h1 hi' hn
        go_wp2_with (first
          | (go_at_call 49; go_must (with_reducible refine HRD.out.mono ?_); rintro e w1 ⟨rfl, h1⟩; have h2 := h1.put 0 (.int .u64 aw) (sg' := aw) (ld' := 0) (er' := 0) rfl; obtain ⟨⟨a10, a11, a12, a13, a14⟩, ⟨x10, x11⟩, s1, f1, g1⟩ := h1.cells; obtain ⟨r10, r11, r12, r13, r14⟩ := h1.rcells; rw [ST1] at s1; obtain ⟨⟨a20, a21, a22, a23, a24⟩, ⟨x20, x21⟩, s2, f2, g2⟩ := h2.cells; obtain ⟨r20, r21, r22, r23, r24⟩ := h2.rcells; rw [ST1] at s2; have H2 := Lib.hid h2; clear h1 h2))
        obtain ⟨hld, hpost⟩ := H2.out.out (i0 := i0) (by omega) (OK2.out)
        refine bodyPost_ret (by simp [results, Tryz.results30, asAddr, hld, Act.put, gotCells]) rfl hpost
end Evn
end Go.Proofs.YtolcpfidmpoipaaGreat
