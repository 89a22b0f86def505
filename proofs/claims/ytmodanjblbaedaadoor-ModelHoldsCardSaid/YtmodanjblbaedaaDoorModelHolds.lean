/- Law ModelHolds, walked. -/
import Derived.Test.YtmodanjblbaedaaDoorModelFacts
set_option linter.unusedVariables false
set_option linter.unusedSimpArgs false
namespace Go.Proofs.YtmodanjblbaedaaDoor
namespace Mdl
open Go.RowKit Go.Maps Go.Shelf Go.Lib Go.Sort

/-- A model since a world: of what was there then its footprint alone may have turned, what it has got besides is new. -/
structure Since (wI : World) (b : Nat) (F0 : List Nat) (wr : World) (m : Mo) : Prop where
  at_ : ∃ F, MAt wr b m F ∧ ∀ x, x ∈ F → x ∈ F0 ∨ wI.heap.size ≤ x
  turn : Frm.Turn F0 wI wr
theorem Since.start {w : World} {b : Nat} {m : Mo} {F : List Nat} (h : MAt w b m F) : Since w b F w m := ⟨⟨F, h, fun x hx => Or.inl hx⟩, Frm.Turn.refl _ _⟩
theorem Since.apply {wI wr wa w1 : World} {b : Nat} {F0 F F1 : List Nat} {mm : Mo} (hF : ∀ x, x ∈ F → x ∈ F0 ∨ wI.heap.size ≤ x) (hT : Frm.Turn F0 wI wr) (hTa : Frm.Turn [] wr wa) (hM1 : MAt w1 b mm F1) (hT1 : Frm.Turn F wa w1) (hN1 : ∀ k, k ∈ F1 → k ∈ F ∨ wa.heap.size ≤ k) {w2 : World} (hT2 : Frm.Turn [] w1 w2) : Since wI b F0 w2 mm := by
  have s1 := hT.size
  have s2 := hTa.size
  refine ⟨⟨F1, hM1.step hT2, fun x hx => ?_⟩, ((hT.trans hTa (by simp)).trans hT1 (fun k hk => hF k hk)).trans hT2 (by simp)⟩
  rcases hN1 x hx with h | h
  · exact hF x h
  · right; omega

theorem Since.inner {w3 wo wI wr : World} {b : Nat} {F0 F : List Nat} {m : Mo} (hT : Frm.Turn F0 w3 wo) (hF : ∀ x, x ∈ F → x ∈ F0 ∨ w3.heap.size ≤ x) (hTa : Frm.Turn [] wo wI) (h : Since wI b F wr m) : Since w3 b F0 wr m := by
  obtain ⟨⟨F', hM, hN⟩, hT2⟩ := h
  have s1 := hT.size
  have s2 := hTa.size
  refine ⟨⟨F', hM, fun x hx => ?_⟩, (hT.trans hTa (by simp)).trans hT2 hF⟩
  rcases hN x hx with h | h
  · exact hF x h
  · right; omega
def LawEnd (w : World) (e : Ending) (w' : World) : Prop := e = .returned (.bool true) ∧ Frm.Turn [] w w'
def cSame (c : Int) : Prop := c = 3 ∨ c = 4 ∨ c = 8 ∨ c = 9 ∨ c = 13

set_option maxRecDepth 100000 in
set_option maxHeartbeats 8000000 in
theorem holds_any {w : World} (hK : Ops.Kn w) {a0 : Option Addr} {len cap : Nat} (h : Steps w a0 len) (hl : len ≤ 9223372036854775807) :
    Calls Tryd.prog 4 #[.slice a0 len cap] w (LawEnd w) := by
  have HK := Lib.hid hK
  have H := Lib.hid h
  clear hK h
  go_enter Tryd.func4, Tryd.ntmps4
  go_wp2_with fail
  refine (first_any HK.out).mono ?_
  rintro e w1 ⟨rfl, hT⟩
  have HT1 := Lib.hid hT
  clear hT
  go_wp2_with fail
  refine (great_any (H.out.step HT1.out) hl).mono ?_
  rintro e w2 ⟨g, rfl, hT⟩
  have HT2 := Lib.hid (HT1.out.trans hT (by simp))
  clear hT
  cases g with
  | true =>
    go_wp2_with fail
    go_ret
    exact ⟨rfl, HT2.out⟩
  | false =>
    go_wp2_with fail
    refine (new_any _).mono ?_
    rintro e w3 ⟨rfl, hM, hT⟩
    have HM3 := Lib.hid hM
    have HT3 := Lib.hid (HT2.out.trans hT (by simp))
    have HS2 : Hid (w.heap.size ≤ w2.heap.size) := Lib.hid HT2.out.size
    clear hM hT
    go_wp2_with fail
    go_loopw [5, 6, 7, 8, 16, 24, 25] (fun _ _ _ _ i _ _ wr => ∃ k : Nat, k ≤ len ∧ i = .int .i64 k ∧ ∃ m, Since w3 w2.heap.size [w2.heap.size] wr m) (fun _ _ _ _ i _ _ _ => len - (intOf i).toNat)
    case atStart => exact ⟨0, Nat.zero_le _, rfl, _, Since.start HM3.out⟩
    case round =>
      obtain ⟨k, hk, rfl, m, hS⟩ := hrel
      obtain ⟨wo, rfl⟩ : ∃ wo : World, wo = wr := ⟨_, rfl⟩
      have HS := Lib.hid hS
      have HTo : Hid (Frm.Turn [] w wo) := Lib.hid (HT3.out.trans hS.turn (fun x hx => by simp at hx; subst hx; exact Or.inr HS2.out))
      clear hS
      by_cases hlt : k < len
      · obtain ⟨bl, off, rfl, s, ok, d0, d1, d2, d3, d4, d5, d6⟩ := steps_one (H.out.step HTo.out) hlt
        have hbl := cell_lt d0
        obtain ⟨n0, n1⟩ := ok.n
        have m0 : 0 ≤ s.n % 300 := by omega
        have m1 : s.n % 300 ≤ 299 := by omega
        obtain ⟨F, hM, hN⟩ := HS.out.at_
        have HNo := Lib.hid hN
        have HMo := Lib.hid hM
        clear hM hN
        go_wp2_with fail
        generalize hWI : World.alloc wo _ = wI
        have HB : Hid (wI.heap[wo.heap.size]? = some (.cells s.cells.toArray 37 (0, 0))) := Lib.hid (by rw [← hWI]; exact World.alloc_heap_new wo _)
        have HTI : Hid (Frm.Turn [] wo wI) := Lib.hid (by rw [← hWI]; exact (Frm.Turn.refl _ _).alloc _)
        have HSt : Hid (Since wI w2.heap.size F wI m) := Lib.hid (Since.start (HMo.out.step HTI.out))
        have HsF : Hid (wo.heap.size ∉ F) := Lib.hid (fun hm => by have := HMo.out.lt _ hm; omega)
        clear hWI d0 d1 d2 d3 d4 d5 d6
        obtain ⟨q, hq⟩ : ∃ q, q = s.n % 300 := ⟨_, rfl⟩
        rw [← hq] at m0 m1 ⊢
        clear hq n0 n1
        go_loopw [6, 7, 8, 25] (fun _ _ _ i wr => ∃ j : Nat, (j : Int) ≤ 1 + q ∧ i = .int .i64 j ∧ ∃ m, Since wI w2.heap.size F wr m) (fun _ _ _ i _ => (1 + q - intOf i).toNat)
        case atStart => exact ⟨0, by omega, rfl, _, HSt.out⟩
        case round =>
          obtain ⟨j, hj, rfl, m, hS⟩ := hrel
          have HSi := Lib.hid hS
          clear hS
          by_cases hlt2 : (j : Int) < 1 + q
          · obtain ⟨F', hM, hN⟩ := HSi.out.at_
            have HMi := Lib.hid hM
            have HNi := Lib.hid hN
            have hbk := HSi.out.turn.keep HB.out HsF.out
            have hsl : wo.heap.size < wr.heap.size := (Array.getElem?_eq_some_iff.1 hbk).1
            have HTw : Hid (Frm.Turn [] w wr) := Lib.hid ((HTo.out.trans HTI.out (by simp)).trans HSi.out.turn (fun x hx => by
              rcases HNo.out x hx with h | h
              · simp at h; subst h; exact Or.inr HS2.out
              · right; have := HT3.out.size; omega))
            have cc : ∀ j v, s.cells[j]? = some v → wr.cell? ⟨wo.heap.size, j, none⟩ = some v := fun j v hv => by
              rw [Frm.cell_row wr _ _ _ _ _ hbk]; simpa using hv
            have HC := Lib.hid cc
            have HSF : Hid (wo.heap.size ∉ F') := Lib.hid (fun hm => by
              rcases HNi.out _ hm with h | h
              · exact HsF.out h
              · have := HTI.out.size; have := (Array.getElem?_eq_some_iff.1 HB.out).1; omega)
            have ml := size_le HMi.out.choose_spec.choose_spec.choose_spec.2.ok
            have near := app_near m s.o.c s.o.k s.o.a s.o.b
            have good := app_good HMi.out.choose_spec.choose_spec.choose_spec.2.ok s.o.c s.o.k s.o.a s.o.b
            have HAsk : Hid (cSame s.o.c → (appOp m s.o.c s.o.k s.o.a s.o.b).1 = m) := Lib.hid (fun h => app_asks m _ _ _ _ h)
            have HOKm : Hid (MOk m) := Lib.hid HMi.out.choose_spec.choose_spec.choose_spec.2.ok
            have HAp : Hid (∀ W, Frm.Turn [] wr W → Calls Tryd.prog 11 #[.pointer (some ⟨w2.heap.size, 0, none⟩), .agg #[.int .i64 s.o.c, .int .i64 s.o.k, .int .i64 s.o.a, .int .i64 s.o.b]] W (MEnd W w2.heap.size F' (appOp m s.o.c s.o.k s.o.a s.o.b))) := Lib.hid (fun W hT => apply_any (HMi.out.step hT) (HK.out.turn (HTw.out.trans hT (by simp))) _ _ _ _)
            generalize appOp m s.o.c s.o.k s.o.a s.o.b = z at near good HAsk HAp
            obtain ⟨mm, x, y⟩ := z
            have HGr : Hid (Ops.respT.rightB x y 0 0 = true) := Lib.hid (good_right good)
            have x5 : (x == 5) = false := by have := good.kind; simp only at this; simp; omega
            simp only at near
            have HSz := Lib.hid (fun W (hT : Frm.Turn [] wr W) => size_any (HMi.out.step hT))
            generalize m.size = n0 at near ml HSz
            obtain ⟨n1, hn1⟩ : ∃ n1, n1 = mm.size := ⟨_, rfl⟩
            rw [← hn1] at near
            obtain ⟨near1, near2⟩ := near
            have HN1 := Lib.hid hn1
            have near3 : ¬ ((n1 : Int) - (n0 : Int) > 1) := by omega
            have near4 : ¬ ((n0 : Int) - (n1 : Int) > 1) := by omega
            clear hM hN hbk cc good hn1
            have HRR : Hid (∀ W, Calls Tryd.prog 19 #[.agg #[.int .i64 x, .int .i64 y]] W fun e w' => e = .returned (.bool true) ∧ Frm.Turn [] W w') := Lib.hid (fun W => by have := Ops.refRightResp_any x y W; rw [HGr.out] at this; exact this)
            go_wp2_with fail
            refine (clone_any HMi.out).mono ?_
            rintro e wc ⟨b1, F1, rfl, hM1, hN1, hT⟩
            have HM1 := Lib.hid hM1
            have HF1 := Lib.hid hN1
            have HTc := Lib.hid hT
            have HTm := Lib.hid (Frm.Turn.refl [] wc)
            clear hM1 hN1 hT
            go_wp2_with fail
            refine (HSz.out _ HTc.out).mono ?_
            rintro e wd ⟨rfl, hT⟩
            have HTc := Lib.hid (HTc.out.trans hT (by simp))
            have HTm := Lib.hid (HTm.out.trans hT (by simp))
            clear hT
            have d3 := HTc.out.cell (HC.out 3 _ rfl) (by simp)
            have d4 := HTc.out.cell (HC.out 4 _ rfl) (by simp)
            have d5 := HTc.out.cell (HC.out 5 _ rfl) (by simp)
            have d6 := HTc.out.cell (HC.out 6 _ rfl) (by simp)
            go_wp2_with fail
            refine (HAp.out _ HTc.out).mono ?_
            rintro e we ⟨rfl, F2, hM2, hT2, hN2⟩
            have HM2 := Lib.hid hM2
            have HT2' := Lib.hid hT2
            have HN2' := Lib.hid hN2
            have HE3 : Hid (we.cell? ⟨wo.heap.size, 3, none⟩ = some (.int .i64 s.o.c)) := Lib.hid (hT2.cell d3 HSF.out)
            have hsw : wo.heap.size < we.heap.size := cell_lt HE3.out
            clear d3 d4 d5 d6 hM2 hT2 hN2
            go_wp2_with fail
            have HTd := Lib.hid ((Frm.Turn.refl [] we).alloc (.cells #[.int .i64 x, .int .i64 y] 40))
            have HRb : Hid ((we.alloc (.cells #[.int .i64 x, .int .i64 y] 40)).heap[we.heap.size]? = some (.cells #[.int .i64 x, .int .i64 y] 40 (0, 0))) := Lib.hid (World.alloc_heap_new we _)
            refine (HRR.out _).mono ?_
            rintro e wf ⟨rfl, hT⟩
            obtain ⟨⟨r0, r1⟩, _⟩ := blk2 (hT.keep HRb.out (by simp))
            have HTd := Lib.hid (HTd.out.trans hT (by simp))
            have HSz2 := Lib.hid (fun W (hT : Frm.Turn [] we W) => size_any (HM2.out.step hT))
            rw [← HN1.out] at HSz2
            clear hT
            go_wp2_with fail
            refine (HSz2.out _ HTd.out).mono ?_
            rintro e wg ⟨rfl, hT⟩
            have HTd := Lib.hid (HTd.out.trans hT (by simp))
            clear hT r0 r1
            go_wp2_with fail
            refine (HSz2.out _ HTd.out).mono ?_
            rintro e wh ⟨rfl, hT⟩
            have HTd := Lib.hid (HTd.out.trans hT (by simp))
            clear hT
            have e3 := HTd.out.cell HE3.out (by simp)
            obtain ⟨c, hcc⟩ : ∃ c, c = s.o.c := ⟨_, rfl⟩
            rw [← hcc] at e3
            have HAsk2 : Hid (cSame c → mm = m) := Lib.hid (fun h => HAsk.out (by rw [← hcc]; exact h))
            clear hcc
            have hc : c = 3 ∨ c = 4 ∨ c = 8 ∨ c = 9 ∨ c = 13 ∨ ((c == 3) = false ∧ (c == 4) = false ∧ (c == 8) = false ∧ (c == 9) = false ∧ (c == 13) = false) := by
              by_cases h1 : c = 3
              · exact Or.inl h1
              · simp [h1]; omega
            rcases hc with hc | hc | hc | hc | hc | ⟨q1, q2, q3, q4, q5⟩
            case inr.inr.inr.inr.inr =>
              go_wp2_with fail
              go_roundw
              case rel => exact ⟨j + 1, by omega, by go_num, mm, Since.apply HNi.out HSi.out.turn HTc.out HM2.out HT2'.out HN2'.out HTd.out⟩
              case measure => simp [intOf]; omega
            all_goals
              have hmm : mm = m := HAsk2.out (by rw [hc]; unfold cSame; omega)
              have HSa : Hid (∀ W, Frm.Turn [] we W → Calls Tryd.prog 13 #[.pointer (some ⟨w2.heap.size, 0, none⟩), .pointer (some ⟨b1, 0, none⟩)] W fun e w' => e = .returned (.bool true) ∧ Frm.Turn [] W w') := Lib.hid (fun W hT => by
                have hM1' : MAt we b1 m F1 := (HM1.out.step HTm.out).turn HT2'.out (fun k hk hm => by have h1 := HF1.out k hk; have h2 := HMi.out.lt k hm; omega)
                have := same_any (HM2.out.step hT) (hM1'.step hT)
                rw [hmm, (sameM_iff HOKm.out HOKm.out).2 rfl] at this
                exact this)
              subst hc
              clear hmm
              go_wp2_with fail
              refine (HSa.out _ HTd.out).mono ?_
              rintro e wi ⟨rfl, hT⟩
              have HTd := Lib.hid (HTd.out.trans hT (by simp))
              clear hT
              go_wp2_with fail
              go_roundw
              case rel => exact ⟨j + 1, by omega, by go_num, mm, Since.apply HNi.out HSi.out.turn HTc.out HM2.out HT2'.out HN2'.out HTd.out⟩
              case measure => simp [intOf]; omega
          · go_wp2_with fail
            go_roundw
            case rel => exact ⟨k + 1, by omega, by go_num, m, HSi.out.inner HS.out.turn HNo.out HTI.out⟩
            case measure => simp [intOf]; omega
      · obtain rfl : k = len := by omega
        go_wp2_with fail
        go_ret
        exact ⟨rfl, HTo.out⟩
end Mdl
end Go.Proofs.YtmodanjblbaedaaDoor
