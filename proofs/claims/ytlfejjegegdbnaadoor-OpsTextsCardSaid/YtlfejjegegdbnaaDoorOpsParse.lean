/- Parse, ParseResp: contracts of the calls. -/
import Derived.Test.YtlfejjegegdbnaaDoorOpsFirst
set_option linter.unusedVariables false
set_option linter.unusedSimpArgs false
namespace Go.Proofs.YtlfejjegegdbnaaDoor
namespace Ops
open Go.RowKit Go.Lib

/-- What Parse, and what ParseResp, hands back. -/
def opPV : Option (Nat × Int × Int × Int) → Value
  | some (c, k, a, b) => .tuple #[.agg #[.int .i64 c, .int .i64 k, .int .i64 a, .int .i64 b], .bool true]
  | none => .tuple #[.agg #[.int .i64 0, .int .i64 0, .int .i64 0, .int .i64 0], .bool false]
def respPV : Option (Nat × Int × Int × Int) → Value
  | some (k, v, _, _) => .tuple #[.agg #[.int .i64 k, .int .i64 v], .bool true]
  | none => .tuple #[.agg #[.int .i64 0, .int .i64 0], .bool false]

theorem parse_none {T : Tab} {s : List UInt8} (h : T.find (cut s [32]).1 = none) : T.parse s = none := by unfold Tab.parse; rw [h]
theorem parse_found {T : Tab} {s : List UInt8} {c : Nat} (h : T.find (cut s [32]).1 = some c) :
    T.parse s = if T.text c (T.y0 c (cut s [32]).2.1) (T.y1 c (cut s [32]).2.1) (T.y2 c (cut s [32]).2.1) = s then some (c, T.y0 c (cut s [32]).2.1, T.y1 c (cut s [32]).2.1, T.y2 c (cut s [32]).2.1) else none := by unfold Tab.parse; rw [h]
theorem blk1 {W : World} {g : Nat} {x0 : Value} {t : TypeId} (h : W.heap[g]? = some (.cells #[x0] t (0, 0))) : W.cell? ⟨g, 0, none⟩ = some x0 := by rw [Frm.cell_row _ _ _ _ _ _ h]; rfl
theorem respY (c : Nat) (s : List UInt8) (h : c < 6) : respT.y1 c s = 0 ∧ respT.y2 c s = 0 := by
  have := most_resp c h
  unfold Tab.y1 Tab.y2
  exact ⟨rdV_zero _ (by omega) _, rdV_zero _ (by omega) _⟩

set_option maxRecDepth 100000 in
set_option maxHeartbeats 4000000 in
theorem parse_any (l : List UInt8) (w : World) (hk : Kn w) (hl : l.length ≤ 1000000000) :
    Calls Tryd.prog 20 #[.string ⟨l.toArray⟩] w fun e w' => e = .returned (opPV (opT.parse l)) ∧ Frm.Turn [] w w' := by
  have hT0 : Frm.Turn [] w (w.alloc (.cells #[.int .i64 0, .int .i64 0, .int .i64 0, .int .i64 0] 23)) := (Frm.Turn.refl [] w).alloc _
  have HT0 := Lib.hid hT0
  have HB0 : Hid ((w.alloc (.cells #[.int .i64 0, .int .i64 0, .int .i64 0, .int .i64 0] 23)).heap[w.heap.size]? = some (.cells #[.int .i64 0, .int .i64 0, .int .i64 0, .int .i64 0] 23 (0, 0))) := Lib.hid (World.alloc_heap_new w _)
  have HC := Lib.hid (cut_list l _ (hk.turn hT0) hl)
  have HK := Lib.hid hk
  have HL := Lib.hid hl
  have hcl := cut_len l
  have HR := Lib.hid (fun nm x0 x1 x2 W hkW => fread_any nm x0 x1 x2 (cut l [32]).2.1 W hkW (by omega))
  clear hk hl hT0 hcl
  have HFS := Lib.hid (fun g W hkW hn => closeO_first g (cut l [32]).1 W hkW hn)
  cases hf : opT.find (cut l [32]).1 with
  | none =>
    have HX := Lib.hid (parse_none hf)
    rw [hf] at HFS
    clear hf
    simp only [firstV] at HFS
    go_enter Tryd.func20, Tryd.ntmps20
    go_wp2_with (first
      | (go_at_call 30; (with_reducible refine (HC.out).mono ?_); rintro e w1 ⟨rfl, hT1⟩; have HT1 := Lib.hid (HT0.out.trans hT1 (by simp)); have HB1 := Lib.hid (hT1.keep HB0.out (by simp)); clear hT1; have HTa := Lib.hid (HT1.out.alloc (.cells #[.string ⟨(cut l [32]).1.toArray⟩] 9)); have HBa := Lib.hid (((Frm.Turn.refl [] w1).alloc (.cells #[.string ⟨(cut l [32]).1.toArray⟩] 9)).keep HB1.out (by simp)); have HN := Lib.hid (HFS.out w1.heap.size _ (HK.out.turn HTa.out) (blk1 (World.alloc_heap_new w1 _))))
      | (go_at_call 31; (with_reducible refine (HN.out).mono ?_); rintro e w2 ⟨rfl, hT2⟩; obtain ⟨⟨e0, e1, e2, e3⟩, f0, f1, f2, f3⟩ := blk4 (hT2.keep HBa.out (by simp)); have HTe := Lib.hid (HTa.out.trans hT2 (by simp)); clear hT2))
    rw [HX.out]
    exact bodyPost_ret (v := .tuple #[.agg #[.int .i64 0, .int .i64 0, .int .i64 0, .int .i64 0], .bool false]) (by simp [results, Tryd.results20, go_sem, e0, e1, e2, e3]) rfl ⟨rfl, ((((HTe.out.setCell (p := ⟨w.heap.size, 0, none⟩) (.inr (Nat.le_refl _)) _).setCell (p := ⟨w.heap.size, 1, none⟩) (.inr (Nat.le_refl _)) _).setCell (p := ⟨w.heap.size, 2, none⟩) (.inr (Nat.le_refl _)) _).setCell (p := ⟨w.heap.size, 3, none⟩) (.inr (Nat.le_refl _)) _)⟩
  | some c =>
    have hfs := find_some _ _ _ _ hf
    have hc : c < 15 := Nat.lt_of_lt_of_eq hfs.2.1 (by rw [Nat.zero_add]; rfl)
    have t3 : (c : Int) < 15 := by omega
    have HPF := Lib.hid (parse_found hf)
    rw [hf] at HFS
    clear hf hfs
    simp only [firstV] at HFS
    obtain ⟨y0, hy0⟩ : ∃ y, y = opT.y0 c (cut l [32]).2.1 := ⟨_, rfl⟩
    obtain ⟨y1, hy1⟩ : ∃ y, y = opT.y1 c (cut l [32]).2.1 := ⟨_, rfl⟩
    obtain ⟨y2, hy2⟩ : ∃ y, y = opT.y2 c (cut l [32]).2.1 := ⟨_, rfl⟩
    have HRc : Hid (∀ W, Kn W → Calls Tryd.prog 33 #[.agg #[.string ⟨(opT.nm c).toArray⟩, .int .i64 (opT.m0 c), .int .i64 (opT.m1 c), .int .i64 (opT.m2 c)], .string ⟨(cut l [32]).2.1.toArray⟩] W fun e w' => e = .returned (.agg #[.int .i64 y0, .int .i64 y1, .int .i64 y2]) ∧ Frm.Turn [] W w') := Lib.hid (by rw [hy0, hy1, hy2]; exact fun W hkW => HR.out _ _ _ _ W hkW)
    rw [← hy0, ← hy1, ← hy2] at HPF


    have HTX := Lib.hid (fun W hkW => otext_any c y0 y1 y2 W hkW)
    have HCc := Lib.hid hc
    have i0 : ∀ w, (Instr.index 49 (.agg #[.int .i64 y0, .int .i64 y1, .int .i64 y2]) (.int .i64 0)).run Tryd.prog w = .ok (.int .i64 y0) w := fun _ => by kernel_rfl
    clear HR HL hy0 hy1 hy2 hc
    by_cases he : opT.text c y0 y1 y2 = l
    · have HX : Hid (opT.parse l = some (c, y0, y1, y2)) := Lib.hid (by rw [HPF.out, if_pos he])
      rw [he] at HTX
      clear he HPF
      go_enter Tryd.func20, Tryd.ntmps20
      go_wp2_with (first
        | (go_at_call 30; (with_reducible refine (HC.out).mono ?_); rintro e w1 ⟨rfl, hT1⟩; have HT1 := Lib.hid (HT0.out.trans hT1 (by simp)); have HB1 := Lib.hid (hT1.keep HB0.out (by simp)); clear hT1; have HTa := Lib.hid (HT1.out.alloc (.cells #[.string ⟨(cut l [32]).1.toArray⟩] 9)); have HBa := Lib.hid (((Frm.Turn.refl [] w1).alloc (.cells #[.string ⟨(cut l [32]).1.toArray⟩] 9)).keep HB1.out (by simp)); have HN := Lib.hid (HFS.out w1.heap.size _ (HK.out.turn HTa.out) (blk1 (World.alloc_heap_new w1 _))))
        | (go_at_call 31; (with_reducible refine (HN.out).mono ?_); rintro e w2 ⟨rfl, hT2⟩; have HB2 := Lib.hid (hT2.keep HBa.out (by simp)); have HT2 := Lib.hid (HTa.out.trans hT2 (by simp)); clear hT2; obtain ⟨h0, h1, h2, h3⟩ := (HK.out.turn HT2.out).ops c HCc.out; rw [show 4 * c = c * 4 from by omega] at h0 h1 h2 h3; have HR2 := Lib.hid (HRc.out w2 (HK.out.turn HT2.out)))
        | (go_at_call 33; (with_reducible refine (HR2.out).mono ?_); rintro e w3 ⟨rfl, hT3⟩; have HB3 := Lib.hid (hT3.keep HB2.out (by simp)); have HT3 := Lib.hid (HT2.out.trans hT3 (by simp)); clear hT3; have HX3 := Lib.hid (HTX.out _ (HK.out.turn ((HT3.out.alloc (.cells #[.int .i64 y0, .int .i64 y1, .int .i64 y2] 49)).alloc (.cells #[.int .i64 c, .int .i64 y0, .int .i64 y1, .int .i64 y2] 23)))))
        | (go_at_call 24; (with_reducible refine (HX3.out).mono ?_); rintro e w4 ⟨rfl, hT4⟩; obtain ⟨⟨e0, e1, e2, e3⟩, f0, f1, f2, f3⟩ := blk4 (hT4.keep ((((Frm.Turn.refl [] w3).alloc (.cells #[.int .i64 y0, .int .i64 y1, .int .i64 y2] 49)).alloc (.cells #[.int .i64 c, .int .i64 y0, .int .i64 y1, .int .i64 y2] 23)).keep HB3.out (by simp)) (by simp)); obtain ⟨⟨g0, g1, g2, g3⟩, _⟩ := blk4 (hT4.keep (heap_last w3 (.cells #[.int .i64 y0, .int .i64 y1, .int .i64 y2] 49) (.cells #[.int .i64 c, .int .i64 y0, .int .i64 y1, .int .i64 y2] 23)) (by simp)); have HT4 := Lib.hid (((HT3.out.alloc (.cells #[.int .i64 y0, .int .i64 y1, .int .i64 y2] 49)).alloc (.cells #[.int .i64 c, .int .i64 y0, .int .i64 y1, .int .i64 y2] 23)).trans hT4 (by simp)); clear hT4))
      rw [HX.out]
      exact bodyPost_ret (v := .tuple #[.agg #[.int .i64 c, .int .i64 y0, .int .i64 y1, .int .i64 y2], .bool true]) (by simp [results, Tryd.results20, go_sem, e0, e1, e2, e3]) rfl ⟨rfl, ((((HT4.out.setCell (p := ⟨w.heap.size, 0, none⟩) (.inr (Nat.le_refl _)) _).setCell (p := ⟨w.heap.size, 1, none⟩) (.inr (Nat.le_refl _)) _).setCell (p := ⟨w.heap.size, 2, none⟩) (.inr (Nat.le_refl _)) _).setCell (p := ⟨w.heap.size, 3, none⟩) (.inr (Nat.le_refl _)) _)⟩
    · have HX : Hid (opT.parse l = none) := Lib.hid (by rw [HPF.out, if_neg he])
      have b1 : (opT.text c y0 y1 y2 == l) = false := by rw [beq_eq_false_iff_ne]; exact he
      have b2 : (opT.text c y0 y1 y2 != l) = true := by rw [bne_iff_ne]; exact he
      clear he HPF
      go_enter Tryd.func20, Tryd.ntmps20
      go_wp2_with (first
        | (go_at_call 30; (with_reducible refine (HC.out).mono ?_); rintro e w1 ⟨rfl, hT1⟩; have HT1 := Lib.hid (HT0.out.trans hT1 (by simp)); have HB1 := Lib.hid (hT1.keep HB0.out (by simp)); clear hT1; have HTa := Lib.hid (HT1.out.alloc (.cells #[.string ⟨(cut l [32]).1.toArray⟩] 9)); have HBa := Lib.hid (((Frm.Turn.refl [] w1).alloc (.cells #[.string ⟨(cut l [32]).1.toArray⟩] 9)).keep HB1.out (by simp)); have HN := Lib.hid (HFS.out w1.heap.size _ (HK.out.turn HTa.out) (blk1 (World.alloc_heap_new w1 _))))
        | (go_at_call 31; (with_reducible refine (HN.out).mono ?_); rintro e w2 ⟨rfl, hT2⟩; have HB2 := Lib.hid (hT2.keep HBa.out (by simp)); have HT2 := Lib.hid (HTa.out.trans hT2 (by simp)); clear hT2; obtain ⟨h0, h1, h2, h3⟩ := (HK.out.turn HT2.out).ops c HCc.out; rw [show 4 * c = c * 4 from by omega] at h0 h1 h2 h3; have HR2 := Lib.hid (HRc.out w2 (HK.out.turn HT2.out)))
        | (go_at_call 33; (with_reducible refine (HR2.out).mono ?_); rintro e w3 ⟨rfl, hT3⟩; have HB3 := Lib.hid (hT3.keep HB2.out (by simp)); have HT3 := Lib.hid (HT2.out.trans hT3 (by simp)); clear hT3; have HX3 := Lib.hid (HTX.out _ (HK.out.turn ((HT3.out.alloc (.cells #[.int .i64 y0, .int .i64 y1, .int .i64 y2] 49)).alloc (.cells #[.int .i64 c, .int .i64 y0, .int .i64 y1, .int .i64 y2] 23)))))
        | (go_at_call 24; (with_reducible refine (HX3.out).mono ?_); rintro e w4 ⟨rfl, hT4⟩; obtain ⟨⟨e0, e1, e2, e3⟩, f0, f1, f2, f3⟩ := blk4 (hT4.keep ((((Frm.Turn.refl [] w3).alloc (.cells #[.int .i64 y0, .int .i64 y1, .int .i64 y2] 49)).alloc (.cells #[.int .i64 c, .int .i64 y0, .int .i64 y1, .int .i64 y2] 23)).keep HB3.out (by simp)) (by simp)); obtain ⟨⟨g0, g1, g2, g3⟩, _⟩ := blk4 (hT4.keep (heap_last w3 (.cells #[.int .i64 y0, .int .i64 y1, .int .i64 y2] 49) (.cells #[.int .i64 c, .int .i64 y0, .int .i64 y1, .int .i64 y2] 23)) (by simp)); have HT4 := Lib.hid (((HT3.out.alloc (.cells #[.int .i64 y0, .int .i64 y1, .int .i64 y2] 49)).alloc (.cells #[.int .i64 c, .int .i64 y0, .int .i64 y1, .int .i64 y2] 23)).trans hT4 (by simp)); clear hT4))
      rw [HX.out]
      exact bodyPost_ret (v := .tuple #[.agg #[.int .i64 0, .int .i64 0, .int .i64 0, .int .i64 0], .bool false]) (by simp [results, Tryd.results20, go_sem, e0, e1, e2, e3]) rfl ⟨rfl, ((((HT4.out.setCell (p := ⟨w.heap.size, 0, none⟩) (.inr (Nat.le_refl _)) _).setCell (p := ⟨w.heap.size, 1, none⟩) (.inr (Nat.le_refl _)) _).setCell (p := ⟨w.heap.size, 2, none⟩) (.inr (Nat.le_refl _)) _).setCell (p := ⟨w.heap.size, 3, none⟩) (.inr (Nat.le_refl _)) _)⟩

set_option maxRecDepth 100000 in
set_option maxHeartbeats 4000000 in
theorem parseResp_any (l : List UInt8) (w : World) (hk : Kn w) (hl : l.length ≤ 1000000000) :
    Calls Tryd.prog 22 #[.string ⟨l.toArray⟩] w fun e w' => e = .returned (respPV (respT.parse l)) ∧ Frm.Turn [] w w' := by
  have hT0 : Frm.Turn [] w (w.alloc (.cells #[.int .i64 0, .int .i64 0] 25)) := (Frm.Turn.refl [] w).alloc _
  have HT0 := Lib.hid hT0
  have HB0 : Hid ((w.alloc (.cells #[.int .i64 0, .int .i64 0] 25)).heap[w.heap.size]? = some (.cells #[.int .i64 0, .int .i64 0] 25 (0, 0))) := Lib.hid (World.alloc_heap_new w _)
  have HC := Lib.hid (cut_list l _ (hk.turn hT0) hl)
  have HK := Lib.hid hk
  have HL := Lib.hid hl
  have hcl := cut_len l
  have HR := Lib.hid (fun nm x0 x1 x2 W hkW => fread_any nm x0 x1 x2 (cut l [32]).2.1 W hkW (by omega))
  clear hk hl hT0 hcl
  have HFS := Lib.hid (fun g W hkW hn => closeR_first g (cut l [32]).1 W hkW hn)
  cases hf : respT.find (cut l [32]).1 with
  | none =>
    have HX := Lib.hid (parse_none hf)
    rw [hf] at HFS
    clear hf
    simp only [firstV] at HFS
    go_enter Tryd.func22, Tryd.ntmps22
    go_wp2_with (first
      | (go_at_call 30; (with_reducible refine (HC.out).mono ?_); rintro e w1 ⟨rfl, hT1⟩; have HT1 := Lib.hid (HT0.out.trans hT1 (by simp)); have HB1 := Lib.hid (hT1.keep HB0.out (by simp)); clear hT1; have HTa := Lib.hid (HT1.out.alloc (.cells #[.string ⟨(cut l [32]).1.toArray⟩] 9)); have HBa := Lib.hid (((Frm.Turn.refl [] w1).alloc (.cells #[.string ⟨(cut l [32]).1.toArray⟩] 9)).keep HB1.out (by simp)); have HN := Lib.hid (HFS.out w1.heap.size _ (HK.out.turn HTa.out) (blk1 (World.alloc_heap_new w1 _))))
      | (go_at_call 31; (with_reducible refine (HN.out).mono ?_); rintro e w2 ⟨rfl, hT2⟩; obtain ⟨⟨e0, e1⟩, f0, f1⟩ := blk2 (hT2.keep HBa.out (by simp)); have HTe := Lib.hid (HTa.out.trans hT2 (by simp)); clear hT2))
    rw [HX.out]
    exact bodyPost_ret (v := .tuple #[.agg #[.int .i64 0, .int .i64 0], .bool false]) (by simp [results, Tryd.results22, go_sem, e0, e1]) rfl ⟨rfl, ((HTe.out.setCell (p := ⟨w.heap.size, 0, none⟩) (.inr (Nat.le_refl _)) _).setCell (p := ⟨w.heap.size, 1, none⟩) (.inr (Nat.le_refl _)) _)⟩
  | some c =>
    have hfs := find_some _ _ _ _ hf
    have hc : c < 6 := Nat.lt_of_lt_of_eq hfs.2.1 (by rw [Nat.zero_add]; rfl)
    have t3 : (c : Int) < 6 := by omega
    have HPF := Lib.hid (parse_found hf)
    rw [hf] at HFS
    clear hf hfs
    simp only [firstV] at HFS
    obtain ⟨y0, hy0⟩ : ∃ y, y = respT.y0 c (cut l [32]).2.1 := ⟨_, rfl⟩
    obtain ⟨y1, hy1⟩ : ∃ y, y = respT.y1 c (cut l [32]).2.1 := ⟨_, rfl⟩
    obtain ⟨y2, hy2⟩ : ∃ y, y = respT.y2 c (cut l [32]).2.1 := ⟨_, rfl⟩
    have HRc : Hid (∀ W, Kn W → Calls Tryd.prog 33 #[.agg #[.string ⟨(respT.nm c).toArray⟩, .int .i64 (respT.m0 c), .int .i64 (respT.m1 c), .int .i64 (respT.m2 c)], .string ⟨(cut l [32]).2.1.toArray⟩] W fun e w' => e = .returned (.agg #[.int .i64 y0, .int .i64 y1, .int .i64 y2]) ∧ Frm.Turn [] W w') := Lib.hid (by rw [hy0, hy1, hy2]; exact fun W hkW => HR.out _ _ _ _ W hkW)
    rw [← hy0, ← hy1, ← hy2] at HPF
    obtain ⟨q1, q2⟩ := respY c (cut l [32]).2.1 hc
    rw [← hy1] at q1; rw [← hy2] at q2; rw [q1, q2] at HPF
    have HTX := Lib.hid (fun W hkW => rtext_any c y0 W hkW)
    have HCc := Lib.hid hc
    have i0 : ∀ w, (Instr.index 49 (.agg #[.int .i64 y0, .int .i64 y1, .int .i64 y2]) (.int .i64 0)).run Tryd.prog w = .ok (.int .i64 y0) w := fun _ => by kernel_rfl
    clear HR HL hy0 hy1 hy2 hc q1 q2
    by_cases he : respT.text c y0 0 0 = l
    · have HX : Hid (respT.parse l = some (c, y0, 0, 0)) := Lib.hid (by rw [HPF.out, if_pos he])
      rw [he] at HTX
      clear he HPF
      go_enter Tryd.func22, Tryd.ntmps22
      go_wp2_with (first
        | (go_at_call 30; (with_reducible refine (HC.out).mono ?_); rintro e w1 ⟨rfl, hT1⟩; have HT1 := Lib.hid (HT0.out.trans hT1 (by simp)); have HB1 := Lib.hid (hT1.keep HB0.out (by simp)); clear hT1; have HTa := Lib.hid (HT1.out.alloc (.cells #[.string ⟨(cut l [32]).1.toArray⟩] 9)); have HBa := Lib.hid (((Frm.Turn.refl [] w1).alloc (.cells #[.string ⟨(cut l [32]).1.toArray⟩] 9)).keep HB1.out (by simp)); have HN := Lib.hid (HFS.out w1.heap.size _ (HK.out.turn HTa.out) (blk1 (World.alloc_heap_new w1 _))))
        | (go_at_call 31; (with_reducible refine (HN.out).mono ?_); rintro e w2 ⟨rfl, hT2⟩; have HB2 := Lib.hid (hT2.keep HBa.out (by simp)); have HT2 := Lib.hid (HTa.out.trans hT2 (by simp)); clear hT2; obtain ⟨h0, h1, h2, h3⟩ := (HK.out.turn HT2.out).resps c HCc.out; rw [show 4 * c = c * 4 from by omega] at h0 h1 h2 h3; have HR2 := Lib.hid (HRc.out w2 (HK.out.turn HT2.out)))
        | (go_at_call 33; (with_reducible refine (HR2.out).mono ?_); rintro e w3 ⟨rfl, hT3⟩; have HB3 := Lib.hid (hT3.keep HB2.out (by simp)); have HT3 := Lib.hid (HT2.out.trans hT3 (by simp)); clear hT3; have HX3 := Lib.hid (HTX.out _ (HK.out.turn (HT3.out.alloc (.cells #[.int .i64 c, .int .i64 y0] 25)))))
        | (go_at_call 26; (with_reducible refine (HX3.out).mono ?_); rintro e w4 ⟨rfl, hT4⟩; obtain ⟨⟨e0, e1⟩, f0, f1⟩ := blk2 (hT4.keep (((Frm.Turn.refl [] w3).alloc (.cells #[.int .i64 c, .int .i64 y0] 25)).keep HB3.out (by simp)) (by simp)); obtain ⟨⟨g0, g1⟩, _⟩ := blk2 (hT4.keep (World.alloc_heap_new w3 (.cells #[.int .i64 c, .int .i64 y0] 25)) (by simp)); have HT4 := Lib.hid ((HT3.out.alloc (.cells #[.int .i64 c, .int .i64 y0] 25)).trans hT4 (by simp)); clear hT4))
      rw [HX.out]
      exact bodyPost_ret (v := .tuple #[.agg #[.int .i64 c, .int .i64 y0], .bool true]) (by simp [results, Tryd.results22, go_sem, e0, e1]) rfl ⟨rfl, ((HT4.out.setCell (p := ⟨w.heap.size, 0, none⟩) (.inr (Nat.le_refl _)) _).setCell (p := ⟨w.heap.size, 1, none⟩) (.inr (Nat.le_refl _)) _)⟩
    · have HX : Hid (respT.parse l = none) := Lib.hid (by rw [HPF.out, if_neg he])
      have b1 : (respT.text c y0 0 0 == l) = false := by rw [beq_eq_false_iff_ne]; exact he
      have b2 : (respT.text c y0 0 0 != l) = true := by rw [bne_iff_ne]; exact he
      clear he HPF
      go_enter Tryd.func22, Tryd.ntmps22
      go_wp2_with (first
        | (go_at_call 30; (with_reducible refine (HC.out).mono ?_); rintro e w1 ⟨rfl, hT1⟩; have HT1 := Lib.hid (HT0.out.trans hT1 (by simp)); have HB1 := Lib.hid (hT1.keep HB0.out (by simp)); clear hT1; have HTa := Lib.hid (HT1.out.alloc (.cells #[.string ⟨(cut l [32]).1.toArray⟩] 9)); have HBa := Lib.hid (((Frm.Turn.refl [] w1).alloc (.cells #[.string ⟨(cut l [32]).1.toArray⟩] 9)).keep HB1.out (by simp)); have HN := Lib.hid (HFS.out w1.heap.size _ (HK.out.turn HTa.out) (blk1 (World.alloc_heap_new w1 _))))
        | (go_at_call 31; (with_reducible refine (HN.out).mono ?_); rintro e w2 ⟨rfl, hT2⟩; have HB2 := Lib.hid (hT2.keep HBa.out (by simp)); have HT2 := Lib.hid (HTa.out.trans hT2 (by simp)); clear hT2; obtain ⟨h0, h1, h2, h3⟩ := (HK.out.turn HT2.out).resps c HCc.out; rw [show 4 * c = c * 4 from by omega] at h0 h1 h2 h3; have HR2 := Lib.hid (HRc.out w2 (HK.out.turn HT2.out)))
        | (go_at_call 33; (with_reducible refine (HR2.out).mono ?_); rintro e w3 ⟨rfl, hT3⟩; have HB3 := Lib.hid (hT3.keep HB2.out (by simp)); have HT3 := Lib.hid (HT2.out.trans hT3 (by simp)); clear hT3; have HX3 := Lib.hid (HTX.out _ (HK.out.turn (HT3.out.alloc (.cells #[.int .i64 c, .int .i64 y0] 25)))))
        | (go_at_call 26; (with_reducible refine (HX3.out).mono ?_); rintro e w4 ⟨rfl, hT4⟩; obtain ⟨⟨e0, e1⟩, f0, f1⟩ := blk2 (hT4.keep (((Frm.Turn.refl [] w3).alloc (.cells #[.int .i64 c, .int .i64 y0] 25)).keep HB3.out (by simp)) (by simp)); obtain ⟨⟨g0, g1⟩, _⟩ := blk2 (hT4.keep (World.alloc_heap_new w3 (.cells #[.int .i64 c, .int .i64 y0] 25)) (by simp)); have HT4 := Lib.hid ((HT3.out.alloc (.cells #[.int .i64 c, .int .i64 y0] 25)).trans hT4 (by simp)); clear hT4))
      rw [HX.out]
      exact bodyPost_ret (v := .tuple #[.agg #[.int .i64 0, .int .i64 0], .bool false]) (by simp [results, Tryd.results22, go_sem, e0, e1]) rfl ⟨rfl, ((HT4.out.setCell (p := ⟨w.heap.size, 0, none⟩) (.inr (Nat.le_refl _)) _).setCell (p := ⟨w.heap.size, 1, none⟩) (.inr (Nat.le_refl _)) _)⟩

end Ops
end Go.Proofs.YtlfejjegegdbnaaDoor
