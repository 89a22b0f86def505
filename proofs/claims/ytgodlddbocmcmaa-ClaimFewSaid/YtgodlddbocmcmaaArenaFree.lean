/- A block is freed. -/
import Derived.Test.YtgodlddbocmcmaaArenaLay
set_option linter.unusedVariables false
set_option linter.unusedSimpArgs false
namespace Go.Proofs.Ytgodlddbocmcmaa
namespace Arn
open Go.RowKit Hp Go.Maps

theorem filter_erase {α : Type} {p : α → Bool} : ∀ (l : List α) (j : Nat), (∀ (i : Nat) (x : α), l[i]? = some x → (p x = true ↔ i ≠ j)) → l.filter p = l.eraseIdx j := by
  intro l
  induction l with
  | nil => intro j _; simp
  | cons y t ih =>
    intro j h
    cases j with
    | zero =>
      have h0 : p y = false := by
        have := h 0 y (by simp)
        cases hp : p y with
        | false => rfl
        | true => exact absurd rfl (this.1 hp)
      have ht : t.filter p = t := List.filter_eq_self.2 (fun x hx => by
        obtain ⟨i, hi⟩ := List.getElem?_of_mem hx
        exact (h (i + 1) x (by simpa using hi)).2 (by omega))
      simp [List.filter_cons, h0, ht]
    | succ j =>
      have h0 : p y = true := (h 0 y (by simp)).2 (by omega)
      have := ih j (fun i x hx => by
        have := h (i + 1) x (by simpa using hx)
        rw [this]; omega)
      simp [List.filter_cons, h0, this]
theorem erase_map {α β : Type} (f : α → β) : ∀ (l : List α) (j : Nat), (l.eraseIdx j).map f = (l.map f).eraseIdx j := by
  intro l
  induction l with
  | nil => intro j; simp
  | cons y t ih =>
    intro j
    cases j with
    | zero => simp
    | succ j => simp [ih j]
theorem used_erase : ∀ (l : List Blk) (j : Nat) (x : Blk), l[j]? = some x → used l = used (l.eraseIdx j) + x.ws.length := by
  intro l
  induction l with
  | nil => intro j x h; simp at h
  | cons y t ih =>
    intro j x h
    cases j with
    | zero => simp at h; subst h; simp [used]; omega
    | succ j =>
      simp at h
      have := ih j x h
      simp [used]; omega
theorem hasH_drop (l : List Blk) (h k : Int) : hasH (drop l h) k = (hasH l k && decide (k ≠ h)) := by
  rw [Bool.eq_iff_iff, Bool.and_eq_true, hasH_iff, hasH_iff, decide_eq_true_eq]
  simp only [drop, List.mem_filter]
  constructor
  · rintro ⟨x, ⟨hx, hn⟩, e⟩
    exact ⟨⟨x, hx, e⟩, fun e' => by simp at hn; exact hn (by rw [e, e'])⟩
  · rintro ⟨⟨x, hx, e⟩, hn⟩
    exact ⟨x, ⟨hx, by simp; rw [e]; exact hn⟩, e⟩
theorem hasN_drop {l : List Blk} (hr : l.Pairwise fun x y => x.h % 65536 < y.h % 65536) {x : Blk} (hx : x ∈ l) (k : Int) : hasN (drop l x.h) k = (hasN l k && decide (k ≠ x.h % 65536)) := by
  rw [Bool.eq_iff_iff, Bool.and_eq_true, hasN_iff, hasN_iff, decide_eq_true_eq]
  simp only [drop, List.mem_filter]
  constructor
  · rintro ⟨y, ⟨hy, hn⟩, e⟩
    refine ⟨⟨y, hy, e⟩, fun e' => ?_⟩
    have := num_inj hr hy hx (by rw [e, e'])
    subst this
    simp at hn
  · rintro ⟨⟨y, hy, e⟩, hn⟩
    exact ⟨y, ⟨hy, by simp; intro e'; exact hn (by rw [← e, e'])⟩, e⟩
/-- Where the block of a handle stands, in both lists. -/
theorem ArAt.erase {w : World} {b : Nat} {M : Mem} {A : Ar} (h : ArAt w b M A) {j : Nat} {r : Row} {x : Blk} (hr : M.B[j]? = some r) (hx : A.L[j]? = some x) : drop A.L x.h = A.L.eraseIdx j ∧ M.B.filter (fun q => !(q.h == x.h)) = M.B.eraseIdx j := by
  have key : ∀ (i : Nat) (y : Blk), A.L[i]? = some y → ((!(y.h == x.h)) = true ↔ i ≠ j) := fun i y hy => by
    simp
    constructor
    · intro hn e; subst e; rw [hx] at hy; cases hy; exact hn rfl
    · intro hn e
      have : y = x := h.ok.h_inj (List.mem_of_getElem? hy) (List.mem_of_getElem? hx) e
      subst this
      rcases Nat.lt_trichotomy i j with e1 | e1 | e1
      · have := rise_get h.ok.rise hy hx e1; omega
      · exact hn e1
      · have := rise_get h.ok.rise hx hy e1; omega
  refine ⟨filter_erase _ _ key, filter_erase _ _ fun i q hq => ?_⟩
  obtain ⟨y, hy, hR⟩ := h.row_at hq
  rw [hR.h]
  exact key i y hy
theorem erase_at {α : Type} {l : List α} {i j : Nat} {x : α} (h : (l.eraseIdx j)[i]? = some x) : (i < j ∧ l[i]? = some x) ∨ (j ≤ i ∧ l[i + 1]? = some x) := by
  rw [List.getElem?_eraseIdx] at h
  split at h
  · rename_i hi; exact Or.inl ⟨hi, h⟩
  · rename_i hi; exact Or.inr ⟨by omega, h⟩

set_option maxHeartbeats 1000000 in
theorem free_done {w w1 w2 : World} {b j n : Nat} {M : Mem} {A : Ar} {S S' : St} {Fs' : List Nat} {D : DataW Unit} {r : Row} {x : Blk}
    (h : ArAt w b M A) (hm : S.most = 65535) (hu : ∀ k : Int, S.used k = hasN A.L k) (hD : MapAt w M.m M.B A.L D) (hr : M.B[j]? = some r) (hx : A.L[j]? = some x)
    (ho1 : w1.ownsMap Try.prog 32 hdr M.m n (D.del (.int .u64 x.h))) (T01 : Frm.Turn [M.m] w w1)
    (hg : Gave S (x.h % 65536) S') (hs2 : Lst.StockAt w2 M.sb Fs' S') (T12 : Frm.Turn M.Fs w1 w2) (hf2 : ∀ k, k ∈ Fs' → k ∈ M.Fs ∨ w1.heap.size ≤ k) :
    LeftM b M (A.free x.h).1 w ((w2.setCell ⟨b, 13, none⟩ (.int .i64 ((used A.L : Int) - (x.ws.length : Int)))).setCell ⟨b, 17, none⟩ (.int .i64 ((A.t.frees : Int) + 1))) := by
  have hok := free_ok h.ok x.h
  have hhas : hasH A.L x.h = true := hasH_iff.2 ⟨x, List.mem_of_getElem? hx, rfl⟩
  have hfr : A.free x.h = ({ A with L := drop A.L x.h, t := { A.t with frees := A.t.frees + 1 } }, 0) := by unfold Ar.free; rw [if_pos hhas]
  rw [hfr] at hok ⊢
  obtain ⟨o1, o2, o3⟩ := h.b_out
  have hap := h.apart
  simp only [List.nodup_cons, List.mem_cons] at hap
  have hlt := h.lt
  have s1 := T01.size
  have s2 := T12.size
  obtain ⟨eL, eB⟩ := h.erase hr hx
  have hmFs : M.m ∉ M.Fs := fun hc => h.side _ hc (by simp)
  have T3 : Frm.Turn [b] w2 ((w2.setCell ⟨b, 13, none⟩ (.int .i64 ((used A.L : Int) - (x.ws.length : Int)))).setCell ⟨b, 17, none⟩ (.int .i64 ((A.t.frees : Int) + 1))) :=
    ((Frm.Turn.refl [b] w2).setCell (Or.inl (by simp)) _).setCell (Or.inl (by simp)) _
  have hus := used_erase A.L j x hx
  have hsub : (M.B.eraseIdx j).map Row.g = (M.B.map Row.g).eraseIdx j := erase_map _ _ _
  have hmem : ∀ k, k ∈ (M.B.eraseIdx j).map Row.g → k ∈ M.B.map Row.g := fun k hk => by rw [hsub] at hk; exact List.mem_of_mem_eraseIdx hk
  have hFs' : ∀ k, k ∈ Fs' → k ≠ b ∧ k ≠ M.m ∧ k ∉ M.B.map Row.g := fun k hk => by
    rcases hf2 k hk with h' | h'
    · have := h.side k h'
      simp only [List.mem_cons, not_or] at this
      exact this
    · have q := h.b_lt
      have q2 := hlt M.m (by simp [Mem.foot])
      refine ⟨by omega, by omega, fun hc => ?_⟩
      have := hlt k (by simp only [Mem.foot, List.mem_cons, List.mem_append]; exact Or.inr (Or.inr (Or.inr hc)))
      omega
  have TG : Frm.Turn (M.m :: M.Fs) w w2 := (T01.mono (fun k hk => by simp at hk; simp [hk])).trans T12 (fun k hk => by simp [hk])
  refine ⟨⟨M.m, M.sb, Fs', M.B.eraseIdx j⟩, ⟨hok, ?_, ⟨S', hs2.turn T3 (fun k hk => by have := hFs' k hk; simp; exact this.1), by rw [hg.most, hm], fun k => ?_⟩, ⟨_, Lst.own_tight (Lst.own_turn (Lst.own_turn ho1 T12 hmFs) T3 (by simp; exact fun e => o1 e.symm)), ?_, fun k => ?_, fun i q y hq hy z => ?_⟩,
    ⟨?_, fun i q y hq hy => ?_⟩, ?_, fun k hk => ?_⟩, ?_, fun k hk => ?_⟩
  · have e2 := TG.keep h.body (by simp; exact ⟨o1, o2⟩)
    have e5 := Frm.heap_set w2 b 13 _ _ _ (.int .i64 ((used A.L : Int) - (x.ws.length : Int))) e2
    have e7 := Frm.heap_set _ b 17 _ _ _ (.int .i64 ((A.t.frees : Int) + 1)) e5
    rw [e7]
    obtain ⟨f0, f1, f2, f3, f4, f5, f6, f7, f8, e⟩ := nine_of h.ok.nine
    have eu : ((used A.L : Int) - (x.ws.length : Int)) = ((used (A.L.eraseIdx j) : Nat) : Int) := by omega
    simp [Ar.cells, u64s, e, eL, eu]
  · rw [hg.used, hu, hasN_drop h.ok.rise (List.mem_of_getElem? hx)]
  · have hs := size_del (k := .int .u64 x.h) (hD.own.tidy keyU)
    rw [hD.has, hhas] at hs
    simp at hs
    have hj : j < A.L.length := (List.getElem?_eq_some_iff.1 hx).1
    rw [eL, List.length_eraseIdx, if_pos hj]
    have := hD.size
    omega
  · rw [hasH_drop]
    by_cases e : k = x.h
    · subst e; rw [has_del_same]; simp
    · rw [has_del_other (by simpa using e), hD.has]; simp [e]
  · rw [eL] at hy
    have hne : q.h ≠ x.h := fun e => by
      rcases erase_at hq with ⟨i1, hq⟩ | ⟨i1, hq⟩ <;> rcases erase_at hy with ⟨i2, hy⟩ | ⟨i2, hy⟩
      · have := (h.rows.2 _ q y hq hy).h
        have := h.ok.h_inj (List.mem_of_getElem? hy) (List.mem_of_getElem? hx) (by omega)
        subst this
        have := rise_get h.ok.rise hy hx i1; omega
      · omega
      · omega
      · have := (h.rows.2 _ q y hq hy).h
        have := h.ok.h_inj (List.mem_of_getElem? hy) (List.mem_of_getElem? hx) (by omega)
        subst this
        have := rise_get h.ok.rise hx hy (by omega); omega
    rw [atKey_del_other (by simpa using hne)]
    rcases erase_at hq with ⟨i1, hq⟩ | ⟨i1, hq⟩ <;> rcases erase_at hy with ⟨i2, hy⟩ | ⟨i2, hy⟩
    · exact hD.at_ _ q y hq hy z
    · omega
    · omega
    · exact hD.at_ _ q y hq hy z
  · have := h.rows.1
    simp only [eL, List.length_eraseIdx, this]
  · rw [eL] at hy
    have old : ∀ (i : Nat) (q : Row) (y : Blk), M.B[i]? = some q → A.L[i]? = some y → RowOk ((w2.setCell ⟨b, 13, none⟩ (.int .i64 ((used A.L : Int) - (x.ws.length : Int)))).setCell ⟨b, 17, none⟩ (.int .i64 ((A.t.frees : Int) + 1))) q y := fun i q y hq hy => by
      have hgm := g_mem hq
      refine ((h.rows.2 i q y hq hy).turn TG ?_).turn T3 ?_
      · simp only [List.mem_cons, not_or]
        exact ⟨fun e => by rw [e] at hgm; exact hap.2.1 hgm, fun hc => h.side _ hc (by simp [hgm])⟩
      · simp; intro e; rw [e] at hgm; exact o3 hgm
    rcases erase_at hq with ⟨i1, hq⟩ | ⟨i1, hq⟩ <;> rcases erase_at hy with ⟨i2, hy⟩ | ⟨i2, hy⟩
    · exact old _ q y hq hy
    · omega
    · omega
    · exact old _ q y hq hy
  · refine List.nodup_cons.2 ⟨fun hc => ?_, List.nodup_cons.2 ⟨fun hc => hap.2.1 (hmem _ hc), ?_⟩⟩
    · rcases List.mem_cons.1 hc with e | hc
      · exact o1 e
      · exact o3 (hmem _ hc)
    · show ((M.B.eraseIdx j).map Row.g).Nodup
      rw [hsub]
      exact hap.2.2.sublist (List.eraseIdx_sublist _ _)
  · have := hFs' k hk
    simp only [List.mem_cons, not_or]
    exact ⟨this.1, this.2.1, fun hc => this.2.2 (hmem _ hc)⟩
  · refine (TG.mono (fun k hk => ?_)).trans T3 (fun k hk => by simp at hk; subst hk; simp [Mem.foot])
    simp only [Mem.foot, List.mem_cons, List.mem_append] at hk ⊢
    rcases hk with rfl | hk
    · simp
    · simp [hk]
  · simp only [Mem.foot, List.mem_cons, List.mem_append] at hk ⊢
    rcases hk with rfl | rfl | hk | hk
    · simp
    · simp
    · rcases hf2 k hk with h' | h'
      · left; simp [h']
      · right; omega
    · left; right; right; right
      exact hmem _ hk

theorem wf_i64_small {k : Int} (h0 : 0 ≤ k) (h1 : k ≤ 65535) : (Lit.int .i64 k).wf = true := by
  simp [Lit.wf, IntKind.min, IntKind.max, IntKind.bits, IntKind.signed]; omega
theorem give_used {w : World} {sb : Nat} {Fs : List Nat} {S : St} (hs : Lst.StockAt w sb Fs S) (k : Int) (hk : (Lit.int .i64 k).wf = true) (hu : S.used k = true) :
    Calls Try.prog 59 #[.pointer (some ⟨sb, 0, none⟩), .int .i64 k] w fun e w' => e = .returned (.int .i64 0) ∧ Hid (∃ S' Fs', Gave S k S' ∧ Lst.StockAt w' sb Fs' S' ∧ Frm.Turn Fs w w' ∧ ∀ q, q ∈ Fs' → q ∈ Fs ∨ w.heap.size ≤ q) :=
  (Lst.give_any sb Fs S k w hs hk).mono fun e w' he => by
    rcases he with ⟨S', F', e, hg, hs', hT, hf⟩ | ⟨_, hn, _⟩
    · exact ⟨e, Lib.hid ⟨S', F', hg, hs', hT, hf⟩⟩
    · rw [hu] at hn; cases hn
attribute [local go_sem ↓] Go.wp_at_zero Go.wp_at_succ
theorem free_nil (k : Int) (w : World) : Calls Try.prog 57 #[.pointer none, .int .u64 k] w fun e w' => e = .returned (.int .i64 1) ∧ w = w' := by
  go_enter Try.func57, Try.ntmps57
  go_wp2
  go_ret
  exact ⟨rfl, rfl⟩
set_option maxHeartbeats 1000000 in
theorem free_gone {w : World} {b : Nat} {M : Mem} {A : Ar} (h : ArAt w b M A) (hl : A.Low lim) (k : Int) (hk : W64 k) (hh : hasH A.L k = false) :
    Calls Try.prog 57 #[.pointer (some ⟨b, 0, none⟩), .int .u64 k] w fun e w' => e = .returned (.int .i64 23) ∧ Left b M A.miss w w' := by
  have hc := h.cells.c11
  obtain ⟨D, hD⟩ := h.map
  have hlk := hD.look_no hh hk
  have H := Lib.hid h
  have HL := Lib.hid hl
  clear h hD hl hh
  go_enter Try.func57, Try.ntmps57
  go_wp2_with (go_at_call 30; (with_reducible refine (fault_any H.out HL.out 23).mono ?_); rintro e w1 ⟨rfl, ha, ht⟩; have HA := Lib.hid ha; have HT1 := Lib.hid ht; clear ha ht)
  go_ret
  exact ⟨rfl, HA.out, turn_b HT1.out⟩
set_option maxRecDepth 100000 in
set_option maxHeartbeats 2000000 in
theorem free_live {w : World} {b : Nat} {M : Mem} {A : Ar} (h : ArAt w b M A) (hl : A.Low lim) (k : Int) (hk : W64 k) (hh : hasH A.L k = true) :
    Calls Try.prog 57 #[.pointer (some ⟨b, 0, none⟩), .int .u64 k] w fun e w' => e = .returned (.int .i64 0) ∧ LeftM b M (A.free k).1 w w' := by
  obtain ⟨S, hS, hm, hu⟩ := h.stock
  obtain ⟨D, hD⟩ := h.map
  obtain ⟨j, r, x, hr, hx, hrh, hxh, hR⟩ := h.find_row hh
  have hc11 := h.cells.c11
  have hlk := hD.look_yes hr hx (by rw [hrh, hxh]) (by rw [hrh]; exact hk)
  rw [hrh] at hlk
  have hown := hD.own
  have hkey := key_u64 k hk
  have hu6 : (used A.L : Int) ≤ 60000 := by have := h.ok.top; have := h.ok.peak; have := h.ok.cap; omega
  have hu0 : (0 : Int) ≤ (used A.L : Int) := by omega
  have hux : (x.ws.length : Int) ≤ (used A.L : Int) := by have := used_erase A.L j x hx; omega
  have hux0 : (0 : Int) ≤ (x.ws.length : Int) := by omega
  have hlr : (A.t.frees : Int) ≤ 1000000000000 := by have := hl.frees; unfold lim at this; omega
  have hlr0 : (0 : Int) ≤ (A.t.frees : Int) := by omega
  have H := Lib.hid h
  have HD := Lib.hid hD
  have HS := Lib.hid hS
  have HM := Lib.hid hm
  have HU := Lib.hid hu
  have HR := Lib.hid (show M.B[j]? = some r ∧ A.L[j]? = some x ∧ x.h = k from ⟨hr, hx, hxh⟩)
  have HK := Lib.hid hk
  have hkl : k % 65536 ≤ 65535 := by omega
  have hkl0 : 0 ≤ k % 65536 := by omega
  have HUS := Lib.hid (show S.used (k % 65536) = true by rw [hu, hasN_iff]; exact ⟨x, List.mem_of_getElem? hx, by rw [hxh]⟩)
  clear h hS hm hu hD hr hx hrh hxh hR hk hl hh
  generalize hN : x.ws.length = N at hlk hux hux0
  have HN := Lib.hid hN
  clear hN
  go_enter Try.func57, Try.ntmps57
  go_wp2_with (at_delete; refine wpList_delete_own _ rfl _ _ 53 32 rfl 44 keyU mapU _ M.m _ D rfl hown _ _ rfl hkey ?_; intro w1 hown1 hturn1)
  go_frame
  have hcs := H.out.cells
  have T1 := Frm.Turn.of_grown hturn1.grown
  have hbm : b ∉ (some M.m).toList := by have := H.out.b_out.1; simp; exact this
  have k12 : w1.cell? ⟨b, 12, none⟩ = some (.pointer (some ⟨M.sb, 0, none⟩)) := T1.cell hcs.c12 hbm
  have HS1 := Lib.hid (HS.out.turn T1 (fun k hk => by simp; intro e; subst e; exact H.out.side _ hk (by simp)))
  have HCS := Lib.hid hcs
  have HT1 := Lib.hid T1
  have HBM := Lib.hid hbm
  have HO1 := Lib.hid hown1
  have HW := Lib.hid (wf_i64_small hkl0 hkl)
  have hwr : IntKind.i64.wrap (k % 65536) = k % 65536 := IntWalk.i64_in _ (by omega)
  clear hcs T1 hbm hown1 hturn1 hown hc11 hlk hkey
  go_cut [34] (fun s34 W => ∃ S' Fs', s34 = .int .i64 0 ∧ Gave S (k % 65536) S' ∧ Lst.StockAt W M.sb Fs' S' ∧ Frm.Turn M.Fs w1 W ∧ ∀ k, k ∈ Fs' → k ∈ M.Fs ∨ w1.heap.size ≤ k)
  case first =>
    rename_i J K' hRJ hMK
    have HMK := Lib.hid hMK
    have HRJ := Lib.hid hRJ
    clear hMK hRJ
    go_region_with (first
      | (go_at_call 60; (with_reducible refine (block_any k _ HK.out).mono ?_); rintro e w2 ⟨rfl, rfl⟩)
      | (go_at_call 59; (with_reducible refine (give_used (HS1.out.turn ((Frm.Turn.refl [] w1).drew) (by simp)) (k % 65536) HW.out HUS.out).mono ?_); rintro e w2 ⟨rfl, HGV⟩))
    all_goals dsimp only [Exit.then]
    all_goals refine HMK.out _ _ (Met.intro (HRJ.out _ _ ?_))
    all_goals (repeat apply Exists.intro)
    all_goals refine ⟨?_, rfl⟩
    all_goals (obtain ⟨S', F', hg, hs, hT, hf⟩ := HGV.out; exact ⟨S', F', rfl, hg, hs, (((Frm.Turn.refl [] w1).drew).mono (by simp)).trans hT (fun q hq => Or.inl hq), hf⟩)
  case rest =>
    obtain ⟨S', Fs', rfl, hg, hs2, T12, hf2⟩ := hcut
    have hb2 := H.out.b_out.2.1
    have hbl : b < w1.heap.size := Nat.lt_of_lt_of_le H.out.b_lt HT1.out.size
    have c13 := T12.cell (HT1.out.cell HCS.out.c13 HBM.out) hb2
    have c17 := T12.cell (HT1.out.cell HCS.out.c17 HBM.out) hb2
    have f13 := (T12.frozen (a := ⟨b, 13, none⟩) hbl hb2).trans ((HT1.out.frozen (a := ⟨b, 13, none⟩) H.out.b_lt HBM.out).trans (H.out.thaw 13))
    have f17 := (T12.frozen (a := ⟨b, 17, none⟩) hbl hb2).trans ((HT1.out.frozen (a := ⟨b, 17, none⟩) H.out.b_lt HBM.out).trans (H.out.thaw 17))
    have HG := Lib.hid hg
    have HS2 := Lib.hid hs2
    have HT2 := Lib.hid T12
    have HF2 := Lib.hid hf2
    clear hg hs2 T12 hf2 hb2 k12 hwr
    go_wp2
    go_ret
    refine ⟨rfl, ?_⟩
    obtain ⟨r1, r2, r3⟩ := HR.out
    have ho := HO1.out
    have hgg := HG.out
    rw [← r3] at ho hgg
    have hres := free_done H.out HM.out HU.out HD.out r1 r2 ho (HT1.out.mono (by simp)) hgg HS2.out HT2.out HF2.out
    rw [HN.out, r3] at hres
    exact hres
end Arn
end Go.Proofs.Ytgodlddbocmcmaa
