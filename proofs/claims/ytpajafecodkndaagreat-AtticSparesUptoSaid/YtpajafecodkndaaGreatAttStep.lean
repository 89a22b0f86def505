/- A sweep looks at what everybody holds who was found. -/
/- A sweep is made; it steps. -/
/- A sweep's step. -/
import Derived.Test.YtpajafecodkndaaGreatAttSweep3
import Derived.Test.YtpajafecodkndaaGreatGearNone
import Derived.Great.BuildSlice
set_option linter.unusedVariables false
set_option linter.unusedSimpArgs false
namespace Go.Proofs.YtpajafecodkndaaGreat
namespace Att
open Go.RowKit Go.Maps Arn Pac Clm Cnt Sta Hld

variable {w W W' : World} {b k n r rr cr s m ar base gg c : Nat} {A : Ar} {ps : List Part} {V : Nat → Value} {lg g lv th ho lv2 wv2 v : Value} {L : Nat → List Int} {bs : List (Bt × Value)} {left ws : List Int} {C : Col.Co}
theorem under_adrs : Tryz.prog.underlying 223 = some (.slice 66) := by kernel_rfl
theorem info_adrs : (Tryz.prog.info? 66).map (fun i => (i.zero, i.size, i.bytes)) = some (some (.agg #[.int .u64 0, .int .i64 0]), 2, 16) := by kernel_rfl
theorem pl_cell15 {l : List Nat} (h : W.ownsRow base 46 2 v l.length (Col.plCells l)) {j : Nat} (hj : j < l.length) :
    ∃ g c x, l[j]? = some x ∧ v = .slice (some ⟨g, 0, none⟩) l.length c ∧ W.cell? ⟨g, j * 2, none⟩ = some (.int .u64 (Cnt.hS (sgN x))) ∧ W.cell? ⟨g, j * 2 + 1, none⟩ = some (.int .i64 x) := by
  have h0 := h
  rcases h0.2 with ⟨_, e⟩ | ⟨g, cap, cur, rfl, _⟩
  · omega
  · obtain ⟨x, hx⟩ : ∃ x, l[j]? = some x := ⟨l[j], List.getElem?_eq_getElem hj⟩
    obtain ⟨a1, a2⟩ := Col.plCells_get l j x hx
    exact ⟨g, cap, x, hx, rfl, (h.cellAt (j * 2) (by omega)).trans a1, (h.cellAt (j * 2 + 1) (by omega)).trans a2⟩
theorem addrCells_app (l l' : List (Int × Int)) : addrCells (l ++ l') = addrCells l ++ addrCells l' := by simp [addrCells]
theorem four_news (w : World) (a b c d : Value) (t : TypeId) : ∀ j u, [a, b, c, d][j]? = some u → (w.alloc (.cells #[a, b, c, d] t)).cell? ((⟨w.heap.size, 0, none⟩ : Addr).add j) = some u := by
  intro j u hj
  rw [Addr.add_mid, Nat.zero_add, Frm.cell_row _ _ _ _ _ _ (World.alloc_heap_new w _)]
  simpa using hj
theorem new_at (hT : Frm.Turn [] W W') (o : Obj) : Frm.Turn [] W (W'.alloc o) ∧ (W'.alloc o).heap[W'.heap.size]? = some o ∧ W.heap.size ≤ W'.heap.size := ⟨hT.alloc o, World.alloc_heap_new _ _, hT.size⟩
/-- .. and then the machine that reads is run. -/
theorem look_end {S0 : Sw} {ao : Option Addr} {cc : Nat} (S : Stash w b A k (swB r b ar s m .nilFunc lv (.pointer (some ⟨cr, 0, none⟩)) (.pointer none) :: acP w.heap.size cr b C v :: rwP w.heap.size lv S0.left :: ps) W) (hC : S0.C = C) (hl : S0.left.length ≤ 1000000) (h0 : S0.left ≠ []) (hm : m ≤ 9223372036854775807)
    (hn : C.L.length ≤ 255) (ha : AddrsAt W (.slice ao (C.L.length * 2) cc) (hdA C.L)) :
    Calls Tryz.prog 128 #[.pointer (some ⟨b, 0, none⟩), .slice ao (C.L.length * 2) cc] W fun e w1 => ∃ rr, e = .returned (.pointer (some ⟨rr, 0, none⟩)) ∧ w1.cell? ⟨r, 7, none⟩ = some (.pointer none) ∧ w1.frozen? ⟨r, 7, none⟩ = false ∧
      Calls Tryz.prog 95 #[.pointer (some ⟨r, 0, none⟩), .iface 176 (.pointer (some ⟨rr, 0, none⟩)), .func (.func 129) #[.pointer (some ⟨r, 0, none⟩)] #[]] (w1.setCell ⟨r, 7, none⟩ (.pointer (some ⟨rr, 0, none⟩))).drew fun e w' => e = .returned (.tuple #[]) ∧ ∃ pts, SwIs w.heap.size r b ar s m (Sw.look m S0) pts ∧ Stash w b A k (pts ++ ps) w' := by
  subst hC
  refine (rd_new_s S ha (by rw [hdA_len]; omega)).mono ?_
  rintro e w1 ⟨rr, lv2, he, S1, hT⟩
  have S2 := S1.perm (List.Perm.swap ..)
  have S3 : Stash w b A k (swB r b ar s m .nilFunc lv (.pointer (some ⟨cr, 0, none⟩)) (.pointer (some ⟨rr, 0, none⟩)) :: rdP rr b (hdA S0.C.L) [] lv2 (.slice none 0 0) :: acP w.heap.size cr b S0.C v :: rwP w.heap.size lv S0.left :: ps) (w1.setCell ⟨r, 7, none⟩ (.pointer (some ⟨rr, 0, none⟩))) := poke_h (i := 7) _ S2
  refine ⟨rr, he, cell_h (i := 7) S2 (List.mem_cons_self ..) rfl, thaw_h (i := 7) S2 (List.mem_cons_self ..), ?_⟩
  have S4 := (S3.perm (qs := acP w.heap.size cr b S0.C v :: ([swB r b ar s m .nilFunc lv (.pointer (some ⟨cr, 0, none⟩)) (.pointer (some ⟨rr, 0, none⟩)), rdP rr b (hdA S0.C.L) [] lv2 (.slice none 0 0)] ++ rwP w.heap.size lv S0.left :: ps)) (List.perm_middle (l₁ := [_, _]))).drop
  have S5 := S4.still ((Frm.Turn.refl [] _).drew)
  unfold Sw.look
  by_cases hL : S0.C.L = []
  · rw [if_pos hL]
    rw [hL] at S5
    refine grun_none (isM_reads rr) (fun W' hT' => ?_) (fun W' hT' => ?_)
    · exact rd_done_s (Lr := []) (Wd := []) (lv := lv2) (wv := .slice none 0 0) (S5.still hT') (by simp [hdA])
    · exact sort_call (S0 := { S0 with ws := [] }) (S5.still hT') hl h0 (by simp) hm
  · rw [if_neg hL]
    have hne : hdA S0.C.L ≠ [] := fun e => hL (by
      have := hdA_len S0.C.L
      rw [e] at this
      exact List.eq_nil_of_length_eq_zero (by simp at this; omega))
    refine (run_s (ps := rdP rr b (hdA S0.C.L) [] lv2 (.slice none 0 0) :: rwP w.heap.size lv S0.left :: ps) (isM_reads rr) S5 (fun W' hT' => ?_)).mono ?_
    · have := rd_done_s (r := rr) (Lr := hdA S0.C.L) (Wd := []) (lv := lv2) (wv := .slice none 0 0) (S5.still hT') (by simp)
      rwa [show decide ((hdA S0.C.L).length = 0) = false from decide_eq_false (by simpa using hne)] at this
    · rintro e w' ⟨he, wb, mb, gb, tb, S6⟩
      refine ⟨he, _, .read S0.C (hdA S0.C.L) [] S0.left wb mb gb tb rr (.pointer (some ⟨cr, 0, none⟩)) lv2 (.slice none 0 0) lv h0 hne, ?_⟩
      rw [List.append_assoc]
      exact S6
set_option maxRecDepth 100000 in
set_option maxHeartbeats 8000000 in
theorem look_s {S0 : Sw} (S : Stash w b A k (swB r b ar s m .nilFunc lv (.pointer (some ⟨cr, 0, none⟩)) (.pointer none) :: acP w.heap.size cr b C v :: rwP w.heap.size lv S0.left :: ps) W) (hC : S0.C = C) (hl : S0.left.length ≤ 1000000) (h0 : S0.left ≠ []) (hm : m ≤ 9223372036854775807)
    (hs : ∀ x, x ∈ C.L → x < 255) (hn : C.L.length ≤ 255) :
    Calls Tryz.prog 96 #[.pointer (some ⟨r, 0, none⟩)] W fun e w' => e = .returned (.tuple #[]) ∧ ∃ pts, SwIs w.heap.size r b ar s m (Sw.look m S0) pts ∧ Stash w b A k (pts ++ ps) w' := by
  obtain ⟨c0, c1, c2, c3, c4, c5, c6, c7⟩ := sw_cells S (List.mem_cons_self ..)
  have HPL := Lib.hid (ac_places S (cr := cr) (C := C) (base := w.heap.size) (v := v) (by simp) (by omega))
  have HNR := Lib.hid (fun (W1 : World) (ao : Option Addr) (cc : Nat) (hT : Frm.Turn [] W W1) (ha : AddrsAt W1 (.slice ao (C.L.length * 2) cc) (hdA C.L)) => look_end (S.still hT) hC hl h0 hm hn ha)
  have HC1 := Lib.hid (fun W1 (hT : Frm.Turn [] W W1) => hT.cell c1 (by simp))
  have HS := Lib.hid hs
  have HN := Lib.hid hn
  have hmk := hmf
  obtain ⟨i0, hi, hz0, hz1, hz2⟩ := infw info_adrs
  obtain ⟨N, HNN⟩ : ∃ N, Hid (N = C.L.length) := ⟨_, Lib.hid rfl⟩
  clear S hC hl h0 hm hs hn c0 c1 c2 c3 c4 c5 c7
  go_enter Tryz.func96, Tryz.ntmps96
  go_wp2_with (go_at_call 126; (with_reducible refine (HPL.out).mono ?_); rintro e w1 ⟨u, rfl, ho, hT⟩; obtain ⟨uo, uc, rfl⟩ := Frm.row_form ho; have HU := Lib.hid ho; have HT1 := Lib.hid hT; clear ho hT; rw [← HNN.out])
  clear HPL c6
  have hN255 : (N : Int) ≤ 255 := by have := HN.out; rw [HNN.out]; omega
  go_loopw [2, 15] (fun v i wr => ∃ (j : Nat) (ao : Option Addr) (c : Nat), j ≤ N ∧ i = .int .i64 j ∧ v = .slice ao (j * 2) c ∧ wr.ownsRow w1.heap.size 66 2 (.slice ao (j * 2) c) (j * 2) (addrCells (hdA (C.L.take j))) ∧ Frm.Turn [] w1 wr) (fun _ i _ => N - (intOf i).toNat)
  case atStart => exact ⟨0, none, 0, Nat.zero_le _, rfl, rfl, World.ownsRow_nil _ _ _ _, Frm.Turn.refl _ _⟩
  case round =>
    obtain ⟨j, ao, c, hj, rfl, rfl, ho, hT⟩ := hrel
    have HO := Lib.hid ho
    have HT := Lib.hid hT
    have j0 : (0 : Int) ≤ (j : Int) := by omega
    by_cases e : j < N
    · have h1 : (j : Int) < (N : Int) := by omega
      obtain ⟨ug, uc2, x, hx, e1, p0, p1⟩ := pl_cell15 HU.out (show j < C.L.length by rw [← HNN.out]; exact e)
      cases e1
      have q0 := hT.cell p0 (by simp)
      have q1 := hT.cell p1 (by simp)
      have hx255 := HS.out x (List.mem_of_getElem? hx)
      have HW3 := Lib.hid (fun W => Word_f (hS (sgN x)) x 3 W hx255 (by simpa using hS_ne (sgN x)) (.inl rfl))
      have HW4 := Lib.hid (fun W => Word_f (hS (sgN x)) x 4 W hx255 (by simpa using hS_ne (sgN x)) (.inr rfl))
      have HX : Hid (addrCells (hdA (C.L.take (j + 1))) = addrCells (hdA (C.L.take j)) ++ [.int .u64 (hS (sgN x)), .int .i64 (5 * (ofN x : Int) + 3), .int .u64 (hS (sgN x)), .int .i64 (5 * (ofN x : Int) + 4)]) := Lib.hid (by
        rw [List.take_add_one, hx]
        show addrCells (hdA (C.L.take j ++ [x])) = _
        rw [hdA_snoc, addrCells_app]
        rfl)
      have HJ := Lib.hid e
      clear ho hT p0 p1 hx hx255 e hj
      generalize hS (sgN x) = seg at *
      generalize (5 * (ofN x : Int) + 3) = a3 at *
      generalize (5 * (ofN x : Int) + 4) = a4 at *
      go_upto_region 4 with fail
      obtain ⟨t2, n2, z2⟩ := new_at HT.out (.cells #[.int .u64 seg, .int .i64 x] 46)
      have HO2 := Lib.hid (Frm.owns_turn HO.out ((Frm.Turn.refl [] wr).alloc (.cells #[.int .u64 seg, .int .i64 x] 46)) (by simp))
      generalize World.alloc wr _ = w2 at t2 n2 HO2 ⊢
      generalize wr.heap.size = pb at n2 z2 ⊢
      have HT2 := Lib.hid t2
      have HP2 := Lib.hid n2
      have d0 := (Frm.cell_row _ _ 0 _ _ _ n2).trans rfl
      have d1 := (Frm.cell_row _ _ 1 _ _ _ n2).trans rfl
      clear q0 q1 t2 n2 z2 HO HT
      go_upto_region 5 with (go_at_call 127; (with_reducible refine (HW3.out _).mono ?_); rintro e w3 ⟨rfl, hT⟩; have HT3 := Lib.hid hT; clear hT)
      obtain ⟨t4, n4, z4⟩ := new_at HT3.out (.cells #[.int .u64 seg, .int .i64 a3] 66)
      have HO4 := Lib.hid (Frm.owns_turn HO2.out t4 (by simp))
      generalize World.alloc w3 _ = w4 at t4 n4 HO4 ⊢
      generalize w3.heap.size = xb at n4 z4 ⊢
      have HT4 := Lib.hid (HT2.out.trans t4 (by simp))
      have hp4 := t4.keep HP2.out (by simp)
      have HX4 := Lib.hid n4
      clear d0 d1 HW3 HO2 HT3
      have d0 := (Frm.cell_row _ _ 0 _ _ _ hp4).trans rfl
      have d1 := (Frm.cell_row _ _ 1 _ _ _ hp4).trans rfl
      clear t4 n4 z4 hp4 HP2 HT2
      go_upto_region 6 with (go_at_call 127; (with_reducible refine (HW4.out _).mono ?_); rintro e w5 ⟨rfl, hT⟩; have HT5 := Lib.hid hT; clear hT)
      obtain ⟨t6, n6, z6⟩ := new_at HT5.out (.cells #[.int .u64 seg, .int .i64 a4] 66)
      have HO6 := Lib.hid (Frm.owns_turn HO4.out t6 (by simp))
      generalize World.alloc w5 _ = w6 at t6 n6 HO6 ⊢
      generalize w5.heap.size = yb at n6 z6 ⊢
      have HT6 := Lib.hid (HT4.out.trans t6 (by simp))
      have hx6 := t6.keep HX4.out (by simp)
      clear d0 d1
      have d0 := (Frm.cell_row _ _ 0 _ _ _ hx6).trans rfl
      have d1 := (Frm.cell_row _ _ 1 _ _ _ hx6).trans rfl
      have d2 := (Frm.cell_row _ _ 0 _ _ _ n6).trans rfl
      have d3 := (Frm.cell_row _ _ 1 _ _ _ n6).trans rfl
      clear t6 n6 z6 hx6 HO4 HT4 HX4 HW4 HT5
      have HO7 := Lib.hid (Frm.owns_turn HO6.out ((Frm.Turn.refl [] w6).alloc (.cells #[.int .u64 seg, .int .i64 a3, .int .u64 seg, .int .i64 a4] 66)) (by simp))
      have HN7 := Lib.hid (four_news w6 (.int .u64 seg) (.int .i64 a3) (.int .u64 seg) (.int .i64 a4) 66)
      have HT7 := Lib.hid (HT6.out.alloc (.cells #[.int .u64 seg, .int .i64 a3, .int .u64 seg, .int .i64 a4] 66))
      have HJ2 : Hid (j * 2 + 2 ≤ 600) := Lib.hid (by have := HJ.out; omega)
      go_wp2_with (first
        | (at_builtin; go_must (refine wpList_append_own_at _ rfl (.tmp 29) (.tmp 32) 223 rfl w1.heap.size 66 i0 (.agg #[.int .u64 0, .int .i64 0]) 2 16 under_adrs hi hz0 hz1 hz2 rfl (by decide) (.slice ao (j * 2) c) (j * 2) (addrCells (hdA (C.L.take j))) rfl HO7.out ⟨w6.heap.size, 0, none⟩ 2 2 [.int .u64 seg, .int .i64 a3, .int .u64 seg, .int .i64 a4] rfl rfl HN7.out (by simp [Value.oneCell']) (by have := HJ2.out; unfold maxLen; omega) (by have := HJ2.out; omega) HT7.out.size ?_); intro v9 w9 hown9 hg9 _ hl9; obtain ⟨va, vc, rfl⟩ := Frm.row_form hown9; have HO9 := Lib.hid hown9; have HT9 : Hid (Frm.Turn [] w1 w9) := Lib.hid (HT7.out.trans (Frm.Turn.of_grown hg9) (fun q hq => .inr (by have := (HO7.out.lt q (by simpa using hq)).1; omega))); clear hown9 hg9 hl9))
      refine ⟨⟨j + 1, va, vc, by have := HJ.out; omega, by simp, by rw [show (j + 1) * 2 = j * 2 + 2 by omega], ?_, HT9.out⟩, by simp [intOf]; have := HJ.out; omega⟩
      rw [HX.out, show (j + 1) * 2 = j * 2 + 2 by omega]
      exact HO9.out
    · obtain rfl : j = N := by omega
      have h1 : ¬ (j : Int) < (j : Int) := by omega
      have HTW := Lib.hid (HT1.out.trans HT.out (by simp))
      have ha : AddrsAt wr (.slice ao (C.L.length * 2) c) (hdA C.L) := by
        have ho2 := HO.out
        rw [show C.L.take j = C.L by rw [HNN.out, List.take_length], HNN.out] at ho2
        have h2 := ho2
        rcases ho2.2 with ⟨e1, e2⟩ | ⟨g1, cap, cur, e1, e3, e4, e5, e6, e7⟩
        · refine .inl ⟨e1, ?_⟩
          exact List.eq_nil_of_length_eq_zero (by rw [hdA_len]; exact e2)
        · simp only [Value.slice.injEq] at e1
          obtain ⟨rfl, _, rfl⟩ := e1
          refine .inr ⟨g1, 0, c, by rw [hdA_len], by rw [hdA_len]; exact e5, e6, fun q u hu => ?_⟩
          have := World.ownsRow.cells h2 rfl q _ hu
          rwa [Addr.add_mid] at this
      have HR := Lib.hid (HNR.out wr ao c HTW.out ha)
      have hc1 := HC1.out wr HTW.out
      rw [← HNN.out] at HR
      clear ha ho hT HO HT e hj HNR HC1
      go_upto_region 9 with (go_at_call 128; (with_reducible refine (HR.out).mono ?_); rintro e w3 ⟨rr, rfl, hc7, hf7, hrun⟩; have HRUN := Lib.hid hrun; clear hrun)
      have c7 : (w3.setCell ⟨r, 7, none⟩ (.pointer (some ⟨rr, 0, none⟩))).drew.cell? ⟨r, 7, none⟩ = some (.pointer (some ⟨rr, 0, none⟩)) := World.cell?_setCell_same' w3 _ _ (by rw [hc7]; rfl)
      generalize World.setCell w3 _ _ = w4 at HRUN c7 ⊢
      clear hc7 hf7 HR hc1
      go_region_with (go_at_call 95; (with_reducible refine (HRUN.out).mono ?_); rintro e w5 ⟨rfl, hS⟩; have HS5 := Lib.hid hS; clear hS)
      all_goals go_wp2_with fail
      all_goals go_end0
      all_goals exact ⟨rfl, HS5.out⟩
end Att
end Go.Proofs.YtpajafecodkndaaGreat

set_option linter.unusedVariables false
set_option linter.unusedSimpArgs false
namespace Go.Proofs.YtpajafecodkndaaGreat
namespace Att
open Go.RowKit Go.Maps Arn Pac Clm Cnt Sta Hld

variable {w W W' : World} {b k n r rr cr s m ar base gg c : Nat} {A : Ar} {ps : List Part} {V : Nat → Value} {lg g lv th ho lv2 wv2 v : Value} {L : Nat → List Int} {bs : List (Bt × Value)} {left ws : List Int} {C : Col.Co}
theorem row_base {W : World} {base base' : Nat} {e : TypeId} {size n : Nat} {v : Value} {xs : List Value} (h : W.ownsRow base e size v n xs) (hb : base' ≤ base) : W.ownsRow base' e size v n xs :=
  ⟨h.1, h.2.imp id (fun ⟨g, c, cur, a, q, r⟩ => ⟨g, c, cur, a, Nat.le_trans hb q, r⟩)⟩
/-- The new sweep's cells, and its list. -/
theorem made_s {ao : Option Addr} {cc : Nat} {w1 : World} (S : Stash w b A k (atP w.heap.size ar L V lg bs :: ps) W) (ho : w1.ownsRow W.heap.size 31 1 (.slice ao (L s).length cc) (L s).length (u64s (L s))) (hT : Frm.Turn [] W w1) (o : Obj) (hob : o = .cells (.nilFunc :: swL b ar s m (.slice ao (L s).length cc) (.pointer none) (.pointer none)).toArray 178) :
    Stash w b A k (swB w1.heap.size b ar s m .nilFunc (.slice ao (L s).length cc) (.pointer none) (.pointer none) :: rwP w.heap.size (.slice ao (L s).length cc) (L s) :: atP w.heap.size ar L V lg bs :: ps) (w1.alloc o) := by
  subst hob
  have hsz := S.kin.turn.size
  have S1 : Stash w b A k (rwP w.heap.size (.slice ao (L s).length cc) (L s) :: atP w.heap.size ar L V lg bs :: ps) w1 := S.add hT (rwP_fra _ _ _) (row_base ho hsz) (fun x hx => by
    have := ho.lt x (by simpa [rwP] using hx)
    exact ⟨this.1, this.2⟩) (by simp [rwP]) (by simp [rwP])
  exact add_h S1 _ (World.alloc_heap_new _ _)
/-- The collect is made and run. -/
theorem run_coll (S : Stash w b A k (swB r b ar s m .nilFunc lv (.pointer none) (.pointer none) :: rwP w.heap.size lv (L s) :: ps) W) (h0 : L s ≠ []) :
    Calls Tryz.prog 94 #[.pointer (some ⟨b, 0, none⟩)] W fun e w1 => ∃ cr, e = .returned (.pointer (some ⟨cr, 0, none⟩)) ∧ w1.cell? ⟨r, 6, none⟩ = some (.pointer none) ∧ w1.frozen? ⟨r, 6, none⟩ = false ∧
      Calls Tryz.prog 95 #[.pointer (some ⟨r, 0, none⟩), .iface 175 (.pointer (some ⟨cr, 0, none⟩)), .func (.func 96) #[.pointer (some ⟨r, 0, none⟩)] #[]] (w1.setCell ⟨r, 6, none⟩ (.pointer (some ⟨cr, 0, none⟩))).drew fun e w' => e = .returned (.tuple #[]) ∧ ∃ pts, SwIs w.heap.size r b ar s m (Sw.new (L s)) pts ∧ Stash w b A k (pts ++ ps) w' := by
  refine (ac_new S).mono ?_
  rintro e w1 ⟨cr, he, S1, hT⟩
  have S2 := S1.perm (List.Perm.swap ..)
  have S3 : Stash w b A k (swB r b ar s m .nilFunc lv (.pointer (some ⟨cr, 0, none⟩)) (.pointer none) :: acP w.heap.size cr b Col.Co.new (.slice none 0 0) :: rwP w.heap.size lv (L s) :: ps) (w1.setCell ⟨r, 6, none⟩ (.pointer (some ⟨cr, 0, none⟩))) := poke_h (i := 6) _ S2
  refine ⟨cr, he, cell_h (i := 6) S2 (List.mem_cons_self ..) rfl, thaw_h (i := 6) S2 (List.mem_cons_self ..), ?_⟩
  have S5 := S3.still ((Frm.Turn.refl [] _).drew)
  refine (run_s (ps := acP w.heap.size cr b Col.Co.new (.slice none 0 0) :: rwP w.heap.size lv (L s) :: ps) (isM_coll cr) S5 (fun W' hT' => ?_)).mono ?_
  · exact ac_done (C := Col.Co.new) (base := w.heap.size) (v := .slice none 0 0) (S5.still hT') (by simp) (by decide)
  · rintro e w' ⟨he, wb, mb, gb, tb, S6⟩
    have hnew : Sw.new (L s) = ⟨0, Col.Co.new, [], [], L s⟩ := if_neg h0
    rw [hnew]
    refine ⟨he, _, .coll Col.Co.new [] [] (L s) wb mb gb tb cr (.slice none 0 0) lv h0 (by decide), ?_⟩
    rw [List.append_assoc]
    exact S6
set_option maxRecDepth 100000 in
set_option maxHeartbeats 8000000 in
theorem new_s (S : Stash w b A k (atP w.heap.size ar L V lg bs :: ps) W) (hs : s < 255) (hl : (L s).length ≤ 65536) (most : Int) (hm : m = most.toNat) (h64 : -9223372036854775808 ≤ most ∧ most ≤ 9223372036854775807) :
    Calls Tryz.prog 47 #[.pointer (some ⟨b, 0, none⟩), .pointer (some ⟨ar, 0, none⟩), .int .i64 s, .int .i64 most] W fun e w' => ∃ r pts, e = .returned (.pointer (some ⟨r, 0, none⟩)) ∧ SwIs w.heap.size r b ar s m (Sw.new (L s)) pts ∧ Stash w b A k (pts ++ atP w.heap.size ar L V lg bs :: ps) w' := by
  have hA : AtAll W w.heap.size ar L V lg bs := S.on _ (List.mem_cons_self ..)
  have HLI := Lib.hid (list_any hA.ls hs hl)
  have HMD : Hid (∀ w1 ao cc o, w1.ownsRow W.heap.size 31 1 (.slice ao (L s).length cc) (L s).length (u64s (L s)) → Frm.Turn [] W w1 → o = .cells (.nilFunc :: swL b ar s m (.slice ao (L s).length cc) (.pointer none) (.pointer none)).toArray 178 → Stash w b A k (swB w1.heap.size b ar s m .nilFunc (.slice ao (L s).length cc) (.pointer none) (.pointer none) :: rwP w.heap.size (.slice ao (L s).length cc) (L s) :: atP w.heap.size ar L V lg bs :: ps) (w1.alloc o)) := Lib.hid (fun w1 ao cc o ho hT hob => made_s S ho hT o hob)
  have hmx : max most 0 = (m : Int) := by omega
  have hmk := hmf
  obtain ⟨N, HN⟩ : ∃ N, Hid (N = (L s).length) := ⟨_, Lib.hid rfl⟩
  clear S hA hm
  by_cases hz : L s = []
  · have hN0 : N = 0 := by rw [HN.out, hz]; rfl
    subst hN0
    have HZ := Lib.hid hz
    rw [← HN.out] at HLI HMD
    clear hz
    go_enter Tryz.func47, Tryz.ntmps47
    go_upto_region 2 with (go_at_call 45; (with_reducible refine (HLI.out).mono ?_); rintro e w1 ⟨ao, cc, rfl, ho, hT⟩; have HS2 := Lib.hid (HMD.out w1 ao cc (.cells #[.nilFunc, .pointer (some ⟨b, 0, none⟩), .pointer (some ⟨ar, 0, none⟩), .int .i64 s, .int .i64 m, .slice ao 0 cc, .pointer none, .pointer none] 178) ho hT rfl); clear ho hT)
    obtain ⟨c0, c1, c2, c3, c4, c5, c6, c7⟩ := sw_cells HS2.out (List.mem_cons_self ..)
    clear c0 c1 c2 c3 c4 c6 c7 HMD HLI
    generalize World.alloc w1 _ = w2 at HS2 c5 ⊢
    generalize w1.heap.size = r at HS2 c5 ⊢
    have e0 : ((0 : Nat) : Int) = 0 := rfl
    go_wp2_with fail
    go_ret
    have hnew : Sw.new (L s) = ⟨3, Col.Co.new, [], [], []⟩ := if_pos HZ.out
    rw [hnew]
    exact ⟨r, _, rfl, .done _ _ _ _ (.slice ao 0 cc) (.pointer none) (.pointer none), (HS2.out.perm (List.Perm.swap ..)).drop⟩
  · have hN0 : ¬ N = 0 := by rw [HN.out]; simpa using hz
    have hN1 : ((N : Int) == 0) = false := by simpa using (by omega : ¬ (N : Int) = 0)
    have hN2 : ¬ (N : Int) = 0 := by omega
    have HRC := Lib.hid (fun (w2 : World) (r : Nat) (ao : Option Addr) (cc : Nat) (S2 : Stash w b A k (swB r b ar s m .nilFunc (.slice ao (L s).length cc) (.pointer none) (.pointer none) :: rwP w.heap.size (.slice ao (L s).length cc) (L s) :: atP w.heap.size ar L V lg bs :: ps) w2) => run_coll S2 hz)
    rw [← HN.out] at HLI HMD
    clear hz
    go_enter Tryz.func47, Tryz.ntmps47
    go_upto_region 2 with (go_at_call 45; (with_reducible refine (HLI.out).mono ?_); rintro e w1 ⟨ao, cc, rfl, ho, hT⟩; have HS2 := Lib.hid (HMD.out w1 ao cc (.cells #[.nilFunc, .pointer (some ⟨b, 0, none⟩), .pointer (some ⟨ar, 0, none⟩), .int .i64 s, .int .i64 m, .slice ao N cc, .pointer none, .pointer none] 178) ho hT rfl); clear ho hT)
    obtain ⟨c0, c1, c2, c3, c4, c5, c6, c7⟩ := sw_cells HS2.out (List.mem_cons_self ..)
    clear c0 c1 c2 c3 c4 c6 c7 HMD HLI
    generalize World.alloc w1 _ = w2 at HS2 c5 ⊢
    generalize w1.heap.size = r at HS2 c5 ⊢
    have HR := Lib.hid (HRC.out w2 r ao cc (by rw [← HN.out]; exact HS2.out))
    clear HRC HS2
    go_upto_region 5 with (go_at_call 94; (with_reducible refine (HR.out).mono ?_); rintro e w3 ⟨cr, rfl, hc6, hf6, hrun⟩; have HRUN := Lib.hid hrun; clear hrun)
    have c6 : (w3.setCell ⟨r, 6, none⟩ (.pointer (some ⟨cr, 0, none⟩))).drew.cell? ⟨r, 6, none⟩ = some (.pointer (some ⟨cr, 0, none⟩)) := World.cell?_setCell_same' w3 _ _ (by rw [hc6]; rfl)
    generalize World.setCell w3 _ _ = w4 at HRUN c6 ⊢
    clear hc6 hf6 HR c5
    go_region_with (go_at_call 95; (with_reducible refine (HRUN.out).mono ?_); rintro e w5 ⟨rfl, hS⟩; have HS5 := Lib.hid hS; clear hS)
    all_goals go_wp2_with fail
    all_goals go_ret
    all_goals (
      obtain ⟨pts, h1, h2⟩ := HS5.out
      exact ⟨r, pts, rfl, h1, h2⟩)
/-- What a sweep needs for its steps. -/
structure Sw.Fit (n m : Nat) (S : Sw) : Prop where
  co : S.ph = 0 → S.C.Fit n
  rest : ∀ a, a ∈ S.rest → W64 a.1 ∧ (Lit.int .i64 a.2).wf = true
  left : ∀ h, h ∈ S.left → W64 h
  llen : S.left.length ≤ 65536
  rlen : S.rest.length + S.ws.length ≤ 1000
  small : ∀ x, x ∈ S.C.L → x < 15
theorem step_nil (W : World) : Calls Tryz.prog 53 #[.pointer none] W fun e w' => e = .returned (.tuple #[]) ∧ W = w' := by
  go_enter Tryz.func53, Tryz.ntmps53
  go_wp2
  go_end0
  exact ⟨rfl, rfl⟩
theorem done_nil (W : World) : Calls Tryz.prog 48 #[.pointer none] W fun e w' => e = .returned (.bool true) ∧ W = w' := by
  go_enter Tryz.func48, Tryz.ntmps48
  go_wp2
  go_ret
  exact ⟨rfl, rfl⟩
theorem done_s {S0 : Sw} {pts : List Part} (h : SwIs base r b ar s m S0 pts) (S : Stash w b A k (pts ++ ps) W) : Calls Tryz.prog 48 #[.pointer (some ⟨r, 0, none⟩)] W fun e w' => e = .returned (.bool (decide (S0.ph = 3))) ∧ W = w' := by
  have H : Hid (Calls Tryz.prog 76 #[.pointer (some ⟨r, 0, none⟩)] W fun e w' => e = .returned (.bool (decide (S0.ph = 3))) ∧ W = w') := Lib.hid (by
    cases h with
    | coll C rest ws left wb mb gb tb cr v lv h hc => exact gdone_h (l := swL b ar s m lv (.pointer (some ⟨cr, 0, none⟩)) (.pointer none)) (t := 178) (x := grunV wb mb gb tb) S (List.mem_append_left _ (by simp [runL])) (isFn_func _ _ _)
    | read C rest ws left wb mb gb tb rr th lv2 wv2 lv h hr => exact gdone_h (l := swL b ar s m lv th (.pointer (some ⟨rr, 0, none⟩))) (t := 178) (x := grunV wb mb gb tb) S (List.mem_append_left _ (by simp [runL])) (isFn_func _ _ _)
    | free C rest ws left lv th ho h => exact gdone_h (l := swL b ar s m lv th ho) (t := 178) (x := freeV r) S (List.mem_append_left _ (by simp [swB])) (isFn_func _ _ _)
    | done C rest ws left lv th ho => exact gdone_h (l := swL b ar s m lv th ho) (t := 178) (x := .nilFunc) S (List.mem_append_left _ (by simp [swB])) isFn_nil)
  generalize decide (S0.ph = 3) = z at H ⊢
  clear S h
  go_enter Tryz.func48, Tryz.ntmps48
  go_wp2_with (go_at_call 76; (with_reducible refine (H.out).mono ?_); rintro e w1 ⟨rfl, rfl⟩)
  go_ret
  exact ⟨rfl, rfl⟩
end Att
end Go.Proofs.YtpajafecodkndaaGreat

set_option linter.unusedVariables false
set_option linter.unusedSimpArgs false
namespace Go.Proofs.YtpajafecodkndaaGreat
namespace Att
open Go.RowKit Go.Maps Arn Pac Clm Cnt Sta Hld

variable {w W W' : World} {b k n r rr cr s m ar base gg c : Nat} {A : Ar} {ps : List Part} {V : Nat → Value} {lg g lv th ho lv2 wv2 v : Value} {L : Nat → List Int} {bs : List (Bt × Value)} {left ws : List Int} {C : Col.Co} {f : Nat → Nat → Int}
theorem upA_same (L : Nat → List Int) (s : Nat) : upA L s (L s) = L := by
  funext j
  by_cases e : j = s
  · subst e; rw [upA_at]
  · rw [upA_ne _ _ e]
theorem addr_fit {x : Nat} (h : x < 15) (i : Int) (hi : i = 3 ∨ i = 4) : W64 (hS (sgN x)) ∧ (Lit.int .i64 (5 * (ofN x : Int) + i)).wf = true := by
  have := (sg_facts (show x < 255 by omega))
  obtain ⟨q1, q2, q3⟩ := this
  refine ⟨hS_64 (by omega), wf_small (by omega) (by omega)⟩
theorem gear_s {S0 : Sw} {pts : List Part} (h : SwIs w.heap.size r b ar s m S0 pts) (S : Stash w b A k (pts ++ atP w.heap.size ar L V lg bs :: ps) W) (hk : k ≤ 1000000) (hn : n ≤ 4) (F : S0.Fit n m) (I : ColB.SegB A n f) (hs : s < 255) (hl : (L s).length ≤ 1000000) (hm : m ≤ 9223372036854775807) :
    Calls Tryz.prog 73 #[.pointer (some ⟨r, 0, none⟩)] W fun e w' => e = .returned (.tuple #[]) ∧ ∃ pts' V', SwIs w.heap.size r b ar s m (S0.step n f A m) pts' ∧ Stash w b (S0.acc A) (k + 1) (pts' ++ atP w.heap.size ar (upA L s (S0.lst (L s))) V' lg bs :: ps) w' := by
  cases h with
  | coll C rest ws left wb mb gb tb cr v lv h0 hc =>
    have FC := F.co rfl
    have FC' := Col.fit_step (f := f) hn FC
    have e1 : (Sw.lst (L s) ⟨0, C, rest, ws, left⟩) = L s := by unfold Sw.lst; rw [if_neg (by simp)]
    have e2 : (Sw.acc A ⟨0, C, rest, ws, left⟩) = C.acc A := by unfold Sw.acc; rw [if_pos rfl]
    rw [e1, e2, upA_same]
    rw [List.append_assoc] at S
    have hlen : left.length ≤ 65536 := F.llen
    have hst : ∀ qs W1, Stash w b A k (acP w.heap.size cr b C v :: qs) W1 → Calls Tryz.prog 225 #[.pointer (some ⟨cr, 0, none⟩)] W1 fun e w' => e = .returned (.tuple #[]) ∧ ∃ mp', (∃ v', mp' = acP w.heap.size cr b (C.step n f) v') ∧ Stash w b (C.acc A) (k + 1) (mp' :: qs) w' := fun qs W1 S1 => by
      refine (ac_step S1 hk hn FC I).mono ?_
      rintro e w' ⟨he, v', S2⟩
      exact ⟨he, _, ⟨v', rfl⟩, S2⟩
    by_cases hp : (C.step n f).ph = 2
    · have e3 : Sw.step n f A m ⟨0, C, rest, ws, left⟩ = Sw.look m ⟨0, C.step n f, rest, ws, left⟩ := by
        unfold Sw.step
        rw [if_pos rfl, if_pos hp]
      rw [e3]
      refine (run_last_s (Q := fun mp' => ∃ v', mp' = acP w.heap.size cr b (C.step n f) v') (R := fun w' => ∃ pts, SwIs w.heap.size r b ar s m (Sw.look m ⟨0, C.step n f, rest, ws, left⟩) pts ∧ Stash w b (C.acc A) (k + 1) (pts ++ atP w.heap.size ar L V lg bs :: ps) w') (isM_coll cr) S hst ?_ ?_).mono ?_
      · rintro mp' qs W1 ⟨v', rfl⟩ S1 hm1
        have := ac_done S1 hm1 (by omega)
        rwa [decide_eq_true hp] at this
      · rintro mp' W1 ⟨v', rfl⟩ S1
        refine call_fn #[.pointer (some ⟨r, 0, none⟩)] #[] W1 enters_look ?_
        exact look_s (S0 := ⟨0, C.step n f, rest, ws, left⟩) S1 rfl (by show left.length ≤ _; omega) h0 hm (fun x hx => by have := FC'.small x hx; omega) (by have h1 := FC'.few; have h2 : (C.step n f).pos = 15 := Col.pos_2 hp; have h3 : (C.step n f).L.length ≤ (C.step n f).pos := h1; omega)
      · rintro e w' ⟨he, pts, h1, h2⟩
        exact ⟨he, pts, V, h1, h2⟩
    · have e3 : Sw.step n f A m ⟨0, C, rest, ws, left⟩ = ⟨0, C.step n f, rest, ws, left⟩ := by
        unfold Sw.step
        rw [if_pos rfl, if_neg hp]
      rw [e3]
      refine (run_more_s (Q := fun mp' => ∃ v', mp' = acP w.heap.size cr b (C.step n f) v') (isM_coll cr) S hst ?_).mono ?_
      · rintro mp' qs W1 ⟨v', rfl⟩ S1 hm1
        have hph := FC'.ph
        have := ac_done S1 hm1 (by omega)
        rwa [decide_eq_false hp] at this
      · rintro e w' ⟨he, mp', ⟨v', rfl⟩, S2⟩
        refine ⟨he, _, V, .coll (C.step n f) rest ws left wb mb gb tb cr v' lv h0 hp, ?_⟩
        rw [List.append_assoc]
        exact S2
  | read C rest ws left wb mb gb tb rr th lv2 wv2 lv h0 hr =>
    obtain ⟨a, t, rfl⟩ : ∃ a t, rest = a :: t := by
      cases rest with
      | nil => exact absurd rfl hr
      | cons a t => exact ⟨a, t, rfl⟩
    have e1 : (Sw.lst (L s) ⟨1, C, a :: t, ws, left⟩) = L s := by unfold Sw.lst; rw [if_neg (by simp)]
    have e2 : (Sw.acc A ⟨1, C, a :: t, ws, left⟩) = (A.read a.1 a.2).1 := by unfold Sw.acc; rw [if_neg (by simp), if_pos rfl]
    rw [e1, e2, upA_same]
    rw [List.append_assoc] at S
    have hlen : left.length ≤ 65536 := F.llen
    have hrl : (a :: t).length + ws.length ≤ 1000 := F.rlen
    have hrl2 : t.length + 1 + ws.length ≤ 1000 := by simpa using hrl
    obtain ⟨ha1, ha2⟩ := F.rest a (List.mem_cons_self ..)
    have hst : ∀ qs W1, Stash w b A k (rdP rr b (a :: t) ws lv2 wv2 :: qs) W1 → Calls Tryz.prog 227 #[.pointer (some ⟨rr, 0, none⟩)] W1 fun e w' => e = .returned (.tuple #[]) ∧ ∃ mp', (∃ lv' wv', mp' = rdP rr b t (ws ++ [(A.read a.1 a.2).2.1]) lv' wv') ∧ Stash w b (A.read a.1 a.2).1 (k + 1) (mp' :: qs) w' := fun qs W1 S1 => by
      refine (rd_step_s (blk := a.1) (i := a.2) S1 hk (by omega) (by omega) ha1 ha2).mono ?_
      rintro e w' ⟨he, lv', wv', S2⟩
      exact ⟨he, _, ⟨lv', wv', rfl⟩, S2⟩
    by_cases hp : t = []
    · have e3 : Sw.step n f A m ⟨1, C, a :: t, ws, left⟩ = Sw.sort m ⟨1, C, [], ws ++ [(A.read a.1 a.2).2.1], left⟩ := by
        unfold Sw.step
        rw [if_neg (by simp), if_pos rfl]
        dsimp only
        rw [if_pos hp]
      rw [e3]
      subst hp
      refine (run_last_s (Q := fun mp' => ∃ lv' wv', mp' = rdP rr b [] (ws ++ [(A.read a.1 a.2).2.1]) lv' wv') (R := fun w' => ∃ pts, SwIs w.heap.size r b ar s m (Sw.sort m ⟨1, C, [], ws ++ [(A.read a.1 a.2).2.1], left⟩) pts ∧ Stash w b (A.read a.1 a.2).1 (k + 1) (pts ++ atP w.heap.size ar L V lg bs :: ps) w') (isM_reads rr) S hst ?_ ?_).mono ?_
      · rintro mp' qs W1 ⟨lv', wv', rfl⟩ S1 hm1
        exact rd_done_s (Lr := []) S1 hm1
      · rintro mp' W1 ⟨lv', wv', rfl⟩ S1
        exact sort_call (S0 := ⟨1, C, [], ws ++ [(A.read a.1 a.2).2.1], left⟩) S1 (by show left.length ≤ _; omega) h0 (by simp; omega) hm
      · rintro e w' ⟨he, pts, h1, h2⟩
        exact ⟨he, pts, V, h1, h2⟩
    · have e3 : Sw.step n f A m ⟨1, C, a :: t, ws, left⟩ = ⟨1, C, t, ws ++ [(A.read a.1 a.2).2.1], left⟩ := by
        unfold Sw.step
        rw [if_neg (by simp), if_pos rfl]
        dsimp only
        rw [if_neg hp]
      rw [e3]
      refine (run_more_s (Q := fun mp' => ∃ lv' wv', mp' = rdP rr b t (ws ++ [(A.read a.1 a.2).2.1]) lv' wv') (isM_reads rr) S hst ?_).mono ?_
      · rintro mp' qs W1 ⟨lv', wv', rfl⟩ S1 hm1
        have := rd_done_s S1 hm1
        rwa [show decide (t.length = 0) = false from decide_eq_false (by simpa using hp)] at this
      · rintro e w' ⟨he, mp', ⟨lv', wv', rfl⟩, S2⟩
        refine ⟨he, _, V, .read C t (ws ++ [(A.read a.1 a.2).2.1]) left wb mb gb tb rr th lv' wv' lv h0 hp, ?_⟩
        rw [List.append_assoc]
        exact S2
  | free C rest ws left lv th ho h0 =>
    obtain ⟨h, t, rfl⟩ : ∃ h t, left = h :: t := by
      cases left with
      | nil => exact absurd rfl h0
      | cons a t => exact ⟨a, t, rfl⟩
    have hlen : (h :: t).length ≤ 65536 := F.llen
    have h64 := F.left h (List.mem_cons_self ..)
    have e1 : (Sw.lst (L s) ⟨2, C, rest, ws, h :: t⟩) = (L s).erase h := by unfold Sw.lst; rw [if_pos rfl]
    have e2 : (Sw.acc A ⟨2, C, rest, ws, h :: t⟩) = (A.free h).1 := by unfold Sw.acc; rw [if_neg (by simp), if_neg (by simp), if_pos rfl]
    rw [e1, e2]
    refine gstep_any r (freeV r) W (sw_cells S (List.mem_cons_self ..)).1 ?_
    refine (call_fn #[.pointer (some ⟨r, 0, none⟩)] #[] W enters_free (R := fun w' => ∃ lv' V', Stash w b (A.free h).1 (k + 1) (swB r b ar s m (nxG r t.length) lv' th ho :: lfP lv' t :: atP w.heap.size ar (upA L s ((L s).erase h)) V' lg bs :: ps) w') (free_sw S hk hs h64 hl (by simp at hlen; omega))).mono ?_
    rintro e w' ⟨he, lv', V', S2⟩
    by_cases hp : t = []
    · have e3 : Sw.step n f A m ⟨2, C, rest, ws, h :: t⟩ = ⟨3, C, rest, ws, []⟩ := by
        unfold Sw.step
        rw [if_neg (by simp), if_neg (by simp), if_pos rfl]
        dsimp only
        rw [if_pos hp]
      rw [e3]
      subst hp
      exact ⟨he, _, V', .done C rest ws [] lv' th ho, (S2.perm (List.Perm.swap ..)).drop⟩
    · have e3 : Sw.step n f A m ⟨2, C, rest, ws, h :: t⟩ = ⟨2, C, rest, ws, t⟩ := by
        unfold Sw.step
        rw [if_neg (by simp), if_neg (by simp), if_pos rfl]
        dsimp only
        rw [if_neg hp]
      rw [e3]
      have e4 : nxG r t.length = freeV r := by unfold nxG; rw [if_neg (by simpa using hp)]
      rw [e4] at S2
      exact ⟨he, _, V', .free C rest ws t lv' th ho hp, S2⟩
  | done C rest ws left lv th ho =>
    have e1 : (Sw.lst (L s) ⟨3, C, rest, ws, left⟩) = L s := by unfold Sw.lst; rw [if_neg (by simp)]
    have e2 : (Sw.acc A ⟨3, C, rest, ws, left⟩) = A := by unfold Sw.acc; rw [if_neg (by simp), if_neg (by simp), if_neg (by simp)]
    have e3 : Sw.step n f A m ⟨3, C, rest, ws, left⟩ = ⟨3, C, rest, ws, left⟩ := by unfold Sw.step; rw [if_neg (by simp), if_neg (by simp), if_neg (by simp)]
    rw [e1, e2, e3, upA_same]
    refine gstep_any r .nilFunc W (sw_cells S (List.mem_cons_self ..)).1 ?_
    refine (call_none W).mono ?_
    rintro e w' ⟨he, rfl⟩
    exact ⟨he, _, V, .done C rest ws left lv th ho, ⟨S.kin.more (by omega), S.fra, S.on, S.off, S.self, S.low⟩⟩
theorem step_s {S0 : Sw} {pts : List Part} (h : SwIs w.heap.size r b ar s m S0 pts) (S : Stash w b A k (pts ++ atP w.heap.size ar L V lg bs :: ps) W) (hk : k ≤ 1000000) (hn : n ≤ 4) (F : S0.Fit n m) (I : ColB.SegB A n f) (hs : s < 255) (hl : (L s).length ≤ 1000000) (hm : m ≤ 9223372036854775807) :
    Calls Tryz.prog 53 #[.pointer (some ⟨r, 0, none⟩)] W fun e w' => e = .returned (.tuple #[]) ∧ ∃ pts' V', SwIs w.heap.size r b ar s m (S0.step n f A m) pts' ∧ Stash w b (S0.acc A) (k + 1) (pts' ++ atP w.heap.size ar (upA L s (S0.lst (L s))) V' lg bs :: ps) w' := by
  have H := Lib.hid (gear_s h S hk hn F I hs hl hm)
  generalize upA L s (S0.lst (L s)) = L' at H ⊢
  generalize S0.acc A = A' at H ⊢
  generalize S0.step n f A m = S' at H ⊢
  clear h S F I
  go_enter Tryz.func53, Tryz.ntmps53
  go_wp2_with (go_at_call 73; (with_reducible refine (H.out).mono ?_); rintro e w1 ⟨rfl, ha⟩)
  go_end0
  exact ⟨rfl, ha⟩
end Att
end Go.Proofs.YtpajafecodkndaaGreat
