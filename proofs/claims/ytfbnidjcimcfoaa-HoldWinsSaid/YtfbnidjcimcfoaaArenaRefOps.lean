/- The document's Set in one form; Read, Write, Swap and Add. -/
import Derived.Test.YtfbnidjcimcfoaaArenaRefSet
set_option linter.unusedVariables false
set_option linter.unusedSimpArgs false
namespace Go.Proofs.Ytfbnidjcimcfoaa
namespace Arn
open Go.RowKit Hp Go.Maps

/-- The document's arena, by value, with its fixed words. -/
def RefS (w : World) (A : Ar) (u : Value) (G : List Nat) : Prop := ∃ f0 f1 f2 f3 f4 f5 f6 f7 f8 : Int, A.fixed = [f0, f1, f2, f3, f4, f5, f6, f7, f8] ∧ RefAt w A f0 f1 f2 f3 f4 f5 f6 f7 f8 u G
theorem RefS.turn {w w' : World} {A : Ar} {u : Value} {G F : List Nat} (h : RefS w A u G) (hT : Frm.Turn F w w') (hG : ∀ k, k ∈ G → k ∉ F) : RefS w' A u G := by
  obtain ⟨f0, f1, f2, f3, f4, f5, f6, f7, f8, h1, h2⟩ := h
  exact ⟨f0, f1, f2, f3, f4, f5, f6, f7, f8, h1, h2.turn hT hG⟩
theorem RefS.row {w : World} {A : Ar} {u : Value} {G : List Nat} (h : RefS w A u G) : ∃ CS : Array Value, u = .agg CS ∧ CS.size = 20 ∧ CS.all (·.oneCell') = true := by
  obtain ⟨f0, f1, f2, f3, f4, f5, f6, f7, f8, h1, v, l, rfl, h3, h4, h5⟩ := h
  obtain ⟨a, c, rfl⟩ := h4.form
  exact ⟨_, rfl, rfl, refCells_one _ _ _ _ _ _ _ _ _ _ _ _ _⟩
theorem RefIn.tells {w W : World} {bx bz : Nat} {CS : Array Value} (h : RefIn w bx bz CS W) (C : Array Value) (hsz : C.size = 20) {fs : Array Field} (hfs : Try.prog.underlying 32 = some (.struct fs)) :
    (loadVar 32 ⟨bz, 0, none⟩).run Try.prog (W.setRow bz C) = .ok (.agg C) (W.setRow bz C) := by
  obtain ⟨Z, z1, z2⟩ := h.res
  exact run_loadVar_row (W.setRow bz C) bz _ _ C (0, 0) (.struct fs) (setRow_heap W bz Z C _ _ z2) hfs rfl (by rw [hsz]; exact info_refA)
theorem RefIn.ends {w W : World} {bx bz : Nat} {CS : Array Value} (h : RefIn w bx bz CS W) (C : Array Value) : Frm.Turn [] w (W.setRow bz C) := setRow_turn h.turn (.inr h.nz) C
theorem RefIn.put {w W : World} {bx bz : Nat} {CS : Array Value} (h : RefIn w bx bz CS W) (C : Array Value) : RefIn w bx bz C (W.setRow bx C) ∧ Frm.Turn [bx] W (W.setRow bx C) := by
  have hT : Frm.Turn [bx] W (W.setRow bx C) := setRow_turn (Frm.Turn.refl _ _) (.inl (by simp)) C
  obtain ⟨Z, z1, z2⟩ := h.res
  exact ⟨⟨setRow_heap W bx CS C _ _ h.own, ⟨Z, z1, hT.keep z2 (by simp; exact fun e => h.ne e.symm)⟩, h.ne, h.nx, h.nz, setRow_turn h.turn (.inr h.nx) C⟩, hT⟩
theorem refSet_any (A : Ar) (u : Value) (G : List Nat) (w : World) (h : RefS w A u G) (hok : A.Ok) (blk i x : Int) (he : A.err blk i = 0) :
    Calls Try.prog 49 #[u, .agg #[.int .u64 blk, .int .i64 i], .int .u64 x] w fun e w' => ∃ u' G', e = .returned u' ∧ RefS w' (A.set blk i x) u' G' ∧ Frm.Turn [] w w' ∧ ∀ q, q ∈ G' → q ∈ G ∨ (w.heap.size ≤ q ∧ q < w'.heap.size) := by
  obtain ⟨f0, f1, f2, f3, f4, f5, f6, f7, f8, hfix, v, l, rfl, hAL, hB, rfl⟩ := h
  have hl := len_of hok hAL
  obtain ⟨ws, hr, hi0, hi1, _⟩ := err_row he
  by_cases hz : blk = 0
  · have hrow : A.row blk = some A.fixed := by unfold Ar.row; rw [if_pos hz]
    have hi9 : i < 9 := by
      rw [hrow] at hr
      cases hr
      rw [hfix] at hi1
      simpa using hi1
    refine (refSet_fix A f0 f1 f2 f3 f4 f5 f6 f7 f8 v l w hB (by omega) blk i x hz hi0 hi9).mono ?_
    rintro e w' ⟨rfl, hT⟩
    obtain ⟨g0, g1, g2, g3, g4, g5, g6, g7, g8, h1, h2⟩ := fix_set A f0 f1 f2 f3 f4 f5 f6 f7 f8 v x i.toNat (by omega)
    have e1 : A.set blk i x = { A with fixed := A.fixed.set i.toNat x } := by unfold Ar.set; rw [if_pos hz]
    refine ⟨_, _, rfl, ⟨g0, g1, g2, g3, g4, g5, g6, g7, g8, by rw [e1, h1, ← hfix], v, l, ?_, by rw [e1]; exact hAL, hB.step hT, rfl⟩, hT, fun q hq => .inl hq⟩
    rw [h2, e1]
    rfl
  · have hrow : A.row blk = look A.L blk := by unfold Ar.row; rw [if_neg hz]
    rw [hrow] at hr
    rcases place_of hok hAL blk with ⟨hh, _⟩ | ⟨hh, j, y, hy, hyk, hu, hyA⟩
    · rw [look_none.2 hh] at hr; cases hr
    · have hlk : look A.L blk = some y.1.ws := hok.look_some.2 ⟨y.1, List.mem_of_getElem? hyA, hyk, rfl⟩
      rw [hlk] at hr
      cases hr
      have hlen := (hok.len y.1 (List.mem_of_getElem? hyA)).2
      refine (refSet_blk A f0 f1 f2 f3 f4 f5 f6 f7 f8 v l w hB (by omega) blk i x hz j y hy hyk hu hi0 hi1 (by omega)).mono ?_
      rintro e w' ⟨v', v5, rfl, h2, hT, h4, h5⟩
      have e1 : A.set blk i x = { A with L := setW A.L blk i.toNat x } := by unfold Ar.set; rw [if_neg hz]
      have e2 := setW_place hok hyA i.toNat x
      rw [hyk] at e2
      refine ⟨_, _, rfl, ⟨f0, f1, f2, f3, f4, f5, f6, f7, f8, by rw [e1]; exact hfix, v', _, ?_, ?_, h2, rfl⟩, hT, fun q hq => ?_⟩
      · rw [e1]; rfl
      · rw [e1, List.map_set, hAL]
        show _ = setW A.L blk i.toNat x
        rw [e2, hyk]
      · rcases mem_refFoot.1 hq with hq | ⟨z, hz', hq⟩
        · exact .inr (h4 q hq)
        · rcases List.mem_or_eq_of_mem_set hz' with hz' | rfl
          · exact .inl (mem_refFoot.2 (.inr ⟨z, hz', hq⟩))
          · exact .inr (h5 q hq)
set_option maxRecDepth 100000 in
set_option maxHeartbeats 4000000 in
theorem refWrite_any (A : Ar) (u : Value) (G : List Nat) (w : World) (h : RefS w A u G) (hok : A.Ok) (hf : A.faults ≤ 100000000) (ht : A.t.writes ≤ 100000000) (blk i x : Int) (hlt : ∀ k, k ∈ G → k < w.heap.size) :
    Calls Try.prog 30 #[u, .agg #[.int .u64 blk, .int .i64 i], .int .u64 x] w fun e w' => ∃ u' G', e = .returned (.tuple #[u', .int .i64 (A.write blk i x).2]) ∧ RefS w' (A.write blk i x).1 u' G' ∧ Frm.Turn [] w w' ∧ ∀ q, q ∈ G' → q ∈ G ∨ (w.heap.size ≤ q ∧ q < w'.heap.size) := by
  obtain ⟨f0, f1, f2, f3, f4, f5, f6, f7, f8, hfix, v, l, rfl, hAL, hB, rfl⟩ := h
  obtain ⟨va, vc, rfl⟩ := hB.form
  obtain ⟨fs, hfs⟩ := struct_of under_refA
  have HG := Lib.hid (fun W (hT : Frm.Turn [] w W) => refGet_any A f0 f1 f2 f3 f4 f5 f6 f7 f8 _ l W (hB.step hT) hAL hok hfix hf blk i)
  have HB := Lib.hid hB
  have HAL := Lib.hid hAL
  have HFIX := Lib.hid hfix
  have HOK := Lib.hid hok
  have hfoot : ∀ k, k ∈ refFoot (.slice va l.length vc) l → k ∈ refFoot (.slice va l.length vc) l := fun k hk => hk
  obtain ⟨gw, HGW⟩ : ∃ x, Hid (x = A.gotW blk i) := ⟨_, Lib.hid rfl⟩
  obtain ⟨er, HER⟩ : ∃ x, Hid (x = A.err blk i) := ⟨_, Lib.hid rfl⟩
  obtain ⟨C2, HC2⟩ : ∃ C, Hid (C = refCells (A.got blk i) f0 f1 f2 f3 f4 f5 f6 f7 f8 (.slice va l.length vc)) := ⟨_, Lib.hid rfl⟩
  have HSZC2 : Hid (C2.size = 20) := Lib.hid (by rw [HC2.out]; rfl)
  have HONEC2 : Hid (C2.all (·.oneCell') = true) := Lib.hid (by rw [HC2.out]; exact refCells_one _ _ _ _ _ _ _ _ _ _ _ _ _)
  obtain ⟨CS, HCS⟩ : ∃ CS, Hid (CS = refCells A f0 f1 f2 f3 f4 f5 f6 f7 f8 (.slice va l.length vc)) := ⟨_, Lib.hid rfl⟩
  have HSZCS : Hid (CS.size = 20) := Lib.hid (by rw [HCS.out]; rfl)
  have HONECS : Hid (CS.all (·.oneCell') = true) := Lib.hid (by rw [HCS.out]; exact refCells_one _ _ _ _ _ _ _ _ _ _ _ _ _)
  have HFS := Lib.hid hfs
  rw [show refCells A f0 f1 f2 f3 f4 f5 f6 f7 f8 (.slice va l.length vc) = CS from HCS.out.symm]
  rw [← HCS.out, ← HC2.out, ← HGW.out, ← HER.out] at HG
  obtain ⟨GG, HGG⟩ : ∃ GG, Hid (GG = refFoot (.slice va l.length vc) l) := ⟨_, Lib.hid rfl⟩
  rw [← HGG.out] at hlt ⊢
  have HLT := Lib.hid hlt
  clear hlt
  have HGL : Hid (∀ (A' : Ar) (C : Array Value) W, Frm.Turn [] w W → A'.L = A.L → A'.fixed = A.fixed → C = refCells A' f0 f1 f2 f3 f4 f5 f6 f7 f8 (.slice va l.length vc) → RefS W A' (.agg C) GG) := Lib.hid fun A' C W hT e1 e2 e3 =>
    ⟨f0, f1, f2, f3, f4, f5, f6, f7, f8, by rw [e2]; exact HFIX.out, _, l, by rw [e3], by rw [e1]; exact HAL.out, HB.out.step hT, HGG.out⟩
  clear hfs hAL hB hfix hfoot
  go_enter Try.func30, Try.ntmps30
  go_upto_region 1 with fail
  obtain ⟨hin, hbq⟩ := RefIn.start3 w CS #[.int .u64 blk, .int .i64 i] #[.int .i64 0, .int .i64 0, .int .i64 0, .int .i64 0, .int .u64 0, .int .u64 0, .int .u64 0, .int .u64 0, .int .u64 0, .int .u64 0, .int .u64 0, .int .u64 0, .int .u64 0, .slice none 0 0, .int .i64 0, .int .i64 0, .int .i64 0, .int .i64 0, .int .i64 0, .int .i64 0] rfl
  obtain ⟨bx, Hx⟩ : ∃ bx, Hid (bx = w.heap.size) := ⟨_, Lib.hid rfl⟩
  obtain ⟨bq, Hq⟩ : ∃ bq, Hid (bq = w.heap.size + 1) := ⟨_, Lib.hid rfl⟩
  obtain ⟨bz, Hz⟩ : ∃ bz, Hid (bz = w.heap.size + 2) := ⟨_, Lib.hid rfl⟩
  rw [← Hz.out, ← Hx.out] at hin
  rw [← Hq.out] at hbq
  rw [← Hz.out, ← Hq.out, ← Hx.out]
  generalize ((w.alloc (.cells CS 32)).alloc _).alloc _ = W1 at hin hbq ⊢
  have HIN := Lib.hid hin
  have HT1 := Lib.hid hin.turn
  have HBQ := Lib.hid hbq
  have a0 : W1.cell? ⟨bq, 0, none⟩ = some (.int .u64 blk) := Frm.cell_row _ _ _ _ _ _ hbq
  have a1 : W1.cell? ⟨bq, 1, none⟩ = some (.int .i64 i) := Frm.cell_row _ _ _ _ _ _ hbq
  clear hin hbq
  go_upto_region 2 with (first
    | (refine wpList_load_row rfl 32 (.tmp 3) rfl bx rfl 32 CS (0, 0) (.struct fs) HIN.out.own HFS.out rfl (by rw [HSZCS.out]; exact info_refA) ?_)
    | (go_at_call 48; (with_reducible refine (HG.out _ HT1.out).mono ?_); rintro e w2 ⟨rfl, hT⟩; have HT2 := Lib.hid hT; have HIN2 := Lib.hid (HIN.out.step hT (by simp) (by simp) (by simp)); clear hT)
    | (refine wpList_store_row rfl 32 (.tmp 3) (.tmp 14) rfl bx C2 rfl rfl 32 CS HIN2.out.own (by rw [HSZC2.out]; exact info_refA) (by rw [HSZC2.out, HSZCS.out]) HONEC2.out ?_))
  try simp only [Act.put, List.getElem_toArray, List.getElem_cons_succ, List.getElem_cons_zero, List.setIfInBounds_toArray, List.set_cons_zero, List.set_cons_succ]
  obtain ⟨hin3, ht3⟩ := HIN2.out.put C2
  have hbq3 := ht3.keep (HT2.out.keep HBQ.out (by simp)) (by rw [Hq.out, Hx.out]; simp)
  generalize w2.setRow bx C2 = W3 at hin3 ht3 hbq3 ⊢
  have HIN3 := Lib.hid hin3
  have HBQ3 := Lib.hid hbq3
  clear hin3 ht3 hbq3 a0 a1
  have a0 : W3.cell? ⟨bq, 0, none⟩ = some (.int .u64 blk) := Frm.cell_row _ _ _ _ _ _ HBQ3.out
  have a1 : W3.cell? ⟨bq, 1, none⟩ = some (.int .i64 i) := Frm.cell_row _ _ _ _ _ _ HBQ3.out
  by_cases hz : er = 0
  · have hez : (er == 0) = true := by simp [hz]
    have hez' : (er != 0) = false := by simp [hz]
    have HZ := Lib.hid hz
    clear hz
    have hee : A.err blk i = 0 := by rw [← HER.out]; exact HZ.out
    have HC2' : Hid (C2 = refCells A f0 f1 f2 f3 f4 f5 f6 f7 f8 (.slice va l.length vc)) := Lib.hid (by rw [HC2.out]; unfold Ar.got; rw [if_pos hee])
    have HGW' : Hid (gw = A.get blk i) := Lib.hid (by rw [HGW.out]; unfold Ar.gotW; rw [if_pos hee])
    have HEE := Lib.hid hee
    clear hee
    have c16 : W3.cell? ⟨bx, 17, none⟩ = some (.int .i64 A.t.writes) := by rw [HIN3.out.cell, HC2'.out]; rfl
    have f16 := HIN3.out.thaw 17
    go_upto_region 5 with fail
    have hin4 := HIN3.out.set 17 (.int .i64 ((A.t.writes : Int) + 1))
    have ht4 : Frm.Turn [bx] W3 (W3.setCell ⟨bx, 17, none⟩ (.int .i64 ((A.t.writes : Int) + 1))) := (Frm.Turn.refl _ W3).setCell (p := ⟨bx, 17, none⟩) (.inl (by simp)) _
    generalize W3.setCell ⟨bx, 17, none⟩ (.int .i64 ((A.t.writes : Int) + 1)) = W4 at hin4 ht4 ⊢
    rw [HC2'.out] at hin4
    obtain ⟨C3, HC3⟩ : ∃ C, Hid (C = refCells ({ A with t := { A.t with writes := A.t.writes + 1 } }) f0 f1 f2 f3 f4 f5 f6 f7 f8 (.slice va l.length vc)) := ⟨_, Lib.hid rfl⟩
    rw [show (refCells A f0 f1 f2 f3 f4 f5 f6 f7 f8 (.slice va l.length vc)).setIfInBounds 17 (.int .i64 ((A.t.writes : Int) + 1)) = C3 by rw [HC3.out]; simp [refCells]] at hin4
    have HSZC3 : Hid (C3.size = 20) := Lib.hid (by rw [HC3.out]; rfl)
    have HONEC3 : Hid (C3.all (·.oneCell') = true) := Lib.hid (by rw [HC3.out]; exact refCells_one _ _ _ _ _ _ _ _ _ _ _ _ _)
    have HIN4 := Lib.hid hin4
    have hbq4 := ht4.keep HBQ3.out (by rw [Hq.out, Hx.out]; simp)
    clear a0 a1
    have a0 : W4.cell? ⟨bq, 0, none⟩ = some (.int .u64 blk) := Frm.cell_row _ _ _ _ _ _ hbq4
    have a1 : W4.cell? ⟨bq, 1, none⟩ = some (.int .i64 i) := Frm.cell_row _ _ _ _ _ _ hbq4
    have HST := Lib.hid (fun x => refSet_any ({ A with t := { A.t with writes := A.t.writes + 1 } }) (.agg C3) GG W4 (HGL.out ({ A with t := { A.t with writes := A.t.writes + 1 } }) C3 W4 HIN4.out.turn rfl rfl HC3.out) (HOK.out.tally A.faults _) blk i x HEE.out)
    have HBZ := Lib.hid HIN4.out.lt.2
    have HNZW := Lib.hid HIN4.out.nz
    clear hin4 ht4 hbq4 c16 f16
    go_wp2_with (first
      | (refine wpList_load_row rfl 32 (.tmp 3) rfl bx rfl 32 C3 (0, 0) (.struct fs) HIN4.out.own HFS.out rfl (by rw [HSZC3.out]; exact info_refA) ?_)
      | (go_at_call 49; (with_reducible refine (HST.out _).mono ?_); rintro e w5 ⟨u5, G5, rfl, hS5, hT5, hG5⟩; obtain ⟨C5, rfl, hz5, ho5⟩ := hS5.row; have HIN5 := Lib.hid (HIN4.out.step hT5 (by simp) (by simp) (by simp)); obtain ⟨Z, z1, z2⟩ := HIN5.out.res; have HZ1 := Lib.hid z1; have HZ2 := Lib.hid z2; have HSZC5 := Lib.hid hz5; have HONEC5 := Lib.hid ho5; have HS5 := Lib.hid hS5; have HT5 := Lib.hid hT5; have HG5 := Lib.hid hG5; clear z1 z2 hz5 ho5 hS5 hT5 hG5)
      | (refine wpList_store_row rfl 32 (.tmp 6) (.tmp 30) rfl bz C5 rfl rfl 32 Z HZ2.out (by rw [HSZC5.out]; exact info_refA) (by rw [HZ1.out, HSZC5.out]) HONEC5.out ?_))
    have hld := HIN5.out.tells C5 HSZC5.out HFS.out
    have hdef : A.write blk i x = (({ A with t := { A.t with writes := A.t.writes + 1 } } : Ar).set blk i x, 0) := by unfold Ar.write; rw [if_pos HEE.out]; unfold Ar.set; split <;> rfl
    rw [hdef]
    have hfin : RefS (w5.setRow bz C5) (({ A with t := { A.t with writes := A.t.writes + 1 } } : Ar).set blk i x) (.agg C5) G5 := by
      refine HS5.out.turn (F := [bz]) (setRow_turn (Frm.Turn.refl _ _) (.inl (by simp)) C5) (fun k hk hk' => ?_)
      simp at hk'; subst hk'
      rcases HG5.out _ hk with h1 | h1
      · have := HLT.out _ h1; have := HNZW.out; omega
      · have := HBZ.out; omega
    have hend := HIN5.out.ends C5
    refine bodyPost_ret (v := .tuple #[.agg C5, .int .i64 0]) (by simp [results, Try.results30, asAddr, hld, Act.put]) rfl ?_
    first | refine ⟨.agg C5, G5, ?_, hfin, hend, fun q hq => ?_⟩ | refine ⟨.agg C5, ?_, G5, hfin, hend, fun q hq => ?_⟩
    · simp [HZ.out, HGW'.out]
    · rcases HG5.out q hq with h1 | h1
      · exact .inl h1
      · refine .inr ⟨by have := HIN4.out.turn.size; omega, by simpa using h1.2⟩
  · have hez : (er == 0) = false := by simpa using hz
    have hez' : (er != 0) = true := by simpa using hz
    have HNZ := Lib.hid hz
    clear hz
    obtain ⟨Z, z1, z2⟩ := HIN3.out.res
    have HZ1 := Lib.hid z1
    have HZ2 := Lib.hid z2
    have hld := HIN3.out.told HSZC2.out HFS.out
    clear z1 z2
    go_wp2_with (first
      | (refine wpList_load_row rfl 32 (.tmp 3) rfl bx rfl 32 C2 (0, 0) (.struct fs) HIN3.out.own HFS.out rfl (by rw [HSZC2.out]; exact info_refA) ?_)
      | (refine wpList_store_row rfl 32 (.tmp 6) (.tmp 19) rfl bz C2 rfl rfl 32 Z HZ2.out (by rw [HSZC2.out]; exact info_refA) (by rw [HZ1.out, HSZC2.out]) HONEC2.out ?_))
    have hee : A.err blk i ≠ 0 := by rw [← HER.out]; exact HNZ.out
    have hdef : A.write blk i x = (A.miss, A.err blk i) := by unfold Ar.write; rw [if_neg hee]
    rw [hdef]
    refine bodyPost_ret (v := .tuple #[.agg C2, .int .i64 er]) (by simp [results, Try.results30, asAddr, hld, Act.put]) rfl ⟨.agg C2, GG, ?_, HGL.out A.miss C2 _ HIN3.out.end_ rfl rfl (by rw [HC2.out]; unfold Ar.got; rw [if_neg hee]), HIN3.out.end_, fun q hq => .inl hq⟩
    simp [HER.out, HGW.out, Ar.gotW, hee]
set_option maxRecDepth 100000 in
set_option maxHeartbeats 4000000 in
theorem refSwap_any (A : Ar) (u : Value) (G : List Nat) (w : World) (h : RefS w A u G) (hok : A.Ok) (hf : A.faults ≤ 100000000) (ht : A.t.swaps ≤ 100000000) (blk i old x : Int) (hlt : ∀ k, k ∈ G → k < w.heap.size) :
    Calls Try.prog 98 #[u, .agg #[.int .u64 blk, .int .i64 i], .int .u64 old, .int .u64 x] w fun e w' => ∃ u' G', e = .returned (.tuple #[u', .bool (A.swap blk i old x).2.1, .int .i64 (A.swap blk i old x).2.2]) ∧ RefS w' (A.swap blk i old x).1 u' G' ∧ Frm.Turn [] w w' ∧ ∀ q, q ∈ G' → q ∈ G ∨ (w.heap.size ≤ q ∧ q < w'.heap.size) := by
  obtain ⟨f0, f1, f2, f3, f4, f5, f6, f7, f8, hfix, v, l, rfl, hAL, hB, rfl⟩ := h
  obtain ⟨va, vc, rfl⟩ := hB.form
  obtain ⟨fs, hfs⟩ := struct_of under_refA
  have HG := Lib.hid (fun W (hT : Frm.Turn [] w W) => refGet_any A f0 f1 f2 f3 f4 f5 f6 f7 f8 _ l W (hB.step hT) hAL hok hfix hf blk i)
  have HB := Lib.hid hB
  have HAL := Lib.hid hAL
  have HFIX := Lib.hid hfix
  have HOK := Lib.hid hok
  have hfoot : ∀ k, k ∈ refFoot (.slice va l.length vc) l → k ∈ refFoot (.slice va l.length vc) l := fun k hk => hk
  obtain ⟨gw, HGW⟩ : ∃ x, Hid (x = A.gotW blk i) := ⟨_, Lib.hid rfl⟩
  obtain ⟨er, HER⟩ : ∃ x, Hid (x = A.err blk i) := ⟨_, Lib.hid rfl⟩
  obtain ⟨C2, HC2⟩ : ∃ C, Hid (C = refCells (A.got blk i) f0 f1 f2 f3 f4 f5 f6 f7 f8 (.slice va l.length vc)) := ⟨_, Lib.hid rfl⟩
  have HSZC2 : Hid (C2.size = 20) := Lib.hid (by rw [HC2.out]; rfl)
  have HONEC2 : Hid (C2.all (·.oneCell') = true) := Lib.hid (by rw [HC2.out]; exact refCells_one _ _ _ _ _ _ _ _ _ _ _ _ _)
  obtain ⟨CS, HCS⟩ : ∃ CS, Hid (CS = refCells A f0 f1 f2 f3 f4 f5 f6 f7 f8 (.slice va l.length vc)) := ⟨_, Lib.hid rfl⟩
  have HSZCS : Hid (CS.size = 20) := Lib.hid (by rw [HCS.out]; rfl)
  have HONECS : Hid (CS.all (·.oneCell') = true) := Lib.hid (by rw [HCS.out]; exact refCells_one _ _ _ _ _ _ _ _ _ _ _ _ _)
  have HFS := Lib.hid hfs
  rw [show refCells A f0 f1 f2 f3 f4 f5 f6 f7 f8 (.slice va l.length vc) = CS from HCS.out.symm]
  rw [← HCS.out, ← HC2.out, ← HGW.out, ← HER.out] at HG
  obtain ⟨GG, HGG⟩ : ∃ GG, Hid (GG = refFoot (.slice va l.length vc) l) := ⟨_, Lib.hid rfl⟩
  rw [← HGG.out] at hlt ⊢
  have HLT := Lib.hid hlt
  clear hlt
  have HGL : Hid (∀ (A' : Ar) (C : Array Value) W, Frm.Turn [] w W → A'.L = A.L → A'.fixed = A.fixed → C = refCells A' f0 f1 f2 f3 f4 f5 f6 f7 f8 (.slice va l.length vc) → RefS W A' (.agg C) GG) := Lib.hid fun A' C W hT e1 e2 e3 =>
    ⟨f0, f1, f2, f3, f4, f5, f6, f7, f8, by rw [e2]; exact HFIX.out, _, l, by rw [e3], by rw [e1]; exact HAL.out, HB.out.step hT, HGG.out⟩
  clear hfs hAL hB hfix hfoot
  go_enter Try.func98, Try.ntmps98
  go_upto_region 1 with fail
  obtain ⟨hin, hbq⟩ := RefIn.start3 w CS #[.int .u64 blk, .int .i64 i] #[.int .i64 0, .int .i64 0, .int .i64 0, .int .i64 0, .int .u64 0, .int .u64 0, .int .u64 0, .int .u64 0, .int .u64 0, .int .u64 0, .int .u64 0, .int .u64 0, .int .u64 0, .slice none 0 0, .int .i64 0, .int .i64 0, .int .i64 0, .int .i64 0, .int .i64 0, .int .i64 0] rfl
  obtain ⟨bx, Hx⟩ : ∃ bx, Hid (bx = w.heap.size) := ⟨_, Lib.hid rfl⟩
  obtain ⟨bq, Hq⟩ : ∃ bq, Hid (bq = w.heap.size + 1) := ⟨_, Lib.hid rfl⟩
  obtain ⟨bz, Hz⟩ : ∃ bz, Hid (bz = w.heap.size + 2) := ⟨_, Lib.hid rfl⟩
  rw [← Hz.out, ← Hx.out] at hin
  rw [← Hq.out] at hbq
  rw [← Hz.out, ← Hq.out, ← Hx.out]
  generalize ((w.alloc (.cells CS 32)).alloc _).alloc _ = W1 at hin hbq ⊢
  have HIN := Lib.hid hin
  have HT1 := Lib.hid hin.turn
  have HBQ := Lib.hid hbq
  have a0 : W1.cell? ⟨bq, 0, none⟩ = some (.int .u64 blk) := Frm.cell_row _ _ _ _ _ _ hbq
  have a1 : W1.cell? ⟨bq, 1, none⟩ = some (.int .i64 i) := Frm.cell_row _ _ _ _ _ _ hbq
  clear hin hbq
  go_upto_region 2 with (first
    | (refine wpList_load_row rfl 32 (.tmp 4) rfl bx rfl 32 CS (0, 0) (.struct fs) HIN.out.own HFS.out rfl (by rw [HSZCS.out]; exact info_refA) ?_)
    | (go_at_call 48; (with_reducible refine (HG.out _ HT1.out).mono ?_); rintro e w2 ⟨rfl, hT⟩; have HT2 := Lib.hid hT; have HIN2 := Lib.hid (HIN.out.step hT (by simp) (by simp) (by simp)); clear hT)
    | (refine wpList_store_row rfl 32 (.tmp 4) (.tmp 17) rfl bx C2 rfl rfl 32 CS HIN2.out.own (by rw [HSZC2.out]; exact info_refA) (by rw [HSZC2.out, HSZCS.out]) HONEC2.out ?_))
  try simp only [Act.put, List.getElem_toArray, List.getElem_cons_succ, List.getElem_cons_zero, List.setIfInBounds_toArray, List.set_cons_zero, List.set_cons_succ]
  obtain ⟨hin3, ht3⟩ := HIN2.out.put C2
  have hbq3 := ht3.keep (HT2.out.keep HBQ.out (by simp)) (by rw [Hq.out, Hx.out]; simp)
  generalize w2.setRow bx C2 = W3 at hin3 ht3 hbq3 ⊢
  have HIN3 := Lib.hid hin3
  have HBQ3 := Lib.hid hbq3
  clear hin3 ht3 hbq3 a0 a1
  have a0 : W3.cell? ⟨bq, 0, none⟩ = some (.int .u64 blk) := Frm.cell_row _ _ _ _ _ _ HBQ3.out
  have a1 : W3.cell? ⟨bq, 1, none⟩ = some (.int .i64 i) := Frm.cell_row _ _ _ _ _ _ HBQ3.out
  by_cases hz : er = 0
  · have hez : (er == 0) = true := by simp [hz]
    have hez' : (er != 0) = false := by simp [hz]
    have HZ := Lib.hid hz
    clear hz
    have hee : A.err blk i = 0 := by rw [← HER.out]; exact HZ.out
    have HC2' : Hid (C2 = refCells A f0 f1 f2 f3 f4 f5 f6 f7 f8 (.slice va l.length vc)) := Lib.hid (by rw [HC2.out]; unfold Ar.got; rw [if_pos hee])
    have HGW' : Hid (gw = A.get blk i) := Lib.hid (by rw [HGW.out]; unfold Ar.gotW; rw [if_pos hee])
    have HEE := Lib.hid hee
    clear hee
    have c16 : W3.cell? ⟨bx, 18, none⟩ = some (.int .i64 A.t.swaps) := by rw [HIN3.out.cell, HC2'.out]; rfl
    have f16 := HIN3.out.thaw 18
    go_upto_region 5 with fail
    have hin4 := HIN3.out.set 18 (.int .i64 ((A.t.swaps : Int) + 1))
    have ht4 : Frm.Turn [bx] W3 (W3.setCell ⟨bx, 18, none⟩ (.int .i64 ((A.t.swaps : Int) + 1))) := (Frm.Turn.refl _ W3).setCell (p := ⟨bx, 18, none⟩) (.inl (by simp)) _
    generalize W3.setCell ⟨bx, 18, none⟩ (.int .i64 ((A.t.swaps : Int) + 1)) = W4 at hin4 ht4 ⊢
    rw [HC2'.out] at hin4
    obtain ⟨C3, HC3⟩ : ∃ C, Hid (C = refCells ({ A with t := { A.t with swaps := A.t.swaps + 1 } }) f0 f1 f2 f3 f4 f5 f6 f7 f8 (.slice va l.length vc)) := ⟨_, Lib.hid rfl⟩
    rw [show (refCells A f0 f1 f2 f3 f4 f5 f6 f7 f8 (.slice va l.length vc)).setIfInBounds 18 (.int .i64 ((A.t.swaps : Int) + 1)) = C3 by rw [HC3.out]; simp [refCells]] at hin4
    have HSZC3 : Hid (C3.size = 20) := Lib.hid (by rw [HC3.out]; rfl)
    have HONEC3 : Hid (C3.all (·.oneCell') = true) := Lib.hid (by rw [HC3.out]; exact refCells_one _ _ _ _ _ _ _ _ _ _ _ _ _)
    have HIN4 := Lib.hid hin4
    have hbq4 := ht4.keep HBQ3.out (by rw [Hq.out, Hx.out]; simp)
    clear a0 a1
    have a0 : W4.cell? ⟨bq, 0, none⟩ = some (.int .u64 blk) := Frm.cell_row _ _ _ _ _ _ hbq4
    have a1 : W4.cell? ⟨bq, 1, none⟩ = some (.int .i64 i) := Frm.cell_row _ _ _ _ _ _ hbq4
    have HST := Lib.hid (fun x => refSet_any ({ A with t := { A.t with swaps := A.t.swaps + 1 } }) (.agg C3) GG W4 (HGL.out ({ A with t := { A.t with swaps := A.t.swaps + 1 } }) C3 W4 HIN4.out.turn rfl rfl HC3.out) (HOK.out.tally A.faults _) blk i x HEE.out)
    have HBZ := Lib.hid HIN4.out.lt.2
    have HNZW := Lib.hid HIN4.out.nz
    clear hin4 ht4 hbq4 c16 f16
    by_cases hold : gw = old
    case neg =>
      have ho1 : (gw != old) = true := by simpa using hold
      have ho2 : (gw == old) = false := by simpa using hold
      have HOLD := Lib.hid hold
      clear hold
      obtain ⟨Z, z1, z2⟩ := HIN4.out.res
      have HZ1 := Lib.hid z1
      have HZ2 := Lib.hid z2
      have hld := HIN4.out.told HSZC3.out HFS.out
      clear z1 z2
      go_wp2_with (first
        | (refine wpList_load_row rfl 32 (.tmp 4) rfl bx rfl 32 C3 (0, 0) (.struct fs) HIN4.out.own HFS.out rfl (by rw [HSZC3.out]; exact info_refA) ?_)
        | (refine wpList_store_row rfl 32 (.tmp 8) (.tmp 33) rfl bz C3 rfl rfl 32 Z HZ2.out (by rw [HSZC3.out]; exact info_refA) (by rw [HZ1.out, HSZC3.out]) HONEC3.out ?_))
      have hdef : A.swap blk i old x = ({ A with t := { A.t with swaps := A.t.swaps + 1 } }, false, 0) := by unfold Ar.swap; rw [if_pos HEE.out, if_neg (by rw [← HGW'.out]; exact HOLD.out)]
      rw [hdef]
      have hfin := HGL.out ({ A with t := { A.t with swaps := A.t.swaps + 1 } } : Ar) C3 _ HIN4.out.end_ rfl rfl HC3.out
      refine bodyPost_ret (v := .tuple #[.agg C3, .bool false, .int .i64 0]) (by simp [results, Try.results98, asAddr, hld, Act.put]) rfl ?_
      first | exact ⟨.agg C3, GG, rfl, hfin, HIN4.out.end_, fun q hq => .inl hq⟩ | exact ⟨.agg C3, rfl, GG, hfin, HIN4.out.end_, fun q hq => .inl hq⟩
    have ho1 : (gw != old) = false := by simpa using hold
    have ho2 : (gw == old) = true := by simpa using hold
    have HOLD := Lib.hid hold
    clear hold
    go_wp2_with (first
      | (refine wpList_load_row rfl 32 (.tmp 4) rfl bx rfl 32 C3 (0, 0) (.struct fs) HIN4.out.own HFS.out rfl (by rw [HSZC3.out]; exact info_refA) ?_)
      | (go_at_call 49; (with_reducible refine (HST.out _).mono ?_); rintro e w5 ⟨u5, G5, rfl, hS5, hT5, hG5⟩; obtain ⟨C5, rfl, hz5, ho5⟩ := hS5.row; have HIN5 := Lib.hid (HIN4.out.step hT5 (by simp) (by simp) (by simp)); obtain ⟨Z, z1, z2⟩ := HIN5.out.res; have HZ1 := Lib.hid z1; have HZ2 := Lib.hid z2; have HSZC5 := Lib.hid hz5; have HONEC5 := Lib.hid ho5; have HS5 := Lib.hid hS5; have HT5 := Lib.hid hT5; have HG5 := Lib.hid hG5; clear z1 z2 hz5 ho5 hS5 hT5 hG5)
      | (refine wpList_store_row rfl 32 (.tmp 8) (.tmp 37) rfl bz C5 rfl rfl 32 Z HZ2.out (by rw [HSZC5.out]; exact info_refA) (by rw [HZ1.out, HSZC5.out]) HONEC5.out ?_))
    have hld := HIN5.out.tells C5 HSZC5.out HFS.out
    have hdef : A.swap blk i old x = (({ A with t := { A.t with swaps := A.t.swaps + 1 } } : Ar).set blk i x, true, 0) := by unfold Ar.swap; rw [if_pos HEE.out, if_pos (by rw [← HGW'.out]; exact HOLD.out)]; unfold Ar.set; split <;> rfl
    rw [hdef]
    have hfin : RefS (w5.setRow bz C5) (({ A with t := { A.t with swaps := A.t.swaps + 1 } } : Ar).set blk i x) (.agg C5) G5 := by
      refine HS5.out.turn (F := [bz]) (setRow_turn (Frm.Turn.refl _ _) (.inl (by simp)) C5) (fun k hk hk' => ?_)
      simp at hk'; subst hk'
      rcases HG5.out _ hk with h1 | h1
      · have := HLT.out _ h1; have := HNZW.out; omega
      · have := HBZ.out; omega
    have hend := HIN5.out.ends C5
    refine bodyPost_ret (v := .tuple #[.agg C5, .bool true, .int .i64 0]) (by simp [results, Try.results98, asAddr, hld, Act.put]) rfl ?_
    first | refine ⟨.agg C5, G5, ?_, hfin, hend, fun q hq => ?_⟩ | refine ⟨.agg C5, ?_, G5, hfin, hend, fun q hq => ?_⟩
    · simp [HZ.out, HGW'.out]
    · rcases HG5.out q hq with h1 | h1
      · exact .inl h1
      · refine .inr ⟨by have := HIN4.out.turn.size; omega, by simpa using h1.2⟩
  · have hez : (er == 0) = false := by simpa using hz
    have hez' : (er != 0) = true := by simpa using hz
    have HNZ := Lib.hid hz
    clear hz
    obtain ⟨Z, z1, z2⟩ := HIN3.out.res
    have HZ1 := Lib.hid z1
    have HZ2 := Lib.hid z2
    have hld := HIN3.out.told HSZC2.out HFS.out
    clear z1 z2
    go_wp2_with (first
      | (refine wpList_load_row rfl 32 (.tmp 4) rfl bx rfl 32 C2 (0, 0) (.struct fs) HIN3.out.own HFS.out rfl (by rw [HSZC2.out]; exact info_refA) ?_)
      | (refine wpList_store_row rfl 32 (.tmp 8) (.tmp 22) rfl bz C2 rfl rfl 32 Z HZ2.out (by rw [HSZC2.out]; exact info_refA) (by rw [HZ1.out, HSZC2.out]) HONEC2.out ?_))
    have hee : A.err blk i ≠ 0 := by rw [← HER.out]; exact HNZ.out
    have hdef : A.swap blk i old x = (A.miss, false, A.err blk i) := by unfold Ar.swap; rw [if_neg hee]
    rw [hdef]
    refine bodyPost_ret (v := .tuple #[.agg C2, .bool false, .int .i64 er]) (by simp [results, Try.results98, asAddr, hld, Act.put]) rfl ⟨.agg C2, GG, ?_, HGL.out A.miss C2 _ HIN3.out.end_ rfl rfl (by rw [HC2.out]; unfold Ar.got; rw [if_neg hee]), HIN3.out.end_, fun q hq => .inl hq⟩
    simp [HER.out, HGW.out, Ar.gotW, hee]
end Arn
end Go.Proofs.Ytfbnidjcimcfoaa
