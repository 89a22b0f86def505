/- The document's environment: what an access answered is put down. -/
import Derived.Test.YtolcpfidmpoipaaGreatEnvMem
import Derived.Deep.RegionLaw
set_option linter.unusedVariables false
set_option linter.unusedSimpArgs false
namespace Go.Proofs.YtolcpfidmpoipaaGreat
namespace Frm
open Go.RowKit
/-- An append of one row to another, nil or not, as one step of a region that draws its order. -/
theorem step_append_rows {P : Program} {ops : Array Oper} {o : Oper} {a : Act} {w : World} {K : Act → World → Prop} {Q : Exit → Act → World → Prop} {E : Prop}
    (hg : o.guard = none) (s x : Operand) (t : TypeId) (hop : o.op = Op.call { callee := Callee.builtin Builtin.append, args := #[s, x], argTypes := #[t, t] })
    (e : TypeId) (i : TypeInfo) (z : Value) (size bytes : Nat) (h1 : P.underlying t = some (.slice e)) (h2 : P.info? e = some i) (h3 : i.zero = some z) (h4 : i.size = size) (h5 : i.bytes = bytes) (h6 : z.cells.size = size) (h7 : 0 < size)
    (base : Nat) (v : Value) (n : Nat) (xs : List Value) (hs : a.eval s = v) (hown : w.ownsRow base e size v n xs) (y : Value) (hx : a.eval x = y) (m base' : Nat) (ys : List Value) (hy : w.ownsRow base' e size y m ys) (h1c : ∀ u ∈ ys, u.oneCell' = true)
    (b1 : n + m ≤ maxLen) (b2 : (n + m) * bytes ≤ 140737488355328) (hbase : base ≤ w.heap.size)
    (hK : ∀ v' w', w'.ownsRow base e size v' (n + m) (xs ++ ys) → w.grownBy w' v.ownBlock → (v'.ownBlock = v.ownBlock ∨ v'.ownBlock = some w.heap.size) → K (a.put o.dst v') w') :
    if Region.wanted o (yielded ops a.tmps) = true then Oper.wp P o a w K Q else E := by
  have hw : Region.wanted o (yielded ops a.tmps) = true := by simp [Region.wanted, hg]
  rw [if_pos hw]
  obtain ⟨v', w', hrun, r1, r2, r3⟩ := run_append_rows (P := P) w base t o.type e i z size bytes h1 h2 h3 h4 h5 h6 h7 v n xs hown y m base' ys hy h1c b1 b2 hbase
  unfold Oper.wp
  simp [execOp, hop, resolve, invoke, builtin, hs, hx, hrun, Result.andThen]
  exact hK v' w' r1 r2 r3
end Frm
namespace Evn
open Go.RowKit Go.Maps Arn

theorem under_ress : Tryz.prog.underlying 39 = some (.slice 110) := by kernel_rfl
theorem info_ress : (Tryz.prog.info? 110).map (fun i => (i.zero, i.size, i.bytes)) = some (some (.agg #[.int .u64 0, .bool false, .int .i64 0]), 3, 24) := by kernel_rfl
theorem res_one (l : List Res) : ∀ u ∈ resCells l, u.oneCell' = true := by
  intro u hu
  simp only [resCells, List.mem_flatMap] at hu
  obtain ⟨r, _, h⟩ := hu
  simp at h
  rcases h with rfl | rfl | rfl <;> rfl
variable {W W' : World} {eb : Nat} {E : En} {CS : Array Value} {lv : Value} {G : List Nat}
set_option maxRecDepth 100000 in
set_option maxHeartbeats 4000000 in
/-- done: the answer stands behind the others, and is handed back. -/
theorem done_any (h : EnAt W eb E CS lv G) (hl : E.log.length ≤ 100000) (r : Res) :
    Calls Tryz.prog 54 #[.pointer (some ⟨eb, 0, none⟩), resV r] W fun e w' => e = .returned (resV r) ∧ ∃ lv', EnAt w' eb { E with log := E.log ++ [r] } CS lv' G ∧ Frm.Turn [eb] W w' ∧ ∀ k, lv'.ownBlock = some k → W.heap.size ≤ k := by
  obtain ⟨x, y, z⟩ := r
  unfold resV
  dsimp only
  obtain ⟨ao, c, rfl⟩ := Frm.row_form h.log
  obtain ⟨n, HNE⟩ : ∃ n, Hid (n = E.log.length) := ⟨_, Lib.hid rfl⟩
  obtain ⟨l, HLE⟩ : ∃ l, Hid (l = E.log) := ⟨_, Lib.hid rfl⟩
  have hw0 : Frm.Turn [] W ((W.alloc (.cells #[.int .u64 x, .bool y, .int .i64 z] 110)).alloc (.cells #[.int .u64 0, .bool false, .int .i64 0] 110)) := ((Frm.Turn.refl [] W).alloc _).alloc _
  have hb0 := ((Frm.Turn.refl [] (W.alloc (.cells #[.int .u64 x, .bool y, .int .i64 z] 110))).alloc (.cells #[.int .u64 0, .bool false, .int .i64 0] 110)).keep (World.alloc_heap_new W (.cells #[.int .u64 x, .bool y, .int .i64 z] 110)) (by simp)
  have hb1 := World.alloc_heap_new (W.alloc (.cells #[.int .u64 x, .bool y, .int .i64 z] 110)) (.cells #[.int .u64 0, .bool false, .int .i64 0] 110)
  rw [World.size_alloc] at hb1
  have hE := h.step hw0
  rw [← HNE.out] at hE hl
  have hq0 := h.lt
  go_enter Tryz.func54, Tryz.ntmps54
  go_upto_region 1 with fail
  generalize hwr : (W.alloc (.cells #[.int .u64 x, .bool y, .int .i64 z] 110)).alloc (.cells #[.int .u64 0, .bool false, .int .i64 0] 110) = wr at hw0 hb0 hb1 hE ⊢
  obtain ⟨kb, HKB⟩ : ∃ k, Hid (k = W.heap.size) := ⟨_, Lib.hid rfl⟩
  rw [← HKB.out] at hb0 hb1 ⊢
  have hkb : eb ≠ kb ∧ eb ≠ kb + 1 := by have := HKB.out; omega
  have HB0 := Lib.hid hb0
  have HB1 := Lib.hid hb1
  have HE := Lib.hid hE
  have HW0 := Lib.hid hw0
  have HGL : Hid (∀ k, k ∈ G → k < kb) := Lib.hid fun k hk => by have := h.gl k hk; have := HKB.out; omega
  have hz0 : kb + 1 < wr.heap.size := (Array.getElem?_eq_some_iff.1 hb1).1
  have hz00 : kb < wr.heap.size := by omega
  have heb : eb < wr.heap.size := hE.lt
  have HK13 : Hid (∀ W, Frm.Turn [] wr W → W.cell? ⟨eb, 20, none⟩ = some (.slice ao n c) ∧ W.frozen? ⟨eb, 20, none⟩ = false) := Lib.hid fun W hT => ⟨((HE.out.step hT).cells).1, (HE.out.step hT).thaw 20⟩
  have HRW : Hid (∀ W, Frm.Turn [] wr W → W.ownsRow 0 110 3 (.slice ao n c) n (resCells l)) := Lib.hid fun W hT => by
    have := (HE.out.step hT).log
    rw [← HNE.out, ← HLE.out] at this
    exact this
  have HKS : Hid (∀ W, Frm.Turn [] wr W → W.cell? ⟨kb, 0, none⟩ = some (.int .u64 x) ∧ W.cell? ⟨kb, 1, none⟩ = some (.bool y) ∧ W.cell? ⟨kb, 2, none⟩ = some (.int .i64 z)) := Lib.hid fun W hT => by
    have := hT.keep HB0.out (by simp)
    refine ⟨?_, ?_, ?_⟩ <;> (rw [Frm.cell_row _ _ _ _ _ _ this]; rfl)
  have HOa : Hid ((wr.drew.alloc (.cells #[] 110)).ownsRow 0 110 3 (.slice (some ⟨wr.heap.size, 0, none⟩) 0 0) 0 []) := Lib.hid (World.ownsRow_made (base := 0) (e := 110) (size := 3) wr.drew #[] 0 (Nat.zero_le _) (by simp [maxLen]) (by simp))
  have HOc : Hid (((wr.drew.alloc (.cells #[.int .u64 x, .bool y, .int .i64 z] 110)).alloc (.cells #[] 110)).ownsRow 0 110 3 (.slice (some ⟨wr.heap.size + 1, 0, none⟩) 0 0) 0 []) := Lib.hid (by
    have := World.ownsRow_made (base := 0) (e := 110) (size := 3) (wr.drew.alloc (.cells #[.int .u64 x, .bool y, .int .i64 z] 110)) #[] 0 (Nat.zero_le _) (by simp [maxLen]) (by simp)
    rw [World.size_alloc] at this
    exact this)
  have HLc : Hid ((wr.drew.alloc (.cells #[.int .u64 x, .bool y, .int .i64 z] 110)).ownsRow 0 110 3 (.slice (some ⟨wr.heap.size, 0, none⟩) 1 1) 1 [.int .u64 x, .bool y, .int .i64 z]) := Lib.hid (World.ownsRow_lit (base := 0) (e := 110) (size := 3) wr.drew #[.int .u64 x, .bool y, .int .i64 z] 1 (Nat.zero_le _) (by simp [maxLen]) rfl)
  have HLb : Hid (((wr.drew.alloc (.cells #[] 110)).alloc (.cells #[.int .u64 x, .bool y, .int .i64 z] 110)).ownsRow 0 110 3 (.slice (some ⟨wr.heap.size + 1, 0, none⟩) 1 1) 1 [.int .u64 x, .bool y, .int .i64 z]) := Lib.hid (by
    have := (World.ownsRow_lit (base := 0) (e := 110) (size := 3) (wr.drew.alloc (.cells #[] 110)) #[.int .u64 x, .bool y, .int .i64 z] 1 (Nat.zero_le _) (by simp [maxLen]) rfl)
    rw [World.size_alloc] at this
    exact this)
  obtain ⟨ik, hi, hz1, hz2, hz3⟩ := info_parts info_ress
  have HI := Lib.hid hi
  have HZ0 := Lib.hid hz1
  have HZ1 := Lib.hid hz2
  have HZ2 := Lib.hid hz3
  have kd13 : wr.cell? ⟨eb, 20, none⟩ = some (.slice ao n c) := (HK13.out _ (Frm.Turn.refl [] wr)).1
  obtain ⟨kn0, kn1, kn2⟩ := HKS.out _ (Frm.Turn.refl [] wr)
  clear hw0 hb0 hb1 hE hi hz1 hz2 hz3 hwr h
  go_cut [] (fun W2 => ∃ lv', EnAt W2 eb { E with log := E.log ++ [⟨x, y, z⟩] } CS lv' G ∧ Frm.Turn [eb] wr W2 ∧ ∀ k, lv'.ownBlock = some k → wr.heap.size ≤ k)
  case first =>
    go_region_law
      (first
        | (refine Frm.step_append_rows (by rfl) (.tmp 6) (.tmp 10) 39 (by rfl) 110 ik (.agg #[.int .u64 0, .bool false, .int .i64 0]) 3 24 under_ress HI.out HZ0.out HZ1.out HZ2.out rfl (by decide) 0 (.slice (some ⟨wr.heap.size, 0, none⟩) 0 0) 0 [] (by rfl) HOa.out (.slice ao n c) (by rfl) n 0 (resCells l) (HRW.out _ (((Frm.Turn.refl [] wr).drew).alloc (.cells #[] 110))) (res_one l) (by unfold maxLen; omega) (by omega) (Nat.zero_le _) ?_; intro v1 w1 ho1 hg1 hl1; simp only [Nat.zero_add, List.nil_append] at ho1; obtain ⟨a1, c1, rfl⟩ := Frm.row_form ho1; have HO1 := Lib.hid ho1; have HG1 := Lib.hid hg1; have HL1 : Hid (∀ k, (Value.slice a1 n c1).ownBlock = some k → wr.heap.size ≤ k) := Lib.hid (fun k hk => by rw [hk] at hl1; simp [Value.ownBlock] at hl1; omega); have HT1 : Hid (Frm.Turn [] wr w1) := Lib.hid ((((Frm.Turn.refl [] wr).drew).alloc (.cells #[] 110)).trans (Frm.Turn.of_grown hg1) (fun q hq => by simp [Value.ownBlock] at hq; omega)); obtain ⟨km0, km1, km2⟩ := HKS.out _ HT1.out; clear ho1 hg1 hl1)
        | (refine Frm.step_append_rows (by rfl) (.tmp 6) (.tmp 10) 39 (by rfl) 110 ik (.agg #[.int .u64 0, .bool false, .int .i64 0]) 3 24 under_ress HI.out HZ0.out HZ1.out HZ2.out rfl (by decide) 0 (.slice (some ⟨wr.heap.size, 0, none⟩) 0 0) 0 [] (by rfl) (HOa.out.alloc (.cells #[.int .u64 x, .bool y, .int .i64 z] 110)) (.slice ao n c) (by rfl) n 0 (resCells l) (HRW.out _ ((((Frm.Turn.refl [] wr).drew).alloc (.cells #[] 110)).alloc (.cells #[.int .u64 x, .bool y, .int .i64 z] 110))) (res_one l) (by unfold maxLen; omega) (by omega) (Nat.zero_le _) ?_; intro v1 w1 ho1 hg1 hl1; simp only [Nat.zero_add, List.nil_append] at ho1; obtain ⟨a1, c1, rfl⟩ := Frm.row_form ho1; have HO1 := Lib.hid ho1; have HG1 := Lib.hid hg1; have HL1 : Hid (∀ k, (Value.slice a1 n c1).ownBlock = some k → wr.heap.size ≤ k) := Lib.hid (fun k hk => by rw [hk] at hl1; simp [Value.ownBlock] at hl1; omega); have HT1 : Hid (Frm.Turn [] wr w1) := Lib.hid (((((Frm.Turn.refl [] wr).drew).alloc (.cells #[] 110)).alloc (.cells #[.int .u64 x, .bool y, .int .i64 z] 110)).trans (Frm.Turn.of_grown hg1) (fun q hq => by simp [Value.ownBlock] at hq; omega)); obtain ⟨km0, km1, km2⟩ := HKS.out _ HT1.out; clear ho1 hg1 hl1)
        | (refine Frm.step_append_rows (by rfl) (.tmp 6) (.tmp 10) 39 (by rfl) 110 ik (.agg #[.int .u64 0, .bool false, .int .i64 0]) 3 24 under_ress HI.out HZ0.out HZ1.out HZ2.out rfl (by decide) 0 (.slice (some ⟨wr.heap.size + 1, 0, none⟩) 0 0) 0 [] (by rfl) HOc.out (.slice ao n c) (by rfl) n 0 (resCells l) (HRW.out _ ((((Frm.Turn.refl [] wr).drew).alloc (.cells #[.int .u64 x, .bool y, .int .i64 z] 110)).alloc (.cells #[] 110))) (res_one l) (by unfold maxLen; omega) (by omega) (Nat.zero_le _) ?_; intro v1 w1 ho1 hg1 hl1; simp only [Nat.zero_add, List.nil_append] at ho1; obtain ⟨a1, c1, rfl⟩ := Frm.row_form ho1; have HO1 := Lib.hid ho1; have HG1 := Lib.hid hg1; have HL1 : Hid (∀ k, (Value.slice a1 n c1).ownBlock = some k → wr.heap.size ≤ k) := Lib.hid (fun k hk => by rw [hk] at hl1; simp [Value.ownBlock] at hl1; omega); have HT1 : Hid (Frm.Turn [] wr w1) := Lib.hid (((((Frm.Turn.refl [] wr).drew).alloc (.cells #[.int .u64 x, .bool y, .int .i64 z] 110)).alloc (.cells #[] 110)).trans (Frm.Turn.of_grown hg1) (fun q hq => by simp [Value.ownBlock] at hq; omega)); obtain ⟨km0, km1, km2⟩ := HKS.out _ HT1.out; clear ho1 hg1 hl1)
        | (refine Frm.step_append_rows (by rfl) (.tmp 11) (.tmp 13) 39 (by rfl) 110 ik (.agg #[.int .u64 0, .bool false, .int .i64 0]) 3 24 under_ress HI.out HZ0.out HZ1.out HZ2.out rfl (by decide) 0 (.slice a1 n c1) n (resCells l) (by rfl) (HO1.out.alloc (.cells #[.int .u64 x, .bool y, .int .i64 z] 110)) (.slice (some ⟨w1.heap.size, 0, none⟩) 1 1) (by rfl) 1 0 [.int .u64 x, .bool y, .int .i64 z] (World.ownsRow_lit (base := 0) (e := 110) (size := 3) w1 #[.int .u64 x, .bool y, .int .i64 z] 1 (Nat.zero_le _) (by simp [maxLen]) rfl) (by simp [Value.oneCell']) (by unfold maxLen; omega) (by omega) (Nat.zero_le _) ?_; intro v2 w2 ho2 hg2 hl2; obtain ⟨a2, c2, rfl⟩ := Frm.row_form ho2; have HO2 := Lib.hid ho2; have HL2 : Hid (∀ k, (Value.slice a2 (n + 1) c2).ownBlock = some k → wr.heap.size ≤ k) := Lib.hid (fun k hk => by rcases hl2 with e | e; exact HL1.out k (by rw [← e]; exact hk); rw [hk] at e; have := HT1.out.size; simp at e; omega); have HT2 : Hid (Frm.Turn [] wr w2) := Lib.hid ((HT1.out.alloc (.cells #[.int .u64 x, .bool y, .int .i64 z] 110)).trans (Frm.Turn.of_grown hg2) (fun q hq => .inr (HL1.out q (by simpa using hq)))); obtain ⟨k13, kf13⟩ := HK13.out _ HT2.out; clear ho2 hg2 hl2)
        | (refine Frm.step_append_rows (by rfl) (.tmp 11) (.tmp 13) 39 (by rfl) 110 ik (.agg #[.int .u64 0, .bool false, .int .i64 0]) 3 24 under_ress HI.out HZ0.out HZ1.out HZ2.out rfl (by decide) 0 (.slice a1 n c1) n (resCells l) (by rfl) HO1.out (.slice (some ⟨wr.heap.size + 1, 0, none⟩) 1 1) (by rfl) 1 0 [.int .u64 x, .bool y, .int .i64 z] (Frm.owns_turn HLb.out (Frm.Turn.of_grown HG1.out) (by intro k hk; simp [Value.ownBlock] at hk ⊢; omega)) (by simp [Value.oneCell']) (by unfold maxLen; omega) (by omega) (Nat.zero_le _) ?_; intro v2 w2 ho2 hg2 hl2; obtain ⟨a2, c2, rfl⟩ := Frm.row_form ho2; have HO2 := Lib.hid ho2; have HL2 : Hid (∀ k, (Value.slice a2 (n + 1) c2).ownBlock = some k → wr.heap.size ≤ k) := Lib.hid (fun k hk => by rcases hl2 with e | e; exact HL1.out k (by rw [← e]; exact hk); rw [hk] at e; have := HT1.out.size; simp at e; omega); have HT2 : Hid (Frm.Turn [] wr w2) := Lib.hid (HT1.out.trans (Frm.Turn.of_grown hg2) (fun q hq => .inr (HL1.out q (by simpa using hq)))); obtain ⟨k13, kf13⟩ := HK13.out _ HT2.out; clear ho2 hg2 hl2)
        | (refine Frm.step_append_rows (by rfl) (.tmp 11) (.tmp 13) 39 (by rfl) 110 ik (.agg #[.int .u64 0, .bool false, .int .i64 0]) 3 24 under_ress HI.out HZ0.out HZ1.out HZ2.out rfl (by decide) 0 (.slice a1 n c1) n (resCells l) (by rfl) HO1.out (.slice (some ⟨wr.heap.size, 0, none⟩) 1 1) (by rfl) 1 0 [.int .u64 x, .bool y, .int .i64 z] (Frm.owns_turn (HLc.out.alloc (.cells #[] 110)) (Frm.Turn.of_grown HG1.out) (by intro k hk; simp [Value.ownBlock] at hk ⊢; omega)) (by simp [Value.oneCell']) (by unfold maxLen; omega) (by omega) (Nat.zero_le _) ?_; intro v2 w2 ho2 hg2 hl2; obtain ⟨a2, c2, rfl⟩ := Frm.row_form ho2; have HO2 := Lib.hid ho2; have HL2 : Hid (∀ k, (Value.slice a2 (n + 1) c2).ownBlock = some k → wr.heap.size ≤ k) := Lib.hid (fun k hk => by rcases hl2 with e | e; exact HL1.out k (by rw [← e]; exact hk); rw [hk] at e; have := HT1.out.size; simp at e; omega); have HT2 : Hid (Frm.Turn [] wr w2) := Lib.hid (HT1.out.trans (Frm.Turn.of_grown hg2) (fun q hq => .inr (HL1.out q (by simpa using hq)))); obtain ⟨k13, kf13⟩ := HK13.out _ HT2.out; clear ho2 hg2 hl2))
    all_goals go_wp2_with fail
    all_goals go_meet
    all_goals
      have hE2 := HE.out.step HT2.out
      have hT3 : Frm.Turn [eb] w2 (w2.setCell ⟨eb, 20, none⟩ (.slice a2 (n + 1) c2)) := turn_eb w2 eb 20 _
      obtain ⟨r1, r2, r3⟩ := hE2.rest hT3
      refine ⟨.slice a2 (n + 1) c2, ⟨by rw [Frm.heap_set _ _ _ _ _ _ _ hE2.row, (app_set CS _ _ _ _ _ hE2.size).2.2.2], hE2.size, hE2.one, r1, ?_, fun e => by have := HL2.out eb e; omega, hE2.ge, r3⟩, (HT2.out.mono (by simp)).trans hT3 (fun k hk => .inl hk), HL2.out⟩
      have ho := Frm.owns_turn HO2.out hT3 (fun k hk e => by simp at e; subst e; have := HL2.out k hk; omega)
      rw [resCells_append, ← HLE.out]
      have e1 : (l ++ [(⟨x, y, z⟩ : Res)]).length = n + 1 := by rw [HLE.out, HNE.out]; simp
      dsimp only
      rw [e1]
      exact ho
  case rest =>
    obtain ⟨lv', hE3, hT3, hL3⟩ := hcut
    have HL3 := Lib.hid hL3
    clear hL3
    have hk3 := hT3.keep HB0.out (by simpa using fun e => hkb.1 e.symm)
    have hk4 := hT3.keep HB1.out (by simpa using fun e => hkb.2 e.symm)
    have q0 := (Frm.cell_row _ _ 0 _ _ _ hk3).trans (show (#[Value.int .u64 x, .bool y, .int .i64 z])[0]? = some (.int .u64 x) from rfl)
    have q1 := (Frm.cell_row _ _ 1 _ _ _ hk3).trans (show (#[Value.int .u64 x, .bool y, .int .i64 z])[1]? = some (.bool y) from rfl)
    have q2 := (Frm.cell_row _ _ 2 _ _ _ hk3).trans (show (#[Value.int .u64 x, .bool y, .int .i64 z])[2]? = some (.int .i64 z) from rfl)
    have f0 := Frm.frozen_row _ _ 0 _ _ hk4
    have f1 := Frm.frozen_row _ _ 1 _ _ hk4
    have f2 := Frm.frozen_row _ _ 2 _ _ hk4
    have p0 := (Frm.cell_row _ _ 0 _ _ _ hk4).trans (show (#[Value.int .u64 0, .bool false, .int .i64 0])[0]? = some (.int .u64 0) from rfl)
    have p1 := (Frm.cell_row _ _ 1 _ _ _ hk4).trans (show (#[Value.int .u64 0, .bool false, .int .i64 0])[1]? = some (.bool false) from rfl)
    have p2 := (Frm.cell_row _ _ 2 _ _ _ hk4).trans (show (#[Value.int .u64 0, .bool false, .int .i64 0])[2]? = some (.int .i64 0) from rfl)
    have HE3 := Lib.hid hE3
    have HT3 := Lib.hid hT3
    have HK4 := Lib.hid hk4
    clear hE3 hT3 hk3 hk4
    go_wp2
    obtain ⟨s1, s2⟩ := put_res0 _ _ _ _ _ (.int .u64 x) (.bool y) (.int .i64 z) HK4.out
    have hld := load_res s1
    have hT := ((HW0.out.mono (by simp)).trans HT3.out (fun k hk => .inl hk)).trans s2 (fun k hk => .inr (by have := HKB.out; simp at hk; omega))
    refine bodyPost_ret (v := resV ⟨x, y, z⟩) (by simp [results, Tryz.results54, asAddr, hld, Act.put, resV]) rfl ⟨rfl, lv', HE3.out.turn s2 (by simpa using hkb.2) (fun k hk => by have := HGL.out k hk; simp; omega) (fun k hk => by have := HL3.out k hk; simp; omega), hT, fun k hk => by have := HL3.out k hk; have := HKB.out; omega⟩
end Evn
end Go.Proofs.YtolcpfidmpoipaaGreat
