/- The log of an attic: batches, cloned. -/
/- Log of an attic. -/
import Derived.Test.YtpajafecodkndaaGreatAttMem4
import Derived.Deep.RegionWith
import Derived.Laws.MakeOwn
set_option linter.unusedVariables false
set_option linter.unusedSimpArgs false
namespace Go.Proofs.YtpajafecodkndaaGreat
namespace Att
open Go.RowKit Go.Maps Arn

variable {V : Nat → Value} {lg : Value} {L : Nat → List Int} {W W' : World} {base r s : Nat}
theorem under_aps : Tryz.prog.underlying 81 = some (.slice 164) := by kernel_rfl
theorem info_ap : (Tryz.prog.info? 164).map (fun i => (i.zero, i.size, i.bytes)) = some (some (.agg #[.int .i64 0, .int .u64 0, .int .i64 0, .int .i64 0, .int .i64 0, .int .i64 0, .int .i64 0, .int .i64 0]), 8, 64) := by kernel_rfl
theorem under_bts : Tryz.prog.underlying 89 = some (.slice 83) := by kernel_rfl
theorem info_bt : (Tryz.prog.info? 83).map (fun i => (i.zero, i.size, i.bytes)) = some (some (.agg #[.int .u64 0, .slice none 0 0]), 2, 32) := by kernel_rfl
theorem under_bt : structB (Tryz.prog.underlying 83) = true := by kernel_rfl
theorem info_bt1 : (Tryz.prog.info? 83).map (·.size) = some 2 := by kernel_rfl
theorem load_bt {W : World} {k : Nat} {x y : Value} (h : W.heap[k]? = some (.cells #[x, y] 83 (0, 0))) : (loadVar 83 ⟨k, 0, none⟩).run Tryz.prog W = .ok (.agg #[x, y]) W := by
  obtain ⟨fs, hfs⟩ := struct_of under_bt
  exact run_loadVar_row W k _ _ #[x, y] (0, 0) (.struct fs) h hfs rfl info_bt1
/-- A batch: its head, its operations' cells. -/
structure Bt where
  hd : Int
  n : Nat
  cs : List Value
structure Bt.Ok (b : Bt) : Prop where
  len : b.cs.length = b.n * 8
  one : ∀ u ∈ b.cs, u.oneCell' = true
  small : b.n ≤ 65536
/-- What lies where a slice says. -/
def ApsAt (W : World) (v : Value) (b : Bt) : Prop := (v = .slice none 0 0 ∧ b.n = 0) ∨ ∃ a c, v = .slice (some a) b.n c ∧ ∀ j u, b.cs[j]? = some u → W.cell? (a.add j) = some u
theorem ApsAt.turn {F : List Nat} {v : Value} {b : Bt} (h : ApsAt W v b) (ht : Frm.Turn F W W') (hn : ∀ q, v.ownBlock = some q → q ∉ F) : ApsAt W' v b := by
  rcases h with h | ⟨a, c, rfl, h⟩
  · exact .inl h
  · refine .inr ⟨a, c, rfl, fun j u hu => ht.cell (h j u hu) ?_⟩
    have hbk : (a.add j).block = a.block := by unfold Addr.add; split <;> rfl
    rw [hbk]
    exact hn _ rfl
set_option maxRecDepth 100000 in
set_option maxHeartbeats 2000000 in
theorem aclone_any {v : Value} {b : Bt} (h : ApsAt W v b) (hb : b.Ok) :
    Calls Tryz.prog 120 #[v] W fun e w' => ∃ ao c, e = .returned (.slice ao b.n c) ∧ ApsAt w' (.slice ao b.n c) b ∧ (∀ q, (Value.slice ao b.n c).ownBlock = some q → W.heap.size ≤ q ∧ q < w'.heap.size) ∧ Frm.Turn [] W w' := by
  rcases h with ⟨rfl, hz⟩ | ⟨a, c, rfl, h⟩
  · have hq := fun w => Lib.run_eql_slice_nil (P := Tryz.prog) w 81 _ none 0 0 0 0 under_aps
    rw [hz]
    go_enter Tryz.func120, Tryz.ntmps120
    go_wp2
    go_ret
    exact ⟨none, 0, rfl, .inl ⟨rfl, hz⟩, fun q hq => (by cases hq), Frm.Turn.refl _ _⟩
  · have hq := fun w => Lib.run_eql_slice_nil (P := Tryz.prog) w 81 _ (some a) b.n c 0 0 under_aps
    obtain ⟨i0, hi, hz0, hz1, hz2⟩ := infw info_ap
    have HO : Hid ((W.alloc (.cells #[] 164)).ownsRow W.heap.size 164 8 (.slice (some ⟨W.heap.size, 0, none⟩) 0 0) 0 []) := Lib.hid (World.ownsRow_made W #[] 0 (Nat.le_refl _) (by simp [maxLen]) (by simp))
    have HC : Hid (∀ j u, b.cs[j]? = some u → (W.alloc (.cells #[] 164)).cell? (a.add j) = some u) := Lib.hid (fun j u hu => ((Frm.Turn.refl [] W).alloc _).cell (h j u hu) (by simp))
    have HB := Lib.hid hb
    have hn : b.n ≤ 65536 := hb.small
    obtain ⟨n, hnn⟩ : ∃ n, n = b.n := ⟨_, rfl⟩
    have HL : Hid (b.cs.length = n * 8) := Lib.hid (by rw [hnn]; exact hb.len)
    rw [← hnn] at hn hq ⊢
    have HNN := Lib.hid hnn
    clear h hb hnn
    go_enter Tryz.func120, Tryz.ntmps120
    go_wp2_with (at_builtin; refine wpList_append_own_at _ rfl (.tmp 5) (.tmp 6) 81 rfl W.heap.size 164 i0 (.agg #[.int .i64 0, .int .u64 0, .int .i64 0, .int .i64 0, .int .i64 0, .int .i64 0, .int .i64 0, .int .i64 0]) 8 64 under_aps hi hz0 hz1 hz2 rfl (by decide) (.slice (some ⟨W.heap.size, 0, none⟩) 0 0) 0 [] rfl HO.out a n c b.cs rfl HL.out HC.out HB.out.one (by unfold maxLen; omega) (by omega) (by simp) ?_; intro v1 w3 hown3 hg3 _ hl3; simp only [Nat.zero_add, List.nil_append] at hown3; have HO3 := Lib.hid hown3; have HG3 := Lib.hid hg3; have HL3 := Lib.hid hl3; clear hown3 hg3 hl3)
    go_ret
    obtain ⟨va, vc, rfl⟩ := Frm.row_form HO3.out
    refine ⟨va, vc, rfl, ?_, fun q hq => ?_, ((Frm.Turn.refl [] W).alloc _).trans (Frm.Turn.of_grown HG3.out) (fun k hk => ?_)⟩
    · rcases HO3.out.2 with ⟨e1, e2⟩ | ⟨g, cap, cur, e1, r1⟩
      · refine .inl ⟨e1, ?_⟩
        rw [← HNN.out]; exact e2
      · have e1' := e1
        simp only [Value.slice.injEq] at e1
        obtain ⟨rfl, _, rfl⟩ := e1
        refine .inr ⟨_, _, by rw [← HNN.out], fun j u hu => ?_⟩
        exact World.ownsRow.cells HO3.out rfl j _ hu
    · have := HO3.out.lt q hq
      exact ⟨this.1, this.2⟩
    · simp [Value.ownBlock] at hk; subst hk; right; omega
set_option maxRecDepth 100000 in
set_option maxHeartbeats 2000000 in
theorem cloneBatch_any {v : Value} {b : Bt} (h : ApsAt W v b) (hb : b.Ok) :
    Calls Tryz.prog 90 #[.agg #[.int .u64 b.hd, v]] W fun e w' => ∃ ao c, e = .returned (.agg #[.int .u64 b.hd, .slice ao b.n c]) ∧ ApsAt w' (.slice ao b.n c) b ∧ (∀ q, (Value.slice ao b.n c).ownBlock = some q → W.heap.size ≤ q ∧ q < w'.heap.size) ∧ Frm.Turn [] W w' := by
  obtain ⟨ao, c, rfl⟩ : ∃ ao c, v = .slice ao b.n c := by
    rcases h with ⟨rfl, hz⟩ | ⟨a, c, rfl, h⟩
    · exact ⟨none, 0, by rw [hz]⟩
    · exact ⟨some a, c, rfl⟩
  have HCL := Lib.hid (fun W' (hT : Frm.Turn [] W W') => aclone_any (W := W') (h.turn hT (by simp)) hb)
  have HT0 := Lib.hid (Frm.Turn.refl [] W)
  clear h hb
  obtain ⟨n, hnn⟩ : ∃ n, n = b.n := ⟨_, rfl⟩
  rw [← hnn] at HCL ⊢
  clear hnn
  generalize b.hd = hd
  go_enter Tryz.func90, Tryz.ntmps90
  go_wp2_with fail
  have p0 : ((W.alloc (.cells #[.int .u64 hd, .slice ao n c] 83)).alloc (.cells #[.int .u64 0, .slice none 0 0] 83)).heap[W.heap.size]? = some (.cells #[.int .u64 hd, .slice ao n c] 83 (0, 0)) := ((Frm.Turn.refl [] _).alloc _).keep (World.alloc_heap_new W _) (by simp)
  have p1 : ((W.alloc (.cells #[.int .u64 hd, .slice ao n c] 83)).alloc (.cells #[.int .u64 0, .slice none 0 0] 83)).heap[W.heap.size + 1]? = some (.cells #[.int .u64 0, .slice none 0 0] 83 (0, 0)) := by
    have := World.alloc_heap_new (W.alloc (.cells #[.int .u64 hd, .slice ao n c] 83)) (.cells #[.int .u64 0, .slice none 0 0] 83)
    rwa [World.size_alloc] at this
  have hT2 : Frm.Turn [] W ((W.alloc (.cells #[.int .u64 hd, .slice ao n c] 83)).alloc (.cells #[.int .u64 0, .slice none 0 0] 83)) := ((Frm.Turn.refl [] W).alloc _).alloc _
  have hsz : ((W.alloc (.cells #[.int .u64 hd, .slice ao n c] 83)).alloc (.cells #[.int .u64 0, .slice none 0 0] 83)).heap.size = W.heap.size + 2 := by simp
  generalize ((W.alloc (.cells #[.int .u64 hd, .slice ao n c] 83)).alloc (.cells #[.int .u64 0, .slice none 0 0] 83)) = W2 at p0 p1 hT2 hsz ⊢
  have HT2 := Lib.hid hT2
  have HSZ := Lib.hid hsz
  have HC2 := Lib.hid (HCL.out _ hT2.drew)
  have c0 := (Frm.cell_row _ _ 0 _ _ _ p0).trans rfl
  have c1 := (Frm.cell_row _ _ 1 _ _ _ p0).trans rfl
  have HP0 := Lib.hid p0
  have HP1 := Lib.hid p1
  clear HCL HT0 hT2 hsz p0 p1
  generalize hn0 : W.heap.size = n0 at *
  go_region_with (go_at_call 120; (with_reducible refine (HC2.out).mono ?_); rintro e w1 ⟨ao2, c2, rfl, hA, hB, hT⟩; have d0 := (Frm.cell_row _ _ 0 _ _ _ (((Frm.Turn.refl [] W2).drew.trans hT (by simp)).keep HP0.out (by simp))).trans rfl; have hr := ((Frm.Turn.refl [] W2).drew.trans hT (by simp)).keep HP1.out (by simp); have e0 := (Frm.cell_row _ _ 0 _ _ _ hr).trans rfl; have e1 := (Frm.cell_row _ _ 1 _ _ _ hr).trans rfl; have e2 := Frm.frozen_row w1 (n0 + 1) 0 _ _ hr; have e3 := Frm.frozen_row w1 (n0 + 1) 1 _ _ hr; have HA := Lib.hid (And.intro hA (And.intro hB (And.intro hT hr))); clear hA hB hT hr)
  all_goals go_wp2_with fail
  all_goals (
    obtain ⟨hA, hB, hT, hr⟩ := HA.out
    have hr1 : (w1.setCell ⟨n0 + 1, 0, none⟩ (.int .u64 hd)).heap[n0 + 1]? = some (.cells #[.int .u64 hd, .slice none 0 0] 83 (0, 0)) := by rw [Frm.heap_set _ _ _ _ _ _ _ hr]; rfl
    have hr2 : ((w1.setCell ⟨n0 + 1, 0, none⟩ (.int .u64 hd)).setCell ⟨n0 + 1, 1, none⟩ (.slice ao2 n c2)).heap[n0 + 1]? = some (.cells #[.int .u64 hd, .slice ao2 n c2] 83 (0, 0)) := by rw [Frm.heap_set _ _ _ _ _ _ _ hr1]; rfl
    have hld := load_bt hr2
    have hTW : Frm.Turn [] W w1 := (HT2.out.drew).trans hT (by simp)
    have hs1 : Frm.Turn [n0 + 1] w1 ((w1.setCell ⟨n0 + 1, 0, none⟩ (.int .u64 hd)).setCell ⟨n0 + 1, 1, none⟩ (.slice ao2 n c2)) := ((Frm.Turn.refl _ w1).setCell (.inl (by simp)) _).setCell (.inl (by simp)) _
    have hsz : W2.drew.heap.size = n0 + 2 := HSZ.out
    have hws := hT.size
    refine bodyPost_ret (v := .agg #[.int .u64 hd, .slice ao2 n c2]) (by simp [results, Tryz.results90, asAddr, hld, Act.put]) rfl ⟨ao2, c2, rfl, hA.turn hs1 (fun q hq => ?_), fun q hq => ⟨?_, ?_⟩, hTW.trans hs1 (fun q hq => .inr (by simp at hq; omega))⟩
    · have := (hB q hq).1
      simp
      omega
    · have := (hB q hq).1
      omega
    · have := (hB q hq).2
      have := hs1.size
      omega)
/-! ### the log -/
def btCells (bs : List (Bt × Value)) : List Value := bs.flatMap fun b => [.int .u64 b.1.hd, b.2]
/-- An attic, whole: its lists, its log; what the log's batches have lies in blocks that stay. -/
structure AtAll (W : World) (base r : Nat) (L : Nat → List Int) (V : Nat → Value) (lg : Value) (bs : List (Bt × Value)) : Prop where
  ls : Lists W base r L V lg
  row : W.ownsRow base 83 2 lg bs.length (btCells bs)
  ok : ∀ b, b ∈ bs → b.1.Ok
  at_ : ∀ b, b ∈ bs → ApsAt W b.2 b.1
  lr : lg.ownBlock ≠ some r
  lv : ∀ i q, i < 255 → (V i).ownBlock = some q → lg.ownBlock ≠ some q
  imm : ∀ b q, b ∈ bs → b.2.ownBlock = some q → q ≠ r ∧ (∀ i, i < 255 → (V i).ownBlock ≠ some q) ∧ lg.ownBlock ≠ some q ∧ q < W.heap.size
theorem two_news (w : World) (a b : Value) (t : TypeId) : ∀ j u, [a, b][j]? = some u → (w.alloc (.cells #[a, b] t)).cell? ((⟨w.heap.size, 0, none⟩ : Addr).add j) = some u := by
  intro j u hj
  rw [Addr.add_mid, Nat.zero_add, Frm.cell_row _ _ _ _ _ _ (World.alloc_heap_new w _)]
  simpa using hj
def AuAt (wb w : World) (v : Value) (b : Bt) : Prop := ApsAt w v b ∧ ∀ q, v.ownBlock = some q → wb.heap.size ≤ q ∧ q < w.heap.size
theorem au_of {wb w w' : World} {v : Value} {b : Bt} (h : ApsAt w' v b) (hB : ∀ q, v.ownBlock = some q → w.heap.size ≤ q ∧ q < w'.heap.size) (hs : wb.heap.size ≤ w.heap.size) : AuAt wb w' v b := ⟨h, fun q hq => ⟨Nat.le_trans hs (hB q hq).1, (hB q hq).2⟩⟩
theorem AuAt.turn {wb w w' : World} {v : Value} {b : Bt} (h : AuAt wb w v b) (ht : Frm.Turn [] w w') : AuAt wb w' v b := ⟨h.1.turn ht (by simp), fun q hq => ⟨(h.2 q hq).1, Nat.lt_of_lt_of_le (h.2 q hq).2 ht.size⟩⟩
theorem AtAll.turn {F : List Nat} {bs : List (Bt × Value)} (h : AtAll W base r L V lg bs) (ht : Frm.Turn F W W') (hr : r ∉ F) (hv : ∀ i q, i < 255 → (V i).ownBlock = some q → q ∉ F) (hl : ∀ q, lg.ownBlock = some q → q ∉ F) (hi : ∀ b q, b ∈ bs → b.2.ownBlock = some q → q ∉ F) : AtAll W' base r L V lg bs :=
  ⟨h.ls.turn ht hr hv, Frm.owns_turn h.row ht hl, h.ok, fun b hb => (h.at_ b hb).turn ht (fun q hq => hi b q hb hq), h.lr, h.lv, fun b q hb hq => by
    obtain ⟨a1, a2, a3, a4⟩ := h.imm b q hb hq
    exact ⟨a1, a2, a3, Nat.lt_of_lt_of_le a4 ht.size⟩⟩
theorem AtAll.still {bs : List (Bt × Value)} (h : AtAll W base r L V lg bs) (ht : Frm.Turn [] W W') : AtAll W' base r L V lg bs := h.turn ht (by simp) (by simp) (by simp) (by simp)
theorem btCells_snoc (bs : List (Bt × Value)) (b : Bt) (v : Value) : btCells (bs ++ [(b, v)]) = btCells bs ++ [.int .u64 b.hd, v] := by simp [btCells]
theorem note_end {bs : List (Bt × Value)} {b : Bt} {wb w2 w9 : World} {lg' u : Value} (h : AtAll W base r L V lg bs) (hb : base ≤ W.heap.size) (hWb : Frm.Turn [] W wb) (hTa : Frm.Turn [] wb w2) (hAu : AuAt wb w2 u b) (ok : b.Ok)
    (hg : w2.grownBy w9 lg.ownBlock) (hl : lg'.ownBlock = lg.ownBlock ∨ lg'.ownBlock = some w2.heap.size) (ho : w9.ownsRow base 83 2 lg' (bs.length + 1) (btCells bs ++ [.int .u64 b.hd, u])) :
    Frm.Turn (r :: lg.ownBlock.toList) wb w9 ∧ w9.cell? ⟨r, 255, none⟩ = some lg ∧ w9.frozen? ⟨r, 255, none⟩ = false ∧ Frm.Turn (r :: lg.ownBlock.toList) wb (w9.setCell ⟨r, 255, none⟩ lg') ∧
      AtAll (w9.setCell ⟨r, 255, none⟩ lg') base r L V lg' (bs ++ [(b, u)]) ∧ Frm.Turn (r :: lg.ownBlock.toList) W (w9.setCell ⟨r, 255, none⟩ lg') ∧ (∀ q, lg'.ownBlock = some q → lg.ownBlock = some q ∨ W.heap.size ≤ q) ∧ ∀ q, u.ownBlock = some q → W.heap.size ≤ q := by
  have hT2 : Frm.Turn [] W w2 := hWb.trans hTa (by simp)
  have h2 := h.still hT2
  have hT9 := Frm.Turn.of_grown hg
  have hr9 : r ∉ lg.ownBlock.toList := by simpa using h.lr
  have hv9 : ∀ i q, i < 255 → (V i).ownBlock = some q → q ∉ lg.ownBlock.toList := fun i q hi hq => by simpa using h.lv i q hi hq
  have hb9 := hT9.keep h2.ls.body hr9
  have hst : Frm.Turn [r] w9 (w9.setCell ⟨r, 255, none⟩ lg') := (Frm.Turn.refl [r] w9).setCell (.inl (by simp)) _
  have hws := hT2.size
  have hwb := hWb.size
  have hlg : ∀ q, lg'.ownBlock = some q → lg.ownBlock = some q ∨ w2.heap.size ≤ q := fun q hq => by
    rcases hl with e | e
    · exact .inl (by rw [← e]; exact hq)
    · rw [e] at hq; cases hq; exact .inr (Nat.le_refl _)
  have hlr : lg'.ownBlock ≠ some r := fun e => by
    rcases hlg r e with h1 | h1
    · exact h.lr h1
    · have := h2.ls.lt; omega
  have hT29 : Frm.Turn (r :: lg.ownBlock.toList) w2 w9 := hT9.mono (fun q hq => List.mem_cons_of_mem _ hq)
  have hwb9 : Frm.Turn (r :: lg.ownBlock.toList) wb w9 := (hTa.mono (by simp)).trans hT29 (fun q hq => .inl hq)
  have hwb10 : Frm.Turn (r :: lg.ownBlock.toList) wb (w9.setCell ⟨r, 255, none⟩ lg') := hwb9.trans hst (fun q hq => .inl (by simp at hq; simp [hq]))
  refine ⟨hwb9, ?_, Frm.frozen_row _ _ _ _ _ hb9, hwb10, ⟨⟨?_, fun i hi => ?_, h.ls.apart, h.ls.vr⟩, ?_, fun c hc => ?_, fun c hc => ?_, hlr, fun i q hi hq => ?_, fun c q hc hq => ?_⟩, (hWb.mono (by simp)).trans hwb10 (fun q hq => .inl hq), fun q hq => (hlg q hq).imp id (fun h => by omega), fun q hq => by have := (hAu.2 q hq).1; omega⟩
  · rw [Frm.cell_row _ _ _ _ _ _ hb9, List.getElem?_toArray, atL_log]
  · rw [Frm.heap_set _ _ _ _ _ _ _ hb9]
    simp [← atL_setlog (V := V) (lg := lg) lg']
  · exact Frm.owns_turn (Frm.owns_turn (h2.ls.row i hi) hT9 (fun q hq => hv9 i q hi hq)) hst (fun q hq => by simp; rintro rfl; exact h.ls.vr i hi hq)
  · rw [btCells_snoc, List.length_append]
    exact Frm.owns_turn ho hst (fun q hq => by simp; rintro rfl; exact hlr hq)
  · rcases List.mem_append.1 hc with hc | hc
    · exact h.ok c hc
    · rw [List.mem_singleton.1 hc]; exact ok
  · rcases List.mem_append.1 hc with hc | hc
    · refine ((h2.at_ c hc).turn hT9 (fun q hq => ?_)).turn hst (fun q hq => ?_)
      · have := (h.imm c q hc hq).2.2.1
        simpa using this
      · have := (h.imm c q hc hq).1
        simpa using this
    · rw [List.mem_singleton.1 hc]
      refine (hAu.1.turn hT9 (fun q hq => ?_)).turn hst (fun q hq => ?_)
      · have h3 := (hAu.2 q hq).1
        simp
        intro e
        have := (h.row.lt q e).2
        omega
      · have h3 := (hAu.2 q hq).1
        have := h.ls.lt
        simp
        omega
  · intro e
    rcases hlg q e with h1 | h1
    · exact h.lv i q hi hq h1
    · have := ((h2.ls.row i hi).lt q hq).2
      omega
  · have hw9 := hT9.size
    have hsz := hst.size
    rcases List.mem_append.1 hc with hc | hc
    · obtain ⟨a1, a2, a3, a4⟩ := h.imm c q hc hq
      refine ⟨a1, a2, fun e => ?_, by omega⟩
      rcases hlg q e with h1 | h1
      · exact a3 h1
      · omega
    · rw [List.mem_singleton.1 hc] at hq
      obtain ⟨h3, h4⟩ := hAu.2 q hq
      have h5 := h.ls.lt
      refine ⟨by omega, fun i hi e => ?_, fun e => ?_, by omega⟩
      · have := ((h.ls.row i hi).lt q e).2
        omega
      · rcases hlg q e with h1 | h1
        · have := (h.row.lt q h1).2
          omega
        · omega
set_option maxRecDepth 100000 in
set_option maxHeartbeats 4000000 in
theorem note_any {v : Value} {b : Bt} {bs : List (Bt × Value)} (h : AtAll W base r L V lg bs) (hb : base ≤ W.heap.size) (hl : bs.length ≤ 65536) (hv : ApsAt W v b) (ok : b.Ok) :
    Calls Tryz.prog 40 #[.pointer (some ⟨r, 0, none⟩), .agg #[.int .u64 b.hd, v]] W fun e w' => e = .returned (.tuple #[]) ∧ ∃ lg' u, AtAll w' base r L V lg' (bs ++ [(b, u)]) ∧ Frm.Turn (r :: lg.ownBlock.toList) W w' ∧ (∀ q, lg'.ownBlock = some q → lg.ownBlock = some q ∨ W.heap.size ≤ q) ∧ ∀ q, u.ownBlock = some q → W.heap.size ≤ q := by
  obtain ⟨i0, hi, hz0, hz1, hz2⟩ := infw info_bt
  have hWB : Frm.Turn [] W (W.alloc (.cells #[.int .u64 b.hd, v] 83)) := (Frm.Turn.refl [] W).alloc _
  have hP := World.alloc_heap_new W (.cells #[.int .u64 b.hd, v] 83)
  have hrl : r < W.heap.size := h.ls.lt
  obtain ⟨lo, lc, rfl⟩ := Frm.row_form h.row
  go_enter Tryz.func40, Tryz.ntmps40
  go_wp2_with fail
  generalize hwb : W.alloc (.cells #[.int .u64 b.hd, v] 83) = wb at hWB hP ⊢
  have HWB := Lib.hid hWB
  have HPB : Hid (∀ W', Frm.Turn (r :: (Value.slice lo bs.length lc).ownBlock.toList) wb W' → W'.cell? ⟨W.heap.size, 0, none⟩ = some (.int .u64 b.hd) ∧ W'.cell? ⟨W.heap.size, 1, none⟩ = some v) := Lib.hid (fun W' hT => by
    have hk := hT.keep hP (by
      simp only [List.mem_cons, not_or]
      refine ⟨by omega, fun e => ?_⟩
      have := (h.row.lt _ (by simpa using e)).2
      omega)
    exact ⟨(Frm.cell_row _ _ 0 _ _ _ hk).trans rfl, (Frm.cell_row _ _ 1 _ _ _ hk).trans rfl⟩)
  have HCL : Hid (∀ W', Frm.Turn [] wb W' → W'.cell? ⟨r, 255, none⟩ = some (.slice lo bs.length lc)) := Lib.hid (fun W' hT => (h.still (hWB.trans hT (by simp))).ls.cellg)
  have HCB : Hid (∀ W', Frm.Turn [] wb W' → Calls Tryz.prog 90 #[.agg #[.int .u64 b.hd, v]] W' fun e w' => ∃ ao c, e = .returned (.agg #[.int .u64 b.hd, .slice ao b.n c]) ∧ ApsAt w' (.slice ao b.n c) b ∧ (∀ q, (Value.slice ao b.n c).ownBlock = some q → W'.heap.size ≤ q ∧ q < w'.heap.size) ∧ Frm.Turn [] W' w') := Lib.hid (fun W' hT => cloneBatch_any ((hv.turn hWB (by simp)).turn hT (by simp)) ok)
  have HLR : Hid (∀ W', Frm.Turn [] wb W' → W'.ownsRow base 83 2 (.slice lo bs.length lc) bs.length (btCells bs)) := Lib.hid (fun W' hT => (h.still (hWB.trans hT (by simp))).row)
  have HWS := Lib.hid hWB.size
  have HH := Lib.hid h
  have HB := Lib.hid hb
  have HBL := Lib.hid hl
  have HOK := Lib.hid ok
  clear hWB hP h hb hl hv ok hwb hrl
  refine wp_region_held_drew (S := fun W' => Frm.Turn (r :: (Value.slice lo bs.length lc).ownBlock.toList) wb W') (by kernel_rfl) ?_ (fun hHeld => ?_)
  · exact ((Frm.Turn.refl _ wb).drew)
  have HTa0 := Lib.hid ((Frm.Turn.refl [] wb).drew)
  generalize wb.drew = w0 at HTa0 hHeld ⊢
  refine wpAnyH_take (i := 0) (v := ?_) rfl (by kernel_rfl) (by kernel_rfl) (by kernel_rfl) (fun _ _ _ h => h) (Or.inl ⟨by rfl, ?_⟩) (by assumption) ?_
  rotate_left
  · (intro w hSw; (try dsimp only at hSw); go_simp; try with_reducible rfl)
  try simp only [Act.put, List.getElem_toArray, List.getElem_cons_succ, List.getElem_cons_zero, List.setIfInBounds_toArray, List.set_cons_zero, List.set_cons_succ]
  refine wpAnyH_take (i := 1) (v := ?_) rfl (by kernel_rfl) (by kernel_rfl) (by kernel_rfl) (fun _ _ _ h => h) (Or.inl ⟨by rfl, ?_⟩) (by assumption) ?_
  rotate_left
  · (intro w hSw; (try dsimp only at hSw); go_simp; try with_reducible rfl)
  try simp only [Act.put, List.getElem_toArray, List.getElem_cons_succ, List.getElem_cons_zero, List.setIfInBounds_toArray, List.set_cons_zero, List.set_cons_succ]
  refine wpAnyH_take (i := 2) (v := ?_) rfl (by kernel_rfl) (by kernel_rfl) (by kernel_rfl) (fun _ _ _ h => h) (Or.inl ⟨by rfl, ?_⟩) (by assumption) ?_
  rotate_left
  · (intro w hSw; (try dsimp only at hSw); go_simp; try with_reducible rfl)
  try simp only [Act.put, List.getElem_toArray, List.getElem_cons_succ, List.getElem_cons_zero, List.setIfInBounds_toArray, List.set_cons_zero, List.set_cons_succ]
  refine wpAnyH_take (i := 3) (v := ?_) rfl (by kernel_rfl) (by kernel_rfl) (by kernel_rfl) (fun _ _ _ h => h) (Or.inl ⟨by rfl, ?_⟩) (by assumption) ?_
  rotate_left
  · (intro w hSw; (try dsimp only at hSw); go_simp; try with_reducible rfl)
  try simp only [Act.put, List.getElem_toArray, List.getElem_cons_succ, List.getElem_cons_zero, List.setIfInBounds_toArray, List.set_cons_zero, List.set_cons_succ]
  refine wpAnyH_take (i := 5) (v := ?_) rfl (by kernel_rfl) (by kernel_rfl) (by kernel_rfl) (fun _ _ _ h => h) (Or.inl ⟨by rfl, ?_⟩) (by assumption) ?_
  rotate_left
  · (intro w hSw; (try dsimp only at hSw); obtain ⟨p0, p1⟩ := HPB.out _ hSw; go_simp; try with_reducible rfl)
  try simp only [Act.put, List.getElem_toArray, List.getElem_cons_succ, List.getElem_cons_zero, List.setIfInBounds_toArray, List.set_cons_zero, List.set_cons_succ]
  clear hHeld
  refine wpAnyH_ready (rs := [4, 6]) (by kernel_rfl) (by simp) ?_
  refine (AllReadyH.cons rfl (fun K hK => ?_) (AllReadyH.cons rfl (fun K hK => ?_) AllReadyH.nil))
  · try simp only [List.getElem_toArray, List.getElem_cons_succ, List.getElem_cons_zero]
    have pv := HCL.out _ HTa0.out
    go_simp
    clear pv
    refine hK.out _ _ ((HTa0.out.mono (by simp))) (fun hSl => ?_)
    clear hK K
    try simp only [Act.put, List.getElem_toArray, List.getElem_cons_succ, List.getElem_cons_zero, List.setIfInBounds_toArray, List.set_cons_zero, List.set_cons_succ]
    clear hSl
    refine wpAnyH_ready (rs := [6]) (by kernel_rfl) (by simp) ?_
    refine AllReadyH.cons rfl (fun K hK => ?_) AllReadyH.nil
    try simp only [List.getElem_toArray, List.getElem_cons_succ, List.getElem_cons_zero]
    go_simp
    (go_at_call 90; (with_reducible refine (HCB.out w0 HTa0.out).mono ?_); rintro e w1 ⟨au, cu, rfl, hA, hB, hT⟩; have HTa1 := Lib.hid (HTa0.out.trans hT (by simp)); have HAu1 := Lib.hid (au_of hA hB HTa0.out.size); clear hA hB hT)
    try go_wp2_with fail
    refine hK.out _ _ ((HTa1.out.mono (by simp))) (fun hSa => ?_)
    clear hK K
    try simp only [Act.put, List.getElem_toArray, List.getElem_cons_succ, List.getElem_cons_zero, List.setIfInBounds_toArray, List.set_cons_zero, List.set_cons_succ]
    clear hSa
    refine wpAnyH_ready (rs := [7]) (by kernel_rfl) (by simp) ?_
    refine (AllReadyH.cons rfl (fun K hK => ?_) AllReadyH.nil)
    · try simp only [List.getElem_toArray, List.getElem_cons_succ, List.getElem_cons_zero]
      try simp only [List.getElem_toArray, List.getElem_cons_succ, List.getElem_cons_zero]
      go_simp
      have HTa2 := Lib.hid (HTa1.out.alloc (Obj.cells #[.int .u64 b.hd, .slice au b.n cu] 83))
      have HN2 := Lib.hid (two_news w1 (.int .u64 b.hd) (.slice au b.n cu) 83)
      have HAu2 := Lib.hid (HAu1.out.turn ((Frm.Turn.refl [] w1).alloc (Obj.cells #[.int .u64 b.hd, .slice au b.n cu] 83)))
      obtain ⟨H02, hH0⟩ : ∃ x, x = w1.heap.size := ⟨_, rfl⟩
      rw [← hH0] at HN2 ⊢
      clear hH0
      generalize World.alloc w1 _ = w2 at HTa2 HN2 HAu2 ⊢
      have HR2 := Lib.hid (HLR.out _ HTa2.out)
      refine hK.out _ _ ((HTa2.out.mono (by simp))) (fun hSb => ?_)
      clear hK K
      try simp only [Act.put, List.getElem_toArray, List.getElem_cons_succ, List.getElem_cons_zero, List.setIfInBounds_toArray, List.set_cons_zero, List.set_cons_succ]
      clear hSb
      refine wpAnyH_ready (rs := [8]) (by kernel_rfl) (by simp) ?_
      refine (AllReadyH.cons rfl (fun K hK => ?_) AllReadyH.nil)
      · skip
        refine Frm.step_append_own (by rfl) (.tmp 10) (.tmp 13) 89 (by rfl) 83 i0 (.agg #[.int .u64 0, .slice none 0 0]) 2 32 under_bts hi hz0 hz1 hz2 rfl (by decide) base (.slice lo bs.length lc) bs.length (btCells bs) (by rfl) HR2.out ⟨H02, 0, none⟩ 1 1 [.int .u64 b.hd, .slice au b.n cu] (by rfl) (by rfl) HN2.out (by simp [Value.oneCell']) (by have := HBL.out; unfold maxLen; omega) (by have := HBL.out; omega) (by have := HB.out; have := HTa2.out.size; have := HWS.out; omega) ?_
        intro v9 w9 ho9 hg9 hl9
        obtain ⟨va, vc, rfl⟩ := Frm.row_form ho9
        have HE9 := Lib.hid (note_end HH.out HB.out HWB.out HTa2.out HAu2.out HOK.out hg9 hl9 ho9)
        clear ho9 hg9 hl9
        refine hK.out _ _ (HE9.out.1) (fun hS9 => ?_)
        clear hK K
        try simp only [Act.put, List.getElem_toArray, List.getElem_cons_succ, List.getElem_cons_zero, List.setIfInBounds_toArray, List.set_cons_zero, List.set_cons_succ]
        refine wpAnyH_take (i := 9) (v := ?_) rfl (by kernel_rfl) (by kernel_rfl) (by kernel_rfl) (fun _ _ _ h => h) (Or.inl ⟨by rfl, ?_⟩) (by assumption) ?_
        rotate_left
        · (intro w hSw; (try dsimp only at hSw); go_simp; try with_reducible rfl)
        try simp only [Act.put, List.getElem_toArray, List.getElem_cons_succ, List.getElem_cons_zero, List.setIfInBounds_toArray, List.set_cons_zero, List.set_cons_succ]
        refine wpAnyH_take (i := 10) (v := ?_) rfl (by kernel_rfl) (by kernel_rfl) (by kernel_rfl) (fun _ _ _ h => h) (Or.inl ⟨by rfl, ?_⟩) (by assumption) ?_
        rotate_left
        · (intro w hSw; (try dsimp only at hSw); go_simp; try with_reducible rfl)
        try simp only [Act.put, List.getElem_toArray, List.getElem_cons_succ, List.getElem_cons_zero, List.setIfInBounds_toArray, List.set_cons_zero, List.set_cons_succ]
        clear hS9
        refine wpAnyH_ready (rs := [11]) (by kernel_rfl) (by simp) ?_
        refine (AllReadyH.cons rfl (fun K hK => ?_) AllReadyH.nil)
        · try simp only [List.getElem_toArray, List.getElem_cons_succ, List.getElem_cons_zero]
          have pv := HE9.out.2.1
          have pf := HE9.out.2.2.1
          go_simp
          refine hK.out _ _ (HE9.out.2.2.2.1) (fun hS10 => ?_)
          clear hK K
          try simp only [Act.put, List.getElem_toArray, List.getElem_cons_succ, List.getElem_cons_zero, List.setIfInBounds_toArray, List.set_cons_zero, List.set_cons_succ]
          refine wpAnyH_done (by kernel_rfl) ?_ _
          go_wp2_with fail
          go_end0
          exact ⟨rfl, _, _, HE9.out.2.2.2.2⟩
  · try simp only [List.getElem_toArray, List.getElem_cons_succ, List.getElem_cons_zero]
    try simp only [List.getElem_toArray, List.getElem_cons_succ, List.getElem_cons_zero]
    go_simp
    (go_at_call 90; (with_reducible refine (HCB.out w0 HTa0.out).mono ?_); rintro e w1 ⟨au, cu, rfl, hA, hB, hT⟩; have HTa1 := Lib.hid (HTa0.out.trans hT (by simp)); have HAu1 := Lib.hid (au_of hA hB HTa0.out.size); clear hA hB hT)
    try go_wp2_with fail
    refine hK.out _ _ ((HTa1.out.mono (by simp))) (fun hSa => ?_)
    clear hK K
    try simp only [Act.put, List.getElem_toArray, List.getElem_cons_succ, List.getElem_cons_zero, List.setIfInBounds_toArray, List.set_cons_zero, List.set_cons_succ]
    clear hSa
    refine wpAnyH_ready (rs := [4, 7]) (by kernel_rfl) (by simp) ?_
    refine (AllReadyH.cons rfl (fun K hK => ?_) (AllReadyH.cons rfl (fun K hK => ?_) AllReadyH.nil))
    · try simp only [List.getElem_toArray, List.getElem_cons_succ, List.getElem_cons_zero]
      have pv := HCL.out _ HTa1.out
      go_simp
      clear pv
      refine hK.out _ _ ((HTa1.out.mono (by simp))) (fun hSl => ?_)
      clear hK K
      try simp only [Act.put, List.getElem_toArray, List.getElem_cons_succ, List.getElem_cons_zero, List.setIfInBounds_toArray, List.set_cons_zero, List.set_cons_succ]
      clear hSl
      refine wpAnyH_ready (rs := [7]) (by kernel_rfl) (by simp) ?_
      refine (AllReadyH.cons rfl (fun K hK => ?_) AllReadyH.nil)
      · try simp only [List.getElem_toArray, List.getElem_cons_succ, List.getElem_cons_zero]
        try simp only [List.getElem_toArray, List.getElem_cons_succ, List.getElem_cons_zero]
        go_simp
        have HTa2 := Lib.hid (HTa1.out.alloc (Obj.cells #[.int .u64 b.hd, .slice au b.n cu] 83))
        have HN2 := Lib.hid (two_news w1 (.int .u64 b.hd) (.slice au b.n cu) 83)
        have HAu2 := Lib.hid (HAu1.out.turn ((Frm.Turn.refl [] w1).alloc (Obj.cells #[.int .u64 b.hd, .slice au b.n cu] 83)))
        obtain ⟨H02, hH0⟩ : ∃ x, x = w1.heap.size := ⟨_, rfl⟩
        rw [← hH0] at HN2 ⊢
        clear hH0
        generalize World.alloc w1 _ = w2 at HTa2 HN2 HAu2 ⊢
        have HR2 := Lib.hid (HLR.out _ HTa2.out)
        refine hK.out _ _ ((HTa2.out.mono (by simp))) (fun hSb => ?_)
        clear hK K
        try simp only [Act.put, List.getElem_toArray, List.getElem_cons_succ, List.getElem_cons_zero, List.setIfInBounds_toArray, List.set_cons_zero, List.set_cons_succ]
        clear hSb
        refine wpAnyH_ready (rs := [8]) (by kernel_rfl) (by simp) ?_
        refine (AllReadyH.cons rfl (fun K hK => ?_) AllReadyH.nil)
        · skip
          refine Frm.step_append_own (by rfl) (.tmp 10) (.tmp 13) 89 (by rfl) 83 i0 (.agg #[.int .u64 0, .slice none 0 0]) 2 32 under_bts hi hz0 hz1 hz2 rfl (by decide) base (.slice lo bs.length lc) bs.length (btCells bs) (by rfl) HR2.out ⟨H02, 0, none⟩ 1 1 [.int .u64 b.hd, .slice au b.n cu] (by rfl) (by rfl) HN2.out (by simp [Value.oneCell']) (by have := HBL.out; unfold maxLen; omega) (by have := HBL.out; omega) (by have := HB.out; have := HTa2.out.size; have := HWS.out; omega) ?_
          intro v9 w9 ho9 hg9 hl9
          obtain ⟨va, vc, rfl⟩ := Frm.row_form ho9
          have HE9 := Lib.hid (note_end HH.out HB.out HWB.out HTa2.out HAu2.out HOK.out hg9 hl9 ho9)
          clear ho9 hg9 hl9
          refine hK.out _ _ (HE9.out.1) (fun hS9 => ?_)
          clear hK K
          try simp only [Act.put, List.getElem_toArray, List.getElem_cons_succ, List.getElem_cons_zero, List.setIfInBounds_toArray, List.set_cons_zero, List.set_cons_succ]
          refine wpAnyH_take (i := 9) (v := ?_) rfl (by kernel_rfl) (by kernel_rfl) (by kernel_rfl) (fun _ _ _ h => h) (Or.inl ⟨by rfl, ?_⟩) (by assumption) ?_
          rotate_left
          · (intro w hSw; (try dsimp only at hSw); go_simp; try with_reducible rfl)
          try simp only [Act.put, List.getElem_toArray, List.getElem_cons_succ, List.getElem_cons_zero, List.setIfInBounds_toArray, List.set_cons_zero, List.set_cons_succ]
          refine wpAnyH_take (i := 10) (v := ?_) rfl (by kernel_rfl) (by kernel_rfl) (by kernel_rfl) (fun _ _ _ h => h) (Or.inl ⟨by rfl, ?_⟩) (by assumption) ?_
          rotate_left
          · (intro w hSw; (try dsimp only at hSw); go_simp; try with_reducible rfl)
          try simp only [Act.put, List.getElem_toArray, List.getElem_cons_succ, List.getElem_cons_zero, List.setIfInBounds_toArray, List.set_cons_zero, List.set_cons_succ]
          clear hS9
          refine wpAnyH_ready (rs := [11]) (by kernel_rfl) (by simp) ?_
          refine (AllReadyH.cons rfl (fun K hK => ?_) AllReadyH.nil)
          · try simp only [List.getElem_toArray, List.getElem_cons_succ, List.getElem_cons_zero]
            have pv := HE9.out.2.1
            have pf := HE9.out.2.2.1
            go_simp
            refine hK.out _ _ (HE9.out.2.2.2.1) (fun hS10 => ?_)
            clear hK K
            try simp only [Act.put, List.getElem_toArray, List.getElem_cons_succ, List.getElem_cons_zero, List.setIfInBounds_toArray, List.set_cons_zero, List.set_cons_succ]
            refine wpAnyH_done (by kernel_rfl) ?_ _
            go_wp2_with fail
            go_end0
            exact ⟨rfl, _, _, HE9.out.2.2.2.2⟩
    · try simp only [List.getElem_toArray, List.getElem_cons_succ, List.getElem_cons_zero]
      try simp only [List.getElem_toArray, List.getElem_cons_succ, List.getElem_cons_zero]
      go_simp
      have HTa2 := Lib.hid (HTa1.out.alloc (Obj.cells #[.int .u64 b.hd, .slice au b.n cu] 83))
      have HN2 := Lib.hid (two_news w1 (.int .u64 b.hd) (.slice au b.n cu) 83)
      have HAu2 := Lib.hid (HAu1.out.turn ((Frm.Turn.refl [] w1).alloc (Obj.cells #[.int .u64 b.hd, .slice au b.n cu] 83)))
      obtain ⟨H02, hH0⟩ : ∃ x, x = w1.heap.size := ⟨_, rfl⟩
      rw [← hH0] at HN2 ⊢
      clear hH0
      generalize World.alloc w1 _ = w2 at HTa2 HN2 HAu2 ⊢
      have HR2 := Lib.hid (HLR.out _ HTa2.out)
      refine hK.out _ _ ((HTa2.out.mono (by simp))) (fun hSb => ?_)
      clear hK K
      try simp only [Act.put, List.getElem_toArray, List.getElem_cons_succ, List.getElem_cons_zero, List.setIfInBounds_toArray, List.set_cons_zero, List.set_cons_succ]
      clear hSb
      refine wpAnyH_ready (rs := [4]) (by kernel_rfl) (by simp) ?_
      refine (AllReadyH.cons rfl (fun K hK => ?_) AllReadyH.nil)
      · try simp only [List.getElem_toArray, List.getElem_cons_succ, List.getElem_cons_zero]
        try simp only [List.getElem_toArray, List.getElem_cons_succ, List.getElem_cons_zero]
        have pv := HCL.out _ HTa2.out
        go_simp
        clear pv
        refine hK.out _ _ ((HTa2.out.mono (by simp))) (fun hSl => ?_)
        clear hK K
        try simp only [Act.put, List.getElem_toArray, List.getElem_cons_succ, List.getElem_cons_zero, List.setIfInBounds_toArray, List.set_cons_zero, List.set_cons_succ]
        clear hSl
        refine wpAnyH_ready (rs := [8]) (by kernel_rfl) (by simp) ?_
        refine (AllReadyH.cons rfl (fun K hK => ?_) AllReadyH.nil)
        · skip
          refine Frm.step_append_own (by rfl) (.tmp 10) (.tmp 13) 89 (by rfl) 83 i0 (.agg #[.int .u64 0, .slice none 0 0]) 2 32 under_bts hi hz0 hz1 hz2 rfl (by decide) base (.slice lo bs.length lc) bs.length (btCells bs) (by rfl) HR2.out ⟨H02, 0, none⟩ 1 1 [.int .u64 b.hd, .slice au b.n cu] (by rfl) (by rfl) HN2.out (by simp [Value.oneCell']) (by have := HBL.out; unfold maxLen; omega) (by have := HBL.out; omega) (by have := HB.out; have := HTa2.out.size; have := HWS.out; omega) ?_
          intro v9 w9 ho9 hg9 hl9
          obtain ⟨va, vc, rfl⟩ := Frm.row_form ho9
          have HE9 := Lib.hid (note_end HH.out HB.out HWB.out HTa2.out HAu2.out HOK.out hg9 hl9 ho9)
          clear ho9 hg9 hl9
          refine hK.out _ _ (HE9.out.1) (fun hS9 => ?_)
          clear hK K
          try simp only [Act.put, List.getElem_toArray, List.getElem_cons_succ, List.getElem_cons_zero, List.setIfInBounds_toArray, List.set_cons_zero, List.set_cons_succ]
          refine wpAnyH_take (i := 9) (v := ?_) rfl (by kernel_rfl) (by kernel_rfl) (by kernel_rfl) (fun _ _ _ h => h) (Or.inl ⟨by rfl, ?_⟩) (by assumption) ?_
          rotate_left
          · (intro w hSw; (try dsimp only at hSw); go_simp; try with_reducible rfl)
          try simp only [Act.put, List.getElem_toArray, List.getElem_cons_succ, List.getElem_cons_zero, List.setIfInBounds_toArray, List.set_cons_zero, List.set_cons_succ]
          refine wpAnyH_take (i := 10) (v := ?_) rfl (by kernel_rfl) (by kernel_rfl) (by kernel_rfl) (fun _ _ _ h => h) (Or.inl ⟨by rfl, ?_⟩) (by assumption) ?_
          rotate_left
          · (intro w hSw; (try dsimp only at hSw); go_simp; try with_reducible rfl)
          try simp only [Act.put, List.getElem_toArray, List.getElem_cons_succ, List.getElem_cons_zero, List.setIfInBounds_toArray, List.set_cons_zero, List.set_cons_succ]
          clear hS9
          refine wpAnyH_ready (rs := [11]) (by kernel_rfl) (by simp) ?_
          refine (AllReadyH.cons rfl (fun K hK => ?_) AllReadyH.nil)
          · try simp only [List.getElem_toArray, List.getElem_cons_succ, List.getElem_cons_zero]
            have pv := HE9.out.2.1
            have pf := HE9.out.2.2.1
            go_simp
            refine hK.out _ _ (HE9.out.2.2.2.1) (fun hS10 => ?_)
            clear hK K
            try simp only [Act.put, List.getElem_toArray, List.getElem_cons_succ, List.getElem_cons_zero, List.setIfInBounds_toArray, List.set_cons_zero, List.set_cons_succ]
            refine wpAnyH_done (by kernel_rfl) ?_ _
            go_wp2_with fail
            go_end0
            exact ⟨rfl, _, _, HE9.out.2.2.2.2⟩
end Att
end Go.Proofs.YtpajafecodkndaaGreat

set_option linter.unusedVariables false
set_option linter.unusedSimpArgs false
namespace Go.Proofs.YtpajafecodkndaaGreat
namespace Att
open Go.RowKit Go.Maps Arn

variable {V : Nat → Value} {lg : Value} {L : Nat → List Int} {W W' : World} {base r s : Nat} {bs : List (Bt × Value)}
theorem bt_cell (h : W.ownsRow base 83 2 lg bs.length (btCells bs)) {j : Nat} (hj : j < bs.length) : ∃ g c x, bs[j]? = some x ∧ lg = .slice (some ⟨g, 0, none⟩) bs.length c ∧ W.cell? ⟨g, j * 2, none⟩ = some (.int .u64 x.1.hd) ∧ W.cell? ⟨g, j * 2 + 1, none⟩ = some x.2 := by
  have h0 := h
  rcases h0.2 with ⟨_, e⟩ | ⟨g, cap, cur, rfl, _⟩
  · omega
  · obtain ⟨x, hx⟩ : ∃ x, bs[j]? = some x := ⟨bs[j], List.getElem?_eq_getElem hj⟩
    have hg : ∀ (l : List (Bt × Value)) (i : Nat) (y : Bt × Value), l[i]? = some y → (btCells l)[i * 2]? = some (.int .u64 y.1.hd) ∧ (btCells l)[i * 2 + 1]? = some y.2 := by
      intro l
      induction l with
      | nil => intro i y h; simp at h
      | cons z t ih =>
        intro i y h
        cases i with
        | zero => simp at h; subst h; simp [btCells]
        | succ i =>
          simp at h
          have := ih i y h
          have e : (i + 1) * 2 = i * 2 + 2 := by omega
          have e2 : (i + 1) * 2 + 1 = (i * 2 + 1) + 2 := by omega
          rw [e2, e]
          simpa [btCells] using this
    obtain ⟨a1, a2⟩ := hg bs j x hx
    exact ⟨g, cap, x, hx, rfl, (h.cellAt (j * 2) (by omega)).trans a1, (h.cellAt (j * 2 + 1) (by omega)).trans a2⟩
/-- What Log tells. -/
structure LogOf (W0 W : World) (ao : Option Addr) (c j : Nat) (bs us : List (Bt × Value)) : Prop where
  same : us.map Prod.fst = (bs.take j).map Prod.fst
  row : W.ownsRow W0.heap.size 83 2 (.slice ao j c) j (btCells us)
  at_ : ∀ u, u ∈ us → ApsAt W u.2 u.1
  off : ∀ u q, u ∈ us → u.2.ownBlock = some q → W0.heap.size ≤ q ∧ q < W.heap.size ∧ (Value.slice ao j c).ownBlock ≠ some q
  turn : Frm.Turn [] W0 W
theorem LogOf.more {W0 W W1 W2 W9 : World} {ao va : Option Addr} {c vc j : Nat} {us : List (Bt × Value)} {x : Bt × Value} {u : Value} (h : LogOf W0 W ao c j bs us) (hx : bs[j]? = some x) (h1 : Frm.Turn [] W W1) (h2 : Frm.Turn [] W1 W2) (hu : AuAt W1 W2 u x.1)
    (hg : W2.grownBy W9 (Value.slice ao j c).ownBlock) (hl : (Value.slice va (j + 1) vc).ownBlock = (Value.slice ao j c).ownBlock ∨ (Value.slice va (j + 1) vc).ownBlock = some W2.heap.size) (ho : W9.ownsRow W0.heap.size 83 2 (.slice va (j + 1) vc) (j + 1) (btCells us ++ [.int .u64 x.1.hd, u])) : LogOf W0 W9 va vc (j + 1) bs (us ++ [(x.1, u)]) := by
  have hT9 := Frm.Turn.of_grown hg
  have h12 : Frm.Turn [] W W2 := h1.trans h2 (by simp)
  have hs1 := h1.size
  have hs2 := h2.size
  have hs9 := hT9.size
  have hs0 := h.turn.size
  have hrow := Frm.owns_turn h.row h12 (by simp)
  have hvl : ∀ q, (Value.slice va (j + 1) vc).ownBlock = some q → (Value.slice ao j c).ownBlock = some q ∨ W2.heap.size ≤ q := fun q hq => by
    rcases hl with e | e
    · exact .inl (by rw [← e]; exact hq)
    · rw [e] at hq; cases hq; exact .inr (Nat.le_refl _)
  refine ⟨?_, by rw [btCells_snoc]; exact ho, fun y hy => ?_, fun y q hy hq => ?_, (h.turn.trans h12 (by simp)).trans hT9 (fun q hq => .inr (by have := (hrow.lt q (by simpa using hq)).1; omega))⟩
  · rw [List.map_append, h.same, List.take_add_one, hx, List.map_append]
    rfl
  · rcases List.mem_append.1 hy with hy | hy
    · refine ((h.at_ y hy).turn h12 (by simp)).turn hT9 (fun q hq => ?_)
      have := (h.off y q hy hq).2.2
      simpa using this
    · rw [List.mem_singleton.1 hy]
      refine hu.1.turn hT9 (fun q hq => ?_)
      have h3 := (hu.2 q hq).1
      simp
      intro e
      have := (h.row.lt q e).2
      omega
  · rcases List.mem_append.1 hy with hy | hy
    · obtain ⟨a1, a2, a3⟩ := h.off y q hy hq
      refine ⟨a1, by omega, fun e => ?_⟩
      rcases hvl q e with h3 | h3
      · exact a3 h3
      · omega
    · rw [List.mem_singleton.1 hy] at hq
      obtain ⟨h3, h4⟩ := hu.2 q hq
      refine ⟨by omega, by omega, fun e => ?_⟩
      rcases hvl q e with h5 | h5
      · have := (h.row.lt q h5).2
        omega
      · omega
set_option maxRecDepth 100000 in
set_option maxHeartbeats 4000000 in
theorem log_any (h : AtAll W base r L V lg bs) (hl : bs.length ≤ 65536) :
    Calls Tryz.prog 46 #[.pointer (some ⟨r, 0, none⟩)] W fun e w' => ∃ ao c us, e = .returned (.slice ao bs.length c) ∧ LogOf W w' ao c bs.length bs us := by
  obtain ⟨i0, hi, hz0, hz1, hz2⟩ := infw info_bt
  obtain ⟨lo, lc, rfl⟩ := Frm.row_form h.row
  have cg := h.ls.cellg
  have HROW := Lib.hid h.row
  have HAT := Lib.hid (fun j x (hj : bs[j]? = some x) => And.intro (h.at_ x (List.mem_of_getElem? hj)) (h.ok x (List.mem_of_getElem? hj)))
  obtain ⟨wm, hmake, hmo, hmg⟩ := run_makeSlice_owned (P := Tryz.prog) W W.heap.size 89 83 i0 (.agg #[.int .u64 0, .slice none 0 0]) 2 under_bts hi hz0 hz1 .i64 .i64 bs.length (by omega) (by rw [hz2]; omega) (by unfold maxLen; omega) (Nat.le_refl _)
  have hmT := Frm.Turn.of_grown hmg
  have HL0 : Hid (LogOf W wm (some ⟨W.heap.size, 0, none⟩) bs.length 0 bs []) := Lib.hid ⟨by simp, hmo, (fun _ h => by cases h), (fun _ _ h => by cases h), hmT⟩
  have cg2 := hmT.cell cg (by simp)
  obtain ⟨n, HN⟩ : ∃ n, Hid (n = bs.length) := ⟨_, Lib.hid rfl⟩
  rw [← HN.out] at cg cg2 hmake HL0 hl ⊢
  have n0 : (0 : Int) ≤ (n : Int) := by omega
  have n1 : (n : Int) ≤ 65536 := by omega
  clear h hmo hmg hmT hl
  go_enter Tryz.func46, Tryz.ntmps46
  go_wp2
  go_loopw [3, 19] (fun v i wr => ∃ (j : Nat) (ao : Option Addr) (c : Nat) (us : List (Bt × Value)), j ≤ n ∧ i = .int .i64 j ∧ v = .slice ao j c ∧ LogOf W wr ao c j bs us) (fun _ i _ => n - (intOf i).toNat)
  case atStart => exact ⟨0, some ⟨W.heap.size, 0, none⟩, n, [], by omega, rfl, rfl, HL0.out⟩
  case round =>
    obtain ⟨j, ao, c, us, hj, rfl, rfl, hLO⟩ := hrel
    have HLO := Lib.hid hLO
    have j0 : (0 : Int) ≤ (j : Int) := by omega
    by_cases e : j < n
    · have h1 : (j : Int) < (n : Int) := by omega
      obtain ⟨ug, uc2, x, hx, e1, p0, p1⟩ := bt_cell HROW.out (show j < bs.length by rw [← HN.out]; exact e)
      rw [← HN.out] at e1
      cases e1
      have q0 := hLO.turn.cell p0 (by simp)
      have q1 := hLO.turn.cell p1 (by simp)
      obtain ⟨a1, a2⟩ := HAT.out j x hx
      obtain ⟨xo, xc, hx2⟩ : ∃ ao c, x.2 = .slice ao x.1.n c := by
        rcases a1 with ⟨e, hz⟩ | ⟨a, c, e, _⟩
        · exact ⟨none, 0, by rw [e, hz]⟩
        · exact ⟨some a, c, e⟩
      rw [hx2] at a1 q1
      have HCB := Lib.hid (fun W' (hT : Frm.Turn [] wr W') => cloneBatch_any (a1.turn (hLO.turn.trans hT (by simp)) (by simp)) a2)
      have HX := Lib.hid hx
      have HJ := Lib.hid e
      clear hLO p0 p1 hx e hj a1 a2 hx2 hmake cg cg2 HL0
      go_upto_region 7 with fail
      have t2 : Frm.Turn [] wr (wr.alloc (.cells #[.int .u64 x.1.hd, .slice xo x.1.n xc] 83)) := (Frm.Turn.refl [] wr).alloc _
      have n2 := World.alloc_heap_new wr (.cells #[.int .u64 x.1.hd, .slice xo x.1.n xc] 83)
      have d0 := (Frm.cell_row _ _ 0 _ _ _ n2).trans rfl
      have d1 := (Frm.cell_row _ _ 1 _ _ _ n2).trans rfl
      generalize World.alloc wr _ = w2 at t2 d0 d1 ⊢
      have HT2 := Lib.hid t2
      clear q0 q1 t2 n2
      go_wp2_with (first
        | (go_at_call 90; (with_reducible refine (HCB.out _ HT2.out).mono ?_); rintro e w3 ⟨au, cu, rfl, hA, hB, hT⟩; have HAU := Lib.hid (au_of hA hB (Nat.le_refl _)); have HT3 := Lib.hid hT; have HRW := Lib.hid (Frm.owns_turn HLO.out.row ((HT2.out.trans hT (by simp)).alloc (.cells #[.int .u64 x.1.hd, .slice au x.1.n cu] 83)) (by simp)); have HNW := Lib.hid (two_news w3 (.int .u64 x.1.hd) (.slice au x.1.n cu) 83); clear hA hB hT)
        | (at_builtin; go_must (refine wpList_append_own_at _ rfl (.tmp 23) (.tmp 26) 89 rfl W.heap.size 83 i0 (.agg #[.int .u64 0, .slice none 0 0]) 2 32 under_bts hi hz0 hz1 hz2 rfl (by decide) (.slice ao j c) j (btCells us) rfl HRW.out ⟨w3.heap.size, 0, none⟩ 1 1 [.int .u64 x.1.hd, .slice au x.1.n cu] rfl rfl HNW.out (by simp [Value.oneCell']) (by have := HJ.out; unfold maxLen; omega) (by have := HJ.out; omega) (by have h1 := HLO.out.turn.size; have h2 := HT2.out.size; have h3 := HT3.out.size; simp; omega) ?_); intro v9 w9 hown9 hg9 _ hl9; obtain ⟨va, vc, rfl⟩ := Frm.row_form hown9; have HL9 := Lib.hid (HLO.out.more (x := x) (u := .slice au x.1.n cu) HX.out (W1 := w2) (W2 := w3.alloc (.cells #[.int .u64 x.1.hd, .slice au x.1.n cu] 83)) HT2.out (HT3.out.alloc _) (HAU.out.turn ((Frm.Turn.refl [] w3).alloc _)) hg9 hl9 hown9); clear hown9 hg9 hl9))
      exact ⟨⟨j + 1, va, vc, _, by have := HJ.out; omega, by simp, rfl, HL9.out⟩, by simp [intOf]; have := HJ.out; omega⟩
    · obtain rfl : j = n := by omega
      have h1 : ¬ (j : Int) < (j : Int) := by omega
      clear hLO
      go_wp2
      go_ret
      exact ⟨ao, c, rfl, us, HLO.out⟩
set_option maxRecDepth 100000 in
theorem noted_any (h : AtAll W base r L V lg bs) : Calls Tryz.prog 43 #[.pointer (some ⟨r, 0, none⟩)] W fun e w' => e = .returned (.int .i64 (bs.length : Int)) ∧ W = w' := by
  obtain ⟨lo, lc, rfl⟩ := Frm.row_form h.row
  have cg := h.ls.cellg
  clear h
  go_enter Tryz.func43, Tryz.ntmps43
  go_wp2
  go_ret
  exact ⟨rfl, rfl⟩
end Att
end Go.Proofs.YtpajafecodkndaaGreat
