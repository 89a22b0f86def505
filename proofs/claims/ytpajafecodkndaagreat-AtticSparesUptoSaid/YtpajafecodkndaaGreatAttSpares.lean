/- What AtticSpares goes by: its map of handles, its list, the sweep alone beside an attic. -/
/- The walk of AtticSpares. -/
import Derived.Test.YtpajafecodkndaaGreatAttSet
import Derived.Test.YtpajafecodkndaaGreatAttFirst
set_option linter.unusedVariables false
set_option linter.unusedSimpArgs false
namespace Go.Proofs.YtpajafecodkndaaGreat
namespace Att
open Go.RowKit Go.Maps Arn Pac Clm Cnt Sta Hld

variable {w W W' : World} {b k n r m ar : Nat} {A : Ar} {ps rest : List Part} {l : List Int} {D : DataW Unit}
abbrev OwnI15 (W : World) (m n : Nat) (D : DataW Unit) : Prop := W.ownsMap Tryz.prog 31 (plainElem Tryz.prog 3) m n D
theorem mapI15 : Tryz.prog.underlying 119 = some (.map 31 3) := by kernel_rfl
theorem under_i15 : Tryz.prog.underlying 3 = some (.int .i64) := by kernel_rfl
def seP (m n : Nat) (D : DataW Unit) : Part := ⟨[m], [], fun W => OwnI15 W m n D⟩
theorem seP_fra (m n : Nat) (D : DataW Unit) : (seP m n D).Fra := fun W W' F h ht h1 _ => Lst.own_turn h ht (h1 m (by simp [seP]))
/-- The handles that were seen, each once. -/
structure Seen (D : DataW Unit) (l : List Int) : Prop where
  has : ∀ x : Int, Maps.has D (.int .u64 x) = decide (x ∈ l)
  one : ∀ x : Int, x ∈ l → ∀ z, D.atKey (.int .u64 x) z = .lit (.int .i64 1)
theorem seen_0 : Seen (.map []) [] := ⟨fun x => by simp [Maps.has], fun x hx => by cases hx⟩
theorem Seen.put (h : Seen D l) (hm : IsMap D) (x : Int) : Seen (D.put (.int .u64 x) (.lit (.int .i64 1))) (l ++ [x]) := by
  refine ⟨fun y => ?_, fun y hy z => ?_⟩
  · by_cases e : y = x
    · subst e; rw [has_put_same hm (k := .int .u64 y) trivial]; simp
    · rw [has_put_other (by simpa using e), h.has]
      simp [e]
  · by_cases e : y = x
    · subst e; exact atKey_put_same hm (k := .int .u64 y) trivial _ _
    · rw [atKey_put_other (by simpa using e)]
      refine h.one y ?_ z
      rcases List.mem_append.1 hy with h1 | h1
      · exact h1
      · exact absurd (List.mem_singleton.1 h1) e
theorem se_look {x : Int} (ho : OwnI15 W m n D) (h : Seen D l) (h64 : W64 x) : (Instr.lookup 119 (.map (some m)) (.int .u64 x) false).run Tryz.prog W = .ok (.int .i64 (if x ∈ l then 1 else 0)) W := by
  obtain ⟨c, hrun, hat, _⟩ := ho.lookup_int keyU mapI15 under_i15 (by kernel_rfl) (key_u64 _ h64)
  rw [hrun]
  by_cases e : x ∈ l
  · rw [h.one x e] at hat
    rw [if_pos e]
    have : c = 1 := by simpa using hat.symm
    rw [this]
  · rw [atKey_of_not_has (by rw [h.has]; simpa using e)] at hat
    rw [if_neg e]
    have : c = 0 := by simpa using hat.symm
    rw [this]
/-- What lists of an attic hold: the list 0 alone. -/
def LZ (l : List Int) : Nat → List Int := upA (fun _ => []) 0 l
theorem LZ_at (l : List Int) : LZ l 0 = l := upA_at _ _ _
theorem LZ_put (l l' : List Int) : upA (LZ l) 0 l' = LZ l' := by
  funext i
  unfold LZ
  by_cases e : i = 0
  · subst e; rw [upA_at, upA_at]
  · rw [upA_ne _ _ e, upA_ne _ _ e, upA_ne _ _ e]
theorem LZ_nil : LZ [] = fun _ => [] := by
  funext i
  unfold LZ
  by_cases e : i = 0
  · subst e; rw [upA_at]
  · rw [upA_ne _ _ e]
theorem LZ_all (l : List Int) : (allW (LZ l) 255).length = l.length := by
  have h : ∀ n, (allW (LZ l) (n + 1)).length = l.length := by
    intro n
    induction n with
    | zero => simp [allW, LZ_at]
    | succ n ih =>
      rw [show allW (LZ l) (n + 1 + 1) = allW (LZ l) (n + 1) ++ LZ l (n + 1) from rfl, List.length_append, ih]
      have : LZ l (n + 1) = [] := by unfold LZ; rw [upA_ne _ _ (by omega)]
      rw [this]; simp
  exact h 254
/-- While handles are put: those of l. -/
def PS3 (w : World) (b ar m : Nat) (rest : List Part) (f : Nat → Nat → Int) (xs : List Int) (j : Nat) (W : World) : Prop :=
  ∃ A k V D n l, Stash w b A k (atP w.heap.size ar (LZ l) V (.slice none 0 0) [] :: seP m n D :: rest) W ∧ SetA A f xs ∧ Seen D l ∧ n ≤ l.length ∧ l.length ≤ j ∧ l.Nodup ∧ (∀ x, x ∈ l → x ∈ xs) ∧ k ≤ 300
theorem ps3_put {V : Nat → Value} {x : Int} {a : Addr} {c : Nat} (S : Stash w b A k (atP w.heap.size ar (LZ l) V (.slice none 0 0) [] :: seP m n D :: rest) W) (hw : ∀ j u, (u64s [x])[j]? = some u → W.cell? (a.add j) = some u) (hn : l.length ≤ 1000) :
    Calls Tryz.prog 36 #[.pointer (some ⟨ar, 0, none⟩), .int .i64 0, .slice (some a) 1 c] W fun e w' => e = .returned (.tuple #[]) ∧ ∃ V', Stash w b A k (atP w.heap.size ar (LZ (l ++ [x])) V' (.slice none 0 0) [] :: seP m n D :: rest) w' := by
  have := at_put (s := 0) (l := [x]) (c := c) S (by omega) hw (by rw [LZ_at]; simp; omega)
  rw [LZ_at, LZ_put] at this
  exact this
/-- The map has another entry. -/
theorem ps3_map {V : Nat → Value} {x : Int} {xs : List Int} {f : Nat → Nat → Int} {j : Nat} (S : Stash w b A k (atP w.heap.size ar (LZ (l ++ [x])) V (.slice none 0 0) [] :: seP m n D :: rest) W) (hg : W.grownBy W' (some m)) (ho : OwnI15 W' m (n + 1) (D.put (.int .u64 x) (.lit (.int .i64 1))))
    (hA : SetA A f xs) (hD : Seen D l) (hn : n ≤ l.length) (hl : l.length ≤ j) (hnd : l.Nodup) (hs : ∀ y, y ∈ l → y ∈ xs) (hk : k ≤ 300) (hx : x ∉ l) (hxs : x ∈ xs) : PS3 w b ar m rest f xs (j + 1) W' := by
  have hm : IsMap D := (show OwnI15 W m n D from S.on (seP m n D) (by simp)).isMap
  have T := Frm.Turn.of_grown hg
  have S1 := (S.perm (List.Perm.swap ..)).act (p' := seP m (n + 1) (D.put (.int .u64 x) (.lit (.int .i64 1)))) T (by simp [seP]) (seP_fra _ _ _) ho (fun y hy => .inl hy) (by simp [seP]) (by simp [seP])
  refine ⟨A, k, V, _, n + 1, l ++ [x], S1.perm (List.Perm.swap ..), hA, hD.put hm x, by simp; omega, by simp; omega, ?_, fun y hy => ?_, hk⟩
  · rw [List.nodup_append]
    refine ⟨hnd, by simp, fun a ha c hc e => ?_⟩
    rw [List.mem_singleton.1 hc] at e
    exact hx (e ▸ ha)
  · rcases List.mem_append.1 hy with h1 | h1
    · exact hs y h1
    · rw [List.mem_singleton.1 h1]; exact hxs
/-! ### the sweep -/
/-- The sweep behind j of its steps, alone. -/
def RunS (w : World) (b ar r : Nat) (rest : List Part) (f : Nat → Nat → Int) (I : Nat → Bool) (m : Nat) (l0 : List Int) (j : Nat) (W : World) : Prop :=
  ∃ A k pts V S l, SwIs w.heap.size r b ar 0 m S pts ∧ Stash w b A k (pts ++ atP w.heap.size ar (LZ l) V (.slice none 0 0) [] :: rest) W ∧ RunI f (I 0) (I 1) (I 2) m l0 j A S l ∧ k ≤ 300 + j
theorem runS_step {I : Nat → Bool} {H : Nat → Int} {l0 : List Int} {j : Nat} (R : RunS w b ar r rest (slotF H I 3) I m l0 j W) (hnd : l0.Nodup) (hw : ∀ x, x ∈ l0 → W64 x) (h5 : l0.length ≤ 600) (hj : j ≤ 2000) (hm : m ≤ 9223372036854775807) :
    Calls Tryz.prog 53 #[.pointer (some ⟨r, 0, none⟩)] W fun e w' => e = .returned (.tuple #[]) ∧ RunS w b ar r rest (slotF H I 3) I m l0 (j + 1) w' := by
  obtain ⟨A, k, pts, V, S, l, h1, h2, h3, h4⟩ := R
  have hlen := run_len h3
  refine (step_s (n := 2) (f := slotF H I 3) h1 h2 (by omega) (by omega) (run_fit hw h5 h3) (run_seg h3) (by omega) (by rw [LZ_at]; omega) hm).mono ?_
  rintro e w' ⟨he, pts', V', h1', h2'⟩
  rw [LZ_at, LZ_put] at h2'
  exact ⟨he, _, k + 1, pts', V', _, _, h1', h2', run_step (slotF_tab H I) hnd h3, by omega⟩
theorem size_s (S : Stash w b A k ps W) (x : Int) (hx : W64 x) : Calls Tryz.prog 56 #[.pointer (some ⟨b, 0, none⟩), .int .u64 x] W fun e w' => e = .returned (.int .i64 (A.size x : Int)) ∧ W = w' := by
  obtain ⟨M, h1, _⟩ := S.kin
  exact Arn.size_any h1.at_ x hx
theorem faults_s (S : Stash w b A k ps W) : Calls Tryz.prog 57 #[.pointer (some ⟨b, 0, none⟩)] W fun e w' => e = .returned (.int .i64 (A.faults : Int)) ∧ W = w' := by
  obtain ⟨M, h1, _⟩ := S.kin
  exact Arn.faults_any h1.at_
/-- How many of a list nobody holds. -/
def freeN (H : Nat → Int) (I : Nat → Bool) (l : List Int) : Nat := (l.filter fun x => !heldB H I x 3).length
theorem freeN_snoc (H : Nat → Int) (I : Nat → Bool) (l : List Int) (x : Int) : freeN H I (l ++ [x]) = freeN H I l + (if heldB H I x 3 then 0 else 1) := by
  unfold freeN
  rw [List.filter_append, List.length_append]
  cases e : heldB H I x 3 <;> simp [e]
/-- What is told at the end. -/
structure Out (w : World) (b ar r : Nat) (rest : List Part) (H : Nat → Int) (I : Nat → Bool) (m : Nat) (l0 : List Int) (W : World) : Prop where
  stash : ∃ A k pts V S l, SwIs w.heap.size r b ar 0 m S pts ∧ Stash w b A k (pts ++ atP w.heap.size ar (LZ l) V (.slice none 0 0) [] :: rest) W ∧ S.ph = 3 ∧ A.faults = 0 ∧ l.length + min (freeN H I l0) m = l0.length ∧ ∀ x, x ∈ l0 → heldB H I x 3 = true → A.size x ≠ 0
theorem out_of {I : Nat → Bool} {H : Nat → Int} {l0 : List Int} {j : Nat} (R : RunS w b ar r rest (slotF H I 3) I m l0 j W) (h5 : l0.length ≤ 600) (hj : 700 ≤ j) : Out w b ar r rest H I m l0 W := by
  obtain ⟨A, k, pts, V, S, l, h1, h2, h3, h4⟩ := R
  obtain ⟨e1, e2, e3⟩ := run_end h5 hj h3
  refine ⟨A, k, pts, V, S, l, h1, h2, e1, e2.clean, ?_, fun x hx hh => ?_⟩
  · have : (frees (slotF H I 3) (I 0) (I 1) (I 2) m l0).length = min (freeN H I l0) m := by
      unfold frees notIn freeN
      rw [List.length_take, Nat.min_comm]
      congr 2
      apply List.filter_congr
      intro x _
      have hh := held_iff H I x
      cases e : heldB H I x 3
      · rw [e] at hh
        simp at hh
        simp [hh]
      · rw [e] at hh
        simp at hh
        simp [hh]
    omega
  · refine e2.size (List.mem_filter.2 ⟨hx, ?_⟩)
    rw [decide_eq_true_eq]
    intro hf
    have h6 := (List.mem_filter.1 (List.mem_of_mem_take hf)).2
    rw [decide_eq_true_eq] at h6
    exact h6 ((held_iff H I x).2 hh)
end Att
end Go.Proofs.YtpajafecodkndaaGreat

set_option linter.unusedVariables false
set_option linter.unusedSimpArgs false
namespace Go.Proofs.YtpajafecodkndaaGreat
namespace Att
open Go.RowKit Go.Maps Arn Pac Clm Cnt Sta Hld

variable {w W W' : World} {b k n r mb : Nat} {A B : Ar} {ps X rest : List Part}
theorem Out.still {ar : Nat} {H : Nat → Int} {I : Nat → Bool} {m : Nat} {l0 : List Int} (h : Out w b ar r rest H I m l0 W) (hT : Frm.Turn [] W W') : Out w b ar r rest H I m l0 W' := by
  obtain ⟨A, k, pts, V, S, l, h1, h2, h3⟩ := h.stash
  exact ⟨A, k, pts, V, S, l, h1, h2.still hT, h3⟩
theorem under_case : Arn.structB (Tryz.prog.underlying 109) = true := by kernel_rfl
theorem info_case : (Tryz.prog.info? 109).map (·.size) = some 17 := by kernel_rfl
set_option maxRecDepth 100000 in
set_option maxHeartbeats 40000000 in
theorem spares_any (w : World) (vW : Value) (H : Nat → Int) (I : Nat → Bool) (aL : Nat → Option Addr) (nL cL : Nat → Nat) (zL : Nat → Int) (M : Nat → Int) (aP : Option Addr) (nP cP : Nat) (u : Nat → Value) (l : Nat → List Int) (nW : Nat) (hW : LstC w vW u l nW) (hl : ∀ i, i < nW → ∀ x, x ∈ l i → W64 x) (hH : ∀ i, i < 6 → 0 ≤ H i ∧ H i < 256)
    (hL : KindC .u8 w (.slice (aL 0) (nL 0) (cL 0)) zL (nL 0)) (hz : ∀ i, i < nL 0 → 0 ≤ zL i ∧ zL i < 256) (hM : -9223372036854775808 ≤ M 0 ∧ M 0 ≤ 9223372036854775807) (hs : nP + nL 0 + nL 1 + nL 2 + sumL l nW ≤ 40000000) :
    Calls Tryz.prog 6 #[.agg #[vW, .int .u8 (H 0), .int .u8 (H 1), .int .u8 (H 2), .int .u8 (H 3), .int .u8 (H 4), .int .u8 (H 5), .bool (I 0), .bool (I 1), .bool (I 2), .slice (aL 0) (nL 0) (cL 0), .slice (aL 1) (nL 1) (cL 1), .slice (aL 2) (nL 2) (cL 2), .int .i64 (M 0), .int .i64 (M 1), .int .i64 (M 2), .slice aP nP cP]] w fun e w' => e = .returned (.bool true) ∧ Frm.Turn [] w w' := by
  have HW := Lib.hid hW
  have HLX := Lib.hid hl
  have HHX := Lib.hid hH
  have HL := Lib.hid hL
  have HZ := Lib.hid hz
  have HM := Lib.hid hM
  have HS0 := Lib.hid hs
  obtain ⟨⟨aW, cW, rfl⟩, -⟩ := hW
  obtain ⟨wB, HwB⟩ : ∃ x, Hid (w.alloc (.cells #[.slice aW nW cW, .int .u8 (H 0), .int .u8 (H 1), .int .u8 (H 2), .int .u8 (H 3), .int .u8 (H 4), .int .u8 (H 5), .bool (I 0), .bool (I 1), .bool (I 2), .slice (aL 0) (nL 0) (cL 0), .slice (aL 1) (nL 1) (cL 1), .slice (aL 2) (nL 2) (cL 2), .int .i64 (M 0), .int .i64 (M 1), .int .i64 (M 2), .slice aP nP cP] 109) = x) := ⟨_, Lib.hid rfl⟩
  have HTB : Hid (Frm.Turn [] w wB) := Lib.hid (by rw [← HwB.out]; exact (Frm.Turn.refl [] w).alloc _)
  have hnB : wB.heap[w.heap.size]? = some (.cells #[.slice aW nW cW, .int .u8 (H 0), .int .u8 (H 1), .int .u8 (H 2), .int .u8 (H 3), .int .u8 (H 4), .int .u8 (H 5), .bool (I 0), .bool (I 1), .bool (I 2), .slice (aL 0) (nL 0) (cL 0), .slice (aL 1) (nL 1) (cL 1), .slice (aL 2) (nL 2) (cL 2), .int .i64 (M 0), .int .i64 (M 1), .int .i64 (M 2), .slice aP nP cP] 109 (0, 0)) := by rw [← HwB.out]; exact World.alloc_heap_new w _
  have HCB : Hid (∀ W', Frm.Turn [] wB W' → W'.heap[w.heap.size]? = some (.cells #[.slice aW nW cW, .int .u8 (H 0), .int .u8 (H 1), .int .u8 (H 2), .int .u8 (H 3), .int .u8 (H 4), .int .u8 (H 5), .bool (I 0), .bool (I 1), .bool (I 2), .slice (aL 0) (nL 0) (cL 0), .slice (aL 1) (nL 1) (cL 1), .slice (aL 2) (nL 2) (cL 2), .int .i64 (M 0), .int .i64 (M 1), .int .i64 (M 2), .slice aP nP cP] 109 (0, 0))) := Lib.hid (fun W' hT => hT.keep hnB (by simp))
  have HF := Lib.hid (first15 wB)
  have HGR := Lib.hid (fun W' (hT : Frm.Turn [] wB W') => great15 (H := H) (I := I) (M := M) (a0 := aL 0) (a1 := aL 1) (a2 := aL 2) (aP := aP) (c0 := cL 0) (c1 := cL 1) (c2 := cL 2) (cP := cP) (HW.out.turn (HTB.out.trans hT (by simp))) hs)
  obtain ⟨fsC, hfsC⟩ := struct_of under_case
  have HFC := Lib.hid hfsC
  clear hl hH hL hz hM hs hnB hfsC
  go_enter Tryz.func6, Tryz.ntmps6
  go_upto_region 1 with fail
  rw [HwB.out]
  go_upto_region 3 with (go_at_call 33; (with_reducible refine (HF.out).mono ?_); rintro e w1 ⟨rfl, hT⟩; have HT1 := Lib.hid hT; have HC1 := Lib.hid (HCB.out w1 hT); clear hT)
  by_cases hg : greatC nP (nL 0) (nL 1) (nL 2) nW l = true
  · rw [hg] at HGR
    clear HW HL HLX HHX HZ HM HS0
    go_wp2_with (first
      | (refine wpList_load_row rfl 109 (.tmp 1) rfl w.heap.size rfl 109 _ (0, 0) (.struct fsC) HC1.out HFC.out rfl info_case ?_)
      | (go_at_call 49; (with_reducible refine (HGR.out _ HT1.out).mono ?_); rintro e w2 ⟨rfl, hT⟩; have HT2 := Lib.hid hT; clear hT))
    go_ret
    exact ⟨rfl, (HTB.out.trans HT1.out (by simp)).trans HT2.out (by simp)⟩
  · have hg' : greatC nP (nL 0) (nL 1) (nL 2) nW l = false := by simpa using hg
    rw [hg'] at HGR
    have hgs : nP + nL 0 + nL 1 + nL 2 + sumL l nW ≤ 500 ∧ nW ≤ 100 := by
      unfold greatC at hg'
      simp only [Bool.or_eq_false_iff, decide_eq_false_iff_not] at hg'
      omega
    have HS := Lib.hid hgs
    have HST := Lib.hid (fun W' (hT : Frm.Turn [] wB W') => set_any W' (.slice aW nW cW) (.slice aP nP cP) H I (fun i => .slice (aL i) (nL i) (cL i)) M u l nW (HW.out.turn (HTB.out.trans hT (by simp))) HLX.out HHX.out ⟨hgs.2, by omega⟩)
    obtain ⟨fs, hfs⟩ := struct_of under_refA
    have HFS := Lib.hid hfs
    clear hg hg' hgs HS0 hfs
    go_upto_region 6 with (first
      | (refine wpList_load_row rfl 109 (.tmp 1) rfl w.heap.size rfl 109 _ (0, 0) (.struct fsC) HC1.out HFC.out rfl info_case ?_)
      | (refine wpList_load_row rfl 109 (.tmp 1) rfl w.heap.size rfl 109 _ (0, 0) (.struct fsC) HC2.out HFC.out rfl info_case ?_)
      | (go_at_call 49; (with_reducible refine (HGR.out _ HT1.out).mono ?_); rintro e w2 ⟨rfl, hT⟩; have HT2 := Lib.hid (HT1.out.trans hT (by simp)); have HC2 := Lib.hid (HCB.out w2 HT2.out); clear hT)
      | (go_at_call 50; (with_reducible refine (HST.out _ HT2.out).mono ?_); rintro e w3 ⟨wS, b, CS, G, A0, k0, pl, ao, bc, xs, rfl, y1, y2, y3, y4, y5, y6, y7⟩; have HZZ1 := Lib.hid y1; have HZZ2 := Lib.hid y2; have HTS := Lib.hid (HT2.out.trans y3 (by simp)); have HA0 := Lib.hid y4; have HXL := Lib.hid (And.intro y5 y6); have HS3 := Lib.hid y7.drop; clear y1 y2 y3 y4 y5 y6 y7)
      | (refine wpList_store_row rfl 37 (.tmp 4) (.tmp 27) rfl w3.heap.size CS rfl rfl 37 _ (World.alloc_heap_new w3 _) (by rw [HZZ1.out]; exact info_refA) (by rw [HZZ1.out]; rfl) HZZ2.out ?_))
    have hT4 : Frm.Turn [] w3 (World.setRow (w3.alloc (.cells zA20 37)) w3.heap.size CS) := setRow_turn ((Frm.Turn.refl [] w3).alloc _) (.inr (Nat.le_refl _)) CS
    unfold zA20 at hT4
    generalize World.setRow _ w3.heap.size CS = w4 at hT4 ⊢
    generalize w3.heap.size = mb
    have HS4 := Lib.hid (HS3.out.still hT4)
    clear HF HGR HST HS3 HZZ1 HZZ2 HT1 HT2 hT4 HC1 HC2 HW HLX HFC HFS
    obtain ⟨f, hf⟩ : ∃ x, x = slotF (fun i => blk xs (H i)) I 3 := ⟨_, rfl⟩
    have HFF := Lib.hid hf
    rw [← hf] at HA0
    clear hf
    have HNW := Lib.hid (at_new HS4.out)
    have hmm := @run_makeMap Tryz.prog
    go_upto_region 7 with (go_at_call 34; (with_reducible refine (HNW.out).mono ?_); rintro e w5 ⟨ar, rfl, hS⟩; have HS5 := Lib.hid hS; clear hS)
    go_upto_region 8 with fail
    have hS6 : Stash wS b A0 k0 (atP wS.heap.size ar (LZ []) (fun _ => .slice none 0 0) (.slice none 0 0) [] :: seP w5.heap.size 0 (.map []) :: [rwP wS.heap.size (.slice ao xs.length bc) xs, bkP pl oPl]) (w5.alloc (.map #[] 0)) := by
      rw [LZ_nil]
      refine (HS5.out.add (p' := seP w5.heap.size 0 (.map [])) ((Frm.Turn.refl [] w5).alloc _) (seP_fra _ _ _) (World.ownsMap_made w5 Tryz.prog 31 (plainElem Tryz.prog 3)) (fun x hx => ?_) (by simp [seP]) (by simp [seP])).perm (List.Perm.swap ..)
      simp [seP] at hx; subst hx
      exact ⟨Nat.le_refl _, by rw [World.size_alloc]; omega⟩
    generalize World.alloc w5 _ = w6 at hS6 ⊢
    generalize w5.heap.size = m at hS6 ⊢
    have HP6 : Hid (PS3 wS b ar m [rwP wS.heap.size (.slice ao xs.length bc) xs, bkP pl oPl] f xs 0 w6) := Lib.hid ⟨A0, k0, _, _, 0, [], hS6, HA0.out, seen_0, by simp, by simp, by simp, by simp, HXL.out.2⟩
    clear hS6 HS5 HNW HS4 HA0 hmm
    have HTW : Hid (∀ j W', PS3 wS b ar m [rwP wS.heap.size (.slice ao xs.length bc) xs, bkP pl oPl] f xs j W' → Frm.Turn [] wB W') := Lib.hid (fun j W' h => by
      obtain ⟨A1, k1, V1, D1, n1, l1, h1, -⟩ := h
      exact HTS.out.trans h1.kin.turn (by simp))
    have c10 : w6.cell? ⟨w.heap.size, 10, none⟩ = some (.slice (aL 0) (nL 0) (cL 0)) := (Frm.cell_row _ _ 10 _ _ _ (HCB.out w6 (HTW.out _ _ HP6.out))).trans rfl
    have hn500 : (nL 0 : Int) ≤ 500 := by have := HS.out.1; omega
    go_wp2_with fail
    clear c10
    go_loopw [36] (fun i wr => ∃ j : Nat, j ≤ nL 0 ∧ i = .int .i64 j ∧ PS3 wS b ar m [rwP wS.heap.size (.slice ao xs.length bc) xs, bkP pl oPl] f xs j wr) (fun i _ => nL 0 - (intOf i).toNat)
    case atStart => exact ⟨0, Nat.zero_le _, rfl, HP6.out⟩
    case round =>
      obtain ⟨j, hj, rfl, hP⟩ := hrel
      clear HP6
      by_cases hlt : j < nL 0
      · skip
        -- [[put
        as_aux_lemma =>
        obtain ⟨A1, k1, V1, D1, n1, l1, hS1, hA1, hD1, hn1, hl1, hnd1, hsub1, hk1⟩ := hP
        have hcell : ∃ ga gc, Value.slice (aL 0) (nL 0) (cL 0) = .slice (some ga) (nL 0) gc ∧ w.cell? (ga.add j) = some (.int .u8 (zL j)) := by
          rcases HL.out.2 with e0 | ⟨ga, gc, e0, hcell⟩
          · omega
          · exact ⟨ga, gc, e0, hcell j hlt⟩
        obtain ⟨ga, gc, e0, hcell⟩ := hcell
        simp only [Value.slice.injEq] at e0
        obtain ⟨e1, -, e2⟩ := e0
        rw [e1, e2]
        have hcj := (HTB.out.trans (HTS.out.trans hS1.kin.turn (by simp)) (by simp)).cell hcell (by simp)
        have HBK := Lib.hid (block_any (n := zL j) (words_row (hS1.on (rwP wS.heap.size (.slice ao xs.length bc) xs) (by simp))) (by have := HXL.out.1; omega) (HZ.out j hlt).1 (HZ.out j hlt).2)
        have h64 : W64 (blk xs (zL j)) := blk_64 hA1.w64 _
        have hlk := se_look (x := blk xs (zL j)) (hS1.on (seP m n1 D1) (by simp)) hD1 h64
        have hj1 : (j : Int) < (nL 0 : Int) := by omega
        have hj0 : (0 : Int) ≤ (j : Int) := by omega
        have HLT := Lib.hid hlt
        have HMEM := Lib.hid (blk_mem (xs := xs) (n := zL j))
        have HX := Lib.hid (And.intro hA1 (And.intro hD1 (And.intro hn1 (And.intro hl1 (And.intro hnd1 (And.intro hsub1 hk1))))))
        have HS1 := Lib.hid hS1
        have hl500 : l1.length ≤ 500 := by omega
        have HL5 := Lib.hid hl500
        clear hS1 hA1 hD1 hn1 hl1 hnd1 hsub1 hk1 hcell e1 e2 hj hlt hl500 HL
        generalize blk xs (zL j) = x at HBK h64 hlk HMEM
        by_cases hx0 : x = 0
        · subst hx0
          go_wp2_with (go_at_call 51; (with_reducible refine (HBK.out).mono ?_); rintro e w7 ⟨rfl, rfl⟩)
          refine ⟨⟨j + 1, HLT.out, by simp, A1, k1, V1, D1, n1, l1, HS1.out, HX.out.1, HX.out.2.1, HX.out.2.2.1, by have := HX.out.2.2.2.1; omega, HX.out.2.2.2.2.1, HX.out.2.2.2.2.2.1, HX.out.2.2.2.2.2.2⟩, ?_⟩
          have := HLT.out
          simp [intOf]; omega
        · have hxb : (x == 0) = false := by simpa using hx0
          have hxn : (x != 0) = true := by simpa using hx0
          by_cases hin : x ∈ l1
          · rw [if_pos hin] at hlk
            go_wp2_with (go_at_call 51; (with_reducible refine (HBK.out).mono ?_); rintro e w7 ⟨rfl, rfl⟩)
            refine ⟨⟨j + 1, HLT.out, by simp, A1, k1, V1, D1, n1, l1, HS1.out, HX.out.1, HX.out.2.1, HX.out.2.2.1, by have := HX.out.2.2.2.1; omega, HX.out.2.2.2.2.1, HX.out.2.2.2.2.2.1, HX.out.2.2.2.2.2.2⟩, ?_⟩
            have := HLT.out
            simp [intOf]; omega
          · rw [if_neg hin] at hlk
            have HIN := Lib.hid hin
            have HKEY := Lib.hid (key_u64 x h64)
            have hn100 : n1 < maxLen := by unfold maxLen; have := HX.out.2.2.1; have := HL5.out; omega
            have HN1 := Lib.hid hn100
            have HPT := Lib.hid (ps3_put (c := 1) (a := ⟨wr.heap.size, 0, none⟩) (x := x) (HS1.out.still ((Frm.Turn.refl [] wr).alloc (.cells #[.int .u64 x] 31))) (Dr.one_new wr (.int .u64 x) 31) (by have := HL5.out; omega))
            have HXM := Lib.hid (HMEM.out hx0)
            clear hin hn100 HMEM
            go_wp2_with (first
              | (go_at_call 51; (with_reducible refine (HBK.out).mono ?_); rintro e w7 ⟨rfl, rfl⟩)
              | (go_at_call 36; (with_reducible refine (HPT.out).mono ?_); rintro e w8 ⟨rfl, V8, hS8⟩; have HS8 := Lib.hid hS8; clear hS8; have hlk2 := se_look (x := x) (HS8.out.on (seP m n1 D1) (by simp)) HX.out.2.1 h64; rw [if_neg HIN.out] at hlk2; have HO8 : Hid (OwnI15 w8 m n1 D1) := Lib.hid (HS8.out.on (seP m n1 D1) (by simp)))
              | (at_mapUpdate; refine wpList_mapUpdate_own _ rfl _ _ _ 119 rfl 31 3 keyU mapI15 (plainElem Tryz.prog 3) m n1 D1 rfl HO8.out HN1.out _ _ _ rfl rfl HKEY.out _ [] (plainElem_int under_i15 (by decide)) ?_; intro w9 hown9 hgr9; have HO9 := Lib.hid hown9; have HG9 := Lib.hid hgr9; clear hown9 hgr9))
            obtain ⟨x1, x2, x3, x4, x5, x6, x7⟩ := HX.out
            refine ⟨⟨j + 1, HLT.out, by simp, ps3_map HS8.out HG9.out HO9.out x1 x2 x3 x4 x5 x6 x7 HIN.out HXM.out⟩, ?_⟩
            have := HLT.out
            simp [intOf]; omega
        -- ]]put
      · skip
        -- [[rest
        as_aux_lemma =>
        obtain rfl : j = nL 0 := by omega
        obtain ⟨A1, k1, V1, D1, n1, l1, hS1, hA1, hD1, hn1, hl1, hnd1, hsub1, hk1⟩ := hP
        have hl500 : l1.length ≤ 500 := by have := HS.out.1; omega
        have hli := at_list hS1 (s := 0) (r := ar) (L := LZ l1) (V := V1) (lg := .slice none 0 0) (bs := []) (by simp) (by omega) (by rw [LZ_at]; omega)
        have e00 : ((0 : Nat) : Int) = 0 := rfl
        rw [LZ_at, e00] at hli
        have HLI := Lib.hid hli
        have HX := Lib.hid (And.intro hnd1 (And.intro hl500 (And.intro hk1 (hA1.sub hsub1))))
        have H64 := Lib.hid (fun x (hx : x ∈ l1) => hA1.w64 x (hsub1 x hx))
        have hTB1 := HTS.out.trans hS1.kin.turn (by simp)
        have HTB1 := Lib.hid hTB1
        have c13 : ∀ W', Frm.Turn [] wr W' → W'.cell? ⟨w.heap.size, 13, none⟩ = some (.int .i64 (M 0)) := fun W' hT => (Frm.cell_row _ _ 13 _ _ _ (HCB.out W' (hTB1.trans hT (by simp)))).trans rfl
        have HC13 := Lib.hid c13
        clear hS1 hA1 hD1 hn1 hl1 hnd1 hsub1 hk1 hl500 hli hTB1 c13 HL HZ hj hlt
        go_upto_region 17 with (go_at_call 45; (with_reducible refine (HLI.out).mono ?_); rintro e w7 ⟨ao2, c2, rfl, hS7⟩; have HS7 := Lib.hid (hS7.perm (List.Perm.swap ..)); clear hS7)
        have hns := new_s HS7.out (s := 0) (m := (M 0).toNat) (by omega) (by rw [LZ_at]; have := HX.out.2.1; omega) (M 0) rfl HM.out
        rw [LZ_at, e00] at hns
        have HNS := Lib.hid hns
        have hT7 : Frm.Turn [] wB w7 := HTS.out.trans HS7.out.kin.turn (by simp)
        have c13' : w7.cell? ⟨w.heap.size, 13, none⟩ = some (.int .i64 (M 0)) := (Frm.cell_row _ _ 13 _ _ _ (HCB.out w7 hT7)).trans rfl
        clear hns HLI HC13 HTB1 hT7
        go_upto_region 18 with (go_at_call 47; (with_reducible refine (HNS.out).mono ?_); rintro e w8 ⟨r, pts8, rfl, hsw, hS8⟩; have HSW := Lib.hid hsw; have HS8 := Lib.hid hS8; clear hsw hS8)
        obtain ⟨mm, hmm⟩ : ∃ x, x = (M 0).toNat := ⟨_, rfl⟩
        have HMM := Lib.hid hmm
        rw [← hmm] at HSW
        obtain ⟨R2, hR2⟩ : ∃ x, x = roP wS.heap.size 31 1 l1.length (.slice ao2 l1.length c2) (u64s l1) :: seP m n1 D1 :: [rwP wS.heap.size (.slice ao xs.length bc) xs, bkP pl oPl] := ⟨_, rfl⟩
        have HR2 := Lib.hid hR2
        have HR8 : Hid (RunS wS b ar r R2 f I mm l1 0 w8) := Lib.hid ⟨A1, k1, pts8, V1, Sw.new l1, l1, HSW.out, by rw [HR2.out]; exact HS8.out, run_start HX.out.2.2.2, by have := HX.out.2.2.1; omega⟩
        clear hmm hR2 HSW HS8 HNS HS7 c13'
        go_wp2_with fail
        go_loopw [68] (fun i wz => ∃ y : Nat, y ≤ 1000 ∧ i = .int .i64 y ∧ RunS wS b ar r R2 f I mm l1 y wz) (fun i _ => 1000 - (intOf i).toNat)
        case atStart => exact ⟨0, Nat.zero_le _, rfl, HR8.out⟩
        case round =>
          obtain ⟨y, hy, rfl, hR⟩ := hrel
          clear HR8
          by_cases hlt : y < 1000
          · skip
            as_aux_lemma =>
            have hst : Calls Tryz.prog 53 #[.pointer (some ⟨r, 0, none⟩)] wr fun e w' => e = .returned (.tuple #[]) ∧ RunS wS b ar r R2 f I mm l1 (y + 1) w' := by
              rw [HFF.out] at hR ⊢
              exact runS_step hR HX.out.1 H64.out (by have := HX.out.2.1; omega) (by omega) (by have := HM.out; have := HMM.out; omega)
            have HST := Lib.hid hst
            have HLT := Lib.hid hlt
            have hy1 : (y : Int) < 1000 := by omega
            have hy0 : (0 : Int) ≤ (y : Int) := by omega
            clear hR hst hy hlt
            go_wp2_with (go_at_call 53; (with_reducible refine (HST.out).mono ?_); rintro e w9 ⟨rfl, hg⟩; have HG9 := Lib.hid hg; clear hg)
            refine ⟨⟨y + 1, HLT.out, by simp, HG9.out⟩, ?_⟩
            have := HLT.out
            simp [intOf]; omega
          · skip
            -- [[ask
            as_aux_lemma =>
            obtain rfl : y = 1000 := by omega
            have hO : Out wS b ar r R2 (fun i => blk xs (H i)) I mm l1 wr := by
              rw [HFF.out] at hR
              exact out_of hR (by have := HX.out.2.1; omega) (by omega)
            obtain ⟨H', hH'⟩ : ∃ x : Nat → Int, x = fun i => blk xs (H i) := ⟨_, rfl⟩
            have HHE := Lib.hid hH'
            rw [← hH'] at hO
            have HO := Lib.hid hO
            have hy3 : ¬ ((1000 : Nat) : Int) < 1000 := by omega
            clear hR hy hlt hO hH'
            have hN500 : (l1.length : Int) ≤ 500 := by have := HX.out.2.1; omega
            have HTO : Hid (∀ W', Out wS b ar r R2 H' I mm l1 W' → Frm.Turn [] wB W' ∧ W'.ownsRow wS.heap.size 31 1 (.slice ao2 l1.length c2) l1.length (u64s l1) ∧ W'.ownsRow wS.heap.size 31 1 (.slice ao xs.length bc) xs.length (u64s xs)) := Lib.hid (fun W' h => by
              obtain ⟨A, k, pts, V, S, l, h1, h2, -⟩ := h.stash
              rw [HR2.out] at h2
              exact ⟨HTS.out.trans h2.kin.turn (by simp), h2.on (roP wS.heap.size 31 1 l1.length (.slice ao2 l1.length c2) (u64s l1)) (by simp), h2.on (rwP wS.heap.size (.slice ao xs.length bc) xs) (by simp)⟩)
            go_wp2_with fail
            go_loopw [75, 14] (fun i s14 wz => ∃ y : Nat, y ≤ l1.length ∧ i = .int .i64 y ∧ s14 = .int .i64 (freeN H' I (l1.take y) : Nat) ∧ Out wS b ar r R2 H' I mm l1 wz) (fun i _ _ => l1.length - (intOf i).toNat)
            case atStart => exact ⟨0, Nat.zero_le _, rfl, rfl, HO.out⟩
            case round =>
              obtain ⟨y, hy, rfl, rfl, hO⟩ := hrel
              clear HO hy3
              by_cases hlt : y < l1.length
              · skip
                -- [[one
                as_aux_lemma =>
                obtain ⟨hT, hrow, hbs⟩ := HTO.out _ hO
                obtain ⟨g, rfl⟩ : ∃ g, ao2 = some ⟨g, 0, none⟩ := by
                  rcases hrow.2 with ⟨_, e⟩ | ⟨g, c', cur, e, _⟩
                  · omega
                  · simp only [Value.slice.injEq] at e; exact ⟨g, e.1⟩
                have hcx : wr.cell? ⟨g, y, none⟩ = some (.int .u64 (l1.getD y 0)) := (hrow.cellAt y (by omega)).trans (u64s_get hlt)
                have hxm : l1.getD y 0 ∈ l1 := by
                  rw [List.getD_eq_getElem?_getD, List.getElem?_eq_getElem hlt]; exact List.getElem_mem hlt
                have hfr : freeN H' I (l1.take (y + 1)) = freeN H' I (l1.take y) + (if heldB H' I (l1.getD y 0) 3 then 0 else 1) := by
                  rw [← freeN_snoc]
                  congr 1
                  rw [List.take_add_one, List.getD_eq_getElem?_getD, List.getElem?_eq_getElem hlt]
                  rfl
                have hfle : freeN H' I (l1.take y) ≤ 500 := by
                  unfold freeN
                  have h1 := List.length_filter_le (fun x => !heldB H' I x 3) (l1.take y)
                  rw [List.length_take] at h1
                  have := HX.out.2.1
                  omega
                have h64 := H64.out _ hxm
                generalize l1.getD y 0 = x at hcx hxm hfr h64
                obtain ⟨fn, hfn⟩ : ∃ z, z = freeN H' I (l1.take y) := ⟨_, rfl⟩
                rw [← hfn] at hfr hfle ⊢
                have HFR := Lib.hid hfr
                have hfn1 : (fn : Int) ≤ 500 := by omega
                have hfn0 : (0 : Int) ≤ (fn : Int) := by omega
                have hy1 : (y : Int) < (l1.length : Int) := by omega
                have hy0 : (0 : Int) ≤ (y : Int) := by omega
                have HLT := Lib.hid hlt
                have HXM := Lib.hid (And.intro hxm h64)
                have HO := Lib.hid hO
                have HBS := Lib.hid (fun n (h0 : 0 ≤ n) (h1 : n < 256) => block_any (W := wr) (n := n) (words_row hbs) (by have := HXL.out.1; omega) h0 h1)
                have HCS : Hid (wr.heap[w.heap.size]? = some (caseO (.slice aW nW cW) H I (fun i => .slice (aL i) (nL i) (cL i)) M (.slice aP nP cP))) := Lib.hid (HCB.out wr hT)
                clear hO hT hrow hbs hxm hfr hfle h64 hfn hy hlt
                go_wp2_with fail
                go_loopw [79, 17] (fun i s17 wz => ∃ z : Nat, z ≤ 3 ∧ i = .int .i64 z ∧ s17 = .bool (heldB H' I x z) ∧ wz = wr) (fun i _ _ => 3 - (intOf i).toNat)
                case atStart => exact ⟨0, Nat.zero_le _, rfl, rfl, rfl⟩
                case round =>
                  obtain ⟨z, hz, rfl, rfl, rfl⟩ := hrel
                  by_cases hlz : z < 3
                  · skip
                    -- [[held
                    as_aux_lemma =>
                    have hz1 : (z : Int) < 3 := by omega
                    have hz0 : (0 : Int) ≤ (z : Int) := by omega
                    have HLZ := Lib.hid hlz
                    by_cases hb : heldB H' I x z = true
                    · have hn : heldB H' I x (z + 1) = true := by show (heldB H' I x z || _) = true; rw [hb]; rfl
                      have HN := Lib.hid hn
                      rw [hb]
                      clear hb hn hz hlz
                      go_wp2_with fail
                      refine ⟨⟨z + 1, HLZ.out, by simp, by rw [HN.out], by first | rfl | trivial⟩, ?_⟩
                      have := HLZ.out
                      simp [intOf]; omega
                    · have hb' : heldB H' I x z = false := by simpa using hb
                      have hn : heldB H' I x (z + 1) = (I z && (decide (H' (2 * z) = x) || decide (H' (2 * z + 1) = x))) := by show (heldB H' I x z || _) = _; rw [hb']; rfl
                      have HN := Lib.hid hn
                      have cI := case_I HCS.out hlz
                      rw [hb']
                      clear hb hb' hn hz hlz
                      by_cases hI : I z = true
                      · rw [hI] at cI HN
                        obtain ⟨ix, hix⟩ : ∃ i : Nat, i = 2 * z := ⟨_, rfl⟩
                        obtain ⟨iy, hiy⟩ : ∃ i : Nat, i = 2 * z + 1 := ⟨_, rfl⟩
                        have hw1 : IntKind.i64.wrap (2 * (z : Int)) = (ix : Int) := by rw [IntKind.wrap_i64]; omega
                        have hw2 : IntKind.i64.wrap ((ix : Int) + 1) = (iy : Int) := by rw [IntKind.wrap_i64]; omega
                        have hx6 : (ix : Int) < 6 := by omega
                        have hx0 : (0 : Int) ≤ (ix : Int) := by omega
                        have hy6 : (iy : Int) < 6 := by omega
                        have hy0' : (0 : Int) ≤ (iy : Int) := by omega
                        have ca := case_H HCS.out (i := ix) (by omega)
                        have cb := case_H HCS.out (i := iy) (by omega)
                        have hBA := HBS.out (H ix) (HHX.out ix (by omega)).1 (HHX.out ix (by omega)).2
                        have hBB := HBS.out (H iy) (HHX.out iy (by omega)).1 (HHX.out iy (by omega)).2
                        have e1 : H' (2 * z) = blk xs (H ix) := by rw [HHE.out, hix]
                        have e2 : H' (2 * z + 1) = blk xs (H iy) := by rw [HHE.out, hiy]
                        rw [e1, e2] at HN
                        have HBA := Lib.hid hBA
                        have HBB := Lib.hid hBB
                        clear hBA hBB hix hiy e1 e2
                        generalize blk xs (H ix) = va at HBA HN
                        generalize blk xs (H iy) = vb at HBB HN
                        generalize H ix = ha at HBA ca
                        generalize H iy = hb at HBB cb
                        by_cases h1 : va = x
                        · subst h1
                          have hN : heldB H' I va (z + 1) = true := by rw [HN.out]; simp
                          have HN2 := Lib.hid hN
                          clear hN HN HBB cb
                          go_wp2_with (first
                            | (go_at_call 51; (with_reducible refine (HBA.out).mono ?_); rintro e w7 ⟨rfl, rfl⟩))
                          refine ⟨⟨z + 1, HLZ.out, by simp, by rw [HN2.out], by first | rfl | trivial⟩, ?_⟩
                          have := HLZ.out
                          simp [intOf]; omega
                        · have h1b : (va == x) = false := by simpa using h1
                          by_cases h2 : vb = x
                          · subst h2
                            have hN : heldB H' I vb (z + 1) = true := by rw [HN.out]; simp
                            have HN2 := Lib.hid hN
                            clear hN HN
                            go_wp2_with (first
                              | (go_at_call 51; (with_reducible refine (HBA.out).mono ?_); rintro e w7 ⟨rfl, rfl⟩)
                              | (go_at_call 51; (with_reducible refine (HBB.out).mono ?_); rintro e w7 ⟨rfl, rfl⟩))
                            refine ⟨⟨z + 1, HLZ.out, by simp, by rw [HN2.out], by first | rfl | trivial⟩, ?_⟩
                            have := HLZ.out
                            simp [intOf]; omega
                          · have h2b : (vb == x) = false := by simpa using h2
                            have hN : heldB H' I x (z + 1) = false := by rw [HN.out]; simp [h1, h2]
                            have HN2 := Lib.hid hN
                            clear hN HN
                            go_wp2_with (first
                              | (go_at_call 51; (with_reducible refine (HBA.out).mono ?_); rintro e w7 ⟨rfl, rfl⟩)
                              | (go_at_call 51; (with_reducible refine (HBB.out).mono ?_); rintro e w7 ⟨rfl, rfl⟩))
                            refine ⟨⟨z + 1, HLZ.out, by simp, by rw [HN2.out], by first | rfl | trivial⟩, ?_⟩
                            have := HLZ.out
                            simp [intOf]; omega
                      · have hI' : I z = false := by simpa using hI
                        rw [hI'] at cI HN
                        have hN : heldB H' I x (z + 1) = false := by rw [HN.out]; rfl
                        have HN2 := Lib.hid hN
                        clear hN HN hI hI'
                        go_wp2_with fail
                        refine ⟨⟨z + 1, HLZ.out, by simp, by rw [HN2.out], by first | rfl | trivial⟩, ?_⟩
                        have := HLZ.out
                        simp [intOf]; omega
                    -- ]]held
                  · skip
                    as_aux_lemma =>
                    obtain rfl : z = 3 := by omega
                    have hz3 : ¬ ((3 : Nat) : Int) < 3 := by omega
                    clear hz hlz
                    by_cases hb : heldB H' I x 3 = true
                    · have hsz : ∃ q : Nat, q ≠ 0 ∧ Calls Tryz.prog 56 #[.pointer (some ⟨b, 0, none⟩), .int .u64 x] wr fun e w' => e = .returned (.int .i64 (q : Int)) ∧ wr = w' := by
                        obtain ⟨A, k, pts, V, S, l, h1, h2, h3, h4, h5, h6⟩ := HO.out.stash
                        exact ⟨_, h6 x HXM.out.1 hb, size_s h2 x HXM.out.2⟩
                      obtain ⟨q, hq0, hq⟩ := hsz
                      have HQ := Lib.hid hq
                      have hqb : ((q : Int) == 0) = false := by simpa using (by omega : ¬ (q : Int) = 0)
                      have hqn : ¬ (q : Int) = 0 := by omega
                      have hfr := HFR.out
                      rw [hb] at hfr
                      simp only [if_true, Nat.add_zero] at hfr
                      have HF2 := Lib.hid hfr
                      rw [hb]
                      clear hb hq hq0 hfr HFR
                      go_wp2_with (go_at_call 56; (with_reducible refine (HQ.out).mono ?_); rintro e w7 ⟨rfl, rfl⟩)
                      refine ⟨⟨y + 1, HLT.out, by simp, by rw [HF2.out], HO.out⟩, ?_⟩
                      have := HLT.out
                      simp [intOf]; omega
                    · have hb' : heldB H' I x 3 = false := by simpa using hb
                      have hfr := HFR.out
                      rw [hb'] at hfr
                      simp only [Bool.false_eq_true, if_false] at hfr
                      have HF2 : Hid (Value.int .i64 ((fn : Int) + 1) = .int .i64 (freeN H' I (l1.take (y + 1)) : Nat)) := Lib.hid (by rw [hfr]; rfl)
                      rw [hb']
                      clear hb hb' hfr HFR
                      go_wp2_with fail
                      refine ⟨⟨y + 1, HLT.out, by simp, HF2.out, HO.out⟩, ?_⟩
                      have := HLT.out
                      simp [intOf]; omega
                -- ]]one
              · skip
                -- [[end
                as_aux_lemma =>
                obtain rfl : y = l1.length := by omega
                rw [List.take_length]
                have hyl : ¬ (l1.length : Int) < (l1.length : Int) := by omega
                have hT := (HTO.out _ hO).1
                have c13 : ∀ W', Frm.Turn [] wr W' → W'.cell? ⟨w.heap.size, 13, none⟩ = some (.int .i64 (M 0)) := fun W' hT' => (Frm.cell_row _ _ 13 _ _ _ (HCB.out W' (hT.trans hT' (by simp)))).trans rfl
                have HC13 := Lib.hid c13
                obtain ⟨A, k, pts, V, S, l, h1, h2, h3, h4, h5, h6⟩ := hO.stash
                have HDN := Lib.hid (fun W' (hT' : Frm.Turn [] wr W') => done_s (base := wS.heap.size) h1 (h2.still hT'))
                have HLN : Hid (∀ W', Frm.Turn [] wr W' → Calls Tryz.prog 42 #[.pointer (some ⟨ar, 0, none⟩)] W' fun e w' => e = .returned (.int .i64 (l.length : Int)) ∧ W' = w') := Lib.hid (fun W' hT' => by
                  have := at_len (h2.still hT') (r := ar) (L := LZ l) (V := V) (lg := .slice none 0 0) (bs := []) (by simp) (by rw [LZ_all]; have := HX.out.2.1; omega)
                  rwa [LZ_all] at this)
                have HFA : Hid (∀ W', Frm.Turn [] wr W' → Calls Tryz.prog 57 #[.pointer (some ⟨b, 0, none⟩)] W' fun e w' => e = .returned (.int .i64 0) ∧ W' = w') := Lib.hid (fun W' hT' => by
                  have := faults_s (h2.still hT')
                  rw [h4] at this
                  exact this)
                have hd3 : decide (S.ph = 3) = true := decide_eq_true h3
                rw [hd3] at HDN
                have hfle : freeN H' I l1 ≤ l1.length := List.length_filter_le _ _
                obtain ⟨fn, hfn⟩ : ∃ z, z = freeN H' I l1 := ⟨_, rfl⟩
                rw [← hfn] at h5 hfle ⊢
                obtain ⟨N, hN⟩ : ∃ z, z = l1.length := ⟨_, rfl⟩
                obtain ⟨L', hL'⟩ : ∃ z, z = l.length := ⟨_, rfl⟩
                rw [← hL'] at h5 HLN
                rw [← hN] at h5 hfle hyl hN500 ⊢
                have hsub : IntKind.i64.wrap ((N : Int) - (L' : Int)) = ((min fn mm : Nat) : Int) := by rw [IntKind.wrap_i64]; omega
                have hmx : max (M 0) 0 = (mm : Int) := by have := HMM.out; omega
                have hmn : min (fn : Int) (mm : Int) = ((min fn mm : Nat) : Int) := by omega
                have HFIN : Hid (Frm.Turn [] w wr) := Lib.hid (HTB.out.trans hT (by simp))
                clear hO hT c13 h1 h2 h3 h4 h5 h6 hd3 hfle hfn hN hL' hy hlt
                generalize ((min fn mm : Nat) : Int) = mv at hsub hmn
                go_upto_region 37 with fail
                refine wp_region_held_drew (S := fun W' => Frm.Turn [] wr W') (by kernel_rfl) ?_ (fun hHeld => ?_)
                · exact (Frm.Turn.refl [] wr).drew
                refine wpAnyH_take (i := 0) (v := ?_) rfl (by kernel_rfl) (by kernel_rfl) (by kernel_rfl) (fun _ _ _ h => h) (Or.inl ⟨by rfl, ?_⟩) (by assumption) ?_
                rotate_left
                · (intro w hSw; (try dsimp only at hSw); go_simp; try with_reducible rfl)
                try simp only [Act.put, List.getElem_toArray, List.getElem_cons_succ, List.getElem_cons_zero, List.setIfInBounds_toArray, List.set_cons_zero, List.set_cons_succ]
                refine wpAnyH_ready (rs := [1]) (by kernel_rfl) (by simp) ?_
                refine AllReadyH.cons rfl (fun K hK => ?_) AllReadyH.nil
                try simp only [List.getElem_toArray, List.getElem_cons_succ, List.getElem_cons_zero]
                go_simp
                (go_at_call 48; (with_reducible refine (HDN.out _ ((Frm.Turn.refl [] wr).drew)).mono ?_); rintro e w9 ⟨rfl, rfl⟩)
                try go_wp2_with fail
                refine hK.out _ _ ((Frm.Turn.refl [] wr).drew) (fun hHeld1 => ?_)
                clear hK K
                try simp only [Act.put, List.getElem_toArray, List.getElem_cons_succ, List.getElem_cons_zero, List.setIfInBounds_toArray, List.set_cons_zero, List.set_cons_succ]
                refine wpAnyH_take (i := 2) (v := ?_) rfl (by kernel_rfl) (by kernel_rfl) (by kernel_rfl) (fun _ _ _ h => h) (Or.inl ⟨by rfl, ?_⟩) (by assumption) ?_
                rotate_left
                · (intro w hSw; (try dsimp only at hSw); go_simp; try with_reducible rfl)
                try simp only [Act.put, List.getElem_toArray, List.getElem_cons_succ, List.getElem_cons_zero, List.setIfInBounds_toArray, List.set_cons_zero, List.set_cons_succ]
                refine wpAnyH_take (i := 3) (v := ?_) rfl (by kernel_rfl) (by kernel_rfl) (by kernel_rfl) (fun _ _ _ h => h) (Or.inl ⟨by rfl, ?_⟩) (by assumption) ?_
                rotate_left
                · (intro w hSw; (try dsimp only at hSw); go_simp; try with_reducible rfl)
                try simp only [Act.put, List.getElem_toArray, List.getElem_cons_succ, List.getElem_cons_zero, List.setIfInBounds_toArray, List.set_cons_zero, List.set_cons_succ]
                refine wpAnyH_take (i := 4) (v := ?_) rfl (by kernel_rfl) (by kernel_rfl) (by kernel_rfl) (fun _ _ _ h => h) (Or.inl ⟨by rfl, ?_⟩) (by assumption) ?_
                rotate_left
                · (intro w hSw; (try dsimp only at hSw); go_simp; try with_reducible rfl)
                try simp only [Act.put, List.getElem_toArray, List.getElem_cons_succ, List.getElem_cons_zero, List.setIfInBounds_toArray, List.set_cons_zero, List.set_cons_succ]
                refine wpAnyH_take (i := 5) (v := ?_) rfl (by kernel_rfl) (by kernel_rfl) (by kernel_rfl) (fun _ _ _ h => h) (Or.inl ⟨by rfl, ?_⟩) (by assumption) ?_
                rotate_left
                · (intro w hSw; (try dsimp only at hSw); go_simp; try with_reducible rfl)
                try simp only [Act.put, List.getElem_toArray, List.getElem_cons_succ, List.getElem_cons_zero, List.setIfInBounds_toArray, List.set_cons_zero, List.set_cons_succ]
                refine wpAnyH_take (i := 8) (v := ?_) rfl (by kernel_rfl) (by kernel_rfl) (by kernel_rfl) (fun _ _ _ h => h) (Or.inl ⟨by rfl, ?_⟩) (by assumption) ?_
                rotate_left
                · (intro w hSw; (try dsimp only at hSw); go_simp; try with_reducible rfl)
                try simp only [Act.put, List.getElem_toArray, List.getElem_cons_succ, List.getElem_cons_zero, List.setIfInBounds_toArray, List.set_cons_zero, List.set_cons_succ]
                refine wpAnyH_take (i := 9) (v := ?_) rfl (by kernel_rfl) (by kernel_rfl) (by kernel_rfl) (fun _ _ _ h => h) (Or.inl ⟨by rfl, ?_⟩) (by assumption) ?_
                rotate_left
                · (intro w hSw; (try dsimp only at hSw); go_simp; try with_reducible rfl)
                try simp only [Act.put, List.getElem_toArray, List.getElem_cons_succ, List.getElem_cons_zero, List.setIfInBounds_toArray, List.set_cons_zero, List.set_cons_succ]
                refine wpAnyH_take (i := 10) (v := ?_) rfl (by kernel_rfl) (by kernel_rfl) (by kernel_rfl) (fun _ _ _ h => h) (Or.inl ⟨by rfl, ?_⟩) (by assumption) ?_
                rotate_left
                · (intro w hSw; (try dsimp only at hSw); go_simp; try with_reducible rfl)
                try simp only [Act.put, List.getElem_toArray, List.getElem_cons_succ, List.getElem_cons_zero, List.setIfInBounds_toArray, List.set_cons_zero, List.set_cons_succ]
                refine wpAnyH_take (i := 11) (v := ?_) rfl (by kernel_rfl) (by kernel_rfl) (by kernel_rfl) (fun _ _ _ h => h) (Or.inl ⟨by rfl, ?_⟩) (by assumption) ?_
                rotate_left
                · (intro w hSw; (try dsimp only at hSw); have k13 := HC13.out _ hSw; go_simp; try with_reducible rfl)
                try simp only [Act.put, List.getElem_toArray, List.getElem_cons_succ, List.getElem_cons_zero, List.setIfInBounds_toArray, List.set_cons_zero, List.set_cons_succ]
                refine wpAnyH_take (i := 12) (v := ?_) rfl (by kernel_rfl) (by kernel_rfl) (by kernel_rfl) (fun _ _ _ h => h) (Or.inl ⟨by rfl, ?_⟩) (by assumption) ?_
                rotate_left
                · (intro w hSw; (try dsimp only at hSw); go_simp; try with_reducible rfl)
                try simp only [Act.put, List.getElem_toArray, List.getElem_cons_succ, List.getElem_cons_zero, List.setIfInBounds_toArray, List.set_cons_zero, List.set_cons_succ]
                refine wpAnyH_take (i := 13) (v := ?_) rfl (by kernel_rfl) (by kernel_rfl) (by kernel_rfl) (fun _ _ _ h => h) (Or.inl ⟨by rfl, ?_⟩) (by assumption) ?_
                rotate_left
                · (intro w hSw; (try dsimp only at hSw); go_simp; try with_reducible rfl)
                try simp only [Act.put, List.getElem_toArray, List.getElem_cons_succ, List.getElem_cons_zero, List.setIfInBounds_toArray, List.set_cons_zero, List.set_cons_succ]
                refine wpAnyH_ready (rs := [6]) (by kernel_rfl) (by simp) ?_
                refine AllReadyH.cons rfl (fun K hK => ?_) AllReadyH.nil
                try simp only [List.getElem_toArray, List.getElem_cons_succ, List.getElem_cons_zero]
                go_simp
                (go_at_call 42; (with_reducible refine (HLN.out _ ((Frm.Turn.refl [] wr).drew)).mono ?_); rintro e w9 ⟨rfl, rfl⟩)
                try go_wp2_with fail
                refine hK.out _ _ ((Frm.Turn.refl [] wr).drew) (fun hHeld2 => ?_)
                clear hK K
                try simp only [Act.put, List.getElem_toArray, List.getElem_cons_succ, List.getElem_cons_zero, List.setIfInBounds_toArray, List.set_cons_zero, List.set_cons_succ]
                refine wpAnyH_take (i := 7) (v := ?_) rfl (by kernel_rfl) (by kernel_rfl) (by kernel_rfl) (fun _ _ _ h => h) (Or.inl ⟨by rfl, ?_⟩) (by assumption) ?_
                rotate_left
                · (intro w hSw; (try dsimp only at hSw); go_simp; try with_reducible rfl)
                try simp only [Act.put, List.getElem_toArray, List.getElem_cons_succ, List.getElem_cons_zero, List.setIfInBounds_toArray, List.set_cons_zero, List.set_cons_succ]
                refine wpAnyH_take (i := 14) (v := ?_) rfl (by kernel_rfl) (by kernel_rfl) (by kernel_rfl) (fun _ _ _ h => h) (Or.inl ⟨by rfl, ?_⟩) (by assumption) ?_
                rotate_left
                · (intro w hSw; (try dsimp only at hSw); go_simp; try with_reducible rfl)
                try simp only [Act.put, List.getElem_toArray, List.getElem_cons_succ, List.getElem_cons_zero, List.setIfInBounds_toArray, List.set_cons_zero, List.set_cons_succ]
                refine wpAnyH_take (i := 15) (v := ?_) rfl (by kernel_rfl) (by kernel_rfl) (by kernel_rfl) (fun _ _ _ h => h) (Or.inl ⟨by rfl, ?_⟩) (by assumption) ?_
                rotate_left
                · (intro w hSw; (try dsimp only at hSw); go_simp; try with_reducible rfl)
                try simp only [Act.put, List.getElem_toArray, List.getElem_cons_succ, List.getElem_cons_zero, List.setIfInBounds_toArray, List.set_cons_zero, List.set_cons_succ]
                refine wpAnyH_take (i := 16) (v := ?_) rfl (by kernel_rfl) (by kernel_rfl) (by kernel_rfl) (fun _ _ _ h => h) (Or.inl ⟨by rfl, ?_⟩) (by assumption) ?_
                rotate_left
                · (intro w hSw; (try dsimp only at hSw); go_simp; try with_reducible rfl)
                try simp only [Act.put, List.getElem_toArray, List.getElem_cons_succ, List.getElem_cons_zero, List.setIfInBounds_toArray, List.set_cons_zero, List.set_cons_succ]
                refine wpAnyH_take (i := 17) (v := ?_) rfl (by kernel_rfl) (by kernel_rfl) (by kernel_rfl) (fun _ _ _ h => h) (Or.inl ⟨by rfl, ?_⟩) (by assumption) ?_
                rotate_left
                · (intro w hSw; (try dsimp only at hSw); go_simp; try with_reducible rfl)
                try simp only [Act.put, List.getElem_toArray, List.getElem_cons_succ, List.getElem_cons_zero, List.setIfInBounds_toArray, List.set_cons_zero, List.set_cons_succ]
                refine wpAnyH_ready (rs := [18]) (by kernel_rfl) (by simp) ?_
                refine AllReadyH.cons rfl (fun K hK => ?_) AllReadyH.nil
                try simp only [List.getElem_toArray, List.getElem_cons_succ, List.getElem_cons_zero]
                go_simp
                (go_at_call 57; (with_reducible refine (HFA.out _ ((Frm.Turn.refl [] wr).drew)).mono ?_); rintro e w9 ⟨rfl, rfl⟩)
                try go_wp2_with fail
                refine hK.out _ _ ((Frm.Turn.refl [] wr).drew) (fun hHeld3 => ?_)
                clear hK K
                try simp only [Act.put, List.getElem_toArray, List.getElem_cons_succ, List.getElem_cons_zero, List.setIfInBounds_toArray, List.set_cons_zero, List.set_cons_succ]
                refine wpAnyH_take (i := 19) (v := ?_) rfl (by kernel_rfl) (by kernel_rfl) (by kernel_rfl) (fun _ _ _ h => h) (Or.inl ⟨by rfl, ?_⟩) (by assumption) ?_
                rotate_left
                · (intro w hSw; (try dsimp only at hSw); go_simp; try with_reducible rfl)
                try simp only [Act.put, List.getElem_toArray, List.getElem_cons_succ, List.getElem_cons_zero, List.setIfInBounds_toArray, List.set_cons_zero, List.set_cons_succ]
                refine wpAnyH_take (i := 20) (v := ?_) rfl (by kernel_rfl) (by kernel_rfl) (by kernel_rfl) (fun _ _ _ h => h) (Or.inl ⟨by rfl, ?_⟩) (by assumption) ?_
                rotate_left
                · (intro w hSw; (try dsimp only at hSw); go_simp; try with_reducible rfl)
                try simp only [Act.put, List.getElem_toArray, List.getElem_cons_succ, List.getElem_cons_zero, List.setIfInBounds_toArray, List.set_cons_zero, List.set_cons_succ]
                refine wpAnyH_take (i := 21) (v := ?_) rfl (by kernel_rfl) (by kernel_rfl) (by kernel_rfl) (fun _ _ _ h => h) (Or.inl ⟨by rfl, ?_⟩) (by assumption) ?_
                rotate_left
                · (intro w hSw; (try dsimp only at hSw); go_simp; try with_reducible rfl)
                try simp only [Act.put, List.getElem_toArray, List.getElem_cons_succ, List.getElem_cons_zero, List.setIfInBounds_toArray, List.set_cons_zero, List.set_cons_succ]
                refine wpAnyH_done (by kernel_rfl) ?_ _
                go_wp2_with fail
                go_ret
                exact ⟨by simp [hsub, hmx, hmn], HFIN.out.drew⟩
                -- ]]end
            -- ]]ask
        -- ]]rest
end Att
end Go.Proofs.YtpajafecodkndaaGreat
