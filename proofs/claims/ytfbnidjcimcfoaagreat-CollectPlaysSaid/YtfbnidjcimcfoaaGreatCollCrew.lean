/- A collect made, stepped, asked. -/
/- A collect among those that count: its blocks are some of the blocks that lie as they lie. -/
import Derived.Test.YtfbnidjcimcfoaaGreatCollCalls
import Derived.Test.YtfbnidjcimcfoaaGreatCountTopsWalk2
set_option linter.unusedVariables false
set_option linter.unusedSimpArgs false
namespace Go.Proofs.YtfbnidjcimcfoaaGreat
namespace Col
open Go.RowKit Go.Maps Arn Pac Clm Cnt

variable {w W W' : World} {r b n k : Nat} {K : List Nat} {A : Ar} {C : Co} {v : Value} {f : Nat → Nat → Int} {base : Nat}
theorem entersO_find : Enters Tryz.prog 99 := enters_of Tryz.func99 (by kernel_rfl) rfl
theorem entersO_look : Enters Tryz.prog 120 := enters_of Tryz.func120 (by kernel_rfl) rfl
theorem gearO_any (h : CoK w b K r v C A k W) (hk : k ≤ 1000000) (hn : n ≤ 4) (F : C.Fit n) (S : SegA A n f) :
    Calls Tryz.prog 59 #[.pointer (some ⟨r, 0, none⟩)] W fun e w' => e = .returned (.tuple #[]) ∧ CoDone w b K r v (C.step n f) (C.acc A) (k + 1) W w' := by
  refine gstep_any r (nxO r C.ph) W h.at_.body.cells.1 ?_
  have h3 : C.ph = 0 ∨ C.ph = 1 ∨ C.ph = 2 := by have := F.ph; omega
  rcases h3 with h0 | h0 | h0
  · rw [show nxO r C.ph = .func (.func 99) #[.pointer (some ⟨r, 0, none⟩)] #[] by rw [h0]; rfl]
    exact call_fn #[.pointer (some ⟨r, 0, none⟩)] #[] W entersO_find ((findO_any h hk hn F S h0).mono fun e w' ⟨he, h1, h2⟩ => ⟨he, done_same h1 h2⟩)
  · rw [show nxO r C.ph = .func (.func 120) #[.pointer (some ⟨r, 0, none⟩)] #[] by rw [h0]; rfl]
    exact call_fn #[.pointer (some ⟨r, 0, none⟩)] #[] W entersO_look (lookO_any h hk hn F S h0)
  · rw [show nxO r C.ph = .nilFunc by rw [h0]; rfl]
    refine (call_none W).mono ?_
    rintro e w' ⟨he, rfl⟩
    have e1 : C.step n f = C := by unfold Co.step; rw [if_neg (by omega), if_neg (by omega)]
    have e2 : C.acc A = A := by unfold Co.acc; rw [if_neg (by omega), if_neg (by omega)]
    rw [e1, e2]
    exact ⟨he, done_same ⟨h.kin.more (by omega), h.at_, h.rK, h.low, h.vK⟩ CoFr.refl⟩
theorem stepO_any (h : CoK w b K r v C A k W) (hk : k ≤ 1000000) (hn : n ≤ 4) (F : C.Fit n) (S : SegA A n f) :
    Calls Tryz.prog 34 #[.pointer (some ⟨r, 0, none⟩)] W fun e w' => e = .returned (.tuple #[]) ∧ CoDone w b K r v (C.step n f) (C.acc A) (k + 1) W w' := by
  have H := Lib.hid (gearO_any h hk hn F S)
  generalize C.acc A = A' at H ⊢
  generalize C.step n f = C' at H ⊢
  clear h F S
  go_enter Tryz.func34, Tryz.ntmps34
  go_wp2_with (go_at_call 59; (with_reducible refine (H.out).mono ?_); rintro e w1 ⟨rfl, ha⟩)
  go_end0
  exact ⟨rfl, ha⟩
theorem stepO_nil (W : World) : Calls Tryz.prog 34 #[.pointer none] W fun e w' => e = .returned (.tuple #[]) ∧ W = w' := by
  go_enter Tryz.func34, Tryz.ntmps34
  go_wp2
  go_end0
  exact ⟨rfl, rfl⟩
theorem doneO_any (h : CoAt W base r b C v) (hp : C.ph ≤ 2) :
    Calls Tryz.prog 33 #[.pointer (some ⟨r, 0, none⟩)] W fun e w' => e = .returned (.bool (decide (C.ph = 2))) ∧ W = w' := by
  have h1 := gdone_any r _ W (nxO_fn r C.ph) h.body.cells.1
  have e : idle (nxO r C.ph) = decide (C.ph = 2) := by
    have h3 : C.ph = 0 ∨ C.ph = 1 ∨ C.ph = 2 := by omega
    rcases h3 with h0 | h0 | h0 <;> rw [h0] <;> rfl
  rw [e] at h1
  have H := Lib.hid h1
  clear h1 h e
  generalize decide (C.ph = 2) = z at H ⊢
  go_enter Tryz.func33, Tryz.ntmps33
  go_wp2_with (go_at_call 63; (with_reducible refine (H.out).mono ?_); rintro e w1 ⟨rfl, rfl⟩)
  go_ret
  exact ⟨rfl, rfl⟩
theorem doneO_nil (W : World) : Calls Tryz.prog 33 #[.pointer none] W fun e w' => e = .returned (.bool true) ∧ W = w' := by
  go_enter Tryz.func33, Tryz.ntmps33
  go_wp2
  go_ret
  exact ⟨rfl, rfl⟩
theorem pl_one (L : List Nat) : ∀ u ∈ plCells L, u.oneCell' = true := by
  intro u hu
  unfold plCells at hu
  rw [List.mem_flatMap] at hu
  obtain ⟨s, _, hu⟩ := hu
  simp at hu
  rcases hu with rfl | rfl <;> rfl
set_option maxHeartbeats 2000000 in
theorem pclone_any (v : Value) (L : List Nat) (w : World) (h : w.ownsRow base 46 2 v L.length (plCells L)) (hn : L.length ≤ 65536) :
    Calls Tryz.prog 77 #[v] w fun e w' => ∃ v', e = .returned v' ∧ w'.ownsRow w.heap.size 46 2 v' L.length (plCells L) ∧ Frm.Turn [] w w' := by
  rcases h.2 with ⟨rfl, hz⟩ | ⟨g, c, cur, rfl, _⟩
  · have hq := fun w => Lib.run_eql_slice_nil (P := Tryz.prog) w 47 _ none 0 0 0 0 under_pls
    have hL : L = [] := List.eq_nil_of_length_eq_zero hz
    subst hL
    clear h hz hn
    go_enter Tryz.func77, Tryz.ntmps77
    go_wp2
    go_ret
    exact ⟨_, rfl, World.ownsRow_nil _ _ _ _, Frm.Turn.refl _ _⟩
  · obtain ⟨n, hnn⟩ : ∃ n, n = L.length := ⟨_, rfl⟩
    rw [← hnn] at h hn ⊢
    have hq := fun w => Lib.run_eql_slice_nil (P := Tryz.prog) w 47 _ (some ⟨g, 0, none⟩) n c 0 0 under_pls
    have H := Lib.hid h
    obtain ⟨i0, hi, hz0, hz1, hz2⟩ := Dr.info_parts info_pl
    have HO : Hid ((w.alloc (.cells #[] 46)).ownsRow w.heap.size 46 2 (.slice (some ⟨w.heap.size, 0, none⟩) 0 0) 0 []) := Lib.hid (World.ownsRow_made w #[] 0 (Nat.le_refl _) (by simp [maxLen]) (by simp))
    clear h hnn
    go_enter Tryz.func77, Tryz.ntmps77
    go_wp2_with (at_builtin; refine Frm.wpList_append_rows _ rfl (.tmp 5) (.tmp 6) 47 rfl w.heap.size 46 i0 (.agg #[.int .u64 0, .int .i64 0]) 2 16 under_pls hi hz0 hz1 hz2 rfl (by decide) (.slice (some ⟨w.heap.size, 0, none⟩) 0 0) 0 [] rfl HO.out _ rfl n base (plCells L) (H.out.alloc _) (pl_one L) (by unfold maxLen; omega) (by omega) (by simp) ?_; intro v1 w3 hown3 hg3 hl3; simp only [Nat.zero_add, List.nil_append] at hown3; have HO3 := Lib.hid hown3; have HG3 := Lib.hid hg3; have HL3 := Lib.hid hl3; clear hown3 hg3 hl3)
    go_ret
    refine ⟨v1, rfl, HO3.out, ((Frm.Turn.refl [] w).alloc _).trans (Frm.Turn.of_grown HG3.out) (fun k hk => ?_)⟩
    simp [Value.ownBlock] at hk; subst hk; right; omega
/-- What was found. -/
theorem places_any (h : CoAt W base r b C v) (hn : C.L.length ≤ 65536) :
    Calls Tryz.prog 37 #[.pointer (some ⟨r, 0, none⟩)] W fun e w' => ∃ u, e = .returned u ∧ w'.ownsRow W.heap.size 46 2 u C.L.length (plCells C.L) ∧ Frm.Turn [] W w' := by
  have c4 := h.body.cells.2.2.2.2
  obtain ⟨ao, c, hsl⟩ := Frm.row_form h.row
  have H := Lib.hid (pclone_any v C.L W h.row hn)
  rw [hsl] at H c4
  obtain ⟨n, hnn⟩ : ∃ n, n = C.L.length := ⟨_, rfl⟩
  rw [← hnn] at H c4 hn ⊢
  clear h hsl hnn
  go_enter Tryz.func37, Tryz.ntmps37
  go_wp2_with (go_at_call 77; (with_reducible refine (H.out).mono ?_); rintro e w1 ⟨u, rfl, ho, hT⟩; have HO := Lib.hid (And.intro ho hT); clear ho hT)
  go_ret
  exact ⟨u, rfl, HO.out⟩
theorem places_nil (W : World) : Calls Tryz.prog 37 #[.pointer none] W fun e w' => e = .returned (.slice none 0 0) ∧ W = w' := by
  go_enter Tryz.func37, Tryz.ntmps37
  go_wp2
  go_ret
  exact ⟨rfl, rfl⟩
/-- A segment's handle that was read. -/
theorem seg_in (h : CoAt W base r b C v) {j : Nat} (hj : j < 8) :
    Calls Tryz.prog 38 #[.pointer (some ⟨r, 0, none⟩), .int .i64 j] W fun e w' => e = .returned (.int .u64 (sv C.m j)) ∧ W = w' := by
  have c5 := h.body.seg hj
  have b0 : (0 : Int) ≤ (j : Int) := by omega
  have b1 : (j : Int) < 8 := by omega
  have b2 : ¬ (j : Int) < 0 := by omega
  have b3 : ¬ (8 : Int) ≤ (j : Int) := by omega
  clear h hj
  generalize sv C.m j = x at c5 ⊢
  go_enter Tryz.func38, Tryz.ntmps38
  go_wp2
  go_ret
  exact ⟨rfl, rfl⟩
theorem seg_out (x : Int) (hx : x < 0 ∨ 8 ≤ x) (h1 : -1000 ≤ x) (h2 : x ≤ 1000) (W : World) :
    Calls Tryz.prog 38 #[.pointer (some ⟨r, 0, none⟩), .int .i64 x] W fun e w' => e = .returned (.int .u64 0) ∧ W = w' := by
  rcases hx with hx | hx
  · go_enter Tryz.func38, Tryz.ntmps38
    go_wp2
    go_ret
    exact ⟨rfl, rfl⟩
  · have h3 : ¬ x < 0 := by omega
    go_enter Tryz.func38, Tryz.ntmps38
    go_wp2
    go_ret
    exact ⟨rfl, rfl⟩
theorem seg_nil (x : Int) (W : World) :
    Calls Tryz.prog 38 #[.pointer none, .int .i64 x] W fun e w' => e = .returned (.int .u64 0) ∧ W = w' := by
  go_enter Tryz.func38, Tryz.ntmps38
  go_wp2
  go_ret
  exact ⟨rfl, rfl⟩
/-- A collect that was just made. -/
theorem newO_any (b : Nat) (W : World) :
    Calls Tryz.prog 32 #[.pointer (some ⟨b, 0, none⟩)] W fun e w' => e = .returned (.pointer (some ⟨W.heap.size, 0, none⟩)) ∧ CoAt w' base W.heap.size b Co.new (.slice none 0 0) ∧ Frm.Turn [] W w' ∧ W.heap.size < w'.heap.size := by
  have h0 : CoBody (W.alloc (.cells #[.nilFunc, .pointer (some ⟨b, 0, none⟩), .int .u64 0, .int .u64 0, .int .u64 0, .int .u64 0, .int .u64 0, .int .u64 0, .int .u64 0, .int .u64 0, .int .i64 0, .int .i64 0, .slice none 0 0] 141)) W.heap.size b .nilFunc 0 0 0 (.slice none 0 0) := World.alloc_heap_new W _
  have H := Lib.hid (turnTo_any h0 0 (by omega))
  have e0 : ((0 : Nat) : Int) = 0 := rfl
  rw [e0] at H
  have HT := Lib.hid ((Frm.Turn.refl [] W).alloc (.cells #[.nilFunc, .pointer (some ⟨b, 0, none⟩), .int .u64 0, .int .u64 0, .int .u64 0, .int .u64 0, .int .u64 0, .int .u64 0, .int .u64 0, .int .u64 0, .int .i64 0, .int .i64 0, .slice none 0 0] 141))
  clear h0 e0
  go_enter Tryz.func32, Tryz.ntmps32
  go_wp2_with (go_at_call 75; (with_reducible refine (H.out).mono ?_); rintro e w1 ⟨rfl, hb, hT⟩; have HB := Lib.hid hb; have HT1 := Lib.hid hT; clear hb hT)
  go_ret
  refine ⟨rfl, ⟨HB.out, World.ownsRow_nil _ _ _ _, fun q hq => by cases hq⟩, HT.out.trans HT1.out (fun q hq => .inr (by simp at hq; omega)), HB.out.lt⟩
end Col
end Go.Proofs.YtfbnidjcimcfoaaGreat

set_option linter.unusedVariables false
set_option linter.unusedSimpArgs false
namespace Go.Proofs.YtfbnidjcimcfoaaGreat
namespace Col
open Go.RowKit Go.Maps Arn Pac Clm Cnt

variable {w W W' : World} {r b n k N : Nat} {K : List Nat} {A : Ar} {C : Co} {v : Value} {f : Nat → Nat → Int} {base : Nat} {X X' : List (Nat × Obj)} {rr qq : Nat → Nat} {c : Nat → Option Ct}
theorem row_same {W W' : World} {base : Nat} {e : TypeId} {size n : Nat} {v : Value} {xs : List Value} (h : W.ownsRow base e size v n xs) (hb : ∀ q, v.ownBlock = some q → W'.heap[q]? = W.heap[q]?) : W'.ownsRow base e size v n xs := by
  rcases h with ⟨h1, ⟨rfl, h2⟩ | ⟨g, cap, cur, rfl, h3, h4, h5⟩⟩
  · exact ⟨h1, .inl ⟨rfl, h2⟩⟩
  · exact ⟨h1, .inr ⟨g, cap, cur, rfl, h3, (hb g rfl).trans h4, h5⟩⟩
/-- The collect's blocks, with what they are: its struct, its row. -/
structure CoObj (base r b : Nat) (C : Co) (v : Value) (V : List (Nat × Obj)) : Prop where
  of : ∀ W : World, (∀ p, p ∈ V → W.heap[p.1]? = some p.2) → CoAt W base r b C v
  names : V.map Prod.fst = r :: v.ownBlock.toList
theorem obj_of (h : CoAt W base r b C v) : ∃ V, CoObj base r b C v V ∧ ∀ p, p ∈ V → W.heap[p.1]? = some p.2 := by
  have hb := h.body
  unfold CoBody at hb
  cases hv : v.ownBlock with
  | none =>
    refine ⟨[(r, _)], ⟨fun W' hW => ⟨hW _ (List.Mem.head _), row_same h.row (fun q hq => by rw [hv] at hq; cases hq), h.vr⟩, by simp [hv]⟩, fun p hp => ?_⟩
    rw [List.mem_singleton.1 hp]; exact hb
  | some q =>
    obtain ⟨o, ho⟩ : ∃ o, W.heap[q]? = some o := by
      have := (h.row.lt q hv).2
      exact ⟨W.heap[q], by simp [this]⟩
    refine ⟨[(r, _), (q, o)], ⟨fun W' hW => ⟨hW _ (List.Mem.head _), row_same h.row (fun q' hq => ?_), h.vr⟩, by simp [hv]⟩, fun p hp => ?_⟩
    · rw [hv] at hq; cases hq
      rw [ho]; exact hW _ (List.mem_cons_of_mem _ (List.Mem.head _))
    · simp only [List.mem_cons, List.not_mem_nil, or_false] at hp
      rcases hp with rfl | rfl
      · exact hb
      · exact ho
theorem Crew.perm (S : Crew w b X n rr qq c A k W) (h : X.Perm X') : Crew w b X' n rr qq c A k W := by
  refine ⟨S.kin.sub (fun q hq => ?_), fun p hp => S.xs p (h.mem_iff.2 hp), (h.map Prod.fst).nodup_iff.1 S.dist, S.at_, S.apart, fun i C p hi hc hp => S.off i C p hi hc (h.mem_iff.2 hp)⟩
  rcases mem_crew hq with ⟨p, hp, rfl⟩ | ⟨j, hj, rfl⟩ | ⟨j, hj, rfl⟩
  · exact in_x (h.mem_iff.2 hp)
  · exact in_r hj
  · exact in_q hj
/-- Some blocks are forgotten. -/
theorem Crew.drop {V : List (Nat × Obj)} (S : Crew w b (V ++ X) n rr qq c A k W) : Crew w b X n rr qq c A k W := by
  induction V with
  | nil => exact S
  | cons p V ih => exact ih S.fewer
/-- A collect that was just made. -/
theorem co_made (S : Crew w b X n rr qq c A k W) (hk : CoAt W' w.heap.size r b C v) (hv : v.ownBlock = none) (hT : Frm.Turn [] W W') (hr : W.heap.size ≤ r) : ∃ V, CoObj w.heap.size r b C v V ∧ Crew w b (V ++ X) n rr qq c A k W' := by
  obtain ⟨V, h1, h2⟩ := obj_of hk
  have hn := h1.names
  rw [hv] at hn
  obtain ⟨p, rfl⟩ : ∃ p, V = [p] := by
    rcases V with _ | ⟨p, _ | ⟨q, t⟩⟩
    · simp at hn
    · exact ⟨p, rfl⟩
    · simp at hn
  simp at hn
  obtain ⟨x, o⟩ := p
  dsimp only at hn
  subst hn
  exact ⟨_, h1, S.more hT hr (h2 _ (List.Mem.head _))⟩
/-- The collect of a crew. -/
theorem co_at {V : List (Nat × Obj)} (O : CoObj w.heap.size r b C v V) (S : Crew w b (V ++ X) n rr qq c A k W) : CoAt W w.heap.size r b C v := O.of W (fun p hp => (S.xs p (List.mem_append_left _ hp)).1)
theorem co_k {V : List (Nat × Obj)} (O : CoObj w.heap.size r b C v V) (S : Crew w b (V ++ X) n rr qq c A k W) : CoK w b (crewK (V ++ X) n rr qq) r v C A k W := by
  have hin : ∀ q, q ∈ r :: v.ownBlock.toList → q ∈ crewK (V ++ X) n rr qq ∧ w.heap.size ≤ q := fun q hq => by
    rw [← O.names] at hq
    obtain ⟨p, hp, rfl⟩ := List.mem_map.1 hq
    exact ⟨in_x (List.mem_append_left _ hp), (S.xs p (List.mem_append_left _ hp)).2⟩
  exact ⟨S.kin, co_at O S, (hin r (by simp)).1, (hin r (by simp)).2, fun q hq => (hin q (by simp [hq])).1⟩
/-- The collect steps. -/
theorem co_step {V : List (Nat × Obj)} (O : CoObj w.heap.size r b C v V) (S : Crew w b (V ++ X) N rr qq c A k W) (hk : k ≤ 1000000) (hn : n ≤ 4) (F : C.Fit n) (I : SegA A n f) :
    Calls Tryz.prog 34 #[.pointer (some ⟨r, 0, none⟩)] W fun e w' => e = .returned (.tuple #[]) ∧ ∃ v' V', CoObj w.heap.size r b (C.step n f) v' V' ∧ Crew w b (V' ++ X) N rr qq c (C.acc A) (k + 1) w' := by
  refine (stepO_any (co_k O S) hk hn F I).mono ?_
  rintro e w' ⟨he, v', h1, h2, h3⟩
  refine ⟨he, v', ?_⟩
  obtain ⟨V', h4, h5⟩ := obj_of h1.at_
  have hnm := O.names
  have hnm' := h4.names
  have hws := S.kin.turn.size
  have hd := S.dist
  rw [List.map_append, hnm] at hd
  rw [List.nodup_append] at hd
  obtain ⟨d1, d2, d3⟩ := hd
  have hvX : ∀ p, p ∈ V → ∀ q, p.1 = q → q = r ∨ v.ownBlock = some q := fun p hp q e => by
    have : q ∈ V.map Prod.fst := by rw [← e]; exact List.mem_map_of_mem hp
    rw [hnm] at this
    rcases List.mem_cons.1 this with e1 | e1
    · exact .inl e1
    · exact .inr (by simpa using e1)
  have hmemV : ∀ q, q ∈ r :: v.ownBlock.toList → ∃ p, p ∈ V ∧ p.1 = q := fun q hq => by
    rw [← hnm] at hq
    obtain ⟨p, hp, e⟩ := List.mem_map.1 hq
    exact ⟨p, hp, e⟩
  have hXr : ∀ p, p ∈ X → p.1 ≠ r ∧ v.ownBlock ≠ some p.1 := fun p hp => ⟨fun e => d3 r (by simp) p.1 (List.mem_map_of_mem hp) e.symm, fun e => d3 p.1 (by simp [e]) p.1 (List.mem_map_of_mem hp) rfl⟩
  have hlt : ∀ q, q ∈ crewK (V ++ X) N rr qq → q < W.heap.size := fun q hq => S.kin.lt hq
  have hrlow : w.heap.size ≤ r := h1.low
  have hct : ∀ i D, i < N → c i = some D → rr i ≠ r ∧ qq i ≠ r ∧ v.ownBlock ≠ some (rr i) ∧ v.ownBlock ≠ some (qq i) := fun i D hi hc => by
    obtain ⟨p, hp, e⟩ := hmemV r (by simp)
    obtain ⟨o1, o2⟩ := S.off i D p hi hc (List.mem_append_left _ hp)
    refine ⟨by rw [← e]; exact fun h => o1 h.symm, by rw [← e]; exact fun h => o2 h.symm, fun h => ?_, fun h => ?_⟩
    · obtain ⟨p, hp, e⟩ := hmemV (rr i) (by simp [h])
      exact (S.off i D p hi hc (List.mem_append_left _ hp)).1 e
    · obtain ⟨p, hp, e⟩ := hmemV (qq i) (by simp [h])
      exact (S.off i D p hi hc (List.mem_append_left _ hp)).2 e
  refine ⟨V', h4, h1.kin.sub (fun q hq => ?_), fun p hp => ?_, ?_, fun i D hi hc => ?_, S.apart, fun i D p hi hc hp => ?_⟩
  · rcases mem_crew hq with ⟨p, hp, rfl⟩ | ⟨j, hj, rfl⟩ | ⟨j, hj, rfl⟩
    · rcases List.mem_append.1 hp with hp | hp
      · have : p.1 ∈ r :: v'.ownBlock.toList := by rw [← hnm']; exact List.mem_map_of_mem hp
        rcases List.mem_cons.1 this with e1 | e1
        · rw [e1]; exact h1.rK
        · exact List.mem_append_left _ e1
      · exact List.mem_append_right _ (in_x (List.mem_append_right _ hp))
    · exact List.mem_append_right _ (in_r hj)
    · exact List.mem_append_right _ (in_q hj)
  · rcases List.mem_append.1 hp with hp | hp
    · refine ⟨h5 p hp, ?_⟩
      have : p.1 ∈ r :: v'.ownBlock.toList := by rw [← hnm']; exact List.mem_map_of_mem hp
      rcases List.mem_cons.1 this with e1 | e1
      · rw [e1]; exact hrlow
      · exact (h1.at_.row.lt p.1 (by simpa using e1)).1
    · obtain ⟨x1, x2⟩ := S.xs p (List.mem_append_right _ hp)
      obtain ⟨y1, y2⟩ := hXr p hp
      exact ⟨h2.heap (in_x (List.mem_append_right _ hp)) y1 y2 x1, x2⟩
  · rw [List.map_append, hnm', List.nodup_append]
    have hv' : ∀ q, v'.ownBlock = some q → q ≠ r := h1.at_.vr
    refine ⟨?_, d2, fun q hq q' hq' e => ?_⟩
    · cases hv'o : v'.ownBlock with
      | none => simp
      | some q => simp; exact fun e => hv' q hv'o e.symm
    · subst e
      rcases List.mem_cons.1 hq with e1 | e1
      · exact d3 q (by rw [e1]; simp) q hq' rfl
      · have e1 : v'.ownBlock = some q := by simpa using e1
        rcases h3 with h3 | ⟨q2, h3, h6⟩
        · exact d3 q (by simp [← h3, e1]) q hq' rfl
        · rw [e1] at h3; cases h3
          obtain ⟨p, hp, e⟩ := List.mem_map.1 hq'
          have := hlt p.1 (in_x (List.mem_append_right _ hp))
          omega
  · obtain ⟨a1, a2, a3, a4⟩ := S.at_ i D hi hc
    obtain ⟨k1, k2, k3, k4⟩ := hct i D hi hc
    obtain ⟨G, hT, g1, g2⟩ := h2
    exact ⟨a1.turn hT (g1 _ (in_r hi) k1 k3) (g1 _ (in_q hi) k2 k4), a2, a3, a4⟩
  · rcases List.mem_append.1 hp with hp | hp
    · obtain ⟨k1, k2, k3, k4⟩ := hct i D hi hc
      have : p.1 ∈ r :: v'.ownBlock.toList := by rw [← hnm']; exact List.mem_map_of_mem hp
      rcases List.mem_cons.1 this with e1 | e1
      · rw [e1]; exact ⟨fun e => k1 e.symm, fun e => k2 e.symm⟩
      · have e1 : v'.ownBlock = some p.1 := by simpa using e1
        rcases h3 with h3 | ⟨q2, h3, h6⟩
        · rw [h3] at e1
          exact ⟨fun e => k3 (by rw [← e]; exact e1), fun e => k4 (by rw [← e]; exact e1)⟩
        · rw [e1] at h3; cases h3
          have l1 := hlt _ (in_r (X := V ++ X) (rr := rr) (qq := qq) hi)
          have l2 := hlt _ (in_q (X := V ++ X) (rr := rr) (qq := qq) hi)
          exact ⟨by omega, by omega⟩
    · exact S.off i D p hi hc (List.mem_append_right _ hp)
/-- New. -/
theorem co_new (S : Crew w b X n rr qq c A k W) : Calls Tryz.prog 32 #[.pointer (some ⟨b, 0, none⟩)] W fun e w' => ∃ r V, e = .returned (.pointer (some ⟨r, 0, none⟩)) ∧ CoObj w.heap.size r b Co.new (.slice none 0 0) V ∧ Crew w b (V ++ X) n rr qq c A k w' ∧ Frm.Turn [] W w' := by
  refine (newO_any (base := w.heap.size) b W).mono ?_
  rintro e w' ⟨he, h1, h2, h3⟩
  obtain ⟨V, h4, h5⟩ := co_made S h1 rfl h2 (Nat.le_refl _)
  exact ⟨_, V, he, h4, h5, h2⟩
theorem co_done {V : List (Nat × Obj)} (O : CoObj w.heap.size r b C v V) (S : Crew w b (V ++ X) n rr qq c A k W) (hp : C.ph ≤ 2) : Calls Tryz.prog 33 #[.pointer (some ⟨r, 0, none⟩)] W fun e w' => e = .returned (.bool (decide (C.ph = 2))) ∧ W = w' := doneO_any (co_at O S) hp
theorem co_places {V : List (Nat × Obj)} (O : CoObj w.heap.size r b C v V) (S : Crew w b (V ++ X) n rr qq c A k W) (hn : C.L.length ≤ 65536) :
    Calls Tryz.prog 37 #[.pointer (some ⟨r, 0, none⟩)] W fun e w' => ∃ u, e = .returned u ∧ w'.ownsRow W.heap.size 46 2 u C.L.length (plCells C.L) ∧ Frm.Turn [] W w' := places_any (co_at O S) hn
/-- The tally's reads. -/
theorem crew_reads (S : Crew w b X n rr qq c A k W) : ∃ t0 t1 t3 t4 t5 : Int, Calls Tryz.prog 73 #[.pointer (some ⟨b, 0, none⟩)] W fun e w' => e = .returned (.agg #[.int .i64 t0, .int .i64 t1, .int .i64 A.t.reads, .int .i64 t3, .int .i64 t4, .int .i64 t5]) ∧ Frm.Turn [] W w' := by
  obtain ⟨M, hs, _⟩ := S.kin
  have := tally_any hs.at_
  unfold tal at this
  exact ⟨_, _, _, _, _, this⟩
end Col
end Go.Proofs.YtfbnidjcimcfoaaGreat
