/- The walk of CollectPlays. -/
import Derived.Test.YtfbnidjcimcfoaaGreatCollPlay
import Derived.Test.YtfbnidjcimcfoaaGreatCollFirst
import Derived.Test.YtfbnidjcimcfoaaGreatCollLaw
import Derived.Great.BuildSlice
import Derived.Deep.CutBlock
import Derived.Deep.MidRow
set_option linter.unusedVariables false
set_option linter.unusedSimpArgs false
namespace Go.Proofs.YtfbnidjcimcfoaaGreat
namespace Col
open Go.RowKit Go.Maps Arn Pac Clm Cnt Evn Sta
variable {w W W' : World} {b k n r q eb mb : Nat} {A B : Ar} {ps : List Part}
def o2 (t : TypeId) (r0 r1 : Nat) : Obj := .cells #[.pointer (some ⟨r0, 0, none⟩), .pointer (some ⟨r1, 0, none⟩)] t
/-- The row of handles, and what the document's arena keeps for good. -/
def segP (A : Ar) (CS : Array Value) (G : List Nat) : Part := ⟨[], G, fun W => RefS W A (.agg CS) G⟩
theorem segP_fra (A : Ar) (CS : Array Value) (G : List Nat) : (segP A CS G).Fra := fun W W' F h ht _ h2 => RefS.turn h ht (fun q hq => h2 q (by simpa [segP] using hq))
theorem segsP (w0 w : World) (ht : Frm.Turn [] w0 w) : Calls Tryz.prog 7 #[.int .i64 4] w fun e W =>
    ∃ b CS G kh c ohs A k, e = .returned (.tuple #[.pointer (some ⟨b, 0, none⟩), .agg CS, .slice (some ⟨kh, 0, none⟩) 4 c]) ∧ CS.size = 20 ∧ CS.all (·.oneCell') = true ∧ HsO ohs kh 4 ∧ k ≤ 8 ∧ SegA A 4 zF ∧ Stash w0 b A k [blkP kh ohs, segP A CS G] W := by
  have e4 : ((4 : Nat) : Int) = 4 := rfl
  have H := Col.Segments_any 4 w (by omega)
  rw [e4] at H
  refine H.mono ?_
  rintro e W ⟨b, u, G, A, k, hv, rfl, h1, h2, h3, h4, h5, h5', h6, h7, h8, h9⟩
  obtain ⟨CS, rfl, z1, z2⟩ := h6.row
  obtain ⟨kh, c, o, rfl, g1, g2, g3⟩ := hs_obj h7 (by omega)
  have := ht.size
  have hkG : kh ∉ G := h9 kh (by simp [Value.ownBlock])
  refine ⟨b, CS, G, kh, c, o, A, k, rfl, z1, z2, g2, by omega, h3, ⟨(kin_base h1 ht).sub (fun x hx => ?_), ?_, ?_, ?_, ?_, ?_⟩⟩
  · simp only [feet, List.flatMap_cons, List.flatMap_nil, Part.all, blkP, segP, List.append_nil, List.nil_append, List.mem_append, List.mem_singleton] at hx
    rcases hx with hx | hx
    · subst hx; simp [Value.ownBlock]
    · exact List.mem_append_left _ hx
  · intro p hp
    simp only [List.mem_cons, List.not_mem_nil, or_false] at hp
    rcases hp with rfl | rfl
    · exact blkP_fra _ _
    · exact segP_fra _ _ _
  · intro p hp
    simp only [List.mem_cons, List.not_mem_nil, or_false] at hp
    rcases hp with rfl | rfl
    · exact g1
    · exact h6
  · simp only [List.pairwise_cons, List.mem_singleton, List.not_mem_nil, List.Pairwise.nil, and_true]
    refine ⟨?_, fun _ h => h.elim⟩
    rintro p rfl
    refine ⟨fun x hx => ?_, by simp [segP]⟩
    simp [blkP] at hx
    subst hx
    exact ⟨by simp [segP], by simpa [segP] using hkG⟩
  · intro p hp
    simp only [List.mem_cons, List.not_mem_nil, or_false] at hp
    rcases hp with rfl | rfl
    · simp [blkP]
    · simp [segP]
  · intro p hp x hx
    simp only [List.mem_cons, List.not_mem_nil, or_false] at hp
    rcases hp with rfl | rfl
    · simp [blkP] at hx; subst hx; omega
    · simp [segP] at hx
theorem sta_ref {CS : Array Value} {G : List Nat} {kh : Nat} {ohs : Obj} (S : Stash w b A k [blkP kh ohs, segP A CS G] W) {z : Array Value} : Stash w b A k [mP W.heap.size A CS G, blkP kh ohs, segP A CS G] ((W.alloc (.cells z 37)).setRow W.heap.size CS) := by
  have h1 := World.alloc_heap_new W (.cells z 37)
  have hT : Frm.Turn [] W ((W.alloc (.cells z 37)).setRow W.heap.size CS) := setRow_turn ((Frm.Turn.refl [] W).alloc _) (.inr (Nat.le_refl _)) CS
  have h2 := row_set CS h1
  have hm : segP A CS G ∈ [blkP kh ohs, segP A CS G] := by simp
  refine S.add hT (mP_fra _ _ _ _) ⟨h2, RefS.turn (S.on _ hm) hT (by simp)⟩ (fun x hx => ?_) (fun x hx => .inl ⟨_, hm, hx⟩) (fun x hx hx' => ?_)
  · simp [mP] at hx; subst hx; exact ⟨Nat.le_refl _, (Array.getElem?_eq_some_iff.1 h2).1⟩
  · simp [mP] at hx hx'; subst hx
    have := S.lt hm (x := W.heap.size) (in_imm hx')
    omega
theorem sta_new (S : Stash w b A k ps W) : Calls Tryz.prog 32 #[.pointer (some ⟨b, 0, none⟩)] W fun e w' => ∃ r, e = .returned (.pointer (some ⟨r, 0, none⟩)) ∧ Stash w b A k (coP w.heap.size r b Co.new (.slice none 0 0) :: ps) w' ∧ Frm.Turn [] W w' := by
  refine (newO_any (base := w.heap.size) b W).mono ?_
  rintro e w' ⟨rfl, h1, h2, h3⟩
  refine ⟨_, rfl, S.add h2 (coP_fra _ _ _ _ _) h1 (fun x hx => ?_) (by simp [coP]) (by simp [coP]), h2⟩
  simp [coP, Value.ownBlock] at hx
  subst hx
  exact ⟨Nat.le_refl _, h3⟩
theorem sta_blk (S : Stash w b A k ps W) (o : Obj) (ho : ∀ W : World, (W.alloc o).heap[W.heap.size]? = some o) : Stash w b A k (blkP W.heap.size o :: ps) (W.alloc o) := by
  refine S.add ((Frm.Turn.refl [] W).alloc o) (blkP_fra _ _) (ho W) (fun x hx => ?_) (by simp [blkP]) (by simp [blkP])
  simp [blkP] at hx; subst hx
  exact ⟨Nat.le_refl _, by rw [World.size_alloc]; omega⟩
theorem sta_fresh (S : Stash w b A k ps W) {N : Array Value} (hN : N = zE24) : Stash w b A k (enP W.heap.size E00 zA20 (.slice none 0 0) [] :: ps) (W.alloc (.cells N 55)) := by
  refine S.add ((Frm.Turn.refl [] W).alloc _) (enP_fra _ _ _ _ _) (env_fresh hN (World.alloc_heap_new W _)) (fun x hx => ?_) (by simp [enP, Value.ownBlock]) (by simp [enP, Value.ownBlock])
  simp [enP] at hx; subst hx
  exact ⟨Nat.le_refl _, by rw [World.size_alloc]; omega⟩
theorem sg15 {s : Nat} (h : s < 15) : sgN s < 4 := by
  have : ∀ x : Fin 15, sgN x.val < 4 := by decide
  exact this ⟨s, h⟩
theorem kn15 {s : Nat} (h : s < 15) : kN s ≤ 4 := by
  have : ∀ x : Fin 15, kN x.val ≤ 4 := by decide
  exact this ⟨s, h⟩
theorem sta_made {D : Ct} (S : Stash w b A k ps W) (hm : MadeC W b D r q W') : Stash w b A k (ctP r b q D :: ps) W' ∧ r ≠ q := by
  obtain ⟨h1, h2, h3, h4, h5, h6, h7⟩ := hm
  refine ⟨S.add h7 (ctP_fra _ _ _ _) h1 (fun x hx => ?_) (by simp [ctP]) (by simp [ctP]), h6⟩
  simp [ctP] at hx
  rcases hx with rfl | rfl
  · exact ⟨h2, h3⟩
  · exact ⟨h4, h5⟩
/-- What the nine steps of an entry go by. -/
def InR (w : World) (b mb rc qc e2 s : Nat) (d : Int) (rest : List Part) (k y : Nat) (W : World) : Prop :=
  ∃ A ky CM GM E X l G f, Stash w b A ky (ctP rc b qc ⟨Cnt.hS (sgN s), s, E.log.length, kN s, d⟩ :: enP e2 E X l G :: mP mb A CM GM :: rest) W ∧ E.log.length ≤ kN s ∧ SegA A 4 f ∧ k ≤ ky ∧ ky ≤ k + y
theorem mp_row {CM : Array Value} {GM : List Nat} (S : Stash w b A k ps W) (hm : mP mb B CM GM ∈ ps) : W.heap[mb]? = some (.cells CM 37 (0, 0)) ∧ CM.size = 20 ∧ CM.all (·.oneCell') = true := by
  obtain ⟨h1, h2⟩ := S.on _ hm
  obtain ⟨CS', e, h3, h4⟩ := h2.row
  cases e
  exact ⟨h1, h3, h4⟩
/-- The rows of the law: the one with the number p first. -/
def oI (t : TypeId) (p r r' : Nat) : Obj := if p = 0 then o2 t r r' else o2 t r' r
/-- What the loop over the picks goes by: p and its environment first, then the other one's. -/
structure PlS (w : World) (b mb cb sb ib kh n : Nat) (ohs : Obj) (p : Nat) (A : Ar) (k : Nat) (CM : Array Value) (GM : List Nat) (r r' e e' : Nat) (C C' : Co) (v v' : Value) (E E' : En) (X X' : Array Value) (l l' : Value) (G G' : List Nat) (inn : Nat → Bool) (f : Nat → Nat → Int) (P : Part) (W : World) : Prop where
  st : Stash w b A k [coP w.heap.size r b C v, enP e E X l G, coP w.heap.size r' b C' v', enP e' E' X' l' G', mP mb A CM GM, blkP cb (oI 80 p r r'), blkP sb (oI 52 p e e'), blkP ib (oBools inn n), blkP kh ohs, P] W
  tie : TiedO C E.log
  fit : C.Fit 4
  tie' : TiedO C' E'.log
  fit' : C'.Fit 4
  len : E.log.length ≤ k
  len' : E'.log.length ≤ k
  seg : SegA A 4 f
def PlR (w : World) (b mb cb sb ib kh n : Nat) (ohs : Obj) (k0 : Nat) (W : World) : Prop :=
  ∃ A k CM GM r r' e e' C C' v v' E E' X X' l l' G G' inn f P, PlS w b mb cb sb ib kh n ohs 0 A k CM GM r r' e e' C C' v v' E E' X X' l l' G G' inn f P W ∧ k ≤ k0
theorem oI_swap (t : TypeId) (p r r' : Nat) (hp : p < 2) : oI t p r r' = oI t (1 - p) r' r := by
  have : p = 0 ∨ p = 1 := by omega
  rcases this with rfl | rfl <;> rfl
theorem PlS.other {cb sb ib kh n p k r r' e e' : Nat} {ohs : Obj} {CM X X' : Array Value} {GM G G' : List Nat} {C C' : Co} {v v' l l' : Value} {E E' : En} {inn : Nat → Bool} {f : Nat → Nat → Int} {P : Part}
    (h : PlS w b mb cb sb ib kh n ohs p A k CM GM r r' e e' C C' v v' E E' X X' l l' G G' inn f P W) (hp : p < 2) : PlS w b mb cb sb ib kh n ohs (1 - p) A k CM GM r' r e' e C' C v' v E' E X' X l' l G' G inn f P W := by
  obtain ⟨h1, h2, h3, h4, h5, h6, h7, h8⟩ := h
  refine ⟨?_, h4, h5, h2, h3, h7, h6, h8⟩
  rw [← oI_swap _ p r r' hp, ← oI_swap _ p e e' hp]
  exact h1.bring3.bring3
/-- Whichever is chosen. -/
theorem PlR.at_ {cb sb ib kh n k0 : Nat} {ohs : Obj} (h : PlR w b mb cb sb ib kh n ohs k0 W) {p : Nat} (hp : p < 2) :
    ∃ A k CM GM r r' e e' C C' v v' E E' X X' l l' G G' inn f P, PlS w b mb cb sb ib kh n ohs p A k CM GM r r' e e' C C' v v' E E' X X' l l' G G' inn f P W ∧ k ≤ k0 := by
  have : p = 0 ∨ p = 1 := by omega
  rcases this with rfl | rfl
  · exact h
  · obtain ⟨A, k, CM, GM, r, r', e, e', C, C', v, v', E, E', X, X', l, l', G, G', inn, f, P, h, hk⟩ := h
    exact ⟨A, k, CM, GM, r', r, e', e, C', C, v', v, E', E, X', X, l', l, G', G, inn, f, P, h.other (by omega), hk⟩
theorem PlS.toR {cb sb ib kh n p k r r' e e' k0 : Nat} {ohs : Obj} {CM X X' : Array Value} {GM G G' : List Nat} {C C' : Co} {v v' l l' : Value} {E E' : En} {inn : Nat → Bool} {f : Nat → Nat → Int} {P : Part}
    (h : PlS w b mb cb sb ib kh n ohs p A k CM GM r r' e e' C C' v v' E E' X X' l l' G G' inn f P W) (hp : p < 2) (hk : k ≤ k0) : PlR w b mb cb sb ib kh n ohs k0 W := by
  have : p = 0 ∨ p = 1 := by omega
  rcases this with rfl | rfl
  · exact ⟨_, _, _, _, _, _, _, _, _, _, _, _, _, _, _, _, _, _, _, _, _, _, _, h, hk⟩
  · exact ⟨_, _, _, _, _, _, _, _, _, _, _, _, _, _, _, _, _, _, _, _, _, _, _, h.other (by omega), hk⟩
theorem oI_cell {t : TypeId} {p r r' x : Nat} (h : W.heap[x]? = some (oI t p r r')) (hp : p < 2) : W.cell? ⟨x, p, none⟩ = some (.pointer (some ⟨r, 0, none⟩)) ∧ W.frozen? ⟨x, p, none⟩ = false := by
  have hp2 : p = 0 ∨ p = 1 := by omega
  rcases hp2 with rfl | rfl
  · exact ⟨(Frm.cell_row _ _ 0 _ _ _ h).trans rfl, Frm.frozen_row _ _ 0 _ _ h⟩
  · exact ⟨(Frm.cell_row _ _ 1 _ _ _ h).trans rfl, Frm.frozen_row _ _ 1 _ _ h⟩
theorem oI_put {t : TypeId} {p r r' x : Nat} (S : Stash w b A k (blkP x (oI t p r r') :: ps) W) (hp : p < 2) (r2 : Nat) : Stash w b A k (blkP x (oI t p r2 r') :: ps) (W.setCell ⟨x, p, none⟩ (.pointer (some ⟨r2, 0, none⟩))) := by
  have hp2 : p = 0 ∨ p = 1 := by omega
  rcases hp2 with rfl | rfl
  · exact sta_poke (l := [.pointer (some ⟨r, 0, none⟩), .pointer (some ⟨r', 0, none⟩)]) (i := 0) (.pointer (some ⟨r2, 0, none⟩)) S
  · exact sta_poke (l := [.pointer (some ⟨r', 0, none⟩), .pointer (some ⟨r, 0, none⟩)]) (i := 1) (.pointer (some ⟨r2, 0, none⟩)) S
theorem sta_got (S : Stash w b A k ps W) (z N : Array Value) : Stash w b A k (blkP W.heap.size (.cells N 87) :: ps) ((W.alloc (.cells z 87)).setRow W.heap.size N) := by
  have h1 := World.alloc_heap_new W (.cells z 87)
  have hT : Frm.Turn [] W ((W.alloc (.cells z 87)).setRow W.heap.size N) := setRow_turn ((Frm.Turn.refl [] W).alloc _) (.inr (Nat.le_refl _)) N
  have h2 := row_set N h1
  refine S.add hT (blkP_fra _ _) h2 (fun x hx => ?_) (by simp [blkP]) (by simp [blkP])
  simp [blkP] at hx; subst hx
  exact ⟨Nat.le_refl _, (Array.getElem?_eq_some_iff.1 h2).1⟩
theorem typ_ne {W : World} {x y : Nat} {c c' : Array Value} {t t' : TypeId} (hx : W.heap[x]? = some (.cells c t (0, 0))) (hy : W.heap[y]? = some (.cells c' t' (0, 0))) (h : t ≠ t') : x ≠ y := by
  rintro rfl
  rw [hx] at hy
  cases hy
  exact h rfl
set_option maxRecDepth 100000 in
set_option maxHeartbeats 8000000 in
theorem plays13_any (v1 v2 : Value) (z1 z2 : Nat → Int) (n m : Nat) (w : World) (hb1 : BytesC w v1 z1 n) (hz1 : ∀ i, i < n → 0 ≤ z1 i ∧ z1 i < 256) (hb2 : BytesC w v2 z2 m) (hz2 : ∀ i, i < m → 0 ≤ z2 i ∧ z2 i < 256) (hn : n ≤ 9223372036854775807) (hm : m ≤ 9223372036854775807) :
    Calls Tryz.prog 4 #[v1, v2] w fun e w' => e = .returned (.bool true) ∧ Frm.Turn [] w w' := by
  have HF := Lib.hid (first13 w)
  have HB0 := Lib.hid hb1
  obtain ⟨⟨ao1, vc1, rfl⟩, hb1'⟩ := hb1
  obtain ⟨⟨ao2, vc2, rfl⟩, hb2'⟩ := hb2
  have HB1 := Lib.hid hb1'
  have HB2 := Lib.hid hb2'
  have HZ1 := Lib.hid hz1
  have HZ2 := Lib.hid hz2
  clear hb1' hb2' hz1 hz2
  by_cases hbad : 12 < n ∨ 300 < m
  · have hc : ((12 : Int) < (n : Int)) ∨ (¬ (12 : Int) < (n : Int) ∧ (300 : Int) < (m : Int)) := by omega
    clear hbad HB0 HB1 HB2 HZ1 HZ2 hn hm
    rcases hc with h1 | ⟨h1, h2⟩
    all_goals
      go_enter Tryz.func4, Tryz.ntmps4
      go_wp2_with (first
        | (go_at_call 31; (with_reducible refine (HF.out).mono ?_); rintro e w1 ⟨rfl, hT⟩; have HT1 := Lib.hid hT; clear hT))
      go_ret
      exact ⟨rfl, HT1.out⟩
  · obtain ⟨h1, h2⟩ : n ≤ 12 ∧ m ≤ 300 := ⟨by omega, by omega⟩
    have g1 : ¬ (12 : Int) < (n : Int) := by omega
    have g2 : ¬ (300 : Int) < (m : Int) := by omega
    have HN12 := Lib.hid h1
    have HM := Lib.hid h2
    obtain ⟨fs, hfs⟩ := struct_of under_refA
    have HFS := Lib.hid hfs
    have hmb := Col.made_bools n (by omega)
    obtain ⟨N24, HN24⟩ : ∃ x, Hid (x = zE24) := ⟨_, Lib.hid rfl⟩
    have hb24 : Tryz.prog.built 55 [] = some N24 := by rw [HN24.out]; kernel_rfl
    clear hn hm hbad h1 h2
    go_enter Tryz.func4, Tryz.ntmps4
    go_upto_region 6 with (first
      | (go_at_call 31; (with_reducible refine (HF.out).mono ?_); rintro e w1 ⟨rfl, hT⟩; have HSG := Lib.hid (segsP w w1 hT); clear hT)
      | (go_at_call 7; (with_reducible refine (HSG.out).mono ?_); rintro e w2 ⟨b, CS, G, kh, kc, ohs, A, k, rfl, y1, y2, y3, y4, y5, y6⟩; have HZZ1 := Lib.hid y1; have HZZ2 := Lib.hid y2; have HO := Lib.hid y3; have HQ := Lib.hid (And.intro y4 y5); have HS2 := Lib.hid y6; clear y1 y2 y3 y4 y5 y6)
      | (refine wpList_store_row rfl 37 (.tmp 6) (.tmp 35) rfl w2.heap.size CS rfl rfl 37 _ (World.alloc_heap_new w2 _) (by rw [HZZ1.out]; exact info_refA) (by rw [HZZ1.out]; rfl) HZZ2.out ?_))
    have HS5 := Lib.hid (sta_ref HS2.out (z := zA20))
    unfold zA20 at HS5
    generalize World.setRow _ w2.heap.size CS = w5 at HS5 ⊢
    generalize w2.heap.size = mb at HS5 ⊢
    have HN5 := Lib.hid (sta_new HS5.out)
    clear HF HSG HS2
    go_upto_region 7 with (first
      | (go_at_call 32; (with_reducible refine (HN6.out).mono ?_); rintro e w7 ⟨r1, rfl, hS7, hT7⟩; have HS7 := Lib.hid hS7; clear hS7 hT7)
      | (go_at_call 32; (with_reducible refine (HN5.out).mono ?_); rintro e w6 ⟨r0, rfl, hS6, hT6⟩; have HN6 := Lib.hid (sta_new hS6); clear hS6 hT6))
    have HS8 := Lib.hid (sta_blk HS7.out (o2 80 r0 r1) (fun W => World.alloc_heap_new W _))
    unfold o2 at HS8
    generalize World.alloc w7 _ = w8 at HS8 ⊢
    generalize w7.heap.size = cb at HS8 ⊢
    clear HN5 HN6 HS5 HS7
    go_upto_region 8 with (refine wpList_buildTo rfl 55 #[] rfl (some _) rfl N24 (by simp only [List.map_toArray, List.map_cons, List.map_nil]; exact hb24) ?_)
    have HS11 := Lib.hid (sta_blk (sta_fresh (sta_fresh HS8.out HN24.out) HN24.out) (o2 52 w8.heap.size (w8.heap.size + 1)) (fun W => World.alloc_heap_new W _))
    unfold o2 at HS11
    simp only [World.size_alloc] at HS11
    generalize ((w8.alloc _).alloc _).alloc _ = w11 at HS11 ⊢
    generalize w8.heap.size = e0 at HS11 ⊢
    have HS12 := Lib.hid (sta_blk HS11.out (oBools (fun _ => false) n) (fun W => World.alloc_heap_new W _))
    have HS13 : Hid (PlR w b mb cb (e0 + 1 + 1) w11.heap.size kh n ohs 8 (w11.alloc (oBools (fun _ => false) n))) := Lib.hid
      ⟨_, _, _, _, _, _, _, _, _, _, _, _, _, _, _, _, _, _, _, _, _, _, _, ⟨HS12.out.swap.bring4.bring7.bring4.bring6.bring6.bring7, tiedO_new, fit_new 4, tiedO_new, fit_new 4, Nat.zero_le _, Nat.zero_le _, HQ.out.2⟩, HQ.out.1⟩
    clear HS11 HS8 HS12 HQ HZZ1 HZZ2
    go_wp2_with fail
    generalize w11.alloc (oBools (fun _ => false) n) = w12 at HS13 ⊢
    generalize w11.heap.size = ib at HS13 ⊢
    generalize e0 + 1 + 1 = sb at HS13 ⊢
    clear w11
    go_loopw [52] (fun i wr => ∃ j : Nat, j ≤ m ∧ i = .int .i64 j ∧ PlR w b mb cb sb ib kh n ohs (8 + 10 * j) wr) (fun i _ => m - (intOf i).toNat)
    case atStart => exact ⟨0, Nat.zero_le _, rfl, HS13.out⟩
    case round =>
      obtain ⟨j, hj, rfl, hrel⟩ := hrel
      clear HS13
      by_cases hlt : j < m
      · rcases HB2.out with e | ⟨ga2, gc2, e, hcell2⟩
        · omega
        cases e
        have hT0 : Frm.Turn [] w wr := by obtain ⟨A, k, CM, GM, r, r', e, e', C, C', v, v', E, E', X, X', l, l', G, G', inn, f, P, h, hk⟩ := hrel; exact h.st.kin.turn
        have hcj := hT0.cell (hcell2 j hlt) (by simp)
        obtain ⟨y0, y1⟩ := HZ2.out j hlt
        have n0 : (0 : Int) ≤ (n : Int) := by omega
        have n12 : (n : Int) ≤ 12 := by have := HN12.out; omega
        obtain ⟨p, hpp⟩ : ∃ p : Nat, z2 j % (2 + (n : Int)) = (p : Int) := ⟨(z2 j % (2 + (n : Int))).toNat, by have := Int.emod_nonneg (z2 j) (show (2 + (n : Int)) ≠ 0 by omega); omega⟩
        have hpn : p < 2 + n := by have := Int.emod_lt_of_pos (z2 j) (show (0 : Int) < 2 + n by omega); omega
        have hj1 : (j : Int) < (m : Int) := by omega
        have hj0 : (0 : Int) ≤ (j : Int) := by omega
        have hj4 : (j : Int) ≤ 300 := by have := HM.out; omega
        have HLT := Lib.hid hlt
        have hz1n : (0 : Int) < 2 + (n : Int) := by omega
        clear hlt hj hcell2 hT0
        generalize z2 j = zj at hcj y0 y1 hpp
        have hp0 : (0 : Int) ≤ (p : Int) := by omega
        have hp14 : (p : Int) ≤ 14 := by have := HN12.out; omega
        have HPN := Lib.hid hpn
        clear hpn
        by_cases hp2 : p < 2
        · have hp2' : (p : Int) < 2 := by omega
          obtain ⟨A, k, CM, GM, r, r', e, e', C, C', v, v', E, E', X, X', l, l', G, G', inn, f, P, hS, hk⟩ := PlR.at_ hrel hp2
          have HK := Lib.hid hk
          have HP2 := Lib.hid hp2
          have HDN := Lib.hid (doneO_any (hS.st.on (coP w.heap.size r b C v) (by simp)) hS.fit.ph)
          obtain ⟨a0, a1⟩ := oI_cell (hS.st.on (blkP cb (oI 80 p r r')) (by simp)) hp2
          have HS := Lib.hid hS
          clear hS hk hrel hp2
          go_upto_if 68 with (go_at_call 33; (with_reducible refine (HDN.out).mono ?_); rintro e2 w2 ⟨rfl, rfl⟩)
          go_cut [] (fun W2 => ∃ r e C v E X l G, PlS w b mb cb sb ib kh n ohs p A k CM GM r r' e e' C C' v v' E E' X X' l l' G G' inn f P W2 ∧ C.ph ≠ 2)
          case first =>
            as_aux_lemma =>
            by_cases h2 : C.ph = 2
            · have hd : decide (C.ph = 2) = true := decide_eq_true h2
              have HNW := Lib.hid (sta_new HS.out.st)
              clear HDN
              go_wp2_with (first
                | (go_at_call 32; (with_reducible refine (HNW.out).mono ?_); rintro e3 w3 ⟨r2, rfl, hS3, hT3⟩; have HS3 := Lib.hid hS3; have HT3 := Lib.hid hT3; have hS4 := sta_fresh hS3 HN24.out; have b0 := (oI_cell (hS4.on (blkP cb (oI 80 p r r')) (by simp)) HP2.out); obtain ⟨b0, b1⟩ := b0; have HP5 := oI_put (Stash.bring7 hS4) HP2.out r2; have hS5 := Stash.sink7 HP5; have b2 := (oI_cell (hS5.on (blkP sb (oI 52 p e e')) (by simp)) HP2.out); obtain ⟨b2, b3⟩ := b2; have HP6 := Lib.hid (Stash.sink8 (oI_put (Stash.bring8 hS5) HP2.out w3.heap.size)); clear hS3 hT3 hS4 HP5 hS5)
                | (refine wpList_buildTo rfl 55 #[] rfl (some 75) rfl N24 (by simp only [List.map_toArray, List.map_cons, List.map_nil]; exact hb24) ?_))
              go_meet
              have h6 := (Stash.drop (Stash.bring2 (Stash.drop (Stash.bring2 HP6.out)))).swap
              obtain ⟨t1, t2, t3, t4, t5, t6, t7⟩ := HS.out
              exact ⟨r2, _, Co.new, _, E00, _, _, _, ⟨h6, tiedO_new, fit_new 4, t4, t5, Nat.zero_le _, t7, HS.out.seg⟩, by decide⟩
            · have hd : decide (C.ph = 2) = false := decide_eq_false h2
              clear HDN
              go_wp2_with fail
              go_meet
              exact ⟨r, e, C, v, E, X, l, G, HS.out, h2⟩
          case rest =>
            clear HS HDN a0 a1
            obtain ⟨r, e, C, v, E, X, l, G, hS, hph⟩ := hcut
            have HPH := Lib.hid hph
            have hk2 : k ≤ 4000 := by have := HK.out; have := HM.out; have := HLT.out; omega
            have HK2 := Lib.hid hk2
            have HSP := Lib.hid hS
            have HLA := Lib.hid (sta_lim hS.st (by omega)).1
            have HST := Lib.hid (sta_step hS.st (by omega) (Nat.le_refl 4) hS.fit hS.seg)
            obtain ⟨a0, a1⟩ := oI_cell (hS.st.on (blkP cb (oI 80 p r r')) (by simp)) HP2.out
            have HLN : Hid (E.log.length ≤ 50000) := Lib.hid (by have := hS.len; omega)
            clear hS hph hk2
            go_upto_region 17 with (go_at_call 34; (with_reducible refine (HST.out).mono ?_); rintro e2 w2 ⟨rfl, v2, hS2⟩; have HS2 := Lib.hid hS2; clear hS2)
            clear HST a0 a1
            obtain ⟨T, HT⟩ : ∃ T : Co, Hid (T = C.step 4 f) := ⟨_, Lib.hid rfl⟩
            rw [← HT.out] at HS2
            have HMR := Lib.hid (mp_row (mb := mb) (B := A) (CM := CM) (GM := GM) HS2.out (by simp))
            have HLB := Lib.hid (sta_lim HS2.out (by have := HK2.out; omega)).1
            go_cut [] (fun W2 => Stash w b (C.acc A) (k + 1) (coP w.heap.size r b T v2 :: enP e (E.begin A) CM l GM :: [coP w.heap.size r' b C' v', enP e' E' X' l' G', mP mb A CM GM, blkP cb (oI 80 p r r'), blkP sb (oI 52 p e e'), blkP ib (oBools inn n), blkP kh ohs, P]) W2)
            case first =>
              as_aux_lemma =>
              have hsb : ∀ W', Frm.Turn [] w2 W' → W'.cell? ⟨sb, p, none⟩ = some (.pointer (some ⟨e, 0, none⟩)) ∧ W'.heap[mb]? = some (.cells CM 37 (0, 0)) := fun W' hT => ⟨(oI_cell ((HS2.out.still hT).on (blkP sb (oI 52 p e e')) (by simp)) HP2.out).1, ((HS2.out.still hT).on (mP mb A CM GM) (by simp)).1⟩
              have HBG : Hid (∀ W', Frm.Turn [] w2 W' → Calls Tryz.prog 15 #[.pointer (some ⟨e, 0, none⟩), .agg CM] W' fun x w' => x = .returned (.tuple #[]) ∧ Stash w b (C.acc A) (k + 1) (enP e (E.begin A) CM l GM :: coP w.heap.size r b T v2 :: [coP w.heap.size r' b C' v', enP e' E' X' l' G', mP mb A CM GM, blkP cb (oI 80 p r r'), blkP sb (oI 52 p e e'), blkP ib (oBools inn n), blkP kh ohs, P]) w') := Lib.hid (fun W' hT => sta_begin (mb := mb) (HS2.out.still hT).swap (by simp))
              have HP2n := HP2.out
              have HTD := Lib.hid ((Frm.Turn.refl [] w2).drew)
              refine wp_region_held_drew (S := fun W' => W'.cell? ⟨sb, p, none⟩ = some (.pointer (some ⟨e, 0, none⟩)) ∧ W'.heap[mb]? = some (.cells CM 37 (0, 0))) (by kernel_rfl) ?_ (fun hHeld => ?_)
              · exact hsb _ HTD.out
              refine wpAnyH_take (i := 0) (v := ?_) rfl (by kernel_rfl) (by kernel_rfl) (by kernel_rfl) (fun _ _ _ h => h) (Or.inl ⟨by rfl, ?_⟩) (by assumption) ?_
              rotate_left
              · (intro w hSw; (try dsimp only at hSw); go_simp; try with_reducible rfl)
              try simp only [Act.put, List.getElem_toArray, List.getElem_cons_succ, List.getElem_cons_zero, List.setIfInBounds_toArray, List.set_cons_zero, List.set_cons_succ]
              refine wpAnyH_take (i := 1) (v := ?_) rfl (by kernel_rfl) (by kernel_rfl) (by kernel_rfl) (fun _ _ _ h => h) (Or.inl ⟨by rfl, ?_⟩) (by assumption) ?_
              rotate_left
              · (intro w hSw; (try dsimp only at hSw); go_simp; try with_reducible rfl)
              try simp only [Act.put, List.getElem_toArray, List.getElem_cons_succ, List.getElem_cons_zero, List.setIfInBounds_toArray, List.set_cons_zero, List.set_cons_succ]
              refine wpAnyH_take (i := 2) (v := ?_) rfl (by kernel_rfl) (by kernel_rfl) (by kernel_rfl) (fun _ _ _ h => h) (Or.inl ⟨by rfl, ?_⟩) (by assumption) ?_
              rotate_left
              · (intro w hSw; (try dsimp only at hSw); go_simp; try with_reducible rfl)
              try simp only [Act.put, List.getElem_toArray, List.getElem_cons_succ, List.getElem_cons_zero, List.setIfInBounds_toArray, List.set_cons_zero, List.set_cons_succ]
              refine wpAnyH_take (i := 3) (v := ?_) rfl (by kernel_rfl) (by kernel_rfl) (by kernel_rfl) (fun _ _ _ h => h) (Or.inl ⟨by rfl, ?_⟩) (by assumption) ?_
              rotate_left
              · (intro w hSw; (try dsimp only at hSw); obtain ⟨q0, q1⟩ := hSw; go_simp; try with_reducible rfl)
              try simp only [Act.put, List.getElem_toArray, List.getElem_cons_succ, List.getElem_cons_zero, List.setIfInBounds_toArray, List.set_cons_zero, List.set_cons_succ]
              refine' wpAnyH_take (i := 4) (v := _) rfl (by kernel_rfl) (by kernel_rfl) (by kernel_rfl) (fun _ _ _ h => h) (yieldsIf_load_mid (by rfl) 37 (.tmp 6) rfl mb 0 rfl CM.toList (.struct fs) (fun w' hw => range_of hw.2) HFS.out rfl (by rw [Array.length_toList, HMR.out.2.1]; exact info_refA)) (by assumption) ?_
              try simp only [Act.put, List.getElem_toArray, List.getElem_cons_succ, List.getElem_cons_zero, List.setIfInBounds_toArray, List.set_cons_zero, List.set_cons_succ]
              rw [Array.toArray_toList]
              refine wpAnyH_ready (rs := [5]) (by kernel_rfl) (by simp) ?_
              refine AllReadyH.cons rfl (fun K hK => ?_) AllReadyH.nil
              try simp only [List.getElem_toArray, List.getElem_cons_succ, List.getElem_cons_zero]
              go_simp
              (go_at_call 15; (with_reducible refine (HBG.out _ HTD.out).mono ?_); rintro e3 w3 ⟨rfl, hS3⟩; have HS3 := Lib.hid hS3; clear hS3)
              try go_wp2_with fail
              refine hK.out _ _ (⟨(oI_cell (HS3.out.on (blkP sb (oI 52 p e e')) (by simp)) HP2n).1, (HS3.out.on (mP mb A CM GM) (by simp)).1⟩) (fun hHeld1 => ?_)
              clear hK K
              try simp only [Act.put, List.getElem_toArray, List.getElem_cons_succ, List.getElem_cons_zero, List.setIfInBounds_toArray, List.set_cons_zero, List.set_cons_succ]
              refine wpAnyH_done (by kernel_rfl) ?_ _
              go_wp2_with fail
              go_meet
              exact HS3.out.swap
            case rest =>
              have HS3 := Lib.hid hcut
              have hS3 := hcut
              rw [plc_begin E A (C.acc A) (C.ask A).2] at hS3
              have HRN := Lib.hid (sta_run hS3 HSP.out.tie HSP.out.fit HSP.out.seg HPH.out HLN.out HLA.out HLB.out)
              rw [← HT.out] at HRN
              obtain ⟨a0, a1⟩ := oI_cell (hS3.on (blkP sb (oI 52 p e e')) (by simp)) HP2.out
              clear hcut hS3 HS2 HMR
              obtain ⟨LL, HLL⟩ : ∃ LL, Hid (LL = E.log ++ [(C.ask A).2]) := ⟨_, Lib.hid rfl⟩
              rw [← HLL.out] at HRN
              obtain ⟨mT, HMT⟩ : ∃ mT, Hid (mT = T.m) := ⟨_, Lib.hid rfl⟩
              obtain ⟨lT, HLT2⟩ : ∃ lT, Hid (lT = T.L) := ⟨_, Lib.hid rfl⟩
              rw [← HMT.out, ← HLT2.out] at HRN
              go_upto_region 19 with (first
                | (go_at_call 35; (with_reducible refine (HRN.out).mono ?_); rintro e4 w4 ⟨v4, E4, X4, l4, G4, rfl, hrow, hT4, hA4, hst4, hlg4, hS4⟩; have HS4 := Lib.hid hS4; have HE4 := Lib.hid (And.intro hA4 (And.intro hst4 hlg4)); have HRW := Lib.hid hrow; have hv4 : v4.oneCell' = true := (by obtain ⟨va, vc, rfl⟩ := Frm.row_form hrow; rfl); have HG1 := Lib.hid (got_one mT hv4); clear hrow hT4 hA4 hst4 hlg4 hS4 hv4)
                | (refine wpList_store_row rfl 87 (.tmp 14) (.tmp 94) rfl w4.heap.size (gotO v4 mT) rfl rfl 87 _ (World.alloc_heap_new w4 _) (by rw [got_size]; exact info_got) rfl HG1.out ?_))
              have HS5 := Lib.hid (sta_got HS4.out (gotO (.slice none 0 0) 0) (gotO v4 mT))
              have HT5 : Hid (Frm.Turn [] w4 ((w4.alloc (.cells (gotO (.slice none 0 0) 0) 87)).setRow w4.heap.size (gotO v4 mT))) := Lib.hid (setRow_turn ((Frm.Turn.refl [] w4).alloc _) (.inr (Nat.le_refl _)) _)
              rw [← zero_got] at HS5 HT5
              generalize World.setRow _ w4.heap.size (gotO v4 mT) = w5 at HS5 HT5 ⊢
              generalize w4.heap.size = gb at HS5 ⊢
              have HRW5 := Lib.hid (Frm.owns_turn HRW.out HT5.out (by simp))
              obtain ⟨a0, a1⟩ := oI_cell (HS5.out.on (blkP sb (oI 52 p e e')) (by simp)) HP2.out
              have HEN5 := Lib.hid (show EnAt w5 e E4 X4 l4 G4 from HS5.out.on (enP e E4 X4 l4 G4) (by simp))
              have HMR5 := Lib.hid (mp_row (mb := mb) (B := A) (CM := CM) (GM := GM) HS5.out (by simp))
              clear HRN HS4 HRW HT5 HG1
              go_upto_region 20 with (first
                | (refine wpList_load_mid rfl 37 (.tmp 100) rfl e 0 rfl X4.toList (.struct fs) HEN5.out.range HFS.out rfl (by rw [Array.length_toList, HEN5.out.size]; exact info_refA) ?_; rw [Array.toArray_toList])
                | (refine wpList_store_row rfl 37 (.tmp 6) (.tmp 101) rfl mb X4 rfl rfl 37 CM HMR5.out.1 (by rw [HEN5.out.size]; exact info_refA) (by rw [HEN5.out.size, HMR5.out.2.1]) HEN5.out.one ?_))
              have hS6 := Stash.sink5 (sta_put (eb := e) (E' := E4) (CE := X4) (le := l4) (GE := G4) (Stash.bring5 HS5.out) (by simp) (by rw [HEN5.out.size, HMR5.out.2.1]))
              rw [HE4.out.1] at hS6
              have HS6 := Lib.hid hS6
              have HRW6 : Hid ((w5.setRow mb X4).ownsRow 0 46 2 v4 lT.length (plCells lT)) := Lib.hid (by
                refine Frm.owns_turn HRW5.out (setRow_turn (F := [mb]) (Frm.Turn.refl _ w5) (.inl (by simp)) X4) (fun q hq => ?_)
                rcases HRW5.out.2 with ⟨rfl, _⟩ | ⟨g0, c0, cur, rfl, _, hh, _⟩
                · cases hq
                · cases hq
                  have := typ_ne hh HMR5.out.1 (by decide)
                  simpa using this)
              generalize w5.setRow mb X4 = w6 at HS6 HRW6 ⊢
              clear hS6 HS5 HRW5 HEN5 HMR5 a0 a1
              have HMR6 := Lib.hid (mp_row (mb := mb) (B := C.acc A) (CM := X4) (GM := G4) HS6.out (by simp))
              obtain ⟨va, vc, hv4⟩ := Frm.row_form HRW6.out
              subst hv4
              have HCC : Hid (∀ W', Frm.Turn [] w6 W' → W'.cell? ⟨cb, p, none⟩ = some (.pointer (some ⟨r, 0, none⟩)) ∧ W'.cell? ⟨sb, p, none⟩ = some (.pointer (some ⟨e, 0, none⟩)) ∧ W'.cell? ⟨gb, 0, none⟩ = some (.slice va lT.length vc) ∧ W'.cell? ⟨e, 23, none⟩ = some (.bool E4.stop) ∧ W'.heap[mb]? = some (.cells X4 37 (0, 0))) := Lib.hid (fun W' hT => by
                have hS := HS6.out.still hT
                refine ⟨(oI_cell (hS.on (blkP cb (oI 80 p r r')) (by simp)) HP2.out).1, (oI_cell (hS.on (blkP sb (oI 52 p e e')) (by simp)) HP2.out).1, ?_, ?_, (hS.on (mP mb (C.acc A) X4 G4) (by simp)).1⟩
                · have h : W'.heap[gb]? = some (.cells (gotO (.slice va lT.length vc) mT) 87) := hS.on (blkP gb (.cells (gotO (.slice va lT.length vc) mT) 87)) (by simp)
                  rw [Frm.cell_row _ _ _ _ _ _ h]; rfl
                · exact EnAt.cells (show EnAt W' e E4 X4 l4 G4 from hS.on (enP e E4 X4 l4 G4) (by simp)) |>.2.2.2)
              have HFT : Hid (T.Fit 4) := Lib.hid (by rw [HT.out]; exact fit_step (Nat.le_refl 4) HSP.out.fit)
              have HL15 : Hid (lT.length ≤ 15) := Lib.hid (by rw [HLT2.out]; exact fit_len HFT.out)
              have HCO : Hid (∀ W', Frm.Turn [] w6 W' → CoAt W' w.heap.size r b T v2) := Lib.hid (fun W' hT => (HS6.out.still hT).on (coP w.heap.size r b T v2) (by simp))
              have HPLC : Hid (∀ W', Frm.Turn [] w6 W' → Calls Tryz.prog 37 #[.pointer (some ⟨r, 0, none⟩)] W' fun e w' => ∃ ua uc, e = .returned (.slice ua lT.length uc) ∧ w'.ownsRow W'.heap.size 46 2 (.slice ua lT.length uc) lT.length (plCells lT) ∧ Frm.Turn [] W' w') := Lib.hid (fun W' hT => by
                have h := places_any (HCO.out W' hT) (by rw [← HLT2.out]; have := HL15.out; omega)
                rw [← HLT2.out] at h
                refine h.mono ?_
                rintro e w' ⟨u, rfl, h1, h2⟩
                obtain ⟨ua, uc, rfl⟩ := Frm.row_form h1
                exact ⟨ua, uc, rfl, h1, h2⟩)
              have HDN : Hid (∀ W', Frm.Turn [] w6 W' → Calls Tryz.prog 33 #[.pointer (some ⟨r, 0, none⟩)] W' fun e w' => e = .returned (.bool (!E4.stop)) ∧ W' = w') := Lib.hid (fun W' hT => by
                have h := doneO_any (HCO.out W' hT) HFT.out.ph
                rw [HE4.out.2.1, Bool.not_not]
                exact h)
              have HSM : Hid (∀ W', Frm.Turn [] w6 W' → Calls Tryz.prog 30 #[.pointer (some ⟨b, 0, none⟩), .agg X4] W' fun e w' => e = .returned (.int .i64 1) ∧ Frm.Turn [] W' w') := Lib.hid (fun W' hT => sta_same (mb := mb) (HS6.out.still hT) (G := G4) (by simp))
              obtain ⟨zs, HZS⟩ : ∃ zs, Hid (zs = E4.stop) := ⟨_, Lib.hid rfl⟩
              rw [← HZS.out] at HCC HDN
              have hbx : ((!zs) == zs) = false := by cases zs <;> rfl
              have lN0 : (0 : Int) ≤ (lT.length : Int) := by omega
              simp only [Act.put, Array.toArray_toList, List.setIfInBounds_toArray, List.set_cons_zero, List.set_cons_succ]
              go_cut [131] (fun s131 W2 => s131 = .bool false ∧ Frm.Turn [] w6 W2)
              case first =>
                as_aux_lemma =>
                refine wp_region_held_drew (S := fun W' => Frm.Turn [] w6 W') (by kernel_rfl) ?_ (fun hHeld => ?_)
                · exact (Frm.Turn.refl [] w6).drew
                refine wpAnyH_take (i := 0) (v := ?_) rfl (by kernel_rfl) (by kernel_rfl) (by kernel_rfl) (fun _ _ _ h => h) (Or.inl ⟨by rfl, ?_⟩) (by assumption) ?_
                rotate_left
                · (intro w hSw; (try dsimp only at hSw); go_simp; try with_reducible rfl)
                try simp only [Act.put, List.getElem_toArray, List.getElem_cons_succ, List.getElem_cons_zero, List.setIfInBounds_toArray, List.set_cons_zero, List.set_cons_succ]
                refine wpAnyH_take (i := 1) (v := ?_) rfl (by kernel_rfl) (by kernel_rfl) (by kernel_rfl) (fun _ _ _ h => h) (Or.inl ⟨by rfl, ?_⟩) (by assumption) ?_
                rotate_left
                · (intro w hSw; (try dsimp only at hSw); go_simp; try with_reducible rfl)
                try simp only [Act.put, List.getElem_toArray, List.getElem_cons_succ, List.getElem_cons_zero, List.setIfInBounds_toArray, List.set_cons_zero, List.set_cons_succ]
                refine wpAnyH_take (i := 2) (v := ?_) rfl (by kernel_rfl) (by kernel_rfl) (by kernel_rfl) (fun _ _ _ h => h) (Or.inl ⟨by rfl, ?_⟩) (by assumption) ?_
                rotate_left
                · (intro w hSw; (try dsimp only at hSw); go_simp; try with_reducible rfl)
                try simp only [Act.put, List.getElem_toArray, List.getElem_cons_succ, List.getElem_cons_zero, List.setIfInBounds_toArray, List.set_cons_zero, List.set_cons_succ]
                refine wpAnyH_take (i := 3) (v := ?_) rfl (by kernel_rfl) (by kernel_rfl) (by kernel_rfl) (fun _ _ _ h => h) (Or.inl ⟨by rfl, ?_⟩) (by assumption) ?_
                rotate_left
                · (intro w hSw; (try dsimp only at hSw); obtain ⟨q0, q1, q2, q3, q4⟩ := HCC.out w hSw; go_simp; try with_reducible rfl)
                try simp only [Act.put, List.getElem_toArray, List.getElem_cons_succ, List.getElem_cons_zero, List.setIfInBounds_toArray, List.set_cons_zero, List.set_cons_succ]
                refine wpAnyH_take (i := 5) (v := ?_) rfl (by kernel_rfl) (by kernel_rfl) (by kernel_rfl) (fun _ _ _ h => h) (Or.inl ⟨by rfl, ?_⟩) (by assumption) ?_
                rotate_left
                · (intro w hSw; (try dsimp only at hSw); go_simp; try with_reducible rfl)
                try simp only [Act.put, List.getElem_toArray, List.getElem_cons_succ, List.getElem_cons_zero, List.setIfInBounds_toArray, List.set_cons_zero, List.set_cons_succ]
                refine wpAnyH_take (i := 6) (v := ?_) rfl (by kernel_rfl) (by kernel_rfl) (by kernel_rfl) (fun _ _ _ h => h) (Or.inl ⟨by rfl, ?_⟩) (by assumption) ?_
                rotate_left
                · (intro w hSw; (try dsimp only at hSw); obtain ⟨q0, q1, q2, q3, q4⟩ := HCC.out w hSw; go_simp; try with_reducible rfl)
                try simp only [Act.put, List.getElem_toArray, List.getElem_cons_succ, List.getElem_cons_zero, List.setIfInBounds_toArray, List.set_cons_zero, List.set_cons_succ]
                refine wpAnyH_ready (rs := [4]) (by kernel_rfl) (by simp) ?_
                refine AllReadyH.cons rfl (fun K hK => ?_) AllReadyH.nil
                try simp only [List.getElem_toArray, List.getElem_cons_succ, List.getElem_cons_zero]
                go_simp
                (go_at_call 37; (with_reducible refine (HPLC.out _ hHeld).mono ?_); rintro e7 w7 ⟨ua, uc, rfl, hr7, hT7⟩; have HR7 := Lib.hid hr7; have HT7 := Lib.hid (hHeld.trans hT7 (by simp)); clear hr7 hT7)
                try go_wp2_with fail
                refine hK.out _ _ (HT7.out) (fun hHeld1 => ?_)
                clear hK K
                try simp only [Act.put, List.getElem_toArray, List.getElem_cons_succ, List.getElem_cons_zero, List.setIfInBounds_toArray, List.set_cons_zero, List.set_cons_succ]
                refine wpAnyH_ready (rs := [7]) (by kernel_rfl) (by simp) ?_
                refine AllReadyH.cons rfl (fun K hK => ?_) AllReadyH.nil
                try simp only [List.getElem_toArray, List.getElem_cons_succ, List.getElem_cons_zero]
                go_simp
                have HSA := Lib.hid (rsameP_any HR7.out (Frm.owns_turn HRW6.out HT7.out (by simp)) HL15.out)
                (go_at_call 36; (with_reducible refine (HSA.out).mono ?_); rintro e8 w8 ⟨rfl, hT8⟩; have HT8 := Lib.hid (HT7.out.trans hT8 (by simp)); clear hT8)
                try go_wp2_with fail
                refine hK.out _ _ (HT8.out) (fun hHeld2 => ?_)
                clear hK K
                try simp only [Act.put, List.getElem_toArray, List.getElem_cons_succ, List.getElem_cons_zero, List.setIfInBounds_toArray, List.set_cons_zero, List.set_cons_succ]
                refine wpAnyH_take (i := 8) (v := ?_) rfl (by kernel_rfl) (by kernel_rfl) (by kernel_rfl) (fun _ _ _ h => h) (Or.inl ⟨by rfl, ?_⟩) (by assumption) ?_
                rotate_left
                · (intro w hSw; (try dsimp only at hSw); go_simp; try with_reducible rfl)
                try simp only [Act.put, List.getElem_toArray, List.getElem_cons_succ, List.getElem_cons_zero, List.setIfInBounds_toArray, List.set_cons_zero, List.set_cons_succ]
                refine wpAnyH_take (i := 9) (v := ?_) rfl (by kernel_rfl) (by kernel_rfl) (by kernel_rfl) (fun _ _ _ h => h) (Or.inl ⟨by rfl, ?_⟩) (by assumption) ?_
                rotate_left
                · (intro w hSw; (try dsimp only at hSw); go_simp; try with_reducible rfl)
                try simp only [Act.put, List.getElem_toArray, List.getElem_cons_succ, List.getElem_cons_zero, List.setIfInBounds_toArray, List.set_cons_zero, List.set_cons_succ]
                refine wpAnyH_take (i := 10) (v := ?_) rfl (by kernel_rfl) (by kernel_rfl) (by kernel_rfl) (fun _ _ _ h => h) (Or.inl ⟨by rfl, ?_⟩) (by assumption) ?_
                rotate_left
                · (intro w hSw; (try dsimp only at hSw); go_simp; try with_reducible rfl)
                try simp only [Act.put, List.getElem_toArray, List.getElem_cons_succ, List.getElem_cons_zero, List.setIfInBounds_toArray, List.set_cons_zero, List.set_cons_succ]
                refine wpAnyH_take (i := 11) (v := ?_) rfl (by kernel_rfl) (by kernel_rfl) (by kernel_rfl) (fun _ _ _ h => h) (Or.inl ⟨by rfl, ?_⟩) (by assumption) ?_
                rotate_left
                · (intro w hSw; (try dsimp only at hSw); go_simp; try with_reducible rfl)
                try simp only [Act.put, List.getElem_toArray, List.getElem_cons_succ, List.getElem_cons_zero, List.setIfInBounds_toArray, List.set_cons_zero, List.set_cons_succ]
                refine wpAnyH_take (i := 12) (v := ?_) rfl (by kernel_rfl) (by kernel_rfl) (by kernel_rfl) (fun _ _ _ h => h) (Or.inl ⟨by rfl, ?_⟩) (by assumption) ?_
                rotate_left
                · (intro w hSw; (try dsimp only at hSw); go_simp; try with_reducible rfl)
                try simp only [Act.put, List.getElem_toArray, List.getElem_cons_succ, List.getElem_cons_zero, List.setIfInBounds_toArray, List.set_cons_zero, List.set_cons_succ]
                refine wpAnyH_take (i := 13) (v := ?_) rfl (by kernel_rfl) (by kernel_rfl) (by kernel_rfl) (fun _ _ _ h => h) (Or.inl ⟨by rfl, ?_⟩) (by assumption) ?_
                rotate_left
                · (intro w hSw; (try dsimp only at hSw); obtain ⟨q0, q1, q2, q3, q4⟩ := HCC.out w hSw; go_simp; try with_reducible rfl)
                try simp only [Act.put, List.getElem_toArray, List.getElem_cons_succ, List.getElem_cons_zero, List.setIfInBounds_toArray, List.set_cons_zero, List.set_cons_succ]
                refine wpAnyH_take (i := 15) (v := ?_) rfl (by kernel_rfl) (by kernel_rfl) (by kernel_rfl) (fun _ _ _ h => h) (Or.inl ⟨by rfl, ?_⟩) (by assumption) ?_
                rotate_left
                · (intro w hSw; (try dsimp only at hSw); go_simp; try with_reducible rfl)
                try simp only [Act.put, List.getElem_toArray, List.getElem_cons_succ, List.getElem_cons_zero, List.setIfInBounds_toArray, List.set_cons_zero, List.set_cons_succ]
                refine wpAnyH_take (i := 16) (v := ?_) rfl (by kernel_rfl) (by kernel_rfl) (by kernel_rfl) (fun _ _ _ h => h) (Or.inl ⟨by rfl, ?_⟩) (by assumption) ?_
                rotate_left
                · (intro w hSw; (try dsimp only at hSw); go_simp; try with_reducible rfl)
                try simp only [Act.put, List.getElem_toArray, List.getElem_cons_succ, List.getElem_cons_zero, List.setIfInBounds_toArray, List.set_cons_zero, List.set_cons_succ]
                refine wpAnyH_take (i := 17) (v := ?_) rfl (by kernel_rfl) (by kernel_rfl) (by kernel_rfl) (fun _ _ _ h => h) (Or.inl ⟨by rfl, ?_⟩) (by assumption) ?_
                rotate_left
                · (intro w hSw; (try dsimp only at hSw); go_simp; try with_reducible rfl)
                try simp only [Act.put, List.getElem_toArray, List.getElem_cons_succ, List.getElem_cons_zero, List.setIfInBounds_toArray, List.set_cons_zero, List.set_cons_succ]
                refine wpAnyH_take (i := 18) (v := ?_) rfl (by kernel_rfl) (by kernel_rfl) (by kernel_rfl) (fun _ _ _ h => h) (Or.inl ⟨by rfl, ?_⟩) (by assumption) ?_
                rotate_left
                · (intro w hSw; (try dsimp only at hSw); obtain ⟨q0, q1, q2, q3, q4⟩ := HCC.out w hSw; go_simp; try with_reducible rfl)
                try simp only [Act.put, List.getElem_toArray, List.getElem_cons_succ, List.getElem_cons_zero, List.setIfInBounds_toArray, List.set_cons_zero, List.set_cons_succ]
                refine wpAnyH_take (i := 19) (v := ?_) rfl (by kernel_rfl) (by kernel_rfl) (by kernel_rfl) (fun _ _ _ h => h) (Or.inl ⟨by rfl, ?_⟩) (by assumption) ?_
                rotate_left
                · (intro w hSw; (try dsimp only at hSw); go_simp; try with_reducible rfl)
                try simp only [Act.put, List.getElem_toArray, List.getElem_cons_succ, List.getElem_cons_zero, List.setIfInBounds_toArray, List.set_cons_zero, List.set_cons_succ]
                refine wpAnyH_take (i := 20) (v := ?_) rfl (by kernel_rfl) (by kernel_rfl) (by kernel_rfl) (fun _ _ _ h => h) (Or.inl ⟨by rfl, ?_⟩) (by assumption) ?_
                rotate_left
                · (intro w hSw; (try dsimp only at hSw); go_simp; try with_reducible rfl)
                try simp only [Act.put, List.getElem_toArray, List.getElem_cons_succ, List.getElem_cons_zero, List.setIfInBounds_toArray, List.set_cons_zero, List.set_cons_succ]
                refine wpAnyH_take (i := 21) (v := ?_) rfl (by kernel_rfl) (by kernel_rfl) (by kernel_rfl) (fun _ _ _ h => h) (Or.inl ⟨by rfl, ?_⟩) (by assumption) ?_
                rotate_left
                · (intro w hSw; (try dsimp only at hSw); obtain ⟨q0, q1, q2, q3, q4⟩ := HCC.out w hSw; go_simp; try with_reducible rfl)
                try simp only [Act.put, List.getElem_toArray, List.getElem_cons_succ, List.getElem_cons_zero, List.setIfInBounds_toArray, List.set_cons_zero, List.set_cons_succ]
                refine wpAnyH_ready (rs := [14]) (by kernel_rfl) (by simp) ?_
                refine AllReadyH.cons rfl (fun K hK => ?_) AllReadyH.nil
                try simp only [List.getElem_toArray, List.getElem_cons_succ, List.getElem_cons_zero]
                go_simp
                (go_at_call 33; (with_reducible refine (HDN.out _ hHeld2).mono ?_); rintro e9 w9 ⟨rfl, rfl⟩)
                try go_wp2_with fail
                refine hK.out _ _ (hHeld2) (fun hHeld3 => ?_)
                clear hK K
                try simp only [Act.put, List.getElem_toArray, List.getElem_cons_succ, List.getElem_cons_zero, List.setIfInBounds_toArray, List.set_cons_zero, List.set_cons_succ]
                refine wpAnyH_take (i := 22) (v := ?_) rfl (by kernel_rfl) (by kernel_rfl) (by kernel_rfl) (fun _ _ _ h => h) (Or.inl ⟨by rfl, ?_⟩) (by assumption) ?_
                rotate_left
                · (intro w hSw; (try dsimp only at hSw); go_simp; try with_reducible rfl)
                try simp only [Act.put, List.getElem_toArray, List.getElem_cons_succ, List.getElem_cons_zero, List.setIfInBounds_toArray, List.set_cons_zero, List.set_cons_succ]
                refine wpAnyH_take (i := 23) (v := ?_) rfl (by kernel_rfl) (by kernel_rfl) (by kernel_rfl) (fun _ _ _ h => h) (Or.inl ⟨by rfl, ?_⟩) (by assumption) ?_
                rotate_left
                · (intro w hSw; (try dsimp only at hSw); go_simp; try with_reducible rfl)
                try simp only [Act.put, List.getElem_toArray, List.getElem_cons_succ, List.getElem_cons_zero, List.setIfInBounds_toArray, List.set_cons_zero, List.set_cons_succ]
                refine wpAnyH_take (i := 24) (v := ?_) rfl (by kernel_rfl) (by kernel_rfl) (by kernel_rfl) (fun _ _ _ h => h) (Or.inl ⟨by rfl, ?_⟩) (by assumption) ?_
                rotate_left
                · (intro w hSw; (try dsimp only at hSw); go_simp; try with_reducible rfl)
                try simp only [Act.put, List.getElem_toArray, List.getElem_cons_succ, List.getElem_cons_zero, List.setIfInBounds_toArray, List.set_cons_zero, List.set_cons_succ]
                refine wpAnyH_take (i := 25) (v := ?_) rfl (by kernel_rfl) (by kernel_rfl) (by kernel_rfl) (fun _ _ _ h => h) (Or.inl ⟨by rfl, ?_⟩) (by assumption) ?_
                rotate_left
                · (intro w hSw; (try dsimp only at hSw); go_simp; try with_reducible rfl)
                try simp only [Act.put, List.getElem_toArray, List.getElem_cons_succ, List.getElem_cons_zero, List.setIfInBounds_toArray, List.set_cons_zero, List.set_cons_succ]
                refine' wpAnyH_take (i := 26) (v := _) rfl (by kernel_rfl) (by kernel_rfl) (by kernel_rfl) (fun _ _ _ h => h) (yieldsIf_load_mid (by rfl) 37 (.tmp 6) rfl mb 0 rfl X4.toList (.struct fs) (fun w' hw => range_of (HCC.out w' hw).2.2.2.2) HFS.out rfl (by rw [Array.length_toList, HMR6.out.2.1]; exact info_refA)) (by assumption) ?_
                try simp only [Act.put, List.getElem_toArray, List.getElem_cons_succ, List.getElem_cons_zero, List.setIfInBounds_toArray, List.set_cons_zero, List.set_cons_succ]
                rw [Array.toArray_toList]
                refine wpAnyH_ready (rs := [27]) (by kernel_rfl) (by simp) ?_
                refine AllReadyH.cons rfl (fun K hK => ?_) AllReadyH.nil
                try simp only [List.getElem_toArray, List.getElem_cons_succ, List.getElem_cons_zero]
                go_simp
                (go_at_call 30; (with_reducible refine (HSM.out _ hHeld3).mono ?_); rintro e10 w10 ⟨rfl, hT10⟩; have HT10 := Lib.hid (hHeld3.trans hT10 (by simp)); clear hT10)
                try go_wp2_with fail
                refine hK.out _ _ (HT10.out) (fun hHeld4 => ?_)
                clear hK K
                try simp only [Act.put, List.getElem_toArray, List.getElem_cons_succ, List.getElem_cons_zero, List.setIfInBounds_toArray, List.set_cons_zero, List.set_cons_succ]
                refine wpAnyH_take (i := 28) (v := ?_) rfl (by kernel_rfl) (by kernel_rfl) (by kernel_rfl) (fun _ _ _ h => h) (Or.inl ⟨by rfl, ?_⟩) (by assumption) ?_
                rotate_left
                · (intro w hSw; (try dsimp only at hSw); go_simp; try with_reducible rfl)
                try simp only [Act.put, List.getElem_toArray, List.getElem_cons_succ, List.getElem_cons_zero, List.setIfInBounds_toArray, List.set_cons_zero, List.set_cons_succ]
                refine wpAnyH_take (i := 29) (v := ?_) rfl (by kernel_rfl) (by kernel_rfl) (by kernel_rfl) (fun _ _ _ h => h) (Or.inl ⟨by rfl, ?_⟩) (by assumption) ?_
                rotate_left
                · (intro w hSw; (try dsimp only at hSw); go_simp; try with_reducible rfl)
                try simp only [Act.put, List.getElem_toArray, List.getElem_cons_succ, List.getElem_cons_zero, List.setIfInBounds_toArray, List.set_cons_zero, List.set_cons_succ]
                refine wpAnyH_done (by kernel_rfl) ?_ _
                go_wp2_with fail
                go_meet
                exact ⟨rfl, hHeld4⟩
              case rest =>
                obtain ⟨rfl, hcT⟩ := hcut
                have HTC := Lib.hid hcT
                clear hcT HPLC HDN HSM hbx
                go_wp2_with fail
                go_loopw [15] (fun gv wz => ∃ y : Nat, y ≤ 10 ∧ gv = .int .i64 ((y : Int) - 1) ∧ Frm.Turn [] w6 wz) (fun gv _ => (9 - intOf gv).toNat)
                case atStart => exact ⟨0, by omega, by simp, HTC.out⟩
                case round =>
                  obtain ⟨y, hy, rfl, hT⟩ := hrel
                  have HTY := Lib.hid hT
                  obtain ⟨q0, -, -, -, -⟩ := HCC.out wr hT
                  by_cases hlt : y < 10
                  · have HLY := Lib.hid hlt
                    by_cases hy0 : y = 0
                    · subst hy0
                      have e1 : ((0 : Nat) : Int) - 1 = -1 := by omega
                      rw [e1]
                      have HSG := Lib.hid (seg_out (r := r) (-1) (by omega) (by omega) (by omega) wr)
                      clear hT hy hlt e1
                      go_wp2_with (go_at_call 38; (with_reducible refine (HSG.out).mono ?_); rintro e11 w11 ⟨rfl, rfl⟩)
                      refine ⟨⟨1, by omega, by simp, HTY.out⟩, ?_⟩
                      simp [intOf]
                    · obtain ⟨x, rfl⟩ : ∃ x, y = x + 1 := ⟨y - 1, by omega⟩
                      have e1 : ((x + 1 : Nat) : Int) - 1 = (x : Int) := by omega
                      rw [e1]
                      by_cases hx8 : x < 8
                      · have HSG := Lib.hid (seg_in (HCO.out wr hT) hx8)
                        rw [← HMT.out] at HSG
                        have hgx : wr.cell? ⟨gb, 1 + x, none⟩ = some (.int .u64 (sv mT x)) := by
                          have h : wr.heap[gb]? = some (.cells (gotO (.slice va lT.length vc) mT) 87) := (HS6.out.still hT).on (blkP gb (.cells (gotO (.slice va lT.length vc) mT) 87)) (by simp)
                          rw [Frm.cell_row _ _ _ _ _ _ h]
                          exact got_seg _ _ hx8
                        have x0 : (0 : Int) ≤ (x : Int) := by omega
                        have x8 : (x : Int) < 8 := by omega
                        have x9 : (x : Int) < 9 := by omega
                        have hx8n := hx8
                        clear hT hy hlt e1 hy0
                        generalize sv mT x = sx at HSG hgx
                        go_wp2_with (go_at_call 38; (with_reducible refine (HSG.out).mono ?_); rintro e11 w11 ⟨rfl, rfl⟩)
                        refine ⟨⟨x + 1 + 1, by omega, by simp, HTY.out⟩, ?_⟩
                        simp [intOf]; omega
                      · obtain rfl : x = 8 := by omega
                        have HSG := Lib.hid (seg_out (r := r) 8 (by omega) (by omega) (by omega) wr)
                        have e8 : ((8 : Nat) : Int) = 8 := rfl
                        rw [e8]
                        clear hT hy hlt e1 hy0 hx8
                        go_wp2_with (go_at_call 38; (with_reducible refine (HSG.out).mono ?_); rintro e11 w11 ⟨rfl, rfl⟩)
                        refine ⟨⟨10, by omega, by simp, HTY.out⟩, ?_⟩
                        simp [intOf]
                  · obtain rfl : y = 10 := by omega
                    have e1 : ((10 : Nat) : Int) - 1 = 9 := by omega
                    rw [e1]
                    have hPE : PlR w b mb cb sb ib kh n ohs (8 + 10 * (j + 1)) wr := by
                      have hs := HSP.out
                      have hst := tiedO_step hs.tie hs.fit hs.seg HPH.out
                      refine PlS.toR (p := p) (C := T) (E := E4) (f := f) ⟨(HS6.out.still hT).drop, ?_, HFT.out, hs.tie', hs.fit', ?_, ?_, (acc_seg (Nat.le_refl 4) hs.fit hs.seg).1⟩ HP2.out ?_
                      · rw [HE4.out.2.2, HLL.out, HT.out]; exact hst
                      · rw [HE4.out.2.2, HLL.out, List.length_append, List.length_singleton]; have := hs.len; omega
                      · have := hs.len'; omega
                      · have := HK.out; omega
                    have HPE := Lib.hid hPE
                    clear hT hy hlt e1 hPE HS6 HCC HCO
                    go_wp2_with fail
                    refine ⟨⟨j + 1, HLT.out, by simp, HPE.out⟩, ?_⟩
                    have := HLT.out
                    simp [intOf]; omega
        · have hp2' : ¬ (p : Int) < 2 := by omega
          obtain ⟨A, k, CM, GM, r, r', e, e', C, C', v, v', E, E', X, X', l, l', G, G', inn, f, P, hS, hk⟩ := hrel
          have HK := Lib.hid hk
          obtain ⟨q, HQ⟩ : ∃ q : Nat, Hid (p = q + 2) := ⟨p - 2, Lib.hid (by omega)⟩
          have hqn : q < n := by have := HPN.out; have := HQ.out; omega
          have HQN := Lib.hid hqn
          have q0 : (0 : Int) ≤ (q : Int) := by omega
          have q12 : (q : Int) ≤ 12 := by have := HN12.out; omega
          have q1 : (q : Int) < (n : Int) := by omega
          have e1 : (p : Int) - 2 = (q : Int) := by have := HQ.out; omega
          have e1' : IntKind.i64.wrap (q : Int) = (q : Int) := by rw [IntKind.wrap_i64]; omega
          rcases HB1.out with e0 | ⟨ga1, gc1, e0, hcell1⟩
          · omega
          cases e0
          obtain ⟨s, HSL⟩ : ∃ s : Nat, Hid (z1 q % 15 = (s : Int)) := ⟨(z1 q % 15).toNat, Lib.hid (by have := HZ1.out q hqn; omega)⟩
          have HS15 : Hid (s < 15) := Lib.hid (by have := HSL.out; omega)
          have hcq := hS.st.kin.turn.cell (hcell1 q hqn) (by simp)
          obtain ⟨zq, HZQ⟩ : ∃ z, Hid (z = z1 q) := ⟨_, Lib.hid rfl⟩
          rw [← HZQ.out] at hcq
          have HPC := Lib.hid (fun (W : World) (hT : Frm.Turn [] wr W) => place13 (n := 4) (kh := kh) (c := kc) s zq W (by rw [HZQ.out]; exact HSL.out) (by rw [HZQ.out]; exact (HZ1.out q hqn).1) (by rw [HZQ.out]; exact (HZ1.out q hqn).2) (sg15 HS15.out) (by omega) (HO.out W (hT.keep (hS.st.on (blkP kh ohs) (by simp)) (by simp))))
          have HEN := Lib.hid (fun W => enterC_any (b := b) (Cnt.hS (sgN s)) s W (by have := HS15.out; omega))
          have HEX := Lib.hid (fun W => exitC_any (b := b) (Cnt.hS (sgN s)) s 0 9 W (by have := HS15.out; omega) (by omega) (by omega) (by omega) (by omega))
          have HKN : Hid (min (0 : Int).toNat (kN s) = 0 ∧ min (9 : Int).toNat (kN s) = kN s) := Lib.hid (by have := kn15 HS15.out; exact ⟨by omega, by simp; omega⟩)
          have HST := Lib.hid hS.st
          have HFT := Lib.hid (And.intro hS.tie (And.intro hS.fit (And.intro hS.tie' (And.intro hS.fit' (And.intro hS.len (And.intro hS.len' hS.seg))))))
          have hib : ∀ W, Frm.Turn [] wr W → W.cell? ⟨ib, q, none⟩ = some (.bool (inn q)) ∧ W.frozen? ⟨ib, q, none⟩ = false := fun W hT => cell_of (show W.heap[ib]? = some (.cells (bools inn n).toArray 4 (0, 0)) from hT.keep (hS.st.on (blkP ib (oBools inn n)) (by simp)) (by simp)) (row_get (g := fun i => .bool (inn i)) hqn)
          have HIB := Lib.hid hib
          obtain ⟨hs, HHS⟩ : ∃ x : Int, Hid (x = Cnt.hS (sgN s)) := ⟨_, Lib.hid rfl⟩
          rw [← HHS.out] at HPC HEN HEX
          have HTW := Lib.hid (Frm.Turn.refl [] wr)
          have s0 : (0 : Int) ≤ (s : Int) := by omega
          clear hS hk hqn hcell1 hp2 hib
          go_upto_if 168 with (first
            | (go_at_call 39; (with_reducible refine (HPC.out _ HTW.out).mono ?_); rintro e w2 ⟨rfl, hT⟩; have HT2 := Lib.hid hT; have HSP := Lib.hid (sta_blk (HST.out.still hT) (.cells #[.int .u64 hs, .int .i64 s] 46) (fun W => World.alloc_heap_new W _)); have hp2 := World.alloc_heap_new w2 (.cells #[.int .u64 hs, .int .i64 s] 46); have p0 := (Frm.cell_row _ _ 0 _ _ _ hp2).trans rfl; have p1 := (Frm.cell_row _ _ 1 _ _ _ hp2).trans rfl; clear hp2 hT)
            | (go_at_call 40; (with_reducible refine (HEN.out _).mono ?_); rintro e w3 ⟨rc, qc, rfl, hM⟩; have HM3 := Lib.hid hM; have hT3 := hM.2.2.2.2.2.2; obtain ⟨i0, -⟩ := HIB.out _ ((HT2.out.alloc _).trans hT3 (by simp)); clear hM hT3))
          have HSP3 := Lib.hid (sta_made HSP.out HM3.out)
          have HM3T := Lib.hid HM3.out.2.2.2.2.2.2
          obtain ⟨pb, HPB⟩ : ∃ x, Hid (x = w2.heap.size) := ⟨_, Lib.hid rfl⟩
          rw [← HPB.out] at HSP HSP3 p0 p1 ⊢
          have hTa : Frm.Turn [] wr w3 := (HT2.out.alloc _).trans HM3.out.2.2.2.2.2.2 (by simp)
          have HTA := Lib.hid hTa
          have hp3 : w3.heap[pb]? = some (.cells #[.int .u64 hs, .int .i64 s] 46 (0, 0)) := HSP3.out.1.on (blkP pb (.cells #[.int .u64 hs, .int .i64 s] 46)) (by simp)
          have p0 := (Frm.cell_row _ _ 0 _ _ _ hp3).trans rfl
          have p1 := (Frm.cell_row _ _ 1 _ _ _ hp3).trans rfl
          clear hTa hp3 HEN HPC HST
          go_cut [18, 19] (fun s18 s19 W2 => ∃ (d : Int) (rc qc : Nat), s18 = .int .u64 d ∧ s19 = .pointer (some ⟨rc, 0, none⟩) ∧ W64 d ∧ rc ≠ qc ∧ Frm.Turn [] wr W2 ∧ Stash w b A k (ctP rc b qc ⟨hs, s, 0, kN s, d⟩ :: blkP pb (.cells #[.int .u64 hs, .int .i64 s] 46) :: [coP w.heap.size r b C v, enP e E X l G, coP w.heap.size r' b C' v', enP e' E' X' l' G', mP mb A CM GM, blkP cb (oI 80 0 r r'), blkP sb (oI 52 0 e e'), blkP ib (oBools inn n), blkP kh ohs, P]) W2)
          case first =>
            cases hin : inn q with
            | false =>
              rw [hin] at i0
              go_wp2_with fail
              go_meet
              exact ⟨1, rc, qc, rfl, rfl, by unfold W64; omega, HSP3.out.2, HTA.out, HSP3.out.1⟩
            | true =>
              rw [hin] at i0
              go_wp2_with (go_at_call 41; (with_reducible refine (HEX.out _).mono ?_); rintro e w4 ⟨r2, q2, rfl, hM⟩; have HM4 := Lib.hid hM; clear hM)
              go_meet
              have hz := HM4.out
              rw [HKN.out.1, HKN.out.2] at hz
              have hS4 := sta_made (HSP.out.still HM3T.out) hz
              exact ⟨18446744073709551615, r2, q2, rfl, rfl, by unfold W64; omega, hS4.2, HTA.out.trans hz.2.2.2.2.2.2 (by simp), hS4.1⟩
          case rest =>
            obtain ⟨d, rc, qc, rfl, rfl, hd, hrq, hTc, hSc⟩ := hcut
            have HSC := Lib.hid hSc
            have HDD := Lib.hid (And.intro hd hrq)
            obtain ⟨i0, i1⟩ := HIB.out _ hTc
            clear hd hrq hTc hSc HSP3 HM3 HSP HM3T HTA HEX HKN HIB HTW p0 p1
            go_upto_region 37 with fail
            have hSI := sta_poke (i := q) (.bool (!inn q)) (show Stash w b A k (blkP ib (.cells (bools inn n).toArray 4) :: _) wc from HSC.out.bring9)
            rw [bools_put inn (!inn q) HQN.out] at hSI
            have HSJ := Lib.hid (Stash.sink9 hSI)
            clear hSI HSC i0 i1
            generalize World.setCell wc _ _ = wd at HSJ ⊢
            go_upto_region 38 with (refine wpList_buildTo rfl 55 #[] rfl (some 182) rfl N24 (by simp only [List.map_toArray, List.map_cons, List.map_nil]; exact hb24) ?_)
            have HSE := Lib.hid (sta_fresh HSJ.out HN24.out)
            generalize World.alloc wd _ = we at HSE ⊢
            generalize wd.heap.size = e2 at HSE ⊢
            have HIN : Hid (InR w b mb rc qc e2 s d [blkP pb (.cells #[.int .u64 hs, .int .i64 s] 46), coP w.heap.size r b C v, enP e E X l G, coP w.heap.size r' b C' v', enP e' E' X' l' G', blkP cb (oI 80 0 r r'), blkP sb (oI 52 0 e e'), blkP ib (oBools (upd inn q (!inn q)) n), blkP kh ohs, P] k 0 we) := Lib.hid ⟨A, k, CM, GM, E00, _, _, _, f, by have h := HSE.out.bring7.swap.bring2; rw [HHS.out] at h ⊢; exact h, Nat.zero_le _, HFT.out.2.2.2.2.2.2, Nat.le_refl _, Nat.le_refl _⟩
            clear HSJ HSE wd
            go_wp2_with fail
            go_loopw [184] (fun i wz => ∃ y : Nat, y ≤ 9 ∧ i = .int .i64 y ∧ InR w b mb rc qc e2 s d [blkP pb (.cells #[.int .u64 hs, .int .i64 s] 46), coP w.heap.size r b C v, enP e E X l G, coP w.heap.size r' b C' v', enP e' E' X' l' G', blkP cb (oI 80 0 r r'), blkP sb (oI 52 0 e e'), blkP ib (oBools (upd inn q (!inn q)) n), blkP kh ohs, P] k y wz) (fun i _ => 9 - (intOf i).toNat)
            case atStart => exact ⟨0, Nat.zero_le _, rfl, HIN.out⟩
            case round =>
              obtain ⟨y, hy, rfl, hin⟩ := hrel
              clear HIN
              have y0' : (0 : Int) ≤ (y : Int) := by omega
              have y9' : (y : Int) ≤ 9 := by omega
              by_cases hlt : y < 9
              · have h1 : (y : Int) < 9 := by omega
                have HLY := Lib.hid hlt
                obtain ⟨A1, k1, CM1, GM1, E1, X1, l1, G1, f1, S1, hl1, I1, hk0, hk1⟩ := hin
                clear hlt hy
                have HK1 := Lib.hid (And.intro hl1 (And.intro I1 (And.intro hk0 hk1)))
                have hlim := sta_lim S1 (by have := HK.out; have := HM.out; have := HLT.out; omega)
                obtain ⟨D, hD⟩ : ∃ D : Ct, D = ⟨Cnt.hS (sgN s), s, E1.log.length, kN s, d⟩ := ⟨_, rfl⟩
                rw [← hD] at S1
                have hfit : D.Fit := by
                  rw [hD]
                  exact ⟨by have := HS15.out; show s < 255; omega, hS_64 (by have := sg15 HS15.out; omega), hS_ne _, Nat.le_refl _, hl1, HDD.out.1⟩
                have HST := Lib.hid (sta_count S1 (by have := HK.out; have := HM.out; have := HLT.out; omega) HDD.out.2 hfit)
                have HDC := Lib.hid hD
                have HLI := Lib.hid hlim
                have HSQ := Lib.hid (ct_seg hD HS15.out I1)
                have HCO := Lib.hid (ct_out (A := A1) hD hl1)
                clear S1 hl1 I1 hk0 hk1 hD hfit hlim
                go_upto_region 44 with (first
                  | (go_at_call 42; (with_reducible refine (HST.out).mono ?_); rintro e w2 ⟨rfl, hS2⟩; have HM2 := Lib.hid (mp_row (mb := mb) (B := A1) (CM := CM1) (GM := GM1) hS2 (by simp)); have HBG := Lib.hid (sta_begin (mb := mb) (B := A1) (CM := CM1) (GM := GM1) hS2.swap (by simp)); have HL2 := Lib.hid (sta_lim hS2 (by have := HK.out; have := HM.out; have := HLT.out; have := HK1.out.2.2.2; have := HLY.out; omega)); clear hS2)
                  | (refine wpList_load_row rfl 37 (.tmp 6) rfl mb rfl 37 CM1 (0, 0) (.struct fs) HM2.out.1 HFS.out rfl (by rw [HM2.out.2.1]; exact info_refA) ?_)
                  | (go_at_call 15; (with_reducible refine (HBG.out).mono ?_); rintro e w3 ⟨rfl, hS3⟩; have hp3 : w3.heap[pb]? = some (.cells #[.int .u64 hs, .int .i64 s] 46 (0, 0)) := hS3.on (blkP pb (.cells #[.int .u64 hs, .int .i64 s] 46)) (by simp); have p0 := (Frm.cell_row _ _ 0 _ _ _ hp3).trans rfl; have p1 := (Frm.cell_row _ _ 1 _ _ _ hp3).trans rfl; rw [plc_begin E1 A1 (D.step A1).1 (ctR A1 (Cnt.hS (sgN s)) s d E1.log)] at hS3; have HRN := Lib.hid (sta_runC hS3 HDC.out HK1.out.1 HS15.out HLI.out.1 HL2.out.1 HLI.out.2 HL2.out.2); rw [← HHS.out] at HRN; clear hS3 hp3)
                  | (go_at_call 43; (with_reducible refine (HRN.out).mono ?_); rintro e w4 ⟨x4, y4, E4, X4, l4, G4, rfl, hA4, hL4, hT4, hS4⟩; have HS4 := Lib.hid hS4; have HA4 := Lib.hid (And.intro hA4 hL4); have HM4 := Lib.hid (mp_row (mb := mb) (B := A1) (CM := CM1) (GM := GM1) hS4 (by simp)); have HE4 := Lib.hid (show EnAt w4 e2 E4 X4 l4 G4 from hS4.on _ (List.mem_cons_self ..)); clear hA4 hL4 hT4 hS4)
                  | (refine wpList_load_mid rfl 37 (.tmp 197) rfl e2 0 rfl X4.toList (.struct fs) HE4.out.range HFS.out rfl (by rw [Array.length_toList, HE4.out.size]; exact info_refA) ?_; rw [Array.toArray_toList])
                  | (refine wpList_store_row rfl 37 (.tmp 6) (.tmp 198) rfl mb X4 rfl rfl 37 CM1 HM4.out.1 (by rw [HE4.out.size]; exact info_refA) (by rw [HE4.out.size, HM4.out.2.1]) HE4.out.one ?_))
                have hS5 := sta_put (eb := e2) (E' := E4) (CE := X4) (le := l4) (GE := G4) HS4.out.bring2 (by simp) (by rw [HE4.out.size, HM4.out.2.1])
                rw [HA4.out.1] at hS5
                have hS6 := hS5.swap.bring2
                obtain ⟨f2, I2⟩ := HSQ.out
                obtain ⟨c1, c2, c3, c4⟩ := HCO.out
                rw [c3, ← HA4.out.2] at hS6
                have HIE : Hid (InR w b mb rc qc e2 s d [blkP pb (.cells #[.int .u64 hs, .int .i64 s] 46), coP w.heap.size r b C v, enP e E X l G, coP w.heap.size r' b C' v', enP e' E' X' l' G', blkP cb (oI 80 0 r r'), blkP sb (oI 52 0 e e'), blkP ib (oBools (upd inn q (!inn q)) n), blkP kh ohs, P] k (y + 1) (w4.setRow mb X4)) := Lib.hid ⟨_, _, _, _, E4, _, _, _, f2, hS6, by rw [HA4.out.2]; exact c4, I2, by have := HK1.out.2.2.1; omega, by have := HK1.out.2.2.2; omega⟩
                clear hS5 hS6 I2 c1 c2 c3 c4
                generalize w4.setRow mb X4 = w5 at HIE ⊢
                go_wp2_with fail
                refine ⟨⟨y + 1, HLY.out, by simp, HIE.out⟩, ?_⟩
                have := HLY.out
                simp [intOf]; omega
              · obtain rfl : y = 9 := by omega
                have h1 : ¬ ((9 : Nat) : Int) < 9 := by omega
                have HIN := Lib.hid hin
                clear hin hlt hy
                go_wp2_with fail
                obtain ⟨A1, k1, CM1, GM1, E1, X1, l1, G1, f1, S1, hl1, I1, hk0, hk1⟩ := HIN.out
                obtain ⟨t1, t2, t3, t4, t5, t6, t7⟩ := HFT.out
                refine ⟨⟨j + 1, HLT.out, by simp, PlS.toR (p := 0) ⟨S1.drop.drop.swap.drop.sink4, t1, t2, t3, t4, ?_, ?_, I1⟩ (by omega) ?_⟩, ?_⟩
                · omega
                · omega
                · have := HK.out; omega
                · have := HLT.out
                  simp [intOf]; omega
      · obtain rfl : j = m := by omega
        have h1 : ¬ (j : Int) < (j : Int) := by omega
        have hT0 : Frm.Turn [] w wr := by obtain ⟨A, k, CM, GM, r, r', e, e', C, C', v, v', E, E', X, X', l, l', G, G', inn, f, P, h, hk⟩ := hrel; exact h.st.kin.turn
        have HT0 := Lib.hid hT0
        clear hlt hj hrel hT0
        go_wp2_with (first
          | (go_at_call 34; (with_reducible refine (stepO_nil _).mono ?_); rintro e w2 ⟨rfl, rfl⟩)
          | (go_at_call 33; (with_reducible refine (doneO_nil _).mono ?_); rintro e w2 ⟨rfl, rfl⟩)
          | (go_at_call 37; (with_reducible refine (places_nil _).mono ?_); rintro e w2 ⟨rfl, rfl⟩)
          | (go_at_call 38; (with_reducible refine (seg_nil 0 _).mono ?_); rintro e w2 ⟨rfl, rfl⟩))
        go_ret
        exact ⟨rfl, HT0.out⟩
end Col
end Go.Proofs.YtfbnidjcimcfoaaGreat
