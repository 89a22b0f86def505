/- Copies of an arena's blocks; its Clone. -/
import Derived.Test.YtlghinjggkgfmaaGreatArenaFree
import Derived.Test.YtlghinjggkgfmaaGreatLeastClone
import Derived.Maps.RangeWalk
set_option linter.unusedVariables false
set_option linter.unusedSimpArgs false
namespace Go.Proofs.YtlghinjggkgfmaaGreat
namespace Arn
open Go.RowKit Hp Go.Maps

theorem run_makeMap_n (n : Int) (w : World) : (Instr.makeMap 157 (some (.int .i64 n))).run Tryz.prog w = .ok (.map (some w.heap.size)) (w.alloc (.map #[] 0)) := by
  simp [Instr.makeMap, run_underlying mapU, asInt, asIntOf, go_sem]
/-- On the way: those blocks that have come stand in the new map m', each in a row of its own. -/
structure Cop (w : World) (L : List Blk) (m' : Nat) (left : Lit → Bool) (q : Nat → Row) (D' : DataW Unit) (wr : World) : Prop where
  own : wr.ownsMap Tryz.prog 25 hdr m' (Maps.size D') D'
  has : ∀ k : Int, Maps.has D' (.int .u64 k) = (hasH L k && !left (.int .u64 k))
  at_ : ∀ (i : Nat) (x : Blk), L[i]? = some x → left (.int .u64 x.h) = false → RowOk wr (q i) x ∧ w.heap.size ≤ (q i).g ∧ ∀ z, D'.atKey (.int .u64 x.h) z = hdat (q i).g x.ws.length (q i).c
  apart : ∀ (i j : Nat) (x y : Blk), L[i]? = some x → L[j]? = some y → left (.int .u64 x.h) = false → left (.int .u64 y.h) = false → i ≠ j → (q i).g ≠ (q j).g
  turn : Frm.Turn [] w wr
theorem Cop.turn' {w wr wr' : World} {L : List Blk} {m' : Nat} {left : Lit → Bool} {q : Nat → Row} {D' : DataW Unit} {F : List Nat} (h : Cop w L m' left q D' wr) (ht : Frm.Turn F wr wr') (hm : m' ∉ F) (hq : ∀ (i : Nat) (x : Blk), L[i]? = some x → left (.int .u64 x.h) = false → (q i).g ∉ F) (hw : ∀ k, k ∈ F → w.heap.size ≤ k) : Cop w L m' left q D' wr' :=
  ⟨Lst.own_turn h.own ht hm, h.has, fun i x hx hl => ⟨(h.at_ i x hx hl).1.turn ht (hq i x hx hl), (h.at_ i x hx hl).2⟩, h.apart, h.turn.trans ht (fun k hk => Or.inr (hw k hk))⟩
theorem mem_iff_hasH {L : List Blk} {k : Int} : hasH L k = true ↔ ∃ (i : Nat) (x : Blk), L[i]? = some x ∧ x.h = k := by
  rw [hasH_iff]
  constructor
  · rintro ⟨x, hx, e⟩
    obtain ⟨i, hi⟩ := List.getElem?_of_mem hx
    exact ⟨i, x, hi, e⟩
  · rintro ⟨i, x, hx, e⟩
    exact ⟨x, List.mem_of_getElem? hx, e⟩
def setF (q : Nat → Row) (j : Nat) (r : Row) : Nat → Row := fun i => if i = j then r else q i
/-- One more has come. -/
theorem Cop.step {w wr w3 w4 : World} {L : List Blk} {m' j g' c' : Nat} {left : Lit → Bool} {q : Nat → Row} {D' : DataW Unit} {x : Blk} (h : Cop w L m' left q D' wr) (hi : ∀ a b, a ∈ L → b ∈ L → a.h = b.h → a = b) (hnd : ∀ (i k : Nat) (a b : Blk), L[i]? = some a → L[k]? = some b → a.h = b.h → i = k) (hx : L[j]? = some x)
    (ho : w3.ownsRow 0 25 1 (.slice (some ⟨g', 0, none⟩) x.ws.length c') x.ws.length (u64s x.ws)) (hg : wr.heap.size ≤ g') (T : Frm.Turn [] wr w3) {n : Nat}
    (ho4 : w4.ownsMap Tryz.prog 25 hdr m' n (D'.put (.int .u64 x.h) (hdat g' x.ws.length c'))) (G : w3.grownBy w4 (some m')) (hm : w.heap.size ≤ m') :
    Cop w L m' (fun z => left z && !z.sameKey (.int .u64 x.h)) (setF q j ⟨x.h, g', c'⟩) (D'.put (.int .u64 x.h) (hdat g' x.ws.length c')) w4 := by
  have hT4 := Frm.Turn.of_grown G
  have hml : m' < wr.heap.size := h.own.lt
  have lf : ∀ k : Int, ((left (.int .u64 k) && !(Lit.int .u64 k).sameKey (.int .u64 x.h)) = false) ↔ (left (.int .u64 k) = false ∨ k = x.h) := fun k => by
    by_cases e : k = x.h
    · subst e
      have : (Lit.int .u64 x.h).sameKey (.int .u64 x.h) = true := WideAt.sameKey_self trivial
      simp [this]
    · have : (Lit.int .u64 k).sameKey (.int .u64 x.h) = false := sameKey_ne (by simpa using e)
      simp [this, e]
  have s1 := h.turn.size
  have s3 := T.size
  have old : ∀ (i : Nat) (y : Blk), L[i]? = some y → left (.int .u64 y.h) = false → i ≠ j → RowOk w4 (q i) y ∧ (q i).g ≠ g' := fun i y hy hl hne => by
    have ha := h.at_ i y hy hl
    have hlt := (World.ownsRow.lt ha.1.own (q i).g rfl).2
    refine ⟨(ha.1.turn T (by simp)).turn hT4 ?_, by omega⟩
    simp
    intro e
    obtain ⟨es, clock, hb, _⟩ := h.own
    rcases ha.1.own.2 with ⟨e', _⟩ | ⟨g, cap, cur, e', _, hb', _⟩
    · cases e'
    · cases e'
      rw [e, hb] at hb'; cases hb'
  have new : RowOk w4 ⟨x.h, g', c'⟩ x := ⟨rfl, Frm.owns_turn ho hT4 (fun k hk => by simp [Value.ownBlock] at hk; subst hk; simp; omega)⟩
  refine ⟨Lst.own_tight ho4, fun k => ?_, fun i y hy hl => ?_, fun i k y z hy hz hl hl' hne => ?_, (h.turn.trans T (by simp)).trans hT4 (fun k hk => by simp at hk; subst hk; exact Or.inr hm)⟩
  · by_cases e : k = x.h
    · subst e
      rw [has_put_same h.own.isMap (k := .int .u64 x.h) trivial]
      have h1 : hasH L x.h = true := mem_iff_hasH.2 ⟨j, x, hx, rfl⟩
      have h2 := (lf x.h).2 (Or.inr rfl)
      rw [h1, h2]; rfl
    · rw [has_put_other (by simpa using e), h.has]
      have : (Lit.int .u64 k).sameKey (.int .u64 x.h) = false := sameKey_ne (by simpa using e)
      simp [this]
  · unfold setF
    by_cases e : i = j
    · subst e
      rw [hx] at hy; cases hy
      rw [if_pos rfl]
      exact ⟨new, by show _ ≤ g'; omega, fun z => atKey_put_same h.own.isMap (k := .int .u64 x.h) trivial _ _⟩
    · rw [if_neg e]
      have hne : y.h ≠ x.h := fun e' => e (hnd i j y x hy hx e')
      rcases (lf y.h).1 hl with hl | hl
      · obtain ⟨o1, o2⟩ := old i y hy hl e
        have ha := h.at_ i y hy hl
        refine ⟨o1, ha.2.1, fun z => ?_⟩
        rw [atKey_put_other (by simpa using hne)]
        exact ha.2.2 z
      · exact absurd hl hne
  · unfold setF
    by_cases e : i = j
    · have e' : k ≠ j := fun e' => hne (by rw [e, e'])
      rw [if_pos e, if_neg e']
      rcases (lf z.h).1 hl' with hl' | hl'
      · exact fun e2 => (old k z hz hl' e').2 e2.symm
      · exact absurd (hnd k j z x hz hx hl') e'
    · rw [if_neg e]
      rcases (lf y.h).1 hl with hl | hl
      · by_cases e' : k = j
        · rw [if_pos e']
          exact (old i y hy hl e).2
        · rw [if_neg e']
          rcases (lf z.h).1 hl' with hl' | hl'
          · exact h.apart i k y z hy hz hl hl' hne
          · exact absurd (hnd k j z x hz hx hl') e'
      · exact absurd (hnd i j y x hy hx hl) e
theorem ArAt.inj {w : World} {b : Nat} {M : Mem} {A : Ar} (h : ArAt w b M A) : ∀ (i k : Nat) (x y : Blk), A.L[i]? = some x → A.L[k]? = some y → x.h = y.h → i = k := fun i k x y hx hy e => by
  rcases Nat.lt_trichotomy i k with e1 | e1 | e1
  · have := rise_get h.ok.rise hx hy e1; omega
  · exact e1
  · have := rise_get h.ok.rise hy hx e1; omega

/-- The copies: a map of those blocks, whose rows are new. -/
structure Copied (w : World) (m' : Nat) (B' : List Row) (L : List Blk) (w' : World) : Prop where
  map : ∃ D, MapAt w' m' B' L D
  rows : B'.length = L.length ∧ ∀ (i : Nat) (r : Row) (x : Blk), B'[i]? = some r → L[i]? = some x → RowOk w' r x
  new : ∀ k, k ∈ B'.map Row.g → w.heap.size ≤ k
  newm : w.heap.size ≤ m'
  apart : (m' :: B'.map Row.g).Nodup
  turn : Frm.Turn [] w w'
theorem Copied.of {w wr : World} {L : List Blk} {m' : Nat} {left : Lit → Bool} {q : Nat → Row} {D' : DataW Unit} (h : Cop w L m' left q D' wr) (hl : ∀ k, left k = false) (hm : w.heap.size ≤ m') (hs : Maps.size D' = L.length) : Copied w m' ((List.range L.length).map q) L wr := by
  have get : ∀ (i : Nat) (r : Row), ((List.range L.length).map q)[i]? = some r → i < L.length ∧ r = q i := fun i r hr => by
    rw [List.getElem?_map] at hr
    obtain ⟨a, ha, rfl⟩ := Option.map_eq_some_iff.1 hr
    obtain ⟨hlt, e⟩ := List.getElem?_eq_some_iff.1 ha
    rw [List.getElem_range] at e
    subst e
    exact ⟨by simpa using hlt, rfl⟩
  have mem : ∀ k, k ∈ ((List.range L.length).map q).map Row.g → ∃ i, i < L.length ∧ k = (q i).g := fun k hk => by
    simp at hk
    obtain ⟨a, ha, rfl⟩ := hk
    exact ⟨a, ha, rfl⟩
  refine ⟨⟨D', ⟨h.own, hs, fun k => by rw [h.has, hl]; simp, fun i r x hr hx z => ?_⟩⟩, ⟨by simp, fun i r x hr hx => ?_⟩, fun k hk => ?_, hm, ?_, h.turn⟩
  · obtain ⟨_, rfl⟩ := get i r hr
    have := h.at_ i x hx (hl _)
    rw [this.1.h]; exact this.2.2 z
  · obtain ⟨_, rfl⟩ := get i r hr
    exact (h.at_ i x hx (hl _)).1
  · obtain ⟨i, hi, rfl⟩ := mem k hk
    exact (h.at_ i _ (List.getElem?_eq_getElem hi) (hl _)).2.1
  · refine List.nodup_cons.2 ⟨fun hc => ?_, ?_⟩
    · obtain ⟨i, hi, e⟩ := mem _ hc
      have ha := (h.at_ i _ (List.getElem?_eq_getElem hi) (hl _)).1
      obtain ⟨es, clock, hb, _⟩ := h.own
      rcases ha.own.2 with ⟨e', _⟩ | ⟨g, cap, cur, e', _, hb', _⟩
      · cases e'
      · cases e'
        rw [← e, hb] at hb'; cases hb'
    · rw [List.map_map, List.Nodup, List.pairwise_map]
      refine List.Pairwise.imp_of_mem ?_ (List.nodup_range (n := L.length))
      intro a c ha hc hne
      have ha := List.mem_range.1 ha
      have hc := List.mem_range.1 hc
      exact h.apart a c _ _ (List.getElem?_eq_getElem ha) (List.getElem?_eq_getElem hc) (hl _) (hl _) hne

theorem count_one {x : Blk} {p p' : Blk → Bool} (h0 : p x = false) : ∀ (l : List Blk), l.Pairwise (fun a b => a.h ≠ b.h) → x ∈ l → (∀ y, y ∈ l → p' y = (p y || y.h == x.h)) → l.countP p' = l.countP p + 1 := by
  intro l
  induction l with
  | nil => intro _ hx; simp at hx
  | cons y t ih =>
    intro hnd hx hp
    obtain ⟨n1, n2⟩ := List.pairwise_cons.1 hnd
    rw [List.countP_cons, List.countP_cons]
    rcases List.mem_cons.1 hx with rfl | hx
    · have e1 : p' x = true := by rw [hp x (by simp)]; simp
      have e2 : t.countP p' = t.countP p := List.countP_congr (fun z hz => by
        rw [hp z (by simp [hz])]
        have : (z.h == x.h) = false := by simpa using fun e => n1 z hz e.symm
        rw [this, Bool.or_false])
      rw [e1, e2, h0]; simp
    · have e1 : p' y = p y := by
        rw [hp y (by simp)]
        have : (y.h == x.h) = false := by simpa using n1 x hx
        rw [this, Bool.or_false]
      rw [ih n2 hx (fun z hz => hp z (by simp [hz])), e1]; omega
theorem grown_of {w w' : World} (h : Frm.Turn [] w w') : w.grownBy w' none := ⟨h.os, h.tape, h.output, h.size, fun k hk _ => h.block k hk (by simp)⟩
def CopRel (w : World) (b m' r : Nat) (M : Mem) (L : List Blk) (D : DataW Unit) (wr : World) : Prop :=
  ∃ (left : Lit → Bool) (cnt : Nat) (q : Nat → Row) (D' : DataW Unit), wr.ranges Tryz.prog 25 hdr M.m r (Maps.size D) D left cnt ∧ Cop w L m' left q D' wr ∧ Maps.size D' = L.countP fun y => !left (.int .u64 y.h)

theorem copies_nil (w : World) : Calls Tryz.prog 147 #[.pointer none] w fun e w' => e = .returned (.map none) ∧ w = w' := by
  go_enter Tryz.func147, Tryz.ntmps147
  go_wp2
  go_ret
  exact ⟨rfl, rfl⟩
attribute [local go_sem ↓] Go.wp_at_zero Go.wp_at_succ
set_option maxRecDepth 100000 in
set_option maxHeartbeats 4000000 in
theorem copies_any {w : World} {b : Nat} {M : Mem} {A : Ar} (h : ArAt w b M A) :
    Calls Tryz.prog 147 #[.pointer (some ⟨b, 0, none⟩)] w fun e w' => ∃ m' B', e = .returned (.map (some m')) ∧ Copied w m' B' A.L w' := by
  obtain ⟨D, hD⟩ := h.map
  have hc := h.cells.c11
  have hown := hD.own
  have hmk := run_makeMap_n
  have hbl := h.b_lt
  have H := Lib.hid h
  have HD := Lib.hid hD
  clear h hD
  go_enter Tryz.func147, Tryz.ntmps147
  go_wp2_with (first
    | (at_len; refine wpList_len_own _ rfl _ 157 rfl 25 24 mapU _ M.m _ D rfl hown ?_)
    | (at_range; refine wpList_range_own _ rfl _ 157 rfl 25 24 keyU mapU hdr M.m (Maps.size D) D rfl (hown.alloc _) ?_; intro w0 hrg0 hg0 hs0))
  go_frame
  have hstart : CopRel w b w.heap.size (w.heap.size + 1) M A.L D w0 := by
    rw [World.size_alloc] at hrg0
    refine ⟨_, _, fun _ => ⟨0, 0, 0⟩, .map [], hrg0, ⟨(World.ownsMap_made w Tryz.prog 25 hdr).kept hg0 (by simp), fun k => ?_, fun i x hx hl => ?_, fun i j x y hx hy hl _ _ => ?_, ((Frm.Turn.refl [] w).alloc _).trans (Frm.Turn.of_grown hg0) (by simp)⟩, ?_⟩
    · rw [HD.out.has]; cases hasH A.L k <;> rfl
    · rw [HD.out.has, mem_iff_hasH.2 ⟨i, x, hx, rfl⟩] at hl; cases hl
    · rw [HD.out.has, mem_iff_hasH.2 ⟨i, x, hx, rfl⟩] at hl; cases hl
    · show 0 = _
      symm
      rw [List.countP_eq_zero]
      intro y hy
      rw [HD.out.has, hasH_iff.2 ⟨y, hy, rfl⟩]; simp
  have HST := Lib.hid hstart
  clear hstart hrg0 hg0 hs0 hown hc
  rw [World.size_alloc]
  go_loopw [4] (fun _ wr => CopRel w b w.heap.size (w.heap.size + 1) M A.L D wr) (fun _ wr => wr.rangeLeft M.m (w.heap.size + 1))
  case atStart => exact HST.out
  case round =>
    obtain ⟨left, cnt, q, D', hrg, hC, hsz⟩ := hrel
    have HC := Lib.hid hC
    have HZ := Lib.hid hsz
    have HRG := Lib.hid hrg
    clear hC hsz
    go_wp2_with (at_next; refine wpList_next_ranges _ rfl _ rfl 25 keyU hdr (Value.int .u64) id (fun key kl hk => by obtain ⟨x, rfl, _⟩ := Maps.keyOf_int_inv under_u64 hk; exact ⟨x, rfl⟩) (fun v y hv => ⟨v, rfl⟩) M.m (w.heap.size + 1) (Maps.size D) D left cnt rfl hrg ?_ ?_)
    · intro hc0 hl0
      have hsz := HZ.out
      have hfin := Copied.of HC.out hl0 (Nat.le_refl _) (by rw [hsz]; rw [List.countP_eq_length]; intro y _; rw [hl0]; rfl)
      have HF := Lib.hid hfin
      clear hfin hsz hc0 hl0
      go_wp2
      go_ret
      exact ⟨_, _, rfl, HF.out⟩
    · intro x c kl yd yp w1 cnt1 hkey hlk hv hat hrg1 hlt hg1 hs1 hen
      obtain ⟨x', ex, rfl, hwx⟩ := Maps.keyOf_int_inv under_u64 hkey
      cases ex
      have hx64 := of_wf_u64 hwx
      have hhas : hasH A.L x = true := by rw [← HD.out.has]; exact has_true_of_atKey hat
      obtain ⟨j, r, xb, hr, hxb, hrh, hxh, hR⟩ := H.out.find_row hhas
      have hyd : yd = hdat r.g xb.ws.length r.c := by rw [← hat .nil, ← hrh]; exact HD.out.at_ j r xb hr hxb .nil
      rw [hyd] at hv
      have hcv : c = .slice (some ⟨r.g, 0, none⟩) xb.ws.length r.c := hdr_of hv
      have hrg : r.g < w.heap.size := H.out.lt r.g (by have := g_mem hr; simp only [Mem.foot, List.mem_cons, List.mem_append]; exact Or.inr (Or.inr (Or.inr this)))
      have T1 : Frm.Turn [w.heap.size + 1] wr w1 := by simpa using Frm.Turn.of_grown hg1
      have hR1 := (hR.turn HC.out.turn (by simp)).turn T1 (by simp; omega)
      have hxl := (H.out.ok.len xb (List.mem_of_getElem? hxb)).2
      have HCL := Lib.hid (show ∀ W, Frm.Turn [] w1 W → Calls Tryz.prog 61 #[c] W (CloneOf W xb.ws) from fun W hW => by
        rw [hcv]
        exact uclone_some ⟨r.g, 0, none⟩ r.c xb.ws W (fun j u hu => World.ownsRow.cells (hR1.turn hW (by simp)).own rfl j u hu) (by omega))
      have hC1 := HC.out.turn' T1 (by simp) (fun i y hy hl => by
        have hq := HC.out.at_ i y hy hl
        simp
        intro e
        obtain ⟨es, clock, since, seen, c0, _, _, _, _, hit, _⟩ := HRG.out
        rcases hq.1.own.2 with ⟨e', _⟩ | ⟨g, cap, cur, e', _, hb', _⟩
        · cases e'
        · cases e'
          rw [e, hit] at hb'; cases hb') (fun k hk => by simp at hk; omega)
      have hC1T := hC1.turn
      have HC1 := Lib.hid hC1
      have HRG1 := Lib.hid hrg1
      have HX := Lib.hid (show A.L[j]? = some xb ∧ xb.h = x ∧ left (.int .u64 x) = true from ⟨hxb, hxh, hlk⟩)
      have HCV := Lib.hid hcv
      have HLT := Lib.hid hlt
      have hmsz : Maps.size D' < maxLen := by
        have h1 := HZ.out
        have h2 := List.countP_le_length (p := fun y : Blk => !left (.int .u64 y.h)) (l := A.L)
        have h3 := length_le_used (fun x hx => (H.out.ok.len x hx).1)
        have h4 := H.out.ok.top
        have h5 := H.out.ok.peak
        have h6 := H.out.ok.cap
        unfold maxLen; omega
      have HMS := Lib.hid hmsz
      have HKEY := Lib.hid (key_u64 x hx64)
      clear hmsz hC1 hC1T hrg1 hlk hxb hxh hr hR hR1 hv hyd hat hhas hrh hcv hrg hx64 hwx hkey hlt hg1 hs1 hxl T1
      go_wp2_with (first
        | (go_at_call 61; (with_reducible refine (HCL.out _ (Frm.Turn.refl [] w1)).mono ?_); rintro e w3 ⟨g', c', rfl, ho, hg, hT3⟩; have HO3 := Lib.hid ho; have HG3 := Lib.hid hg; have HT3 := Lib.hid hT3; clear ho hg hT3)
        | (at_mapUpdate; refine wpList_mapUpdate_own _ rfl _ _ _ 157 rfl 25 24 keyU mapU hdr w.heap.size (Maps.size D') D' rfl (Lst.own_turn HC1.out.own HT3.out (by simp)) HMS.out _ _ _ rfl rfl HKEY.out _ [] (hdr_mk g' xb.ws.length c') ?_; intro w4 hown4 hgr4; have HO4 := Lib.hid hown4; have HG4 := Lib.hid hgr4; clear hown4 hgr4))
      go_roundw
      case rel =>
        obtain ⟨q1, q2, q3⟩ := HX.out
        subst q2
        have hinj := H.out.inj
        have hst := Cop.step HC1.out (fun a b ha hb e => H.out.ok.h_inj ha hb e) hinj q1 HO3.out HG3.out HT3.out HO4.out HG4.out (Nat.le_refl _)
        have hne : M.m ≠ w.heap.size := by have := H.out.lt M.m (by simp [Mem.foot]); omega
        have hrg4 := (HRG1.out.kept (grown_of HT3.out) (by simp) (by simp)).kept HG4.out (by simp; exact hne) (by simp)
        (repeat apply Exists.intro)
        refine ⟨?_, rfl⟩
        refine ⟨_, cnt1, _, _, hrg4, hst, ?_⟩
        have hs := size_put (k := .int .u64 xb.h) (HC1.out.own.tidy keyU) (hdat g' xb.ws.length c')
        have hh : Maps.has D' (.int .u64 xb.h) = false := by rw [HC1.out.has, q3]; simp
        rw [hs, hh, HZ.out]
        symm
        refine count_one (x := xb) (by rw [q3]; rfl) A.L ?_ (List.mem_of_getElem? q1) (fun y hy => ?_)
        · exact H.out.ok.rise.imp (fun hab e => by rw [e] at hab; omega)
        · by_cases e : y.h = xb.h
          · have : (Lit.int .u64 y.h).sameKey (.int .u64 xb.h) = true := by rw [e]; exact WideAt.sameKey_self trivial
            rw [this]; simp [e]
          · have : (Lit.int .u64 y.h).sameKey (.int .u64 xb.h) = false := sameKey_ne (by simpa using e)
            rw [this]; simp [e]
      case measure =>
        have hne : M.m ≠ w.heap.size := by have := H.out.lt M.m (by simp [Mem.foot]); omega
        have hrg4 := (HRG1.out.kept (grown_of HT3.out) (by simp) (by simp)).kept HG4.out (by simp; exact hne) (by simp)
        rw [hrg4.left_eq, HRG.out.left_eq]
        exact HLT.out
end Arn
end Go.Proofs.YtlghinjggkgfmaaGreat
