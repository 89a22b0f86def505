/- slices.SortFunc of handles by their numbers, with the closure of All; slices.SortedFunc over what maps.Keys gives. -/
import Derived.Test.YtmjdcpcndggflaaDoorArenaKeys
import Derived.Test.YtmjdcpcndggflaaDoorArenaSortLay
import Derived.Shelf.SlSortCmp.NoneTotal
set_option linter.unusedVariables false
set_option linter.unusedSimpArgs false
namespace Go.Proofs.YtmjdcpcndggflaaDoor
namespace Arn
open Go.RowKit Hp Go.Maps Go.Shelf Go.Sort Go.Lib

abbrev U64 := { x : Int // W64 x }
instance : Inhabited U64 := ⟨⟨0, by unfold W64; omega⟩⟩
def encU (x : U64) : Value := .int .u64 x.1
def cmpI (a b : Int) : Int := if a < b then -1 else if b < a then 1 else 0
def cfB (x y : U64) : Int := cmpI (x.1 % 65536) (y.1 % 65536)
theorem lt_cfB (x y : U64) : ltOf cfB x y = decide (x.1 % 65536 < y.1 % 65536) := by
  unfold ltOf cfB cmpI
  by_cases h1 : x.1 % 65536 < y.1 % 65536
  · simp [h1]
  · by_cases h2 : y.1 % 65536 < x.1 % 65536 <;> simp [h1, h2]
theorem swo_cfB : SWO (ltOf cfB) where
  irrefl x := by rw [lt_cfB]; simp
  trans x y z h1 h2 := by rw [lt_cfB] at *; simp at *; omega
  ntrans x y z h1 h2 := by rw [lt_cfB] at *; simp at *; omega

theorem nan_any (a : Int) (w : World) : Calls Tryd.prog 67 #[.int .u64 a] w fun e w' => e = .returned (.bool false) ∧ w = w' := by
  go_enter Tryd.func67, Tryd.ntmps67
  go_wp2
  go_ret
  exact ⟨rfl, rfl⟩
theorem compare_any (a b : Int) (w : World) : Calls Tryd.prog 61 #[.int .u64 a, .int .u64 b] w fun e w' => e = .returned (.int .i64 (cmpI a b)) ∧ w = w' := by
  have hc := Lib.hid (show (a < b ∧ cmpI a b = -1) ∨ (¬ a < b ∧ b < a ∧ cmpI a b = 1) ∨ (¬ a < b ∧ ¬ b < a ∧ cmpI a b = 0) by unfold cmpI; split <;> (try split) <;> simp [*])
  generalize cmpI a b = r at hc ⊢
  rcases hc.out with ⟨h1, rfl⟩ | ⟨h1, h2, rfl⟩ | ⟨h1, h2, rfl⟩ <;> clear hc
  all_goals
    go_enter Tryd.func61, Tryd.ntmps61
    go_wp2_with (go_at_call 67; (with_reducible refine (nan_any _ _).mono ?_); rintro e w1 ⟨rfl, rfl⟩)
    go_ret
    exact ⟨rfl, rfl⟩
theorem closure_any (x y : U64) (w : World) : Calls Tryd.prog 60 #[encU x, encU y] w fun e w' => e = .returned (.int .i64 (cfB x y)) ∧ ∃ q, w' = w.drewN q := by
  obtain ⟨x, hx⟩ := x
  obtain ⟨y, hy⟩ := y
  have HC := Lib.hid (compare_any (x % 65536) (y % 65536))
  have HX := Lib.hid (fun w => block_any x w hx)
  have HY := Lib.hid (fun w => block_any y w hy)
  show Calls _ _ #[.int .u64 x, .int .u64 y] _ _
  have hr : cfB ⟨x, hx⟩ ⟨y, hy⟩ = cmpI (x % 65536) (y % 65536) := rfl
  rw [hr]
  generalize cmpI (x % 65536) (y % 65536) = r at HC ⊢
  generalize x % 65536 = xm at HX HC
  generalize y % 65536 = ym at HY HC
  clear hr
  go_enter Tryd.func60, Tryd.ntmps60
  go_wp2_with (first
    | (go_at_call 55; (with_reducible refine (HX.out _).mono ?_); rintro e w1 ⟨rfl, rfl⟩)
    | (go_at_call 55; (with_reducible refine (HY.out _).mono ?_); rintro e w1 ⟨rfl, rfl⟩)
    | (go_at_call 61; (with_reducible refine (HC.out _).mono ?_); rintro e w1 ⟨rfl, rfl⟩))
  go_ret
  exact ⟨rfl, 0, rfl⟩

/-- A row whose cells are put anew. -/
theorem row_put {w : World} {base g cap : Nat} {d d' : Array U64} (h : w.ownsRow base 22 1 (.slice (some ⟨g, 0, none⟩) d.size cap) d.size (d.toList.map encU)) (hd : d'.size = d.size) (m : Nat) (os : Array Obj) :
    (sortWorld encU w g 0 m d' os).ownsRow base 22 1 (.slice (some ⟨g, 0, none⟩) d.size cap) d.size (d'.toList.map encU) ∧ Frm.Turn [g] w (sortWorld encU w g 0 m d' os) := by
  obtain ⟨hl, h0⟩ := h
  rcases h0 with ⟨e, _⟩ | ⟨g', cap', cur, e, hb, hg, hn, hc, hs, ht⟩
  · cases e
  · cases e
    have hlt := (Array.getElem?_eq_some_iff.1 hg).1
    have hheap : (sortWorld encU w g 0 m d' os).heap = w.heap.modify g (onCells (putCells encU 0 d')) ++ os := rfl
    refine ⟨⟨by simp [hd], .inr ⟨g, cap, putCells encU 0 d' cur, rfl, hb, ?_, hn, hc, by simp [putCells, hs], ?_⟩⟩, rfl, rfl, rfl, ?_, fun k hk hF => ?_⟩
    · rw [hheap, Array.getElem?_append_left (by simpa using hlt), Array.getElem?_modify, if_pos rfl, hg]
      rfl
    · apply List.ext_getElem?
      intro j
      rw [List.getElem?_take]
      by_cases hj : j < d.size
      · have hjc : j < cur.size := by omega
        rw [if_pos (by omega)]
        simp [putCells, hjc, hd, hj]
      · rw [if_neg (by omega)]
        simp [hd, hj]
    · rw [hheap]; simp
    · rw [hheap, Array.getElem?_append_left (by simpa using hk), Array.getElem?_modify]
      rw [if_neg (by simp at hF; omega)]

theorem sort_any {w : World} {base g cap : Nat} (d : Array U64) (h : w.ownsRow base 22 1 (.slice (some ⟨g, 0, none⟩) d.size cap) d.size (d.toList.map encU)) (hd : d.size < 4611686018427387904) :
    Calls Tryd.prog 65 #[.slice (some ⟨g, 0, none⟩) d.size cap, .func (.func 60) #[] #[]] w fun e w' => e = .returned (.tuple #[]) ∧ ∃ d' : Array U64, d'.toList.Perm d.toList ∧ (∀ i j, i < j → j < d'.size → d'[i]!.1 % 65536 ≤ d'[j]!.1 % 65536) ∧
      w'.ownsRow base 22 1 (.slice (some ⟨g, 0, none⟩) d.size cap) d.size (d'.toList.map encU) ∧ Frm.Turn [g] w w' := by
  have eg : ∀ args w, (callFunc 60 args).run Tryd.prog w = .ok (.enter 60 args) w := enters_of Tryd.func60 (by kernel_rfl) rfl
  have hblk : g < w.heap.size := by
    obtain ⟨hl, h0⟩ := h
    rcases h0 with ⟨e, _⟩ | ⟨g', cap', cur, e, hb, hg, hn, hc, hs, ht⟩
    · cases e
    · cases e; exact (Array.getElem?_eq_some_iff.1 hg).1
  have hH : Holds encU w g 0 d := fun j hj => by
    obtain ⟨hl, h0⟩ := h
    rcases h0 with ⟨e, _⟩ | ⟨g', cap', cur, e, hb, hg, hn, hc, hs, ht⟩
    · cases e
    · cases e
      have hcj : cur[j]? = some (encU d[j]!) := by
        have h1 : (cur.toList.take (d.size * 1))[j]? = (d.toList.map encU)[j]? := by rw [ht]
        rw [List.getElem?_take, if_pos (by omega), List.getElem?_map, Array.getElem?_toList, Array.getElem?_toList, Array.getElem?_eq_getElem hj] at h1
        rw [h1, getElem!_pos d j hj]; rfl
      exact ⟨by simp [World.cell?, hg, hcj], by simp [World.frozen?, hg]⟩
  have hcon := Any.slices_SortFunc sortH encU (fun _ => rfl) cfB swo_cfB 60 #[] g 0 cap d w eg (CmpReads.lays (fun m os dk hs x y => closure_any x y _)) hH hblk hd
  refine Calls.mono hcon ?_
  rintro e w' ⟨rfl, d', n, os, hp, hs, rfl⟩
  obtain ⟨hr, hT⟩ := row_put h hp.1 n os
  refine ⟨rfl, d', ?_, fun i j hij hj => ?_, hr, hT⟩
  · have h2 := hp.2.2
    have e1 : d.extract 0 d.size = d := by simp
    have e2 : d'.extract 0 d.size = d' := by rw [← hp.1]; simp
    rw [e1, e2] at h2
    exact h2
  · have h3 := hs i j (Nat.zero_le _) hij (by have := hp.1; omega)
    rw [lt_cfB] at h3
    simp at h3
    omega

theorem ownsRow_shape {w : World} {base : Nat} {e : TypeId} {size n : Nat} {v : Value} {xs : List Value} (h : w.ownsRow base e size v n xs) : (v = .slice none 0 0 ∧ n = 0) ∨ ∃ g cap, v = .slice (some ⟨g, 0, none⟩) n cap ∧ base ≤ g := by
  rcases h.2 with h0 | ⟨g, cap, cur, e, hb, _⟩
  · exact .inl h0
  · exact .inr ⟨g, cap, e, hb⟩
theorem sorted_unique {l l' : List Int} (hp : l.Perm l') (hs : l.Pairwise (fun a b => a % 65536 ≤ b % 65536)) (hr : l'.Pairwise (fun a b => a % 65536 < b % 65536)) : l = l' := by
  refine List.Perm.eq_of_pairwise (le := fun a b : Int => a % 65536 ≤ b % 65536) (fun a b ha hb h1 h2 => ?_) hs (hr.imp fun h => by omega) hp
  have e : a % 65536 = b % 65536 := by omega
  have ha' := hp.mem_iff.1 ha
  obtain ⟨i, hi⟩ := List.mem_iff_getElem?.1 ha'
  obtain ⟨j, hj⟩ := List.mem_iff_getElem?.1 hb
  obtain ⟨hi1, hi2⟩ := List.getElem?_eq_some_iff.1 hi
  obtain ⟨hj1, hj2⟩ := List.getElem?_eq_some_iff.1 hj
  rw [List.pairwise_iff_getElem] at hr
  rcases Nat.lt_trichotomy i j with hij | hij | hij
  · have := hr i j hi1 hj1 hij; rw [hi2, hj2] at this; omega
  · subst hij; rw [← hi2, ← hj2]
  · have := hr j i hj1 hi1 hij; rw [hi2, hj2] at this; omega

def hs_ (L : List Blk) : List Int := L.map Blk.h
theorem mem_hs {L : List Blk} {x : Int} : x ∈ hs_ L ↔ hasH L x = true := by
  rw [hasH_iff]; simp [hs_]

theorem sortedFunc_any {gf : Nat} {lb : Array Value} {Sp : List Int → Prop} {N : Nat} {w : World} {L : List Blk} (eg : ∀ args w, (callFunc gf args).run Tryd.prog w = .ok (.enter gf args) w)
    (hseq : SeqStopsK Fence.wide 4 Tryd.prog gf lb (fun x : Int => #[Value.int .u64 x]) KeepsWalks (fun ss => ss.Nodup ∧ ∀ x, x ∈ ss ↔ hasH L x = true) Sp N w) (hN : N ≤ 1000000000000) (hr : L.Pairwise (fun a b => a.h % 65536 < b.h % 65536)) (h64 : ∀ x, x ∈ L → W64 x.h) (hlen : L.length ≤ 1000000000000) :
    Calls Tryd.prog 58 #[.func (.func gf) #[] lb, .func (.func 60) #[] #[]] w fun e w' => ∃ v, e = .returned v ∧ w'.ownsRow w.heap.size 22 1 v L.length (u64s (hs_ L)) ∧ Below w.heap.size w w' := by
  have HC := Lib.hid (collect_in eg hseq hN)
  have HS : Hid (∀ (w1 : World) (v : Value) (ss : List Int), (ss.Nodup ∧ ∀ x, x ∈ ss ↔ hasH L x = true) → w1.ownsRow w.heap.size 22 1 v ss.length (u64s ss) → Below w.heap.size w w1 →
      Calls Tryd.prog 65 #[v, .func (.func 60) #[] #[]] w1 fun e w' => e = .returned (.tuple #[]) ∧ w'.ownsRow w.heap.size 22 1 v L.length (u64s (hs_ L)) ∧ Below w.heap.size w w') := by
    refine Lib.hid fun w1 v ss hss hrow hb => ?_
    have hrL : (hs_ L).Pairwise (fun a b => a % 65536 < b % 65536) := List.pairwise_map.2 hr
    have hndL : (hs_ L).Nodup := hrL.imp fun h e => by rw [e] at h; omega
    have hperm : ss.Perm (hs_ L) := (List.perm_ext_iff_of_nodup hss.1 hndL).2 fun x => by rw [hss.2, mem_hs]
    have hl : ss.length = L.length := by rw [hperm.length_eq]; simp [hs_]
    have hw : ∀ x, x ∈ ss → W64 x := fun x hx => by
      obtain ⟨y, hy, rfl⟩ := hasH_iff.1 ((hss.2 x).1 hx)
      exact h64 y hy
    obtain ⟨d, hd⟩ : ∃ d : Array U64, d.toList.map Subtype.val = ss := ⟨(ss.pmap (fun x h => (⟨x, h⟩ : U64)) hw).toArray, by simp [List.map_pmap]⟩
    have hdl : d.size = ss.length := by rw [← hd]; simp
    have hdu : d.toList.map encU = u64s ss := by rw [← hd]; simp [u64s, encU]
    rcases ownsRow_shape hrow with ⟨rfl, h0⟩ | ⟨g, cap, rfl, hg⟩
    · refine Calls.mono (AnyF.slices_SortFunc_none (P := Tryd.prog) (ρ := sortH_ren) { sortH with } none 0 _ w1) ?_
      rintro e w' ⟨rfl, rfl⟩
      have : L = [] := List.length_eq_zero_iff.1 (by omega)
      subst this
      exact ⟨rfl, World.ownsRow_nil _ _ _ _, hb⟩
    · rw [← hdl, ← hdu] at hrow
      rw [← hdl]
      refine Calls.mono (sort_any d hrow (by omega)) ?_
      rintro e w' ⟨rfl, d', hp, hsrt, hr', hT⟩
      have hfin : d'.toList.map Subtype.val = hs_ L := by
        refine sorted_unique ((hp.map _).trans (by rw [hd]; exact hperm)) ?_ hrL
        rw [List.pairwise_map, List.pairwise_iff_getElem]
        intro i j hi hj hij
        have := hsrt i j hij (by simpa using hj)
        rw [getElem!_pos d' i (by simpa using hi), getElem!_pos d' j (by simpa using hj)] at this
        simpa using this
      have hu : d'.toList.map encU = u64s (hs_ L) := by rw [← hfin]; simp [u64s, encU]
      rw [hu, hdl, hl] at hr'
      rw [hdl, hl]
      exact ⟨rfl, hr', hb.trans (hT.below hb.size (fun k hk => by simp at hk; omega))⟩
  go_enter Tryd.func58, Tryd.ntmps58
  go_wp2_with (first
    | (go_at_call 64; (with_reducible refine (HC.out).mono ?_); rintro e w1 ⟨v, ss, rfl, h1, h2, h3, h4⟩; have H1 := Lib.hid (HS.out w1 v ss h1 h2 h4); clear h1 h2 h3 h4)
    | (go_at_call 65; (with_reducible refine (H1.out).mono ?_); rintro e w2 ⟨rfl, h5, h6⟩; have H2 := Lib.hid (And.intro h5 h6); clear h5 h6))
  go_ret
  exact ⟨_, rfl, H2.out⟩
end Arn
end Go.Proofs.YtmjdcpcndggflaaDoor
