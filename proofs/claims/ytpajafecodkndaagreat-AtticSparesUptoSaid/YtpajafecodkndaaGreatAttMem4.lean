/- slices.Index, slices.Delete over words that lie in a row of one's own. -/
/- An attic in memory: its lists; what calls that touch no arena do to them. -/
/- Take, Len, List, All of an attic. -/
/- List of an attic; slices.Grow. -/
/- All of an attic. -/
import Derived.Test.YtpajafecodkndaaGreatArenaSmall
import Derived.Test.YtpajafecodkndaaGreatLeastAppend
import Derived.Deep.RegionLaw
import Derived.Deep.MidRow
import Derived.Lib.SliceRun
import Derived.Lib.Hide
import Derived.Deep.CutBlock
import Derived.Deep.RegionHeld3
import Derived.Test.YtpajafecodkndaaGreatArenaRefLay2
import Derived.RangeFuncBox
import Derived.Lib.AppendZeros
set_option linter.unusedVariables false
set_option linter.unusedSimpArgs false
namespace Go.Proofs.YtpajafecodkndaaGreat
namespace Att
open Go.RowKit Go.Maps Arn

/-- A row, some cells of which are written anew. -/
theorem owns_setCells {base g n c : Nat} {e : TypeId} {size : Nat} : ∀ (vs : List Value) (o : Nat) (xs ys : List Value) (w : World), w.ownsRow base e size (.slice (some ⟨g, 0, none⟩) n c) n xs → o + vs.length ≤ xs.length →
    (∀ j, ys[j]? = if o ≤ j ∧ j < o + vs.length then vs[j - o]? else xs[j]?) → (w.setCells g o vs).ownsRow base e size (.slice (some ⟨g, 0, none⟩) n c) n ys := by
  intro vs
  induction vs with
  | nil =>
    intro o xs ys w h hl hy
    have : ys = xs := by
      apply List.ext_getElem?
      intro j
      rw [hy, if_neg (by simp only [List.length_nil]; omega)]
    rw [this]
    simpa [World.setCells] using h
  | cons v t ih =>
    intro o xs ys w h hl hy
    have s1 := (World.ownsRow.stored h o v).1
    have := ih (o + 1) (xs.set o v) ys (w.setCell ⟨g, o, none⟩ v) s1 (by simp at hl ⊢; omega) (fun j => by
      rw [hy]
      simp only [List.length_cons] at hl ⊢
      by_cases hj : j = o
      · subst hj
        rw [if_pos (by omega), if_neg (by omega), List.getElem?_set, if_pos rfl, if_pos (by omega)]
        simp
      · by_cases hc : o ≤ j ∧ j < o + (t.length + 1)
        · rw [if_pos hc, if_pos (by omega), show j - o = (j - (o + 1)) + 1 by omega]
          simp
        · rw [if_neg hc, if_neg (by omega), List.getElem?_set, if_neg (by omega)])
    simpa [World.setCells] using this
theorem setCells_turn {F : List Nat} {g : Nat} (hg : g ∈ F) : ∀ (vs : List Value) (o : Nat) (w0 w : World), Frm.Turn F w0 w → Frm.Turn F w0 (w.setCells g o vs) := by
  intro vs
  induction vs with
  | nil => intro o w0 w h; exact h
  | cons v t ih => intro o w0 w h; exact ih (o + 1) w0 _ (h.setCell (p := ⟨g, o, none⟩) (.inl hg) v)
theorem owns_less {base : Nat} {w : World} {g n c m : Nat} {e : TypeId} {xs : List Value} (h : w.ownsRow base e 1 (.slice (some ⟨g, 0, none⟩) n c) n xs) (hm : m ≤ n) : w.ownsRow base e 1 (.slice (some ⟨g, 0, none⟩) m c) m (xs.take m) := by
  obtain ⟨hl, hn | ⟨g', c', cur, hv, hb, hg, h1, h2, h3, h4⟩⟩ := h
  · simp at hn
  · simp only [Value.slice.injEq, Option.some.injEq, Addr.mk.injEq] at hv
    obtain ⟨⟨rfl, _, _⟩, _, rfl⟩ := hv
    refine ⟨by simp; omega, .inr ⟨g, c, cur, rfl, hb, hg, by omega, h2, h3, ?_⟩⟩
    rw [← h4, List.take_take]
    congr 1
    omega
theorem owns_cap {base : Nat} {w : World} {g n c : Nat} {e : TypeId} {xs : List Value} (h : w.ownsRow base e 1 (.slice (some ⟨g, 0, none⟩) n c) n xs) : n ≤ c ∧ c ≤ maxLen ∧ xs.length = n := by
  obtain ⟨hl, hn | ⟨g', c', cur, hv, hb, hg, h1, h2, h3, h4⟩⟩ := h
  · simp at hn
  · simp only [Value.slice.injEq, Option.some.injEq, Addr.mk.injEq] at hv
    obtain ⟨⟨rfl, _, _⟩, _, rfl⟩ := hv
    exact ⟨h1, h2, by simpa using hl⟩
theorem owns_cell {base : Nat} {w : World} {g n c : Nat} {e : TypeId} {xs : List Value} (h : w.ownsRow base e 1 (.slice (some ⟨g, 0, none⟩) n c) n xs) {j : Nat} {u : Value} (hu : xs[j]? = some u) : w.cell? ⟨g, j, none⟩ = some u ∧ w.frozen? ⟨g, j, none⟩ = false := by
  have := World.ownsRow.cells h rfl j _ hu
  rw [Addr.add_mid, Nat.zero_add] at this
  exact ⟨this, World.ownsRow.frozenAt h j⟩
theorem zero64 (w : World) : (zeroValue 31).run Tryz.prog w = .ok (.int .u64 0) w := by kernel_rfl
theorem infw {P : Program} {t : TypeId} {z : Value} {s b : Nat} (h : (P.info? t).map (fun i => (i.zero, i.size, i.bytes)) = some (some z, s, b)) : ∃ i, P.info? t = some i ∧ i.zero = some z ∧ i.size = s ∧ i.bytes = b := by
  cases hq : P.info? t with
  | none => simp [hq] at h
  | some i =>
    simp [hq] at h
    exact ⟨i, rfl, h.1, h.2.1, h.2.2⟩
theorem cut_get {xs : List Value} {i : Nat} (hi : i < xs.length) (zs : List Value) (hz : zs.length = 1) (j : Nat) : (xs.take i ++ xs.drop (i + 1) ++ zs)[j]? = if j < i then xs[j]? else if j < xs.length - 1 then xs[j + 1]? else zs[j - (xs.length - 1)]? := by
  have l1 : (xs.take i).length = i := by simp; omega
  have l2 : (xs.drop (i + 1)).length = xs.length - (i + 1) := by simp
  by_cases c1 : j < i
  · rw [if_pos c1, List.append_assoc, List.getElem?_append_left (by omega), List.getElem?_take, if_pos c1]
  · rw [if_neg c1]
    by_cases c2 : j < xs.length - 1
    · rw [if_pos c2, List.getElem?_append_left (by simp; omega), List.getElem?_append_right (by omega), List.getElem?_drop, l1]
      congr 1; omega
    · rw [if_neg c2, List.getElem?_append_right (by simp; omega)]
      congr 1
      simp; omega
set_option maxRecDepth 100000 in
set_option maxHeartbeats 4000000 in
/-- slices.Delete of one element of a row that the call owns. -/
theorem wdel_any {base : Nat} {w : World} {g n c i : Nat} {xs : List Value} (h : w.ownsRow base 31 1 (.slice (some ⟨g, 0, none⟩) n c) n xs) (hi : i < n) (hone : ∀ u, u ∈ xs → u.oneCell' = true) (x : Int) (hx : x = (i : Int) + 1) :
    Calls Tryz.prog 89 #[.slice (some ⟨g, 0, none⟩) n c, .int .i64 i, .int .i64 x] w fun e w' => e = .returned (.slice (some ⟨g, 0, none⟩) (n - 1) c) ∧ w'.ownsRow base 31 1 (.slice (some ⟨g, 0, none⟩) (n - 1) c) (n - 1) (xs.take i ++ xs.drop (i + 1)) ∧ Frm.Turn [g] w w' := by
  obtain ⟨hc, hm, hl⟩ := owns_cap h
  obtain ⟨j, hj⟩ : ∃ j, j = i + 1 := ⟨_, rfl⟩
  obtain rfl : x = (j : Int) := by omega
  have hjn : j ≤ n := by omega
  have hij : i < j := by omega
  obtain ⟨i0, hi0, hz0, hz1, hz2⟩ := infw info_u64
  obtain ⟨news, hnews⟩ : ∃ news, news = xs.drop j := ⟨_, rfl⟩
  have hlen : news.length = n - j := by rw [hnews]; simp; omega
  have hd : w.drew.ownsRow base 31 1 (.slice (some ⟨g, 0, none⟩) n c) n xs := Frm.owns_turn h (Frm.Turn.refl [] w).drew (by simp)
  obtain ⟨A, hA, hsrc⟩ : ∃ A : Addr, (if c = j then some (⟨g, 0, none⟩ : Addr) else some ⟨g, j, none⟩) = some A ∧ Hid (∀ t u, news[t]? = some u → w.drew.cell? (A.add t) = some u) := by
    by_cases hcj : c = j
    · refine ⟨⟨g, 0, none⟩, by simp [hcj], fun t u hu => ?_⟩
      have h0 : news.length = 0 := by rw [hlen]; omega
      rw [List.length_eq_zero_iff.1 h0] at hu
      simp at hu
    · refine ⟨⟨g, j, none⟩, by simp [hcj], fun t u hu => ?_⟩
      rw [hnews, List.getElem?_drop] at hu
      rw [Addr.add_mid]
      exact (owns_cell hd hu).1
  have s1 : Hid (news.length = (n - j) * 1) := Lib.hid (by rw [Nat.mul_one]; exact hlen)
  have s2 : Hid (∀ u ∈ news, u.oneCell' = true) := Lib.hid fun u hu => by rw [hnews] at hu; exact hone u (List.mem_of_mem_drop hu)
  have s3 : Hid (∀ t, t < news.length → (w.drew.cell? ⟨g, 0 + i * 1 + t, none⟩).isSome = true ∧ w.drew.frozen? ⟨g, 0 + i * 1 + t, none⟩ = false) := Lib.hid fun t ht => by
    rw [hlen] at ht
    have hx : xs[0 + i * 1 + t]? = some xs[0 + i * 1 + t] := List.getElem?_eq_getElem (by omega)
    obtain ⟨q1, q2⟩ := owns_cell hd hx
    exact ⟨by rw [q1]; rfl, q2⟩
  obtain ⟨W1, hW1⟩ : ∃ W1, W1 = w.drew.setCells g (0 + i * 1) news := ⟨_, rfl⟩
  obtain ⟨zs, hzs⟩ : ∃ zs, zs = xs.drop (n - 1) := ⟨_, rfl⟩
  have hzl : zs.length = 1 := by rw [hzs]; simp; omega
  have ho1 : W1.ownsRow base 31 1 (.slice (some ⟨g, 0, none⟩) n c) n (xs.take i ++ xs.drop (i + 1) ++ zs) := by
    rw [hW1]
    refine owns_setCells news (0 + i * 1) xs _ w.drew hd (by omega) (fun t => ?_)
    rw [cut_get (by omega) zs hzl, hlen, hnews, hzs, hl]
    by_cases c1 : t < i
    · rw [if_pos c1, if_neg (by omega)]
    · rw [if_neg c1]
      by_cases c2 : t < n - 1
      · rw [if_pos c2, if_pos (by omega), List.getElem?_drop]
        congr 1; omega
      · rw [if_neg c2, if_neg (by omega), List.getElem?_drop]
        congr 1; omega
  have hcell : (W1.cell? ⟨g, n - 1, none⟩).isSome = true ∧ W1.frozen? ⟨g, n - 1, none⟩ = false := by
    have hx : (xs.take i ++ xs.drop (i + 1) ++ zs)[n - 1]? = some ((xs.take i ++ xs.drop (i + 1) ++ zs)[n - 1]'(by simp; omega)) := List.getElem?_eq_getElem _
    obtain ⟨q1, q2⟩ := owns_cell ho1 hx
    exact ⟨by rw [q1]; rfl, q2⟩
  have hcl : ∀ ty, (Builtin.clear_ #[25] ty #[.slice (some ⟨g, i + (n - j), none⟩) (n - (i + (n - j))) (c - (i + (n - j)))]).run Tryz.prog W1 = .ok (.tuple #[]) (W1.setCells g (i + (n - j)) (List.replicate (n - (i + (n - j))) (.int .u64 0))) :=
    fun ty => Lib.run_clear_slice W1 _ _ ty _ under_u64s zero64 rfl rfl g (i + (n - j)) _ _ (by omega) (fun t ht => by rw [show i + (n - j) + t = n - 1 by omega]; exact hcell.1) (fun t ht => by rw [show i + (n - j) + t = n - 1 by omega]; exact hcell.2)
  have ho2 : (W1.setCells g (i + (n - j)) (List.replicate (n - (i + (n - j))) (.int .u64 0))).ownsRow base 31 1 (.slice (some ⟨g, 0, none⟩) (n - 1) c) (n - 1) (xs.take i ++ xs.drop (i + 1)) := by
    rw [show i + (n - j) = n - 1 by omega, show n - (n - 1) = 1 by omega]
    have h2 := owns_setCells [.int .u64 0] (n - 1) _ (xs.take i ++ xs.drop (i + 1) ++ [.int .u64 0]) W1 ho1 (by simp; omega) (fun t => by
      rw [cut_get (by omega) _ rfl, cut_get (by omega) zs hzl, hl]
      simp only [List.length_singleton]
      by_cases c1 : t < i
      · rw [if_pos c1, if_neg (by omega), if_pos c1]
      · rw [if_neg c1, if_neg c1]
        by_cases c2 : t < n - 1
        · rw [if_pos c2, if_neg (by omega), if_pos c2]
        · rw [if_neg c2, if_neg c2]
          by_cases c3 : t = n - 1
          · rw [if_pos (by omega)]
          · rw [if_neg (by omega), List.getElem?_eq_none (by simp; omega), List.getElem?_eq_none (by omega)])
    have h3 := owns_less h2 (m := n - 1) (by omega)
    rwa [show (xs.take i ++ xs.drop (i + 1) ++ [Value.int .u64 0]).take (n - 1) = xs.take i ++ xs.drop (i + 1) by rw [List.take_append_of_le_length (by simp; omega), List.take_of_length_le (by simp; omega)]] at h3
  have hT2 : Frm.Turn [g] w (W1.setCells g (i + (n - j)) (List.replicate (n - (i + (n - j))) (.int .u64 0))) := by
    rw [hW1]
    exact setCells_turn (by simp) _ _ _ _ (setCells_turn (by simp) _ _ _ _ (Frm.Turn.refl [g] w).drew)
  have HO2 := Lib.hid ho2
  have HT2 := Lib.hid hT2
  have hW : Hid (W1 = w.drew.setCells g (0 + i * 1) news) := Lib.hid hW1
  have hic : i ≤ c := by omega
  have hjc : j ≤ c := by omega
  have hmx : c ≤ 9223372036854775807 := by simpa [maxLen] using hm
  have hne : ¬ (i : Int) = (j : Int) := by omega
  have HJ := Lib.hid hj
  clear hW1 hcell ho1 ho2 hT2 h hd hnews hlen hl hzs hzl hx hone hj
  go_enter Tryz.func89, Tryz.ntmps89
  go_upto_region 5 with fail
  go_region_law (refine step_append_room rfl (.tmp 22) (.tmp 25) 25 rfl 31 i0 1 under_u64s hi0 hz1 g 0 i c (by simp [Act.eval, Act.put]) A (n - j) (c - j) news (by simp [Act.eval, Act.put]) s1.out hsrc.out s2.out (by omega) s3.out ?_; rw [← hW.out])
  all_goals go_wp2
  all_goals go_ret
  all_goals exact ⟨by rw [show n - 1 = i + (n - j) by have := HJ.out; omega]; rfl, HO2.out, HT2.out⟩
/-- The place of a word among others. -/
def fsI (x : Int) : List Int → Option Nat
  | [] => none
  | y :: t => if y = x then some 0 else (fsI x t).map (· + 1)
theorem fsI_some {x : Int} : ∀ {l : List Int} {i : Nat}, fsI x l = some i → i < l.length ∧ l[i]? = some x ∧ (∀ j, j < i → l[j]? ≠ some x) ∧ l.take i ++ l.drop (i + 1) = l.erase x := by
  intro l
  induction l with
  | nil => intro i h; simp [fsI] at h
  | cons y t ih =>
    intro i h
    unfold fsI at h
    by_cases e : y = x
    · rw [if_pos e] at h
      cases h
      subst e
      exact ⟨by simp, by simp, fun j hj => absurd hj (Nat.not_lt_zero _), by simp⟩
    · rw [if_neg e] at h
      cases hq : fsI x t with
      | none => rw [hq] at h; simp at h
      | some j0 =>
        rw [hq] at h
        simp at h
        subst h
        obtain ⟨h1, h2, h3, h4⟩ := ih hq
        refine ⟨by simp; omega, by simpa using h2, fun j hj => ?_, ?_⟩
        · cases j with
          | zero => simpa using e
          | succ j => simpa using h3 j (by omega)
        · rw [List.erase_cons_tail (by simpa using e)]
          simpa using h4
theorem fsI_none {x : Int} : ∀ {l : List Int}, fsI x l = none ↔ x ∉ l := by
  intro l
  induction l with
  | nil => simp [fsI]
  | cons y t ih =>
    unfold fsI
    by_cases e : y = x
    · rw [if_pos e]; simp [e]
    · rw [if_neg e]
      simp only [Option.map_eq_none_iff, List.mem_cons, not_or, ih]
      exact ⟨fun h => ⟨fun e2 => e e2.symm, h⟩, fun h => h.2⟩
def ixI (x : Int) (l : List Int) : Int := match fsI x l with
  | some i => i
  | none => -1
set_option maxRecDepth 100000 in
set_option maxHeartbeats 4000000 in
theorem widx_any (v : Value) (l : List Int) (x : Int) (w : World) (h : WordsAt w v l) (hl : l.length ≤ 1000000) :
    Calls Tryz.prog 88 #[v, .int .u64 x] w fun e w' => e = .returned (.int .i64 (ixI x l)) ∧ w = w' := by
  obtain ⟨n, hnn⟩ : ∃ n, n = l.length := ⟨_, rfl⟩
  obtain ⟨ao, c, rfl, hcs⟩ : ∃ ao c, v = .slice ao n c ∧ Hid (∀ j y, l[j]? = some y → ∃ a, ao = some a ∧ w.cell? (a.add j) = some (.int .u64 y)) := by
    rcases h with ⟨rfl, rfl⟩ | ⟨a, c, rfl, h⟩
    · exact ⟨none, 0, by rw [hnn]; rfl, Lib.hid (fun j y hj => by simp at hj)⟩
    · exact ⟨some a, c, by rw [hnn], Lib.hid (fun j y hj => ⟨a, rfl, h j _ (by simp [u64s, hj])⟩)⟩
  rw [← hnn] at hl
  have HNN := Lib.hid hnn
  clear h hnn
  go_enter Tryz.func88, Tryz.ntmps88
  go_wp2
  go_loopw [8] (fun s8 wr => ∃ j : Nat, j ≤ n ∧ s8 = .int .i64 j ∧ (∀ i, i < j → l[i]? ≠ some x) ∧ wr = w) (fun s8 _ => n - (intOf s8).toNat)
  case atStart => exact ⟨0, by omega, rfl, fun i hi => absurd hi (Nat.not_lt_zero _), rfl⟩
  case round =>
    obtain ⟨j, hj, rfl, hno, rfl⟩ := hrel
    have HNO := Lib.hid hno
    have hj0 : (0 : Int) ≤ (j : Int) := by omega
    by_cases e : j < n
    · have hjn : (j : Int) < (n : Int) := by omega
      obtain ⟨y, hy⟩ : ∃ y, l[j]? = some y := ⟨_, List.getElem?_eq_getElem (by have := HNN.out; omega)⟩
      obtain ⟨a, rfl, c0⟩ := hcs.out j y hy
      have HY := Lib.hid hy
      clear hno hy hcs
      by_cases e2 : y = x
      · subst e2
        go_wp2
        go_ret
        refine ⟨?_, rfl⟩
        have : fsI y l = some j := by
          cases hq : fsI y l with
          | none => exact absurd (List.mem_of_getElem? HY.out) (fsI_none.1 hq)
          | some i =>
            obtain ⟨h1, h2, h3, h4⟩ := fsI_some hq
            congr 1
            rcases Nat.lt_trichotomy i j with h | h | h
            · exact absurd h2 (HNO.out i h)
            · exact h
            · exact absurd HY.out (h3 j h)
        unfold ixI
        rw [this]
        rfl
      · have hne : ¬ x = y := fun h => e2 h.symm
        go_wp2
        refine ⟨⟨j + 1, by omega, by simp, fun i hi => ?_, trivial⟩, by simp [intOf]; omega⟩
        by_cases e3 : i = j
        · subst e3; rw [HY.out]; simpa using e2
        · exact HNO.out i (by omega)
    · have hjn : ¬ (j : Int) < (n : Int) := by omega
      clear hno hcs
      go_wp2
      go_ret
      refine ⟨?_, rfl⟩
      have : fsI x l = none := by
        rw [fsI_none]
        intro hm
        obtain ⟨i, hi, h2⟩ := List.mem_iff_getElem.1 hm
        exact HNO.out i (by have := HNN.out; omega) (by rw [List.getElem?_eq_getElem hi, h2])
      unfold ixI
      rw [this]
      rfl
set_option maxRecDepth 100000 in
theorem whas_any (v : Value) (l : List Int) (x : Int) (w : World) (h : WordsAt w v l) (hl : l.length ≤ 1000000) :
    Calls Tryz.prog 156 #[v, .int .u64 x] w fun e w' => e = .returned (.bool (decide (x ∈ l))) ∧ w = w' := by
  have H := Lib.hid (widx_any v l x w h hl)
  have e : (decide ((0 : Int) ≤ ixI x l)) = decide (x ∈ l) := by
    unfold ixI
    cases hq : fsI x l with
    | none => rw [decide_eq_false (fsI_none.1 hq)]; rfl
    | some i =>
      have := List.mem_of_getElem? (fsI_some hq).2.1
      rw [decide_eq_true this]
      simp
  rw [← e]
  clear h hl e
  generalize ixI x l = z at H ⊢
  go_enter Tryz.func156, Tryz.ntmps156
  go_wp2_with (go_at_call 88; (with_reducible refine (H.out).mono ?_); rintro e w1 ⟨rfl, rfl⟩)
  go_ret
  refine ⟨?_, rfl⟩
  rfl
end Att
end Go.Proofs.YtpajafecodkndaaGreat

set_option linter.unusedVariables false
set_option linter.unusedSimpArgs false
namespace Go.Proofs.YtpajafecodkndaaGreat
namespace Att
open Go.RowKit Go.Maps Arn

def upA {α : Type} (f : Nat → α) (i : Nat) (v : α) : Nat → α := fun j => if j = i then v else f j
theorem upA_at {α : Type} (f : Nat → α) (i : Nat) (v : α) : upA f i v i = v := if_pos rfl
theorem upA_ne {α : Type} (f : Nat → α) {i j : Nat} (v : α) (h : j ≠ i) : upA f i v j = f j := if_neg h
/-- The cells of an attic: 255 lists, a log. -/
def atL (V : Nat → Value) (lg : Value) : List Value := (List.range 255).map V ++ [lg]
variable {V : Nat → Value} {lg : Value} {L : Nat → List Int} {W W' : World} {base r s : Nat}
theorem atL_len (V : Nat → Value) (lg : Value) : (atL V lg).length = 256 := by simp [atL]
theorem atL_get {i : Nat} (h : i < 255) : (atL V lg)[i]? = some (V i) := by
  unfold atL
  rw [List.getElem?_append_left (by simpa using h), List.getElem?_map, List.getElem?_range h]
  rfl
theorem atL_log : (atL V lg)[255]? = some lg := by
  unfold atL
  rw [List.getElem?_append_right (by simp)]
  simp
theorem atL_set {i : Nat} (h : i < 255) (v : Value) : (atL V lg).set i v = atL (upA V i v) lg := by
  apply List.ext_getElem?
  intro j
  rw [List.getElem?_set, atL_len]
  by_cases e : i = j
  · subst e
    rw [if_pos rfl, if_pos (by omega), atL_get h, upA_at]
  · rw [if_neg e]
    by_cases hj : j < 255
    · rw [atL_get hj, atL_get hj, upA_ne _ _ (fun e2 => e e2.symm)]
    · by_cases e3 : j = 255
      · subst e3; rw [atL_log, atL_log]
      · rw [List.getElem?_eq_none (by rw [atL_len]; omega), List.getElem?_eq_none (by rw [atL_len]; omega)]
theorem atL_setlog (v : Value) : (atL V lg).set 255 v = atL V v := by
  apply List.ext_getElem?
  intro j
  rw [List.getElem?_set, atL_len]
  by_cases e : 255 = j
  · subst e
    rw [if_pos rfl, if_pos (by omega), atL_log]
  · rw [if_neg e]
    by_cases hj : j < 255
    · rw [atL_get hj, atL_get hj]
    · rw [List.getElem?_eq_none (by rw [atL_len]; omega), List.getElem?_eq_none (by rw [atL_len]; omega)]
structure Lists (W : World) (base r : Nat) (L : Nat → List Int) (V : Nat → Value) (lg : Value) : Prop where
  body : W.heap[r]? = some (.cells (atL V lg).toArray 166 (0, 0))
  row : ∀ i, i < 255 → W.ownsRow base 31 1 (V i) (L i).length (u64s (L i))
  apart : ∀ i j q, i < 255 → j < 255 → (V i).ownBlock = some q → (V j).ownBlock = some q → i = j
  vr : ∀ i, i < 255 → (V i).ownBlock ≠ some r
theorem Lists.turn {F : List Nat} (h : Lists W base r L V lg) (ht : Frm.Turn F W W') (hr : r ∉ F) (hv : ∀ i q, i < 255 → (V i).ownBlock = some q → q ∉ F) : Lists W' base r L V lg :=
  ⟨ht.keep h.body hr, fun i hi => Frm.owns_turn (h.row i hi) ht (fun q hq => hv i q hi hq), h.apart, h.vr⟩
theorem Lists.still (h : Lists W base r L V lg) (ht : Frm.Turn [] W W') : Lists W' base r L V lg := h.turn ht (by simp) (by simp)
theorem Lists.lt (h : Lists W base r L V lg) : r < W.heap.size := (Array.getElem?_eq_some_iff.1 h.body).1
theorem Lists.cell (h : Lists W base r L V lg) (hs : s < 255) : W.cell? ⟨r, s, none⟩ = some (V s) := by
  rw [Frm.cell_row _ _ _ _ _ _ h.body]
  simpa using atL_get (V := V) (lg := lg) hs
theorem Lists.cellg (h : Lists W base r L V lg) : W.cell? ⟨r, 255, none⟩ = some lg := by
  rw [Frm.cell_row _ _ _ _ _ _ h.body]
  simpa using atL_log (V := V) (lg := lg)
theorem Lists.thaw (h : Lists W base r L V lg) (i : Nat) : W.frozen? ⟨r, i, none⟩ = false := Frm.frozen_row _ _ _ _ _ h.body
theorem Lists.words (h : Lists W base r L V lg) (hs : s < 255) : WordsAt W (V s) (L s) := by
  have h1 := h.row s hs
  have h0 : W.ownsRow 0 31 1 (V s) (L s).length (u64s (L s)) := ⟨h1.1, h1.2.imp id (fun ⟨g, c, cur, a, _, r⟩ => ⟨g, c, cur, a, Nat.zero_le _, r⟩)⟩
  rcases h0.2 with ⟨e, e2⟩ | ⟨g, c, cur, e, _⟩
  · exact .inl ⟨e, List.length_eq_zero_iff.1 e2⟩
  · rw [e] at h0 ⊢
    exact .own h0
/-- One of the lists becomes another one. -/
theorem Lists.put {v' : Value} {l' : List Int} (h : Lists W base r L V lg) (hs : s < 255) (hT : Frm.Turn (V s).ownBlock.toList W W') (ho : W'.ownsRow base 31 1 v' l'.length (u64s l')) (hv : ∀ q, v'.ownBlock = some q → (V s).ownBlock = some q ∨ W.heap.size ≤ q) :
    Lists (W'.setCell ⟨r, s, none⟩ v') base r (upA L s l') (upA V s v') lg ∧ Frm.Turn (r :: (V s).ownBlock.toList) W (W'.setCell ⟨r, s, none⟩ v') := by
  have hr : r ∉ (V s).ownBlock.toList := by simpa using h.vr s hs
  have hb := hT.keep h.body hr
  have hvr : v'.ownBlock ≠ some r := fun e => by
    rcases hv r e with h1 | h1
    · exact h.vr s hs h1
    · have := h.lt; omega
  have hst : Frm.Turn [r] W' (W'.setCell ⟨r, s, none⟩ v') := (Frm.Turn.refl [r] W').setCell (.inl (by simp)) _
  refine ⟨⟨?_, fun i hi => ?_, fun i j q hi hj h1 h2 => ?_, fun i hi => ?_⟩, (hT.mono (fun q hq => List.mem_cons_of_mem _ hq)).trans hst (fun q hq => .inl (by simp at hq; simp [hq]))⟩
  · rw [Frm.heap_set _ _ _ _ _ _ _ hb]
    simp [← atL_set hs]
  · by_cases e : i = s
    · subst e
      rw [upA_at, upA_at]
      exact Frm.owns_turn ho hst (fun q hq => by simp; rintro rfl; exact hvr hq)
    · rw [upA_ne _ _ e, upA_ne _ _ e]
      refine Frm.owns_turn (Frm.owns_turn (h.row i hi) hT (fun q hq hm => e (h.apart i s q hi hs hq (by simpa using hm)))) hst (fun q hq => by simp; rintro rfl; exact h.vr i hi hq)
  · have hlt : ∀ k q, k < 255 → (V k).ownBlock = some q → q < W.heap.size := fun k q hk hq => ((h.row k hk).lt q hq).2
    by_cases e1 : i = s
    · by_cases e2 : j = s
      · rw [e1, e2]
      · subst e1
        rw [upA_at] at h1
        rw [upA_ne _ _ e2] at h2
        rcases hv q h1 with h3 | h3
        · exact h.apart i j q hi hj h3 h2
        · have := hlt j q hj h2; omega
    · by_cases e2 : j = s
      · subst e2
        rw [upA_at] at h2
        rw [upA_ne _ _ e1] at h1
        rcases hv q h2 with h3 | h3
        · exact h.apart i j q hi hj h1 h3
        · have := hlt i q hi h1; omega
      · rw [upA_ne _ _ e1] at h1
        rw [upA_ne _ _ e2] at h2
        exact h.apart i j q hi hj h1 h2
  · by_cases e : i = s
    · subst e; rw [upA_at]; exact hvr
    · rw [upA_ne _ _ e]; exact h.vr i hi
/-! ### the calls -/
set_option maxRecDepth 100000 in
theorem listOf_in (W : World) (hs : s < 255) : Calls Tryz.prog 87 #[.pointer (some ⟨r, 0, none⟩), .int .i64 s] W fun e w' => e = .returned (.pointer (some ⟨r, s, none⟩)) ∧ W = w' := by
  have b0 : ¬ (s : Int) < 0 := by omega
  have b1 : ¬ (255 : Int) ≤ (s : Int) := by omega
  have b2 : (s : Int) < 255 := by omega
  go_enter Tryz.func87, Tryz.ntmps87
  go_wp2
  go_ret
  refine ⟨?_, rfl⟩
  simp [Act.put]
set_option maxRecDepth 100000 in
theorem listOf_out (x : Int) (W : World) (hx : x < 0 ∨ 255 ≤ x) : Calls Tryz.prog 87 #[.pointer (some ⟨r, 0, none⟩), .int .i64 x] W fun e w' => e = .returned (.pointer none) ∧ W = w' := by
  rcases hx with hx | hx
  · go_enter Tryz.func87, Tryz.ntmps87
    go_wp2
    go_ret
    exact ⟨rfl, rfl⟩
  · have b0 : ¬ x < 0 := by omega
    go_enter Tryz.func87, Tryz.ntmps87
    go_wp2
    go_ret
    exact ⟨rfl, rfl⟩
set_option maxRecDepth 100000 in
theorem listOf_nil (x : Int) (W : World) : Calls Tryz.prog 87 #[.pointer none, .int .i64 x] W fun e w' => e = .returned (.pointer none) ∧ W = w' := by
  go_enter Tryz.func87, Tryz.ntmps87
  go_wp2
  go_ret
  exact ⟨rfl, rfl⟩
set_option maxRecDepth 100000 in
theorem zero_at : Tryz.zeroCells166 = (atL (fun _ => .slice none 0 0) (.slice none 0 0)).toArray := by kernel_rfl
set_option maxRecDepth 100000 in
set_option maxHeartbeats 4000000 in
theorem new_any (W : World) : Calls Tryz.prog 34 #[] W fun e w' => e = .returned (.pointer (some ⟨W.heap.size, 0, none⟩)) ∧ Lists w' base W.heap.size (fun _ => []) (fun _ => .slice none 0 0) (.slice none 0 0) ∧ Frm.Turn [] W w' ∧ W.heap.size < w'.heap.size := by
  go_enter Tryz.func34, Tryz.ntmps34
  go_wp2
  go_ret
  refine ⟨rfl, ⟨?_, fun i hi => World.ownsRow_nil _ _ _ _, fun i j q _ _ h => (by cases h), fun i _ h => (by cases h)⟩, (Frm.Turn.refl [] W).alloc _, by rw [World.size_alloc]; omega⟩
  rw [← zero_at]
  exact World.alloc_heap_new W _
set_option maxRecDepth 100000 in
set_option maxHeartbeats 4000000 in
theorem put_some {a : Addr} {l : List Int} {c : Nat} (h : Lists W base r L V lg) (hs : s < 255) (hw : ∀ j u, (u64s l)[j]? = some u → W.cell? (a.add j) = some u) (hn : (L s).length + l.length ≤ 1000000) (hb : base ≤ W.heap.size) :
    Calls Tryz.prog 36 #[.pointer (some ⟨r, 0, none⟩), .int .i64 s, .slice (some a) l.length c] W fun e w' => e = .returned (.tuple #[]) ∧ ∃ v', Lists w' base r (upA L s (L s ++ l)) (upA V s v') lg ∧ Frm.Turn (r :: (V s).ownBlock.toList) W w' ∧ ∀ q, v'.ownBlock = some q → (V s).ownBlock = some q ∨ W.heap.size ≤ q := by
  have HLO := Lib.hid (listOf_in (r := r) W hs)
  have c0 := h.cell hs
  obtain ⟨i0, hi, hz0, hz1, hz2⟩ := infw info_u64
  obtain ⟨ao, ac, hV⟩ := Frm.row_form (h.row s hs)
  have HH := Lib.hid h
  have HS := Lib.hid hs
  have HRW := Lib.hid (h.row s hs)
  rw [hV] at HRW c0
  have HV := Lib.hid hV
  have HWW := Lib.hid hw
  have HB := Lib.hid hb
  have HN := Lib.hid hn
  have HL1 : Hid ((u64s l).length = l.length * 1) := Lib.hid (by simp [u64s])
  have HON : Hid (∀ u ∈ u64s l, u.oneCell' = true) := Lib.hid (by intro u hu; simp [u64s] at hu; obtain ⟨x, _, rfl⟩ := hu; rfl)
  clear h hs hV hw hb hn
  go_enter Tryz.func36, Tryz.ntmps36
  go_wp2_with (first
    | (go_at_call 87; (with_reducible refine (HLO.out).mono ?_); rintro e w1 ⟨rfl, rfl⟩)
    | (at_builtin; go_must (refine wpList_append_own_at _ rfl (.tmp 15) (.tmp 16) 25 rfl base 31 i0 (.int .u64 0) 1 8 under_u64s hi hz0 hz1 hz2 rfl (by decide) (.slice ao (L s).length ac) (L s).length (u64s (L s)) rfl HRW.out a l.length c (u64s l) rfl HL1.out HWW.out HON.out (by have := HN.out; unfold maxLen; omega) (by have := HN.out; omega) HB.out ?_); intro v9 w9 hown9 hg9 _ hl9; obtain ⟨va, vc, rfl⟩ := Frm.row_form hown9;
        have hT9 := Frm.Turn.of_grown hg9; have HT9 : Hid (Frm.Turn (V s).ownBlock.toList W w9) := Lib.hid (by rw [HV.out]; exact hT9);
        have HL9 : Hid (∀ q, (Value.slice va ((L s).length + l.length) vc).ownBlock = some q → (V s).ownBlock = some q ∨ W.heap.size ≤ q) := Lib.hid (by intro q hq; rw [HV.out]; rcases hl9 with e | e; exact .inl (by rw [← e]; exact hq); rw [e] at hq; cases hq; exact .inr (Nat.le_refl _));
        have HO9 : Hid (w9.ownsRow base 31 1 (.slice va ((L s).length + l.length) vc) (L s ++ l).length (u64s (L s ++ l))) := Lib.hid (by simpa [u64s] using hown9);
        have hb9 := HT9.out.keep HH.out.body (by simpa using HH.out.vr s HS.out);
        have c9 : w9.cell? ⟨r, s, none⟩ = some (.slice ao (L s).length ac) := (by rw [Frm.cell_row _ _ _ _ _ _ hb9, List.getElem?_toArray, atL_get HS.out, HV.out]);
        have f9 : w9.frozen? ⟨r, s, none⟩ = false := Frm.frozen_row _ _ _ _ _ hb9;
        clear hb9 hown9 hg9 hl9 hT9))
  go_end0
  exact ⟨rfl, _, (HH.out.put HS.out HT9.out HO9.out HL9.out).1, (HH.out.put HS.out HT9.out HO9.out HL9.out).2, HL9.out⟩
end Att
end Go.Proofs.YtpajafecodkndaaGreat

set_option linter.unusedVariables false
set_option linter.unusedSimpArgs false
namespace Go.Proofs.YtpajafecodkndaaGreat
namespace Att
open Go.RowKit Go.Maps Arn

variable {V : Nat → Value} {lg : Value} {L : Nat → List Int} {W W' : World} {base r s : Nat}
theorem under_255 : Tryz.prog.underlying 88 = some (.array 255 25) := by kernel_rfl
theorem info_255 : (Tryz.prog.info? 88).map (·.size) = some 255 := by kernel_rfl
theorem info_sl : (Tryz.prog.info? 25).map (·.size) = some 1 := by kernel_rfl
theorem agg_sl (w : World) : (isAgg 25).run Tryz.prog w = .ok false w := by kernel_rfl
theorem ix_arr {P : Program} {t e : TypeId} {n i : Nat} {cs : Array Value} {v : Value} (hu : P.underlying t = some (.array n e)) (hs : (P.info? e).map (·.size) = some 1) (ha : ∀ w : World, (isAgg e).run P w = .ok false w) (hi : i < n) (hv : cs[i]? = some v) (W : World) : (Instr.index t (.agg cs) (.int .i64 i)).run P W = .ok v W := by
  have h0 : (0 : Int) ≤ (i : Int) ∧ (i : Int) < (n : Int) := by omega
  obtain ⟨f, hf⟩ : ∃ f, P.info? e = some f ∧ f.size = 1 := by
    cases hq : P.info? e with
    | none => simp [hq] at hs
    | some f => exact ⟨f, rfl, by simpa [hq] using hs⟩
  simp [Instr.index, run_underlying hu, asIntOf, h0, sizeOf, typeInfo, hf.1, hf.2, go_sem, hi, ha, hv]
/-- All lists, one behind the other. -/
def allW (L : Nat → List Int) : Nat → List Int
  | 0 => []
  | k + 1 => allW L k ++ L k
theorem allW_le (L : Nat → List Int) : ∀ {i n : Nat}, i < n → (allW L i).length + (L i).length ≤ (allW L n).length := by
  intro i n
  induction n with
  | zero => intro h; omega
  | succ n ih =>
    intro h
    simp only [allW, List.length_append]
    by_cases e : i = n
    · subst e; omega
    · have := ih (by omega); omega
theorem Lists.form (h : Lists W base r L V lg) : ∃ (VA : Nat → Option Addr) (VC : Nat → Nat), ∀ i, i < 255 → V i = .slice (VA i) (L i).length (VC i) := by
  have : ∀ i, ∃ p : Option Addr × Nat, i < 255 → V i = .slice p.1 (L i).length p.2 := fun i => by
    by_cases hi : i < 255
    · obtain ⟨a, c, e⟩ := Frm.row_form (h.row i hi)
      exact ⟨(a, c), fun _ => e⟩
    · exact ⟨(none, 0), fun h => absurd h hi⟩
  exact ⟨fun i => (this i).choose.1, fun i => (this i).choose.2, fun i hi => (this i).choose_spec hi⟩
theorem Lists.range (h : Lists W base r L V lg) : W.rangeAt r 0 ((List.range 255).map V) := by
  intro j v hv
  have hj : j < 255 := by
    have := (List.getElem?_eq_some_iff.1 hv).1
    simpa using this
  rw [List.getElem?_map, List.getElem?_range hj] at hv
  rw [Nat.zero_add, h.cell hj]
  exact hv
set_option maxRecDepth 100000 in
set_option maxHeartbeats 4000000 in
theorem take_any (h : Lists W base r L V lg) (hs : s < 255) (x : Int) (hl : (L s).length ≤ 1000000) :
    Calls Tryz.prog 39 #[.pointer (some ⟨r, 0, none⟩), .int .i64 s, .int .u64 x] W fun e w' => e = .returned (.bool (decide (x ∈ L s))) ∧ ∃ V', Lists w' base r (upA L s ((L s).erase x)) V' lg ∧ Frm.Turn (r :: (V s).ownBlock.toList) W w' ∧ ∀ i q, i < 255 → (V' i).ownBlock = some q → (V i).ownBlock = some q := by
  have HLO := Lib.hid (listOf_in (r := r) W hs)
  have c0 := h.cell hs
  obtain ⟨ao, ac, hV⟩ := Frm.row_form (h.row s hs)
  have HIX := Lib.hid (widx_any (V s) (L s) x W (h.words hs) hl)
  rw [hV] at c0 HIX
  cases hq : fsI x (L s) with
  | none =>
    have hm := fsI_none.1 hq
    have e1 : ixI x (L s) = -1 := by unfold ixI; rw [hq]
    rw [e1] at HIX
    have e2 : upA L s ((L s).erase x) = L := by
      rw [List.erase_of_not_mem hm]
      funext j
      by_cases e : j = s
      · subst e; rw [upA_at]
      · rw [upA_ne _ _ e]
    rw [e2, decide_eq_false hm]
    have HH := Lib.hid h
    clear h hq hm e1 e2 hV hl hs
    go_enter Tryz.func39, Tryz.ntmps39
    go_wp2_with (first
      | (go_at_call 87; (with_reducible refine (HLO.out).mono ?_); rintro e w1 ⟨rfl, rfl⟩)
      | (go_at_call 88; (with_reducible refine (HIX.out).mono ?_); rintro e w1 ⟨rfl, rfl⟩))
    go_ret
    exact ⟨rfl, V, HH.out, Frm.Turn.refl _ _, fun _ _ _ h => h⟩
  | some i =>
    obtain ⟨i1, i2, i3, i4⟩ := fsI_some hq
    have hm := List.mem_of_getElem? i2
    have e1 : ixI x (L s) = (i : Int) := by unfold ixI; rw [hq]
    rw [e1] at HIX
    rw [decide_eq_true hm]
    have hrow := h.row s hs
    obtain ⟨g, rfl⟩ : ∃ g, ao = some ⟨g, 0, none⟩ := by
      rcases hrow.2 with ⟨h1, h2⟩ | ⟨g, c', cur, h1, _⟩
      · omega
      · rw [hV] at h1
        simp only [Value.slice.injEq] at h1
        exact ⟨g, h1.1⟩
    rw [hV] at hrow
    have hdel := wdel_any hrow i1 (by intro u hu; simp [u64s] at hu; obtain ⟨x, _, rfl⟩ := hu; rfl) ((i : Int) + 1) rfl
    have HDL := Lib.hid hdel
    have HE : Hid ((u64s (L s)).take i ++ (u64s (L s)).drop (i + 1) = u64s ((L s).erase x) ∧ ((L s).erase x).length = (L s).length - 1) := Lib.hid ⟨by rw [← i4]; simp [u64s, List.map_take, List.map_drop], List.length_erase_of_mem hm⟩
    have HH := Lib.hid h
    have HV := Lib.hid hV
    have HS := Lib.hid hs
    have b0 : ¬ (i : Int) < 0 := by omega
    have b1 : IntKind.i64.wrap ((i : Int) + 1) = (i : Int) + 1 := by rw [IntKind.wrap_i64]; omega
    have b2 : wrap64 ((i : Int) + 1) = (i : Int) + 1 := by unfold wrap64; omega
    clear h hq hm e1 hV hl hs hdel hrow i1 i2 i3 i4
    go_enter Tryz.func39, Tryz.ntmps39
    go_wp2_with (first
      | (go_at_call 87; (with_reducible refine (HLO.out).mono ?_); rintro e w1 ⟨rfl, rfl⟩)
      | (go_at_call 88; (with_reducible refine (HIX.out).mono ?_); rintro e w1 ⟨rfl, rfl⟩)
      | (go_at_call 89; (with_reducible refine (HDL.out).mono ?_); rintro e w9 ⟨rfl, ho, hT⟩;
          have HT9 : Hid (Frm.Turn (V s).ownBlock.toList W w9) := Lib.hid (by rw [HV.out]; exact hT);
          have HO9 : Hid (w9.ownsRow base 31 1 (.slice (some ⟨g, 0, none⟩) ((L s).length - 1) ac) ((L s).erase x).length (u64s ((L s).erase x))) := Lib.hid (by rw [HE.out.2, ← HE.out.1]; exact ho);
          have hb9 := HT9.out.keep HH.out.body (by simpa using HH.out.vr s HS.out);
          have c9 : w9.cell? ⟨r, s, none⟩ = some (.slice (some ⟨g, 0, none⟩) (L s).length ac) := (by rw [Frm.cell_row _ _ _ _ _ _ hb9, List.getElem?_toArray, atL_get HS.out, HV.out]);
          have f9 : w9.frozen? ⟨r, s, none⟩ = false := Frm.frozen_row _ _ _ _ _ hb9;
          clear hb9 ho hT))
    go_ret
    obtain ⟨p1, p2⟩ := HH.out.put HS.out HT9.out HO9.out (fun q hq => .inl (by rw [HV.out]; exact hq))
    refine ⟨rfl, _, p1, p2, fun j q hj hq => ?_⟩
    by_cases e : j = s
    · subst e
      rw [upA_at] at hq
      rw [HV.out]; exact hq
    · rw [upA_ne _ _ e] at hq
      exact hq
set_option maxRecDepth 100000 in
theorem take_out (x v : Int) (W : World) (hx : x < 0 ∨ 255 ≤ x) : Calls Tryz.prog 39 #[.pointer (some ⟨r, 0, none⟩), .int .i64 x, .int .u64 v] W fun e w' => e = .returned (.bool false) ∧ W = w' := by
  have HLO := Lib.hid (listOf_out (r := r) x W hx)
  clear hx
  go_enter Tryz.func39, Tryz.ntmps39
  go_wp2_with (first
    | (go_at_call 87; (with_reducible refine (HLO.out).mono ?_); rintro e w1 ⟨rfl, rfl⟩))
  go_ret
  exact ⟨rfl, rfl⟩
theorem put_out (x : Int) (u : Value) (W : World) (hx : x < 0 ∨ 255 ≤ x) : Calls Tryz.prog 36 #[.pointer (some ⟨r, 0, none⟩), .int .i64 x, u] W fun e w' => e = .returned (.tuple #[]) ∧ W = w' := by
  have HLO := Lib.hid (listOf_out (r := r) x W hx)
  clear hx
  go_enter Tryz.func36, Tryz.ntmps36
  go_wp2_with (first
    | (go_at_call 87; (with_reducible refine (HLO.out).mono ?_); rintro e w1 ⟨rfl, rfl⟩))
  go_end0
  exact ⟨rfl, rfl⟩
set_option maxRecDepth 100000 in
set_option maxHeartbeats 4000000 in
theorem len_any (h : Lists W base r L V lg) (hN : (allW L 255).length ≤ 1000000) :
    Calls Tryz.prog 42 #[.pointer (some ⟨r, 0, none⟩)] W fun e w' => e = .returned (.int .i64 ((allW L 255).length : Int)) ∧ W = w' := by
  obtain ⟨VA, VC, hf⟩ := h.form
  obtain ⟨cs, hcs⟩ : ∃ cs, cs = (List.range 255).map V := ⟨_, rfl⟩
  have hrg := h.range
  rw [← hcs] at hrg
  have HRG := Lib.hid hrg
  have HU := Lib.hid under_255
  have HLN : Hid (cs.length = 255) := Lib.hid (by rw [hcs]; simp)
  have HIX : Hid (∀ (i : Nat) (hi : i < 255) (w : World), (Instr.index 88 (.agg cs.toArray) (.int .i64 i)).run Tryz.prog w = .ok (.slice (VA i) (L i).length (VC i)) w) := Lib.hid (fun i hi w => by
    refine ix_arr under_255 info_sl agg_sl hi ?_ w
    rw [hcs, ← hf i hi]
    simp [List.getElem?_range hi])
  have HA := Lib.hid (fun i (hi : i < 255) => allW_le L hi)
  have HN := Lib.hid hN
  clear h hN hf hcs hrg
  go_enter Tryz.func42, Tryz.ntmps42
  go_wp2_with (first
    | (refine wpList_load_mid rfl 88 (.tmp 10) rfl r 0 rfl cs _ HRG.out HU.out rfl (by rw [HLN.out]; exact info_255) ?_))
  go_loopw [3, 12] (fun n i wr => ∃ j : Nat, j ≤ 255 ∧ i = .int .i64 j ∧ n = .int .i64 ((allW L j).length : Int) ∧ W = wr) (fun _ i _ => 255 - (intOf i).toNat)
  case atStart => exact ⟨0, by omega, rfl, rfl, rfl⟩
  case round =>
    obtain ⟨j, hj, rfl, rfl, rfl⟩ := hrel
    by_cases e : j < 255
    · have hx := HIX.out j e
      have hA := HA.out j e
      have hN := HN.out
      have h1 : (j : Int) < 255 := by omega
      have h2 : (allW L (j + 1)).length = (allW L j).length + (L j).length := by simp [allW]
      have H2 := Lib.hid h2
      have h3 : ((allW L j).length : Int) + ((L j).length : Int) ≤ 1000000 := by omega
      have h4 : (0 : Int) ≤ ((allW L j).length : Int) + ((L j).length : Int) := by omega
      clear hA hN h2
      go_wp2
      refine ⟨⟨j + 1, by omega, by simp, by rw [H2.out]; simp, trivial⟩, by simp [intOf]; omega⟩
    · obtain rfl : j = 255 := by omega
      have h1 : ¬ ((255 : Nat) : Int) < 255 := by omega
      go_wp2
      go_ret
      exact ⟨rfl, rfl⟩
end Att
end Go.Proofs.YtpajafecodkndaaGreat

set_option linter.unusedVariables false
set_option linter.unusedSimpArgs false
namespace Go.Proofs.YtpajafecodkndaaGreat
namespace Att
open Go.RowKit Go.Maps Arn

variable {V : Nat → Value} {lg : Value} {L : Nat → List Int} {W W' : World} {base r s : Nat}
set_option maxRecDepth 100000 in
set_option maxHeartbeats 4000000 in
theorem list_any (h : Lists W base r L V lg) (hs : s < 255) (hl : (L s).length ≤ 65536) :
    Calls Tryz.prog 45 #[.pointer (some ⟨r, 0, none⟩), .int .i64 s] W fun e w' => ∃ ao c, e = .returned (.slice ao (L s).length c) ∧ w'.ownsRow W.heap.size 31 1 (.slice ao (L s).length c) (L s).length (u64s (L s)) ∧ Frm.Turn [] W w' := by
  have HLO := Lib.hid (listOf_in (r := r) W hs)
  have c0 := h.cell hs
  have hw := h.words hs
  obtain ⟨ao, ac, hV⟩ := Frm.row_form (h.row s hs)
  rw [hV] at c0 hw
  have HCL : Hid (Calls Tryz.prog 63 #[.slice ao (L s).length ac] W fun e w' => ∃ ao c, e = .returned (.slice ao (L s).length c) ∧ w'.ownsRow W.heap.size 31 1 (.slice ao (L s).length c) (L s).length (u64s (L s)) ∧ Frm.Turn [] W w') := Lib.hid (by
    rcases hw with ⟨h1, h2⟩ | ⟨a, c, h1, h2⟩
    · rw [h1]
      refine (uclone_nil W).mono ?_
      rintro e w' ⟨rfl, rfl⟩
      rw [h2]
      exact ⟨none, 0, rfl, World.ownsRow_nil _ _ _ _, Frm.Turn.refl [] _⟩
    · rw [h1]
      refine (uclone_some a c (L s) W h2 hl).mono ?_
      rintro e w' ⟨g', c', rfl, h1, h2, h3⟩
      refine ⟨some ⟨g', 0, none⟩, c', rfl, ?_, h3⟩
      refine ⟨h1.1, .inr ?_⟩
      rcases h1.2 with ⟨e1, _⟩ | ⟨g, cap, cur, e1, _, r1⟩
      · cases e1
      · simp only [Value.slice.injEq, Option.some.injEq, Addr.mk.injEq, and_true, true_and] at e1
        obtain ⟨rfl, rfl⟩ := e1
        exact ⟨_, _, cur, rfl, h2, r1⟩)
  clear h hw hV hl hs
  go_enter Tryz.func45, Tryz.ntmps45
  go_wp2_with (first
    | (go_at_call 87; (with_reducible refine (HLO.out).mono ?_); rintro e w1 ⟨rfl, rfl⟩)
    | (go_at_call 63; (with_reducible refine (HCL.out).mono ?_); rintro e w1 ⟨ao2, c2, rfl, ho, hT⟩; have HO := Lib.hid ho; have HT := Lib.hid hT; clear ho hT))
  go_ret
  exact ⟨ao2, c2, rfl, HO.out, HT.out⟩
set_option maxRecDepth 100000 in
/-- slices.Grow of nothing. -/
theorem grow_any (n : Nat) (W : World) (hn : n ≤ 1000000) :
    Calls Tryz.prog 121 #[.slice none 0 0, .int .i64 n] W fun e w' => ∃ ao c, e = .returned (.slice ao 0 c) ∧ w'.ownsRow W.heap.size 31 1 (.slice ao 0 c) 0 [] ∧ Frm.Turn [] W w' := by
  cases n with
  | zero =>
    have e0 : ((0 : Nat) : Int) = 0 := rfl
    rw [e0]
    go_enter Tryz.func121, Tryz.ntmps121
    go_wp2
    go_ret
    exact ⟨none, 0, rfl, World.ownsRow_nil _ _ _ _, Frm.Turn.refl _ _⟩
  | succ n =>
    obtain ⟨i0, hi, hz0, hz1, hz2⟩ := infw info_u64
    have hr := fun ty => Lib.run_append_nil_zeros (P := Tryz.prog) W 25 3 ty 31 i0 (.int .u64 0) .i64 .i64 under_u64s (by kernel_rfl) hi hz0 (n + 1) (by omega) (by omega) (by omega) (by rw [hz2]; omega)
    obtain ⟨gc, hgc⟩ : ∃ gc, gc = grownCap W (n + 1) 0 31 := ⟨_, rfl⟩
    have hg1 := grownCap_ge W (n + 1) 0 31
    have hg2 := grownCap_le_maxLen W (n + 1) 0 31 (by unfold maxLen; omega)
    rw [← hgc] at hr hg1 hg2
    obtain ⟨zz, hzz⟩ : ∃ zz, zz = Builtin.zeroCells (Value.int .u64 0).cells (n + 1) ++ Builtin.zeroCells (Value.int .u64 0).cells (gc - (n + 1)) := ⟨_, rfl⟩
    rw [← hzz] at hr
    have hsz : zz.size = gc := by rw [hzz]; simp [Builtin.zeroCells, Value.cells]; omega
    have HO : Hid ((W.drew.alloc (.cells zz 31)).ownsRow W.heap.size 31 1 (.slice (some ⟨W.heap.size, 0, none⟩) 0 gc) 0 []) := Lib.hid ⟨rfl, .inr ⟨_, gc, zz, rfl, Nat.le_refl _, World.alloc_heap_new W.drew _, Nat.zero_le _, hg2, by omega, by simp⟩⟩
    have HT : Hid (Frm.Turn [] W (W.drew.alloc (.cells zz 31))) := Lib.hid ((Frm.Turn.refl [] W).drew.alloc _)
    have HR := Lib.hid hr
    obtain ⟨m, hm⟩ : ∃ m : Int, m = ((n + 1 : Nat) : Int) := ⟨_, rfl⟩
    have b0 : ¬ m < 0 := by omega
    have b1 : (0 : Int) < m := by omega
    have b2 : m ≤ 1000000 := by omega
    have b3 : wrap64 m = m := by unfold wrap64; omega
    have b4 : IntKind.i64.wrap m = m := by rw [IntKind.wrap_i64]; omega
    have HR2 : Hid (∀ ty, (Builtin.append_ #[25, 3] ty #[.slice none 0 0, .int .i64 m]).run Tryz.prog W = .ok (.slice (some ⟨W.heap.size, 0, none⟩) (n + 1) gc) (W.drew.alloc (.cells zz 31))) := Lib.hid (by rw [hm]; exact hr)
    have bn : n + 1 ≤ gc := hg1
    have bg : gc ≤ 9223372036854775807 := by simpa [maxLen] using hg2
    rw [← hm]
    clear hr hsz hzz hgc hn hg1 hg2 hm HR
    go_enter Tryz.func121, Tryz.ntmps121
    go_wp2_with (first
      | (refine Lib.wpList_append_run _ rfl (.tmp 20) (.tmp 21) 25 3 rfl _ _ rfl rfl _ _ (HR2.out _) ?_))
    go_ret
    exact ⟨_, _, rfl, HO.out, HT.out⟩
end Att
end Go.Proofs.YtpajafecodkndaaGreat

set_option linter.unusedVariables false
set_option linter.unusedSimpArgs false
namespace Go.Proofs.YtpajafecodkndaaGreat
namespace Att
open Go.RowKit Go.Maps Arn

variable {V : Nat → Value} {lg : Value} {L : Nat → List Int} {W W' : World} {base r s : Nat}
set_option maxRecDepth 100000 in
set_option maxHeartbeats 4000000 in
/-- slices.Concat of the lists. -/
theorem concat_any (h : Lists W base r L V lg) (hN : (allW L 255).length ≤ 1000000) :
    Calls Tryz.prog 93 #[.slice (some ⟨r, 0, none⟩) 255 255] W fun e w' => ∃ ao c, e = .returned (.slice ao (allW L 255).length c) ∧ w'.ownsRow W.heap.size 31 1 (.slice ao (allW L 255).length c) (allW L 255).length (u64s (allW L 255)) ∧ Frm.Turn [] W w' := by
  obtain ⟨VA, VC, hf⟩ := h.form
  have HCE : Hid (∀ i, i < 255 → W.cell? ⟨r, i, none⟩ = some (.slice (VA i) (L i).length (VC i))) := Lib.hid (fun i hi => by rw [← hf i hi]; exact h.cell hi)
  have HRW : Hid (∀ i, i < 255 → W.ownsRow base 31 1 (.slice (VA i) (L i).length (VC i)) (L i).length (u64s (L i))) := Lib.hid (fun i hi => by rw [← hf i hi]; exact h.row i hi)
  have HON : Hid (∀ i, ∀ u ∈ u64s (L i), u.oneCell' = true) := Lib.hid (by intro i u hu; simp [u64s] at hu; obtain ⟨x, _, rfl⟩ := hu; rfl)
  have HA := Lib.hid (fun i (hi : i < 255) => allW_le L hi)
  have HN := Lib.hid hN
  have HGR := Lib.hid (grow_any (allW L 255).length W hN)
  obtain ⟨i0, hi, hz0, hz1, hz2⟩ := infw info_u64
  clear h hN hf
  go_enter Tryz.func93, Tryz.ntmps93
  go_wp2
  go_loopw [3, 11] (fun n i wr => ∃ j : Nat, j ≤ 255 ∧ i = .int .i64 j ∧ n = .int .i64 ((allW L j).length : Int) ∧ W = wr) (fun _ i _ => 255 - (intOf i).toNat)
  case atStart => exact ⟨0, by omega, rfl, rfl, rfl⟩
  case round =>
    obtain ⟨j, hj, rfl, rfl, rfl⟩ := hrel
    by_cases e : j < 255
    · have hx := HCE.out j e
      have hA := HA.out j e
      have hN := HN.out
      have h1 : (j : Int) < 255 := by omega
      have h2 : (allW L (j + 1)).length = (allW L j).length + (L j).length := by simp [allW]
      have H2 := Lib.hid h2
      obtain ⟨sz, hsz⟩ : ∃ sz : Int, sz = ((allW L j).length : Int) := ⟨_, rfl⟩
      obtain ⟨m, hm⟩ : ∃ m : Nat, m = (L j).length := ⟨_, rfl⟩
      have h3 : sz + (m : Int) ≤ 1000000 := by omega
      have h4 : (0 : Int) ≤ sz + (m : Int) := by omega
      have h5 : ¬ sz + (m : Int) < 0 := by omega
      have h6 : IntKind.i64.wrap (sz + (m : Int)) = sz + (m : Int) := by rw [IntKind.wrap_i64]; omega
      have h7 : wrap64 (sz + (m : Int)) = sz + (m : Int) := by unfold wrap64; omega
      have H3 : Hid (((allW L (j + 1)).length : Int) = sz + (m : Int)) := Lib.hid (by omega)
      rw [← hm] at hx
      rw [← hsz]
      clear hA hN h2 hsz hm H2 HRW HGR HA HN
      go_wp2
      refine ⟨⟨j + 1, by omega, by simp, by rw [H3.out], trivial⟩, by simp [intOf]; omega⟩
    · obtain rfl : j = 255 := by omega
      have h1 : ¬ ((255 : Nat) : Int) < 255 := by omega
      go_wp2_with (go_at_call 121; (with_reducible refine (HGR.out).mono ?_); rintro e w1 ⟨ao, c, rfl, ho, hT⟩; have HO := Lib.hid ho; have HT := Lib.hid hT; clear ho hT)
      go_loopw [6, 27] (fun v i wr => ∃ (j : Nat) (ao : Option Addr) (c : Nat), j ≤ 255 ∧ i = .int .i64 j ∧ v = .slice ao (allW L j).length c ∧ wr.ownsRow W.heap.size 31 1 (.slice ao (allW L j).length c) (allW L j).length (u64s (allW L j)) ∧ Frm.Turn [] W wr) (fun _ i _ => 255 - (intOf i).toNat)
      case atStart => exact ⟨0, ao, c, by omega, rfl, rfl, HO.out, HT.out⟩
      case round =>
        obtain ⟨j, ao, c, hj, rfl, rfl, ho, hT⟩ := hrel
        have HO2 := Lib.hid ho
        have HT2 := Lib.hid hT
        by_cases e : j < 255
        · have hx := hT.cell (HCE.out j e) (by simp)
          have HY := Lib.hid (Frm.owns_turn (HRW.out j e) hT (by simp))
          have hA := HA.out j e
          have hN := HN.out
          have HL : Hid ((allW L j).length + (L j).length ≤ 1000000) := Lib.hid (by omega)
          have HB : Hid (W.heap.size ≤ wr.heap.size) := Lib.hid hT.size
          have h1 : (j : Int) < 255 := by omega
          have H2 : Hid ((allW L (j + 1)).length = (allW L j).length + (L j).length ∧ u64s (allW L (j + 1)) = u64s (allW L j) ++ u64s (L j)) := Lib.hid ⟨by simp [allW], by simp [allW, u64s]⟩
          clear hA hN ho hT
          go_wp2_with (first
            | (at_builtin; go_must (refine Frm.wpList_append_rows _ rfl (.tmp 31) (.tmp 32) 25 rfl W.heap.size 31 i0 (.int .u64 0) 1 8 under_u64s hi hz0 hz1 hz2 rfl (by decide) (.slice ao (allW L j).length c) (allW L j).length (u64s (allW L j)) rfl HO2.out (.slice (VA j) (L j).length (VC j)) rfl (L j).length base (u64s (L j)) HY.out (HON.out j) (by have := HL.out; unfold maxLen; omega) (by have := HL.out; omega) HB.out ?_); intro v9 w9 hown9 hg9 hl9; obtain ⟨va, vc, rfl⟩ := Frm.row_form hown9; have HO9 := Lib.hid hown9; have HT9 : Hid (Frm.Turn [] W w9) := Lib.hid (HT2.out.trans (Frm.Turn.of_grown hg9) (fun q hq => .inr (by have := (HO2.out.lt q (by simpa using hq)).1; omega))); clear hown9 hg9 hl9))
          refine ⟨⟨j + 1, va, vc, by omega, by simp, by rw [H2.out.1], by rw [H2.out.1, H2.out.2]; exact HO9.out, HT9.out⟩, by simp [intOf]; omega⟩
        · obtain rfl : j = 255 := by omega
          have h1 : ¬ ((255 : Nat) : Int) < 255 := by omega
          clear ho hT
          go_wp2
          go_ret
          exact ⟨ao, c, rfl, HO2.out, HT2.out⟩
set_option maxRecDepth 100000 in
theorem all_any (h : Lists W base r L V lg) (hN : (allW L 255).length ≤ 1000000) :
    Calls Tryz.prog 44 #[.pointer (some ⟨r, 0, none⟩)] W fun e w' => ∃ ao c, e = .returned (.slice ao (allW L 255).length c) ∧ w'.ownsRow W.heap.size 31 1 (.slice ao (allW L 255).length c) (allW L 255).length (u64s (allW L 255)) ∧ Frm.Turn [] W w' := by
  have HC := Lib.hid (concat_any h hN)
  clear h hN
  go_enter Tryz.func44, Tryz.ntmps44
  go_wp2_with (go_at_call 93; (with_reducible refine (HC.out).mono ?_); rintro e w1 ⟨ao, c, rfl, ho, hT⟩; have HO := Lib.hid ho; have HT := Lib.hid hT; clear ho hT)
  go_ret
  exact ⟨ao, c, rfl, HO.out, HT.out⟩
end Att
end Go.Proofs.YtpajafecodkndaaGreat
