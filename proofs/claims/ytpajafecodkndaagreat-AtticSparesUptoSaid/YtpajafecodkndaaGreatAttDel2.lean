/- slices.DeleteFunc over words of one's own, by a function literal that looks among others. -/
/- slices.DeleteFunc, its second loop. -/
import Derived.Test.YtpajafecodkndaaGreatAttMem4
import Derived.Test.YtpajafecodkndaaGreatPaceCall
set_option linter.unusedVariables false
set_option linter.unusedSimpArgs false
namespace Go.Proofs.YtpajafecodkndaaGreat
namespace Att
open Go.RowKit Go.Maps Arn

variable {W W' : World} {base g n c hb : Nat} {hv : Value} {held xs : List Int}
set_option maxRecDepth 100000 in
theorem among_any (x : Int) (hc : W.cell? ⟨hb, 0, none⟩ = some hv) (hw : WordsAt W hv held) (hl : held.length ≤ 1000000) :
    Calls Tryz.prog 155 #[.int .u64 x, .pointer (some ⟨hb, 0, none⟩)] W fun e w' => e = .returned (.bool (decide (x ∈ held))) ∧ W = w' := by
  obtain ⟨ao, c, rfl⟩ : ∃ ao c, hv = .slice ao held.length c := by
    rcases hw with ⟨rfl, rfl⟩ | ⟨a, c, rfl, _⟩
    · exact ⟨none, 0, rfl⟩
    · exact ⟨some a, c, rfl⟩
  have H := Lib.hid (whas_any _ held x W hw hl)
  clear hw hl
  go_enter Tryz.func155, Tryz.ntmps155
  go_wp2_with (go_at_call 156; (with_reducible refine (H.out).mono ?_); rintro e w1 ⟨rfl, rfl⟩)
  go_ret
  exact ⟨rfl, rfl⟩
/-- The place of the first one that is held. -/
def fhI (held : List Int) : List Int → Option Nat
  | [] => none
  | y :: t => if y ∈ held then some 0 else (fhI held t).map (· + 1)
theorem fhI_some : ∀ {l : List Int} {i : Nat}, fhI held l = some i → i < l.length ∧ (∃ y, l[i]? = some y ∧ y ∈ held) ∧ (∀ j y, j < i → l[j]? = some y → y ∉ held) ∧ (l.take i).filter (fun x => decide (x ∉ held)) = l.take i := by
  intro l
  induction l with
  | nil => intro i h; simp [fhI] at h
  | cons y t ih =>
    intro i h
    unfold fhI at h
    by_cases e : y ∈ held
    · rw [if_pos e] at h
      cases h
      exact ⟨by simp, ⟨y, by simp, e⟩, fun j _ hj => absurd hj (Nat.not_lt_zero _), by simp⟩
    · rw [if_neg e] at h
      cases hq : fhI held t with
      | none => rw [hq] at h; simp at h
      | some j0 =>
        rw [hq] at h
        simp at h
        subst h
        obtain ⟨h1, ⟨z, h2, h2'⟩, h3, h4⟩ := ih hq
        refine ⟨by simp; omega, ⟨z, by simpa using h2, h2'⟩, fun j z hj hz => ?_, ?_⟩
        · cases j with
          | zero => simp at hz; subst hz; exact e
          | succ j => exact h3 j z (by omega) (by simpa using hz)
        · rw [List.take_succ_cons, List.filter_cons_of_pos (by simpa using e), h4]
theorem fhI_none : ∀ {l : List Int}, fhI held l = none → l.filter (fun x => decide (x ∉ held)) = l := by
  intro l
  induction l with
  | nil => simp
  | cons y t ih =>
    intro h
    unfold fhI at h
    by_cases e : y ∈ held
    · rw [if_pos e] at h; cases h
    · rw [if_neg e] at h
      rw [List.filter_cons_of_pos (by simpa using e), ih (by simpa using h)]
def fxI (held l : List Int) : Int := match fhI held l with
  | some i => i
  | none => -1
/-- The function value. -/
def amongV (hb : Nat) : Value := .func (.func 155) #[] #[.pointer (some ⟨hb, 0, none⟩)]
theorem enters_among : Enters Tryz.prog 155 := enters_of Tryz.func155 (by kernel_rfl) rfl
theorem fhI_at {l : List Int} {j : Nat} {y : Int} (hy : l[j]? = some y) (hm : y ∈ held) (hno : ∀ i z, i < j → l[i]? = some z → z ∉ held) : fhI held l = some j := by
  cases hq : fhI held l with
  | none =>
    have h1 := fhI_none hq
    have : y ∈ l.filter (fun x => decide (x ∉ held)) := by rw [h1]; exact List.mem_of_getElem? hy
    simp [hm] at this
  | some i =>
    obtain ⟨h1, ⟨z, h2, h2'⟩, h3, h4⟩ := fhI_some hq
    congr 1
    rcases Nat.lt_trichotomy i j with h | h | h
    · exact absurd h2' (hno i z h h2)
    · exact h
    · exact absurd hm (h3 j y h hy)
set_option maxRecDepth 100000 in
set_option maxHeartbeats 4000000 in
theorem findex_any {ao : Option Addr} (h : WordsAt W (.slice ao xs.length c) xs) (hl : xs.length ≤ 1000000) (hc : W.cell? ⟨hb, 0, none⟩ = some hv) (hw : WordsAt W hv held) (hh : held.length ≤ 1000000) :
    Calls Tryz.prog 169 #[.slice ao xs.length c, .func (.func 155) #[] #[.pointer (some ⟨hb, 0, none⟩)]] W fun e w' => e = .returned (.int .i64 (fxI held xs)) ∧ W = w' := by
  obtain ⟨n, hnn⟩ : ∃ n, n = xs.length := ⟨_, rfl⟩
  have hcs : Hid (∀ j y, xs[j]? = some y → ∃ a, ao = some a ∧ W.cell? (a.add j) = some (.int .u64 y)) := by
    rcases h with ⟨e, rfl⟩ | ⟨a, c', e, h⟩
    · exact Lib.hid (fun j y hj => by simp at hj)
    · simp only [Value.slice.injEq] at e
      obtain ⟨rfl, _, rfl⟩ := e
      exact Lib.hid (fun j y hj => ⟨a, rfl, h j _ (by simp [u64s, hj])⟩)
  rw [← hnn] at hl ⊢
  have HNN := Lib.hid hnn
  have HAM := Lib.hid (fun x => among_any x hc hw hh)
  have h3 : ∀ (args : Array Value) (w : World), (callFunc 155 args).run Tryz.prog w = .ok (.enter 155 args) w := enters_among
  clear h hnn hc hw hh
  go_enter Tryz.func169, Tryz.ntmps169
  go_wp2
  go_loopw [8] (fun s8 wr => ∃ j : Nat, j ≤ n ∧ s8 = .int .i64 j ∧ (∀ i y, i < j → xs[i]? = some y → y ∉ held) ∧ wr = W) (fun s8 _ => n - (intOf s8).toNat)
  case atStart => exact ⟨0, by omega, rfl, fun i _ hi => absurd hi (Nat.not_lt_zero _), rfl⟩
  case round =>
    obtain ⟨j, hj, rfl, hno, rfl⟩ := hrel
    have HNO := Lib.hid hno
    have hj0 : (0 : Int) ≤ (j : Int) := by omega
    by_cases e : j < n
    · have hjn : (j : Int) < (n : Int) := by omega
      obtain ⟨y, hy⟩ : ∃ y, xs[j]? = some y := ⟨_, List.getElem?_eq_getElem (by have := HNN.out; omega)⟩
      obtain ⟨a, rfl, c0⟩ := hcs.out j y hy
      have HY := Lib.hid hy
      have HC := Lib.hid (HAM.out y)
      clear hno hy hcs HAM
      by_cases e2 : y ∈ held
      · rw [decide_eq_true e2] at HC
        have HE := Lib.hid e2
        clear e2
        go_wp2_with (go_at_call 155; (with_reducible refine (HC.out).mono ?_); rintro e w1 ⟨rfl, rfl⟩)
        go_ret
        refine ⟨?_, rfl⟩
        unfold fxI
        rw [fhI_at HY.out HE.out HNO.out]
        rfl
      · rw [decide_eq_false e2] at HC
        have HE := Lib.hid e2
        clear e2
        go_wp2_with (go_at_call 155; (with_reducible refine (HC.out).mono ?_); rintro e w1 ⟨rfl, rfl⟩)
        refine ⟨⟨j + 1, by omega, by simp, fun i z hi hz => ?_, trivial⟩, by simp [intOf]; omega⟩
        by_cases e3 : i = j
        · subst e3; rw [HY.out] at hz; cases hz; exact HE.out
        · exact HNO.out i z (by omega) hz
    · have hjn : ¬ (j : Int) < (n : Int) := by omega
      clear hno hcs HAM
      go_wp2
      go_ret
      refine ⟨?_, rfl⟩
      have : fhI held xs = none := by
        cases hq : fhI held xs with
        | none => rfl
        | some i =>
          obtain ⟨h1, ⟨z, h2, h2'⟩, _⟩ := fhI_some hq
          exact absurd h2' (HNO.out i z (by have := HNN.out; omega) h2)
      unfold fxI
      rw [this]
      rfl
end Att
end Go.Proofs.YtpajafecodkndaaGreat

set_option linter.unusedVariables false
set_option linter.unusedSimpArgs false
namespace Go.Proofs.YtpajafecodkndaaGreat
namespace Att
open Go.RowKit Go.Maps Arn

variable {W W' : World} {base g n c hb : Nat} {hv : Value} {held xs : List Int}
def notIn (held xs : List Int) : List Int := xs.filter fun x => decide (x ∉ held)
theorem notIn_snoc (held : List Int) {xs : List Int} {j : Nat} {y : Int} (hy : xs[j]? = some y) : notIn held (xs.take (j + 1)) = notIn held (xs.take j) ++ (if y ∈ held then [] else [y]) := by
  unfold notIn
  rw [List.take_add_one, hy, List.filter_append]
  congr 1
  by_cases e : y ∈ held <;> simp [e]
/-- Some of the row is sorted out already. -/
structure Mid (W wr : World) (base g n c : Nat) (held xs : List Int) (i j : Nat) (ys : List Int) : Prop where
  own : wr.ownsRow base 31 1 (.slice (some ⟨g, 0, none⟩) n c) n (u64s ys)
  len : ys.length = n
  kept : ys.take i = notIn held (xs.take j)
  rest : ys.drop j = xs.drop j
  ij : i < j
  jn : j ≤ n
  turn : Frm.Turn [g] W wr
theorem u64s_one (ys : List Int) : ∀ u, u ∈ u64s ys → u.oneCell' = true := by intro u hu; simp [u64s] at hu; obtain ⟨x, _, rfl⟩ := hu; rfl
theorem u64s_set (ys : List Int) (i : Nat) (y : Int) : (u64s ys).set i (.int .u64 y) = u64s (ys.set i y) := by simp [u64s, List.map_set]
theorem Mid.put {wr : World} {i j : Nat} {ys : List Int} {y : Int} (h : Mid W wr base g n c held xs i j ys) (hy : xs[j]? = some y) (hj : j < n) (hm : y ∉ held) : Mid W (wr.setCell ⟨g, i, none⟩ (.int .u64 y)) base g n c held xs (i + 1) (j + 1) (ys.set i y) := by
  have hij := h.ij
  have hl := h.len
  refine ⟨?_, by rw [List.length_set]; exact h.len, ?_, ?_, by omega, by omega, h.turn.setCell (.inl (by simp)) _⟩
  · have := (World.ownsRow.stored h.own i (.int .u64 y)).1
    rwa [u64s_set] at this
  · rw [notIn_snoc held hy, if_neg hm, ← h.kept]
    apply List.ext_getElem?
    intro k
    rw [List.getElem?_take, List.getElem?_append]
    have hlt : (ys.take i).length = i := by simp; omega
    rw [hlt]
    by_cases k1 : k < i
    · rw [if_pos (by omega), if_pos k1, List.getElem?_set_ne (by omega), List.getElem?_take, if_pos k1]
    · rw [if_neg k1]
      by_cases k2 : k = i
      · subst k2
        rw [if_pos (by omega), List.getElem?_set_self (by omega), Nat.sub_self]
        rfl
      · rw [if_neg (by omega)]
        rw [List.getElem?_eq_none (by simp; omega)]
  · rw [List.drop_set_of_lt (by omega)]
    have := congrArg (List.drop 1) h.rest
    simpa [List.drop_drop, Nat.add_comm] using this
theorem Mid.skip {wr : World} {i j : Nat} {ys : List Int} {y : Int} (h : Mid W wr base g n c held xs i j ys) (hy : xs[j]? = some y) (hj : j < n) (hm : y ∈ held) : Mid W wr base g n c held xs i (j + 1) ys := by
  have hij := h.ij
  refine ⟨h.own, h.len, ?_, ?_, by omega, by omega, h.turn⟩
  · rw [notIn_snoc held hy, if_pos hm, List.append_nil]; exact h.kept
  · have := congrArg (List.drop 1) h.rest
    simpa [List.drop_drop, Nat.add_comm] using this
theorem Mid.cell {wr : World} {i j : Nat} {ys : List Int} {y : Int} (h : Mid W wr base g n c held xs i j ys) (hy : xs[j]? = some y) : wr.cell? ⟨g, j, none⟩ = some (.int .u64 y) := by
  have h1 : ys[j]? = some y := by
    have := congrArg (fun l => l[0]?) h.rest
    simpa [hy] using this
  exact (owns_cell h.own (by simp [u64s, h1])).1
theorem Mid.there {wr : World} {i j : Nat} {ys : List Int} (h : Mid W wr base g n c held xs i j ys) {k : Nat} (hk : k < n) : ∃ u, wr.cell? ⟨g, k, none⟩ = some u ∧ wr.frozen? ⟨g, k, none⟩ = false := by
  have hl := h.len
  have hx : (u64s ys)[k]? = some ((u64s ys)[k]'(by simp [u64s]; omega)) := List.getElem?_eq_getElem _
  obtain ⟨q1, q2⟩ := owns_cell h.own hx
  exact ⟨_, q1, q2⟩
set_option maxRecDepth 100000 in
set_option maxHeartbeats 4000000 in
theorem wdelf_any (h : W.ownsRow base 31 1 (.slice (some ⟨g, 0, none⟩) xs.length c) xs.length (u64s xs)) (hl : xs.length ≤ 1000000) (hc : W.cell? ⟨hb, 0, none⟩ = some hv) (hw : WordsAt W hv held) (hh : held.length ≤ 1000000) (hn1 : hb ≠ g) (hn2 : hv.ownBlock ≠ some g) :
    Calls Tryz.prog 154 #[.slice (some ⟨g, 0, none⟩) xs.length c, .func (.func 155) #[] #[.pointer (some ⟨hb, 0, none⟩)]] W fun e w' => e = .returned (.slice (some ⟨g, 0, none⟩) (notIn held xs).length c) ∧ w'.ownsRow base 31 1 (.slice (some ⟨g, 0, none⟩) (notIn held xs).length c) (notIn held xs).length (u64s (notIn held xs)) ∧ Frm.Turn [g] W w' := by
  have HFX := Lib.hid (findex_any (WordsAt.own ⟨h.1, h.2.imp id (fun ⟨g, c, cur, a, _, r⟩ => ⟨g, c, cur, a, Nat.zero_le _, r⟩)⟩) hl hc hw hh)
  obtain ⟨hc1, hc2, _⟩ := owns_cap h
  cases hq : fhI held xs with
  | none =>
    have e1 : fxI held xs = -1 := by unfold fxI; rw [hq]
    have e2 : notIn held xs = xs := fhI_none hq
    rw [e1] at HFX
    rw [e2]
    have HO := Lib.hid h
    clear h hl hc hw hh hn1 hn2 hq e1 e2 hc1 hc2
    go_enter Tryz.func154, Tryz.ntmps154
    go_wp2_with (go_at_call 169; (with_reducible refine (HFX.out).mono ?_); rintro e w1 ⟨rfl, rfl⟩)
    go_ret
    exact ⟨rfl, HO.out, Frm.Turn.refl _ _⟩
  | some i0 =>
    obtain ⟨i1, ⟨z, i2, i2'⟩, i3, i4⟩ := fhI_some hq
    have e1 : fxI held xs = (i0 : Int) := by unfold fxI; rw [hq]
    rw [e1] at HFX
    have h3 : ∀ (args : Array Value) (w : World), (callFunc 155 args).run Tryz.prog w = .ok (.enter 155 args) w := enters_among
    have HAM : Hid (∀ wr x, Frm.Turn [g] W wr → Calls Tryz.prog 155 #[.int .u64 x, .pointer (some ⟨hb, 0, none⟩)] wr fun e w' => e = .returned (.bool (decide (x ∈ held))) ∧ wr = w') := Lib.hid (fun wr x hT => among_any x (hT.cell hc (by simpa using hn1)) (hw.turn hT (fun q hq => by simp; rintro rfl; exact hn2 hq)) hh)
    have HM0 : Hid (Mid W W base g xs.length c held xs i0 (i0 + 1) xs) := Lib.hid ⟨h, rfl, by rw [notIn_snoc held i2, if_pos i2', List.append_nil]; exact i4.symm, rfl, by omega, by omega, Frm.Turn.refl _ _⟩
    obtain ⟨n, hnn⟩ : ∃ n, n = xs.length := ⟨_, rfl⟩
    rw [← hnn] at HM0 HFX hl i1 hc1 ⊢
    have HNN := Lib.hid hnn
    have hcm : c ≤ 9223372036854775807 := by simpa [maxLen] using hc2
    have b0 : ((i0 : Int) == -1) = false := by simp
    have b0' : ¬ (i0 : Int) = -1 := by omega
    have b1 : (i0 : Int) + 1 ≤ 1000000 := by omega
    clear h hc hw hh hn1 hn2 hq e1 hnn i3 i4 i2 i2' hc2
    go_enter Tryz.func154, Tryz.ntmps154
    go_wp2_with (go_at_call 169; (with_reducible refine (HFX.out).mono ?_); rintro e w1 ⟨rfl, rfl⟩)
    go_loopw [5, 6] (fun a b wr => ∃ (i j : Nat) (ys : List Int), a = .int .i64 i ∧ b = .int .i64 j ∧ Mid W wr base g n c held xs i j ys) (fun _ b _ => n - (intOf b).toNat)
    case atStart => exact ⟨i0, i0 + 1, xs, rfl, by simp, HM0.out⟩
    case round =>
      obtain ⟨i, j, ys, rfl, rfl, hM⟩ := hrel
      have HM := Lib.hid hM
      have hij := hM.ij
      have hjn := hM.jn
      have k0 : (0 : Int) ≤ (i : Int) := by omega
      have k1 : (0 : Int) ≤ (j : Int) := by omega
      have k3 : (i : Int) < (n : Int) := by omega
      have k4 : (j : Int) ≤ 1000000 := by omega
      by_cases e : j < n
      · have k2 : (j : Int) < (n : Int) := by omega
        obtain ⟨y, hy⟩ : ∃ y, xs[j]? = some y := ⟨_, List.getElem?_eq_getElem (by have := HNN.out; omega)⟩
        have c0 := hM.cell hy
        have HC := Lib.hid (HAM.out wr y hM.turn)
        obtain ⟨u, c1, f1⟩ := hM.there (k := i) (by omega)
        have HY := Lib.hid hy
        have HJ := Lib.hid e
        clear hM hy
        by_cases e2 : y ∈ held
        · rw [decide_eq_true e2] at HC
          have HS := Lib.hid (HM.out.skip HY.out e e2)
          clear e2 e HAM HFX c1 f1
          go_wp2_with (go_at_call 155; (with_reducible refine (HC.out).mono ?_); rintro e w1 ⟨rfl, rfl⟩)
          exact ⟨⟨i, j + 1, ys, rfl, by simp, HS.out⟩, by simp [intOf]; have := HJ.out; omega⟩
        · rw [decide_eq_false e2] at HC
          have HS := Lib.hid (HM.out.put HY.out e e2)
          clear e2 e HAM HFX
          go_wp2_with (go_at_call 155; (with_reducible refine (HC.out).mono ?_); rintro e w1 ⟨rfl, rfl⟩)
          exact ⟨⟨i + 1, j + 1, _, by simp, by simp, HS.out⟩, by simp [intOf]; have := HJ.out; omega⟩
      · obtain rfl : j = n := by omega
        have k2 : ¬ (j : Int) < (j : Int) := by omega
        have hk := hM.kept
        rw [show xs.take j = xs by rw [HNN.out, List.take_length]] at hk
        have hlen : (notIn held xs).length = i := by rw [← hk]; simp; have := hM.len; omega
        have hic : i < c := by omega
        have hcl : ∀ ty, (Builtin.clear_ #[25] ty #[.slice (some ⟨g, i, none⟩) (j - i) (c - i)]).run Tryz.prog wr = .ok (.tuple #[]) (wr.setCells g i (List.replicate (j - i) (.int .u64 0))) :=
          fun ty => Lib.run_clear_slice wr _ _ ty _ under_u64s zero64 rfl rfl g i _ _ (by omega) (fun t ht => by obtain ⟨u, q1, _⟩ := hM.there (k := i + t) (by omega); rw [q1]; rfl) (fun t ht => by obtain ⟨u, _, q2⟩ := hM.there (k := i + t) (by omega); exact q2)
        have ho : (wr.setCells g i (List.replicate (j - i) (.int .u64 0))).ownsRow base 31 1 (.slice (some ⟨g, 0, none⟩) (notIn held xs).length c) (notIn held xs).length (u64s (notIn held xs)) := by
          have h2 := owns_setCells (List.replicate (j - i) (.int .u64 0)) i (u64s ys) ((u64s ys).take i ++ List.replicate (j - i) (.int .u64 0)) wr hM.own (by have := hM.len; simp [u64s]; omega) (fun t => by
            have hl := hM.len
            rw [List.getElem?_append]
            have e5 : ((u64s ys).take i).length = i := by simp [u64s]; omega
            rw [e5, List.length_replicate]
            by_cases t1 : t < i
            · rw [if_pos t1, if_neg (by omega), List.getElem?_take, if_pos t1]
            · rw [if_neg t1]
              by_cases t2 : t < i + (j - i)
              · rw [if_pos (by omega)]
              · rw [if_neg (by omega), List.getElem?_eq_none (by simp; omega), List.getElem?_eq_none (by simp [u64s]; omega)])
          have h3 := owns_less h2 (m := i) (by omega)
          rw [hlen]
          rwa [List.take_append_of_le_length (by simp [u64s]; have := hM.len; omega), List.take_take, Nat.min_self, show (u64s ys).take i = u64s (notIn held xs) by rw [← hk]; simp [u64s, List.map_take]] at h3
        have HO := Lib.hid ho
        have HT : Hid (Frm.Turn [g] W (wr.setCells g i (List.replicate (j - i) (.int .u64 0)))) := Lib.hid (setCells_turn (by simp) _ _ _ _ hM.turn)
        have HLN := Lib.hid hlen
        have k5 : i ≤ j := by omega
        have k6 : i ≤ c := by omega
        have k7 : ¬ c = i := by omega
        clear hM hk ho hlen HAM HFX HM e
        go_wp2
        go_ret
        exact ⟨by rw [HLN.out]; rfl, HO.out, HT.out⟩
end Att
end Go.Proofs.YtpajafecodkndaaGreat
