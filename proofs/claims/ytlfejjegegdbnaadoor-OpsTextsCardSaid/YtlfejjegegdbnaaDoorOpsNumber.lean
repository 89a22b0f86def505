/- The document's numbers out of digits: contracts of the call. -/
import Derived.Test.YtlfejjegegdbnaaDoorOpsKnown
import Derived.Test.YtlfejjegegdbnaaDoorOpsSplit
import Derived.LoopTactic
set_option linter.unusedVariables false
set_option linter.unusedSimpArgs false
namespace Go.Proofs.YtlfejjegegdbnaaDoor
namespace Ops
open Go.RowKit Go.Lib

/-- Is it wrong at a glance? -/
def roughB (l : List UInt8) : Bool := l.isEmpty || decide (9 < l.length) || (decide (1 < l.length) && (l.getD 0 0 == 48))
theorem canon_rough (l : List UInt8) : canonB l = (!roughB l && l.all isDig) := by
  unfold canonB roughB
  have e : decide (l.length ≤ 9) = !decide (9 < l.length) := by
    by_cases h : 9 < l.length
    · rw [decide_eq_true h, decide_eq_false (by omega)]; rfl
    · rw [decide_eq_false h, decide_eq_true (by omega)]; rfl
  rw [e]
  cases l.isEmpty <;> cases decide (9 < l.length) <;> cases (decide (1 < l.length) && (l.getD 0 0 == 48)) <;> rfl
theorem num_rough {l : List UInt8} (h : roughB l = true) : numOf l = -1 := by
  unfold numOf
  rw [canon_rough, h]; rfl
theorem num_bad {l : List UInt8} {c : UInt8} (hm : c ∈ l) (h : isDig c = false) : numOf l = -1 := by
  unfold numOf
  have : l.all isDig = false := by
    rw [List.all_eq_false]
    exact ⟨c, hm, by rw [h]; decide⟩
  rw [canon_rough, this]
  cases roughB l <;> rfl
theorem num_good {l : List UInt8} (h : roughB l = false) (hd : ∀ c, c ∈ l → isDig c = true) : numOf l = (valN l : Int) := by
  unfold numOf
  have : l.all isDig = true := List.all_eq_true.2 hd
  rw [canon_rough, this, h]; rfl
theorem valN_le (l : List UInt8) : valN l + 23 ≤ 10 ^ l.length * 23 := by
  refine snoc_ind (P := fun l => valN l + 23 ≤ 10 ^ l.length * 23) (by decide) (fun l c ih => ?_) l
  rw [valN_snoc, List.length_append, List.length_singleton, Nat.pow_succ]
  have := c.toNat_lt
  omega
def NumAt (l : List UInt8) (w0 : World) (n i : Value) (wr : World) : Prop := ∃ k : Nat, k ≤ l.length ∧ i = .int .i64 k ∧ n = .int .i64 (valN (l.take k) : Nat) ∧ (∀ c, c ∈ l.take k → isDig c = true) ∧ wr = w0
theorem take_next (s : ByteArray) (k : Nat) (h : k < s.size) : s.data.toList.take (k + 1) = s.data.toList.take k ++ [s[k]] := by
  rw [List.take_succ_eq_append_getElem (by simpa using h)]; rfl
theorem str_full (s : ByteArray) (h : 0 < s.size) : s.toList.isEmpty = false := by
  cases hh : s.toList with
  | nil =>
    have e : s.toList.length = s.size := by rw [ByteArray.toList_eq]; simp
    rw [hh] at e
    simp only [List.length_nil] at e
    omega
  | cons a r => rfl
theorem pow_small : ∀ k : Nat, k ≤ 9 → 10 ^ k ≤ 1000000000 := by decide

set_option maxRecDepth 100000 in
set_option maxHeartbeats 2000000 in
theorem number_rough (s : ByteArray) (w : World) (hs : s.size ≤ 1000000) (h : roughB s.data.toList = true) :
    Calls Tryd.prog 35 #[.string s] w fun e w' => e = .returned (.int .i64 (numOf s.data.toList)) ∧ w = w' := by
  have HX := Lib.hid (num_rough h)
  have hsl : s.data.toList.length = s.size := by simp
  have h' : s.size = 0 ∨ (0 < s.size ∧ 9 < s.size) ∨ (0 < s.size ∧ ¬ 9 < s.size ∧ 1 < s.size ∧ s.data.toList.getD 0 0 = 48) := by
    unfold roughB at h
    simp only [Bool.or_eq_true, Bool.and_eq_true, decide_eq_true_eq, beq_iff_eq, List.isEmpty_iff] at h
    rw [hsl] at h
    rcases h with (h | h) | h
    · left; rw [← hsl, h]; rfl
    · right; left; omega
    · by_cases h9 : 9 < s.size
      · right; left; omega
      · right; right; exact ⟨by omega, h9, h.1, h.2⟩
  clear h
  rcases h' with h0 | ⟨h0, h9⟩ | ⟨h0, h9, h1, h48⟩
  · have e : s = ⟨#[]⟩ := by
      apply ByteArray.ext
      apply Array.ext'
      have : s.data.toList.length = 0 := by rw [hsl, h0]
      rw [List.length_eq_zero_iff] at this
      rw [this]
    subst e
    clear h0 hsl hs
    go_enter Tryd.func35, Tryd.ntmps35
    go_wp2
    go_ret
    exact ⟨by rw [HX.out]; rfl, rfl⟩
  · have hl1 : s.toList.isEmpty = false := str_full s (by omega)
    have hl2 : (!s.toList.isEmpty) = true := by rw [hl1]; rfl
    have hl3 : (s.toList == []) = false := by
      cases hh : s.toList with
      | nil => rw [hh] at hl1; cases hl1
      | cons a r => rfl
    have d9 : (9 : Int) < s.size := by omega
    clear hsl
    go_enter Tryd.func35, Tryd.ntmps35
    go_wp2
    go_ret
    exact ⟨by rw [HX.out]; rfl, rfl⟩
  · have hl1 : s.toList.isEmpty = false := str_full s (by omega)
    have hl3 : (s.toList == []) = false := by
      cases hh : s.toList with
      | nil => rw [hh] at hl1; cases hl1
      | cons a r => rfl
    have d9 : decide ((9 : Int) < s.size) = false := by simp; omega
    have d1 : (1 : Int) < s.size := by omega
    have hb : s[0] = 48 := by
      have : s.data.toList.getD 0 0 = s[0] := by
        rw [List.getD, List.getElem?_eq_getElem (by rw [hsl]; omega)]; rfl
      rw [← this, h48]
    have hc1 : ((s[0].toNat : Int) == 48) = true := by rw [hb]; rfl
    have d0 : (0 : Int) < s.size := by omega
    clear hsl h48
    go_enter Tryd.func35, Tryd.ntmps35
    go_wp2
    go_ret
    exact ⟨by rw [HX.out]; rfl, rfl⟩
def NumIs (l : List UInt8) (n i : Value) : Prop := ∃ k : Nat, k ≤ l.length ∧ i = .int .i64 k ∧ n = .int .i64 (valN (l.take k) : Nat) ∧ (∀ c, c ∈ l.take k → isDig c = true)
set_option maxRecDepth 100000 in
set_option maxHeartbeats 4000000 in
theorem number_smooth (s : ByteArray) (w : World) (h : roughB s.data.toList = false) :
    Calls Tryd.prog 35 #[.string s] w fun e w' => e = .returned (.int .i64 (numOf s.data.toList)) ∧ w = w' := by
  have hsl : s.data.toList.length = s.size := by simp
  have HSL := Lib.hid hsl
  have HRO := Lib.hid h
  have hp : (0 < s.size ∧ s.size ≤ 9) ∧ (s.size = 1 ∨ (1 < s.size ∧ s.data.toList.getD 0 0 ≠ 48)) := by
    unfold roughB at h
    simp only [Bool.or_eq_false_iff, Bool.and_eq_false_iff, decide_eq_false_iff_not, beq_eq_false_iff_ne] at h
    rw [hsl] at h
    obtain ⟨⟨h1, h2⟩, h3⟩ := h
    have h0 : 0 < s.size := by
      rcases Nat.eq_zero_or_pos s.size with h0 | h0
      · have : s.data.toList.length = 0 := by rw [hsl, h0]
        rw [List.length_eq_zero_iff] at this
        rw [this] at h1; cases h1
      · exact h0
    refine ⟨⟨h0, by omega⟩, ?_⟩
    rcases h3 with h3 | h3
    · left; omega
    · rcases Nat.lt_or_ge 1 s.size with h4 | h4
      · exact .inr ⟨h4, h3⟩
      · left; omega
  obtain ⟨⟨h0, h9⟩, hp⟩ := hp
  clear h
  have hl1 : s.toList.isEmpty = false := str_full s (by omega)
  have hl3 : (s.toList == []) = false := by
    cases hh : s.toList with
    | nil => rw [hh] at hl1; cases hl1
    | cons a r => rfl
  have d9 : decide ((9 : Int) < s.size) = false := by simp; omega
  rcases hp with h1 | ⟨h1, h48⟩
  · have d1 : decide ((1 : Int) < s.size) = false := by simp; omega
    clear hsl
    go_enter Tryd.func35, Tryd.ntmps35
    go_wp2
    go_loop [3, 4] (fun n i => NumIs s.data.toList n i) (fun _ i => s.size - (RowKit.intOf i).toNat)
    case atStart => exact ⟨0, Nat.zero_le _, rfl, rfl, by simp⟩
    case round =>
      obtain ⟨k, hk, rfl, rfl, hd⟩ := hrel
      rw [HSL.out] at hk
      have hVb := valN_le (s.data.toList.take k)
      have hp := pow_small k (by omega)
      rw [List.length_take, HSL.out, Nat.min_eq_left hk] at hVb
      obtain ⟨V, hV⟩ : ∃ V, V = valN (s.data.toList.take k) := ⟨_, rfl⟩
      rw [← hV] at hVb ⊢
      have v1 : (V : Int) ≤ 26000000000 := by omega
      have HV := Lib.hid hV
      have HD := Lib.hid hd
      clear hV hd hp hVb
      by_cases hlt : k < s.size
      · have htake := Lib.hid (take_next s k hlt)
        have hmem : s[k] ∈ s.data.toList := by
          have : s[k] ∈ s.data.toList.take (k + 1) := by rw [htake.out]; simp
          exact List.mem_of_mem_take this
        by_cases hlo : s[k].toNat < 48
        · have HX := Lib.hid (num_bad hmem (by unfold isDig; rw [decide_eq_false (by omega)]; rfl))
          have c1 : ((s[k].toNat : Int) < 48) := by omega
          clear hmem
          go_wp2
          go_ret
          exact ⟨by rw [HX.out]; rfl, rfl⟩
        · by_cases hhi : 57 < s[k].toNat
          · have HX := Lib.hid (num_bad hmem (by unfold isDig; rw [decide_eq_false (show ¬ s[k].toNat ≤ 57 by omega)]; simp))
            have c1 : (48 : Int) ≤ (s[k].toNat : Int) := by omega
            have c2 : (57 : Int) < (s[k].toNat : Int) := by omega
            clear hmem
            go_wp2
            go_ret
            exact ⟨by rw [HX.out]; rfl, rfl⟩
          · have c1 : (48 : Int) ≤ (s[k].toNat : Int) := by omega
            have c2 : (s[k].toNat : Int) ≤ 57 := by omega
            have HDg : Hid (isDig s[k] = true) := Lib.hid (by unfold isDig; simp; omega)
            clear hmem
            go_wp2
            go_round
            case rel =>
              refine ⟨k + 1, by rw [HSL.out]; omega, by go_num, ?_, ?_⟩
              · rw [htake.out, valN_snoc, ← HV.out]
                go_num
              · intro c hc
                rw [htake.out] at hc
                rcases List.mem_append.1 hc with h | h
                · exact HD.out c h
                · simp at h; rw [h]; exact HDg.out
            case measure => simp [RowKit.intOf]; omega
      · go_wp2
        go_ret
        have hke : s.data.toList.take k = s.data.toList := List.take_of_length_le (by rw [HSL.out]; omega)
        have hd := HD.out
        have hv := HV.out
        rw [hke] at hd hv
        exact ⟨by rw [num_good HRO.out hd, hv]; rfl, rfl⟩
  · have d1 : (1 : Int) < s.size := by omega
    have hb : s[0] ≠ 48 := by
      have : s.data.toList.getD 0 0 = s[0] := by
        rw [List.getD, List.getElem?_eq_getElem (by rw [hsl]; omega)]; rfl
      rw [← this]; exact h48
    have hc1 : ((s[0].toNat : Int) == 48) = false := by
      rw [beq_eq_false_iff_ne]
      intro e
      exact hb (UInt8.toNat_inj.1 (by simpa using Int.ofNat_inj.1 e))
    have d0 : (0 : Int) < s.size := by omega
    clear hsl h48 hb
    go_enter Tryd.func35, Tryd.ntmps35
    go_wp2
    go_loop [3, 4] (fun n i => NumIs s.data.toList n i) (fun _ i => s.size - (RowKit.intOf i).toNat)
    case atStart => exact ⟨0, Nat.zero_le _, rfl, rfl, by simp⟩
    case round =>
      obtain ⟨k, hk, rfl, rfl, hd⟩ := hrel
      rw [HSL.out] at hk
      have hVb := valN_le (s.data.toList.take k)
      have hp := pow_small k (by omega)
      rw [List.length_take, HSL.out, Nat.min_eq_left hk] at hVb
      obtain ⟨V, hV⟩ : ∃ V, V = valN (s.data.toList.take k) := ⟨_, rfl⟩
      rw [← hV] at hVb ⊢
      have v1 : (V : Int) ≤ 26000000000 := by omega
      have HV := Lib.hid hV
      have HD := Lib.hid hd
      clear hV hd hp hVb
      by_cases hlt : k < s.size
      · have htake := Lib.hid (take_next s k hlt)
        have hmem : s[k] ∈ s.data.toList := by
          have : s[k] ∈ s.data.toList.take (k + 1) := by rw [htake.out]; simp
          exact List.mem_of_mem_take this
        by_cases hlo : s[k].toNat < 48
        · have HX := Lib.hid (num_bad hmem (by unfold isDig; rw [decide_eq_false (by omega)]; rfl))
          have c1 : ((s[k].toNat : Int) < 48) := by omega
          clear hmem
          go_wp2
          go_ret
          exact ⟨by rw [HX.out]; rfl, rfl⟩
        · by_cases hhi : 57 < s[k].toNat
          · have HX := Lib.hid (num_bad hmem (by unfold isDig; rw [decide_eq_false (show ¬ s[k].toNat ≤ 57 by omega)]; simp))
            have c1 : (48 : Int) ≤ (s[k].toNat : Int) := by omega
            have c2 : (57 : Int) < (s[k].toNat : Int) := by omega
            clear hmem
            go_wp2
            go_ret
            exact ⟨by rw [HX.out]; rfl, rfl⟩
          · have c1 : (48 : Int) ≤ (s[k].toNat : Int) := by omega
            have c2 : (s[k].toNat : Int) ≤ 57 := by omega
            have HDg : Hid (isDig s[k] = true) := Lib.hid (by unfold isDig; simp; omega)
            clear hmem
            go_wp2
            go_round
            case rel =>
              refine ⟨k + 1, by rw [HSL.out]; omega, by go_num, ?_, ?_⟩
              · rw [htake.out, valN_snoc, ← HV.out]
                go_num
              · intro c hc
                rw [htake.out] at hc
                rcases List.mem_append.1 hc with h | h
                · exact HD.out c h
                · simp at h; rw [h]; exact HDg.out
            case measure => simp [RowKit.intOf]; omega
      · go_wp2
        go_ret
        have hke : s.data.toList.take k = s.data.toList := List.take_of_length_le (by rw [HSL.out]; omega)
        have hd := HD.out
        have hv := HV.out
        rw [hke] at hd hv
        exact ⟨by rw [num_good HRO.out hd, hv]; rfl, rfl⟩
theorem number_any (s : ByteArray) (w : World) (hs : s.size ≤ 1000000) :
    Calls Tryd.prog 35 #[.string s] w fun e w' => e = .returned (.int .i64 (numOf s.data.toList)) ∧ w = w' := by
  cases h : roughB s.data.toList with
  | true => exact number_rough s w hs h
  | false => exact number_smooth s w h
theorem number_list (l : List UInt8) (w : World) (hs : l.length ≤ 1000000) :
    Calls Tryd.prog 35 #[.string ⟨l.toArray⟩] w fun e w' => e = .returned (.int .i64 (numOf l)) ∧ w = w' := by
  have := number_any ⟨l.toArray⟩ w (by show l.toArray.size ≤ _; simpa using hs)
  simpa using this
end Ops
end Go.Proofs.YtlfejjegegdbnaaDoor
