/- The walk of PaceLatest. -/
import Derived.Test.YtoghagapbhlfeaaPaceWords
import Derived.OwnWalk
set_option linter.unusedVariables false
set_option linter.unusedSimpArgs false
namespace Go.Proofs.Ytoghagapbhlfeaa
namespace Pac
open Go.RowKit Go.Maps Arn

theorem addr_zero : ∀ (n j : Nat) (u : Value), (addrCells (List.replicate n (0, 0)))[j]? = some u → j < n * 2 ∧ u = if j % 2 = 0 then .int .u64 0 else .int .i64 0 := by
  intro n
  induction n with
  | zero => intro j u h; simp [addrCells] at h
  | succ n ih =>
    intro j u h
    rw [List.replicate_succ] at h
    match j, h with
    | 0, h => simp [addrCells] at h; exact ⟨by omega, by simp [h]⟩
    | 1, h => simp [addrCells] at h; exact ⟨by omega, by simp [h]⟩
    | j + 2, h =>
      rw [addrCells_cons] at h
      obtain ⟨h1, h2⟩ := ih j u h
      have e : (j + 2) % 2 = j % 2 := by omega
      rw [e]
      exact ⟨by omega, h2⟩
theorem made_addrs {w : World} {g n : Nat} (hn : n ≤ 1000000) (h : w.ownsRow 0 34 2 (.slice (some ⟨g, 0, none⟩) n n) n (madeCells (Value.agg #[.int .u64 0, .int .i64 0]).cells (n * 2)).toList) : AddrsAt w (.slice (some ⟨g, 0, none⟩) n n) (List.replicate n (0, 0)) := by
  refine .inr ⟨g, 0, n, by simp, by simp, by unfold maxLen; omega, fun j u hu => ?_⟩
  obtain ⟨h1, h2⟩ := addr_zero n j u hu
  have := World.ownsRow.cells h rfl j u (by
    simp [madeCells, h1, Value.cells]
    rw [h2]
    have h3 : j % 2 = 0 ∨ j % 2 = 1 := by omega
    rcases h3 with h3 | h3 <;> rw [h3] <;> rfl)
  rwa [add_at] at this
/-- Small numbers in a slice. -/
def U8At (w : World) (v : Value) (l : List Int) : Prop :=
  (v = .slice none 0 0 ∧ l = []) ∨ ∃ a c, v = .slice (some a) l.length c ∧ ∀ j u, (l.map (Value.int .u8))[j]? = some u → w.cell? (a.add j) = some u
/-- Between two rounds of PaceLatest. -/
def LatRel (w : World) (b r lp : Nat) (vl : List Int) (j : Nat) (sw sn sk : Value) (wr : World) : Prop :=
  ∃ (kk : Nat) (now : Int) (Wd : List Int) (A : Ar), kk ≤ vl.length ∧ sk = .int .i64 kk ∧ sn = .int .u64 now ∧ W64 now ∧ Wd.length ≤ j ∧ A.get 0 0 = now ∧ wr.ownsRow 0 29 1 sw Wd.length (u64s Wd) ∧
    (∀ k, sw.ownBlock = some k → w.heap.size ≤ k) ∧ Mach w b sw.ownBlock.toList A j (RdP r b (List.replicate (lp - Wd.length) (0, 0)) Wd) wr
theorem lat_write {w wr : World} {b r lp j kk : Nat} {vl : List Int} {sw : Value} {v : Int} {Wd : List Int} {A : Ar} (hj : Wd.length ≤ j) (hkk : kk < vl.length) (hv : W64 v) (hrow : wr.ownsRow 0 29 1 sw Wd.length (u64s Wd)) (hnew : ∀ k, sw.ownBlock = some k → w.heap.size ≤ k)
    (hm : Mach w b sw.ownBlock.toList A j (RdP r b (List.replicate (lp - Wd.length) (0, 0)) Wd) wr) (hjn : j ≤ 1000) :
    Calls Try.prog 17 #[.pointer (some ⟨b, 0, none⟩), .agg #[.int .u64 0, .int .i64 0], .int .u64 v] wr fun e w' => (∃ c, e = .returned (.int .i64 c)) ∧ LatRel w b r lp vl (j + 1) sw (.int .u64 v) (.int .i64 ((kk : Int) + 1)) w' := by
  obtain ⟨hlow, hborn, hok⟩ := hm.low
  refine (hm.acts (rd_stays _ _ _ _) (R := fun e => ∃ c, e = .returned (.int .i64 c)) (fun M hs => (sin_write hs (by omega) 0 0 v (w64_small _ (by omega)) (by decide) hv).mono fun e w' ⟨he, h⟩ => ⟨⟨_, he⟩, h⟩)).mono ?_
  rintro e w' ⟨hc, hm', F, hT, h1, h2⟩
  exact ⟨hc, kk + 1, v, Wd, _, by omega, by simp, rfl, hv, by omega, (write00 hok v).2, row_turn hrow hT (fun k hk => h1 k (by simp [hk])), hnew, hm'⟩
theorem lat_read {w wr : World} {b r lp j kk : Nat} {vl : List Int} {sw : Value} {now : Int} {Wd : List Int} {A : Ar} (hlp : lp ≤ 1000) (hj : Wd.length ≤ j) (hjl : j < lp) (hget : A.get 0 0 = now) (hrow : wr.ownsRow 0 29 1 sw Wd.length (u64s Wd)) (hnew : ∀ k, sw.ownBlock = some k → w.heap.size ≤ k)
    (hm : Mach w b sw.ownBlock.toList A j (RdP r b (List.replicate (lp - Wd.length) (0, 0)) Wd) wr) :
    ∃ A', A'.get 0 0 = now ∧ Calls Try.prog 53 #[.pointer (some ⟨r, 0, none⟩)] wr fun e w' => e = .returned (.tuple #[]) ∧ w'.ownsRow 0 29 1 sw Wd.length (u64s Wd) ∧ Mach w b sw.ownBlock.toList A' (j + 1) (RdP r b (List.replicate (lp - (Wd.length + 1)) (0, 0)) (Wd ++ [now])) w' := by
  obtain ⟨hlow, hborn, hok⟩ := hm.low
  obtain ⟨m, hmm⟩ : ∃ m, lp - Wd.length = m + 1 := ⟨lp - Wd.length - 1, by omega⟩
  have hmm2 : lp - (Wd.length + 1) = m := by omega
  rw [hmm, List.replicate_succ] at hm
  refine ⟨(A.read 0 0).1, by rw [(read00 hok).2, hget], (rd_step hm (by omega) (by omega) (by simp; omega) (w64_small _ (by omega)) (by decide)).mono ?_⟩
  rintro e w' ⟨he, hm', F, hT, h1, h2⟩
  rw [(read00 hok).1, hget] at hm'
  rw [hmm2]
  exact ⟨he, row_turn hrow hT (fun k hk => h1 k (by simp [hk])), hm'⟩
/-- What was read is put behind what is wanted. -/
theorem lat_put {w W5 w6 : World} {b r lp j kk : Nat} {vl : List Int} {sw v1 : Value} {now : Int} {Wd : List Int} {A : Ar} {ob : Obj} (hkk : kk ≤ vl.length) (h64 : W64 now) (hj : Wd.length ≤ j) (hget : A.get 0 0 = now) (hnew : ∀ k, sw.ownBlock = some k → w.heap.size ≤ k)
    (hm : Mach w b sw.ownBlock.toList A (j + 1) (RdP r b (List.replicate (lp - (Wd.length + 1)) (0, 0)) (Wd ++ [now])) W5) (hg : (W5.alloc ob).grownBy w6 sw.ownBlock) (hown : w6.ownsRow 0 29 1 v1 (Wd.length + 1) (u64s Wd ++ [.int .u64 now]))
    (hl : v1.ownBlock = sw.ownBlock ∨ v1.ownBlock = some (W5.alloc ob).heap.size) : LatRel w b r lp vl (j + 1) v1 (.int .u64 now) (.int .i64 kk) w6 := by
  have hw := hm.turn.size
  have hs : (W5.alloc ob).heap.size = W5.heap.size + 1 := by simp
  have hT : Frm.Turn sw.ownBlock.toList W5 w6 := ((Frm.Turn.refl _ W5).alloc ob).trans (Frm.Turn.of_grown hg) (fun k hk => .inl hk)
  have hv1 : ∀ k, v1.ownBlock = some k → sw.ownBlock = some k ∨ W5.heap.size ≤ k := fun k hk => by
    rcases hl with e | e
    · left; rw [← e]; exact hk
    · right; rw [e] at hk; cases hk; omega
  refine ⟨kk, now, Wd ++ [now], A, hkk, rfl, rfl, h64, by simp; omega, hget, ?_, fun k hk => ?_, ?_⟩
  · have h1 : (Wd ++ [now]).length = Wd.length + 1 := by simp
    have h2 : u64s (Wd ++ [now]) = u64s Wd ++ [.int .u64 now] := by simp [u64s]
    rw [h1, h2]; exact hown
  · rcases hv1 k hk with h | h
    · exact hnew k h
    · omega
  · have h1 : (Wd ++ [now]).length = Wd.length + 1 := by simp
    rw [h1]
    refine hm.own (rd_stays _ _ _ _) hT (fun k hk => ?_) (fun k hk => ?_)
    · exact .inl ⟨hk, hnew k (by simpa using hk)⟩
    · have hk' : v1.ownBlock = some k := by simpa using hk
      refine ⟨?_, (hown.lt k hk').2⟩
      rcases hv1 k hk' with h | h
      · exact .inl (by simp [h])
      · exact .inr h

set_option maxRecDepth 100000 in
set_option maxHeartbeats 4000000 in
theorem latest_any (v0 v1 : Value) (vl pl : List Int) (w : World) (h0 : WordsAt w v0 vl) (h64 : ∀ x, x ∈ vl → W64 x) (h1 : U8At w v1 pl) (h8 : ∀ x, x ∈ pl → 0 ≤ x ∧ x < 256) (m0 : vl.length ≤ 9223372036854775807) (m1 : pl.length ≤ 9223372036854775807) :
    Calls Try.prog 8 #[v0, v1] w fun e w' => e = .returned (.bool true) ∧ Frm.Turn [] w w' := by
  obtain ⟨a0, c0, hv0⟩ : ∃ a c, v0 = .slice a vl.length c := by
    rcases h0 with ⟨rfl, rfl⟩ | ⟨a, c, rfl, _⟩ <;> exact ⟨_, _, rfl⟩
  obtain ⟨a1, c1, hv1⟩ : ∃ a c, v1 = .slice a pl.length c := by
    rcases h1 with ⟨rfl, rfl⟩ | ⟨a, c, rfl, _⟩ <;> exact ⟨_, _, rfl⟩
  subst hv0
  subst hv1
  have HF := Lib.hid (pfirst_any w)
  have HA0 := Lib.hid h0
  have HA1 := Lib.hid h1
  have H64 := Lib.hid h64
  have H8 := Lib.hid h8
  obtain ⟨lv, HLV⟩ : ∃ n, Hid (n = vl.length) := ⟨_, Lib.hid rfl⟩
  obtain ⟨lp, HLP⟩ : ∃ n, Hid (n = pl.length) := ⟨_, Lib.hid rfl⟩
  rw [← HLV.out] at m0 ⊢
  rw [← HLP.out] at m1 ⊢
  clear h0 h1 h64 h8
  have HN : Hid (∀ W, Frm.Turn [] w W → Calls Try.prog 11 #[.int .i64 9] W fun e w' => ∃ b, e = .returned (.tuple #[.pointer (some ⟨b, 0, none⟩), .int .i64 0]) ∧ Mach w b [] (Ar.new 9) 0 Bare w') :=
    Lib.hid fun W hT => (sin_new 9 W (by omega)).mono fun e w' ⟨b, M, he, h2⟩ => ⟨b, he, mach_bare ⟨h2.at_, fun k hk => Nat.le_trans hT.size (h2.new k hk), hT.trans h2.turn (by simp), h2.low, h2.born⟩ (by simp)⟩
  by_cases hbig : 50 < lv ∨ 200 < lp
  · by_cases hb1 : 50 < lv
    · go_enter Try.func8, Try.ntmps8
      go_wp2_with (go_at_call 38; (with_reducible refine (HF.out).mono ?_); rintro e w1 ⟨rfl, hT⟩; have HT1 := Lib.hid hT; clear hT)
      go_ret
      exact ⟨rfl, HT1.out⟩
    · have hb2 : 200 < lp := by omega
      go_enter Try.func8, Try.ntmps8
      go_wp2_with (go_at_call 38; (with_reducible refine (HF.out).mono ?_); rintro e w1 ⟨rfl, hT⟩; have HT1 := Lib.hid hT; clear hT)
      go_ret
      exact ⟨rfl, HT1.out⟩
  · have hb1 : lv ≤ 50 := by omega
    have hb2 : lp ≤ 200 := by omega
    clear hbig
    obtain ⟨i0, hi0, hz0, hz1, hz2⟩ := info_parts info_addr
    obtain ⟨j0', hj0, hy0, hy1, hy2⟩ := info_parts info_u64
    go_enter Try.func8, Try.ntmps8
    go_wp2_with (first
      | (go_at_call 38; (with_reducible refine (HF.out).mono ?_); rintro e w1 ⟨rfl, hT⟩; have HT1 := Lib.hid hT; clear hT)
      | (go_at_call 11; (with_reducible refine (HN.out _ HT1.out).mono ?_); rintro e w2 ⟨b, rfl, h⟩; have HM := Lib.hid h; clear h)
      | (at_make; refine wpList_make_full _ rfl (.tmp 29) (.tmp 29) 82 rfl 0 34 i0 (.agg #[.int .u64 0, .int .i64 0]) 2 under_addrs hi0 hz0 hz1 .i64 .i64 _ _ lp rfl rfl rfl rfl (by rw [hz2]; omega) (by unfold maxLen; omega) (Nat.zero_le _) ?_; intro w3 hown3 hg3; have HO3 := Lib.hid (made_addrs (by omega) hown3); have HT3 : Hid (Frm.Turn [] w2 w3) := Lib.hid (Frm.Turn.of_grown hg3); have HRN := Lib.hid (rd_new _ _ (HM.out.step bare_stays HT3.out) HO3.out (by rw [List.length_replicate]; omega)); clear hown3 hg3)
      | (go_at_call 44; (with_reducible refine (HRN.out).mono ?_); rintro e w4 ⟨r, rfl, h, hT⟩; have HR := Lib.hid h; have HT4 := Lib.hid hT; clear h hT))
    have hstart : LatRel w b r lp vl 0 (.slice none 0 0) (.int .u64 0) (.int .i64 0) w4 := ⟨0, 0, [], Ar.new 9, Nat.zero_le _, rfl, rfl, w64_small _ (by omega), Nat.le_refl _, rfl, World.ownsRow_nil _ _ _ _, by simp [Value.ownBlock], HR.out⟩
    have hst := hstart
    have HT := Lib.hid HR.out.turn
    clear hstart HF HN HM HR HO3 HT3 HRN HT1
    clear hi0 hz0 hz1 hz2
    go_loopw [9, 10, 11, 36] (fun sw sn sk i wr => ∃ j : Nat, j ≤ lp ∧ i = .int .i64 j ∧ LatRel w b r lp vl j sw sn sk wr) (fun _ _ _ i _ => lp - (intOf i).toNat)
    case atStart => exact ⟨0, Nat.zero_le _, rfl, hst⟩
    case round =>
      obtain ⟨j, hj, rfl, kk, now, Wd, A, hkk, rfl, rfl, hn64, hWj, hget, hrow, hnew, hm⟩ := hrel
      clear hst
      obtain ⟨ao, wcap, rfl⟩ := Frm.row_form hrow
      obtain ⟨m, HMm⟩ : ∃ m, Hid (m = Wd.length) := ⟨_, Lib.hid rfl⟩
      have HROW := Lib.hid hrow
      have HNEW := Lib.hid hnew
      have HM := Lib.hid hm
      have HGET := Lib.hid hget
      have H6n := Lib.hid hn64
      rw [← HMm.out] at hWj ⊢
      rw [← HLV.out] at hkk
      clear hrow hnew hm hget hn64
      by_cases hlt : j < lp
      · obtain ⟨pk, hpk⟩ : ∃ p, pl[j]? = some p := ⟨_, List.getElem?_eq_getElem (by rw [← HLP.out]; exact hlt)⟩
        obtain ⟨p0, p1⟩ := H8.out pk (List.mem_of_getElem? hpk)
        have hcp : ∃ a, a1 = some a ∧ wr.cell? (a.add j) = some (.int .u8 pk) := by
          rcases HA1.out with ⟨_, e⟩ | ⟨a, c, e, hc⟩
          · rw [e] at hpk; simp at hpk
          · simp only [Value.slice.injEq] at e
            exact ⟨a, e.1, HM.out.turn.cell (hc j _ (by simp [hpk])) (by simp)⟩
        obtain ⟨ap, rfl, hcp⟩ := hcp
        have j0 : (0 : Int) ≤ (j : Int) := by omega
        have j1 : (j : Int) < (lp : Int) := by omega
        clear hpk
        by_cases hp : pk % 2 = 0 ∧ kk < lv
        · obtain ⟨hp1, hp2⟩ := hp
          have hp1' : (pk % 2 == 0) = true := by simpa using hp1
          have HP1 := Lib.hid hp1
          obtain ⟨v, hv⟩ : ∃ v, vl[kk]? = some v := ⟨_, List.getElem?_eq_getElem (by rw [← HLV.out]; exact hp2)⟩
          have hv64 := H64.out v (List.mem_of_getElem? hv)
          have hcv : ∃ a, a0 = some a ∧ wr.cell? (a.add kk) = some (.int .u64 v) := by
            rcases HA0.out with ⟨_, e⟩ | ⟨a, c, e, hc⟩
            · rw [e] at hv; simp at hv
            · simp only [Value.slice.injEq] at e
              exact ⟨a, e.1, HM.out.turn.cell (hc kk _ (by simp [u64s, hv])) (by simp)⟩
          obtain ⟨av, rfl, hcv⟩ := hcv
          have k0 : (0 : Int) ≤ (kk : Int) := by omega
          have k1 : (kk : Int) < (lv : Int) := by omega
          have HWR := Lib.hid (lat_write (kk := kk) (by rw [← HMm.out]; exact hWj) (by rw [← HLV.out]; exact hp2) hv64 HROW.out HNEW.out HM.out (by omega))
          clear hv hv64 hp1
          go_wp2_with (go_at_call 17; (with_reducible refine (HWR.out).mono ?_); rintro e w5 ⟨⟨cc, rfl⟩, h⟩; have HRL := Lib.hid h; clear h)
          refine ⟨⟨j + 1, by omega, by simp, by have := HRL.out; rw [← HMm.out] at this; exact this⟩, ?_⟩
          simp [intOf]; omega
        · obtain ⟨A', hA', hcall⟩ := lat_read (kk := kk) (vl := vl) (by omega) (by rw [← HMm.out]; exact hWj) hlt HGET.out HROW.out HNEW.out HM.out
          have HCALL := Lib.hid hcall
          have HA' := Lib.hid hA'
          clear hcall hA'
          by_cases hp1 : pk % 2 = 0
          · have hp2 : ¬ kk < lv := fun h => hp ⟨hp1, h⟩
            have hp1' : (pk % 2 == 0) = true := by simpa using hp1
            have hp2' : decide (kk < lv) = false := by simpa using hp2
            have hp3' : decide ((kk : Int) < (lv : Int)) = false := by simp; omega
            clear hp hp1 hp2
            go_wp2_with (first
              | (go_at_call 53; (with_reducible refine (HCALL.out).mono ?_); rintro e w5 ⟨rfl, h1, h2⟩; have HR5 := Lib.hid h1; have HM5 := Lib.hid h2; clear h1 h2)
              | (at_builtin; refine wpList_append_own_at _ rfl (.tmp 61) (.tmp 63) 42 rfl 0 29 j0' (.int .u64 0) 1 8 under_u64s hj0 hy0 hy1 hy2 rfl (by decide) (.slice ao m wcap) m (u64s Wd) rfl (by have := (row_turn HR5.out ((Frm.Turn.refl [] w5).alloc (.cells #[.int .u64 now] 29)) (by simp)); rw [← HMm.out] at this; exact this) ⟨w5.heap.size, 0, none⟩ 1 1 [.int .u64 now] rfl rfl (cell_one_new _ _ _ _ rfl) (by simp [Value.oneCell']) (by unfold maxLen; omega) (by omega) (Nat.zero_le _) ?_; intro v1 w6 hown6 hg6 _ hl6; have HO6 := Lib.hid hown6; have HG6 := Lib.hid hg6; have HL6 := Lib.hid hl6; clear hown6 hg6 hl6))
            refine ⟨⟨j + 1, by omega, by simp, lat_put (kk := kk) (sw := .slice ao m wcap) (by rw [← HLV.out]; omega) H6n.out (by rw [← HMm.out]; exact hWj) HA'.out (by have := HNEW.out; rw [← HMm.out] at this; exact this) (by have := HM5.out; rw [← HMm.out] at this ⊢; exact this) HG6.out (by have := HO6.out; rw [← HMm.out]; exact this) HL6.out⟩, ?_⟩
            simp [intOf]; omega
          · have hp1' : (pk % 2 == 0) = false := by simpa using hp1
            have HP1 := Lib.hid hp1
            clear hp hp1
            go_wp2_with (first
              | (go_at_call 53; (with_reducible refine (HCALL.out).mono ?_); rintro e w5 ⟨rfl, h1, h2⟩; have HR5 := Lib.hid h1; have HM5 := Lib.hid h2; clear h1 h2)
              | (at_builtin; refine wpList_append_own_at _ rfl (.tmp 61) (.tmp 63) 42 rfl 0 29 j0' (.int .u64 0) 1 8 under_u64s hj0 hy0 hy1 hy2 rfl (by decide) (.slice ao m wcap) m (u64s Wd) rfl (by have := (row_turn HR5.out ((Frm.Turn.refl [] w5).alloc (.cells #[.int .u64 now] 29)) (by simp)); rw [← HMm.out] at this; exact this) ⟨w5.heap.size, 0, none⟩ 1 1 [.int .u64 now] rfl rfl (cell_one_new _ _ _ _ rfl) (by simp [Value.oneCell']) (by unfold maxLen; omega) (by omega) (Nat.zero_le _) ?_; intro v1 w6 hown6 hg6 _ hl6; have HO6 := Lib.hid hown6; have HG6 := Lib.hid hg6; have HL6 := Lib.hid hl6; clear hown6 hg6 hl6))
            refine ⟨⟨j + 1, by omega, by simp, lat_put (kk := kk) (sw := .slice ao m wcap) (by rw [← HLV.out]; omega) H6n.out (by rw [← HMm.out]; exact hWj) HA'.out (by have := HNEW.out; rw [← HMm.out] at this; exact this) (by have := HM5.out; rw [← HMm.out] at this ⊢; exact this) HG6.out (by have := HO6.out; rw [← HMm.out]; exact this) HL6.out⟩, ?_⟩
            simp [intOf]; omega
      · obtain rfl : j = lp := by omega
        have HWS := Lib.hid (rd_words_is HM.out (by rw [← HMm.out]; omega))
        have HRW := Lib.hid (words_of_row HROW.out)
        have HTW := Lib.hid HM.out.turn
        have HDN : Hid (∀ W, Frm.Turn [] wr W → Calls Try.prog 56 #[.pointer (some ⟨r, 0, none⟩)] W fun e w' => e = .returned (.bool (decide ((List.replicate (j - Wd.length) ((0 : Int), (0 : Int))).length = 0))) ∧ W = w') := Lib.hid fun W hT => rd_done_is (HM.out.step (rd_stays _ _ _ _) hT)
        rw [List.length_replicate, ← HMm.out] at HDN
        have HMW : Hid (Wd.length = m) := Lib.hid HMm.out.symm
        by_cases he : m = j
        · have e1 : decide (j - m = 0) = true := by simp; omega
          have e2 : decide (j ≤ m) = true := by simp; omega
          have e3 : decide ((j : Int) ≤ (m : Int)) = true := by simp; omega
          rw [e1] at HDN
          clear he e1
          go_wp2_with (first
            | (go_at_call 55; (with_reducible refine (HWS.out).mono ?_); rintro e w5 ⟨ao5, c5, rfl, h1, h2, h3⟩; have HT5 := Lib.hid h3; have HWD := Lib.hid (words_same h1 (HRW.out.turn h3 (by simp)) (by rw [HMW.out]; omega)); rw [HMW.out] at HWD ⊢; clear h1 h2 h3)
            | (go_at_call 54; (with_reducible refine (HWD.out).mono ?_); rintro e w6 ⟨rfl, h⟩; have HT6 := Lib.hid h; clear h)
            | (go_at_call 56; (with_reducible refine (HDN.out _ (HT5.out.trans HT6.out (by simp))).mono ?_); rintro e w7 ⟨rfl, rfl⟩))
          go_ret
          exact ⟨by simp, (HTW.out.trans HT5.out (by simp)).trans HT6.out (by simp)⟩
        · have e1 : decide (j - m = 0) = false := by simp; omega
          have e2 : decide (j ≤ m) = false := by simp; omega
          have e3 : decide ((j : Int) ≤ (m : Int)) = false := by simp; omega
          rw [e1] at HDN
          clear he e1
          go_wp2_with (first
            | (go_at_call 55; (with_reducible refine (HWS.out).mono ?_); rintro e w5 ⟨ao5, c5, rfl, h1, h2, h3⟩; have HT5 := Lib.hid h3; have HWD := Lib.hid (words_same h1 (HRW.out.turn h3 (by simp)) (by rw [HMW.out]; omega)); rw [HMW.out] at HWD ⊢; clear h1 h2 h3)
            | (go_at_call 54; (with_reducible refine (HWD.out).mono ?_); rintro e w6 ⟨rfl, h⟩; have HT6 := Lib.hid h; clear h)
            | (go_at_call 56; (with_reducible refine (HDN.out _ (HT5.out.trans HT6.out (by simp))).mono ?_); rintro e w7 ⟨rfl, rfl⟩))
          go_ret
          exact ⟨by simp, (HTW.out.trans HT5.out (by simp)).trans HT6.out (by simp)⟩
end Pac
end Go.Proofs.Ytoghagapbhlfeaa
