/- The walk of CollectStill. -/
import Derived.Test.YthnmnpjjpckeeaaCollFirst
set_option linter.unusedVariables false
set_option linter.unusedSimpArgs false
namespace Go.Proofs.Ythnmnpjjpckeeaa
namespace Col
open Go.RowKit Go.Maps Arn Pac Clm Cnt

variable {w W W' : World} {b n k kh ib m r : Nat} {A : Ar} {f : Nat → Nat → Int} {X : List (Nat × Obj)} {rr qq : Nat → Nat} {c : Nat → Option Ct} {sl : Nat → Nat} {ohs : Obj}
/-- Whose slots were entered. -/
def inF (sl : Nat → Nat) (m : Nat) : Nat → Bool := fun s => (List.range m).any fun i => sl i == s
theorem inF_yes {s : Nat} : inF sl m s = true ↔ ∃ i, i < m ∧ sl i = s := by
  unfold inF
  rw [List.any_eq_true]
  constructor
  · rintro ⟨i, hi, h⟩
    exact ⟨i, List.mem_range.1 hi, beq_iff_eq.1 h⟩
  · rintro ⟨i, hi, h⟩
    exact ⟨i, List.mem_range.2 hi, beq_iff_eq.2 h⟩
theorem inF_succ (sl : Nat → Nat) (m : Nat) : inF sl (m + 1) = upd (inF sl m) (sl m) true := by
  funext s
  unfold inF
  rw [List.range_succ, List.any_append]
  by_cases e : s = sl m
  · subst e; rw [upd_at]; simp
  · rw [upd_ne _ _ e]
    have : (sl m == s) = false := by simpa using fun h => e h.symm
    simp [this]
theorem inF_zero (sl : Nat → Nat) : inF sl 0 = fun _ => false := by funext s; rfl
theorem still_si (hs : ∀ i, sl i < 15) (m : Nat) : ∀ j, SI (inF sl m) (iterO 4 (fun g j => ((tF sl m g j : Nat) : Int)) j) j
  | 0 => si_new
  | j + 1 => by
    refine si_step (still_si hs m j) (fun s h15 hin g v hc hz => ?_) (fun g v hg h1 h2 hz => ?_) (fun s h15 => ?_)
    · obtain ⟨i, hi, rfl⟩ := inF_yes.1 hin
      have := sum_ge (h := fun i => con (sl i) 0 (kN (sl i)) g (5 * 2 ^ g + v)) m hi
      have hz' : sumTo (fun i => con (sl i) 0 (kN (sl i)) g (5 * 2 ^ g + v)) m = 0 := by
        have : ((tF sl m g (5 * 2 ^ g + v) : Nat) : Int) = 0 := hz
        unfold tF at this; omega
      have h3 : con (sl i) 0 (kN (sl i)) g (5 * 2 ^ g + v) ≤ sumTo (fun i => con (sl i) 0 (kN (sl i)) g (5 * 2 ^ g + v)) m := this
      rw [hz', hc] at h3
      omega
    · have hz' : sumTo (fun i => con (sl i) 0 (kN (sl i)) g (5 * 2 ^ g + v)) m ≠ 0 := fun e => hz (by
        show ((tF sl m g (5 * 2 ^ g + v) : Nat) : Int) = 0
        unfold tF; rw [e]; rfl)
      obtain ⟨i, hi, hc⟩ := sum_pos m hz'
      exact inF_yes.2 ⟨i, hi, at_leaf (hs i) (Nat.le_refl _) h1 hc⟩
    · cases e : inF sl m s with
      | false => rfl
      | true =>
        obtain ⟨i, hi, rfl⟩ := inF_yes.1 e
        have := hs i
        omega
def cntF (inn : Nat → Bool) (s : Nat) : Nat := ((List.range s).filter inn).length
theorem cnt_succ (inn : Nat → Bool) (s : Nat) : cntF inn (s + 1) = cntF inn s + (if inn s then 1 else 0) := by
  unfold cntF
  rw [List.range_succ, List.filter_append, List.length_append]
  cases h : inn s <;> simp [h]
theorem cnt_le (inn : Nat → Bool) (s : Nat) : cntF inn s ≤ s := by
  have := List.length_filter_le inn (List.range s)
  rw [List.length_range] at this
  exact this
theorem cnt_mono (inn : Nat → Bool) {s t : Nat} (h : s ≤ t) : cntF inn s ≤ cntF inn t := by
  obtain ⟨d, rfl⟩ : ∃ d, t = s + d := ⟨t - s, by omega⟩
  induction d with
  | zero => exact Nat.le_refl _
  | succ d ih =>
    have := ih (by omega)
    have h2 := cnt_succ inn (s + d)
    have e : s + (d + 1) = s + d + 1 := by omega
    rw [e, h2]
    omega
theorem filt_get (inn : Nat → Bool) {s : Nat} : ∀ {t : Nat}, s < t → inn s = true → ((List.range t).filter inn)[cntF inn s]? = some s := by
  intro t
  induction t with
  | zero => intro h; omega
  | succ t ih =>
    intro h hi
    rw [List.range_succ, List.filter_append]
    by_cases e : s = t
    · subst e
      rw [List.getElem?_append_right (by exact Nat.le_refl _)]
      have : cntF inn s - ((List.range s).filter inn).length = 0 := Nat.sub_self _
      rw [this]
      simp [hi]
    · have hlt : s < t := by omega
      have h2 : cntF inn s < ((List.range t).filter inn).length := by
        have h3 := cnt_succ inn s
        rw [if_pos hi] at h3
        have h4 := cnt_mono inn (show s + 1 ≤ t by omega)
        have h5 : ((List.range t).filter inn).length = cntF inn t := rfl
        omega
      rw [List.getElem?_append_left h2]
      exact ih hlt hi
def stX (ib kh : Nat) (ohs : Obj) (sl : Nat → Nat) (m : Nat) : List (Nat × Obj) := [(ib, oBools (inF sl m) 15), (kh, ohs)]
/-- One is written down as entered. -/
theorem ent_flag (h : EntR w b (stX ib kh ohs sl m) n sl (m + 1) W) (hs : sl m < 15) : EntR w b (stX ib kh ohs sl (m + 1)) n sl (m + 1) (W.setCell ⟨ib, sl m, none⟩ (.bool true)) := by
  obtain ⟨rr, qq, c, A, k, S, h1, h2⟩ := h
  have hd := S.dist
  simp only [stX, List.map_cons, List.map_nil, List.nodup_cons, List.mem_cons, List.not_mem_nil, or_false, not_or, not_false_eq_true, and_true, List.nodup_nil] at hd
  refine ⟨rr, qq, c, A, k, S.poke (x := ib) (o := oBools (inF sl m) 15) (o' := oBools (inF sl (m + 1)) 15) (by simp [stX]) ?_ rfl (fun p hp => ?_), h1, h2⟩
  · have h1 := S.x (x := ib) (o := oBools (inF sl m) 15) (by simp [stX])
    have := heap_put (i := sl m) (.bool true) h1
    rw [bools_put _ _ hs, ← inF_succ] at this
    exact this
  · simp only [stX, List.mem_cons, List.not_mem_nil, or_false] at hp ⊢
    rcases hp with rfl | rfl
    · exact .inl rfl
    · exact .inr ⟨.inr rfl, fun e => hd e.symm⟩
/-- Between two collects. -/
def BasR (w : World) (b : Nat) (X : List (Nat × Obj)) (n : Nat) (f : Nat → Nat → Int) (k0 : Nat) (W : World) : Prop := ∃ rr qq c A k, Crew w b X 1 rr qq c A k W ∧ k ≤ k0 ∧ SegA A n f
theorem bas_new {k0 : Nat} (h : BasR w b X n f k0 W) : ∃ R, Calls Try.prog 7 #[.pointer (some ⟨b, 0, none⟩)] W fun e w' => ∃ r, e = .returned (.pointer (some ⟨r, 0, none⟩)) ∧ ColR w b X n f k0 R r 0 w' := by
  obtain ⟨rr, qq, c, A, k, S, h1, h2⟩ := h
  exact ⟨A.t.reads, col_new S h1 h2 rfl⟩
set_option maxRecDepth 100000 in
set_option maxHeartbeats 4000000 in
theorem still_any (v : Value) (z : Nat → Int) (m : Nat) (w : World) (hb : BytesC w v z m) (hz : ∀ i, i < m → 0 ≤ z i ∧ z i < 256) (hm : m ≤ 9223372036854775807) :
    Calls Try.prog 4 #[v] w fun e w' => e = .returned (.bool true) ∧ Frm.Turn [] w w' := by
  have HF := Lib.hid (first13 w)
  obtain ⟨⟨ao, vc, rfl⟩, hb2⟩ := hb
  have HB := Lib.hid hb2
  have HZ := Lib.hid hz
  clear hb2 hz
  by_cases hbig : 40 < m
  · have hbig' : (40 : Int) < (m : Int) := by omega
    go_enter Try.func4, Try.ntmps4
    go_wp2_with (first
      | (go_at_call 5; (with_reducible refine (HF.out).mono ?_); rintro e w1 ⟨rfl, hT⟩; have HT1 := Lib.hid hT; clear hT))
    go_ret
    exact ⟨rfl, HT1.out⟩
  · have hbig' : ¬ (40 : Int) < (m : Int) := by omega
    have HM : Hid (m ≤ 40) := Lib.hid (by omega)
    obtain ⟨fs, hfs⟩ := struct_of under_refA
    have HFS := Lib.hid hfs
    have hmb : ∀ W : World, (Instr.makeSlice 38 (.int .i64 15) (.int .i64 15)).run Try.prog W = .ok (.slice (some ⟨W.heap.size, 0, none⟩) 15 15) (W.alloc (oBools (fun _ => false) 15)) := Col.made_bools 15 (by omega)
    clear hm hbig
    obtain ⟨sl, HSL⟩ : ∃ sl : Nat → Nat, Hid (sl = fun i => (z i % 15).toNat) := ⟨_, Lib.hid rfl⟩
    have HS15 : Hid (∀ i, sl i < 15) := Lib.hid (fun i => by rw [HSL.out]; dsimp only; omega)
    have e4 : ((4 : Nat) : Int) = 4 := rfl
    go_enter Try.func4, Try.ntmps4
    go_upto_region 6 with (first
      | (go_at_call 5; (with_reducible refine (HF.out).mono ?_); rintro e w1 ⟨rfl, hT⟩; have HT1 := Lib.hid hT; have hsg := segsN 4 w w1 hT (by omega) (by omega); rw [e4] at hsg; have HSG := Lib.hid hsg; clear hT hsg)
      | (go_at_call 6; (with_reducible refine (HSG.out).mono ?_); rintro e w2 ⟨b, CS, kh, c, ohs, A, k, K, rfl, z1, z2, z3, z4, z5, z6, z7, z8, z9, z10⟩; have HZ1 := Lib.hid z1; have HZ2 := Lib.hid z2; have HQ := Lib.hid (And.intro z3 (And.intro z4 (And.intro z5 (And.intro z7 (And.intro z8 (And.intro z9 z10)))))); have HO := Lib.hid z6; clear z1 z2 z3 z4 z5 z6 z7 z8 z9 z10)
      | (refine wpList_store_row rfl 31 (.tmp 4) (.tmp 22) rfl w2.heap.size CS rfl rfl 31 _ (World.alloc_heap_new w2 _) (by rw [HZ1.out]; exact info_refA) (by rw [HZ1.out]; rfl) HZ2.out ?_))
    generalize hw5 : World.setRow _ w2.heap.size CS = w5
    have HT5 : Hid (Frm.Turn [] w2 w5) := Lib.hid (by rw [← hw5]; exact setRow_turn ((Frm.Turn.refl [] w2).alloc _) (.inr (Nat.le_refl _)) CS)
    obtain ⟨q1, q2, q3, q4, q5, q6, q7⟩ := HQ.out
    have hst := ent_more (ent_first (sl := sl) (X := [(kh, ohs)]) (q1.step HT5.out) (fun p hp => by rw [List.mem_singleton.1 hp]; exact ⟨q2, HT5.out.keep q3 (by simp), q4⟩) (by simp) q2 (by omega) q6) (oBools (inF sl 0) 15)
    rw [inF_zero] at hst
    have HS5 := Lib.hid hst
    clear hst hw5 HF HSG HQ HT5 HZ1 HZ2 q1 q2 q3 q4 q5 q6 q7
    generalize hib : w5.heap.size = ib at HS5
    go_wp2_with fail
    clear hib
    have HS6 : Hid (EntR w b (stX ib kh ohs sl 0) 4 sl 0 (w5.alloc (oBools (fun _ => false) 15))) := HS5
    clear HS5
    go_loopw [27] (fun i wr => ∃ j : Nat, j ≤ m ∧ i = .int .i64 j ∧ EntR w b (stX ib kh ohs sl j) 4 sl j wr) (fun i _ => m - (intOf i).toNat)
    case atStart => exact ⟨0, Nat.zero_le _, rfl, HS6.out⟩
    case round =>
      obtain ⟨j, hj, rfl, hrel⟩ := hrel
      clear HS6
      by_cases hlt : j < m
      · rcases HB.out with e | ⟨ga, gc, e, hcell⟩
        · omega
        cases e
        have hc1 := hrel.since.cell (hcell j hlt) (by simp)
        obtain ⟨z0, z1⟩ := HZ.out j hlt
        have h15 := HS15.out j
        have hsl : z j % 15 = (sl j : Int) := by rw [HSL.out]; dsimp only; omega
        have h4 := sg_lt4 ⟨sl j, h15⟩
        dsimp only at h4
        have hhs := HO.out _ (hrel.x (x := kh) (o := ohs) (by simp [stX]))
        have HPL := Lib.hid (place13 (kh := kh) (c := c) (sl j) (z j) wr hsl z0 z1 h4 (by omega) hhs)
        have HR := Lib.hid hrel
        have HEN : Hid (∀ w3, Frm.Turn [] wr w3 → Calls Try.prog 15 #[.pointer (some ⟨b, 0, none⟩), .agg #[.int .u64 (hS (sgN (sl j))), .int .i64 (sl j)]] w3 fun e w' => ∃ r, e = .returned (.pointer (some ⟨r, 0, none⟩)) ∧ EntM w b (stX ib kh ohs sl j) 4 sl j r 0 w') := Lib.hid (fun w3 hT => by
          refine (enterC_any (b := b) (hS (sgN (sl j))) (sl j) w3 (by omega)).mono ?_
          rintro e w' ⟨r, q, he, hmd⟩
          exact ⟨r, he, ent_start (HR.out.turn hT) (by omega) hmd⟩)
        have hj1 : (j : Int) < (m : Int) := by omega
        have hj40 : (j : Int) ≤ 40 := by have := HM.out; omega
        have HJ := Lib.hid (And.intro hlt (And.intro h15 (And.intro h4 hsl)))
        clear hcell hrel hsl h4 h15 hlt hj hhs
        generalize z j = zj at hc1 z0 z1 HPL HJ
        go_wp2_with (first
          | (go_at_call 14; (with_reducible refine (HPL.out).mono ?_); rintro e w3 ⟨rfl, hT⟩; have HT3 := Lib.hid hT; clear hT)
          | (go_at_call 15; (with_reducible refine (HEN.out w3 HT3.out).mono ?_); rintro e w4 ⟨r, rfl, h⟩; have HM4 := Lib.hid h; clear h))
        clear HPL HT3 HEN HR
        go_loopw [36] (fun i wz => ∃ y : Nat, y ≤ 9 ∧ i = .int .i64 y ∧ EntM w b (stX ib kh ohs sl j) 4 sl j r y wz) (fun i _ => 9 - (intOf i).toNat)
        case atStart => exact ⟨0, Nat.zero_le _, rfl, HM4.out⟩
        case round =>
          obtain ⟨y, hy, rfl, hmid⟩ := hrel
          clear HM4
          by_cases hlt2 : y < 9
          · have HST := Lib.hid (ent_step hmid (by have := HJ.out.2.1; omega) HJ.out.2.2.1 (by have := HJ.out.1; have := HM.out; omega) (by omega))
            have hy1 : (y : Int) < 9 := by omega
            clear hmid
            go_wp2_with (go_at_call 16; (with_reducible refine (HST.out).mono ?_); rintro e w5 ⟨rfl, hg⟩; have HG5 := Lib.hid hg; clear hg)
            refine ⟨⟨y + 1, by omega, by simp, HG5.out⟩, ?_⟩
            simp [intOf]; omega
          · obtain rfl : y = 9 := by omega
            have hy3 : ¬ ((9 : Nat) : Int) < 9 := by omega
            have he := ent_end hmid (by have := HJ.out.2.1; omega)
            have HE := Lib.hid (ent_flag he HJ.out.2.1)
            obtain ⟨a0, a1⟩ := cell_of (i := sl j) (he.x (x := ib) (o := oBools (inF sl j) 15) (by simp [stX])) (row_get HJ.out.2.1)
            have e15 : IntKind.u8.wrap (zj % 15) = (sl j : Int) := by rw [HJ.out.2.2.2, IntKind.wrap_u8]; have := HJ.out.2.1; omega
            have z5 : zj.tmod 15 = (sl j : Int) := by rw [Int.tmod_eq_emod_of_nonneg z0]; exact HJ.out.2.2.2
            have z6 := HJ.out.2.2.2
            have s15 : (sl j : Int) < 15 := by have := HJ.out.2.1; omega
            have s0 : (0 : Int) ≤ (sl j : Int) := by omega
            clear hmid he hlt2 hy
            go_wp2_with fail
            refine ⟨⟨j + 1, by have := HJ.out.1; omega, by simp, HE.out⟩, ?_⟩
            have := HJ.out.1
            simp [intOf]; omega
      · obtain rfl : j = m := by omega
        have hjj : ¬ (j : Int) < (j : Int) := by omega
        have hbs : BasR w b (stX ib kh ohs sl j) 4 (fun g y => ((tF sl j g y : Nat) : Int)) 420 wr := by
          obtain ⟨rr, qq, c, A, k, S, h1, h2⟩ := hrel
          exact ⟨rr, qq, c, A, k, S, by have := HM.out; omega, h2⟩
        have HSI := Lib.hid (si_end (still_si HS15.out j 300) (by omega))
        have HBS := Lib.hid hbs
        clear hrel hbs hlt hj hmb
        obtain ⟨F, HFF⟩ : ∃ F : Nat → Nat → Int, Hid (F = fun g y => ((tF sl j g y : Nat) : Int)) := ⟨_, Lib.hid rfl⟩
        rw [← HFF.out] at HBS HSI
        obtain ⟨inn, HIN⟩ : ∃ inn : Nat → Bool, Hid (inn = inF sl j) := ⟨_, Lib.hid rfl⟩
        rw [← HIN.out] at HSI
        obtain ⟨xs, HXS⟩ : ∃ xs : List (Nat × Obj), Hid (xs = stX ib kh ohs sl j) := ⟨_, Lib.hid rfl⟩
        have HX1 : Hid ((ib, oBools inn 15) ∈ xs ∧ (kh, ohs) ∈ xs) := Lib.hid (by rw [HXS.out, HIN.out]; simp [stX])
        rw [← HXS.out] at HBS
        clear HXS HIN HFF
        go_wp2_with fail
        go_loopw [46] (fun i wr => ∃ t : Nat, t ≤ 2 ∧ i = .int .i64 t ∧ BasR w b xs 4 F (420 + 300 * t) wr) (fun i _ => 2 - (intOf i).toNat)
        case atStart => exact ⟨0, Nat.zero_le _, rfl, HBS.out⟩
        case round =>
          obtain ⟨t, ht, rfl, hrel⟩ := hrel
          clear HBS
          by_cases hlt : t < 2
          · obtain ⟨R, hnw⟩ := bas_new hrel
            have HN := Lib.hid hnw
            have ht1 : (t : Int) < 2 := by omega
            have HTL := Lib.hid hlt
            clear hrel hnw hlt ht
            go_upto_region 20 with (go_at_call 7; (with_reducible refine (HN.out).mono ?_); rintro e w16 ⟨r2, rfl, hc⟩; have HC16 := Lib.hid hc; clear hc)
            clear HN
            go_wp2_with fail
            go_loopw [50] (fun i wz => ∃ y : Nat, y ≤ 300 ∧ i = .int .i64 y ∧ ColR w b xs 4 F (420 + 300 * t) R r2 y wz) (fun i _ => 300 - (intOf i).toNat)
            case atStart => exact ⟨0, Nat.zero_le _, rfl, HC16.out⟩
            case round =>
              obtain ⟨y, hy, rfl, hrel⟩ := hrel
              clear HC16
              by_cases hlt : y < 300
              · have HST := Lib.hid (col_step hrel (by omega) (by have := HTL.out; omega))
                have hj1 : (y : Int) < 300 := by omega
                clear hrel
                go_wp2_with (go_at_call 12; (with_reducible refine (HST.out).mono ?_); rintro e w17 ⟨rfl, hg⟩; have HG7 := Lib.hid hg; clear hg)
                refine ⟨⟨y + 1, by omega, by simp, HG7.out⟩, ?_⟩
                simp [intOf]; omega
              · obtain rfl : y = 300 := by omega
                have hj3 : ¬ ((300 : Nat) : Int) < 300 := by omega
                obtain ⟨f1, f2⟩ := HSI.out
                have HC := Lib.hid hrel
                obtain ⟨N, HNN⟩ : ∃ N : Nat, Hid (N = cntF inn 15) := ⟨_, Lib.hid rfl⟩
                have HP : Hid (Calls Try.prog 17 #[.pointer (some ⟨r2, 0, none⟩)] wr fun e w' => ∃ ao ac, e = .returned (.slice ao N ac) ∧ (∀ s, s < 15 → inn s = true → ∃ g, ao = some ⟨g, 0, none⟩ ∧ w'.cell? ⟨g, cntF inn s * 2, none⟩ = some (.int .u64 (hS (sgN s))) ∧ w'.cell? ⟨g, cntF inn s * 2 + 1, none⟩ = some (.int .i64 s)) ∧ Frm.Turn [] wr w') := Lib.hid (by
                  have := hrel.places (by omega)
                  rw [f2] at this
                  refine this.mono ?_
                  rintro e w' ⟨u, rfl, ho, hT2⟩
                  obtain ⟨ao, ac, rfl⟩ := Frm.row_form ho
                  refine ⟨ao, ac, by rw [HNN.out]; rfl, fun s h15 hin => ?_, hT2⟩
                  have hg := filt_get inn h15 hin
                  obtain ⟨c1, c2⟩ := plCells_get _ _ _ hg
                  obtain ⟨g, ac2, e, hcell⟩ := row_cells ho (fun e => by
                    have := List.getElem?_eq_none (l := (List.range 15).filter inn) (i := cntF inn s) (by omega)
                    rw [this] at hg; cases hg)
                  cases e
                  exact ⟨g, rfl, hcell _ _ c1, hcell _ _ c2⟩)
                have HD : Hid (∀ W, Frm.Turn [] wr W → Calls Try.prog 9 #[.pointer (some ⟨r2, 0, none⟩)] W fun e w' => e = .returned (.bool true) ∧ W = w') := Lib.hid (fun W hT => by
                  have := (HC.out.turn hT).done (by omega)
                  rw [f1] at this
                  exact this)
                have HX : Hid (∀ W, Frm.Turn [] wr W → HsAt W kh 4 ∧ ∀ s, s < 15 → W.cell? ⟨ib, s, none⟩ = some (.bool (inn s))) := Lib.hid (fun W hT => ⟨HO.out _ ((HC.out.turn hT).x HX1.out.2), fun s h15 => (cell_of (i := s) ((HC.out.turn hT).x HX1.out.1) (row_get h15)).1⟩)
                have HNX : Hid (∀ W, Frm.Turn [] wr W → BasR w b xs 4 F (420 + 300 * (t + 1)) W) := Lib.hid (fun W hT => by
                  obtain ⟨rr, qq, c, A, k, S, h1, h2⟩ := (HC.out.turn hT).ent
                  exact ⟨rr, qq, c, A, k, S, by omega, h2⟩)
                have HN15 : Hid (N ≤ 15) := Lib.hid (by rw [HNN.out]; exact cnt_le _ _)
                have n15 := HN15.out
                clear hrel hlt hy f1 f2 HC
                go_upto_region 26 with (go_at_call 17; (with_reducible refine (HP.out).mono ?_); rintro e w18 ⟨ao2, ac2, rfl, hcell, hT⟩; have HCL := Lib.hid hcell; have HT18 := Lib.hid hT; clear hcell hT)
                clear HP
                have hst : Frm.Turn [] w18 w18 := Frm.Turn.refl [] w18
                go_wp2_with fail
                go_loopw [12, 57] (fun ni i wz => ∃ s : Nat, s ≤ 15 ∧ i = .int .i64 s ∧ ni = .int .i64 (cntF inn s) ∧ Frm.Turn [] w18 wz) (fun _ i _ => 15 - (intOf i).toNat)
                case atStart => exact ⟨0, Nat.zero_le _, rfl, rfl, hst⟩
                case round =>
                  obtain ⟨s, hs, rfl, rfl, hT⟩ := hrel
                  clear hst
                  have HT := Lib.hid hT
                  by_cases hlt : s < 15
                  · obtain ⟨hh, hin⟩ := HX.out wr (HT18.out.trans hT (by simp))
                    have hi := hin s hlt
                    have hs1 : (s : Int) < 15 := by omega
                    have hs0 : (0 : Int) ≤ (s : Int) := by omega
                    have cs1 := cnt_succ inn s
                    have cs2 := cnt_mono inn (show s + 1 ≤ 15 by omega)
                    have cs3 := cnt_le inn s
                    cases hv : inn s with
                    | false =>
                      rw [hv] at hi
                      rw [hv] at cs1
                      have HCS := Lib.hid cs1
                      have HSL := Lib.hid hlt
                      clear hh hin hv cs1 cs2 cs3 hlt hs hT
                      go_wp2_with fail
                      refine ⟨⟨s + 1, by have := HSL.out; omega, by simp, by rw [HCS.out]; simp, HT.out⟩, ?_⟩
                      have := HSL.out
                      simp [intOf]; omega
                    | true =>
                      rw [hv] at hi
                      rw [hv, if_pos rfl] at cs1
                      obtain ⟨g, rfl, p0, p1⟩ := HCL.out s hlt hv
                      have p0 := hT.cell p0 (by simp)
                      have p1 := hT.cell p1 (by simp)
                      have h4 := sg_lt4 ⟨s, hlt⟩
                      dsimp only at h4
                      have HPL := Lib.hid (fun W (hT2 : Frm.Turn [] wr W) => place13 (n := 4) (kh := kh) (c := c) s (s : Int) W (by omega) (by omega) (by omega) h4 (by omega) (HX.out W (HT18.out.trans (hT.trans hT2 (by simp)) (by simp))).1)
                      have hlN : (cntF inn s : Int) < (N : Int) := by have := HNN.out; omega
                      have hn0 : (0 : Int) ≤ (cntF inn s : Int) := by omega
                      have hn1 : (cntF inn s : Int) < 15 := by omega
                      have hnn : ¬ (N : Int) ≤ (cntF inn s : Int) := by omega
                      have w8 : IntKind.u8.wrap (s : Int) = (s : Int) := by rw [IntKind.wrap_u8]; omega
                      have heq : ∀ w, (Op.equalIn 10000 44 (.agg #[.int .u64 (hS (sgN s)), .int .i64 s]) (.agg #[.int .u64 (hS (sgN s)), .int .i64 s])).run Try.prog w = .ok true w := fun w => equal2 w _ _ _ _ true (by simp)
                      have HPP : Hid (∀ W, Frm.Turn [] wr W → W.cell? ⟨g, cntF inn s * 2, none⟩ = some (.int .u64 (hS (sgN s))) ∧ W.cell? ⟨g, cntF inn s * 2 + 1, none⟩ = some (.int .i64 s)) := Lib.hid (fun W hT2 => ⟨hT2.cell p0 (by simp), hT2.cell p1 (by simp)⟩)
                      have HCS := Lib.hid cs1
                      have HSL := Lib.hid hlt
                      clear hh hin hv cs1 cs2 cs3 hlt hs hT p0 p1 h4
                      go_upto_region 30 with fail
                      go_cut [79] (fun s79 W2 => s79 = .bool false ∧ Frm.Turn [] wr W2)
                      case first =>
                        refine wp_region_held_drew (S := fun W' => Frm.Turn [] wr W') (by kernel_rfl) ?_ (fun hHeld => ?_)
                        · exact (Frm.Turn.refl [] wr).drew
                        refine wpAnyH_take (i := 0) (v := ?_) rfl (by kernel_rfl) (by kernel_rfl) (by kernel_rfl) (fun _ _ _ h => h) (Or.inl ⟨by rfl, ?_⟩) (by assumption) ?_
                        rotate_left
                        · (intro w hSw; (try dsimp only at hSw); go_simp; try with_reducible rfl)
                        try simp only [Act.put, List.getElem_toArray, List.getElem_cons_succ, List.getElem_cons_zero, List.setIfInBounds_toArray, List.set_cons_zero, List.set_cons_succ]
                        refine wpAnyH_take (i := 1) (v := ?_) rfl (by kernel_rfl) (by kernel_rfl) (by kernel_rfl) (fun _ _ _ h => h) (Or.inl ⟨by rfl, ?_⟩) (by assumption) ?_
                        rotate_left
                        · (intro w hSw; (try dsimp only at hSw); go_simp; try with_reducible rfl)
                        try simp only [Act.put, List.getElem_toArray, List.getElem_cons_succ, List.getElem_cons_zero, List.setIfInBounds_toArray, List.set_cons_zero, List.set_cons_succ]
                        refine wpAnyH_take (i := 2) (v := ?_) rfl (by kernel_rfl) (by kernel_rfl) (by kernel_rfl) (fun _ _ _ h => h) (Or.inl ⟨by rfl, ?_⟩) (by assumption) ?_
                        rotate_left
                        · (intro w hSw; (try dsimp only at hSw); go_simp; try with_reducible rfl)
                        try simp only [Act.put, List.getElem_toArray, List.getElem_cons_succ, List.getElem_cons_zero, List.setIfInBounds_toArray, List.set_cons_zero, List.set_cons_succ]
                        refine wpAnyH_take (i := 3) (v := ?_) rfl (by kernel_rfl) (by kernel_rfl) (by kernel_rfl) (fun _ _ _ h => h) (Or.inl ⟨by rfl, ?_⟩) (by assumption) ?_
                        rotate_left
                        · (intro w hSw; (try dsimp only at hSw); go_simp; try with_reducible rfl)
                        try simp only [Act.put, List.getElem_toArray, List.getElem_cons_succ, List.getElem_cons_zero, List.setIfInBounds_toArray, List.set_cons_zero, List.set_cons_succ]
                        refine wpAnyH_take (i := 4) (v := ?_) rfl (by kernel_rfl) (by kernel_rfl) (by kernel_rfl) (fun _ _ _ h => h) (Or.inl ⟨by rfl, ?_⟩) (by assumption) ?_
                        rotate_left
                        · (intro w hSw; (try dsimp only at hSw); go_simp; try with_reducible rfl)
                        try simp only [Act.put, List.getElem_toArray, List.getElem_cons_succ, List.getElem_cons_zero, List.setIfInBounds_toArray, List.set_cons_zero, List.set_cons_succ]
                        refine wpAnyH_take (i := 5) (v := ?_) rfl (by kernel_rfl) (by kernel_rfl) (by kernel_rfl) (fun _ _ _ h => h) (Or.inl ⟨by rfl, ?_⟩) (by assumption) ?_
                        rotate_left
                        · (intro w hSw; (try dsimp only at hSw); go_simp; try with_reducible rfl)
                        try simp only [Act.put, List.getElem_toArray, List.getElem_cons_succ, List.getElem_cons_zero, List.setIfInBounds_toArray, List.set_cons_zero, List.set_cons_succ]
                        refine wpAnyH_take (i := 6) (v := ?_) rfl (by kernel_rfl) (by kernel_rfl) (by kernel_rfl) (fun _ _ _ h => h) (Or.inl ⟨by rfl, ?_⟩) (by assumption) ?_
                        rotate_left
                        · (intro w hSw; (try dsimp only at hSw); go_simp; try with_reducible rfl)
                        try simp only [Act.put, List.getElem_toArray, List.getElem_cons_succ, List.getElem_cons_zero, List.setIfInBounds_toArray, List.set_cons_zero, List.set_cons_succ]
                        refine wpAnyH_take (i := 7) (v := ?_) rfl (by kernel_rfl) (by kernel_rfl) (by kernel_rfl) (fun _ _ _ h => h) (Or.inl ⟨by rfl, ?_⟩) (by assumption) ?_
                        rotate_left
                        · (intro w hSw; (try dsimp only at hSw); go_simp; try with_reducible rfl)
                        try simp only [Act.put, List.getElem_toArray, List.getElem_cons_succ, List.getElem_cons_zero, List.setIfInBounds_toArray, List.set_cons_zero, List.set_cons_succ]
                        refine wpAnyH_take (i := 8) (v := ?_) rfl (by kernel_rfl) (by kernel_rfl) (by kernel_rfl) (fun _ _ _ h => h) (Or.inl ⟨by rfl, ?_⟩) (by assumption) ?_
                        rotate_left
                        · (intro w hSw; (try dsimp only at hSw); obtain ⟨p0, p1⟩ := HPP.out w hSw; go_simp; try with_reducible rfl)
                        try simp only [Act.put, List.getElem_toArray, List.getElem_cons_succ, List.getElem_cons_zero, List.setIfInBounds_toArray, List.set_cons_zero, List.set_cons_succ]
                        refine wpAnyH_take (i := 9) (v := ?_) rfl (by kernel_rfl) (by kernel_rfl) (by kernel_rfl) (fun _ _ _ h => h) (Or.inl ⟨by rfl, ?_⟩) (by assumption) ?_
                        rotate_left
                        · (intro w hSw; (try dsimp only at hSw); go_simp; try with_reducible rfl)
                        try simp only [Act.put, List.getElem_toArray, List.getElem_cons_succ, List.getElem_cons_zero, List.setIfInBounds_toArray, List.set_cons_zero, List.set_cons_succ]
                        refine wpAnyH_take (i := 10) (v := ?_) rfl (by kernel_rfl) (by kernel_rfl) (by kernel_rfl) (fun _ _ _ h => h) (Or.inl ⟨by rfl, ?_⟩) (by assumption) ?_
                        rotate_left
                        · (intro w hSw; (try dsimp only at hSw); go_simp; try with_reducible rfl)
                        try simp only [Act.put, List.getElem_toArray, List.getElem_cons_succ, List.getElem_cons_zero, List.setIfInBounds_toArray, List.set_cons_zero, List.set_cons_succ]
                        refine wpAnyH_take (i := 11) (v := ?_) rfl (by kernel_rfl) (by kernel_rfl) (by kernel_rfl) (fun _ _ _ h => h) (Or.inl ⟨by rfl, ?_⟩) (by assumption) ?_
                        rotate_left
                        · (intro w hSw; (try dsimp only at hSw); go_simp; try with_reducible rfl)
                        try simp only [Act.put, List.getElem_toArray, List.getElem_cons_succ, List.getElem_cons_zero, List.setIfInBounds_toArray, List.set_cons_zero, List.set_cons_succ]
                        refine wpAnyH_ready (rs := [12]) (by kernel_rfl) (by simp) ?_
                        refine AllReadyH.cons rfl (fun K hK => ?_) AllReadyH.nil
                        try simp only [List.getElem_toArray, List.getElem_cons_succ, List.getElem_cons_zero]
                        go_simp
                        (go_at_call 14; (with_reducible refine (HPL.out _ hHeld).mono ?_); rintro e wd ⟨rfl, hT2⟩)
                        try go_wp2_with fail
                        refine hK.out _ _ (hHeld.trans hT2 (by simp)) (fun hHeld1 => ?_)
                        clear hK K
                        try simp only [Act.put, List.getElem_toArray, List.getElem_cons_succ, List.getElem_cons_zero, List.setIfInBounds_toArray, List.set_cons_zero, List.set_cons_succ]
                        refine wpAnyH_take (i := 13) (v := ?_) rfl (by kernel_rfl) (by kernel_rfl) (by kernel_rfl) (fun _ _ _ h => h) (Or.inl ⟨by rfl, ?_⟩) (by assumption) ?_
                        rotate_left
                        · (intro w hSw; (try dsimp only at hSw); go_simp; try with_reducible rfl)
                        try simp only [Act.put, List.getElem_toArray, List.getElem_cons_succ, List.getElem_cons_zero, List.setIfInBounds_toArray, List.set_cons_zero, List.set_cons_succ]
                        refine wpAnyH_take (i := 14) (v := ?_) rfl (by kernel_rfl) (by kernel_rfl) (by kernel_rfl) (fun _ _ _ h => h) (Or.inl ⟨by rfl, ?_⟩) (by assumption) ?_
                        rotate_left
                        · (intro w hSw; (try dsimp only at hSw); go_simp; try with_reducible rfl)
                        try simp only [Act.put, List.getElem_toArray, List.getElem_cons_succ, List.getElem_cons_zero, List.setIfInBounds_toArray, List.set_cons_zero, List.set_cons_succ]
                        refine wpAnyH_done (by kernel_rfl) ?_ _
                        go_wp2_with fail
                        go_meet
                        exact ⟨rfl, hHeld1⟩
                      case rest =>
                        obtain ⟨rfl, hcT⟩ := hcut
                        clear HPL HPP heq
                        go_wp2_with fail
                        refine ⟨⟨s + 1, by have := HSL.out; omega, by simp, by rw [HCS.out]; simp, HT.out.trans hcT (by simp)⟩, ?_⟩
                        have := HSL.out
                        simp [intOf]; omega
                  · obtain rfl : s = 15 := by omega
                    have hs3 : ¬ ((15 : Nat) : Int) < 15 := by omega
                    have hWR := HT18.out.trans hT (by simp)
                    have HD2 := Lib.hid (HD.out wr hWR)
                    have HN2 := Lib.hid (HNX.out wr hWR)
                    rw [← HNN.out]
                    clear hWR hlt hs hT
                    go_wp2_with (go_at_call 9; (with_reducible refine (HD2.out).mono ?_); rintro e w19 ⟨rfl, rfl⟩)
                    refine ⟨⟨t + 1, by have := HTL.out; omega, by simp, HN2.out⟩, ?_⟩
                    have := HTL.out
                    simp [intOf]; omega
          · obtain rfl : t = 2 := by omega
            have ht3 : ¬ ((2 : Nat) : Int) < 2 := by omega
            obtain ⟨rr, qq, c0, A0, k0, S, h1, h2⟩ := hrel
            have HFA := Lib.hid (S.faults h2.clean)
            have HTE := Lib.hid S.kin.turn
            clear S h1 h2 hlt ht
            go_wp2_with (go_at_call 18; (with_reducible refine (HFA.out).mono ?_); rintro e w8 ⟨rfl, rfl⟩)
            go_ret
            exact ⟨rfl, HTE.out⟩
end Col
end Go.Proofs.Ythnmnpjjpckeeaa
