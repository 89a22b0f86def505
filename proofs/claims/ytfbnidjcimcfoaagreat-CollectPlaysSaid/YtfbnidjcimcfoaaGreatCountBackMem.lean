/- Those that enter and exit, in memory. -/
import Derived.Test.YtfbnidjcimcfoaaGreatCountTopsWalk2
import Derived.Test.YtfbnidjcimcfoaaGreatCountBackPlain
set_option linter.unusedVariables false
set_option linter.unusedSimpArgs false
namespace Go.Proofs.YtfbnidjcimcfoaaGreat
namespace Cnt
open Go.RowKit Go.Maps Arn Pac Clm

def oPtrs (rr : Nat → Nat) (c : Nat → Option Ct) (n : Nat) : Obj := .cells (ptrsC rr c n).toArray 93
def oBools (f : Nat → Bool) (n : Nat) : Obj := .cells (bools f n).toArray 4
def backX (kh cb ib : Nat) (ohs : Obj) (rr : Nat → Nat) (c : Nat → Option Ct) (inn : Nat → Bool) (n : Nat) : List (Nat × Obj) := [(kh, ohs), (cb, oPtrs rr c n), (ib, oBools inn n)]
variable {w W W' : World} {b kh cb ib pb n k m i : Nat} {rr qq : Nat → Nat} {c : Nat → Option Ct} {A : Ar} {C : Ct} {ohs op : Obj} {sl : Nat → Nat} {inn : Nat → Bool}
theorem back_ne {o0 o1 o2 o3 : Obj} (S : Crew w b [(pb, o0), (kh, o1), (cb, o2), (ib, o3)] n rr qq c A k W) : pb ≠ cb ∧ pb ≠ ib ∧ kh ≠ cb ∧ kh ≠ ib ∧ cb ≠ ib := by
  have hd := S.dist
  simp only [List.map_cons, List.map_nil, List.nodup_cons, List.mem_cons, List.not_mem_nil, or_false, not_or, not_false_eq_true, and_true, List.nodup_nil] at hd
  exact ⟨hd.1.2.1, hd.1.2.2, hd.2.1.1, hd.2.1.2, hd.2.2⟩
theorem poke_cb {o0 o1 o2 o3 o' : Obj} {j : Nat} {v : Value} (S : Crew w b [(pb, o0), (kh, o1), (cb, o2), (ib, o3)] n rr qq c A k W) (ho : (W.setCell ⟨cb, j, none⟩ v).heap[cb]? = some o') : Crew w b [(pb, o0), (kh, o1), (cb, o'), (ib, o3)] n rr qq c A k (W.setCell ⟨cb, j, none⟩ v) := by
  obtain ⟨d1, d2, d3, d4, d5⟩ := back_ne S
  refine S.poke (x := cb) (o := o2) (by simp) ho rfl (fun p hp => ?_)
  simp only [List.mem_cons, List.not_mem_nil, or_false] at hp ⊢
  rcases hp with rfl | rfl | rfl | rfl
  · exact .inr ⟨.inl rfl, d1⟩
  · exact .inr ⟨.inr (.inl rfl), d3⟩
  · exact .inl rfl
  · exact .inr ⟨.inr (.inr (.inr rfl)), fun e => d5 e.symm⟩
theorem poke_ib {o0 o1 o2 o3 o' : Obj} {j : Nat} {v : Value} (S : Crew w b [(pb, o0), (kh, o1), (cb, o2), (ib, o3)] n rr qq c A k W) (ho : (W.setCell ⟨ib, j, none⟩ v).heap[ib]? = some o') : Crew w b [(pb, o0), (kh, o1), (cb, o2), (ib, o')] n rr qq c A k (W.setCell ⟨ib, j, none⟩ v) := by
  obtain ⟨d1, d2, d3, d4, d5⟩ := back_ne S
  refine S.poke (x := ib) (o := o3) (by simp) ho rfl (fun p hp => ?_)
  simp only [List.mem_cons, List.not_mem_nil, or_false] at hp ⊢
  rcases hp with rfl | rfl | rfl | rfl
  · exact .inr ⟨.inl rfl, d2⟩
  · exact .inr ⟨.inr (.inl rfl), d4⟩
  · exact .inr ⟨.inr (.inr (.inl rfl)), d5⟩
  · exact .inl rfl
/-- What all states have. -/
structure BackS (w : World) (b : Nat) (X : List (Nat × Obj)) (n : Nat) (sl : Nat → Nat) (rr qq : Nat → Nat) (c : Nat → Option Ct) (A : Ar) (k : Nat) (W : World) : Prop where
  crew : Crew w b X n rr qq c A k W
  seg : SegA A 4 (fun g j => ((bF c n g j : Nat) : Int))
  gd : Gd sl c n
  n12 : n ≤ 12
  s15 : ∀ i, sl i < 15
theorem BackS.turn {X : List (Nat × Obj)} (S : BackS w b X n sl rr qq c A k W) (ht : Frm.Turn [] W W') : BackS w b X n sl rr qq c A k W' := ⟨S.crew.turn ht, S.seg, S.gd, S.n12, S.s15⟩
theorem BackS.fewer {p : Nat × Obj} {X : List (Nat × Obj)} (S : BackS w b (p :: X) n sl rr qq c A k W) : BackS w b X n sl rr qq c A k W := ⟨S.crew.fewer, S.seg, S.gd, S.n12, S.s15⟩
theorem BackS.more {X : List (Nat × Obj)} (S : BackS w b X n sl rr qq c A k W) (ht : Frm.Turn [] W W') (o : Obj) : BackS w b ((W'.heap.size, o) :: X) n sl rr qq c A k (W'.alloc o) :=
  ⟨S.crew.more (ht.alloc o) ht.size (World.alloc_heap_new W' o), S.seg, S.gd, S.n12, S.s15⟩
/-- The pointer of the i-th. -/
def ptrV (rr : Nat → Nat) (c : Nat → Option Ct) (i : Nat) : Value := if (c i).isSome then .pointer (some ⟨rr i, 0, none⟩) else .pointer none
theorem BackS.ptr {X : List (Nat × Obj)} (S : BackS w b X n sl rr qq c A k W) (h : (cb, oPtrs rr c n) ∈ X) (hi : i < n) : W.cell? ⟨cb, i, none⟩ = some (ptrV rr c i) ∧ W.frozen? ⟨cb, i, none⟩ = false := cell_of (S.crew.x h) (row_get hi)
theorem BackS.in_ {X : List (Nat × Obj)} (S : BackS w b X n sl rr qq c A k W) (h : (ib, oBools inn n) ∈ X) (hi : i < n) : W.cell? ⟨ib, i, none⟩ = some (.bool (inn i)) ∧ W.frozen? ⟨ib, i, none⟩ = false := cell_of (S.crew.x h) (row_get hi)
/-- A step of one: what it leaves. -/
theorem BackS.step (S : BackS w b ((pb, op) :: backX kh cb ib ohs rr c inn n) n sl rr qq c A k W) (hk : k ≤ 1000000) (hi : i < n) (hc : c i = some C) :
    Calls Tryz.prog 42 #[.pointer (some ⟨rr i, 0, none⟩)] W fun e w' => e = .returned (.tuple #[]) ∧ BackS w b ((pb, op) :: backX kh cb ib ohs rr (upd c i (some (C.step A).2)) inn n) n sl rr qq (upd c i (some (C.step A).2)) (C.step A).1 (k + 1) w' := by
  refine (S.crew.step hk hi hc).mono ?_
  rintro e w' ⟨he, h1⟩
  refine ⟨he, ?_, back_step S.seg S.gd S.n12 hi (S.s15 i) hc, gd_upd S.gd ((S.gd i C hi hc).step A), S.n12, S.s15⟩
  have e2 : backX kh cb ib ohs rr (upd c i (some (C.step A).2)) inn n = backX kh cb ib ohs rr c inn n := by unfold backX oPtrs; rw [ptrs_keep rr c _ hc]
  rw [e2]; exact h1
/-- One is made anew and put into the row. -/
theorem BackS.anew {r q : Nat} {D : Ct} (S : BackS w b ((pb, op) :: backX kh cb ib ohs rr c inn n) n sl rr qq c A k W) (hi : i < n) (hm : MadeC W b D r q W') (hD : OneOk (sl i) D) (hcon : ∀ g j, conO (some D) g j = conO (c i) g j) :
    BackS w b ((pb, op) :: backX kh cb ib ohs (upd rr i r) (upd c i (some D)) inn n) n sl (upd rr i r) (upd qq i q) (upd c i (some D)) A k (W'.setCell ⟨cb, i, none⟩ (.pointer (some ⟨r, 0, none⟩))) := by
  have hs := S.s15 i
  have S1 := S.crew.made (i := i) hm (hD.fit (by omega))
  refine ⟨poke_cb (o2 := oPtrs rr c n) S1 ?_, back_anew S.seg hi hcon, gd_upd S.gd hD, S.n12, S.s15⟩
  have h1 := S1.x (x := cb) (o := oPtrs rr c n) (by simp [backX])
  have := heap_put (i := i) (.pointer (some ⟨r, 0, none⟩)) h1
  rw [ptrs_put rr c D r hi] at this
  exact this
theorem BackS.flip (v : Bool) (S : BackS w b ((pb, op) :: backX kh cb ib ohs rr c inn n) n sl rr qq c A k W) (hi : i < n) : BackS w b ((pb, op) :: backX kh cb ib ohs rr c (upd inn i v) n) n sl rr qq c A k (W.setCell ⟨ib, i, none⟩ (.bool v)) := by
  refine ⟨poke_ib (o3 := oBools inn n) S.crew ?_, S.seg, S.gd, S.n12, S.s15⟩
  have h1 := S.crew.x (x := ib) (o := oBools inn n) (by simp [backX])
  have := heap_put (i := i) (.bool v) h1
  rw [bools_put inn v hi] at this
  exact this
theorem exX_eq {s : Nat} (hs : s < 255) : (⟨hS (sgN s), s, min (0 : Int).toNat (kN s), min (99 : Int).toNat (kN s), 18446744073709551615⟩ : Ct) = exX s := by
  have := (kN_le hs).2
  unfold exX lessM
  have e1 : min (0 : Int).toNat (kN s) = 0 := by simp
  have e2 : min (99 : Int).toNat (kN s) = kN s := by show min 99 (kN s) = kN s; omega
  rw [e1, e2]
theorem exitX {s : Nat} (hs : s < 255) (W : World) : Calls Tryz.prog 41 #[.pointer (some ⟨b, 0, none⟩), .agg #[.int .u64 (hS (sgN s)), .int .i64 s], .int .i64 0, .int .i64 99] W fun e w' => ∃ r q, e = .returned (.pointer (some ⟨r, 0, none⟩)) ∧ MadeC W b (exX s) r q w' := by
  have := exitC_any (b := b) (hS (sgN s)) s 0 99 W hs (by omega) (by omega) (by omega) (by omega)
  rw [exX_eq hs] at this
  exact this
theorem enterX {s : Nat} (hs : s < 255) (W : World) : Calls Tryz.prog 40 #[.pointer (some ⟨b, 0, none⟩), .agg #[.int .u64 (hS (sgN s)), .int .i64 s]] W fun e w' => ∃ r q, e = .returned (.pointer (some ⟨r, 0, none⟩)) ∧ MadeC W b (enX s) r q w' := enterC_any (b := b) (hS (sgN s)) s W hs
/-- Is it done? -/
def doneO (o : Option Ct) : Bool := match o with
  | none => true
  | some C => decide (C.last ≤ C.first)
/-! ### the first loop -/
def BackR (w : World) (b kh cb ib : Nat) (ohs : Obj) (sl : Nat → Nat) (n m : Nat) (W : World) : Prop :=
  ∃ rr qq c inn A k, BackS w b (backX kh cb ib ohs rr c inn n) n sl rr qq c A k W ∧ k ≤ 20 + m ∧ Cp inn c 0 n
/-- Behind the choice: there is one at i. -/
def BackM (w : World) (b kh cb ib pb : Nat) (ohs op : Obj) (sl : Nat → Nat) (n m i : Nat) (W : World) : Prop :=
  ∃ rr qq c inn A k C, BackS w b ((pb, op) :: backX kh cb ib ohs rr c inn n) n sl rr qq c A k W ∧ k ≤ 20 + m ∧ Cp inn c 0 n ∧ c i = some C
theorem BackM.step (h : BackM w b kh cb ib pb ohs op sl n m i W) (hi : i < n) (hm : m ≤ 300) : ∃ r, W.cell? ⟨cb, i, none⟩ = some (.pointer (some ⟨r, 0, none⟩)) ∧
    Calls Tryz.prog 42 #[.pointer (some ⟨r, 0, none⟩)] W fun e w' => e = .returned (.tuple #[]) ∧ BackR w b kh cb ib ohs sl n (m + 1) w' := by
  obtain ⟨rr, qq, c, inn, A, k, C, S, h1, h2, h3⟩ := h
  have hp := (S.ptr (cb := cb) (by simp [backX]) hi).1
  have e : ptrV rr c i = .pointer (some ⟨rr i, 0, none⟩) := by unfold ptrV; rw [h3]; rfl
  rw [e] at hp
  refine ⟨rr i, hp, (S.step (by omega) hi h3).mono ?_⟩
  rintro e w' ⟨he, S'⟩
  exact ⟨he, rr, qq, _, inn, _, _, S'.fewer, by omega, cp_step h2 h3 A⟩
theorem back_enter {r q : Nat} (S : BackS w b ((pb, op) :: backX kh cb ib ohs rr c inn n) n sl rr qq c A k W) (hk : k ≤ 20 + m) (hp : Cp inn c 0 n) (hi : i < n) (hd : doneO (c i) = true) (hin : inn i = false) (hm : MadeC W b (enX (sl i)) r q W') :
    BackM w b kh cb ib pb ohs op sl n m i ((W'.setCell ⟨cb, i, none⟩ (.pointer (some ⟨r, 0, none⟩))).setCell ⟨ib, i, none⟩ (.bool true)) := by
  have S1 := S.anew hi hm (enX_ok _) (fun g j => by
    rw [conO_enX]
    cases hc : c i with
    | none => rfl
    | some C =>
      rw [hc] at hd
      rcases (hp i (Nat.zero_le _) hi).2 C hc with ⟨_, e⟩ | ⟨e, _⟩
      · rw [hin] at e; cases e
      · exact (done_out (S.gd i C hi hc) (of_decide_eq_true hd) e g j).symm)
  exact ⟨_, _, _, _, A, k, _, S1.flip true hi, hk, cp_enter hp, upd_at _ _ _⟩
theorem back_exit {r q : Nat} (S : BackS w b ((pb, op) :: backX kh cb ib ohs rr c inn n) n sl rr qq c A k W) (hk : k ≤ 20 + m) (hp : Cp inn c 0 n) (hi : i < n) (hd : doneO (c i) = true) (hin : inn i = true) (hm : MadeC W b (exX (sl i)) r q W') :
    BackM w b kh cb ib pb ohs op sl n m i ((W'.setCell ⟨cb, i, none⟩ (.pointer (some ⟨r, 0, none⟩))).setCell ⟨ib, i, none⟩ (.bool false)) := by
  have S1 := S.anew hi hm (exX_ok _) (fun g j => by
    cases hc : c i with
    | none => rw [(hp i (Nat.zero_le _) hi).1 hc] at hin; cases hin
    | some C =>
      rw [hc] at hd
      rcases (hp i (Nat.zero_le _) hi).2 C hc with ⟨e, _⟩ | ⟨_, e⟩
      · exact done_in (S.gd i C hi hc) (of_decide_eq_true hd) e g j
      · rw [hin] at e; cases e)
  exact ⟨_, _, _, _, A, k, _, S1.flip false hi, hk, cp_exit hp, upd_at _ _ _⟩
theorem back_on (S : BackS w b ((pb, op) :: backX kh cb ib ohs rr c inn n) n sl rr qq c A k W) (hk : k ≤ 20 + m) (hp : Cp inn c 0 n) (hd : doneO (c i) = false) : BackM w b kh cb ib pb ohs op sl n m i W := by
  cases hc : c i with
  | none => rw [hc] at hd; cases hd
  | some C => exact ⟨rr, qq, c, inn, A, k, C, S, hk, hp, hc⟩
/-! ### the second loop -/
def FinR (w : World) (b kh cb ib : Nat) (ohs : Obj) (sl : Nat → Nat) (n lo : Nat) (W : World) : Prop :=
  ∃ rr qq c inn A k, BackS w b (backX kh cb ib ohs rr c inn n) n sl rr qq c A k W ∧ k ≤ 500 + 50 * lo ∧ Cp inn c lo n ∧ ∀ j, j < lo → Thru (c j)
def FinM (w : World) (b kh cb ib pb : Nat) (ohs op : Obj) (sl : Nat → Nat) (n lo : Nat) (ph : Bool) (y : Nat) (W : World) : Prop :=
  ∃ rr qq c inn A k, BackS w b ((pb, op) :: backX kh cb ib ohs rr c inn n) n sl rr qq c A k W ∧ k ≤ 500 + 50 * lo + (if ph then 20 + y else y) ∧ Cp inn c (if ph then lo + 1 else lo) n ∧ (∀ j, j < lo → Thru (c j)) ∧ Far y (c lo) ∧ (ph = true → ∀ C, c lo = some C → C.more = lessM)
theorem FinM.step {lo y : Nat} {ph : Bool} (h : FinM w b kh cb ib pb ohs op sl n lo ph y W) (hlo : lo < n) (hy : y ≤ 20) : ∃ pv, W.cell? ⟨cb, lo, none⟩ = some pv ∧
    Calls Tryz.prog 42 #[pv] W fun e w' => e = .returned (.tuple #[]) ∧ FinM w b kh cb ib pb ohs op sl n lo ph (y + 1) w' := by
  obtain ⟨rr, qq, c, inn, A, k, S, h1, h2, h3, h4, h5⟩ := h
  have hp := (S.ptr (cb := cb) (by simp [backX]) hlo).1
  have hn := S.n12
  have h1' : k ≤ 10000 := by
    have : (if ph = true then 20 + y else y) ≤ 40 := by split <;> omega
    omega
  refine ⟨_, hp, ?_⟩
  unfold ptrV
  cases hc : c lo with
  | none =>
    refine (stepC_nil W).mono ?_
    rintro e w' ⟨he, rfl⟩
    refine ⟨he, rr, qq, c, inn, A, k, S, ?_, h2, h3, fun C hC => (by rw [hc] at hC; cases hC), h5⟩
    revert h1; split <;> omega
  | some C =>
    refine (S.step (by omega) hlo hc).mono ?_
    rintro e w' ⟨he, S'⟩
    refine ⟨he, rr, qq, _, inn, _, _, S', ?_, cp_step h2 hc A, fun j hj => ?_, ?_, fun hp C' hC' => ?_⟩
    · revert h1; split <;> omega
    · rw [upd_ne _ _ (by omega)]; exact h3 j hj
    · rw [upd_at]
      rw [hc] at h4
      exact far_step h4 A
    · rw [upd_at] at hC'
      cases hC'
      rw [step_more]
      exact h5 hp C hc
theorem fin_stay {lo : Nat} (h : FinM w b kh cb ib pb ohs op sl n lo false 20 W) (hlo : lo < n) : ∃ iv, W.cell? ⟨ib, lo, none⟩ = some (.bool iv) ∧ (iv = false → FinM w b kh cb ib pb ohs op sl n lo true 0 W) ∧
    (iv = true → ∀ r q W', MadeC W b (exX (sl lo)) r q W' → (∃ pv, W'.cell? ⟨cb, lo, none⟩ = some pv ∧ W'.frozen? ⟨cb, lo, none⟩ = false) ∧ FinM w b kh cb ib pb ohs op sl n lo true 0 (W'.setCell ⟨cb, lo, none⟩ (.pointer (some ⟨r, 0, none⟩)))) := by
  obtain ⟨rr, qq, c, inn, A, k, S, h1, h2, h3, h4, h5⟩ := h
  have h2 : Cp inn c lo n := h2
  have h1 : k ≤ 500 + 50 * lo + 20 := h1
  refine ⟨inn lo, (S.in_ (ib := ib) (by simp [backX]) hlo).1, fun hf => ?_, fun ht r q W' hm => ⟨?_, ?_⟩⟩
  · refine ⟨rr, qq, c, inn, A, k, S, by simp; omega, cp_up h2 (by simp), h3, fun C _ => .inl (Nat.zero_le _), fun _ C hC => ?_⟩
    rcases (h2 lo (Nat.le_refl _) hlo).2 C hC with ⟨_, e⟩ | ⟨e, _⟩
    · rw [hf] at e; cases e
    · exact e
  · exact ⟨_, (S.turn hm.2.2.2.2.2.2).ptr (cb := cb) (by simp [backX]) hlo⟩
  · have S1 := S.anew hlo hm (exX_ok _) (fun g j => by
      cases hc : c lo with
      | none => rw [(h2 lo (Nat.le_refl _) hlo).1 hc] at ht; cases ht
      | some C =>
        have hk := S.gd lo C hlo hc
        rw [hc] at h4
        have hd := far_end h4 hk (by have := S.s15 lo; omega) (by omega)
        rcases (h2 lo (Nat.le_refl _) hlo).2 C hc with ⟨e, _⟩ | ⟨_, e⟩
        · exact done_in hk hd e g j
        · rw [ht] at e; cases e)
    refine ⟨_, _, _, inn, A, k, S1, by simp; omega, cp_skip h2 _, fun j hj => ?_, fun C _ => .inl (Nat.zero_le _), fun _ C hC => ?_⟩
    · rw [upd_ne _ _ (by omega)]; exact h3 j hj
    · rw [upd_at] at hC; cases hC; rfl
theorem fin_first (h : BackR w b kh cb ib ohs sl n m W) (hm : m ≤ 300) : FinR w b kh cb ib ohs sl n 0 W := by
  obtain ⟨rr, qq, c, inn, A, k, S, h1, h2⟩ := h
  exact ⟨rr, qq, c, inn, A, k, S, by omega, h2, fun j hj => by omega⟩
theorem fin_start {lo : Nat} (h : FinR w b kh cb ib ohs sl n lo W) (ht : Frm.Turn [] W W') (o : Obj) : FinM w b kh cb ib W'.heap.size ohs o sl n lo false 0 (W'.alloc o) := by
  obtain ⟨rr, qq, c, inn, A, k, S, h1, h2, h3⟩ := h
  exact ⟨rr, qq, c, inn, A, k, S.more ht o, by simp; omega, h2, h3, fun C _ => .inl (Nat.zero_le _), fun h => (by cases h)⟩
theorem FinM.place {lo y : Nat} {ph : Bool} (h : FinM w b kh cb ib pb ohs op sl n lo ph y W) : W.heap[pb]? = some op := by
  obtain ⟨rr, qq, c, inn, A, k, S, _⟩ := h
  exact S.crew.x (x := pb) (by simp)
theorem FinR.hs {lo : Nat} (h : FinR w b kh cb ib ohs sl n lo W) : W.heap[kh]? = some ohs ∧ Frm.Turn [] w W := by
  obtain ⟨rr, qq, c, inn, A, k, S, _⟩ := h
  exact ⟨S.crew.x (x := kh) (by simp [backX]), S.crew.kin.turn⟩
end Cnt
end Go.Proofs.YtfbnidjcimcfoaaGreat
