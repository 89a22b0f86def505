/- What a claim needs on its way, whatever stands in the arena; the claim and the document's answers. No program is spoken of here. -/
/- The list of those that claim, as a row of cells. -/
/- Those that claim and their environments, beside both arenas. -/
import Derived.Test.YtolcpfidmpoipaaGreatEnvTie
import Derived.Test.YtolcpfidmpoipaaGreatClaimStep
import Derived.Test.YtolcpfidmpoipaaGreatRunMem
import Derived.Test.YtolcpfidmpoipaaGreatClaimKin
import Derived.Test.YtolcpfidmpoipaaGreatRunWalk
set_option linter.unusedVariables false
set_option linter.unusedSimpArgs false
namespace Go.Proofs.YtolcpfidmpoipaaGreat
namespace Clm
open Arn Evn

/-- A claim's words, whatever happened. -/
structure Cl.Ok (C : Cl) : Prop where
  seg : W64 C.seg
  laid : W64 C.laid
  three : C.st = 3 → C.laid ≠ 0
  five : C.st = 5 → C.seg ≠ 0
theorem ok_new {tok : Int} : (Cl.new tok).Ok := by
  unfold Cl.new
  split
  · exact ⟨show W64 0 by unfold W64; omega, show W64 0 by unfold W64; omega, by simp, by simp⟩
  · exact ⟨show W64 0 by unfold W64; omega, show W64 0 by unfold W64; omega, by simp, by simp⟩
theorem lay_answer {A : Ar} (ok : A.Ok) (hb : A.births ≤ 1000000) (ws : List Int) : W64 (A.lay ws).2.1 ∧ ((A.lay ws).2.2 = 0 → (A.lay ws).2.1 ≠ 0) := by
  have hl := lead_small ok
  unfold Ar.lay
  split
  · exact ⟨by unfold W64; simp, by simp⟩
  split
  · exact ⟨by unfold W64; simp, by simp⟩
  · refine ⟨?_, fun _ => ?_⟩
    · unfold W64; dsimp only; omega
    · dsimp only; omega
theorem Cl.Ok.turn {C : Cl} (h : C.Ok) (h5 : C.seg ≠ 0) (s : Nat) : (C.turn s).Ok := by
  unfold Cl.turn
  split
  · exact ⟨h.seg, h.laid, by simp, by simp⟩
  · exact ⟨h.seg, h.laid, by dsimp only; split <;> simp, fun _ => h5⟩
theorem ok_step {C : Cl} (h : C.Ok) {A : Ar} (ok : A.Ok) (hb : A.births ≤ 1000000) : (C.step A).2.Ok := by
  rw [step_next]
  show (C.next (C.acc A).2).Ok
  have z0 : W64 0 := by unfold W64; omega
  by_cases s1 : C.st = 1
  · have e1 : C.acc A = aRead 0 (1 + sgN C.slot) A := by unfold Cl.acc; rw [if_pos s1]
    rw [e1]
    have hw : W64 (aRead 0 (1 + sgN C.slot) A).2.w := by
      unfold aRead Ar.read
      dsimp only
      split
      · exact get_wrd ok _ _
      · exact z0
    generalize (aRead 0 (1 + sgN C.slot) A).2 = r at hw ⊢
    unfold Cl.next
    rw [if_pos s1]
    by_cases e : r.w = 0
    · rw [if_pos e]; exact ⟨h.seg, h.laid, by simp, by simp⟩
    · rw [if_neg e]; exact ⟨hw, h.laid, by simp, fun _ => e⟩
  by_cases s2 : C.st = 2
  · have e1 : C.acc A = aLay (List.replicate (7 * 2 ^ sgN C.slot) 0) A := by unfold Cl.acc; rw [if_neg s1, if_pos s2]
    rw [e1]
    obtain ⟨l1, l2⟩ := lay_answer ok hb (List.replicate (7 * 2 ^ sgN C.slot) 0)
    have l1 : W64 (aLay (List.replicate (7 * 2 ^ sgN C.slot) 0) A).2.w := l1
    have l2 : (aLay (List.replicate (7 * 2 ^ sgN C.slot) 0) A).2.e = 0 → (aLay (List.replicate (7 * 2 ^ sgN C.slot) 0) A).2.w ≠ 0 := l2
    generalize (aLay (List.replicate (7 * 2 ^ sgN C.slot) 0) A).2 = r at l1 l2 ⊢
    unfold Cl.next
    rw [if_neg s1, if_pos s2]
    by_cases e : r.e = 0
    · rw [if_pos e]; exact ⟨h.seg, l1, fun _ => l2 e, by simp⟩
    · rw [if_neg e]; exact ⟨h.seg, h.laid, by simp, by simp⟩
  generalize (C.acc A).2 = r
  unfold Cl.next
  rw [if_neg s1, if_neg s2]
  by_cases s3 : C.st = 3
  · rw [if_pos s3]
    by_cases e : r.ok = true
    · rw [if_pos e]; exact ⟨h.laid, z0, by simp, fun _ => h.three s3⟩
    · rw [if_neg e]; exact ⟨h.seg, h.laid, by simp, by simp⟩
  by_cases s4 : C.st = 4
  · rw [if_neg s3, if_pos s4]
    exact ⟨h.seg, z0, by simp, by simp⟩
  by_cases s5 : C.st = 5
  · rw [if_neg s3, if_neg s4, if_pos s5]
    by_cases e : r.ok = true
    · rw [if_pos e]; exact ⟨h.seg, h.laid, by simp, by simp⟩
    · rw [if_neg e]; exact Cl.Ok.turn (C := { C with own := false }) ⟨h.seg, h.laid, h.three, h.five⟩ (h.five s5) _
  · rw [if_neg s3, if_neg s4, if_neg s5]
    exact h
/-- A claim that goes through the answers of its environment. -/
structure Tied (tok : Int) (C : Cl) (L : List Res) : Prop where
  eq : C = L.foldl Cl.next (Cl.new tok)
  ok : C.Ok
theorem Tied.way {tok : Int} {C : Cl} {L : List Res} (h : Tied tok C L) (ht : tok ≠ 0) : C.Way tok := by
  rw [h.eq]; exact way_fold (way_new ht) L
theorem tied_new (tok : Int) : Tied tok (Cl.new tok) [] := ⟨rfl, ok_new⟩
theorem Tied.step {tok : Int} {C : Cl} {L : List Res} (h : Tied tok C L) {A : Ar} (ok : A.Ok) (hb : A.births ≤ 1000000) : Tied tok (C.step A).2 (L ++ [(C.acc A).2]) := by
  refine ⟨?_, ok_step h.ok ok hb⟩
  rw [step_next, List.foldl_append, ← h.eq]
  rfl
end Clm
end Go.Proofs.YtolcpfidmpoipaaGreat

set_option linter.unusedVariables false
set_option linter.unusedSimpArgs false
namespace Go.Proofs.YtolcpfidmpoipaaGreat
namespace Evn
open Go.RowKit Go.Maps Arn Clm

def lane (rr ee : Nat → Nat) (ct : Nat → Int) : Nat → List Value
  | 0 => []
  | n + 1 => lane rr ee ct n ++ [.pointer (some ⟨rr n, 0, none⟩), .pointer (some ⟨ee n, 0, none⟩), .int .i64 (ct n)]
variable {rr ee rr' ee' : Nat → Nat} {ct ct' : Nat → Int} {n i : Nat}
theorem lane_length : (lane rr ee ct n).length = n * 3 := by
  induction n with
  | zero => rfl
  | succ n ih => simp only [lane, List.length_append, ih, List.length_cons, List.length_nil]; omega
theorem lane_get (h : i < n) : (lane rr ee ct n)[i * 3]? = some (.pointer (some ⟨rr i, 0, none⟩)) ∧ (lane rr ee ct n)[i * 3 + 1]? = some (.pointer (some ⟨ee i, 0, none⟩)) ∧ (lane rr ee ct n)[i * 3 + 2]? = some (.int .i64 (ct i)) := by
  induction n with
  | zero => omega
  | succ n ih =>
    have hl : (lane rr ee ct n).length = n * 3 := lane_length
    unfold lane
    by_cases e : i = n
    · subst e
      rw [List.getElem?_append_right (by omega), List.getElem?_append_right (by omega), List.getElem?_append_right (by omega), hl, show i * 3 - i * 3 = 0 by omega, show i * 3 + 1 - i * 3 = 1 by omega, show i * 3 + 2 - i * 3 = 2 by omega]
      exact ⟨rfl, rfl, rfl⟩
    · rw [List.getElem?_append_left (by omega), List.getElem?_append_left (by omega), List.getElem?_append_left (by omega)]
      exact ih (by omega)
theorem lane_congr (h : ∀ j, j < n → rr j = rr' j ∧ ee j = ee' j ∧ ct j = ct' j) : lane rr ee ct n = lane rr' ee' ct' n := by
  induction n with
  | zero => rfl
  | succ n ih =>
    unfold lane
    obtain ⟨h1, h2, h3⟩ := h n (by omega)
    rw [ih (fun j hj => h j (by omega)), h1, h2, h3]
theorem lane_set {r e : Nat} {m : Int} (h : i < n) : (((lane rr ee ct n).set (i * 3) (.pointer (some ⟨r, 0, none⟩))).set (i * 3 + 1) (.pointer (some ⟨e, 0, none⟩))).set (i * 3 + 2) (.int .i64 m) = lane (upd rr i r) (upd ee i e) (upd ct i m) n := by
  induction n with
  | zero => omega
  | succ n ih =>
    have hl : (lane rr ee ct n).length = n * 3 := lane_length
    unfold lane
    by_cases g : i = n
    · subst g
      have hc : lane rr ee ct i = lane (upd rr i r) (upd ee i e) (upd ct i m) i := lane_congr fun j hj => by rw [upd_ne _ _ (by omega), upd_ne _ _ (by omega), upd_ne _ _ (by omega)]; exact ⟨rfl, rfl, rfl⟩
      rw [upd_at, upd_at, upd_at, ← hc]
      rw [List.set_append_right _ _ (by omega), List.set_append_right _ _ (by omega), List.set_append_right _ _ (by omega), hl, show i * 3 - i * 3 = 0 by omega, show i * 3 + 1 - i * 3 = 1 by omega, show i * 3 + 2 - i * 3 = 2 by omega]
      rfl
    · rw [upd_ne _ _ (by omega), upd_ne _ _ (by omega), upd_ne _ _ (by omega)]
      rw [List.set_append_left _ _ (by omega), List.set_append_left _ _ (by rw [List.length_set]; omega), List.set_append_left _ _ (by rw [List.length_set, List.length_set]; omega), ih (by omega)]
theorem lane_more {r e : Nat} {m : Int} : lane rr ee ct n ++ [.pointer (some ⟨r, 0, none⟩), .pointer (some ⟨e, 0, none⟩), .int .i64 m] = lane (upd rr n r) (upd ee n e) (upd ct n m) (n + 1) := by
  have hc : lane rr ee ct n = lane (upd rr n r) (upd ee n e) (upd ct n m) n := lane_congr fun j hj => by rw [upd_ne _ _ (by omega), upd_ne _ _ (by omega), upd_ne _ _ (by omega)]; exact ⟨rfl, rfl, rfl⟩
  rw [hc]
  show _ = lane (upd rr n r) (upd ee n e) (upd ct n m) n ++ [_, _, _]
  rw [upd_at, upd_at, upd_at]
theorem lane_one : ∀ u ∈ lane rr ee ct n, u.oneCell' = true := by
  induction n with
  | zero => intro u hu; cases hu
  | succ n ih =>
    intro u hu
    unfold lane at hu
    rcases List.mem_append.1 hu with h | h
    · exact ih u h
    · simp at h
      rcases h with rfl | rfl | rfl <;> rfl
end Evn
end Go.Proofs.YtolcpfidmpoipaaGreat

set_option linter.unusedVariables false
set_option linter.unusedSimpArgs false
namespace Go.Proofs.YtolcpfidmpoipaaGreat
namespace Evn
open Go.RowKit Go.Maps Arn Pac Clm

/-- What no call turns any more: where the document's arenas and the rows of answers lie. -/
def Imm (n : Nat) (Gm : List Nat) (G : Nat → List Nat) (lv : Nat → Value) (x : Nat) : Prop := x ∈ Gm ∨ ∃ i, i < n ∧ (x ∈ G i ∨ (lv i).ownBlock = some x)
structure Play (w : World) (b mb n : Nat) (v : Value) (rr ee : Nat → Nat) (ct : Nat → Int) (K : List Nat) (CS : Array Value) (Gm : List Nat) (A B : Ar) (k i0 : Nat) (c : Nat → Cl) (E : Nat → En) (CE : Nat → Array Value) (lv : Nat → Value) (G : Nat → List Nat) (W : World) : Prop where
  few : n ≤ 8
  kin : Kin w b K A k W
  row : W.ownsRow w.heap.size 43 3 v n (lane rr ee ct n)
  km : mb ∈ K
  kr : ∀ i, i < n → rr i ∈ K
  ke : ∀ i, i < n → ee i ∈ K
  ki : ∀ x, Imm n Gm G lv x → x ∈ K
  kv : ∀ x, v.ownBlock = some x → x ∈ K
  mown : W.heap[mb]? = some (.cells CS 34 (0, 0))
  mref : RefS W B (.agg CS) Gm
  cl : ∀ i, i < n → ClAt W (rr i) b (c i)
  en : ∀ i, i < n → EnAt W (ee i) (E i) (CE i) (lv i) (G i)
  tk : ∀ i, i < n → (c i).tok = (i : Int) + 1
  tie : ∀ i, i < n → i ≠ i0 → Tied ((i : Int) + 1) (c i) (E i).log
  len : ∀ i, i < n → (E i).log.length ≤ k
  cn : ∀ i, i < n → 0 ≤ ct i ∧ ct i ≤ k
  im : ∀ x, Imm n Gm G lv x → x ≠ mb ∧ v.ownBlock ≠ some x ∧ ∀ i, i < n → x ≠ rr i ∧ x ≠ ee i
  vn : ∀ x, v.ownBlock = some x → x ≠ mb ∧ ∀ i, i < n → x ≠ rr i ∧ x ≠ ee i
  ne : ∀ i j, i < n → j < n → i ≠ j → ee i ≠ ee j
  low : w.heap.size ≤ mb ∧ ∀ i, i < n → w.heap.size ≤ rr i ∧ w.heap.size ≤ ee i
theorem heap_ne {w : World} {a b : Nat} {x y : Array Value} {s t : TypeId} (ha : w.heap[a]? = some (.cells x s (0, 0))) (hb : w.heap[b]? = some (.cells y t (0, 0))) (h : s ≠ t) : a ≠ b := fun e => by
  subst e; rw [ha] at hb; cases hb; exact h rfl
variable {w W W' : World} {b mb n k i0 i : Nat} {v : Value} {rr ee : Nat → Nat} {ct : Nat → Int} {K : List Nat} {CS : Array Value} {Gm : List Nat} {A B : Ar} {c : Nat → Cl} {E : Nat → En} {CE : Nat → Array Value} {lv : Nat → Value} {G : Nat → List Nat}
theorem kin_grow {F K' : List Nat} (h : Kin w b K A k W) (ht : Frm.Turn F W W') (hF : ∀ x, x ∈ F → x ∈ K ∧ w.heap.size ≤ x) (hk : ∀ x, x ∈ K' → x ∈ K ∨ (W.heap.size ≤ x ∧ x < W'.heap.size)) : Kin w b K' A k W' := by
  obtain ⟨M, h3, h4⟩ := h
  have hs := ht.size
  refine ⟨M, h3.apart ht (fun x hx hx' => (h4 x (hF x hx').1).1 hx) (fun x hx => (hF x hx).2), fun j hj => ?_⟩
  rcases hk j hj with hj | hj
  · exact ⟨(h4 j hj).1, by have := (h4 j hj).2; omega⟩
  · exact ⟨fun hk => by have := h3.lt hk; omega, hj.2⟩
/-- Places lie apart by what lies there. -/
theorem Play.apart (P : Play w b mb n v rr ee ct K CS Gm A B k i0 c E CE lv G W) {i j : Nat} (hi : i < n) (hj : j < n) : rr i ≠ ee j ∧ rr i ≠ mb ∧ ee j ≠ mb ∧ (i ≠ j → rr i ≠ rr j) := by
  refine ⟨heap_ne (P.cl i hi) (P.en j hj).row (by decide), heap_ne (P.cl i hi) P.mown (by decide), heap_ne (P.en j hj).row P.mown (by decide), fun hij e => ?_⟩
  have h1 := (ClBody.cells (P.cl i hi)).2.2.1
  have h2 := (ClBody.cells (P.cl j hj)).2.2.1
  rw [e, h2] at h1
  rw [P.tk i hi, P.tk j hj] at h1
  simp at h1
  omega
/-- Nothing of theirs turns. -/
theorem Play.turn (P : Play w b mb n v rr ee ct K CS Gm A B k i0 c E CE lv G W) {A' : Ar} {k' : Nat} {F : List Nat} (hk : Kin w b K A' k' W') (hkk : k ≤ k') (ht : Frm.Turn F W W') (hF : ∀ x, x ∈ F → x ∉ K) : Play w b mb n v rr ee ct K CS Gm A' B k' i0 c E CE lv G W' := by
  have hn : ∀ x, x ∈ K → x ∉ F := fun x hx hx' => hF x hx' hx
  exact { P with
    kin := hk
    row := Frm.owns_turn P.row ht (fun x hx => hn x (P.kv x hx))
    mown := ht.keep P.mown (hn mb P.km)
    mref := P.mref.turn ht (fun x hx => hn x (P.ki x (.inl hx)))
    cl := fun i hi => (P.cl i hi).turn ht (hn _ (P.kr i hi))
    en := fun i hi => (P.en i hi).turn ht (hn _ (P.ke i hi)) (fun x hx => hn x (P.ki x (.inr ⟨i, hi, .inl hx⟩))) (fun x hx => hn x (P.ki x (.inr ⟨i, hi, .inr hx⟩)))
    len := fun i hi => Nat.le_trans (P.len i hi) hkk
    cn := fun i hi => ⟨(P.cn i hi).1, by have := (P.cn i hi).2; omega⟩ }
theorem Play.still (P : Play w b mb n v rr ee ct K CS Gm A B k i0 c E CE lv G W) (ht : Frm.Turn [] W W') : Play w b mb n v rr ee ct K CS Gm A B k i0 c E CE lv G W' := P.turn (P.kin.step ht) (Nat.le_refl _) ht (by simp)
theorem Play.more (P : Play w b mb n v rr ee ct K CS Gm A B k i0 c E CE lv G W) {k' : Nat} (h : k ≤ k') : Play w b mb n v rr ee ct K CS Gm A B k' i0 c E CE lv G W := P.turn (P.kin.more h) h (Frm.Turn.refl [] W) (by simp)
theorem Play.lim (P : Play w b mb n v rr ee ct K CS Gm A B k i0 c E CE lv G W) (hk : k ≤ 1000000) : LimA A := by
  have h := P.kin.choose_spec.1.low
  have hb := P.kin.born
  exact ⟨P.kin.ok, by have := h.faults; omega, by omega, by have := h.reads; omega, by have := h.swaps; omega, by have := h.lays; omega, by have := h.frees; omega⟩
theorem Play.writes (P : Play w b mb n v rr ee ct K CS Gm A B k i0 c E CE lv G W) : A.t.writes ≤ k := P.kin.choose_spec.1.low.writes
theorem Play.fit (P : Play w b mb n v rr ee ct K CS Gm A B k 8 c E CE lv G W) (hi : i < n) : (c i).Fit := by
  have hn := P.few
  have h := P.tie i hi (by omega)
  have hw := h.way (by omega)
  exact ⟨hw.st, hw.slot, by rw [P.tk i hi]; unfold W64; omega, h.ok.seg, h.ok.laid, h.ok.five⟩
/-- A claim steps. -/
theorem Play.step (P : Play w b mb n v rr ee ct K CS Gm A B k 8 c E CE lv G W) (hi : i < n) (hk : k ≤ 100000) :
    Calls Tryz.prog 12 #[.pointer (some ⟨rr i, 0, none⟩)] W fun e w' => e = .returned (.tuple #[]) ∧ Play w b mb n v rr ee ct K CS Gm ((c i).step A).1 B (k + 1) i (upd c i ((c i).step A).2) E CE lv G w' ∧ But w K (some (rr i)) W w' := by
  have hn := P.few
  refine (kin_step P.kin (by omega) (P.kr i hi) (P.low.2 i hi).1 (P.cl i hi) (P.fit hi)).mono ?_
  rintro e w' ⟨he, k1, k2, k3⟩
  have k3' := k3
  obtain ⟨F, hT, h1, h2⟩ := k3'
  have hne : ∀ x, x ∈ K → x ≠ rr i → x ∉ F := fun x hx hx' => h1 x hx (by simpa using hx')
  refine ⟨he, { P with
    kin := k1
    row := Frm.owns_turn P.row hT (fun x hx => hne x (P.kv x hx) ((P.vn x hx).2 i hi).1)
    mown := hT.keep P.mown (hne _ P.km (P.apart hi hi).2.1.symm)
    mref := P.mref.turn hT (fun x hx => hne x (P.ki x (.inl hx)) ((P.im x (.inl hx)).2.2 i hi).1)
    cl := fun j hj => ?_
    en := fun j hj => ?_
    tk := fun j hj => ?_
    tie := fun j hj hne => ?_
    len := fun j hj => by have := P.len j hj; omega
    cn := fun j hj => ⟨(P.cn j hj).1, by have := (P.cn j hj).2; omega⟩ }, k3⟩
  · by_cases e : j = i
    · subst e; rw [upd_at]; exact k2
    · rw [upd_ne _ _ e]
      exact (P.cl j hj).turn hT (hne _ (P.kr j hj) ((P.apart hj hi).2.2.2 e))
  · exact (P.en j hj).turn hT (hne _ (P.ke j hj) (P.apart hi hj).1.symm) (fun x hx => hne x (P.ki x (.inr ⟨j, hj, .inl hx⟩)) ((P.im x (.inr ⟨j, hj, .inl hx⟩)).2.2 i hi).1) (fun x hx => hne x (P.ki x (.inr ⟨j, hj, .inr hx⟩)) ((P.im x (.inr ⟨j, hj, .inr hx⟩)).2.2 i hi).1)
  · by_cases e : j = i
    · subst e
      rw [upd_at]
      have hw := (P.tie j hj (by omega)).step (A := A) P.kin.ok (by have := P.kin.born; omega)
      exact (hw.way (by omega)).tk
    · rw [upd_ne _ _ e]; exact P.tk j hj
  · rw [upd_ne _ _ hne]; exact P.tie j hj (by omega)
/-- The arena alone is written to. -/
theorem Play.write (P : Play w b mb n v rr ee ct K CS Gm A B k i0 c E CE lv G W) (hk : k ≤ 100000) (blk x z : Int) (h1 : W64 blk) (h2 : (Lit.int .i64 x).wf = true) (h3 : W64 z) :
    Calls Tryz.prog 9 #[.pointer (some ⟨b, 0, none⟩), .agg #[.int .u64 blk, .int .i64 x], .int .u64 z] W fun e w' => e = .returned (.int .i64 (A.write blk x z).2) ∧ Play w b mb n v rr ee ct K CS Gm (A.write blk x z).1 B (k + 1) i0 c E CE lv G w' ∧ But w K none W w' := by
  refine (kin_write P.kin (by omega) blk x z h1 h2 h3).mono ?_
  rintro e w' ⟨he, k1, F, hT, k2, k3⟩
  exact ⟨he, P.turn k1 (by omega) hT (fun y hy hy' => k2 y hy' (by simp) hy), F, hT, k2, k3⟩
/-- The blocks that are new. -/
theorem news (W W' : World) (X : List Nat) : ∃ N : List Nat, (∀ x, x ∈ N ↔ x ∈ X ∧ W.heap.size ≤ x) :=
  ⟨X.filter fun x => decide (W.heap.size ≤ x), fun x => by simp [List.mem_filter]⟩
/-- An environment has turned, and no more. -/
theorem Play.env {E1 : En} {CS1 : Array Value} {lv1 : Value} {G1 : List Nat} (P : Play w b mb n v rr ee ct K CS Gm A B k i c E CE lv G W) (hi : i < n) (hT : Frm.Turn [ee i] W W') (hE : EnAt W' (ee i) E1 CS1 lv1 G1) (hl : E1.log.length ≤ k)
    (hG : ∀ x, x ∈ G1 → Imm n Gm G lv x ∨ W.heap.size ≤ x) (hL : ∀ x, lv1.ownBlock = some x → Imm n Gm G lv x ∨ W.heap.size ≤ x) :
    ∃ K', (∀ x, x ∈ K → x ∈ K') ∧ Play w b mb n v rr ee ct K' CS Gm A B k i c (upd E i E1) (upd CE i CS1) (upd lv i lv1) (upd G i G1) W' := by
  have hs := hT.size
  obtain ⟨N, hN⟩ := news W W' (G1 ++ lv1.ownBlock.toList)
  have hN1 : ∀ x, x ∈ N → W.heap.size ≤ x ∧ x < W'.heap.size := fun x hx => by
    obtain ⟨h1, h2⟩ := (hN x).1 hx
    refine ⟨h2, ?_⟩
    rcases List.mem_append.1 h1 with h | h
    · exact hE.gl x h
    · rcases hE.log.2 with ⟨hv, _⟩ | ⟨g', c', cur, hv, _, hh, _⟩
      · rw [hv] at h; simp [Value.ownBlock] at h
      · rw [hv] at h; simp [Value.ownBlock] at h; subst h; exact (Array.getElem?_eq_some_iff.1 hh).1
  have hlt : ∀ j, j < n → rr j < W.heap.size ∧ ee j < W.heap.size := fun j hj => ⟨P.kin.lt (P.kr j hj), P.kin.lt (P.ke j hj)⟩
  have hmb := P.kin.lt P.km
  have himm : ∀ x, Imm n Gm (upd G i G1) (upd lv i lv1) x → Imm n Gm G lv x ∨ x ∈ N := fun x hx => by
    rcases hx with h | ⟨j, hj, h⟩
    · exact .inl (.inl h)
    · by_cases e : j = i
      · subst e
        rw [upd_at, upd_at] at h
        rcases h with h | h
        · rcases hG x h with g | g
          · exact .inl g
          · exact .inr ((hN x).2 ⟨List.mem_append_left _ h, g⟩)
        · rcases hL x h with g | g
          · exact .inl g
          · exact .inr ((hN x).2 ⟨List.mem_append_right _ (by simpa using h), g⟩)
      · rw [upd_ne _ _ e, upd_ne _ _ e] at h
        exact .inl (.inr ⟨j, hj, h⟩)
  have hfe : ∀ x, Imm n Gm G lv x → x ∉ [ee i] := fun x hx => by simpa using ((P.im x hx).2.2 i hi).2
  refine ⟨K ++ N, fun x hx => List.mem_append_left _ hx, { P with
    kin := kin_grow P.kin hT (fun x hx => by simp at hx; subst hx; exact ⟨P.ke i hi, (P.low.2 i hi).2⟩) (fun x hx => (List.mem_append.1 hx).imp id (hN1 x))
    row := Frm.owns_turn P.row hT (fun x hx => by simpa using ((P.vn x hx).2 i hi).2)
    km := List.mem_append_left _ P.km
    kr := fun j hj => List.mem_append_left _ (P.kr j hj)
    ke := fun j hj => List.mem_append_left _ (P.ke j hj)
    ki := fun x hx => (himm x hx).elim (fun h => List.mem_append_left _ (P.ki x h)) (fun h => List.mem_append_right _ h)
    kv := fun x hx => List.mem_append_left _ (P.kv x hx)
    mown := hT.keep P.mown (by simpa using (P.apart hi hi).2.2.1.symm)
    mref := P.mref.turn hT (fun x hx => hfe x (.inl hx))
    cl := fun j hj => (P.cl j hj).turn hT (by simpa using (P.apart hj hi).1)
    en := fun j hj => ?_
    tie := fun j hj hne => by rw [upd_ne _ _ hne]; exact P.tie j hj hne
    len := fun j hj => ?_
    im := fun x hx => ?_ }⟩
  · by_cases e : j = i
    · subst e; rw [upd_at, upd_at, upd_at, upd_at]; exact hE
    · rw [upd_ne _ _ e, upd_ne _ _ e, upd_ne _ _ e, upd_ne _ _ e]
      exact (P.en j hj).turn hT (by simpa using P.ne j i hj hi e) (fun x hx => hfe x (.inr ⟨j, hj, .inl hx⟩)) (fun x hx => hfe x (.inr ⟨j, hj, .inr hx⟩))
  · by_cases e : j = i
    · subst e; rw [upd_at]; exact hl
    · rw [upd_ne _ _ e]; exact P.len j hj
  · rcases himm x hx with h | h
    · exact P.im x h
    · have := (hN1 x h).1
      exact ⟨by omega, fun e => by have := P.kin.lt (P.kv x e); omega, fun j hj => by have := hlt j hj; exact ⟨by omega, by omega⟩⟩
/-- The document's arena is written anew. -/
theorem Play.mput {B1 : Ar} {CS1 : Array Value} {G1 : List Nat} (P : Play w b mb n v rr ee ct K CS Gm A B k i0 c E CE lv G W) (hT : Frm.Turn [mb] W W') (hm : W'.heap[mb]? = some (.cells CS1 34 (0, 0))) (hr : RefS W' B1 (.agg CS1) G1)
    (hG : ∀ x, x ∈ G1 → Imm n Gm G lv x ∨ (W.heap.size ≤ x ∧ x < W'.heap.size)) :
    ∃ K', (∀ x, x ∈ K → x ∈ K') ∧ Play w b mb n v rr ee ct K' CS1 G1 A B1 k i0 c E CE lv G W' := by
  have hs := hT.size
  obtain ⟨N, hN⟩ := news W W' G1
  have hN1 : ∀ x, x ∈ N → W.heap.size ≤ x ∧ x < W'.heap.size := fun x hx => by
    obtain ⟨h1, h2⟩ := (hN x).1 hx
    rcases hG x h1 with h | h
    · have := P.kin.lt (P.ki x h); omega
    · exact h
  have hlt : ∀ j, j < n → rr j < W.heap.size ∧ ee j < W.heap.size := fun j hj => ⟨P.kin.lt (P.kr j hj), P.kin.lt (P.ke j hj)⟩
  have hmb := P.kin.lt P.km
  have himm : ∀ x, Imm n G1 G lv x → Imm n Gm G lv x ∨ x ∈ N := fun x hx => by
    rcases hx with h | h
    · rcases hG x h with g | g
      · exact .inl g
      · exact .inr ((hN x).2 ⟨h, g.1⟩)
    · exact .inl (.inr h)
  have hfe : ∀ x, Imm n Gm G lv x → x ∉ [mb] := fun x hx => by simpa using (P.im x hx).1
  refine ⟨K ++ N, fun x hx => List.mem_append_left _ hx, { P with
    kin := kin_grow P.kin hT (fun x hx => by simp at hx; subst hx; exact ⟨P.km, P.low.1⟩) (fun x hx => (List.mem_append.1 hx).imp id (hN1 x))
    row := Frm.owns_turn P.row hT (fun x hx => by simpa using (P.vn x hx).1)
    km := List.mem_append_left _ P.km
    kr := fun j hj => List.mem_append_left _ (P.kr j hj)
    ke := fun j hj => List.mem_append_left _ (P.ke j hj)
    ki := fun x hx => (himm x hx).elim (fun h => List.mem_append_left _ (P.ki x h)) (fun h => List.mem_append_right _ h)
    kv := fun x hx => List.mem_append_left _ (P.kv x hx)
    mown := hm
    mref := hr
    cl := fun j hj => (P.cl j hj).turn hT (by simpa using (P.apart hj hj).2.1)
    en := fun j hj => (P.en j hj).turn hT (by simpa using (P.apart hj hj).2.2.1) (fun x hx => hfe x (.inr ⟨j, hj, .inl hx⟩)) (fun x hx => hfe x (.inr ⟨j, hj, .inr hx⟩))
    im := fun x hx => ?_ }⟩
  rcases himm x hx with h | h
  · exact P.im x h
  · have := (hN1 x h).1
    exact ⟨by omega, fun e => by have := P.kin.lt (P.kv x e); omega, fun j hj => by have := hlt j hj; exact ⟨by omega, by omega⟩⟩
/-- The claim and its environment have come together again. -/
theorem Play.tied (P : Play w b mb n v rr ee ct K CS Gm A B k i c E CE lv G W) (hi : i < n) (h : Tied ((i : Int) + 1) (c i) (E i).log) : Play w b mb n v rr ee ct K CS Gm A B k 8 c E CE lv G W :=
  { P with tie := fun j hj _ => if e : j = i then (by subst e; exact h) else P.tie j hj e }
/-- One of them begins, anew or for the first time. -/
theorem Play.fresh (P : Play w b mb n v rr ee ct K CS Gm A B k 8 c E CE lv G W) {n' i r e : Nat} {v' : Value} {F : List Nat} {m : Int} {E0 : En} {CE0 : Array Value} (hi : i < n') (hn' : n' ≤ 8) (hnn : n ≤ n') (hj : ∀ j, j < n' → j ≠ i → j < n)
    (hT : Frm.Turn F W W') (hF : ∀ x, x ∈ F → v.ownBlock = some x) (hr : W.heap.size ≤ r ∧ r < W'.heap.size) (he : W.heap.size ≤ e ∧ e < W'.heap.size) (hc : ClAt W' r b (Cl.new ((i : Int) + 1))) (hE : EnAt W' e E0 CE0 (.slice none 0 0) []) (hlog : E0.log = [])
    (hrow : W'.ownsRow w.heap.size 43 3 v' n' (lane (upd rr i r) (upd ee i e) (upd ct i m) n')) (hv : ∀ x, v'.ownBlock = some x → v.ownBlock = some x ∨ (W.heap.size ≤ x ∧ x < W'.heap.size ∧ x ≠ r ∧ x ≠ e)) (hm : 0 ≤ m ∧ m ≤ k) :
    ∃ K', (∀ x, x ∈ K → x ∈ K') ∧ Play w b mb n' v' (upd rr i r) (upd ee i e) (upd ct i m) K' CS Gm A B k 8 (upd c i (Cl.new ((i : Int) + 1))) (upd E i E0) (upd CE i CE0) (upd lv i (.slice none 0 0)) (upd G i []) W' := by
  have hs := hT.size
  have hw := P.kin.turn.size
  have hlt : ∀ j, j < n → rr j < W.heap.size ∧ ee j < W.heap.size := fun j hj => ⟨P.kin.lt (P.kr j hj), P.kin.lt (P.ke j hj)⟩
  have hmb := P.kin.lt P.km
  have himm : ∀ x, Imm n' Gm (upd G i []) (upd lv i (.slice none 0 0)) x → Imm n Gm G lv x := fun x hx => by
    rcases hx with h | ⟨j, hj', h⟩
    · exact .inl h
    · by_cases e : j = i
      · subst e; rw [upd_at, upd_at] at h; rcases h with h | h
        · cases h
        · simp [Value.ownBlock] at h
      · rw [upd_ne _ _ e, upd_ne _ _ e] at h
        exact .inr ⟨j, hj j hj' e, h⟩
  have hvF : ∀ x, Imm n Gm G lv x → x ∉ F := fun x hx hx' => (P.im x hx).2.1 (hF x hx')
  have hmF : mb ∉ F := fun h => (P.vn _ (hF _ h)).1 rfl
  have hnew : ∀ x, v'.ownBlock = some x → x ≠ mb ∧ ∀ j, j < n' → x ≠ upd rr i r j ∧ x ≠ upd ee i e j := fun x hx => by
    rcases hv x hx with h | ⟨h1, h2, h3, h4⟩
    · have hx1 := P.kin.lt (P.kv x h)
      refine ⟨(P.vn x h).1, fun j hj' => ?_⟩
      by_cases g : j = i
      · subst g; rw [upd_at, upd_at]; exact ⟨by omega, by omega⟩
      · rw [upd_ne _ _ g, upd_ne _ _ g]; exact (P.vn x h).2 j (hj j hj' g)
    · refine ⟨by omega, fun j hj' => ?_⟩
      by_cases g : j = i
      · subst g; rw [upd_at, upd_at]; exact ⟨h3, h4⟩
      · rw [upd_ne _ _ g, upd_ne _ _ g]; have := hlt j (hj j hj' g); exact ⟨by omega, by omega⟩
  refine ⟨K ++ (r :: e :: (v'.ownBlock.toList.filter fun x => decide (W.heap.size ≤ x))), fun x hx => List.mem_append_left _ hx, {
    few := hn'
    kin := kin_grow P.kin hT (fun x hx => ⟨P.kv x (hF x hx), ?_⟩) (fun x hx => ?_)
    row := hrow
    km := List.mem_append_left _ P.km
    kr := fun j hj' => ?_
    ke := fun j hj' => ?_
    ki := fun x hx => List.mem_append_left _ (P.ki x (himm x hx))
    kv := fun x hx => ?_
    mown := hT.keep P.mown hmF
    mref := P.mref.turn hT (fun x hx => hvF x (.inl hx))
    cl := fun j hj' => ?_
    en := fun j hj' => ?_
    tk := fun j hj' => ?_
    tie := fun j hj' h8 => ?_
    len := fun j hj' => ?_
    cn := fun j hj' => ?_
    im := fun x hx => ⟨(P.im x (himm x hx)).1, fun h => ?_, fun j hj' => ?_⟩
    vn := hnew
    ne := fun j j' hj' hj2 hne => ?_
    low := ⟨P.low.1, fun j hj' => ?_⟩ }⟩
  · rcases P.row.2 with ⟨hv0, _⟩ | ⟨g', c', cur, hv0, hb0, _⟩
    · have := hF x hx; rw [hv0] at this; simp [Value.ownBlock] at this
    · have := hF x hx; rw [hv0] at this; simp [Value.ownBlock] at this; omega
  · rcases List.mem_append.1 hx with h | h
    · exact .inl h
    · simp only [List.mem_cons, List.mem_filter] at h
      rcases h with rfl | rfl | ⟨h1, h2⟩
      · exact .inr hr
      · exact .inr he
      · have h2 := of_decide_eq_true h2
        rcases hv x (by simpa using h1) with g | g
        · exact .inl (P.kv x g)
        · exact .inr ⟨h2, g.2.1⟩
  · by_cases g : j = i
    · subst g; rw [upd_at]; simp
    · rw [upd_ne _ _ g]; exact List.mem_append_left _ (P.kr j (hj j hj' g))
  · by_cases g : j = i
    · subst g; rw [upd_at]; simp
    · rw [upd_ne _ _ g]; exact List.mem_append_left _ (P.ke j (hj j hj' g))
  · rcases hv x hx with g | g
    · exact List.mem_append_left _ (P.kv x g)
    · refine List.mem_append_right _ (List.mem_cons_of_mem _ (List.mem_cons_of_mem _ (List.mem_filter.2 ⟨by simpa using hx, decide_eq_true g.1⟩)))
  · by_cases g : j = i
    · subst g; rw [upd_at, upd_at]; exact hc
    · rw [upd_ne _ _ g, upd_ne _ _ g]; exact (P.cl j (hj j hj' g)).turn hT (fun h => ((P.vn _ (hF _ h)).2 j (hj j hj' g)).1 rfl)
  · by_cases g : j = i
    · subst g; simp only [upd_at]; exact hE
    · simp only [upd_ne _ _ g]
      exact (P.en j (hj j hj' g)).turn hT (fun h => ((P.vn _ (hF _ h)).2 j (hj j hj' g)).2 rfl) (fun x hx => hvF x (.inr ⟨j, hj j hj' g, .inl hx⟩)) (fun x hx => hvF x (.inr ⟨j, hj j hj' g, .inr hx⟩))
  · by_cases g : j = i
    · subst g; rw [upd_at]; unfold Cl.new; rw [if_neg (by omega)]
    · rw [upd_ne _ _ g]; exact P.tk j (hj j hj' g)
  · by_cases g : j = i
    · subst g; rw [upd_at, upd_at, hlog]; exact tied_new _
    · rw [upd_ne _ _ g, upd_ne _ _ g]; exact P.tie j (hj j hj' g) h8
  · by_cases g : j = i
    · subst g; rw [upd_at, hlog]; simp
    · rw [upd_ne _ _ g]; exact P.len j (hj j hj' g)
  · by_cases g : j = i
    · subst g; rw [upd_at]; exact hm
    · rw [upd_ne _ _ g]; exact P.cn j (hj j hj' g)
  · rcases hv x h with g | g
    · exact (P.im x (himm x hx)).2.1 g
    · have := P.kin.lt (P.ki x (himm x hx)); omega
  · have hx1 := P.kin.lt (P.ki x (himm x hx))
    by_cases g : j = i
    · subst g; rw [upd_at, upd_at]; exact ⟨by omega, by omega⟩
    · rw [upd_ne _ _ g, upd_ne _ _ g]; exact (P.im x (himm x hx)).2.2 j (hj j hj' g)
  · by_cases g : j = i
    · subst g
      rw [upd_at, upd_ne _ _ (Ne.symm hne)]
      have := (hlt j' (hj j' hj2 (Ne.symm hne))).2; omega
    · by_cases g2 : j' = i
      · subst g2
        rw [upd_at, upd_ne _ _ g]
        have := (hlt j (hj j hj' g)).2; omega
      · rw [upd_ne _ _ g, upd_ne _ _ g2]; exact P.ne j j' (hj j hj' g) (hj j' hj2 g2) hne
  · by_cases g : j = i
    · subst g; rw [upd_at, upd_at]; exact ⟨by omega, by omega⟩
    · rw [upd_ne _ _ g, upd_ne _ _ g]; exact P.low.2 j (hj j hj' g)
end Evn
end Go.Proofs.YtolcpfidmpoipaaGreat
