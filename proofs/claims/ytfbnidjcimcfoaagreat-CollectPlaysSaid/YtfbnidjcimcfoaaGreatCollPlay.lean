/- The steps of law 13's walk, upon its parts. -/
import Derived.Test.YtfbnidjcimcfoaaGreatCollParts
import Derived.Test.YtfbnidjcimcfoaaGreatArenaLawSame
set_option linter.unusedVariables false
set_option linter.unusedSimpArgs false
namespace Go.Proofs.YtfbnidjcimcfoaaGreat
namespace Sta
variable {w W W' : World} {b k : Nat} {A : Arn.Ar} {p q : Part} {ps l1 l2 : List Part}
theorem Stash.front (S : Stash w b A k (l1 ++ p :: l2) W) : Stash w b A k (p :: (l1 ++ l2)) W := S.perm List.perm_middle
theorem Stash.back (S : Stash w b A k (p :: (l1 ++ l2)) W) : Stash w b A k (l1 ++ p :: l2) W := S.perm List.perm_middle.symm
theorem Stash.swap (S : Stash w b A k (p :: q :: ps) W) : Stash w b A k (q :: p :: ps) W := S.perm (List.Perm.swap ..)
theorem Stash.bring2 {a c p : Part} (S : Stash w b A k (a :: c :: p :: ps) W) : Stash w b A k (p :: a :: c :: ps) W := Stash.front (l1 := [a, c]) S
theorem Stash.sink2 {a c p : Part} (S : Stash w b A k (p :: a :: c :: ps) W) : Stash w b A k (a :: c :: p :: ps) W := Stash.back (l1 := [a, c]) S
theorem Stash.bring3 {a c d p : Part} (S : Stash w b A k (a :: c :: d :: p :: ps) W) : Stash w b A k (p :: a :: c :: d :: ps) W := Stash.front (l1 := [a, c, d]) S
theorem Stash.sink3 {a c d p : Part} (S : Stash w b A k (p :: a :: c :: d :: ps) W) : Stash w b A k (a :: c :: d :: p :: ps) W := Stash.back (l1 := [a, c, d]) S
theorem Stash.bring4 {a c d e p : Part} (S : Stash w b A k (a :: c :: d :: e :: p :: ps) W) : Stash w b A k (p :: a :: c :: d :: e :: ps) W := Stash.front (l1 := [a, c, d, e]) S
theorem Stash.sink4 {a c d e p : Part} (S : Stash w b A k (p :: a :: c :: d :: e :: ps) W) : Stash w b A k (a :: c :: d :: e :: p :: ps) W := Stash.back (l1 := [a, c, d, e]) S
theorem Stash.bring5 {a c d e f p : Part} (S : Stash w b A k (a :: c :: d :: e :: f :: p :: ps) W) : Stash w b A k (p :: a :: c :: d :: e :: f :: ps) W := Stash.front (l1 := [a, c, d, e, f]) S
theorem Stash.sink5 {a c d e f p : Part} (S : Stash w b A k (p :: a :: c :: d :: e :: f :: ps) W) : Stash w b A k (a :: c :: d :: e :: f :: p :: ps) W := Stash.back (l1 := [a, c, d, e, f]) S
theorem Stash.bring6 {a c d e f g p : Part} (S : Stash w b A k (a :: c :: d :: e :: f :: g :: p :: ps) W) : Stash w b A k (p :: a :: c :: d :: e :: f :: g :: ps) W := Stash.front (l1 := [a, c, d, e, f, g]) S
theorem Stash.sink6 {a c d e f g p : Part} (S : Stash w b A k (p :: a :: c :: d :: e :: f :: g :: ps) W) : Stash w b A k (a :: c :: d :: e :: f :: g :: p :: ps) W := Stash.back (l1 := [a, c, d, e, f, g]) S
theorem Stash.bring7 {a c d e f g h p : Part} (S : Stash w b A k (a :: c :: d :: e :: f :: g :: h :: p :: ps) W) : Stash w b A k (p :: a :: c :: d :: e :: f :: g :: h :: ps) W := Stash.front (l1 := [a, c, d, e, f, g, h]) S
theorem Stash.sink7 {a c d e f g h p : Part} (S : Stash w b A k (p :: a :: c :: d :: e :: f :: g :: h :: ps) W) : Stash w b A k (a :: c :: d :: e :: f :: g :: h :: p :: ps) W := Stash.back (l1 := [a, c, d, e, f, g, h]) S
theorem Stash.bring8 {a c d e f g h i p : Part} (S : Stash w b A k (a :: c :: d :: e :: f :: g :: h :: i :: p :: ps) W) : Stash w b A k (p :: a :: c :: d :: e :: f :: g :: h :: i :: ps) W := Stash.front (l1 := [a, c, d, e, f, g, h, i]) S
theorem Stash.sink8 {a c d e f g h i p : Part} (S : Stash w b A k (p :: a :: c :: d :: e :: f :: g :: h :: i :: ps) W) : Stash w b A k (a :: c :: d :: e :: f :: g :: h :: i :: p :: ps) W := Stash.back (l1 := [a, c, d, e, f, g, h, i]) S
theorem Stash.bring9 {a c d e f g h i j p : Part} (S : Stash w b A k (a :: c :: d :: e :: f :: g :: h :: i :: j :: p :: ps) W) : Stash w b A k (p :: a :: c :: d :: e :: f :: g :: h :: i :: j :: ps) W := Stash.front (l1 := [a, c, d, e, f, g, h, i, j]) S
theorem Stash.sink9 {a c d e f g h i j p : Part} (S : Stash w b A k (p :: a :: c :: d :: e :: f :: g :: h :: i :: j :: ps) W) : Stash w b A k (a :: c :: d :: e :: f :: g :: h :: i :: j :: p :: ps) W := Stash.back (l1 := [a, c, d, e, f, g, h, i, j]) S
theorem Stash.bring10 {a c d e f g h i j l p : Part} (S : Stash w b A k (a :: c :: d :: e :: f :: g :: h :: i :: j :: l :: p :: ps) W) : Stash w b A k (p :: a :: c :: d :: e :: f :: g :: h :: i :: j :: l :: ps) W := Stash.front (l1 := [a, c, d, e, f, g, h, i, j, l]) S
theorem Stash.sink10 {a c d e f g h i j l p : Part} (S : Stash w b A k (p :: a :: c :: d :: e :: f :: g :: h :: i :: j :: l :: ps) W) : Stash w b A k (a :: c :: d :: e :: f :: g :: h :: i :: j :: l :: p :: ps) W := Stash.back (l1 := [a, c, d, e, f, g, h, i, j, l]) S
end Sta
namespace Col
open Go.RowKit Go.Maps Arn Pac Clm Cnt Evn Sta
variable {w W W' : World} {b k n r q eb mb : Nat} {A B : Ar} {ps l1 l2 : List Part} {C : Co} {v lv : Value} {f : Nat → Nat → Int} {E : En} {CS : Array Value} {G : List Nat} {L : List Res}
def zE24 : Array Value := #[.int .i64 0, .int .i64 0, .int .i64 0, .int .i64 0, .int .u64 0, .int .u64 0, .int .u64 0, .int .u64 0, .int .u64 0, .int .u64 0, .int .u64 0, .int .u64 0, .int .u64 0, .slice none 0 0, .int .i64 0, .int .i64 0, .int .i64 0, .int .i64 0, .int .i64 0, .int .i64 0, .slice none 0 0, .int .i64 0, .bool false, .bool false]
def zA20 : Array Value := #[.int .i64 0, .int .i64 0, .int .i64 0, .int .i64 0, .int .u64 0, .int .u64 0, .int .u64 0, .int .u64 0, .int .u64 0, .int .u64 0, .int .u64 0, .int .u64 0, .int .u64 0, .slice none 0 0, .int .i64 0, .int .i64 0, .int .i64 0, .int .i64 0, .int .i64 0, .int .i64 0]
def E00 : En := ⟨Ar.new 0, [], 0, false, false⟩
/-- An environment as it begins. -/
theorem env_fresh {N : Array Value} (hN : N = zE24) {e : Nat} (h : W.heap[e]? = some (.cells N 55 (0, 0))) : EnAt W e E00 zA20 (.slice none 0 0) [] := by
  subst hN
  exact ⟨h, rfl, by simp [zA20, Value.oneCell'], refS_new W 0, World.ownsRow_nil _ _ _ _, by simp [Value.ownBlock], by simp, by simp⟩
theorem sta_lim (S : Stash w b A k ps W) (hk : k ≤ 1000000) : LimA A ∧ A.t.adds ≤ 100000000 := by
  have h := S.kin.choose_spec.1.low
  have hb := S.kin.born
  exact ⟨⟨S.kin.ok, by have := h.faults; omega, by omega, by have := h.reads; omega, by have := h.swaps; omega, by have := h.lays; omega, by have := h.frees; omega⟩, by have := h.adds; omega⟩
theorem sta_same (S : Stash w b A k ps W) (hm : mP mb A CS G ∈ ps) :
    Calls Tryz.prog 30 #[.pointer (some ⟨b, 0, none⟩), .agg CS] W fun e w' => e = .returned (.int .i64 1) ∧ Frm.Turn [] W w' := by
  obtain ⟨M, h1, _⟩ := S.kin
  exact lawSame_any h1.at_ (.agg CS) G (S.on _ hm).2
/-- Where the environment stands behind a run that was asked for one access more. -/
theorem plc_out {A A' : Ar} {r : Res} {j : Nat} (hj : L.length + 1 ≤ j) : (plcE A A' L r j).A = A' ∧ (plcE A A' L r j).log = L ++ [r] := by
  unfold plcE posE endE
  split
  · rw [if_neg (by omega)]
    exact ⟨rfl, rfl⟩
  · exact ⟨rfl, rfl⟩
/-- What a run tells: what the collect's step has made. -/
theorem runO_out (T : TiedO C L) (F : C.Fit 4) (I : SegA A 4 f) (hp : C.ph ≠ 2) : (C.ask A).1 = C.acc A ∧ coAt L (C.ask A).2 (L.length + 1) = C.step 4 f := by
  obtain ⟨a1, a2, a3⟩ := ask_step F I hp
  exact ⟨a1, by rw [(co_last _ _).1, ← T.eq]; exact a2⟩
/-- Run, of an environment that stands second. -/
theorem sta_run {p : Part} (S : Stash w b (C.acc A) k (p :: enP eb (plcE A (C.acc A) L (C.ask A).2 0) CS lv G :: ps) W) (T : TiedO C L) (F : C.Fit 4) (I : SegA A 4 f) (hp : C.ph ≠ 2) (hl : L.length ≤ 50000) (lA : LimA A) (lA' : LimA (C.acc A)) :
    Calls Tryz.prog 35 #[.pointer (some ⟨eb, 0, none⟩)] W fun e w' => ∃ v E' CS' lv' G', e = .returned (.agg (gotO v (C.step 4 f).m)) ∧ w'.ownsRow 0 46 2 v (C.step 4 f).L.length (plCells (C.step 4 f).L) ∧ Frm.Turn [eb] W w' ∧
      E'.A = C.acc A ∧ E'.stop = !decide ((C.step 4 f).ph = 2) ∧ E'.log = L ++ [(C.ask A).2] ∧ Stash w b (C.acc A) k (p :: enP eb E' CS' lv' G' :: ps) w' := by
  obtain ⟨o1, o2⟩ := runO_out T F I hp
  have R := goesO T F I hp hl
  rw [o1] at R
  have S1 := S.swap
  refine (runO_any R lA lA' (S1.on _ (List.mem_cons_self ..))).mono ?_
  rintro e w' ⟨v, he, hr, hv, hE⟩
  rw [o2] at he hr hE
  obtain ⟨CS', lv', G', S2⟩ := sta_env S1 hE
  refine ⟨v, _, CS', lv', G', he, hr, hE.turn, ?_, ?_, ?_, S2.swap⟩
  · split
    · exact (plc_out (by omega)).1
    · exact (plc_out (by omega)).1
  · rw [plc_stop]
    by_cases h2 : (C.step 4 f).ph = 2
    · rw [if_pos h2, decide_eq_true h2, decide_eq_false (by omega)]; rfl
    · rw [if_neg h2, decide_eq_false h2, decide_eq_true (by omega)]; rfl
  · split
    · exact (plc_out (by omega)).2
    · exact (plc_out (by omega)).2
/-- One cell of a row turns. -/
theorem sta_poke {x i : Nat} {l : List Value} {t : TypeId} (u : Value) (S : Stash w b A k (blkP x (.cells l.toArray t) :: ps) W) : Stash w b A k (blkP x (.cells (l.set i u).toArray t) :: ps) (W.setCell ⟨x, i, none⟩ u) := by
  have h : W.heap[x]? = some (.cells l.toArray t (0, 0)) := S.on _ (List.mem_cons_self ..)
  exact S.act (turn_set W x i u) (by simp [blkP]) (blkP_fra _ _) (heap_put u h) (fun y hy => .inl hy) (by simp [blkP]) (by simp [blkP])
/-- What the count's next answer is. -/
def ctR (A : Ar) (seg : Int) (s : Nat) (d : Int) (L : List Res) : Res := ⟨(A.add seg (adN s L.length : Nat) d).2.1, false, 0⟩
theorem ct_goes {s : Nat} {seg d : Int} {D : Ct} (hD : D = ⟨seg, s, L.length, kN s, d⟩) (hl : L.length ≤ kN s) (h1 : A.t.adds ≤ 100000000) (h2 : (D.step A).1.t.adds ≤ 100000000) : GoesC A (D.step A).1 seg s d L (ctR A seg s d L) := by
  refine ⟨hl, fun h => ?_, h1, h2⟩
  subst hD
  unfold Ct.step aAdd ctR
  rw [if_pos (by exact h)]
theorem ct_out {s : Nat} {seg d : Int} {D : Ct} (hD : D = ⟨seg, s, L.length, kN s, d⟩) (hl : L.length ≤ kN s) :
    (plcE A (D.step A).1 L (ctR A seg s d L) (min (kN s) (L.length + 2))).A = (D.step A).1 ∧ (plcE A (D.step A).1 L (ctR A seg s d L) (min (kN s) (L.length + 2))).log.length = (D.step A).2.first ∧ (D.step A).2 = ⟨seg, s, (D.step A).2.first, kN s, d⟩ ∧ (D.step A).2.first ≤ kN s := by
  subst hD
  by_cases h : L.length < kN s
  · have e : (Ct.step ⟨seg, s, L.length, kN s, d⟩ A) = ((A.add seg (adN s L.length) d).1, ⟨seg, s, L.length + 1, kN s, d⟩) := by unfold Ct.step; rw [if_pos (by exact h)]
    rw [e]
    obtain ⟨o1, o2⟩ := plc_out (A := A) (A' := (A.add seg (adN s L.length) d).1) (r := ctR A seg s d L) (L := L) (j := min (kN s) (L.length + 2)) (by omega)
    exact ⟨o1, by rw [o2]; simp, rfl, by dsimp only; omega⟩
  · have e : (Ct.step ⟨seg, s, L.length, kN s, d⟩ A) = (A, ⟨seg, s, L.length, kN s, d⟩) := by unfold Ct.step; rw [if_neg (by exact h)]
    rw [e]
    have e2 : min (kN s) (L.length + 2) = L.length := by omega
    rw [e2]
    unfold plcE posE
    rw [if_pos (by omega), if_pos (Nat.le_refl _)]
    exact ⟨rfl, rfl, rfl, hl⟩
theorem sta_runC {s : Nat} {seg d : Int} {D : Ct} (S : Stash w b (D.step A).1 k (enP eb (plcE A (D.step A).1 L (ctR A seg s d L) 0) CS lv G :: ps) W) (hD : D = ⟨seg, s, L.length, kN s, d⟩) (hl : L.length ≤ kN s) (hs : s < 15) (lA : LimA A) (lA' : LimA (D.step A).1) (h1 : A.t.adds ≤ 100000000) (h2 : (D.step A).1.t.adds ≤ 100000000) :
    Calls Tryz.prog 43 #[.pointer (some ⟨eb, 0, none⟩), .agg #[.int .u64 seg, .int .i64 s], .int .i64 0, .int .i64 9, .int .u64 d] W fun e w' => ∃ x y E' CS' lv' G', e = .returned (.tuple #[x, y]) ∧ E'.A = (D.step A).1 ∧ E'.log.length = (D.step A).2.first ∧ Frm.Turn [eb] W w' ∧ Stash w b (D.step A).1 k (enP eb E' CS' lv' G' :: ps) w' := by
  refine (rcount_any (ct_goes hD hl h1 h2) lA lA' hs (S.on _ (List.mem_cons_self ..))).mono ?_
  rintro e w' ⟨⟨x, y, he⟩, hE, hT⟩
  obtain ⟨CS', lv', G', S2⟩ := sta_env S hE
  obtain ⟨o1, o2, _, _⟩ := ct_out (A := A) hD hl
  exact ⟨x, y, _, CS', lv', G', he, o1, o2, hT, S2⟩
theorem ct_seg {s : Nat} {d : Int} {D : Ct} {y : Nat} (hD : D = ⟨Cnt.hS (sgN s), s, y, kN s, d⟩) (hs : s < 15) (I : SegA A 4 f) : ∃ f', SegA (D.step A).1 4 f' := by
  subst hD
  unfold Ct.step
  by_cases h : y < kN s
  · rw [if_pos (by exact h)]
    have hg : sgN s < 4 := by
      have : ∀ x : Fin 15, sgN x.val < 4 := by decide
      exact this ⟨s, hs⟩
    exact ⟨_, (I.add hg (ad_lt (by omega) h)).2.1⟩
  · rw [if_neg (by exact h)]
    exact ⟨f, I⟩
end Col
end Go.Proofs.YtfbnidjcimcfoaaGreat
