/- The walk over a tree: a node and what is below it. -/
import Derived.Test.YtennngngdmdpnaaQuadMem
import Derived.Maps.AppendAt
import Derived.WalkKit
import Derived.Deep.DeepMust
set_option linter.unusedVariables false
set_option linter.unusedSimpArgs false
namespace Go.Proofs.Ytennngngdmdpnaa
namespace Qud
open Go.RowKit Go.Maps Arn

theorem news2 (wr : World) (x y : Value) (t : TypeId) : ∀ (j : Nat) (u : Value), [x, y][j]? = some u → (wr.alloc (.cells #[x, y] t)).cell? ((⟨wr.heap.size, 0, none⟩ : Addr).add j) = some u := by
  intro j u hj
  rw [Addr.add_lit, Nat.zero_add, World.cell?_alloc_at _ _ _ _ rfl]
  simpa using hj
theorem news1 (wr : World) (x : Value) (t : TypeId) : ∀ (j : Nat) (u : Value), [x][j]? = some u → (wr.alloc (.cells #[x] t)).cell? ((⟨wr.heap.size, 0, none⟩ : Addr).add j) = some u := by
  intro j u hj
  rw [Addr.add_lit, Nat.zero_add, World.cell?_alloc_at _ _ _ _ rfl]
  simpa using hj
theorem heap_new (w : World) (o : Obj) : (w.alloc o).heap[w.heap.size]? = some o := by
  show (w.heap.push o)[w.heap.size]? = some o
  simp
theorem cells4 {w : World} {b : Nat} {x0 x1 x2 x3 : Value} {t : TypeId} (h : w.heap[b]? = some (.cells #[x0, x1, x2, x3] t (0, 0))) : w.cell? ⟨b, 0, none⟩ = some x0 ∧ w.cell? ⟨b, 1, none⟩ = some x1 ∧ w.cell? ⟨b, 2, none⟩ = some x2 ∧ w.cell? ⟨b, 3, none⟩ = some x3 := by
  refine ⟨?_, ?_, ?_, ?_⟩ <;> simp [World.cell?, h]
def pairCells (l : List (Int × Int)) : List Value := l.flatMap fun x => [.int .i64 x.1, .int .i64 x.2]
theorem pairCells_snoc (l : List (Int × Int)) (x : Int × Int) : pairCells (l ++ [x]) = pairCells l ++ [.int .i64 x.1, .int .i64 x.2] := by simp [pairCells]
theorem u64s_snoc (l : List Int) (x : Int) : u64s (l ++ [x]) = u64s l ++ [.int .u64 x] := by simp [u64s]
theorem under_pairs : Try.prog.underlying 44 = some (.slice 51) := by kernel_rfl
theorem info_pair : (Try.prog.info? 51).map (fun i => (i.zero, i.size, i.bytes)) = some (some (.agg #[.int .i64 0, .int .i64 0]), 2, 16) := by kernel_rfl
/-- How many a tree of so many levels has at most, of each. -/
def cap : Nat → Nat
  | 0 => 1
  | f + 1 => 1 + 4 * cap f
theorem kids_cap {g : Int → Int → Option Tr} {c : Nat} {base : Int} {l : List Int} (hg : ∀ x d r, g x d = some r → r.1.length ≤ c ∧ r.2.length ≤ c) : ∀ (i : Nat) r, kidsTo g base l i = some r → r.1.length ≤ i * c ∧ r.2.length ≤ i * c := by
  intro i
  induction i with
  | zero => intro r h; simp only [kidsTo, Option.some.injEq] at h; subst h; simp
  | succ i ih =>
    intro r h
    simp only [kidsTo, Option.bind_eq_some_iff] at h
    obtain ⟨a, ha, h⟩ := h
    have h1 := ih a ha
    have e : (i + 1) * c = i * c + c := Nat.succ_mul i c
    split at h
    · cases h; omega
    · obtain ⟨b, hb, rfl⟩ := Option.map_eq_some_iff.1 h
      have h2 := hg _ _ _ hb
      simp only [List.length_append]
      omega
theorem walk_cap (nd : Int → List Int) : ∀ (f : Nat) (h d : Int) (r : Tr), walkW nd f h d = some r → r.1.length ≤ cap f ∧ r.2.length ≤ cap f := by
  intro f
  induction f with
  | zero =>
    intro h d r hw
    simp only [walkW] at hw
    split at hw
    · cases hw
    · cases hw; simp [cap]
  | succ f ih =>
    intro h d r hw
    simp only [walkW] at hw
    split at hw
    · cases hw
    · obtain ⟨a, ha, rfl⟩ := Option.map_eq_some_iff.1 hw
      have h1 := kids_cap (c := cap f) (fun x d r hr => ih x d r hr) 4 a ha
      simp only [List.length_cons, cap]
      omega
theorem kids_stuck {g : Int → Int → Option Tr} {base : Int} {l : List Int} {i : Nat} (h : kidsTo g base l i = none) : ∀ j, i ≤ j → kidsTo g base l j = none := by
  intro j
  induction j with
  | zero => intro hj; obtain rfl : i = 0 := by omega
            exact h
  | succ j ih =>
    intro hj
    by_cases e : i = j + 1
    · subst e; exact h
    · simp only [kidsTo, ih (by omega), Option.bind_none]

def WBody (w : World) (r m : Nat) (hv pv : Value) : Prop := w.heap[r]? = some (.cells #[.map (some m), hv, pv] 98 (0, 0))
theorem WBody.cells {w : World} {r m : Nat} {hv pv : Value} (h : WBody w r m hv pv) : w.cell? ⟨r, 0, none⟩ = some (.map (some m)) ∧ w.cell? ⟨r, 1, none⟩ = some hv ∧ w.cell? ⟨r, 2, none⟩ = some pv := by
  unfold WBody at h
  refine ⟨?_, ?_, ?_⟩ <;> simp [World.cell?, h]
theorem WBody.thaw {w : World} {r m : Nat} {hv pv : Value} (h : WBody w r m hv pv) (i : Nat) : w.frozen? ⟨r, i, none⟩ = false := Frm.frozen_row w r i _ _ h
theorem WBody.turn {w w' : World} {r m : Nat} {hv pv : Value} {F : List Nat} (h : WBody w r m hv pv) (ht : Frm.Turn F w w') (hn : r ∉ F) : WBody w' r m hv pv := ht.keep h hn
theorem WBody.set {w : World} {r m : Nat} {hv pv : Value} (h : WBody w r m hv pv) : (∀ y, WBody (w.setCell ⟨r, 1, none⟩ y) r m y pv) ∧ (∀ y, WBody (w.setCell ⟨r, 2, none⟩ y) r m hv y) := by
  unfold WBody at h ⊢
  refine ⟨fun y => ?_, fun y => ?_⟩ <;> rw [Frm.heap_set _ _ _ _ _ _ _ h] <;> simp
/-- What a walk has found, all of it in blocks that were made since w0. -/
structure WAt (w0 : World) (r m n : Nat) (f : Int → List Int) (H : List Int) (P : List (Int × Int)) (hv pv : Value) (w : World) : Prop where
  body : WBody w r m hv pv
  nat : NAt w m n f
  hs : w.ownsRow w0.heap.size 22 1 hv H.length (u64s H)
  ps : w.ownsRow w0.heap.size 51 2 pv P.length (pairCells P)
  turn : Frm.Turn [] w0 w
  rn : w0.heap.size ≤ r
  mn : w0.heap.size ≤ m
  rm : r ≠ m
theorem row_ne {w : World} {base g : Nat} {e : TypeId} {size n : Nat} {v : Value} {xs : List Value} {o : Obj} (h : w.ownsRow base e size v n xs) (hg : w.heap[g]? = some o) (ho : ∀ cs, o ≠ .cells cs e (0, 0)) : v.ownBlock ≠ some g := by
  rcases h.2 with ⟨rfl, _⟩ | ⟨g', cap, cur, rfl, _, hb, _⟩
  · simp [Value.ownBlock]
  · intro e'
    simp [Value.ownBlock] at e'
    subst e'
    rw [hb] at hg
    cases hg
    exact ho _ rfl
theorem WAt.rh {w0 w : World} {r m n : Nat} {f : Int → List Int} {H : List Int} {P : List (Int × Int)} {hv pv : Value} (h : WAt w0 r m n f H P hv pv w) : hv.ownBlock ≠ some r := row_ne h.hs h.body (fun cs e => by simp at e)
theorem WAt.rp {w0 w : World} {r m n : Nat} {f : Int → List Int} {H : List Int} {P : List (Int × Int)} {hv pv : Value} (h : WAt w0 r m n f H P hv pv w) : pv.ownBlock ≠ some r := row_ne h.ps h.body (fun cs e => by simp at e)
theorem NAt.block {w : World} {m n : Nat} {f : Int → List Int} (h : NAt w m n f) : ∃ es c, w.heap[m]? = some (.map es c) := by
  obtain ⟨D, ⟨es, c, hb, _⟩, _⟩ := h
  exact ⟨es, c, hb⟩
theorem WAt.mh {w0 w : World} {r m n : Nat} {f : Int → List Int} {H : List Int} {P : List (Int × Int)} {hv pv : Value} (h : WAt w0 r m n f H P hv pv w) : hv.ownBlock ≠ some m := by
  obtain ⟨es, c, hb⟩ := h.nat.block
  exact row_ne h.hs hb (fun cs e => by simp at e)
theorem WAt.mp {w0 w : World} {r m n : Nat} {f : Int → List Int} {H : List Int} {P : List (Int × Int)} {hv pv : Value} (h : WAt w0 r m n f H P hv pv w) : pv.ownBlock ≠ some m := by
  obtain ⟨es, c, hb⟩ := h.nat.block
  exact row_ne h.ps hb (fun cs e => by simp at e)
theorem WAt.hp {w0 w : World} {r m n : Nat} {f : Int → List Int} {H : List Int} {P : List (Int × Int)} {hv pv : Value} (h : WAt w0 r m n f H P hv pv w) : ∀ k, hv.ownBlock = some k → pv.ownBlock ≠ some k := by
  rcases h.hs.2 with ⟨rfl, _⟩ | ⟨g', cap, cur, rfl, _, hb, _⟩
  · intro k hk; simp [Value.ownBlock] at hk
  · intro k hk
    simp [Value.ownBlock] at hk
    subst hk
    exact row_ne h.ps hb (fun cs e => by simp at e)
theorem WAt.step {w0 w w' : World} {r m n : Nat} {f : Int → List Int} {H : List Int} {P : List (Int × Int)} {hv pv : Value} (h : WAt w0 r m n f H P hv pv w) (ht : Frm.Turn [] w w') : WAt w0 r m n f H P hv pv w' :=
  ⟨h.body.turn ht (by simp), h.nat.turn ht (by simp), Frm.owns_turn h.hs ht (by simp), Frm.owns_turn h.ps ht (by simp), h.turn.trans ht (by simp), h.rn, h.mn, h.rm⟩
theorem WAt.push_h {w0 w w1 : World} {r m n : Nat} {f : Int → List Int} {H : List Int} {P : List (Int × Int)} {hv pv v' : Value} {x : Int} {ob : Obj} (h : WAt w0 r m n f H P hv pv w) (ho : w1.ownsRow w0.heap.size 22 1 v' (H.length + 1) (u64s H ++ [.int .u64 x]))
    (hg : (w.alloc ob).grownBy w1 hv.ownBlock) (hv1 : v'.ownBlock = hv.ownBlock ∨ v'.ownBlock = some (w.alloc ob).heap.size) : WAt w0 r m n f (H ++ [x]) P v' pv (w1.setCell ⟨r, 1, none⟩ v') := by
  have h2 := h.step ((Frm.Turn.refl [] w).alloc ob)
  have T1 := Frm.Turn.of_grown hg
  have hb1 := h2.body.turn T1 (by simp; exact fun e => h.rh e)
  have hn1 := h2.nat.turn T1 (by simp; exact fun e => h.mh e)
  have hp1 := Frm.owns_turn h2.ps T1 (fun k hk hk' => by simp at hk'; exact h.hp k hk' hk)
  have T2 : Frm.Turn [r] w1 (w1.setCell ⟨r, 1, none⟩ v') := (Frm.Turn.refl [r] w1).setCell (.inl (by simp)) v'
  have T3 := (h2.turn.trans T1 (fun k hk => .inr (by simp at hk; exact (h.hs.lt k hk).1))).trans T2 (fun k hk => .inr (by simp at hk; subst hk; exact h.rn))
  refine ⟨hb1.set.1 v', hn1.turn T2 (by simp; exact fun e => h.rm e.symm), ?_, Frm.owns_turn hp1 T2 (fun k hk hk' => by simp at hk'; subst hk'; exact h.rp hk), T3, h.rn, h.mn, h.rm⟩
  rw [List.length_append, u64s_snoc]
  refine Frm.owns_turn ho T2 (fun k hk hk' => ?_)
  simp at hk'
  subst hk'
  rcases hv1 with e | e
  · rw [e] at hk; exact h.rh hk
  · rw [e] at hk
    have := (Array.getElem?_eq_some_iff.1 h2.body).1
    cases hk
    omega
theorem WAt.push_p {w0 w w1 : World} {r m n : Nat} {f : Int → List Int} {H : List Int} {P : List (Int × Int)} {hv pv v' : Value} {x : Int × Int} {ob : Obj} (h : WAt w0 r m n f H P hv pv w) (ho : w1.ownsRow w0.heap.size 51 2 v' (P.length + 1) (pairCells P ++ [.int .i64 x.1, .int .i64 x.2]))
    (hg : (w.alloc ob).grownBy w1 pv.ownBlock) (hv1 : v'.ownBlock = pv.ownBlock ∨ v'.ownBlock = some (w.alloc ob).heap.size) : WAt w0 r m n f H (P ++ [x]) hv v' (w1.setCell ⟨r, 2, none⟩ v') := by
  have h2 := h.step ((Frm.Turn.refl [] w).alloc ob)
  have T1 := Frm.Turn.of_grown hg
  have hb1 := h2.body.turn T1 (by simp; exact fun e => h.rp e)
  have hn1 := h2.nat.turn T1 (by simp; exact fun e => h.mp e)
  have hp1 := Frm.owns_turn h2.hs T1 (fun k hk hk' => by simp at hk'; exact h.hp k hk hk')
  have T2 : Frm.Turn [r] w1 (w1.setCell ⟨r, 2, none⟩ v') := (Frm.Turn.refl [r] w1).setCell (.inl (by simp)) v'
  have T3 := (h2.turn.trans T1 (fun k hk => .inr (by simp at hk; exact (h.ps.lt k hk).1))).trans T2 (fun k hk => .inr (by simp at hk; subst hk; exact h.rn))
  refine ⟨hb1.set.2 v', hn1.turn T2 (by simp; exact fun e => h.rm e.symm), Frm.owns_turn hp1 T2 (fun k hk hk' => by simp at hk'; subst hk'; exact h.rh hk), ?_, T3, h.rn, h.mn, h.rm⟩
  rw [List.length_append, pairCells_snoc]
  refine Frm.owns_turn ho T2 (fun k hk hk' => ?_)
  simp at hk'
  subst hk'
  rcases hv1 with e | e
  · rw [e] at hk; exact h.rp hk
  · rw [e] at hk
    have := (Array.getElem?_eq_some_iff.1 h2.body).1
    cases hk
    omega
/-- What a walk leaves, whatever it answers. -/
def WEnd (w0 : World) (r m n : Nat) (f : Int → List Int) (H : List Int) (P : List (Int × Int)) (o : Option Tr) (e : Ending) (w' : World) : Prop :=
  match o with
  | none => e = .returned (.bool false) ∧ Frm.Turn [] w0 w'
  | some t => e = .returned (.bool true) ∧ ∃ hv pv, WAt w0 r m n f (H ++ t.1) (P ++ t.2) hv pv w'
theorem wend_form {w0 : World} {r m n : Nat} {f : Int → List Int} {H : List Int} {P : List (Int × Int)} {o : Option Tr} {e : Ending} {w' : World} (h : WEnd w0 r m n f H P o e w') : e = .returned (.bool o.isSome) := by
  unfold WEnd at h
  cases o with
  | none => exact h.1
  | some t => exact h.1
def Below_ (f : Nat) : Prop := ∀ (w0 : World) (r m n : Nat) (nd : Int → List Int) (H : List Int) (P : List (Int × Int)) (hv pv : Value) (W : World) (word d : Int), WAt w0 r m n nd H P hv pv W → W64 word → word ≠ 0 → 0 ≤ d → (d + 1) * pow4 f ≤ 256 →
  (∀ k, (nd k).length = 4 ∧ ∀ x, x ∈ nd k → W64 x) → H.length + cap f ≤ 1000000 → P.length + cap f ≤ 1000000 →
  Calls Try.prog 77 #[.pointer (some ⟨r, 0, none⟩), .int .u64 word, .int .i64 (3 - (f : Int)), .int .i64 d] W (WEnd w0 r m n nd H P (walkW nd f word d))
set_option maxRecDepth 100000 in
set_option maxHeartbeats 4000000 in
theorem below_zero : Below_ 0 := by
  intro w0 r m n nd H P hv pv W word d hW hw hn hd hd2 hnd hH hP
  simp only [pow4] at hd2
  have hwd := hw.1
  have hwd2 := hw.2
  by_cases hb : 1024 < word
  · have e : walkW nd 0 word d = none := by simp only [walkW]; rw [if_pos hb]
    rw [e]
    have HT := Lib.hid hW.turn
    clear hW hw
    go_enter Try.func77, Try.ntmps77
    go_wp2
    go_ret
    exact ⟨rfl, HT.out⟩
  · have e : walkW nd 0 word d = some ([], [(d, word - 1)]) := by simp only [walkW]; rw [if_neg hb]
    rw [e]
    obtain ⟨i0, hi0, hz0, hz1, hz2⟩ := info_parts info_pair
    obtain ⟨ao, ac, rfl⟩ : ∃ ao ac, pv = .slice ao P.length ac := Frm.row_form hW.ps
    obtain ⟨c0, c1, c2⟩ := hW.body.cells
    have t2 := hW.body.thaw 2
    have hPl : P.length ≤ 1000000 := by simp [cap] at hP; omega
    have hsz := hW.turn.size
    have HW := Lib.hid hW
    have HP := Lib.hid hW.ps
    clear hW hw hH hP hnd
    go_enter Try.func77, Try.ntmps77
    go_wp2_with (at_builtin; go_must (refine wpList_append_own_at _ rfl _ _ 44 rfl w0.heap.size 51 i0 (.agg #[.int .i64 0, .int .i64 0]) 2 16 under_pairs hi0 hz0 hz1 hz2 rfl (by decide) (.slice ao P.length ac) P.length (pairCells P) rfl (HP.out.alloc _) ⟨W.heap.size, 0, none⟩ 1 1 [.int .i64 d, .int .i64 (word - 1)] rfl rfl (news2 _ _ _ _) (by simp [Value.oneCell']) (by unfold maxLen; omega) (by omega) (by simp; omega) ?_); intro v1 w3 hown3 hg3 _ hl3; obtain ⟨ao1, c1', rfl⟩ := Frm.row_form hown3; have hb3 := (HW.out.body.turn ((Frm.Turn.refl [] _).alloc _) (by simp)).turn (Frm.Turn.of_grown hg3) (by simp; exact fun e => HW.out.rp e); obtain ⟨d0, d1, d2⟩ := hb3.cells; have e3 := hb3.thaw 2; have HO3 := Lib.hid hown3; have HG3 := Lib.hid hg3; have HL3 := Lib.hid hl3; clear hown3 hg3 hl3 hb3)
    go_ret
    have hh := HW.out.push_p (x := (d, word - 1)) HO3.out HG3.out HL3.out
    exact ⟨rfl, hv, _, by simpa using hh⟩
/-- A node at f levels above the last one. -/
def Node_ (f : Nat) : Prop := ∀ (w0 : World) (r m n : Nat) (nd : Int → List Int) (H : List Int) (P : List (Int × Int)) (hv pv : Value) (W : World) (h d : Int), WAt w0 r m n nd H P hv pv W → W64 h → 0 ≤ d → (d + 1) * pow4 f ≤ 64 →
  (∀ k, (nd k).length = 4 ∧ ∀ x, x ∈ nd k → W64 x) → H.length + cap (f + 1) ≤ 1000000 → P.length + cap (f + 1) ≤ 1000000 →
  Calls Try.prog 66 #[.pointer (some ⟨r, 0, none⟩), .int .u64 h, .int .i64 (3 - (f : Int)), .int .i64 d] W (WEnd w0 r m n nd H P (walkW nd (f + 1) h d))
set_option maxRecDepth 100000 in
set_option maxHeartbeats 4000000 in
theorem below_node (f : Nat) (hf : f + 1 ≤ 3) (hN : Node_ f) : Below_ (f + 1) := by
  intro w0 r m n nd H P hv pv W word d hW hw hn hd hd2 hnd hH hP
  have h1 := hN w0 r m n nd H P hv pv W word d hW hw hd (by simp only [pow4] at hd2; have e : (d + 1) * (4 * pow4 f) = 4 * ((d + 1) * pow4 f) := by rw [← Int.mul_assoc, Int.mul_comm (d + 1) 4, Int.mul_assoc]
                                                            omega) hnd hH hP
  have HC := Lib.hid h1
  obtain ⟨lv, HLV⟩ : ∃ lv : Int, Hid (lv = 3 - ((f + 1 : Nat) : Int)) := ⟨_, Lib.hid rfl⟩
  have e2 : (3 : Int) - (f : Int) = lv + 1 := by rw [HLV.out]; omega
  have l0 : 0 ≤ lv := by rw [HLV.out]; omega
  have l1 : lv < 3 := by rw [HLV.out]; omega
  rw [← HLV.out]
  rw [e2] at HC
  clear h1 hW e2 hH hP hnd hN
  go_enter Try.func77, Try.ntmps77
  go_wp2_with ((go_at_call 66; (with_reducible refine (HC.out).mono ?_); intro e w1 he; obtain rfl := wend_form he; have HE := Lib.hid he; clear he))
  go_ret
  exact HE.out
end Qud
end Go.Proofs.Ytennngngdmdpnaa
