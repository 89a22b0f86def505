/- The document's collect, in memory: what it has got and its result lie beside the environment. -/
/- The document's below, walked. -/
import Derived.Test.YtfbnidjcimcfoaaGreatCollTie
import Derived.Test.YtfbnidjcimcfoaaGreatEnvPos
import Derived.Test.YtfbnidjcimcfoaaGreatCollLaw
import Derived.Laws.Rows
import Derived.Test.YtfbnidjcimcfoaaGreatCountFirst
import Derived.Deep.CutBlock
set_option linter.unusedVariables false
set_option linter.unusedSimpArgs false
namespace Go.Proofs.YtfbnidjcimcfoaaGreat
namespace Col
open Go.RowKit Go.Maps Arn Pac Clm Cnt Evn

theorem lo15_fin : ∀ g : Fin 4, ∀ v : Fin 16, 1 ≤ v.val → v.val < 2 * 2 ^ g.val → loN g.val v.val ≤ 15 := by decide +kernel
/-- What was found, as cells: the list, the segments. -/
def gotO (v : Value) (m : Nat) : Array Value := #[v, .int .u64 (sv m 0), .int .u64 (sv m 1), .int .u64 (sv m 2), .int .u64 (sv m 3), .int .u64 (sv m 4), .int .u64 (sv m 5), .int .u64 (sv m 6), .int .u64 (sv m 7)]
theorem under_got : Clm.structB (Tryz.prog.underlying 87) = true := by kernel_rfl
theorem info_got : (Tryz.prog.info? 87).map (·.size) = some 9 := by kernel_rfl
theorem got_size (v : Value) (m : Nat) : (gotO v m).size = 9 := rfl
theorem got_one {v : Value} (m : Nat) (h : v.oneCell' = true) : (gotO v m).all (·.oneCell') = true := by
  have : (gotO v m).all (·.oneCell') = (v.oneCell' && true) := by simp only [gotO, List.all_toArray, Array.all_toList] <;> rfl
  rw [this, h]; rfl
theorem got_seg (v : Value) (m : Nat) {g : Nat} (hg : g < 8) : (gotO v m)[1 + g]? = some (.int .u64 (sv m g)) := by
  have : g = 0 ∨ g = 1 ∨ g = 2 ∨ g = 3 ∨ g = 4 ∨ g = 5 ∨ g = 6 ∨ g = 7 := by omega
  rcases this with rfl | rfl | rfl | rfl | rfl | rfl | rfl | rfl <;> rfl
theorem got_put0 (v u : Value) (m : Nat) : (gotO v m).setIfInBounds 0 u = gotO u m := rfl
theorem got_putS (v : Value) {g : Nat} (hg : g < 8) : (gotO v g).setIfInBounds (1 + g) (.int .u64 (hS g)) = gotO v (g + 1) := by
  have : g = 0 ∨ g = 1 ∨ g = 2 ∨ g = 3 ∨ g = 4 ∨ g = 5 ∨ g = 6 ∨ g = 7 := by omega
  rcases this with rfl | rfl | rfl | rfl | rfl | rfl | rfl | rfl <;> simp [gotO, sv]
/-- The environment, beside blocks of its caller. -/
structure EnvB (W0 : World) (lv0 : Value) (G0 : List Nat) (eb : Nat) (Bs : List Nat) (P : En) (W : World) : Prop where
  env : ∃ CS lv G, EnAt W eb P CS lv G ∧ (∀ k, k ∈ Bs → k ∉ G ∧ lv.ownBlock ≠ some k) ∧ (∀ k, k ∈ G → k ∈ G0 ∨ W0.heap.size ≤ k) ∧ ∀ k, lv.ownBlock = some k → lv0.ownBlock = some k ∨ W0.heap.size ≤ k
  turn : Frm.Turn [eb] W0 W
  bs : ∀ k, k ∈ Bs → k < W.heap.size ∧ W0.heap.size ≤ k
  old : eb < W0.heap.size
variable {W0 W W' : World} {lv0 : Value} {G0 : List Nat} {eb : Nat} {Bs : List Nat} {P P' : En} {CS : Array Value} {lv : Value} {G : List Nat}
theorem lv_lt (h : EnAt W eb P CS lv G) {k : Nat} (hk : lv.ownBlock = some k) : k < W.heap.size := by
  rcases h.log.2 with ⟨rfl, _⟩ | ⟨g', c', cur, rfl, _, hh, _⟩
  · simp [Value.ownBlock] at hk
  · simp [Value.ownBlock] at hk
    subst hk
    exact (Array.getElem?_eq_some_iff.1 hh).1
theorem envB_start (h : EnAt W eb P CS lv G) : EnvB W lv G eb [] P W := ⟨⟨CS, lv, G, h, by simp, fun k hk => .inl hk, fun k hk => .inl hk⟩, Frm.Turn.refl _ _, by simp, h.lt⟩
theorem EnvB.step (h : EnvB W0 lv0 G0 eb Bs P W) (ht : Frm.Turn [] W W') : EnvB W0 lv0 G0 eb Bs P W' := by
  obtain ⟨⟨CS, lv, G, h1, h2, h3, h4⟩, h5, h6, h7⟩ := h
  have := ht.size
  exact ⟨⟨CS, lv, G, h1.step ht, h2, h3, h4⟩, h5.trans ht (by simp), fun k hk => ⟨by have := (h6 k hk).1; omega, (h6 k hk).2⟩, h7⟩
/-- A block more. -/
theorem EnvB.add (h : EnvB W0 lv0 G0 eb Bs P W) (ht : Frm.Turn [] W W') {x : Nat} (h1 : W.heap.size ≤ x) (h2 : x < W'.heap.size) : EnvB W0 lv0 G0 eb (x :: Bs) P W' := by
  obtain ⟨⟨CS, lv, G, e1, e2, e3, e4⟩, h5, h6, h7⟩ := h
  have hs := ht.size
  have hz := h5.size
  refine ⟨⟨CS, lv, G, e1.step ht, fun k hk => ?_, e3, e4⟩, h5.trans ht (by simp), fun k hk => ?_, h7⟩
  · rcases List.mem_cons.1 hk with rfl | hk
    · exact ⟨fun hg => by have := e1.gl _ hg; omega, fun hl => by have := lv_lt e1 hl; omega⟩
    · exact e2 k hk
  · rcases List.mem_cons.1 hk with rfl | hk
    · exact ⟨h2, by omega⟩
    · exact ⟨by have := (h6 k hk).1; omega, (h6 k hk).2⟩
/-- The caller's blocks turn. -/
theorem EnvB.poke {F : List Nat} (h : EnvB W0 lv0 G0 eb Bs P W) (ht : Frm.Turn F W W') (hF : ∀ k, k ∈ F → k ∈ Bs) : EnvB W0 lv0 G0 eb Bs P W' := by
  obtain ⟨⟨CS, lv, G, e1, e2, e3, e4⟩, h5, h6, h7⟩ := h
  have hs := ht.size
  refine ⟨⟨CS, lv, G, e1.turn ht (fun hk => ?_) (fun k hk hk' => (e2 k (hF k hk')).1 hk) (fun k hk hk' => (e2 k (hF k hk')).2 hk), e2, e3, e4⟩, h5.trans ht (fun k hk => .inr (h6 k (hF k hk)).2), fun k hk => ⟨by have := (h6 k hk).1; omega, (h6 k hk).2⟩, h7⟩
  have := (h6 _ (hF _ hk)).2
  omega
/-- Accesses, or a call that does some. -/
theorem EnvB.go (h : EnvB W0 lv0 G0 eb Bs P W) {f : Nat} {args : Array Value} {Q : Ending → Prop} {R : En → World → Prop}
    (hc : ∀ CS lv G, EnAt W eb P CS lv G → Calls Tryz.prog f args W fun e w' => Q e ∧ ∃ P' CS' lv' G', R P' w' ∧ EnAt w' eb P' CS' lv' G' ∧ Frm.Turn [eb] W w' ∧ (∀ k, k ∈ G' → k ∈ G ∨ W.heap.size ≤ k) ∧ ∀ k, lv'.ownBlock = some k → lv.ownBlock = some k ∨ W.heap.size ≤ k) :
    Calls Tryz.prog f args W fun e w' => Q e ∧ ∃ P', R P' w' ∧ EnvB W0 lv0 G0 eb Bs P' w' ∧ Frm.Turn [eb] W w' := by
  obtain ⟨⟨CS, lv, G, h1, h2, h3, h4⟩, h5, h6, h7⟩ := h
  refine (hc CS lv G h1).mono ?_
  rintro e w' ⟨hq, P', CS', lv', G', hr, e1, e2, e3, e4⟩
  have hz := h5.size
  have hs := e2.size
  refine ⟨hq, P', hr, ⟨⟨CS', lv', G', e1, fun k hk => ⟨fun hg => ?_, fun hl => ?_⟩, fun k hg => ?_, fun k hl => ?_⟩, h5.trans e2 (fun k hk => .inl hk), fun k hk => ⟨by have := (h6 k hk).1; omega, (h6 k hk).2⟩, h7⟩, e2⟩
  · rcases e3 k hg with h | h
    · exact (h2 k hk).1 h
    · have := (h6 k hk).1; omega
  · rcases e4 k hl with h | h
    · exact (h2 k hk).2 h
    · have := (h6 k hk).1; omega
  · rcases e3 k hg with h | h
    · exact h3 k h
    · exact .inr (by omega)
  · rcases e4 k hl with h | h
    · exact h4 k h
    · exact .inr (by omega)
theorem EnvB.stop (h : EnvB W0 lv0 G0 eb Bs P W) : W.cell? ⟨eb, 23, none⟩ = some (.bool P.stop) := by
  obtain ⟨⟨CS, lv, G, h1, _⟩, _⟩ := h
  exact h1.cells.2.2.2
variable {A A' : Ar} {L : List Res} {r : Res} {i j g v0 : Nat}
/-- The collect's read. -/
theorem co_read (R : GoesO A A' L r) (lA : LimA A) (lA' : LimA A') (h : EnvB W0 lv0 G0 eb Bs (plcE A A' L r i) W) (hi : i ≤ L.length + 1) (b x : Int) (hx : ((coAt L r i).ph = 0 ∧ b = 0 ∧ x = 1 + ((coAt L r i).g : Int)) ∨ ((coAt L r i).ph = 1 ∧ b = hS (coAt L r i).g ∧ x = ((5 * 2 ^ (coAt L r i).g + (coAt L r i).node : Nat) : Int))) :
    Calls Tryz.prog 60 #[.pointer (some ⟨eb, 0, none⟩), .agg #[.int .u64 b, .int .i64 x]] W fun e w' => e = .returned (.int .u64 (ansE L r i).w) ∧ EnvB W0 lv0 G0 eb Bs (plcE A A' L r (i + 1)) w' ∧ Frm.Turn [eb] W w' := by
  refine (EnvB.go h (Q := fun e => e = .returned (.int .u64 (ansE L r i).w)) (R := fun P' _ => P' = plcE A A' L r (i + 1)) (fun CS lv G he => ?_)).mono ?_
  · refine (read_pos he R.few lA lA' hi b x fun e => ?_).mono ?_
    · have := R.at_
      rw [← e] at this
      unfold Co.ask at this
      rcases hx with ⟨h0, rfl, rfl⟩ | ⟨h1, rfl, rfl⟩
      · rw [if_pos h0] at this; exact this
      · rw [if_neg (by omega)] at this; exact this
    · rintro e w' ⟨rfl, CS', lv', G', e1, e2, e3, e4⟩
      exact ⟨rfl, _, CS', lv', G', rfl, e1, e2, e3, e4⟩
  · rintro e w' ⟨rfl, P', rfl, h1, h2⟩
    exact ⟨rfl, h1, h2⟩
theorem EnvB.drop (h : EnvB W0 lv0 G0 eb Bs P W) : EnvB W0 lv0 G0 eb [] P W := by
  obtain ⟨⟨CS, lv, G, e1, e2, e3, e4⟩, h5, h6, h7⟩ := h
  exact ⟨⟨CS, lv, G, e1, by simp, e3, e4⟩, h5, by simp, h7⟩
/-- What the document's below ends with: it has stopped, or it has come behind the node. -/
def BelOk (L : List Res) (r : Res) (i node j : Nat) (l : List Nat) : Prop :=
  (j = L.length + 2 ∧ (coAt L r (L.length + 1)).ph ≠ 2 ∧ l = (coAt L r (L.length + 1)).L ∧ (coAt L r (L.length + 1)).m = (coAt L r i).m) ∨
  (j ≤ L.length + 1 ∧ ∃ x, coAt L r j = ({ coAt L r i with L := l, node := x } : Co).go (behN node))
def BelPost (A A' : Ar) (L : List Res) (r : Res) (i node m : Nat) (W : World) (lv : Value) (G : List Nat) (eb : Nat) (e : Ending) (w' : World) : Prop :=
  ∃ j v l, (e = .returned (.agg (gotO v m))) ∧ i < j ∧ BelOk L r i node j l ∧ w'.ownsRow 0 46 2 v l.length (plCells l) ∧ v.ownBlock ≠ some eb ∧ l.length ≤ 15 ∧ EnvB W lv G eb [] (plcE A A' L r j) w'
end Col
end Go.Proofs.YtfbnidjcimcfoaaGreat

set_option linter.unusedVariables false
set_option linter.unusedSimpArgs false
namespace Go.Proofs.YtfbnidjcimcfoaaGreat
namespace Frm
/-- An append of a row to a row, as one step of a region that draws its order. -/
theorem step_append_rows13 {P : Program} {ops : Array Oper} {o : Oper} {a : Act} {w : World} {K : Act → World → Prop} {Q : Exit → Act → World → Prop} {E : Prop}
    (hg : o.guard = none) (s x : Operand) (t : TypeId) (hop : o.op = Op.call { callee := Callee.builtin Builtin.append, args := #[s, x], argTypes := #[t, t] })
    (e : TypeId) (i : TypeInfo) (z : Value) (size bytes : Nat) (h1 : P.underlying t = some (.slice e)) (h2 : P.info? e = some i) (h3 : i.zero = some z) (h4 : i.size = size) (h5 : i.bytes = bytes) (h6 : z.cells.size = size) (h7 : 0 < size)
    (base : Nat) (v : Value) (n : Nat) (xs : List Value) (hs : a.eval s = v) (hown : w.ownsRow base e size v n xs) (y : Value) (hx : a.eval x = y) (m base' : Nat) (ys : List Value) (hy : w.ownsRow base' e size y m ys) (h1c : ∀ u ∈ ys, u.oneCell' = true)
    (b1 : n + m ≤ maxLen) (b2 : (n + m) * bytes ≤ 140737488355328) (hbase : base ≤ w.heap.size)
    (hK : ∀ v' w', w'.ownsRow base e size v' (n + m) (xs ++ ys) → w.grownBy w' v.ownBlock → (v'.ownBlock = v.ownBlock ∨ v'.ownBlock = some w.heap.size) → K (a.put o.dst v') w') :
    if Region.wanted o (yielded ops a.tmps) = true then Oper.wp P o a w K Q else E := by
  have hw : Region.wanted o (yielded ops a.tmps) = true := by simp [Region.wanted, hg]
  rw [if_pos hw]
  obtain ⟨v', w', hrun, r1, r2, r3⟩ := run_append_rows (P := P) w base t o.type e i z size bytes h1 h2 h3 h4 h5 h6 h7 v n xs hown y m base' ys hy h1c b1 b2 hbase
  unfold Oper.wp
  simp [execOp, hop, resolve, invoke, builtin, hs, hx, hrun, Result.andThen]
  exact hK v' w' r1 r2 r3
end Frm
namespace Col
open Go.RowKit Go.Maps Arn Pac Clm Cnt Evn

variable {W0 W W' : World} {lv0 : Value} {G0 : List Nat} {eb : Nat} {Bs : List Nat} {P P' : En} {CS : Array Value} {lv : Value} {G : List Nat} {A A' : Ar} {L : List Res} {r : Res}
theorem lit_row (w : World) (a b : Value) (base : Nat) (hb : base ≤ w.heap.size) : (w.alloc (.cells #[a, b] 46)).ownsRow base 46 2 (.slice (some ⟨w.heap.size, 0, none⟩) 1 1) 1 [a, b] :=
  ⟨rfl, .inr ⟨_, 1, _, rfl, hb, World.alloc_heap_new w _, Nat.le_refl _, by unfold maxLen; omega, rfl, rfl⟩⟩
theorem nil_row13 (w : World) (base : Nat) (hb : base ≤ w.heap.size) : (w.alloc (.cells #[] 46)).ownsRow base 46 2 (.slice (some ⟨w.heap.size, 0, none⟩) 0 0) 0 [] := ⟨rfl, .inr ⟨_, 0, _, rfl, hb, World.alloc_heap_new w _, Nat.le_refl _, by unfold maxLen; omega, rfl, rfl⟩⟩
theorem lit_row13 (w : World) (a b : Value) : (w.alloc (.cells #[a, b] 46)).ownsRow 0 46 2 (.slice (some ⟨w.heap.size, 0, none⟩) 1 1) 1 [a, b] := lit_row w a b 0 (Nat.zero_le _)
theorem grow13 {w3 w w' : World} {v : Value} {n : Nat} {xs : List Value} (hT : Frm.Turn [] w3 w) (ho : w.ownsRow w3.heap.size 46 2 v n xs) (hg : w.grownBy w' v.ownBlock) : Frm.Turn [] w3 w' :=
  hT.trans (Frm.Turn.of_grown hg) (fun k hk => .inr (by
    have : v.ownBlock = some k := by simpa using hk
    exact (ho.lt k this).1))
theorem two_boxes13 (w : World) (A B : Obj) : Frm.Turn [] w ((w.alloc A).alloc B) ∧ ((w.alloc A).alloc B).heap[w.heap.size]? = some A ∧ ((w.alloc A).alloc B).heap[w.heap.size + 1]? = some B := by
  have h1 := World.alloc_heap_new w A
  have h2 := World.alloc_heap_new (w.alloc A) B
  rw [World.size_alloc] at h2
  exact ⟨((Frm.Turn.refl [] w).alloc _).alloc _, ((Frm.Turn.refl [] (w.alloc A)).alloc B).keep h1 (by simp), h2⟩
theorem beh_odd' {v g : Nat} (hg : g < 4) (h1 : 1 ≤ v) (h2 : v < 2 ^ g) : behN (2 * v + 1) = behN v := by
  have hp : 2 ^ g ≤ 2 ^ 3 := Nat.pow_le_pow_right (by omega) (by omega)
  exact beh_odd ⟨v, by omega⟩ h1
theorem fit_len {C : Co} (F : C.Fit 4) : C.L.length ≤ 15 := by
  have hf := F.few
  have hp := pow16 (show C.g ≤ 4 from F.gn)
  by_cases p0 : C.ph = 0
  · rw [pos_0 p0] at hf; omega
  · by_cases p1 : C.ph = 1
    · rw [pos_1 p1] at hf
      obtain ⟨l1, l2, l3, l4⟩ := F.look p1
      have hp : 2 ^ C.g ≤ 2 ^ 3 := Nat.pow_le_pow_right (by omega) (by omega)
      have := lo15_fin ⟨C.g, l1⟩ ⟨C.node, by omega⟩ l2 l3
      dsimp only at this
      omega
    · rw [pos_2 (by have := F.ph; omega)] at hf; exact hf
/-- The list of what was found has grown. -/
def AppEnd (w : World) (gb m : Nat) (l : List Nat) (W2 : World) : Prop := ∃ v, W2.heap[gb]? = some (.cells (gotO v m) 87 (0, 0)) ∧ W2.ownsRow 0 46 2 v l.length (plCells l) ∧ (∀ q, v.ownBlock = some q → w.heap.size ≤ q) ∧ Frm.Turn [gb] w W2
theorem app_end {w w2 : World} {gb m s : Nat} {v v2 : Value} {l : List Nat} {gc : Array Value} (hgc : gc = gotO v m) (hb : w.heap[gb]? = some (.cells gc 87 (0, 0))) (hT : Frm.Turn [] w w2) (ho : w2.ownsRow w.heap.size 46 2 v2 (l.length + 1) (plCells l ++ [.int .u64 (hS (sgN s)), .int .i64 s])) :
    AppEnd w gb m (l ++ [s]) (w2.setCell ⟨gb, 0, none⟩ v2) := by
  have h2 := hT.keep hb (by simp)
  have hl := (Array.getElem?_eq_some_iff.1 hb).1
  have hT2 := turn_set w2 gb 0 v2
  refine ⟨v2, ?_, ?_, fun q hq => (ho.lt q hq).1, (hT.mono (by simp)).trans hT2 (fun k hk => .inl hk)⟩
  · rw [Frm.heap_set _ _ _ _ _ _ _ h2, hgc, got_put0]
  · rw [plCells_snoc, List.length_append, List.length_singleton]
    have ho' : w2.ownsRow 0 46 2 v2 (l.length + 1) (plCells l ++ [.int .u64 (hS (sgN s)), .int .i64 s]) := by
      obtain ⟨h1, h3⟩ := ho
      refine ⟨h1, ?_⟩
      rcases h3 with h3 | ⟨g, cap, cur, e, h4, h5⟩
      · exact .inl h3
      · exact .inr ⟨g, cap, cur, e, Nat.zero_le _, h5⟩
    refine Frm.owns_turn ho' hT2 (fun q hq => ?_)
    have := (ho.lt q hq).1
    simp; omega
theorem app_S {w W2 : World} {gb m g : Nat} {l : List Nat} {hs : Int} (h : AppEnd w gb m l W2) (hg : (g : Int) < 8) (hh : hs = sv m g) : Frm.Turn [gb] w W2 ∧ W2.cell? ⟨gb, 1 + g, none⟩ = some (.int .u64 hs) := by
  obtain ⟨v, h1, _, _, h2⟩ := h
  exact ⟨h2, (Frm.cell_row _ _ _ _ _ _ h1).trans (by rw [hh]; exact got_seg v m (by omega))⟩
theorem bel_end {A A' : Ar} {L : List Res} {r : Res} {i j node m : Nat} {W W3 W4 : World} {lv : Value} {G : List Nat} {Bs F : List Nat} {v : Value} {l : List Nat} {gc : Array Value} (hgc : gc = gotO v m) (hE : EnvB W lv G eb Bs (plcE A A' L r j) W3) (ht : Frm.Turn F W3 W4) (hF : ∀ k, k ∈ F → k ∈ Bs) (hij : i < j) (hok : BelOk L r i node j l) (hrow : W4.ownsRow 0 46 2 v l.length (plCells l)) (hve : v.ownBlock ≠ some eb) (hl : l.length ≤ 15) :
    BelPost A A' L r i node m W lv G eb (.returned (.agg gc)) W4 := ⟨j, v, l, by rw [hgc], hij, hok, hrow, hve, hl, (hE.poke ht hF).drop⟩
theorem row_ne {w : World} {v : Value} {n k : Nat} {xs : List Value} {cs : Array Value} {fr : Nat × Nat} (h : w.ownsRow 0 46 2 v n xs) (hk : w.heap[k]? = some (.cells cs 87 fr)) : v.ownBlock ≠ some k := by
  intro e
  rcases h.2 with ⟨rfl, _⟩ | ⟨q, cap, cur, rfl, _, hq, _⟩
  · simp [Value.ownBlock] at e
  · simp [Value.ownBlock] at e
    subst e
    rw [hq] at hk
    cases hk
theorem row_put {w : World} {v : Value} {n k : Nat} {xs : List Value} {cs : Array Value} {fr : Nat × Nat} (h : w.ownsRow 0 46 2 v n xs) (hk : w.heap[k]? = some (.cells cs 87 fr)) (gd : Array Value) : (w.setRow k gd).ownsRow 0 46 2 v n xs :=
  Frm.owns_turn h (setRow_turn (F := [k]) (Frm.Turn.refl _ w) (.inl (by simp)) gd) (fun q hq hm => by
    simp only [List.mem_singleton] at hm
    subst hm
    exact row_ne h hk hq)
theorem row_one {w : World} {v : Value} {n : Nat} {xs : List Value} (h : w.ownsRow 0 46 2 v n xs) : v.oneCell' = true := by
  obtain ⟨a, c, rfl⟩ := Frm.row_form h
  rfl
theorem go_L (C : Co) (x : Nat) : (C.go x).L = C.L := by
  unfold Co.go
  split
  · split <;> rfl
  · rfl
theorem beh_go1 {C C1 Cj : Co} {n x : Nat} {l : List Nat} (h1 : C1 = { C with ph := 1, node := 2 * n }) (hj : Cj = ({ C1 with L := l, node := x } : Co).go (behN (2 * n))) (hn : 1 ≤ n) : Cj = { C with ph := 1, L := l, node := 2 * n + 1 } := by
  subst h1 hj
  rw [beh_even hn]
  unfold Co.go
  rw [if_neg (by omega)]
theorem beh_go2 {C Cj C2 : Co} {n x b : Nat} {l l2 : List Nat} (hp : C.ph = 1) (hj : Cj = { C with ph := 1, L := l, node := n }) (h2 : C2 = ({ Cj with L := l2, node := x } : Co).go b) : C2 = ({ C with L := l2, node := x } : Co).go b := by
  subst hj
  rw [h2, ← hp]
/-- Nothing but the environment and blocks of its own has a callee turned. -/
theorem EnvB.comp {W0 W : World} {lv0 : Value} {G0 : List Nat} {eb : Nat} {Bs : List Nat} {P : En} (h : EnvB W0 lv0 G0 eb Bs P W) :
    ∃ CS lv G, EnAt W eb P CS lv G ∧ ∀ P' w', EnvB W lv G eb [] P' w' → EnvB W0 lv0 G0 eb Bs P' w' ∧ Frm.Turn [eb] W w' := by
  obtain ⟨⟨CS, lv, G, h1, h2, h3, h4⟩, h5, h6, h7⟩ := h
  refine ⟨CS, lv, G, h1, ?_⟩
  rintro P' w' ⟨⟨CS', lv', G', e1, _, e3, e4⟩, e2, _, _⟩
  have hz := h5.size
  have hs := e2.size
  refine ⟨⟨⟨CS', lv', G', e1, fun k hk => ⟨fun hg => ?_, fun hl => ?_⟩, fun k hg => ?_, fun k hl => ?_⟩, h5.trans e2 (fun k hk => .inl hk), fun k hk => ⟨by have := (h6 k hk).1; omega, (h6 k hk).2⟩, h7⟩, e2⟩
  · rcases e3 k hg with h | h
    · exact (h2 k hk).1 h
    · have := (h6 k hk).1; omega
  · rcases e4 k hl with h | h
    · exact (h2 k hk).2 h
    · have := (h6 k hk).1; omega
  · rcases e3 k hg with h | h
    · exact h3 k h
    · exact .inr (by omega)
  · rcases e4 k hl with h | h
    · exact h4 k h
    · exact .inr (by omega)
/-- The node is a slot's: another way to say where the next place lies. -/
theorem slot_of {g v : Nat} (hg : g < 4) (h1 : 1 ≤ v) (h2 : v < 2 * 2 ^ g) (h3 : 2 ^ g ≤ v) : sgN (v - 1) = g := ((way hg h1 h2).2.2.2 h3).2.2.1
set_option maxRecDepth 100000 in
set_option maxHeartbeats 16000000 in
theorem below_any (R : GoesO A A' L r) (lA : LimA A) (lA' : LimA A') : ∀ (d i : Nat) (W : World) (CS : Array Value) (lv : Value) (G : List Nat) (v : Value) (g node m : Nat), EnAt W eb (plcE A A' L r i) CS lv G → i ≤ L.length + 1 → (coAt L r i).ph = 1 → (coAt L r i).g = g → (coAt L r i).node = node → (coAt L r i).m = m →
    W.ownsRow 0 46 2 v (coAt L r i).L.length (plCells (coAt L r i).L) → v.ownBlock ≠ some eb → 2 ^ g ≤ node * 2 ^ d →
    Calls Tryz.prog 76 #[.pointer (some ⟨eb, 0, none⟩), .agg (gotO v m), .int .i64 g, .int .i64 node] W (BelPost A A' L r i node m W lv G eb) := by
  intro d
  induction d using Nat.strongRecOn with
  | ind d IH =>
  intro i W CS lv G v g node m hE hi hph hg hnode hm hrow hve hd
  have F := co_fit R i hi
  obtain ⟨l1, l2, l3, l4⟩ := F.look hph
  rw [hg] at l1 l3 l4
  rw [hnode] at l2 l3
  have hp16 := pow16 (show g ≤ 4 by omega)
  have hm8 : m = g + 1 := by omega
  have hl15 := fit_len F
  obtain ⟨va, vc, hvf⟩ := Frm.row_form hrow
  have hvone : v.oneCell' = true := by rw [hvf]; rfl
  obtain ⟨fs, hfs⟩ := struct_of under_got
  have HFS := Lib.hid hfs
  obtain ⟨gc, hgc⟩ : ∃ gc, gc = gotO v m := ⟨_, rfl⟩
  have hsz : gc.size = 9 := by rw [hgc]; rfl
  have hone : gc.all (·.oneCell') = true := by rw [hgc]; exact got_one m hvone
  have hseg : gc[1 + g]? = some (.int .u64 (Cnt.hS g)) := by rw [hgc, got_seg v m (by omega), sv_at (by omega)]
  have hg0 : gc[0]? = some v := by rw [hgc]; rfl
  rw [← hgc]
  obtain ⟨T0, b0, b1⟩ := two_boxes13 W (.cells gc 87) (.cells #[.slice none 0 0, .int .u64 0, .int .u64 0, .int .u64 0, .int .u64 0, .int .u64 0, .int .u64 0, .int .u64 0, .int .u64 0] 87)
  have hB0 := ((envB_start hE).add ((Frm.Turn.refl [] W).alloc (.cells gc 87)) (Nat.le_refl _) (by simp)).add ((Frm.Turn.refl [] _).alloc (.cells #[.slice none 0 0, .int .u64 0, .int .u64 0, .int .u64 0, .int .u64 0, .int .u64 0, .int .u64 0, .int .u64 0, .int .u64 0] 87)) (x := W.heap.size + 1) (by simp) (by simp)
  have hvlt : ∀ q, v.ownBlock = some q → q < W.heap.size ∧ q ≠ eb := fun q hq => ⟨(hrow.lt q hq).2, fun e => hve (by rw [← e]; exact hq)⟩
  have HCT := Lib.hid (fun W => RCounter_any (Cnt.hS g) g node W (by omega) (by omega))
  have HRD := Lib.hid (fun (W2 : World) (Bs : List Nat) (h : EnvB W lv G eb Bs (plcE A A' L r i) W2) => co_read R lA lA' h hi (Cnt.hS g) ((5 * 2 ^ g + node : Nat) : Int) (.inr ⟨hph, by rw [hg], by rw [hg, hnode]⟩))
  have HPW := Lib.hid (fun W => Pow_any g W (by omega))
  have HGC := Lib.hid hgc
  have HSZ : Hid ((Tryz.prog.info? 87).map (·.size) = some gc.size) := Lib.hid (by rw [hsz]; exact info_got)
  have HS9 := Lib.hid hsz
  have HON := Lib.hid hone
  have HROW := Lib.hid hrow
  have HVL := Lib.hid hvlt
  have HI := Lib.hid (And.intro hi (And.intro hph (And.intro hg (And.intro hnode (And.intro hm (And.intro l1 (And.intro l2 (And.intro l3 (And.intro hm8 (And.intro hd hl15))))))))))
  have HCG := Lib.hid (And.intro hseg hg0)
  have HRR := Lib.hid R
  have HIH := Lib.hid IH
  have b0' : (0 : Int) ≤ (g : Int) := by omega
  have b1' : (g : Int) < 8 := by omega
  have b2' : (g : Int) ≤ 4 := by omega
  have b3' : (0 : Int) ≤ (node : Int) := by omega
  have b4' : (node : Int) ≤ 100 := by omega
  have HLT := Lib.hid hE.lt
  clear hE hi hph hg hnode hm hrow hve hd F l1 l2 l3 l4 hm8 hl15 hvf hvone hfs hgc hsz hone hseg hg0 hvlt R IH hp16
  obtain ⟨ad, HAD⟩ : ∃ ad : Int, Hid (ad = ((5 * 2 ^ g + node : Nat) : Int)) := ⟨_, Lib.hid rfl⟩
  rw [← HAD.out] at HCT HRD
  obtain ⟨hs, HHS⟩ : ∃ hs : Int, Hid (hs = Cnt.hS g) := ⟨_, Lib.hid rfl⟩
  rw [← HHS.out] at HCT HRD
  go_enter Tryz.func76, Tryz.ntmps76
  go_upto_region 1 with fail
  generalize World.alloc (World.alloc _ _) _ = W1 at T0 b0 b1 hB0 ⊢
  have c0 : W1.cell? ⟨W.heap.size, 1 + g, none⟩ = some (.int .u64 hs) := (Frm.cell_row _ _ _ _ _ _ b0).trans (by rw [HHS.out]; exact HCG.out.1)
  have HB0 := Lib.hid b0
  have HB1 := Lib.hid b1
  have HE1 := Lib.hid hB0
  clear T0 b0 b1 hB0
  go_upto_region 2 with (first
    | (go_at_call 82; (with_reducible refine (HCT.out _).mono ?_); rintro e w2 ⟨rfl, hT⟩; have HT2 := Lib.hid hT; have HE2 := Lib.hid (HE1.out.step hT); clear hT)
    | (go_at_call 60; (with_reducible refine (HRD.out _ _ HE2.out).mono ?_); rintro e w3 ⟨rfl, hE3, hT⟩; have HE3 := Lib.hid hE3; have HT3 := Lib.hid ((HT2.out.mono (by simp)).trans hT (fun k hk => .inl hk)); clear hE3 hT))
  have hgE : W.heap.size ∉ [eb] := by have := HLT.out; simp; omega
  have hrE : W.heap.size + 1 ∉ [eb] := by have := HLT.out; simp; omega
  have HG3 := Lib.hid (HT3.out.keep HB0.out hgE)
  have HR3 := Lib.hid (HT3.out.keep HB1.out hrE)
  have s3 := HE3.out.stop
  rw [plc_stop] at s3
  have HB2 : Hid (∀ k, k ∈ [W.heap.size + 1] → k ∈ [W.heap.size + 1, W.heap.size]) := Lib.hid (by simp)
  have HB3 : Hid (∀ k, k ∈ [W.heap.size, W.heap.size + 1] → k ∈ [W.heap.size + 1, W.heap.size]) := Lib.hid (by intro k hk; simp at hk ⊢; omega)
  have HRT : Hid (∀ cs, Frm.Turn [W.heap.size + 1] w3 (w3.setRow (W.heap.size + 1) cs)) := Lib.hid (fun cs => setRow_turn (Frm.Turn.refl _ _) (.inl (by simp)) cs)
  have HRV : Hid (∀ W4, Frm.Turn [eb] W W4 → W4.ownsRow 0 46 2 v (coAt L r i).L.length (plCells (coAt L r i).L)) := Lib.hid (fun W4 hT => Frm.owns_turn HROW.out hT (fun q hq => by simpa using (HVL.out q hq).2))
  have HVE : Hid (v.ownBlock ≠ some eb) := Lib.hid (fun h => (HVL.out eb h).2 rfl)
  by_cases hN : i = L.length + 1
  · have st : decide (L.length + 2 ≤ i + 1) = true := decide_eq_true (by omega)
    rw [st] at s3
    have HN := Lib.hid hN
    clear hN st
    go_wp2_with (first
      | (refine wpList_load_row rfl 87 (.tmp 5) rfl W.heap.size rfl 87 gc (0, 0) (.struct fs) HG3.out HFS.out rfl HSZ.out ?_)
      | (refine wpList_store_row rfl 87 (.tmp 8) (.tmp 27) rfl (W.heap.size + 1) gc rfl rfl 87 _ HR3.out HSZ.out (by rw [HS9.out]; rfl) HON.out ?_))
    obtain ⟨hi, hph, hg, hnode, hm, l1, l2, l3, hm8, hd, hl15⟩ := HI.out
    refine bodyPost_ret (v := .agg gc) (results_cell_row rfl _ _ (W.heap.size + 1) 87 gc (0, 0) (.struct fs) rfl (row_set gc HR3.out) HFS.out rfl HSZ.out) rfl ?_
    refine bel_end HGC.out HE3.out (HRT.out gc) HB2.out (by omega) (.inl ⟨by have := HN.out; omega, ?_, ?_, ?_⟩) (HRV.out _ (HE3.out.poke (HRT.out gc) HB2.out).turn) HVE.out hl15
    · rw [← HN.out, hph]; omega
    · rw [← HN.out]
    · rw [← HN.out]
  · have st : decide (L.length + 2 ≤ i + 1) = false := decide_eq_false (by have := HI.out.1; omega)
    rw [st] at s3
    have HN : Hid (i ≤ L.length) := Lib.hid (by have := HI.out.1; omega)
    have HNX := Lib.hid (co_succ L r HN.out)
    clear hN st
    obtain ⟨wv, HWV⟩ : ∃ wv : Int, Hid (wv = (ansE L r i).w) := ⟨_, Lib.hid rfl⟩
    rw [← HWV.out]
    by_cases hw : wv = 0
    · have hw' : (wv == 0) = true := by simpa using hw
      have HW := Lib.hid hw
      clear hw
      go_wp2_with (first
      | (refine wpList_load_row rfl 87 (.tmp 5) rfl W.heap.size rfl 87 gc (0, 0) (.struct fs) HG3.out HFS.out rfl HSZ.out ?_)
      | (refine wpList_store_row rfl 87 (.tmp 8) (.tmp 27) rfl (W.heap.size + 1) gc rfl rfl 87 _ HR3.out HSZ.out (by rw [HS9.out]; rfl) HON.out ?_))
      obtain ⟨hi, hph, hg, hnode, hm, l1, l2, l3, hm8, hd, hl15⟩ := HI.out
      refine bodyPost_ret (v := .agg gc) (results_cell_row rfl _ _ (W.heap.size + 1) 87 gc (0, 0) (.struct fs) rfl (row_set gc HR3.out) HFS.out rfl HSZ.out) rfl ?_
      refine bel_end HGC.out HE3.out (HRT.out gc) HB2.out (by omega) (.inr ⟨by have := HN.out; omega, (coAt L r i).node, ?_⟩) (HRV.out _ (HE3.out.poke (HRT.out gc) HB2.out).turn) HVE.out hl15
      rw [HNX.out]
      have hb := congrArg behN hnode
      unfold Co.next
      rw [if_neg (by omega), if_pos hph, if_pos (by rw [← HWV.out]; exact HW.out)]
      exact congrArg (coAt L r i).go hb
    · have hw' : (wv == 0) = false := by simpa using hw
      have HW : Hid ((ansE L r i).w ≠ 0) := Lib.hid (by rw [← HWV.out]; exact hw)
      clear hw
      by_cases hl : 2 ^ g ≤ node
      · have hl' : ((2 ^ g : Nat) : Int) ≤ (node : Int) := by omega
        have HL := Lib.hid hl
        clear hl
        generalize ((2 ^ g : Nat) : Int) = p at HPW hl'
        obtain ⟨sn, HSN⟩ : ∃ sn : Nat, Hid (sn = node - 1) := ⟨_, Lib.hid rfl⟩
        have e1 : (node : Int) - 1 = (sn : Int) := by rw [HSN.out]; have := HI.out.2.2.2.2.2.2.1; omega
        have e1' : IntKind.i64.wrap (sn : Int) = (sn : Int) := by rw [IntKind.wrap_i64]; omega
        have HHG : Hid (hs = Cnt.hS (sgN sn)) := Lib.hid (by
          obtain ⟨hi, hph, hg, hnode, hm, l1, l2, l3, hm8, hd, hl15⟩ := HI.out
          rw [HHS.out, HSN.out, slot_of l1 l2 l3 HL.out])
        obtain ⟨i0, hi0, hz0, hz1, hz2⟩ := Dr.info_parts info_pl
        obtain ⟨l, HLL⟩ : ∃ l : List Nat, Hid (l = (coAt L r i).L) := ⟨_, Lib.hid rfl⟩
        have HL15 : Hid (l.length ≤ 15) := Lib.hid (by rw [HLL.out]; exact HI.out.2.2.2.2.2.2.2.2.2.2)
        have HV3 : Hid (∀ W4, Frm.Turn [] w3 W4 → W4.ownsRow 0 46 2 v l.length (plCells l)) := Lib.hid (fun W4 hT => by rw [HLL.out]; exact HRV.out _ (HE3.out.step hT).turn)
        have HC3 : Hid (∀ W4, Frm.Turn [] w3 W4 → W4.cell? ⟨W.heap.size, 0, none⟩ = some v ∧ W4.cell? ⟨W.heap.size, 1 + g, none⟩ = some (.int .u64 hs)) := Lib.hid (fun W4 hT => by
          have hb := hT.keep HG3.out (by simp)
          exact ⟨(Frm.cell_row _ _ 0 _ _ _ hb).trans HCG.out.2, (Frm.cell_row _ _ _ _ _ _ hb).trans (by rw [HHS.out]; exact HCG.out.1)⟩)
        have HGF : Hid (W.heap.size < w3.heap.size ∧ W.heap.size + 1 < w3.heap.size) := Lib.hid ⟨(Array.getElem?_eq_some_iff.1 HG3.out).1, (Array.getElem?_eq_some_iff.1 HR3.out).1⟩
        go_upto_region 5 with (go_at_call 46; (with_reducible refine (HPW.out _).mono ?_); rintro e w4 ⟨rfl, rfl⟩)
        go_cut [] (fun W2 => AppEnd w3 W.heap.size m (l ++ [sn]) W2)
        case first =>
          have HSS : Hid (∀ W4, Frm.Turn [] w3 W4 → Frm.Turn [W.heap.size] w3 W4 ∧ W4.cell? ⟨W.heap.size, 1 + g, none⟩ = some (.int .u64 hs)) := Lib.hid (fun W4 hT => ⟨hT.mono (by simp), (HC3.out W4 hT).2⟩)
          refine wp_region_held_drew (S := fun W' => Frm.Turn [W.heap.size] w3 W' ∧ W'.cell? ⟨W.heap.size, 1 + g, none⟩ = some (.int .u64 hs)) (by kernel_rfl) ?_ (fun hHeld => ?_)
          · exact HSS.out _ ((Frm.Turn.refl [] w3).drew)
          have HTwd := Lib.hid ((Frm.Turn.refl [] w3).drew)
          generalize w3.drew = wd at HTwd hHeld ⊢
          refine wpAnyH_take (i := 1) (v := ?_) rfl (by kernel_rfl) (by kernel_rfl) (by kernel_rfl) (fun _ _ _ h => h) (Or.inl ⟨by rfl, ?_⟩) (by assumption) ?_
          rotate_left
          · (intro w hSw; (try dsimp only at hSw); go_simp; try with_reducible rfl)
          try simp only [Act.put, List.getElem_toArray, List.getElem_cons_succ, List.getElem_cons_zero, List.setIfInBounds_toArray, List.set_cons_zero, List.set_cons_succ]
          refine wpAnyH_take (i := 4) (v := ?_) rfl (by kernel_rfl) (by kernel_rfl) (by kernel_rfl) (fun _ _ _ h => h) (Or.inl ⟨by rfl, ?_⟩) (by assumption) ?_
          rotate_left
          · (intro w hSw; (try dsimp only at hSw); go_simp; try with_reducible rfl)
          try simp only [Act.put, List.getElem_toArray, List.getElem_cons_succ, List.getElem_cons_zero, List.setIfInBounds_toArray, List.set_cons_zero, List.set_cons_succ]
          refine wpAnyH_take (i := 5) (v := ?_) rfl (by kernel_rfl) (by kernel_rfl) (by kernel_rfl) (fun _ _ _ h => h) (Or.inl ⟨by rfl, ?_⟩) (by assumption) ?_
          rotate_left
          · (intro w hSw; (try dsimp only at hSw); go_simp; try with_reducible rfl)
          try simp only [Act.put, List.getElem_toArray, List.getElem_cons_succ, List.getElem_cons_zero, List.setIfInBounds_toArray, List.set_cons_zero, List.set_cons_succ]
          refine wpAnyH_take (i := 6) (v := ?_) rfl (by kernel_rfl) (by kernel_rfl) (by kernel_rfl) (fun _ _ _ h => h) (Or.inl ⟨by rfl, ?_⟩) (by assumption) ?_
          rotate_left
          · (intro w hSw; (try dsimp only at hSw); go_simp; try with_reducible rfl)
          try simp only [Act.put, List.getElem_toArray, List.getElem_cons_succ, List.getElem_cons_zero, List.setIfInBounds_toArray, List.set_cons_zero, List.set_cons_succ]
          refine wpAnyH_take (i := 7) (v := ?_) rfl (by kernel_rfl) (by kernel_rfl) (by kernel_rfl) (fun _ _ _ h => h) (Or.inl ⟨by rfl, ?_⟩) (by assumption) ?_
          rotate_left
          · (intro w hSw; (try dsimp only at hSw); obtain ⟨p0, p1⟩ := hSw; go_simp; try with_reducible rfl)
          try simp only [Act.put, List.getElem_toArray, List.getElem_cons_succ, List.getElem_cons_zero, List.setIfInBounds_toArray, List.set_cons_zero, List.set_cons_succ]
          refine wpAnyH_take (i := 8) (v := ?_) rfl (by kernel_rfl) (by kernel_rfl) (by kernel_rfl) (fun _ _ _ h => h) (Or.inl ⟨by rfl, ?_⟩) (by assumption) ?_
          rotate_left
          · (intro w hSw; (try dsimp only at hSw); go_simp; try with_reducible rfl)
          try simp only [Act.put, List.getElem_toArray, List.getElem_cons_succ, List.getElem_cons_zero, List.setIfInBounds_toArray, List.set_cons_zero, List.set_cons_succ]
          refine wpAnyH_take (i := 9) (v := ?_) rfl (by kernel_rfl) (by kernel_rfl) (by kernel_rfl) (fun _ _ _ h => h) (Or.inl ⟨by rfl, ?_⟩) (by assumption) ?_
          rotate_left
          · (intro w hSw; (try dsimp only at hSw); go_simp; try with_reducible rfl)
          try simp only [Act.put, List.getElem_toArray, List.getElem_cons_succ, List.getElem_cons_zero, List.setIfInBounds_toArray, List.set_cons_zero, List.set_cons_succ]
          refine wpAnyH_take (i := 10) (v := ?_) rfl (by kernel_rfl) (by kernel_rfl) (by kernel_rfl) (fun _ _ _ h => h) (Or.inl ⟨by rfl, ?_⟩) (by assumption) ?_
          rotate_left
          · (intro w hSw; (try dsimp only at hSw); go_simp; try with_reducible rfl)
          try simp only [Act.put, List.getElem_toArray, List.getElem_cons_succ, List.getElem_cons_zero, List.setIfInBounds_toArray, List.set_cons_zero, List.set_cons_succ]
          clear hHeld
          refine wpAnyH_ready (rs := [0, 2, 11]) (by kernel_rfl) (by simp) ?_
          refine (AllReadyH.cons rfl (fun K hK => ?_) (AllReadyH.cons rfl (fun K hK => ?_) (AllReadyH.cons rfl (fun K hK => ?_) AllReadyH.nil)))
          · skip
            try simp only [List.getElem_toArray, List.getElem_cons_succ, List.getElem_cons_zero]
            go_simp
            have HTwz1 := Lib.hid (HTwd.out.alloc (Obj.cells #[] 46))
            have HNwz1 := Lib.hid (nil_row13 wd w3.heap.size HTwd.out.size)
            generalize World.alloc wd _ = wz1 at HTwz1 HNwz1 ⊢
            generalize Value.slice (some ⟨wd.heap.size, 0, none⟩) 0 0 = v0 at HNwz1 ⊢
            refine hK.out _ _ (HSS.out _ HTwz1.out) (fun hSwz1 => ?_)
            clear hK K
            try simp only [Act.put, List.getElem_toArray, List.getElem_cons_succ, List.getElem_cons_zero, List.setIfInBounds_toArray, List.set_cons_zero, List.set_cons_succ]
            clear hSwz1
            refine wpAnyH_ready (rs := [2, 11]) (by kernel_rfl) (by simp) ?_
            refine (AllReadyH.cons rfl (fun K hK => ?_) (AllReadyH.cons rfl (fun K hK => ?_) AllReadyH.nil))
            · skip
              try simp only [List.getElem_toArray, List.getElem_cons_succ, List.getElem_cons_zero]
              have pv := (HC3.out _ HTwz1.out).1
              go_simp
              clear pv
              refine hK.out _ _ (HSS.out _ HTwz1.out) (fun hSwz2 => ?_)
              clear hK K
              try simp only [Act.put, List.getElem_toArray, List.getElem_cons_succ, List.getElem_cons_zero, List.setIfInBounds_toArray, List.set_cons_zero, List.set_cons_succ]
              have HTwz2 := HTwz1
              have HNwz2 := HNwz1
              clear hSwz2
              skip
              refine wpAnyH_ready (rs := [3, 11]) (by kernel_rfl) (by simp) ?_
              refine (AllReadyH.cons rfl (fun K hK => ?_) (AllReadyH.cons rfl (fun K hK => ?_) AllReadyH.nil))
              · skip
                refine Frm.step_append_rows13 (by rfl) (.tmp 32) (.tmp 34) 47 (by rfl) 46 i0 (.agg #[.int .u64 0, .int .i64 0]) 2 16 under_pls hi0 hz0 hz1 hz2 rfl (by decide) w3.heap.size v0 0 [] (by rfl) HNwz2.out v (by rfl) l.length 0 (plCells l) (HV3.out _ HTwz2.out) (pl_one l) (by have := HL15.out; unfold maxLen; omega) (by have := HL15.out; omega) HTwz2.out.size ?_
                intro v1 wz3 ho1 hg1 hl1
                rw [Nat.zero_add, List.nil_append] at ho1
                have HTwz3 := Lib.hid (grow13 HTwz2.out HNwz2.out hg1)
                have HOwz3 := Lib.hid ho1
                clear ho1 hg1 hl1
                refine hK.out _ _ (HSS.out _ HTwz3.out) (fun hSwz3 => ?_)
                clear hK K
                try simp only [Act.put, List.getElem_toArray, List.getElem_cons_succ, List.getElem_cons_zero, List.setIfInBounds_toArray, List.set_cons_zero, List.set_cons_succ]
                clear hSwz3
                refine wpAnyH_ready (rs := [11]) (by kernel_rfl) (by simp) ?_
                refine (AllReadyH.cons rfl (fun K hK => ?_) AllReadyH.nil)
                · skip
                  try simp only [List.getElem_toArray, List.getElem_cons_succ, List.getElem_cons_zero]
                  go_simp
                  have HTwz4 := Lib.hid (HTwz3.out.alloc (Obj.cells #[.int .u64 hs, .int .i64 sn] 46))
                  have HOwz4 := Lib.hid (Frm.owns_turn HOwz3.out ((Frm.Turn.refl [] wz3).alloc (Obj.cells #[.int .u64 hs, .int .i64 sn] 46)) (by simp))
                  have HLwz4 := Lib.hid (lit_row13 wz3 (.int .u64 hs) (.int .i64 sn))
                  generalize World.alloc wz3 _ = wz4 at HTwz4 HLwz4 HOwz4 ⊢
                  generalize Value.slice (some ⟨wz3.heap.size, 0, none⟩) 1 1 = lt at HLwz4 ⊢
                  refine hK.out _ _ (HSS.out _ HTwz4.out) (fun hSwz4 => ?_)
                  clear hK K
                  try simp only [Act.put, List.getElem_toArray, List.getElem_cons_succ, List.getElem_cons_zero, List.setIfInBounds_toArray, List.set_cons_zero, List.set_cons_succ]
                  clear hSwz4
                  refine wpAnyH_ready (rs := [12]) (by kernel_rfl) (by simp) ?_
                  refine (AllReadyH.cons rfl (fun K hK => ?_) AllReadyH.nil)
                  · skip
                    refine Frm.step_append_rows13 (by rfl) (.tmp 35) (.tmp 43) 47 (by rfl) 46 i0 (.agg #[.int .u64 0, .int .i64 0]) 2 16 under_pls hi0 hz0 hz1 hz2 rfl (by decide) w3.heap.size v1 l.length (plCells l) (by rfl) HOwz4.out lt (by rfl) 1 0 [.int .u64 hs, .int .i64 sn] HLwz4.out (by simp [Value.oneCell']) (by have := HL15.out; unfold maxLen; omega) (by have := HL15.out; omega) HTwz4.out.size ?_
                    intro v2 wz5 ho2 hg2 hl2
                    obtain ⟨a2, c2, rfl⟩ := Frm.row_form ho2
                    have HTwz5 := Lib.hid (grow13 HTwz4.out HOwz4.out hg2)
                    have HEwz5 := Lib.hid (app_end HGC.out HG3.out HTwz5.out (by rw [← HHG.out]; exact ho2))
                    clear ho2 hg2 hl2
                    refine hK.out _ _ (HSS.out _ HTwz5.out) (fun hSwz5 => ?_)
                    clear hK K
                    try simp only [Act.put, List.getElem_toArray, List.getElem_cons_succ, List.getElem_cons_zero, List.setIfInBounds_toArray, List.set_cons_zero, List.set_cons_succ]
                    refine wpAnyH_take (i := 13) (v := ?_) rfl (by kernel_rfl) (by kernel_rfl) (by kernel_rfl) (fun _ _ _ h => h) (Or.inl ⟨by rfl, ?_⟩) (by assumption) ?_
                    rotate_left
                    · (intro w hSw; (try dsimp only at hSw); go_simp; try with_reducible rfl)
                    try simp only [Act.put, List.getElem_toArray, List.getElem_cons_succ, List.getElem_cons_zero, List.setIfInBounds_toArray, List.set_cons_zero, List.set_cons_succ]
                    refine wpAnyH_ready (rs := [14]) (by kernel_rfl) (by simp) ?_
                    refine (AllReadyH.cons rfl (fun K hK => ?_) AllReadyH.nil)
                    · try simp only [List.getElem_toArray, List.getElem_cons_succ, List.getElem_cons_zero]
                      have pv := (HC3.out _ HTwz5.out).1
                      have pf := Frm.frozen_row _ _ 0 _ _ (HTwz5.out.keep HG3.out (by simp))
                      go_simp
                      refine hK.out _ _ (app_S HEwz5.out b1' (by rw [HHS.out, sv_at (by have := HI.out.2.2.2.2.2.2.2.2.1; omega)])) (fun hS => ?_)
                      clear hK K
                      try simp only [Act.put, List.getElem_toArray, List.getElem_cons_succ, List.getElem_cons_zero, List.setIfInBounds_toArray, List.set_cons_zero, List.set_cons_succ]
                      refine wpAnyH_done (by kernel_rfl) ?_ _
                      go_wp2_with fail
                      go_meet
                      exact HEwz5.out
              · skip
                try simp only [List.getElem_toArray, List.getElem_cons_succ, List.getElem_cons_zero]
                go_simp
                have HTwz6 := Lib.hid (HTwz2.out.alloc (Obj.cells #[.int .u64 hs, .int .i64 sn] 46))
                have HNwz6 := Lib.hid (Frm.owns_turn HNwz2.out ((Frm.Turn.refl [] wz1).alloc (Obj.cells #[.int .u64 hs, .int .i64 sn] 46)) (by simp))
                have HD : Hid (∀ k, (Value.slice (some ⟨wz1.heap.size, 0, none⟩) 1 1).ownBlock = some k → v0.ownBlock ≠ some k) := Lib.hid (fun k hk e => by have := (HNwz2.out.lt k e).2; simp [Value.ownBlock] at hk; omega)
                have HLwz6 := Lib.hid (lit_row13 wz1 (.int .u64 hs) (.int .i64 sn))
                generalize World.alloc wz1 _ = wz6 at HTwz6 HNwz6 HLwz6 ⊢
                generalize Value.slice (some ⟨wz1.heap.size, 0, none⟩) 1 1 = lt at HLwz6 HD ⊢
                refine hK.out _ _ (HSS.out _ HTwz6.out) (fun hSwz6 => ?_)
                clear hK K
                try simp only [Act.put, List.getElem_toArray, List.getElem_cons_succ, List.getElem_cons_zero, List.setIfInBounds_toArray, List.set_cons_zero, List.set_cons_succ]
                clear hSwz6
                refine wpAnyH_ready (rs := [3]) (by kernel_rfl) (by simp) ?_
                refine (AllReadyH.cons rfl (fun K hK => ?_) AllReadyH.nil)
                · skip
                  refine Frm.step_append_rows13 (by rfl) (.tmp 32) (.tmp 34) 47 (by rfl) 46 i0 (.agg #[.int .u64 0, .int .i64 0]) 2 16 under_pls hi0 hz0 hz1 hz2 rfl (by decide) w3.heap.size v0 0 [] (by rfl) HNwz6.out v (by rfl) l.length 0 (plCells l) (HV3.out _ HTwz6.out) (pl_one l) (by have := HL15.out; unfold maxLen; omega) (by have := HL15.out; omega) HTwz6.out.size ?_
                  intro v1 wz7 ho1 hg1 hl1
                  rw [Nat.zero_add, List.nil_append] at ho1
                  have HTwz7 := Lib.hid (grow13 HTwz6.out HNwz6.out hg1)
                  have HOwz7 := Lib.hid ho1
                  have HLwz7 := Lib.hid (Frm.owns_turn HLwz6.out (Frm.Turn.of_grown hg1) (fun k hk hm => HD.out k hk (by simpa using hm)))
                  clear ho1 hg1 hl1
                  refine hK.out _ _ (HSS.out _ HTwz7.out) (fun hSwz7 => ?_)
                  clear hK K
                  try simp only [Act.put, List.getElem_toArray, List.getElem_cons_succ, List.getElem_cons_zero, List.setIfInBounds_toArray, List.set_cons_zero, List.set_cons_succ]
                  clear hSwz7
                  refine wpAnyH_ready (rs := [12]) (by kernel_rfl) (by simp) ?_
                  refine (AllReadyH.cons rfl (fun K hK => ?_) AllReadyH.nil)
                  · skip
                    refine Frm.step_append_rows13 (by rfl) (.tmp 35) (.tmp 43) 47 (by rfl) 46 i0 (.agg #[.int .u64 0, .int .i64 0]) 2 16 under_pls hi0 hz0 hz1 hz2 rfl (by decide) w3.heap.size v1 l.length (plCells l) (by rfl) HOwz7.out lt (by rfl) 1 0 [.int .u64 hs, .int .i64 sn] HLwz7.out (by simp [Value.oneCell']) (by have := HL15.out; unfold maxLen; omega) (by have := HL15.out; omega) HTwz7.out.size ?_
                    intro v2 wz8 ho2 hg2 hl2
                    obtain ⟨a2, c2, rfl⟩ := Frm.row_form ho2
                    have HTwz8 := Lib.hid (grow13 HTwz7.out HOwz7.out hg2)
                    have HEwz8 := Lib.hid (app_end HGC.out HG3.out HTwz8.out (by rw [← HHG.out]; exact ho2))
                    clear ho2 hg2 hl2
                    refine hK.out _ _ (HSS.out _ HTwz8.out) (fun hSwz8 => ?_)
                    clear hK K
                    try simp only [Act.put, List.getElem_toArray, List.getElem_cons_succ, List.getElem_cons_zero, List.setIfInBounds_toArray, List.set_cons_zero, List.set_cons_succ]
                    refine wpAnyH_take (i := 13) (v := ?_) rfl (by kernel_rfl) (by kernel_rfl) (by kernel_rfl) (fun _ _ _ h => h) (Or.inl ⟨by rfl, ?_⟩) (by assumption) ?_
                    rotate_left
                    · (intro w hSw; (try dsimp only at hSw); go_simp; try with_reducible rfl)
                    try simp only [Act.put, List.getElem_toArray, List.getElem_cons_succ, List.getElem_cons_zero, List.setIfInBounds_toArray, List.set_cons_zero, List.set_cons_succ]
                    refine wpAnyH_ready (rs := [14]) (by kernel_rfl) (by simp) ?_
                    refine (AllReadyH.cons rfl (fun K hK => ?_) AllReadyH.nil)
                    · try simp only [List.getElem_toArray, List.getElem_cons_succ, List.getElem_cons_zero]
                      have pv := (HC3.out _ HTwz8.out).1
                      have pf := Frm.frozen_row _ _ 0 _ _ (HTwz8.out.keep HG3.out (by simp))
                      go_simp
                      refine hK.out _ _ (app_S HEwz8.out b1' (by rw [HHS.out, sv_at (by have := HI.out.2.2.2.2.2.2.2.2.1; omega)])) (fun hS => ?_)
                      clear hK K
                      try simp only [Act.put, List.getElem_toArray, List.getElem_cons_succ, List.getElem_cons_zero, List.setIfInBounds_toArray, List.set_cons_zero, List.set_cons_succ]
                      refine wpAnyH_done (by kernel_rfl) ?_ _
                      go_wp2_with fail
                      go_meet
                      exact HEwz8.out
            · skip
              try simp only [List.getElem_toArray, List.getElem_cons_succ, List.getElem_cons_zero]
              go_simp
              have HTwz9 := Lib.hid (HTwz1.out.alloc (Obj.cells #[.int .u64 hs, .int .i64 sn] 46))
              have HNwz9 := Lib.hid (Frm.owns_turn HNwz1.out ((Frm.Turn.refl [] wz1).alloc (Obj.cells #[.int .u64 hs, .int .i64 sn] 46)) (by simp))
              have HD : Hid (∀ k, (Value.slice (some ⟨wz1.heap.size, 0, none⟩) 1 1).ownBlock = some k → v0.ownBlock ≠ some k) := Lib.hid (fun k hk e => by have := (HNwz1.out.lt k e).2; simp [Value.ownBlock] at hk; omega)
              have HLwz9 := Lib.hid (lit_row13 wz1 (.int .u64 hs) (.int .i64 sn))
              generalize World.alloc wz1 _ = wz9 at HTwz9 HNwz9 HLwz9 ⊢
              generalize Value.slice (some ⟨wz1.heap.size, 0, none⟩) 1 1 = lt at HLwz9 HD ⊢
              refine hK.out _ _ (HSS.out _ HTwz9.out) (fun hSwz9 => ?_)
              clear hK K
              try simp only [Act.put, List.getElem_toArray, List.getElem_cons_succ, List.getElem_cons_zero, List.setIfInBounds_toArray, List.set_cons_zero, List.set_cons_succ]
              clear hSwz9
              refine wpAnyH_ready (rs := [2]) (by kernel_rfl) (by simp) ?_
              refine (AllReadyH.cons rfl (fun K hK => ?_) AllReadyH.nil)
              · skip
                try simp only [List.getElem_toArray, List.getElem_cons_succ, List.getElem_cons_zero]
                have pv := (HC3.out _ HTwz9.out).1
                go_simp
                clear pv
                refine hK.out _ _ (HSS.out _ HTwz9.out) (fun hSwz10 => ?_)
                clear hK K
                try simp only [Act.put, List.getElem_toArray, List.getElem_cons_succ, List.getElem_cons_zero, List.setIfInBounds_toArray, List.set_cons_zero, List.set_cons_succ]
                have HTwz10 := HTwz9
                have HNwz10 := HNwz9
                have HLwz10 := HLwz9
                clear hSwz10
                skip
                refine wpAnyH_ready (rs := [3]) (by kernel_rfl) (by simp) ?_
                refine (AllReadyH.cons rfl (fun K hK => ?_) AllReadyH.nil)
                · skip
                  refine Frm.step_append_rows13 (by rfl) (.tmp 32) (.tmp 34) 47 (by rfl) 46 i0 (.agg #[.int .u64 0, .int .i64 0]) 2 16 under_pls hi0 hz0 hz1 hz2 rfl (by decide) w3.heap.size v0 0 [] (by rfl) HNwz10.out v (by rfl) l.length 0 (plCells l) (HV3.out _ HTwz10.out) (pl_one l) (by have := HL15.out; unfold maxLen; omega) (by have := HL15.out; omega) HTwz10.out.size ?_
                  intro v1 wz11 ho1 hg1 hl1
                  rw [Nat.zero_add, List.nil_append] at ho1
                  have HTwz11 := Lib.hid (grow13 HTwz10.out HNwz10.out hg1)
                  have HOwz11 := Lib.hid ho1
                  have HLwz11 := Lib.hid (Frm.owns_turn HLwz10.out (Frm.Turn.of_grown hg1) (fun k hk hm => HD.out k hk (by simpa using hm)))
                  clear ho1 hg1 hl1
                  refine hK.out _ _ (HSS.out _ HTwz11.out) (fun hSwz11 => ?_)
                  clear hK K
                  try simp only [Act.put, List.getElem_toArray, List.getElem_cons_succ, List.getElem_cons_zero, List.setIfInBounds_toArray, List.set_cons_zero, List.set_cons_succ]
                  clear hSwz11
                  refine wpAnyH_ready (rs := [12]) (by kernel_rfl) (by simp) ?_
                  refine (AllReadyH.cons rfl (fun K hK => ?_) AllReadyH.nil)
                  · skip
                    refine Frm.step_append_rows13 (by rfl) (.tmp 35) (.tmp 43) 47 (by rfl) 46 i0 (.agg #[.int .u64 0, .int .i64 0]) 2 16 under_pls hi0 hz0 hz1 hz2 rfl (by decide) w3.heap.size v1 l.length (plCells l) (by rfl) HOwz11.out lt (by rfl) 1 0 [.int .u64 hs, .int .i64 sn] HLwz11.out (by simp [Value.oneCell']) (by have := HL15.out; unfold maxLen; omega) (by have := HL15.out; omega) HTwz11.out.size ?_
                    intro v2 wz12 ho2 hg2 hl2
                    obtain ⟨a2, c2, rfl⟩ := Frm.row_form ho2
                    have HTwz12 := Lib.hid (grow13 HTwz11.out HOwz11.out hg2)
                    have HEwz12 := Lib.hid (app_end HGC.out HG3.out HTwz12.out (by rw [← HHG.out]; exact ho2))
                    clear ho2 hg2 hl2
                    refine hK.out _ _ (HSS.out _ HTwz12.out) (fun hSwz12 => ?_)
                    clear hK K
                    try simp only [Act.put, List.getElem_toArray, List.getElem_cons_succ, List.getElem_cons_zero, List.setIfInBounds_toArray, List.set_cons_zero, List.set_cons_succ]
                    refine wpAnyH_take (i := 13) (v := ?_) rfl (by kernel_rfl) (by kernel_rfl) (by kernel_rfl) (fun _ _ _ h => h) (Or.inl ⟨by rfl, ?_⟩) (by assumption) ?_
                    rotate_left
                    · (intro w hSw; (try dsimp only at hSw); go_simp; try with_reducible rfl)
                    try simp only [Act.put, List.getElem_toArray, List.getElem_cons_succ, List.getElem_cons_zero, List.setIfInBounds_toArray, List.set_cons_zero, List.set_cons_succ]
                    refine wpAnyH_ready (rs := [14]) (by kernel_rfl) (by simp) ?_
                    refine (AllReadyH.cons rfl (fun K hK => ?_) AllReadyH.nil)
                    · try simp only [List.getElem_toArray, List.getElem_cons_succ, List.getElem_cons_zero]
                      have pv := (HC3.out _ HTwz12.out).1
                      have pf := Frm.frozen_row _ _ 0 _ _ (HTwz12.out.keep HG3.out (by simp))
                      go_simp
                      refine hK.out _ _ (app_S HEwz12.out b1' (by rw [HHS.out, sv_at (by have := HI.out.2.2.2.2.2.2.2.2.1; omega)])) (fun hS => ?_)
                      clear hK K
                      try simp only [Act.put, List.getElem_toArray, List.getElem_cons_succ, List.getElem_cons_zero, List.setIfInBounds_toArray, List.set_cons_zero, List.set_cons_succ]
                      refine wpAnyH_done (by kernel_rfl) ?_ _
                      go_wp2_with fail
                      go_meet
                      exact HEwz12.out
          · skip
            try simp only [List.getElem_toArray, List.getElem_cons_succ, List.getElem_cons_zero]
            have pv := (HC3.out _ HTwd.out).1
            go_simp
            clear pv
            refine hK.out _ _ (HSS.out _ HTwd.out) (fun hSwz13 => ?_)
            clear hK K
            try simp only [Act.put, List.getElem_toArray, List.getElem_cons_succ, List.getElem_cons_zero, List.setIfInBounds_toArray, List.set_cons_zero, List.set_cons_succ]
            have HTwz13 := HTwd
            clear hSwz13
            skip
            refine wpAnyH_ready (rs := [0, 11]) (by kernel_rfl) (by simp) ?_
            refine (AllReadyH.cons rfl (fun K hK => ?_) (AllReadyH.cons rfl (fun K hK => ?_) AllReadyH.nil))
            · skip
              try simp only [List.getElem_toArray, List.getElem_cons_succ, List.getElem_cons_zero]
              go_simp
              have HTwz14 := Lib.hid (HTwz13.out.alloc (Obj.cells #[] 46))
              have HNwz14 := Lib.hid (nil_row13 wd w3.heap.size HTwz13.out.size)
              generalize World.alloc wd _ = wz14 at HTwz14 HNwz14 ⊢
              generalize Value.slice (some ⟨wd.heap.size, 0, none⟩) 0 0 = v0 at HNwz14 ⊢
              refine hK.out _ _ (HSS.out _ HTwz14.out) (fun hSwz14 => ?_)
              clear hK K
              try simp only [Act.put, List.getElem_toArray, List.getElem_cons_succ, List.getElem_cons_zero, List.setIfInBounds_toArray, List.set_cons_zero, List.set_cons_succ]
              clear hSwz14
              refine wpAnyH_ready (rs := [3, 11]) (by kernel_rfl) (by simp) ?_
              refine (AllReadyH.cons rfl (fun K hK => ?_) (AllReadyH.cons rfl (fun K hK => ?_) AllReadyH.nil))
              · skip
                refine Frm.step_append_rows13 (by rfl) (.tmp 32) (.tmp 34) 47 (by rfl) 46 i0 (.agg #[.int .u64 0, .int .i64 0]) 2 16 under_pls hi0 hz0 hz1 hz2 rfl (by decide) w3.heap.size v0 0 [] (by rfl) HNwz14.out v (by rfl) l.length 0 (plCells l) (HV3.out _ HTwz14.out) (pl_one l) (by have := HL15.out; unfold maxLen; omega) (by have := HL15.out; omega) HTwz14.out.size ?_
                intro v1 wz15 ho1 hg1 hl1
                rw [Nat.zero_add, List.nil_append] at ho1
                have HTwz15 := Lib.hid (grow13 HTwz14.out HNwz14.out hg1)
                have HOwz15 := Lib.hid ho1
                clear ho1 hg1 hl1
                refine hK.out _ _ (HSS.out _ HTwz15.out) (fun hSwz15 => ?_)
                clear hK K
                try simp only [Act.put, List.getElem_toArray, List.getElem_cons_succ, List.getElem_cons_zero, List.setIfInBounds_toArray, List.set_cons_zero, List.set_cons_succ]
                clear hSwz15
                refine wpAnyH_ready (rs := [11]) (by kernel_rfl) (by simp) ?_
                refine (AllReadyH.cons rfl (fun K hK => ?_) AllReadyH.nil)
                · skip
                  try simp only [List.getElem_toArray, List.getElem_cons_succ, List.getElem_cons_zero]
                  go_simp
                  have HTwz16 := Lib.hid (HTwz15.out.alloc (Obj.cells #[.int .u64 hs, .int .i64 sn] 46))
                  have HOwz16 := Lib.hid (Frm.owns_turn HOwz15.out ((Frm.Turn.refl [] wz15).alloc (Obj.cells #[.int .u64 hs, .int .i64 sn] 46)) (by simp))
                  have HLwz16 := Lib.hid (lit_row13 wz15 (.int .u64 hs) (.int .i64 sn))
                  generalize World.alloc wz15 _ = wz16 at HTwz16 HLwz16 HOwz16 ⊢
                  generalize Value.slice (some ⟨wz15.heap.size, 0, none⟩) 1 1 = lt at HLwz16 ⊢
                  refine hK.out _ _ (HSS.out _ HTwz16.out) (fun hSwz16 => ?_)
                  clear hK K
                  try simp only [Act.put, List.getElem_toArray, List.getElem_cons_succ, List.getElem_cons_zero, List.setIfInBounds_toArray, List.set_cons_zero, List.set_cons_succ]
                  clear hSwz16
                  refine wpAnyH_ready (rs := [12]) (by kernel_rfl) (by simp) ?_
                  refine (AllReadyH.cons rfl (fun K hK => ?_) AllReadyH.nil)
                  · skip
                    refine Frm.step_append_rows13 (by rfl) (.tmp 35) (.tmp 43) 47 (by rfl) 46 i0 (.agg #[.int .u64 0, .int .i64 0]) 2 16 under_pls hi0 hz0 hz1 hz2 rfl (by decide) w3.heap.size v1 l.length (plCells l) (by rfl) HOwz16.out lt (by rfl) 1 0 [.int .u64 hs, .int .i64 sn] HLwz16.out (by simp [Value.oneCell']) (by have := HL15.out; unfold maxLen; omega) (by have := HL15.out; omega) HTwz16.out.size ?_
                    intro v2 wz17 ho2 hg2 hl2
                    obtain ⟨a2, c2, rfl⟩ := Frm.row_form ho2
                    have HTwz17 := Lib.hid (grow13 HTwz16.out HOwz16.out hg2)
                    have HEwz17 := Lib.hid (app_end HGC.out HG3.out HTwz17.out (by rw [← HHG.out]; exact ho2))
                    clear ho2 hg2 hl2
                    refine hK.out _ _ (HSS.out _ HTwz17.out) (fun hSwz17 => ?_)
                    clear hK K
                    try simp only [Act.put, List.getElem_toArray, List.getElem_cons_succ, List.getElem_cons_zero, List.setIfInBounds_toArray, List.set_cons_zero, List.set_cons_succ]
                    refine wpAnyH_take (i := 13) (v := ?_) rfl (by kernel_rfl) (by kernel_rfl) (by kernel_rfl) (fun _ _ _ h => h) (Or.inl ⟨by rfl, ?_⟩) (by assumption) ?_
                    rotate_left
                    · (intro w hSw; (try dsimp only at hSw); go_simp; try with_reducible rfl)
                    try simp only [Act.put, List.getElem_toArray, List.getElem_cons_succ, List.getElem_cons_zero, List.setIfInBounds_toArray, List.set_cons_zero, List.set_cons_succ]
                    refine wpAnyH_ready (rs := [14]) (by kernel_rfl) (by simp) ?_
                    refine (AllReadyH.cons rfl (fun K hK => ?_) AllReadyH.nil)
                    · try simp only [List.getElem_toArray, List.getElem_cons_succ, List.getElem_cons_zero]
                      have pv := (HC3.out _ HTwz17.out).1
                      have pf := Frm.frozen_row _ _ 0 _ _ (HTwz17.out.keep HG3.out (by simp))
                      go_simp
                      refine hK.out _ _ (app_S HEwz17.out b1' (by rw [HHS.out, sv_at (by have := HI.out.2.2.2.2.2.2.2.2.1; omega)])) (fun hS => ?_)
                      clear hK K
                      try simp only [Act.put, List.getElem_toArray, List.getElem_cons_succ, List.getElem_cons_zero, List.setIfInBounds_toArray, List.set_cons_zero, List.set_cons_succ]
                      refine wpAnyH_done (by kernel_rfl) ?_ _
                      go_wp2_with fail
                      go_meet
                      exact HEwz17.out
              · skip
                try simp only [List.getElem_toArray, List.getElem_cons_succ, List.getElem_cons_zero]
                go_simp
                have HTwz18 := Lib.hid (HTwz14.out.alloc (Obj.cells #[.int .u64 hs, .int .i64 sn] 46))
                have HNwz18 := Lib.hid (Frm.owns_turn HNwz14.out ((Frm.Turn.refl [] wz14).alloc (Obj.cells #[.int .u64 hs, .int .i64 sn] 46)) (by simp))
                have HD : Hid (∀ k, (Value.slice (some ⟨wz14.heap.size, 0, none⟩) 1 1).ownBlock = some k → v0.ownBlock ≠ some k) := Lib.hid (fun k hk e => by have := (HNwz14.out.lt k e).2; simp [Value.ownBlock] at hk; omega)
                have HLwz18 := Lib.hid (lit_row13 wz14 (.int .u64 hs) (.int .i64 sn))
                generalize World.alloc wz14 _ = wz18 at HTwz18 HNwz18 HLwz18 ⊢
                generalize Value.slice (some ⟨wz14.heap.size, 0, none⟩) 1 1 = lt at HLwz18 HD ⊢
                refine hK.out _ _ (HSS.out _ HTwz18.out) (fun hSwz18 => ?_)
                clear hK K
                try simp only [Act.put, List.getElem_toArray, List.getElem_cons_succ, List.getElem_cons_zero, List.setIfInBounds_toArray, List.set_cons_zero, List.set_cons_succ]
                clear hSwz18
                refine wpAnyH_ready (rs := [3]) (by kernel_rfl) (by simp) ?_
                refine (AllReadyH.cons rfl (fun K hK => ?_) AllReadyH.nil)
                · skip
                  refine Frm.step_append_rows13 (by rfl) (.tmp 32) (.tmp 34) 47 (by rfl) 46 i0 (.agg #[.int .u64 0, .int .i64 0]) 2 16 under_pls hi0 hz0 hz1 hz2 rfl (by decide) w3.heap.size v0 0 [] (by rfl) HNwz18.out v (by rfl) l.length 0 (plCells l) (HV3.out _ HTwz18.out) (pl_one l) (by have := HL15.out; unfold maxLen; omega) (by have := HL15.out; omega) HTwz18.out.size ?_
                  intro v1 wz19 ho1 hg1 hl1
                  rw [Nat.zero_add, List.nil_append] at ho1
                  have HTwz19 := Lib.hid (grow13 HTwz18.out HNwz18.out hg1)
                  have HOwz19 := Lib.hid ho1
                  have HLwz19 := Lib.hid (Frm.owns_turn HLwz18.out (Frm.Turn.of_grown hg1) (fun k hk hm => HD.out k hk (by simpa using hm)))
                  clear ho1 hg1 hl1
                  refine hK.out _ _ (HSS.out _ HTwz19.out) (fun hSwz19 => ?_)
                  clear hK K
                  try simp only [Act.put, List.getElem_toArray, List.getElem_cons_succ, List.getElem_cons_zero, List.setIfInBounds_toArray, List.set_cons_zero, List.set_cons_succ]
                  clear hSwz19
                  refine wpAnyH_ready (rs := [12]) (by kernel_rfl) (by simp) ?_
                  refine (AllReadyH.cons rfl (fun K hK => ?_) AllReadyH.nil)
                  · skip
                    refine Frm.step_append_rows13 (by rfl) (.tmp 35) (.tmp 43) 47 (by rfl) 46 i0 (.agg #[.int .u64 0, .int .i64 0]) 2 16 under_pls hi0 hz0 hz1 hz2 rfl (by decide) w3.heap.size v1 l.length (plCells l) (by rfl) HOwz19.out lt (by rfl) 1 0 [.int .u64 hs, .int .i64 sn] HLwz19.out (by simp [Value.oneCell']) (by have := HL15.out; unfold maxLen; omega) (by have := HL15.out; omega) HTwz19.out.size ?_
                    intro v2 wz20 ho2 hg2 hl2
                    obtain ⟨a2, c2, rfl⟩ := Frm.row_form ho2
                    have HTwz20 := Lib.hid (grow13 HTwz19.out HOwz19.out hg2)
                    have HEwz20 := Lib.hid (app_end HGC.out HG3.out HTwz20.out (by rw [← HHG.out]; exact ho2))
                    clear ho2 hg2 hl2
                    refine hK.out _ _ (HSS.out _ HTwz20.out) (fun hSwz20 => ?_)
                    clear hK K
                    try simp only [Act.put, List.getElem_toArray, List.getElem_cons_succ, List.getElem_cons_zero, List.setIfInBounds_toArray, List.set_cons_zero, List.set_cons_succ]
                    refine wpAnyH_take (i := 13) (v := ?_) rfl (by kernel_rfl) (by kernel_rfl) (by kernel_rfl) (fun _ _ _ h => h) (Or.inl ⟨by rfl, ?_⟩) (by assumption) ?_
                    rotate_left
                    · (intro w hSw; (try dsimp only at hSw); go_simp; try with_reducible rfl)
                    try simp only [Act.put, List.getElem_toArray, List.getElem_cons_succ, List.getElem_cons_zero, List.setIfInBounds_toArray, List.set_cons_zero, List.set_cons_succ]
                    refine wpAnyH_ready (rs := [14]) (by kernel_rfl) (by simp) ?_
                    refine (AllReadyH.cons rfl (fun K hK => ?_) AllReadyH.nil)
                    · try simp only [List.getElem_toArray, List.getElem_cons_succ, List.getElem_cons_zero]
                      have pv := (HC3.out _ HTwz20.out).1
                      have pf := Frm.frozen_row _ _ 0 _ _ (HTwz20.out.keep HG3.out (by simp))
                      go_simp
                      refine hK.out _ _ (app_S HEwz20.out b1' (by rw [HHS.out, sv_at (by have := HI.out.2.2.2.2.2.2.2.2.1; omega)])) (fun hS => ?_)
                      clear hK K
                      try simp only [Act.put, List.getElem_toArray, List.getElem_cons_succ, List.getElem_cons_zero, List.setIfInBounds_toArray, List.set_cons_zero, List.set_cons_succ]
                      refine wpAnyH_done (by kernel_rfl) ?_ _
                      go_wp2_with fail
                      go_meet
                      exact HEwz20.out
            · skip
              try simp only [List.getElem_toArray, List.getElem_cons_succ, List.getElem_cons_zero]
              go_simp
              have HTwz21 := Lib.hid (HTwz13.out.alloc (Obj.cells #[.int .u64 hs, .int .i64 sn] 46))
              have HLwz21 := Lib.hid (lit_row13 wd (.int .u64 hs) (.int .i64 sn))
              generalize World.alloc wd _ = wz21 at HTwz21 HLwz21 ⊢
              generalize Value.slice (some ⟨wd.heap.size, 0, none⟩) 1 1 = lt at HLwz21 ⊢
              refine hK.out _ _ (HSS.out _ HTwz21.out) (fun hSwz21 => ?_)
              clear hK K
              try simp only [Act.put, List.getElem_toArray, List.getElem_cons_succ, List.getElem_cons_zero, List.setIfInBounds_toArray, List.set_cons_zero, List.set_cons_succ]
              clear hSwz21
              refine wpAnyH_ready (rs := [0]) (by kernel_rfl) (by simp) ?_
              refine (AllReadyH.cons rfl (fun K hK => ?_) AllReadyH.nil)
              · skip
                try simp only [List.getElem_toArray, List.getElem_cons_succ, List.getElem_cons_zero]
                go_simp
                have HTwz22 := Lib.hid (HTwz21.out.alloc (Obj.cells #[] 46))
                have HLwz22 := Lib.hid (Frm.owns_turn HLwz21.out ((Frm.Turn.refl [] wz21).alloc (Obj.cells #[] 46)) (by simp))
                have HD : Hid (∀ k, lt.ownBlock = some k → (Value.slice (some ⟨wz21.heap.size, 0, none⟩) 0 0).ownBlock ≠ some k) := Lib.hid (fun k hk e => by have := (HLwz21.out.lt k hk).2; simp [Value.ownBlock] at e; omega)
                have HNwz22 := Lib.hid (nil_row13 wz21 w3.heap.size HTwz21.out.size)
                generalize World.alloc wz21 _ = wz22 at HTwz22 HNwz22 HLwz22 ⊢
                generalize Value.slice (some ⟨wz21.heap.size, 0, none⟩) 0 0 = v0 at HNwz22 HD ⊢
                refine hK.out _ _ (HSS.out _ HTwz22.out) (fun hSwz22 => ?_)
                clear hK K
                try simp only [Act.put, List.getElem_toArray, List.getElem_cons_succ, List.getElem_cons_zero, List.setIfInBounds_toArray, List.set_cons_zero, List.set_cons_succ]
                clear hSwz22
                refine wpAnyH_ready (rs := [3]) (by kernel_rfl) (by simp) ?_
                refine (AllReadyH.cons rfl (fun K hK => ?_) AllReadyH.nil)
                · skip
                  refine Frm.step_append_rows13 (by rfl) (.tmp 32) (.tmp 34) 47 (by rfl) 46 i0 (.agg #[.int .u64 0, .int .i64 0]) 2 16 under_pls hi0 hz0 hz1 hz2 rfl (by decide) w3.heap.size v0 0 [] (by rfl) HNwz22.out v (by rfl) l.length 0 (plCells l) (HV3.out _ HTwz22.out) (pl_one l) (by have := HL15.out; unfold maxLen; omega) (by have := HL15.out; omega) HTwz22.out.size ?_
                  intro v1 wz23 ho1 hg1 hl1
                  rw [Nat.zero_add, List.nil_append] at ho1
                  have HTwz23 := Lib.hid (grow13 HTwz22.out HNwz22.out hg1)
                  have HOwz23 := Lib.hid ho1
                  have HLwz23 := Lib.hid (Frm.owns_turn HLwz22.out (Frm.Turn.of_grown hg1) (fun k hk hm => HD.out k hk (by simpa using hm)))
                  clear ho1 hg1 hl1
                  refine hK.out _ _ (HSS.out _ HTwz23.out) (fun hSwz23 => ?_)
                  clear hK K
                  try simp only [Act.put, List.getElem_toArray, List.getElem_cons_succ, List.getElem_cons_zero, List.setIfInBounds_toArray, List.set_cons_zero, List.set_cons_succ]
                  clear hSwz23
                  refine wpAnyH_ready (rs := [12]) (by kernel_rfl) (by simp) ?_
                  refine (AllReadyH.cons rfl (fun K hK => ?_) AllReadyH.nil)
                  · skip
                    refine Frm.step_append_rows13 (by rfl) (.tmp 35) (.tmp 43) 47 (by rfl) 46 i0 (.agg #[.int .u64 0, .int .i64 0]) 2 16 under_pls hi0 hz0 hz1 hz2 rfl (by decide) w3.heap.size v1 l.length (plCells l) (by rfl) HOwz23.out lt (by rfl) 1 0 [.int .u64 hs, .int .i64 sn] HLwz23.out (by simp [Value.oneCell']) (by have := HL15.out; unfold maxLen; omega) (by have := HL15.out; omega) HTwz23.out.size ?_
                    intro v2 wz24 ho2 hg2 hl2
                    obtain ⟨a2, c2, rfl⟩ := Frm.row_form ho2
                    have HTwz24 := Lib.hid (grow13 HTwz23.out HOwz23.out hg2)
                    have HEwz24 := Lib.hid (app_end HGC.out HG3.out HTwz24.out (by rw [← HHG.out]; exact ho2))
                    clear ho2 hg2 hl2
                    refine hK.out _ _ (HSS.out _ HTwz24.out) (fun hSwz24 => ?_)
                    clear hK K
                    try simp only [Act.put, List.getElem_toArray, List.getElem_cons_succ, List.getElem_cons_zero, List.setIfInBounds_toArray, List.set_cons_zero, List.set_cons_succ]
                    refine wpAnyH_take (i := 13) (v := ?_) rfl (by kernel_rfl) (by kernel_rfl) (by kernel_rfl) (fun _ _ _ h => h) (Or.inl ⟨by rfl, ?_⟩) (by assumption) ?_
                    rotate_left
                    · (intro w hSw; (try dsimp only at hSw); go_simp; try with_reducible rfl)
                    try simp only [Act.put, List.getElem_toArray, List.getElem_cons_succ, List.getElem_cons_zero, List.setIfInBounds_toArray, List.set_cons_zero, List.set_cons_succ]
                    refine wpAnyH_ready (rs := [14]) (by kernel_rfl) (by simp) ?_
                    refine (AllReadyH.cons rfl (fun K hK => ?_) AllReadyH.nil)
                    · try simp only [List.getElem_toArray, List.getElem_cons_succ, List.getElem_cons_zero]
                      have pv := (HC3.out _ HTwz24.out).1
                      have pf := Frm.frozen_row _ _ 0 _ _ (HTwz24.out.keep HG3.out (by simp))
                      go_simp
                      refine hK.out _ _ (app_S HEwz24.out b1' (by rw [HHS.out, sv_at (by have := HI.out.2.2.2.2.2.2.2.2.1; omega)])) (fun hS => ?_)
                      clear hK K
                      try simp only [Act.put, List.getElem_toArray, List.getElem_cons_succ, List.getElem_cons_zero, List.setIfInBounds_toArray, List.set_cons_zero, List.set_cons_succ]
                      refine wpAnyH_done (by kernel_rfl) ?_ _
                      go_wp2_with fail
                      go_meet
                      exact HEwz24.out
          · skip
            try simp only [List.getElem_toArray, List.getElem_cons_succ, List.getElem_cons_zero]
            go_simp
            have HTwz25 := Lib.hid (HTwd.out.alloc (Obj.cells #[.int .u64 hs, .int .i64 sn] 46))
            have HLwz25 := Lib.hid (lit_row13 wd (.int .u64 hs) (.int .i64 sn))
            generalize World.alloc wd _ = wz25 at HTwz25 HLwz25 ⊢
            generalize Value.slice (some ⟨wd.heap.size, 0, none⟩) 1 1 = lt at HLwz25 ⊢
            refine hK.out _ _ (HSS.out _ HTwz25.out) (fun hSwz25 => ?_)
            clear hK K
            try simp only [Act.put, List.getElem_toArray, List.getElem_cons_succ, List.getElem_cons_zero, List.setIfInBounds_toArray, List.set_cons_zero, List.set_cons_succ]
            clear hSwz25
            refine wpAnyH_ready (rs := [0, 2]) (by kernel_rfl) (by simp) ?_
            refine (AllReadyH.cons rfl (fun K hK => ?_) (AllReadyH.cons rfl (fun K hK => ?_) AllReadyH.nil))
            · skip
              try simp only [List.getElem_toArray, List.getElem_cons_succ, List.getElem_cons_zero]
              go_simp
              have HTwz26 := Lib.hid (HTwz25.out.alloc (Obj.cells #[] 46))
              have HLwz26 := Lib.hid (Frm.owns_turn HLwz25.out ((Frm.Turn.refl [] wz25).alloc (Obj.cells #[] 46)) (by simp))
              have HD : Hid (∀ k, lt.ownBlock = some k → (Value.slice (some ⟨wz25.heap.size, 0, none⟩) 0 0).ownBlock ≠ some k) := Lib.hid (fun k hk e => by have := (HLwz25.out.lt k hk).2; simp [Value.ownBlock] at e; omega)
              have HNwz26 := Lib.hid (nil_row13 wz25 w3.heap.size HTwz25.out.size)
              generalize World.alloc wz25 _ = wz26 at HTwz26 HNwz26 HLwz26 ⊢
              generalize Value.slice (some ⟨wz25.heap.size, 0, none⟩) 0 0 = v0 at HNwz26 HD ⊢
              refine hK.out _ _ (HSS.out _ HTwz26.out) (fun hSwz26 => ?_)
              clear hK K
              try simp only [Act.put, List.getElem_toArray, List.getElem_cons_succ, List.getElem_cons_zero, List.setIfInBounds_toArray, List.set_cons_zero, List.set_cons_succ]
              clear hSwz26
              refine wpAnyH_ready (rs := [2]) (by kernel_rfl) (by simp) ?_
              refine (AllReadyH.cons rfl (fun K hK => ?_) AllReadyH.nil)
              · skip
                try simp only [List.getElem_toArray, List.getElem_cons_succ, List.getElem_cons_zero]
                have pv := (HC3.out _ HTwz26.out).1
                go_simp
                clear pv
                refine hK.out _ _ (HSS.out _ HTwz26.out) (fun hSwz27 => ?_)
                clear hK K
                try simp only [Act.put, List.getElem_toArray, List.getElem_cons_succ, List.getElem_cons_zero, List.setIfInBounds_toArray, List.set_cons_zero, List.set_cons_succ]
                have HTwz27 := HTwz26
                have HNwz27 := HNwz26
                have HLwz27 := HLwz26
                clear hSwz27
                skip
                refine wpAnyH_ready (rs := [3]) (by kernel_rfl) (by simp) ?_
                refine (AllReadyH.cons rfl (fun K hK => ?_) AllReadyH.nil)
                · skip
                  refine Frm.step_append_rows13 (by rfl) (.tmp 32) (.tmp 34) 47 (by rfl) 46 i0 (.agg #[.int .u64 0, .int .i64 0]) 2 16 under_pls hi0 hz0 hz1 hz2 rfl (by decide) w3.heap.size v0 0 [] (by rfl) HNwz27.out v (by rfl) l.length 0 (plCells l) (HV3.out _ HTwz27.out) (pl_one l) (by have := HL15.out; unfold maxLen; omega) (by have := HL15.out; omega) HTwz27.out.size ?_
                  intro v1 wz28 ho1 hg1 hl1
                  rw [Nat.zero_add, List.nil_append] at ho1
                  have HTwz28 := Lib.hid (grow13 HTwz27.out HNwz27.out hg1)
                  have HOwz28 := Lib.hid ho1
                  have HLwz28 := Lib.hid (Frm.owns_turn HLwz27.out (Frm.Turn.of_grown hg1) (fun k hk hm => HD.out k hk (by simpa using hm)))
                  clear ho1 hg1 hl1
                  refine hK.out _ _ (HSS.out _ HTwz28.out) (fun hSwz28 => ?_)
                  clear hK K
                  try simp only [Act.put, List.getElem_toArray, List.getElem_cons_succ, List.getElem_cons_zero, List.setIfInBounds_toArray, List.set_cons_zero, List.set_cons_succ]
                  clear hSwz28
                  refine wpAnyH_ready (rs := [12]) (by kernel_rfl) (by simp) ?_
                  refine (AllReadyH.cons rfl (fun K hK => ?_) AllReadyH.nil)
                  · skip
                    refine Frm.step_append_rows13 (by rfl) (.tmp 35) (.tmp 43) 47 (by rfl) 46 i0 (.agg #[.int .u64 0, .int .i64 0]) 2 16 under_pls hi0 hz0 hz1 hz2 rfl (by decide) w3.heap.size v1 l.length (plCells l) (by rfl) HOwz28.out lt (by rfl) 1 0 [.int .u64 hs, .int .i64 sn] HLwz28.out (by simp [Value.oneCell']) (by have := HL15.out; unfold maxLen; omega) (by have := HL15.out; omega) HTwz28.out.size ?_
                    intro v2 wz29 ho2 hg2 hl2
                    obtain ⟨a2, c2, rfl⟩ := Frm.row_form ho2
                    have HTwz29 := Lib.hid (grow13 HTwz28.out HOwz28.out hg2)
                    have HEwz29 := Lib.hid (app_end HGC.out HG3.out HTwz29.out (by rw [← HHG.out]; exact ho2))
                    clear ho2 hg2 hl2
                    refine hK.out _ _ (HSS.out _ HTwz29.out) (fun hSwz29 => ?_)
                    clear hK K
                    try simp only [Act.put, List.getElem_toArray, List.getElem_cons_succ, List.getElem_cons_zero, List.setIfInBounds_toArray, List.set_cons_zero, List.set_cons_succ]
                    refine wpAnyH_take (i := 13) (v := ?_) rfl (by kernel_rfl) (by kernel_rfl) (by kernel_rfl) (fun _ _ _ h => h) (Or.inl ⟨by rfl, ?_⟩) (by assumption) ?_
                    rotate_left
                    · (intro w hSw; (try dsimp only at hSw); go_simp; try with_reducible rfl)
                    try simp only [Act.put, List.getElem_toArray, List.getElem_cons_succ, List.getElem_cons_zero, List.setIfInBounds_toArray, List.set_cons_zero, List.set_cons_succ]
                    refine wpAnyH_ready (rs := [14]) (by kernel_rfl) (by simp) ?_
                    refine (AllReadyH.cons rfl (fun K hK => ?_) AllReadyH.nil)
                    · try simp only [List.getElem_toArray, List.getElem_cons_succ, List.getElem_cons_zero]
                      have pv := (HC3.out _ HTwz29.out).1
                      have pf := Frm.frozen_row _ _ 0 _ _ (HTwz29.out.keep HG3.out (by simp))
                      go_simp
                      refine hK.out _ _ (app_S HEwz29.out b1' (by rw [HHS.out, sv_at (by have := HI.out.2.2.2.2.2.2.2.2.1; omega)])) (fun hS => ?_)
                      clear hK K
                      try simp only [Act.put, List.getElem_toArray, List.getElem_cons_succ, List.getElem_cons_zero, List.setIfInBounds_toArray, List.set_cons_zero, List.set_cons_succ]
                      refine wpAnyH_done (by kernel_rfl) ?_ _
                      go_wp2_with fail
                      go_meet
                      exact HEwz29.out
            · skip
              try simp only [List.getElem_toArray, List.getElem_cons_succ, List.getElem_cons_zero]
              have pv := (HC3.out _ HTwz25.out).1
              go_simp
              clear pv
              refine hK.out _ _ (HSS.out _ HTwz25.out) (fun hSwz30 => ?_)
              clear hK K
              try simp only [Act.put, List.getElem_toArray, List.getElem_cons_succ, List.getElem_cons_zero, List.setIfInBounds_toArray, List.set_cons_zero, List.set_cons_succ]
              have HTwz30 := HTwz25
              have HLwz30 := HLwz25
              clear hSwz30
              skip
              refine wpAnyH_ready (rs := [0]) (by kernel_rfl) (by simp) ?_
              refine (AllReadyH.cons rfl (fun K hK => ?_) AllReadyH.nil)
              · skip
                try simp only [List.getElem_toArray, List.getElem_cons_succ, List.getElem_cons_zero]
                go_simp
                have HTwz31 := Lib.hid (HTwz30.out.alloc (Obj.cells #[] 46))
                have HLwz31 := Lib.hid (Frm.owns_turn HLwz30.out ((Frm.Turn.refl [] wz25).alloc (Obj.cells #[] 46)) (by simp))
                have HD : Hid (∀ k, lt.ownBlock = some k → (Value.slice (some ⟨wz25.heap.size, 0, none⟩) 0 0).ownBlock ≠ some k) := Lib.hid (fun k hk e => by have := (HLwz30.out.lt k hk).2; simp [Value.ownBlock] at e; omega)
                have HNwz31 := Lib.hid (nil_row13 wz25 w3.heap.size HTwz30.out.size)
                generalize World.alloc wz25 _ = wz31 at HTwz31 HNwz31 HLwz31 ⊢
                generalize Value.slice (some ⟨wz25.heap.size, 0, none⟩) 0 0 = v0 at HNwz31 HD ⊢
                refine hK.out _ _ (HSS.out _ HTwz31.out) (fun hSwz31 => ?_)
                clear hK K
                try simp only [Act.put, List.getElem_toArray, List.getElem_cons_succ, List.getElem_cons_zero, List.setIfInBounds_toArray, List.set_cons_zero, List.set_cons_succ]
                clear hSwz31
                refine wpAnyH_ready (rs := [3]) (by kernel_rfl) (by simp) ?_
                refine (AllReadyH.cons rfl (fun K hK => ?_) AllReadyH.nil)
                · skip
                  refine Frm.step_append_rows13 (by rfl) (.tmp 32) (.tmp 34) 47 (by rfl) 46 i0 (.agg #[.int .u64 0, .int .i64 0]) 2 16 under_pls hi0 hz0 hz1 hz2 rfl (by decide) w3.heap.size v0 0 [] (by rfl) HNwz31.out v (by rfl) l.length 0 (plCells l) (HV3.out _ HTwz31.out) (pl_one l) (by have := HL15.out; unfold maxLen; omega) (by have := HL15.out; omega) HTwz31.out.size ?_
                  intro v1 wz32 ho1 hg1 hl1
                  rw [Nat.zero_add, List.nil_append] at ho1
                  have HTwz32 := Lib.hid (grow13 HTwz31.out HNwz31.out hg1)
                  have HOwz32 := Lib.hid ho1
                  have HLwz32 := Lib.hid (Frm.owns_turn HLwz31.out (Frm.Turn.of_grown hg1) (fun k hk hm => HD.out k hk (by simpa using hm)))
                  clear ho1 hg1 hl1
                  refine hK.out _ _ (HSS.out _ HTwz32.out) (fun hSwz32 => ?_)
                  clear hK K
                  try simp only [Act.put, List.getElem_toArray, List.getElem_cons_succ, List.getElem_cons_zero, List.setIfInBounds_toArray, List.set_cons_zero, List.set_cons_succ]
                  clear hSwz32
                  refine wpAnyH_ready (rs := [12]) (by kernel_rfl) (by simp) ?_
                  refine (AllReadyH.cons rfl (fun K hK => ?_) AllReadyH.nil)
                  · skip
                    refine Frm.step_append_rows13 (by rfl) (.tmp 35) (.tmp 43) 47 (by rfl) 46 i0 (.agg #[.int .u64 0, .int .i64 0]) 2 16 under_pls hi0 hz0 hz1 hz2 rfl (by decide) w3.heap.size v1 l.length (plCells l) (by rfl) HOwz32.out lt (by rfl) 1 0 [.int .u64 hs, .int .i64 sn] HLwz32.out (by simp [Value.oneCell']) (by have := HL15.out; unfold maxLen; omega) (by have := HL15.out; omega) HTwz32.out.size ?_
                    intro v2 wz33 ho2 hg2 hl2
                    obtain ⟨a2, c2, rfl⟩ := Frm.row_form ho2
                    have HTwz33 := Lib.hid (grow13 HTwz32.out HOwz32.out hg2)
                    have HEwz33 := Lib.hid (app_end HGC.out HG3.out HTwz33.out (by rw [← HHG.out]; exact ho2))
                    clear ho2 hg2 hl2
                    refine hK.out _ _ (HSS.out _ HTwz33.out) (fun hSwz33 => ?_)
                    clear hK K
                    try simp only [Act.put, List.getElem_toArray, List.getElem_cons_succ, List.getElem_cons_zero, List.setIfInBounds_toArray, List.set_cons_zero, List.set_cons_succ]
                    refine wpAnyH_take (i := 13) (v := ?_) rfl (by kernel_rfl) (by kernel_rfl) (by kernel_rfl) (fun _ _ _ h => h) (Or.inl ⟨by rfl, ?_⟩) (by assumption) ?_
                    rotate_left
                    · (intro w hSw; (try dsimp only at hSw); go_simp; try with_reducible rfl)
                    try simp only [Act.put, List.getElem_toArray, List.getElem_cons_succ, List.getElem_cons_zero, List.setIfInBounds_toArray, List.set_cons_zero, List.set_cons_succ]
                    refine wpAnyH_ready (rs := [14]) (by kernel_rfl) (by simp) ?_
                    refine (AllReadyH.cons rfl (fun K hK => ?_) AllReadyH.nil)
                    · try simp only [List.getElem_toArray, List.getElem_cons_succ, List.getElem_cons_zero]
                      have pv := (HC3.out _ HTwz33.out).1
                      have pf := Frm.frozen_row _ _ 0 _ _ (HTwz33.out.keep HG3.out (by simp))
                      go_simp
                      refine hK.out _ _ (app_S HEwz33.out b1' (by rw [HHS.out, sv_at (by have := HI.out.2.2.2.2.2.2.2.2.1; omega)])) (fun hS => ?_)
                      clear hK K
                      try simp only [Act.put, List.getElem_toArray, List.getElem_cons_succ, List.getElem_cons_zero, List.setIfInBounds_toArray, List.set_cons_zero, List.set_cons_succ]
                      refine wpAnyH_done (by kernel_rfl) ?_ _
                      go_wp2_with fail
                      go_meet
                      exact HEwz33.out
        case rest =>
          obtain ⟨v2, hgb, hrow2, hnew, hT4⟩ := hcut
          obtain ⟨gd, hgd⟩ : ∃ gd, gd = gotO v2 m := ⟨_, rfl⟩
          rw [← hgd] at hgb
          have HG4 := Lib.hid hgb
          have HR4 := Lib.hid (hT4.keep HR3.out (by simp))
          have HT4 := Lib.hid hT4
          have HRW := Lib.hid hrow2
          have HNW := Lib.hid hnew
          have HGD := Lib.hid hgd
          have HSD : Hid ((Tryz.prog.info? 87).map (·.size) = some gd.size) := Lib.hid (by rw [hgd]; exact info_got)
          have HZD : Hid (gd.size = 9) := Lib.hid (by rw [hgd]; rfl)
          have HOD : Hid (gd.all (·.oneCell') = true) := Lib.hid (by rw [hgd]; exact got_one m (row_one hrow2))
          clear hgd hgb hrow2 hnew hT4
          go_wp2_with (first
            | (refine wpList_load_row rfl 87 (.tmp 5) rfl W.heap.size rfl 87 gd (0, 0) (.struct fs) HG4.out HFS.out rfl HSD.out ?_)
            | (refine wpList_store_row rfl 87 (.tmp 8) (.tmp 46) rfl (W.heap.size + 1) gd rfl rfl 87 _ HR4.out HSD.out (by rw [HZD.out]; rfl) HOD.out ?_))
          obtain ⟨hi, hph, hg, hnode, hm, l1, l2, l3, hm8, hd, hl15⟩ := HI.out
          have hn := HN.out
          have hX : coAt L r (i + 1) = ({ coAt L r i with L := l ++ [sn], node := (coAt L r i).node } : Co).go (behN node) := by
            rw [HNX.out]
            unfold Co.next
            rw [if_neg (by omega), if_pos hph, if_neg HW.out, if_neg (by rw [hnode, hg]; have := HL.out; omega), HLL.out, HSN.out, ← hnode]
          refine bodyPost_ret (v := .agg gd) (results_cell_row rfl _ _ (W.heap.size + 1) 87 gd (0, 0) (.struct fs) rfl (row_set gd HR4.out) HFS.out rfl HSD.out) rfl ?_
          refine bel_end HGD.out HE3.out (setRow_turn (HT4.out.mono (by simp)) (.inl (by simp)) gd) HB3.out (by omega) (.inr ⟨by omega, (coAt L r i).node, hX⟩) (row_put HRW.out HR4.out gd) (fun h => by have h1 := HNW.out _ h; have h2 := HLT.out; have h3 := HGF.out; omega) ?_
          have h15 := fit_len (co_fit HRR.out (i + 1) (by omega))
          rw [hX, go_L] at h15
          exact h15
      · have hl' : ¬ ((2 ^ g : Nat) : Int) ≤ (node : Int) := by omega
        have HL : Hid (node < 2 ^ g) := Lib.hid (by omega)
        clear hl
        generalize ((2 ^ g : Nat) : Int) = p at HPW hl'
        have HX1 : Hid (coAt L r (i + 1) = { coAt L r i with ph := 1, node := 2 * node }) := Lib.hid (by
          obtain ⟨hi, hph, hg, hnode, hm, l1, l2, l3, hm8, hd, hl15⟩ := HI.out
          rw [HNX.out]
          unfold Co.next
          rw [if_neg (by omega), if_pos hph, if_neg HW.out, if_pos (by rw [hnode, hg]; exact HL.out), hnode]
          unfold Co.go
          rw [if_neg (by omega)])
        obtain ⟨dd, HDD⟩ : ∃ dd, Hid (d = dd + 1) := by
          cases d with
          | zero => exfalso; have := HI.out.2.2.2.2.2.2.2.2.2.1; have := HL.out; simp at *; omega
          | succ dd => exact ⟨dd, Lib.hid rfl⟩
        have HD2 : Hid (2 ^ g ≤ (2 * node) * 2 ^ dd) := Lib.hid (by
          have := HI.out.2.2.2.2.2.2.2.2.2.1
          rw [HDD.out, Nat.pow_succ] at this
          have e : (2 * node) * 2 ^ dd = node * (2 ^ dd * 2) := by rw [Nat.mul_comm 2 node, Nat.mul_assoc, Nat.mul_comm 2]
          omega)
        have HD3 : Hid (2 ^ g ≤ (2 * node + 1) * 2 ^ dd) := Lib.hid (Nat.le_trans HD2.out (Nat.mul_le_mul_right _ (by omega)))
        obtain ⟨n2, HN2⟩ : ∃ n2 : Nat, Hid (n2 = 2 * node) := ⟨_, Lib.hid rfl⟩
        have e2 : 2 * (node : Int) = (n2 : Int) := by rw [HN2.out]; omega
        have e2' : IntKind.i64.wrap (n2 : Int) = (n2 : Int) := by rw [IntKind.wrap_i64, HN2.out]; omega
        obtain ⟨n3, HN3⟩ : ∃ n3 : Nat, Hid (n3 = 2 * node + 1) := ⟨_, Lib.hid rfl⟩
        have e3 : (n2 : Int) + 1 = (n3 : Int) := by rw [HN3.out, HN2.out]; omega
        have e3' : IntKind.i64.wrap (n3 : Int) = (n3 : Int) := by rw [IntKind.wrap_i64, HN3.out]; omega
        obtain ⟨CS1, lv1, G1, hE1, hcomp⟩ := HE3.out.comp
        have HCALL : Hid (Calls Tryz.prog 76 #[.pointer (some ⟨eb, 0, none⟩), .agg gc, .int .i64 g, .int .i64 n2] w3 (BelPost A A' L r (i + 1) (2 * node) m w3 lv1 G1 eb)) := Lib.hid (by
          obtain ⟨hi, hph, hg, hnode, hm, l1, l2, l3, hm8, hd, hl15⟩ := HI.out
          rw [HGC.out, HN2.out]
          have hX := HX1.out
          exact HIH.out dd (by have := HDD.out; omega) (i + 1) w3 CS1 lv1 G1 v g (2 * node) m hE1 (by have := HN.out; omega) (by rw [hX]) (by rw [hX]; exact hg) (by rw [hX]) (by rw [hX]; exact hm) (by rw [hX]; exact HRV.out _ HE3.out.turn) HVE.out HD2.out)
        have HCMP := Lib.hid hcomp
        clear hE1 hcomp
        go_upto_region 7 with (go_at_call 46; (with_reducible refine (HPW.out _).mono ?_); rintro e w4 ⟨rfl, rfl⟩)
        go_upto_region 8 with (first
          | (refine wpList_load_row rfl 87 (.tmp 5) rfl W.heap.size rfl 87 gc (0, 0) (.struct fs) HG3.out HFS.out rfl HSZ.out ?_)
          | (go_at_call 76; (with_reducible refine HCALL.out.mono ?_); rintro e w4 ⟨j, v1, lj, rfl, hij, hok, hrow1, hve1, hlj, hE4⟩; obtain ⟨gd, hgd⟩ : ∃ gd, gd = gotO v1 m := ⟨_, rfl⟩; rw [← hgd]; obtain ⟨hE5, hT4⟩ := HCMP.out _ _ hE4; have HG4 := Lib.hid (hT4.keep HG3.out hgE); have HR4 := Lib.hid (hT4.keep HR3.out hrE); have HGD := Lib.hid hgd; have HSD : Hid ((Tryz.prog.info? 87).map (·.size) = some gd.size) := Lib.hid (by rw [hgd]; exact info_got); have HZD : Hid (gd.size = 9) := Lib.hid (by rw [hgd]; rfl); have HOD : Hid (gd.all (·.oneCell') = true) := Lib.hid (by rw [hgd]; exact got_one m (row_one hrow1)); have HE4 := Lib.hid hE5; have HRW := Lib.hid hrow1; have HVE1 := Lib.hid hve1; have HLJ := Lib.hid hlj; have HOK := Lib.hid hok; have HIJ := Lib.hid hij; clear hgd hE4 hE5 hT4 hrow1 hve1 hlj hok hij)
          | (refine wpList_store_row rfl 87 (.tmp 5) (.tmp 52) rfl W.heap.size gd rfl rfl 87 _ HG4.out HSD.out (by rw [HZD.out, HS9.out]) HOD.out ?_))
        have HG5 := Lib.hid (row_set gd HG4.out)
        have HT5 : Hid (Frm.Turn [W.heap.size] w4 (w4.setRow W.heap.size gd)) := Lib.hid (setRow_turn (Frm.Turn.refl _ w4) (.inl (by simp)) gd)
        have HR5 := Lib.hid (HT5.out.keep HR4.out (by simp))
        have HE5 := Lib.hid (HE4.out.poke HT5.out (by simp))
        have HRW5 := Lib.hid (row_put HRW.out HG4.out gd)
        have s5 := HE5.out.stop
        generalize w4.setRow W.heap.size gd = w5 at HG5 HT5 HR5 HE5 HRW5 s5 ⊢
        rw [plc_stop] at s5
        rcases HOK.out with ⟨hjl, hk2, hll, hmm⟩ | ⟨hjl, x, hcj⟩
        · have st : decide (L.length + 2 ≤ j) = true := decide_eq_true (by omega)
          rw [st] at s5
          have HEND := Lib.hid (And.intro hjl (And.intro hk2 (And.intro hll hmm)))
          clear st hjl hk2 hll hmm
          go_wp2_with (first
            | (refine wpList_load_row rfl 87 (.tmp 5) rfl W.heap.size rfl 87 gd (0, 0) (.struct fs) HG5.out HFS.out rfl HSD.out ?_)
            | (refine wpList_store_row rfl 87 (.tmp 8) (.tmp 57) rfl (W.heap.size + 1) gd rfl rfl 87 _ HR5.out HSD.out (by rw [HZD.out]; rfl) HOD.out ?_))
          obtain ⟨hjl, hk2, hll, hmm⟩ := HEND.out
          refine bodyPost_ret (v := .agg gd) (results_cell_row rfl _ _ (W.heap.size + 1) 87 gd (0, 0) (.struct fs) rfl (row_set gd HR5.out) HFS.out rfl HSD.out) rfl ?_
          refine bel_end HGD.out HE5.out (setRow_turn (F := [W.heap.size + 1]) (Frm.Turn.refl _ _) (.inl (by simp)) gd) HB2.out (by have := HIJ.out; omega) (.inl ⟨hjl, hk2, hll, ?_⟩) (row_put HRW5.out HR5.out gd) HVE1.out HLJ.out
          rw [hmm, HX1.out]
        · have st : decide (L.length + 2 ≤ j) = false := decide_eq_false (by omega)
          rw [st] at s5
          have HJL := Lib.hid hjl
          have HXJ := Lib.hid (beh_go1 HX1.out hcj HI.out.2.2.2.2.2.2.1)
          clear st hjl hcj
          obtain ⟨CS2, lv2, G2, hE2, hcomp⟩ := HE5.out.comp
          have HCALL2 : Hid (Calls Tryz.prog 76 #[.pointer (some ⟨eb, 0, none⟩), .agg gd, .int .i64 g, .int .i64 n3] w5 (BelPost A A' L r j (2 * node + 1) m w5 lv2 G2 eb)) := Lib.hid (by
            obtain ⟨hi, hph, hg, hnode, hm, l1, l2, l3, hm8, hd, hl15⟩ := HI.out
            rw [HGD.out, HN3.out]
            have hX := HXJ.out
            exact HIH.out dd (by have := HDD.out; omega) j w5 CS2 lv2 G2 v1 g (2 * node + 1) m hE2 HJL.out (by rw [hX]) (by rw [hX]; exact hg) (by rw [hX]) (by rw [hX]; exact hm) (by rw [hX]; exact HRW5.out) HVE1.out HD3.out)
          have HCMP2 := Lib.hid hcomp
          clear hE2 hcomp
          go_wp2_with (first
            | (refine wpList_load_row rfl 87 (.tmp 5) rfl W.heap.size rfl 87 gd (0, 0) (.struct fs) HG5.out HFS.out rfl HSD.out ?_)
            | (go_at_call 76; (with_reducible refine HCALL2.out.mono ?_); rintro e w6 ⟨j2, v2, l2, rfl, hij2, hok2, hrow2, hve2, hl2, hE6⟩; obtain ⟨ge, hge⟩ : ∃ ge, ge = gotO v2 m := ⟨_, rfl⟩; rw [← hge]; obtain ⟨hE7, hT6⟩ := HCMP2.out _ _ hE6; have HR6 := Lib.hid (hT6.keep HR5.out hrE); have HGF2 := Lib.hid hge; have HSF : Hid ((Tryz.prog.info? 87).map (·.size) = some ge.size) := Lib.hid (by rw [hge]; exact info_got); have HZF : Hid (ge.size = 9) := Lib.hid (by rw [hge]; rfl); have HOF : Hid (ge.all (·.oneCell') = true) := Lib.hid (by rw [hge]; exact got_one m (row_one hrow2)); have HE6 := Lib.hid hE7; have HRW6 := Lib.hid hrow2; have HVE2 := Lib.hid hve2; have HL2 := Lib.hid hl2; have HOK2 := Lib.hid hok2; have HIJ2 := Lib.hid hij2; clear hge hE6 hE7 hT6 hrow2 hve2 hl2 hok2 hij2)
            | (refine wpList_store_row rfl 87 (.tmp 8) (.tmp 64) rfl (W.heap.size + 1) ge rfl rfl 87 _ HR6.out HSF.out (by rw [HZF.out]; rfl) HOF.out ?_))
          refine bodyPost_ret (v := .agg ge) (results_cell_row rfl _ _ (W.heap.size + 1) 87 ge (0, 0) (.struct fs) rfl (row_set ge HR6.out) HFS.out rfl HSF.out) rfl ?_
          obtain ⟨hi, hph, hg, hnode, hm, l1, l2', l3, hm8, hd, hl15⟩ := HI.out
          refine bel_end HGF2.out HE6.out (setRow_turn (F := [W.heap.size + 1]) (Frm.Turn.refl _ _) (.inl (by simp)) ge) HB2.out (by have := HIJ.out; have := HIJ2.out; omega) ?_ (row_put HRW6.out HR6.out ge) HVE2.out HL2.out
          rcases HOK2.out with ⟨hjl, hk2, hll, hmm⟩ | ⟨hjl, x2, hcj⟩
          · exact .inl ⟨hjl, hk2, hll, by rw [hmm, HXJ.out]⟩
          · refine .inr ⟨hjl, x2, ?_⟩
            rw [← beh_odd' l1 l2' HL.out]
            exact beh_go2 hph HXJ.out hcj
end Col
end Go.Proofs.YtfbnidjcimcfoaaGreat
