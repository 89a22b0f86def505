/- What the loops of ClaimPlays go by. -/
import Derived.Test.YtolcpfidmpoipaaGreatPlayCalls
import Derived.Test.YtolcpfidmpoipaaGreatPlayNil
import Derived.Test.YtolcpfidmpoipaaGreatClaimKin
import Derived.Deep.AppendSrc
import Derived.Deep.MidRow
import Derived.Deep.CutBlock
import Derived.Deep.RegionHeld3
import Derived.Deep.QuietTactic
import Derived.BigQuiet
import Derived.Deep.DeepCutAuto
import Derived.Great.BuildSlice
set_option linter.unusedVariables false
set_option linter.unusedSimpArgs false
namespace Go.Proofs.YtolcpfidmpoipaaGreat
namespace Evn
open Go.RowKit Go.Maps Arn Pac Clm

def BytesC (W : World) (v : Value) (z : Nat → Int) (m : Nat) : Prop := (∃ ao c, v = .slice ao m c) ∧ (m = 0 ∨ ∃ ga c, v = .slice (some ga) m c ∧ ∀ i, i < m → W.cell? (ga.add i) = some (.int .u8 (z i)))
theorem under_ones : Tryz.prog.underlying 35 = some (.slice 43) := by kernel_rfl
theorem info_one : (Tryz.prog.info? 43).map (fun i => (i.zero, i.size, i.bytes)) = some (some (.agg #[.pointer none, .pointer none, .int .i64 0]), 3, 24) := by kernel_rfl
variable {w W W' : World} {b mb n k i0 i lb vc : Nat} {v : Value} {rr ee : Nat → Nat} {ct : Nat → Int} {K : List Nat} {CS : Array Value} {Gm : List Nat} {A B : Ar} {c : Nat → Cl} {E : Nat → En} {CE : Nat → Array Value} {lv : Nat → Value} {G : Nat → List Nat}
/-- What both loops go by. -/
def PlayR (w : World) (b mb n : Nat) (v : Value) (k0 : Nat) (W : World) : Prop :=
  ∃ rr ee ct K CS Gm A k c E CE lv G, Play w b mb n v rr ee ct K CS Gm A A k 8 c E CE lv G W ∧ k ≤ k0
theorem PlayR.le {k0 k1 : Nat} (h : PlayR w b mb n v k0 W) (hk : k0 ≤ k1) : PlayR w b mb n v k1 W := by
  obtain ⟨rr, ee, ct, K, CS, Gm, A, k, c, E, CE, lv, G, P, h1⟩ := h
  exact ⟨rr, ee, ct, K, CS, Gm, A, k, c, E, CE, lv, G, P, Nat.le_trans h1 hk⟩
theorem play_start {cap : Nat} {N : Array Value} (hN : N = zc20 cap) (h : Kin w b [] (Ar.new cap) 0 W) : PlayR w b W.heap.size 0 (.slice none 0 0) 0 ((W.alloc (.cells (zc20 0) 34)).setRow W.heap.size N) := by
  have h1 : (W.alloc (.cells (zc20 0) 34)).heap[W.heap.size]? = some (.cells (zc20 0) 34 (0, 0)) := World.alloc_heap_new W _
  have hT : Frm.Turn [] W ((W.alloc (.cells (zc20 0) 34)).setRow W.heap.size N) := setRow_turn ((Frm.Turn.refl [] W).alloc _) (.inr (Nat.le_refl _)) N
  have h2 := row_put N h1
  subst hN
  have h3 := (Array.getElem?_eq_some_iff.1 h2).1
  refine ⟨fun _ => 0, fun _ => 0, fun _ => 0, [W.heap.size], zc20 cap, [], Ar.new cap, 0, fun _ => Cl.new 0, fun _ => E0, fun _ => #[], fun _ => .slice none 0 0, fun _ => [], ⟨by omega, h.add hT (Nat.le_refl _) h3, World.ownsRow_nil _ _ _ _, by simp, by omega, by omega, fun x hx => ?_, by simp [Value.ownBlock], h2, refS_new _ cap, by omega, by omega, by omega, by omega, by omega, by omega, fun x hx => ?_, by simp [Value.ownBlock], by omega, h.turn.size, by omega⟩, Nat.le_refl _⟩
  all_goals
    rcases hx with hx | ⟨i, hi, _⟩
    · simp at hx
    · omega
/-- One more of them. -/
theorem play_join (P : Play w b mb n v rr ee ct K CS Gm A A k 8 c E CE lv G W) {w3 w6 : World} {N : Array Value} (hn : n < 8) (hN : N = z24) (h1 : ClAt w3 W.heap.size b (Cl.new ((n : Int) + 1))) (hT : Frm.Turn [] W w3) (hl : W.heap.size < w3.heap.size) {o : Obj} {v' : Value}
    (hown : w6.ownsRow w.heap.size 43 3 v' (n + 1) (lane rr ee ct n ++ [.pointer (some ⟨W.heap.size, 0, none⟩), .pointer (some ⟨w3.heap.size, 0, none⟩), .int .i64 0])) (hg : ((w3.alloc (.cells N 41)).alloc o).grownBy w6 v.ownBlock)
    (hv : v'.ownBlock = v.ownBlock ∨ v'.ownBlock = some ((w3.alloc (.cells N 41)).alloc o).heap.size) : PlayR w b mb (n + 1) v' k w6 := by
  have hg' := Frm.Turn.of_grown hg
  have hT5 : Frm.Turn [] W ((w3.alloc (.cells N 41)).alloc o) := (hT.alloc _).alloc _
  have hT6 : Frm.Turn v.ownBlock.toList W w6 := (hT5.mono (by simp)).trans hg' (fun x hx => .inl hx)
  have s5 : ((w3.alloc (.cells N 41)).alloc o).heap.size = w3.heap.size + 2 := by simp
  have s6 := hg'.size
  have hvK : ∀ x, v.ownBlock = some x → x < W.heap.size := fun x hx => P.kin.lt (P.kv x hx)
  have hT35 : Frm.Turn [] w3 ((w3.alloc (.cells N 41)).alloc o) := ((Frm.Turn.refl [] w3).alloc _).alloc _
  have hT36 : Frm.Turn v.ownBlock.toList w3 w6 := (hT35.mono (by simp)).trans hg' (fun x hx => .inl hx)
  have hr6 : ClAt w6 W.heap.size b (Cl.new ((n : Int) + 1)) := h1.turn hT36 (fun hx => by have := hvK _ (by simpa using hx); omega)
  have he3 := World.alloc_heap_new w3 (.cells N 41)
  have he5 := ((Frm.Turn.refl [] (w3.alloc (.cells N 41))).alloc o).keep he3 (by simp)
  have he6 := hg'.keep he5 (fun hx => by have := hvK _ (by simpa using hx); have := hT.size; omega)
  have hs := hT.size
  obtain ⟨K', _, h4⟩ := P.fresh (n' := n + 1) (i := n) (r := W.heap.size) (e := w3.heap.size) (v' := v') (m := 0) (by omega) (by omega) (by omega) (fun j h1 h2 => by omega) hT6 (fun x hx => by simpa using hx) ⟨Nat.le_refl _, by omega⟩ ⟨hs, by omega⟩ hr6 (env_new hN he6) rfl
    (by rw [← lane_more]; exact hown) (fun x hx => by
      rcases hv with h | h
      · exact .inl (h ▸ hx)
      · rw [h, s5] at hx
        simp at hx
        subst hx
        have hlt := (World.ownsRow.lt hown _ (by rw [h, s5])).2
        exact .inr ⟨by omega, hlt, by omega, by omega⟩) ⟨by omega, by omega⟩
  exact ⟨_, _, _, _, _, _, _, _, _, _, _, _, _, h4, Nat.le_refl _⟩
theorem Play.cells (P : Play w b mb n (.slice (some ⟨lb, 0, none⟩) n vc) rr ee ct K CS Gm A B k i0 c E CE lv G W) (hi : i < n) :
    W.cell? ⟨lb, i * 3, none⟩ = some (.pointer (some ⟨rr i, 0, none⟩)) ∧ W.cell? ⟨lb, i * 3 + 1, none⟩ = some (.pointer (some ⟨ee i, 0, none⟩)) ∧ W.cell? ⟨lb, i * 3 + 2, none⟩ = some (.int .i64 (ct i)) := by
  obtain ⟨h1, h2, h3⟩ := lane_get (rr := rr) (ee := ee) (ct := ct) hi
  exact ⟨(P.row.cellAt _ (by omega)).trans h1, (P.row.cellAt _ (by omega)).trans h2, (P.row.cellAt _ (by omega)).trans h3⟩
theorem wrap_tok {i : Int} (h0 : 0 ≤ i) (h : i ≤ 7) : IntKind.u64.wrap (IntKind.i64.wrap (i + 1)) = i + 1 := by
  have e1 : IntKind.i64.wrap (i + 1) = i + 1 := by simp only [IntKind.wrap_i64]; omega
  rw [e1]
  simp only [IntKind.wrap_u64]
  omega
theorem wrap_cnt {i : Int} (h0 : 0 ≤ i) (h : i ≤ 100000) : IntKind.i64.wrap (i + 1) = i + 1 := by simp only [IntKind.wrap_i64]; omega
/-- A struct is built, in a region that draws its order. -/
theorem exec_build {P : Program} {ev : Operand → Value} {o : Oper} {w : World} (t : TypeId) (parts : Array (Nat × Operand)) (ho : o.op = .build t parts) (cells : Array Value) (hf : P.built t (parts.map fun (i, x) => (i, ev x)).toList = some cells) : (execOp ev o).run P w = .ok (.value (.agg cells)) w := by
  unfold execOp
  simp only [ho, Sem.run_bind, run_build w t _ cells hf, Result.andThen_ok, Sem.run_pure]
/-- One of them begins anew. -/
theorem play_anew (P : Play w b mb n (.slice (some ⟨lb, 0, none⟩) n vc) rr ee ct K CS Gm A A k 8 c E CE lv G W) (hi : i < n) {W1 : World} {N : Array Value} (hN : N = z24) {r e : Nat} (hT : Frm.Turn [] W W1) (hr : W.heap.size ≤ r ∧ r < W1.heap.size) (he : W.heap.size ≤ e ∧ e < W1.heap.size)
    (hc : ClAt W1 r b (Cl.new ((i : Int) + 1))) (hE : W1.heap[e]? = some (.cells N 41 (0, 0))) :
    PlayR w b mb n (.slice (some ⟨lb, 0, none⟩) n vc) (k + 1) (((W1.setCell ⟨lb, i * 3, none⟩ (.pointer (some ⟨r, 0, none⟩))).setCell ⟨lb, i * 3 + 1, none⟩ (.pointer (some ⟨e, 0, none⟩))).setCell ⟨lb, i * 3 + 2, none⟩ (.int .i64 (ct i + 1))) := by
  have hlb : lb < W.heap.size := P.kin.lt (P.kv lb (by simp [Value.ownBlock]))
  have h1 := Frm.owns_turn P.row hT (by simp)
  have s1 := World.ownsRow.stored h1 (i * 3) (.pointer (some ⟨r, 0, none⟩))
  have s2 := World.ownsRow.stored s1.1 (i * 3 + 1) (.pointer (some ⟨e, 0, none⟩))
  have s3 := World.ownsRow.stored s2.1 (i * 3 + 2) (.int .i64 (ct i + 1))
  have h3 := s3.1
  rw [lane_set hi] at h3
  have hT3 : Frm.Turn [lb] W1 (((W1.setCell ⟨lb, i * 3, none⟩ (.pointer (some ⟨r, 0, none⟩))).setCell ⟨lb, i * 3 + 1, none⟩ (.pointer (some ⟨e, 0, none⟩))).setCell ⟨lb, i * 3 + 2, none⟩ (.int .i64 (ct i + 1))) :=
    (((Frm.Turn.refl _ _).setCell (Or.inl (by simp)) _).setCell (Or.inl (by simp)) _).setCell (Or.inl (by simp)) _
  have hz := hT3.size
  obtain ⟨c1, c2⟩ := P.cn i hi
  obtain ⟨K', _, h4⟩ := (P.more (k' := k + 1) (by omega)).fresh (n' := n) (i := i) (r := r) (e := e) (v' := .slice (some ⟨lb, 0, none⟩) n vc) (m := ct i + 1) (F := [lb]) hi P.few (Nat.le_refl _) (fun j h _ => h) ((hT.mono (by simp)).trans hT3 (fun x hx => .inl hx)) (fun x hx => by simp at hx; subst hx; rfl)
    ⟨hr.1, by omega⟩ ⟨he.1, by omega⟩ (hc.turn hT3 (by simp; omega)) (env_new hN (hT3.keep hE (by simp; omega))) rfl h3 (fun x hx => .inl hx) ⟨by omega, by push_cast; omega⟩
  exact ⟨_, _, _, _, _, _, _, _, _, _, _, _, _, h4, Nat.le_refl _⟩
/-- Behind a claim's step, and the document's. -/
theorem Play.round {E' : Nat → En} {K4 : List Nat} {CE4 : Nat → Array Value} {lv4 : Nat → Value} {G4 : Nat → List Nat} {W4 : World} {j : Nat} {sg s ld er : Int} {own : Bool} {CS4 : Array Value} {Gm4 : List Nat}
    (P : Play w b mb n v rr ee ct K CS Gm A A k 8 c E CE lv G W) (hi : i < n) (h0 : (c i).st ≠ 0)
    (P4 : Play w b mb n v rr ee ct K4 CS4 Gm4 ((c i).step A).1 B (k + 1) i (upd c i ((c i).step A).2) (upd E' i (plcE A ((c i).step A).1 (E i).log ((c i).acc A).2 j)) CE4 lv4 G4 W4) (hok : RunOk ((i : Int) + 1) (E i).log ((c i).acc A).2 j sg s own ld er) (hk : k ≤ 100000) :
    (plcE A ((c i).step A).1 (E i).log ((c i).acc A).2 j).A = ((c i).step A).1 ∧ GotOk ((c i).step A).2 sg s own ld er (plcE A ((c i).step A).1 (E i).log ((c i).acc A).2 j).stop ∧ (((c i).step A).2).Way ((i : Int) + 1) ∧
    Play w b mb n v rr ee ct K4 CS4 Gm4 ((c i).step A).1 B (k + 1) 8 (upd c i ((c i).step A).2) (upd E' i (plcE A ((c i).step A).1 (E i).log ((c i).acc A).2 j)) CE4 lv4 G4 W4 := by
  have hn := P.few
  have ht := P.tie i hi (by omega)
  obtain ⟨h1, h2, h3⟩ := run_ok (A := A) (A' := ((c i).step A).1) ht (by omega) h0 hok
  have hs := ht.step (A := A) P.kin.ok (by have := P.kin.born; omega)
  have e2 : ((c i).step A).2 = (c i).next ((c i).acc A).2 := by rw [step_next]
  rw [← e2] at h3
  refine ⟨h1, h3, hs.way (by omega), P4.tied hi ?_⟩
  rw [upd_at, upd_at, h2]
  exact hs
/-- A round in which one of them has been let go. -/
def Anew (w : World) (b mb n : Nat) (v : Value) (rr ee : Nat → Nat) (ct : Nat → Int) (k xb : Nat) (ox : Obj) (c : Nat → Cl) (E : Nat → En) (CE : Nat → Array Value) (lv : Nat → Value) (G : Nat → List Nat) (W : World) : Prop :=
  ∃ K CS Gm A k', k' ≤ k + 1 ∧ Play w b mb n v rr ee ct K CS Gm A A k' 8 c E CE lv G W ∧ W.heap[xb]? = some ox ∧ xb ∈ K

end Evn
end Go.Proofs.YtolcpfidmpoipaaGreat
