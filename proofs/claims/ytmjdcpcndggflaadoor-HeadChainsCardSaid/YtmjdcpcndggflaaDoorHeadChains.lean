/- HeadChains: entries that are laid one behind the other are listed in their order. -/
import Derived.Test.YtmjdcpcndggflaaDoorHeadChain
import Derived.Test.YtmjdcpcndggflaaDoorHeadRefs
import Derived.Test.YtmjdcpcndggflaaDoorHeadSame
import Derived.Test.YtmjdcpcndggflaaDoorHeadFirst
import Derived.Test.YtmjdcpcndggflaaDoorLeastAppend
set_option linter.unusedVariables false
set_option linter.unusedSimpArgs false
namespace Go.Proofs.YtmjdcpcndggflaaDoor
namespace Hed
open Go.RowKit Go.Maps Arn

/-- A list of entries in memory. -/
def EntsAt (w : World) (a0 : Option Addr) (E : List Ent) : Prop :=
  0 < E.length → ∃ g o, a0 = some ⟨g, o, none⟩ ∧ ∀ j s n x, E[j]? = some (s, n, x) → w.cell? ⟨g, o + j * 3, none⟩ = some (.int .i64 s) ∧ w.cell? ⟨g, o + j * 3 + 1, none⟩ = some (.int .u64 n) ∧ w.cell? ⟨g, o + j * 3 + 2, none⟩ = some (.int .u64 x)
theorem EntsAt.step {w w' : World} {a0 : Option Addr} {E : List Ent} (h : EntsAt w a0 E) (hT : Frm.Turn [] w w') : EntsAt w' a0 E := fun hp => by
  obtain ⟨g, o, e, h1⟩ := h hp
  exact ⟨g, o, e, fun j s n x hj => by
    obtain ⟨p, q, r⟩ := h1 j s n x hj
    exact ⟨hT.cell p (by simp), hT.cell q (by simp), hT.cell r (by simp)⟩⟩
theorem sin_from {w W wc : World} {b n : Nat} {M : Mem} {A : Ar} (h : Sin W b M A n wc) (hT : Frm.Turn [] w W) : Sin w b M A n wc :=
  ⟨h.at_, fun k hk => Nat.le_trans hT.size (h.new k hk), hT.trans h.turn (by simp), h.low, h.born⟩
/-- The laws' loop over the entries, the last one first. -/
structure ChS (w : World) (b : Nat) (E : List Ent) (i m : Nat) (A : Ar) (M : Mem) (next : Int) (pre : List (Int × Ent)) (hv : Value) (W : World) : Prop where
  sin : Sin w b M A m W
  chd : Chd A m next pre
  row : W.ownsRow w.heap.size 22 1 hv m (u64s (hands pre))
  far : ∀ k, hv.ownBlock = some k → k ∉ M.foot b
  sum : i + m = E.length
  fits : ∀ j e, E[i + j]? = some e → ∃ h y, pre[j]? = some (h, (e.1, e.2.1, y))
theorem ChS.start {w W : World} {b : Nat} {M : Mem} {E : List Ent} (h : Sin w b M (Ar.new 60000) 0 W) : ChS w b E E.length 0 (Ar.new 60000) M 0 [] (.slice none 0 0) W :=
  ⟨h, Chd.zero, World.ownsRow_nil _ _ _ _, by simp [Value.ownBlock], by omega, fun j e he => by rw [List.getElem?_eq_none (by omega)] at he; cases he⟩
theorem own_one (W : World) (base : Nat) (x : Value) (t : TypeId) (hb : base ≤ W.heap.size) : (W.alloc (.cells #[x] t)).ownsRow base t 1 (.slice (some ⟨W.heap.size, 0, none⟩) 1 1) 1 [x] :=
  ⟨rfl, .inr ⟨W.heap.size, 1, #[x], rfl, hb, heap_new W _, Nat.le_refl _, by unfold maxLen; omega, rfl, rfl⟩⟩
theorem ChS.row5 {w W0 w4 w5 : World} {b i m : Nat} {E : List Ent} {A A' : Ar} {M : Mem} {next : Int} {pre : List (Int × Ent)} {hv : Value} {o : Obj} (S : ChS w b E (i + 1) m A M next pre hv W0) (h4 : Frm.Turn [] W0 w4) (h5 : After w b M A' (m + 1) w4 w5) :
    (w5.alloc o).ownsRow w.heap.size 22 1 hv m (u64s (hands pre)) := by
  obtain ⟨M', hs, hT, _⟩ := h5
  exact Frm.owns_turn (Frm.owns_turn (Frm.owns_turn S.row h4 (by simp)) hT S.far) ((Frm.Turn.refl [] w5).alloc o) (by simp)
theorem ChS.more {w W0 w4 w5 w6 : World} {b i m : Nat} {E : List Ent} {A : Ar} {M : Mem} {next s n x : Int} {pre : List (Int × Ent)} {hv v' : Value} {o : Obj} (S : ChS w b E (i + 1) m A M next pre hv W0) (hl : E.length ≤ 200) (he : E[i]? = some (s, n, x)) (hn : W64 n) (hb : entB s n next = true)
    (h4 : Frm.Turn [] W0 w4) (h5 : After w b M (A.lay [s, n, next]).1 (m + 1) w4 w5)
    (ho : w6.ownsRow w.heap.size 22 1 v' (1 + m) ([.int .u64 (layH A)] ++ u64s (hands pre))) (hg : (w5.alloc o).grownBy w6 (some w5.heap.size)) (hd : v'.ownBlock = some w5.heap.size ∨ v'.ownBlock = some (w5.alloc o).heap.size) :
    ∃ M', ChS w b E i (m + 1) (A.lay [s, n, next]).1 M' (layH A) ((layH A, (s, n, next)) :: pre) v' w6 := by
  obtain ⟨M', hs, hT, hf⟩ := h5
  have hsum := S.sum
  have hA := (S.chd.lay (by omega) hn hb).2
  have h6 : Frm.Turn [w5.heap.size] w5 w6 := (((Frm.Turn.refl [] w5).alloc o).mono (by simp)).trans (Frm.Turn.of_grown hg) (fun k hk => by simp at hk; exact .inl (by simp [hk]))
  have hlt := fun k hk => hs.lt (k := k) hk
  have hwt := hs.turn.size
  refine ⟨M', hs.apart h6 (fun k hk hk' => ?_) (fun k hk => ?_), hA, ?_, fun k hk hk' => ?_, by omega, fun j e he' => ?_⟩
  · simp at hk'; have := hlt k hk; omega
  · simp at hk; omega
  · have e1 : m + 1 = 1 + m := by omega
    rw [e1]
    exact ho
  · have := hlt k hk'
    rcases hd with hd | hd
    · rw [hd] at hk; cases hk; omega
    · rw [hd, World.size_alloc] at hk; cases hk; omega
  · cases j with
    | zero =>
      have he2 : E[i]? = some e := he'
      rw [he] at he2
      cases he2
      exact ⟨_, _, rfl⟩
    | succ j =>
      obtain ⟨h, y, h1⟩ := S.fits j e (by rw [show i + 1 + j = i + (j + 1) by omega]; exact he')
      exact ⟨h, y, by simpa using h1⟩
theorem words_of_row {W : World} {base n : Nat} {v : Value} {l : List Int} (h : W.ownsRow base 22 1 v n (u64s l)) : WordsAt W v l := by
  have hl : l.length = n := by have := h.1; simpa [u64s] using this
  have h0 := h
  rcases h.2 with ⟨rfl, e⟩ | ⟨g, c, cur, rfl, _⟩
  · exact .inl ⟨rfl, List.length_eq_zero_iff.1 (by omega)⟩
  · exact .inr ⟨⟨g, 0, none⟩, c, by rw [hl], fun j u hu => World.ownsRow.cells h0 rfl j u hu⟩
/-- What List and Handles tell of a chain. -/
theorem chain_list {w W : World} {b n : Nat} {M : Mem} {A : Ar} {m : Nat} {next : Int} {pre : List (Int × Ent)} (h : Sin w b M A n W) (hk : Ops.Kn W) (hc : Chd A m next pre) (hm : m ≤ 1000) :
    Calls Tryd.prog 20 #[.pointer (some ⟨b, 0, none⟩), .int .u64 next] W fun e w' => ∃ v, e = .returned (.tuple #[v, .bool true]) ∧ w'.ownsRow W.heap.size 26 3 v m (entCells pre) ∧ Frm.Turn [] W w' := by
  refine (List_of _ next W _ (follow_any h.at_ hk next hc.n64)).mono ?_
  rw [chain_of hc.ch (by rw [hc.len]; exact hm)]
  rintro e w' (⟨h1, _⟩ | ⟨p, v, h1, rfl, h2, h3⟩)
  · cases h1
  · cases h1
    rw [hc.len] at h2
    exact ⟨v, rfl, h2, h3⟩
theorem chain_hands {w W : World} {b n : Nat} {M : Mem} {A : Ar} {m : Nat} {next : Int} {pre : List (Int × Ent)} (h : Sin w b M A n W) (hk : Ops.Kn W) (hc : Chd A m next pre) (hm : m ≤ 1000) :
    Calls Tryd.prog 21 #[.pointer (some ⟨b, 0, none⟩), .int .u64 next] W fun e w' => ∃ v, e = .returned (.tuple #[v, .bool true]) ∧ w'.ownsRow W.heap.size 22 1 v m (u64s (hands pre)) ∧ Frm.Turn [] W w' := by
  refine (Handles_of _ next W _ (follow_any h.at_ hk next hc.n64)).mono ?_
  rw [chain_of hc.ch (by rw [hc.len]; exact hm)]
  rintro e w' (⟨h1, _⟩ | ⟨p, v, h1, rfl, h2, h3⟩)
  · cases h1
  · cases h1
    rw [hc.len] at h2
    exact ⟨v, rfl, h2, h3⟩
theorem entCells_at {l : List (Int × Ent)} {j : Nat} {h s n y : Int} (hj : l[j]? = some (h, (s, n, y))) : (entCells l)[j * 3]? = some (.int .i64 s) ∧ (entCells l)[j * 3 + 1]? = some (.int .u64 n) := by
  induction l generalizing j with
  | nil => simp at hj
  | cons x t ih =>
    cases j with
    | zero => simp at hj; subst hj; exact ⟨rfl, rfl⟩
    | succ j =>
      have h1 := ih (j := j) (by simpa using hj)
      have e : entCells (x :: t) = [.int .i64 x.2.1, .int .u64 x.2.2.1, .int .u64 x.2.2.2] ++ entCells t := rfl
      rw [e, show (j + 1) * 3 = 3 + j * 3 by omega, show 3 + j * 3 + 1 = 3 + (j * 3 + 1) by omega, List.getElem?_append_right (by simp), List.getElem?_append_right (by simp)]
      simpa using h1
end Hed
end Go.Proofs.YtmjdcpcndggflaaDoor
