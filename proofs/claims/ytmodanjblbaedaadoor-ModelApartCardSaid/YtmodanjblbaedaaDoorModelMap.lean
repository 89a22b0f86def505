/- What is done to a model's map. -/
import Derived.Test.YtmodanjblbaedaaDoorModelQ2
set_option linter.unusedVariables false
set_option linter.unusedSimpArgs false
namespace Go.Proofs.YtmodanjblbaedaaDoor
namespace Mdl
open Go.RowKit Go.Maps

/-- A region that reads, and then does one thing: its reads in the text's order. -/
theorem wp_tail {P : Program} {id : Nat} {Q : Exit → Act → World → Prop} {a : Act} {w : World} {l : List Oper} (n : Nat) (hm : P.follows .mixedOrders = true) (hB : Region.lexTailB .any l.toArray n = true)
    (h : wpStill P l.toArray w.drew (fun a' => wpList P l.toArray Q (l.drop n) a' w.drew) (l.take n) a) : (Code.region id l.toArray true).wp P Q a w := wp_region_still_tail n hm hB h

theorem MIn.c1 {w : World} {b : Nat} {m : Mo} {qv : Value} {pd ps : Option Nat} (h : MIn w b m qv pd ps) : w.cell? ⟨b, 1, none⟩ = some (.map pd) := (Frm.cell_row w b 1 _ _ _ h.body).trans rfl
theorem MIn.c2 {w : World} {b : Nat} {m : Mo} {qv : Value} {pd ps : Option Nat} (h : MIn w b m qv pd ps) : w.cell? ⟨b, 2, none⟩ = some (.map ps) := (Frm.cell_row w b 2 _ _ _ h.body).trans rfl
def opC (c k a b : Int) : Obj := .cells #[.int .i64 c, .int .i64 k, .int .i64 a, .int .i64 b] 35
/-- The result's block behind the operation's. -/
theorem res_new2 (w : World) (o : Obj) : ((w.alloc o).alloc res0).drew.heap[w.heap.size + 1]? = some (.cells #[.int .i64 0, .int .i64 0] 40 (0, 0)) := by
  have := res_new (w.alloc o)
  rw [World.size_alloc] at this
  exact this
theorem res_new2p (w : World) (o : Obj) : ((w.alloc o).alloc res0).heap[w.heap.size + 1]? = some (.cells #[.int .i64 0, .int .i64 0] 40 (0, 0)) := res_new2 w o
theorem MIn.parts {w : World} {b : Nat} {m : Mo} {qv : Value} {pd ps : Option Nat} (h : MIn w b m qv pd ps) : (b ∉ pd.toList ∧ b ∉ ps.toList) ∧ ∀ k, pd = some k → k ∉ ps.toList := by
  have hap := h.apart
  simp only [foot, List.nodup_cons, List.mem_append, not_or, List.nodup_append] at hap
  exact ⟨hap.1.2, fun k hk hm => hap.2.2.1.2.2 k (by simp [hk]) k hm rfl⟩
theorem MIn.bd {w : World} {b : Nat} {m : Mo} {qv : Value} {pd ps : Option Nat} (h : MIn w b m qv pd ps) : b ∉ pd.toList := h.parts.1.1
theorem MIn.bs {w : World} {b : Nat} {m : Mo} {qv : Value} {pd ps : Option Nat} (h : MIn w b m qv pd ps) : b ∉ ps.toList := h.parts.1.2
theorem MIn.ds {w : World} {b : Nat} {m : Mo} {qv : Value} {pd ps : Option Nat} (h : MIn w b m qv pd ps) : ∀ k, ps = some k → k ∉ pd.toList := fun k hk hm => h.parts.2 k (by simpa using hm) (by simp [hk])
theorem MIn.sd {w : World} {b : Nat} {m : Mo} {qv : Value} {pd ps : Option Nat} (h : MIn w b m qv pd ps) : ∀ k, pd = some k → k ∉ ps.toList := h.parts.2
theorem MIn.bds {w : World} {b : Nat} {m : Mo} {qv : Value} {pd ps : Option Nat} (h : MIn w b m qv pd ps) : ∀ k, ps = some k → k ∉ b :: pd.toList := fun k hk hm => by
  rcases List.mem_cons.1 hm with rfl | hm
  · exact h.bs (by simp [hk])
  · exact h.ds k hk hm
theorem MIn.bsd {w : World} {b : Nat} {m : Mo} {qv : Value} {pd ps : Option Nat} (h : MIn w b m qv pd ps) : ∀ k, pd = some k → k ∉ b :: ps.toList := fun k hk hm => by
  rcases List.mem_cons.1 hm with rfl | hm
  · exact h.bd (by simp [hk])
  · exact h.sd k hk hm
def NewOr (n : Nat) (p p' : Option Nat) : Prop := p' = p ∨ ∃ g, p' = some g ∧ n ≤ g
/-- Behind a call upon a table, and its response told. -/
theorem fin_t {w w1 : World} {b : Nat} {m : Mo} {qv : Value} {pd ps : Option Nat} (h : MIn w b m qv pd ps) {pd' ps' : Option Nat} {d' s' : Tb} (hd : TAt w1 pd' d') (hs : TAt w1 ps' s') (hT : Frm.Turn (b :: (pd.toList ++ ps.toList)) w w1)
    (hb : w1.heap[b]? = some (.cells #[qv, .map pd', .map ps'] 59 (0, 0))) (nd : NewOr (w.heap.size + 2) pd pd') (ns : NewOr (w.heap.size + 2) ps ps') (one : pd' = pd ∨ ps' = ps) (hok : MOk { m with d := d', s := s' }) (x y : Value) {z : Mo × Rs} {r : Rs} (hz : z = ({ m with d := d', s := s' }, r)) :
    MEnd w b (foot b qv pd ps) z (.returned (rv r)) ((w1.setCell ⟨w.heap.size + 1, 0, none⟩ x).setCell ⟨w.heap.size + 1, 1, none⟩ y) := by
  subst hz
  have hbl := h.blt
  have hlt := h.lt
  have hap := h.apart
  simp only [foot, List.nodup_cons, List.mem_append, not_or, List.nodup_append, Option.mem_toList] at hap
  have TR : Frm.Turn [w.heap.size + 1] w1 ((w1.setCell ⟨w.heap.size + 1, 0, none⟩ x).setCell ⟨w.heap.size + 1, 1, none⟩ y) := ((Frm.Turn.refl _ _).setCell (Or.inl (by simp)) _).setCell (Or.inl (by simp)) _
  have hTT : Frm.Turn (b :: (pd.toList ++ ps.toList)) w ((w1.setCell ⟨w.heap.size + 1, 0, none⟩ x).setCell ⟨w.heap.size + 1, 1, none⟩ y) := (hT.setCell (Or.inr (by simp)) _).setCell (Or.inr (by simp)) _
  have hdl : ∀ k, pd = some k → k < w.heap.size := fun k hk => h.d.lt k hk
  have hsl : ∀ k, ps = some k → k < w.heap.size := fun k hk => h.s.lt k hk
  have hql : ∀ k, qv.ownBlock = some k → k < w.heap.size := fun k hk => h.q.lt k hk
  have fd : ∀ k, pd' = some k → k ∉ [w.heap.size + 1] := fun k hk => by
    rcases nd with e | ⟨g, e, hg⟩
    · rw [e] at hk; have := hdl k hk; simp; omega
    · rw [e] at hk; cases hk; simp; omega
  have fs : ∀ k, ps' = some k → k ∉ [w.heap.size + 1] := fun k hk => by
    rcases ns with e | ⟨g, e, hg⟩
    · rw [e] at hk; have := hsl k hk; simp; omega
    · rw [e] at hk; cases hk; simp; omega
  refine ⟨rfl, _, ⟨qv, pd', ps', rfl, hok, TR.keep hb (by simp; omega), (h.q.turn hTT (fun k hk hm => ?_)), hd.turn TR fd, hs.turn TR fs, ?_⟩, hTT.mono (fun k hk => ?_), fun k hk => ?_⟩
  · simp only [List.mem_cons, List.mem_append, Option.mem_toList] at hm
    rcases hm with rfl | hm | hm
    · exact hap.1.1 hk
    · exact hap.2.2.2 k hk k (Or.inl hm) rfl
    · exact hap.2.2.2 k hk k (Or.inr hm) rfl
  · simp only [foot, List.nodup_cons, List.mem_append, not_or, List.nodup_append, Option.mem_toList]
    refine ⟨⟨hap.1.1, ?_, ?_⟩, by cases qv.ownBlock <;> simp, ⟨by cases pd' <;> simp, by cases ps' <;> simp, ?_⟩, ?_⟩
    · rcases nd with e | ⟨g, e, hg⟩
      · rw [e]; exact hap.1.2.1
      · rw [e]; intro e; cases e; omega
    · rcases ns with e | ⟨g, e, hg⟩
      · rw [e]; exact hap.1.2.2
      · rw [e]; intro e; cases e; omega
    · intro i hi j hj e
      subst e
      rcases nd with e1 | ⟨g, e1, hg⟩
      · rcases ns with e2 | ⟨g2, e2, hg2⟩
        · rw [e1] at hi; rw [e2] at hj; exact hap.2.2.1.2.2 i hi i hj rfl
        · rw [e1] at hi; rw [e2] at hj; cases hj; have := hdl _ hi; omega
      · rcases one with e3 | e3
        · rw [e3] at hi; rw [e3] at e1; cases e1; cases hi; have := hdl _ rfl; omega
        · rw [e1] at hi; cases hi; rw [e3] at hj; have := hsl _ hj; omega
    · intro i hi j hj e
      subst e
      rcases hj with hj | hj
      · rcases nd with e1 | ⟨g, e1, hg⟩
        · rw [e1] at hj; exact hap.2.2.2 i hi i (Or.inl hj) rfl
        · rw [e1] at hj; cases hj; have := hql _ hi; omega
      · rcases ns with e1 | ⟨g, e1, hg⟩
        · rw [e1] at hj; exact hap.2.2.2 i hi i (Or.inr hj) rfl
        · rw [e1] at hj; cases hj; have := hql _ hi; omega
  · simp only [List.mem_cons, List.mem_append, Option.mem_toList] at hk
    simp only [foot, List.mem_cons, List.mem_append, Option.mem_toList]
    rcases hk with rfl | hk | hk
    · exact Or.inl rfl
    · exact Or.inr (Or.inr (Or.inl hk))
    · exact Or.inr (Or.inr (Or.inr hk))
  · simp only [foot, List.mem_cons, List.mem_append, Option.mem_toList] at hk ⊢
    rcases hk with rfl | hk | hk | hk
    · exact Or.inl (Or.inl rfl)
    · exact Or.inl (Or.inr (Or.inl hk))
    · rcases nd with e1 | ⟨g, e1, hg⟩
      · rw [e1] at hk; exact Or.inl (Or.inr (Or.inr (Or.inl hk)))
      · rw [e1] at hk; cases hk; exact Or.inr (by omega)
    · rcases ns with e1 | ⟨g, e1, hg⟩
      · rw [e1] at hk; exact Or.inl (Or.inr (Or.inr (Or.inr hk)))
      · rw [e1] at hk; cases hk; exact Or.inr (by omega)

abbrev MapEnd (w : World) (b : Nat) (F : List Nat) (m : Mo) (c k a b2 : Int) : Ending → World → Prop := MEnd w b F ({ m with d := (mapT m.d c k a b2).1 }, (mapT m.d c k a b2).2)
abbrev SemEnd (w : World) (b : Nat) (F : List Nat) (m : Mo) (c k a : Int) : Ending → World → Prop := MEnd w b F ({ m with s := (semT m.s c k a).1 }, (semT m.s c k a).2)
theorem wpList_len (w : World) {ops : Array Oper} {rest : List Oper} {o : Oper} {a : Act} {Q : Exit → Act → World → Prop} (hg : o.guard = none) (m : Operand) (hop : o.op = Op.call { callee := Callee.builtin Builtin.len, args := #[m], argTypes := #[57] }) {p : Option Nat} {f : Tb} (h : TAt w p f) (hm : a.eval m = .map p)
    (hK : wpList Tryd.prog ops Q rest (a.put o.dst (.int .i64 (cnt f : Int))) w) : wpList Tryd.prog ops Q (o :: rest) a w := by
  refine wpList_plain hg fun K' hK' => ?_
  unfold Oper.wp
  simp [execOp, hop, resolve, invoke, builtin, hm, h.len, Result.andThen]
  exact hK' _ _ hK
end Mdl
end Go.Proofs.YtmodanjblbaedaaDoor
