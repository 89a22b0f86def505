/- The library's calls at a model's parts: slices.Clone, slices.Equal at its queue; maps.Clone, maps.Equal at its tables. -/
import Derived.Test.YtmodanjblbaedaaDoorModelQueue
import Derived.Test.YtmodanjblbaedaaDoorModelShelf
import Derived.Shelf.SlMaps.Clone
import Derived.Shelf.SlMaps.Equal
set_option linter.unusedVariables false
set_option linter.unusedSimpArgs false
namespace Go.Proofs.YtmodanjblbaedaaDoor
namespace Mdl
open Go.RowKit Go.Maps Go.Shelf Go.Lib

theorem QAt.zs {w : World} {g off n cap : Nat} {xs : List Int} (h : QAt w (.slice (some ⟨g, off, none⟩) n cap) xs) : xs.length = n ∧ ∀ j, j < xs.length → w.cell? ⟨g, off + j, none⟩ = some (.int .i64 (xs.getD j 0)) := by
  obtain ⟨h1, _, _, h2, _⟩ := h.cell
  refine ⟨h1, fun j hj => h2 j _ ?_⟩
  simp [List.getD, hj]
theorem qat_owned {w : World} {base n : Nat} {v : Value} {xs : List Int} (h : w.ownsRow base 3 1 v n (xs.map (Value.int .i64))) : QAt w v xs ∧ ∀ k, v.ownBlock = some k → base ≤ k :=
  ⟨qat_own h, fun k hk => (h.lt k hk).1⟩
theorem sclone_any {w : World} {v : Value} {xs : List Int} (h : QAt w v xs) (hl : xs.length ≤ 300) :
    Calls Tryd.prog 22 #[v] w fun e w' => ∃ v', e = .returned v' ∧ QAt w' v' xs ∧ (∀ k, v'.ownBlock = some k → w.heap.size ≤ k) ∧ Frm.Turn [] w w' := by
  rcases h with ⟨rfl, rfl⟩ | h
  · refine (slices_Clone_int_nil 0 0 w).mono ?_
    rintro e w' ⟨rfl, rfl⟩
    exact ⟨_, rfl, qat_nil _, by simp [Value.ownBlock], Frm.Turn.refl _ _⟩
  · obtain ⟨g, off, cap, cur, rfl, r⟩ := h
    have hq : QAt w (.slice (some ⟨g, off, none⟩) xs.length cap) xs := .inr ⟨g, off, cap, cur, rfl, r⟩
    refine (slices_Clone_int g off xs.length cap xs w (Nat.le_refl _) (by omega) hq.zs.2).mono ?_
    rintro e w' ⟨v', rfl, ho, _, hb⟩
    rw [List.take_length] at ho
    obtain ⟨q1, q2⟩ := qat_owned ho
    exact ⟨v', rfl, q1, q2, Frm.Turn.of_below hb⟩
theorem sequal_any {w : World} {v u : Value} {xs ys : List Int} (h : QAt w v xs) (g : QAt w u ys) (hl : xs.length ≤ 300) (hl2 : ys.length ≤ 300) :
    Calls Tryd.prog 36 #[v, u] w fun e w' => e = .returned (.bool (xs == ys)) ∧ Frm.Turn [] w w' := by
  obtain ⟨a1, c1, rfl⟩ := h.form
  obtain ⟨a2, c2, rfl⟩ := g.form
  by_cases hn : xs.length = ys.length
  · by_cases h0 : xs.length = 0
    · have hx : xs = [] := List.eq_nil_of_length_eq_zero h0
      have hy : ys = [] := List.eq_nil_of_length_eq_zero (by omega)
      subst hx; subst hy
      refine (slices_Equal_int_empty a1 a2 c1 0 c2 w (by omega)).mono ?_
      rintro e w' ⟨rfl, rfl⟩
      exact ⟨rfl, Frm.Turn.refl _ _⟩
    · have q1 := h; have q2 := g
      rcases h with ⟨e, _⟩ | ⟨b1, o1, cap1, cur1, e, r1⟩
      · injection e with e1 e2 e3; omega
      · rcases g with ⟨e', _⟩ | ⟨b2, o2, cap2, cur2, e', r2⟩
        · injection e' with e1 e2 e3; omega
        · cases e; cases e'
          refine (slices_Equal_int b1 o1 xs.length c1 b2 o2 ys.length c2 xs ys w (Nat.le_refl _) (Nat.le_refl _) (by omega) (by omega) q1.zs.2 q2.zs.2).mono ?_
          rintro e w' ⟨rfl, q, rfl⟩
          rw [List.take_length, List.take_length]
          exact ⟨rfl, (Frm.Turn.refl _ _).drewN q⟩
  · refine (slices_Equal_int_lens a1 a2 _ c1 _ c2 w hn).mono ?_
    rintro e w' ⟨rfl, rfl⟩
    have : (xs == ys) = false := by
      rw [beq_eq_false_iff_ne]
      intro e; rw [e] at hn; exact hn rfl
    rw [this]
    exact ⟨rfl, Frm.Turn.refl _ _⟩

theorem mclone_nil (w : World) : Calls Tryd.prog 23 #[.map none] w fun e w' => e = .returned (.map none) ∧ w = w' := by
  have hq := fun w => run_eql_map_nil_sl (P := Tryd.prog) w 57 _ _ none mapT'
  go_enter Tryd.func23, Tryd.ntmps23
  go_wp2
  go_ret
  exact ⟨rfl, rfl⟩
set_option maxRecDepth 100000 in
theorem mclone_some (m n : Nat) (D : DataW Unit) (w : World) (h : w.ownsMap Tryd.prog 3 elI m n D) :
    Calls Tryd.prog 23 #[.map (some m)] w fun e w' => e = .returned (.map (some w.heap.size)) ∧ w'.ownsMap Tryd.prog 3 elI w.heap.size n D ∧ Frm.Turn [] w w' := by
  obtain ⟨es, clock, hb, F, hs, hD⟩ := h
  have hq := fun w => run_eql_map_nil_sl (P := Tryd.prog) w 57 _ _ (some m) mapT'
  have HB := Lib.hid hb
  have HFin : Hid ((w.alloc (.map es clock)).ownsMap Tryd.prog 3 elI w.heap.size n D) := Lib.hid ⟨es, clock, (MapKept.heap_alloc w _).1, F, hs, hD⟩
  clear hb F hs hD
  go_enter Tryd.func23, Tryd.ntmps23
  go_wp2
  rw [run_callFunc_extern Tryd.func39 (by kernel_rfl) (by kernel_rfl) (by kernel_rfl) (e := Extern.MapsClone.clone) (by kernel_rfl), run_maps_clone_sl w 57 HB.out]
  simp only [Result.andThen]
  rw [Oper.upon_value]
  go_wp2
  rw [run_typeAssert_map_sl _ 57 20 _ _ _ mapT']
  simp only [Result.andThen]
  rw [Oper.upon_value]
  go_wp2
  go_ret
  exact ⟨rfl, HFin.out, (Frm.Turn.refl _ _).alloc _⟩
theorem mclone_any {w : World} {p : Option Nat} {f : Tb} (h : TAt w p f) :
    Calls Tryd.prog 23 #[.map p] w fun e w' => ∃ p', e = .returned (.map p') ∧ TAt w' p' f ∧ (∀ k, p' = some k → w.heap.size ≤ k) ∧ Frm.Turn [] w w' := by
  obtain ⟨ok, D, hR, hD⟩ := h
  rcases hR with ⟨rfl, rfl⟩ | ⟨b, rfl, ho⟩
  · refine (mclone_nil w).mono ?_
    rintro e w' ⟨rfl, rfl⟩
    exact ⟨none, rfl, ⟨ok, _, .inl ⟨rfl, rfl⟩, hD⟩, by simp, Frm.Turn.refl _ _⟩
  · refine (mclone_some b _ D w ho).mono ?_
    rintro e w' ⟨rfl, ho', hT⟩
    exact ⟨_, rfl, ⟨ok, _, .inr ⟨_, rfl, ho'⟩, hD⟩, fun k hk => by cases hk; exact Nat.le_refl _, hT⟩

/-- The entries of what is read of a table. -/
theorem ent_of {w : World} {p : Option Nat} {f : Tb} {D : DataW Unit} (hR : Reads w p D) (hD : TD f D) : (∀ q, q ∈ entriesD D → ∃ x v, q.1 = .int .i64 x ∧ f x = some v ∧ q.2 = .lit (.int .i64 v)) ∧ ∀ x v, f x = some v → ((Lit.int .i64 x, DataW.lit (.int .i64 v)) : Lit × DataW Unit) ∈ entriesD D := by
  rcases hR with ⟨rfl, rfl⟩ | ⟨b, rfl, ho⟩
  · refine ⟨fun q hq => by simp [entriesD] at hq, fun x v e => ?_⟩
    have := hD.has x
    rw [e] at this
    simp [Maps.has] at this
  · obtain ⟨es, rfl, hpw, hkl⟩ := ho.entries keyI
    obtain ⟨es', he, hko⟩ := ho.keysOf
    obtain rfl : es = es' := by simpa using he
    refine ⟨fun q hq => ?_, fun x v e => ?_⟩
    · have hq' : q ∈ es := hq
      obtain ⟨u, hu⟩ := hko q hq'
      obtain ⟨x, _, hx, _⟩ := Maps.keyOf_i64 under_int hu
      have hh : Maps.has (DataW.map es) q.1 = true := List.any_eq_true.2 ⟨q, hq', WideAt.sameKey_self (hkl q hq')⟩
      rw [hx, hD.has] at hh
      obtain ⟨v, hv⟩ := Option.isSome_iff_exists.1 hh
      refine ⟨x, v, hx, hv, ?_⟩
      have := hD.val x v hv .nil
      rw [← this, ← hx]
      exact (WideAt.atKey_mem .nil (hkl q hq') hpw hq').symm
    · refine Maps.came_mem hpw hkl (fun z => hD.val x v e z)
def eqdI (a b : DataW Unit) : Bool := match a, b with
  | .lit (.int _ x), .lit (.int _ y) => x == y
  | _, _ => false
theorem equal_same {w : World} {p1 p2 : Option Nat} {f1 f2 : Tb} {D1 D2 : DataW Unit} (r1 : Reads w p1 D1) (t1 : TD f1 D1) (o1 : TOk f1) (r2 : Reads w p2 D2) (t2 : TD f2 D2) (o2 : TOk f2) : Lib.equalFuncD eqdI D1 D2 = sameT f1 f2 := by
  obtain ⟨m1, n1⟩ := ent_of r1 t1
  rw [Bool.eq_iff_iff, sameT_iff o1 o2]
  unfold Lib.equalFuncD
  rw [Bool.and_eq_true, decide_eq_true_eq, List.all_eq_true, t1.size, t2.size]
  constructor
  · rintro ⟨hc, hg⟩
    refine same_of_part o1 hc (fun k v e => ?_) o2
    have := hg _ (n1 k v e)
    unfold goodD at this
    simp only [Bool.and_eq_true] at this
    obtain ⟨h1, h2⟩ := this
    rw [t2.has] at h1
    obtain ⟨u, hu⟩ := Option.isSome_iff_exists.1 h1
    rw [t2.val k u hu] at h2
    simp [eqdI] at h2
    rw [hu, h2]
  · rintro rfl
    refine ⟨rfl, fun q hq => ?_⟩
    obtain ⟨x, v, e1, e2, e3⟩ := m1 q hq
    unfold goodD
    rw [e1, e3, t2.has, e2, t2.val x v e2]
    simp [eqdI]
set_option maxHeartbeats 1000000 in
theorem mequal_any {w : World} {p1 p2 : Option Nat} {f1 f2 : Tb} (h1 : TAt w p1 f1) (h2 : TAt w p2 f2) :
    Calls Tryd.prog 37 #[.map p1, .map p2] w fun e w' => e = .returned (.bool (sameT f1 f2)) ∧ Frm.Turn [] w w' := by
  obtain ⟨o1, D1, r1, t1⟩ := h1
  obtain ⟨o2, D2, r2, t2⟩ := h2
  have src : ∀ {p : Option Nat} {D : DataW Unit}, Reads w p D → SrcOf Tryd.prog 3 elI w p D := fun h => h.imp id (fun ⟨b, e, ho⟩ => ⟨b, _, e, ho⟩)
  rw [← equal_same r1 t1 o1 r2 t2 o2]
  refine (AnyEq.maps_Equal_opt layEq keyI elI elI eqdI p1 p2 D1 D2 w (src r1) (src r2) (.int .i64 0) zeroI _ _ (plainElem_int under_int (wf_i64 (by omega))) ?_).mono ?_
  · intro W x y xd yd xp yp hx hy
    obtain ⟨c, rfl, ec, _⟩ := plainElem_int_inv under_int hx; cases ec
    obtain ⟨d, rfl, ed, _⟩ := plainElem_int_inv under_int hy; cases ed
    refine ⟨?_, fun a b => ?_⟩
    · simp [go_sem, eqdI, layEq_ren]
      rfl
    · simp [go_sem, layEq_ren]
  · rintro e w' ⟨rfl, hg⟩
    exact ⟨rfl, Frm.Turn.of_grown hg⟩
end Mdl
end Go.Proofs.YtmodanjblbaedaaDoor
