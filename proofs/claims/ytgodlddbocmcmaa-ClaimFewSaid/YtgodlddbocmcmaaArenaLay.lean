/- A block is laid. -/
import Derived.Test.YtgodlddbocmcmaaArenaNew
import Derived.Deep.DeepCutAuto
set_option linter.unusedVariables false
set_option linter.unusedSimpArgs false
namespace Go.Proofs.Ytgodlddbocmcmaa
namespace Arn
open Go.RowKit Hp Go.Maps

/-- What a call of an arena leaves, where its parts may lie elsewhere behind it. -/
def LeftM (b : Nat) (M : Mem) (A' : Ar) (w w' : World) : Prop := ∃ M', ArAt w' b M' A' ∧ Frm.Turn (M.foot b) w w' ∧ ∀ k, k ∈ M'.foot b → k ∈ M.foot b ∨ w.heap.size ≤ k
theorem Left.m {b : Nat} {M : Mem} {A' : Ar} {w w' : World} (h : Left b M A' w w') : LeftM b M A' w w' := ⟨M, h.at_, h.turn, fun _ hk => Or.inl hk⟩

theorem set_mid {α : Type} (l : List α) (k : Nat) (y : α) {i : Nat} {z : α} (hk : k ≤ l.length) (h : (l.take k ++ y :: l.drop k)[i]? = some z) : (i < k ∧ l[i]? = some z) ∨ (i = k ∧ z = y) ∨ (k < i ∧ l[i - 1]? = some z) := by
  rw [List.getElem?_append] at h
  have hl : (l.take k).length = k := by simp; omega
  rw [hl] at h
  split at h
  · rename_i hi
    rw [List.getElem?_take_of_lt hi] at h
    exact Or.inl ⟨hi, h⟩
  · rename_i hi
    right
    cases hd : i - k with
    | zero =>
      rw [hd] at h; simp at h
      exact Or.inl ⟨by omega, h.symm⟩
    | succ d =>
      rw [hd] at h; simp at h
      right
      refine ⟨by omega, ?_⟩
      rw [show i - 1 = k + d from by omega]; exact h
theorem hasH_mid (l : List Blk) (k : Nat) (x : Blk) (h : Int) : hasH (l.take k ++ x :: l.drop k) h = (hasH l h || x.h == h) := by
  rw [Bool.eq_iff_iff, Bool.or_eq_true, hasH_iff, hasH_iff, beq_iff_eq]
  constructor
  · rintro ⟨y, hy, e⟩
    rcases mem_mid.1 hy with rfl | hy
    · exact Or.inr e
    · exact Or.inl ⟨y, hy, e⟩
  · rintro (⟨y, hy, e⟩ | e)
    · exact ⟨y, mem_mid.2 (Or.inr hy), e⟩
    · exact ⟨x, mem_mid.2 (Or.inl rfl), e⟩
theorem hasN_mid (l : List Blk) (k : Nat) (x : Blk) (h : Int) : hasN (l.take k ++ x :: l.drop k) h = (hasN l h || x.h % 65536 == h) := by
  rw [Bool.eq_iff_iff, Bool.or_eq_true, hasN_iff, hasN_iff, beq_iff_eq]
  constructor
  · rintro ⟨y, hy, e⟩
    rcases mem_mid.1 hy with rfl | hy
    · exact Or.inr e
    · exact Or.inl ⟨y, hy, e⟩
  · rintro (⟨y, hy, e⟩ | e)
    · exact ⟨y, mem_mid.2 (Or.inr hy), e⟩
    · exact ⟨x, mem_mid.2 (Or.inl rfl), e⟩
theorem nodup_mid {α : Type} {l : List α} {k : Nat} {x : α} (h : l.Nodup) (hx : x ∉ l) : (l.take k ++ x :: l.drop k).Nodup := by
  have hp : (l.take k ++ x :: l.drop k).Perm (x :: l) := by
    have := (List.perm_middle (a := x) (l₁ := l.take k) (l₂ := l.drop k))
    rwa [List.take_append_drop] at this
  exact hp.nodup_iff.2 (List.nodup_cons.2 ⟨hx, h⟩)
theorem lay_full {A : Ar} (hok : A.Ok) {S : St} (hm : S.most = 65535) (hu : ∀ k : Int, S.used k = hasN A.L k) (hf : ∀ k : Int, 1 ≤ k → k ≤ S.most → S.used k = true) : False := by
  have h1 : A.L.length ≤ 60000 := by
    have h1 := length_le_used (fun x hx => (hok.len x hx).1)
    have h2 := hok.top
    have h3 := hok.peak
    have h4 := hok.cap
    omega
  have hl := lead_le A.L 0
  have hn := free_not hok.rise (fun x hx => (hok.hnd x hx).1)
  have := hf ((lead 0 A.L : Int) + 1) (by omega) (by rw [hm]; omega)
  rw [hu, hn] at this
  cases this
theorem lay_number {A : Ar} (hok : A.Ok) {S S' : St} {x : Nat} (hu : ∀ k : Int, S.used k = hasN A.L k) (ht : Took S x S') : x = lead 0 A.L + 1 := by
  have hn := free_not hok.rise (fun x hx => (hok.hnd x hx).1)
  have h1 := ht.free
  rw [hu] at h1
  rcases Nat.lt_trichotomy x (lead 0 A.L + 1) with e | e | e
  · have := free_least (l := A.L) (k := (x : Int)) (by have := ht.lo; omega) (by omega)
    rw [h1] at this; cases this
  · exact e
  · have := ht.least ((lead 0 A.L : Int) + 1) (by omega) (by omega)
    rw [hu, hn] at this; cases this

def layH (A : Ar) : Int := ((A.births : Int) + 1) * 65536 + ((lead 0 A.L : Int) + 1)
theorem lay_eq {A : Ar} {ws : List Int} (h1 : 1 ≤ ws.length) (h2 : ws.length ≤ 2048) (h3 : used A.L + ws.length ≤ A.cap) :
    A.lay ws = ({ A with births := A.births + 1, L := A.L.take (lead 0 A.L) ++ ⟨layH A, ws⟩ :: A.L.drop (lead 0 A.L), peak := max A.peak (used A.L + ws.length), t := { A.t with lays := A.t.lays + 1 } }, layH A, 0) := by
  unfold Ar.lay layH
  rw [if_neg (by omega), if_neg (by omega)]
theorem lay_new {A : Ar} (hok : A.Ok) : hasH A.L (layH A) = false := by
  rw [hasH_false]
  intro x hx e
  have hl := lead_le A.L 0
  have h1 := length_le_used (fun x hx => (hok.len x hx).1)
  have h2 := hok.top
  have h3 := hok.peak
  have h4 := hok.cap
  have h5 := (hok.hnd x hx).2.2
  unfold layH at e
  rw [e] at h5
  omega

set_option maxHeartbeats 1000000 in
theorem lay_done {w w1 w3 w4 : World} {b g' c' n x : Nat} {M : Mem} {A : Ar} {S S' : St} {Fs' : List Nat} {D : DataW Unit} {ws : List Int}
    (h : ArAt w b M A) (hm : S.most = 65535) (hu : ∀ k : Int, S.used k = hasN A.L k) (hD : MapAt w M.m M.B A.L D)
    (ht : Took S x S') (hs1 : Lst.StockAt w1 M.sb Fs' S') (T01 : Frm.Turn M.Fs w w1) (hf1 : ∀ k, k ∈ Fs' → k ∈ M.Fs ∨ w.heap.size ≤ k)
    (ho3 : w3.ownsRow 0 32 1 (.slice (some ⟨g', 0, none⟩) ws.length c') ws.length (u64s ws)) (hg3 : w1.heap.size ≤ g') (T13 : Frm.Turn [] (w1.setCell ⟨b, 1, none⟩ (.int .u64 ((A.births : Int) + 1))) w3)
    (ho4 : w4.ownsMap Try.prog 32 hdr M.m n (D.put (.int .u64 (layH A)) (hdat g' ws.length c'))) (G34 : w3.grownBy w4 (some M.m))
    (h1 : 1 ≤ ws.length) (h2 : ws.length ≤ 2048) (h3 : used A.L + ws.length ≤ A.cap) (hb : A.births < 268435455) (hw : ∀ v, v ∈ ws → W64 v) :
    LeftM b M (A.lay ws).1 w (((w4.setCell ⟨b, 13, none⟩ (.int .i64 ((used A.L : Int) + (ws.length : Int)))).setCell ⟨b, 14, none⟩ (.int .i64 ((max A.peak (used A.L + ws.length) : Nat) : Int))).setCell ⟨b, 16, none⟩ (.int .i64 ((A.t.lays : Int) + 1))) := by
  have hok := lay_ok h.ok h1 h2 h3 hb hw
  rw [lay_eq h1 h2 h3] at hok ⊢
  have hx := lay_number h.ok hu ht
  have hfree := lay_new h.ok
  obtain ⟨o1, o2, o3⟩ := h.b_out
  have hap := h.apart
  simp only [List.nodup_cons, List.mem_cons] at hap
  have hlt := h.lt
  have s1 := T01.size
  have T13' : Frm.Turn [b] w1 w3 := (((Frm.Turn.refl [b] w1).setCell (p := ⟨b, 1, none⟩) (Or.inl (by simp)) _)).trans T13 (by simp)
  have T14 : Frm.Turn [b, M.m] w1 w4 := (T13'.mono (by simp)).trans (Frm.Turn.of_grown G34) (fun k hk => by simp at hk; simp [hk])
  have T4' : Frm.Turn [b] w4 (((w4.setCell ⟨b, 13, none⟩ (.int .i64 ((used A.L : Int) + (ws.length : Int)))).setCell ⟨b, 14, none⟩ (.int .i64 ((max A.peak (used A.L + ws.length) : Nat) : Int))).setCell ⟨b, 16, none⟩ (.int .i64 ((A.t.lays : Int) + 1))) :=
    (((Frm.Turn.refl [b] w4).setCell (Or.inl (by simp)) _).setCell (Or.inl (by simp)) _).setCell (Or.inl (by simp)) _
  have T1' : Frm.Turn [b, M.m] w1 _ := T14.trans T4' (fun k hk => by simp at hk; simp [hk])
  have hgw : w.heap.size ≤ g' := Nat.le_trans s1 hg3
  have hgfoot : g' ∉ M.foot b := fun hc => by have := hlt _ hc; omega
  have hmFs : M.m ∉ M.Fs := fun hc => h.side _ hc (by simp)
  have hwm : M.m < w.heap.size := hlt _ (by simp [Mem.foot])
  have hFs' : ∀ k, k ∈ Fs' → k ≠ b ∧ k ≠ M.m ∧ k ∉ M.B.map Row.g ∧ k ≠ g' := fun k hk => by
    have hk1 := hs1.lt k hk
    rcases hf1 k hk with h' | h'
    · have := h.side k h'
      simp only [List.mem_cons, not_or] at this
      exact ⟨this.1, this.2.1, this.2.2, by omega⟩
    · have q := h.b_lt
      refine ⟨by omega, by omega, fun hc => ?_, by omega⟩
      have := hlt k (by simp only [Mem.foot, List.mem_cons, List.mem_append]; exact Or.inr (Or.inr (Or.inr hc)))
      omega
  refine ⟨⟨M.m, M.sb, Fs', M.B.take (lead 0 A.L) ++ ⟨layH A, g', c'⟩ :: M.B.drop (lead 0 A.L)⟩, ⟨hok, ?_, ⟨S', hs1.turn T1' (fun k hk => by have := hFs' k hk; simp; exact ⟨this.1, this.2.1⟩), by rw [ht.most, hm], fun k => ?_⟩, ⟨_, Lst.own_tight (Lst.own_turn ho4 T4' (by simp; exact fun e => o1 e.symm)), ?_, fun k => ?_, fun i r y hr hy z => ?_⟩,
    ⟨?_, fun i r y hr hy => ?_⟩, ?_, fun k hk => ?_⟩, ?_, fun k hk => ?_⟩
  · -- the block
    have e1 : w1.heap[b]? = some (.cells (A.cells M).toArray 56) := T01.keep h.body o2
    have e2 := Frm.heap_set w1 b 1 _ _ _ (.int .u64 ((A.births : Int) + 1)) e1
    have e3 := T13.keep e2 (by simp)
    have e4 := (Frm.Turn.of_grown G34).keep e3 (by simp; exact o1)
    have e5 := Frm.heap_set w4 b 13 _ _ _ (.int .i64 ((used A.L : Int) + (ws.length : Int))) e4
    have e6 := Frm.heap_set _ b 14 _ _ _ (.int .i64 ((max A.peak (used A.L + ws.length) : Nat) : Int)) e5
    have e7 := Frm.heap_set _ b 16 _ _ _ (.int .i64 ((A.t.lays : Int) + 1)) e6
    rw [e7]
    obtain ⟨f0, f1, f2, f3, f4, f5, f6, f7, f8, e⟩ := nine_of h.ok.nine
    simp [Ar.cells, u64s, e, used_mid]
  · -- the stock
    rw [ht.used, hu, hasN_mid]
    have hl := lead_le A.L 0
    have q1 := length_le_used (fun x hx => (h.ok.len x hx).1)
    have q2 := h.ok.top
    have q3 := h.ok.peak
    have q4 := h.ok.cap
    have : (layH A) % 65536 = (x : Int) := by unfold layH; omega
    show _ = (_ || layH A % 65536 == k)
    rw [this]
    congr 1
    rw [Bool.eq_iff_iff]; simp; omega
  · -- how many
    have hs := size_put (k := .int .u64 (layH A)) (hD.own.tidy keyU) (hdat g' ws.length c')
    rw [hs, hD.has, hfree]
    have hl := lead_le A.L 0
    simp [hD.size]; omega
  · -- which
    rw [hasH_mid]
    show _ = (hasH A.L k || layH A == k)
    by_cases e : k = layH A
    · subst e
      rw [has_put_same hD.own.isMap (k := .int .u64 (layH A)) trivial]; simp
    · rw [has_put_other (by simpa using e), hD.has]
      have : (layH A == k) = false := by simpa using fun e' => e e'.symm
      rw [this, Bool.or_false]
  · -- where
    have hl := lead_le A.L 0
    rcases set_mid M.B _ _ (by rw [h.rows.1]; exact hl) hr with ⟨i1, hr⟩ | ⟨i1, rfl⟩ | ⟨i1, hr⟩
    · rcases set_mid A.L _ _ hl hy with ⟨i2, hy⟩ | ⟨i2, rfl⟩ | ⟨i2, hy⟩
      · have hR := (h.rows.2 i r y hr hy).h
        have hne : r.h ≠ layH A := fun e => by rw [hasH_false] at hfree; exact hfree y (List.mem_of_getElem? hy) (by rw [← hR, e])
        rw [atKey_put_other (by simpa using hne)]
        exact hD.at_ i r y hr hy z
      · omega
      · omega
    · rcases set_mid A.L _ _ hl hy with ⟨i2, hy⟩ | ⟨i2, rfl⟩ | ⟨i2, hy⟩
      · omega
      · exact atKey_put_same hD.own.isMap (k := .int .u64 (layH A)) trivial _ _
      · omega
    · rcases set_mid A.L _ _ hl hy with ⟨i2, hy⟩ | ⟨i2, rfl⟩ | ⟨i2, hy⟩
      · omega
      · omega
      · have hR := (h.rows.2 _ r y hr hy).h
        have hne : r.h ≠ layH A := fun e => by rw [hasH_false] at hfree; exact hfree y (List.mem_of_getElem? hy) (by rw [← hR, e])
        rw [atKey_put_other (by simpa using hne)]
        exact hD.at_ _ r y hr hy z
  · have := h.rows.1
    simp; omega
  · -- the rows
    have hl := lead_le A.L 0
    have old : ∀ (j : Nat) (r : Row) (y : Blk), M.B[j]? = some r → A.L[j]? = some y → RowOk (((w4.setCell ⟨b, 13, none⟩ (.int .i64 ((used A.L : Int) + (ws.length : Int)))).setCell ⟨b, 14, none⟩ (.int .i64 ((max A.peak (used A.L + ws.length) : Nat) : Int))).setCell ⟨b, 16, none⟩ (.int .i64 ((A.t.lays : Int) + 1))) r y := fun j r y hr hy => by
      have hgm := g_mem hr
      refine ((h.rows.2 j r y hr hy).turn T01 (fun hc => h.side _ hc (by simp [hgm]))).turn T1' ?_
      simp only [List.mem_cons, List.not_mem_nil, or_false, not_or]
      exact ⟨fun e => by rw [e] at hgm; exact o3 hgm, fun e => by rw [e] at hgm; exact hap.2.1 hgm⟩
    rcases set_mid M.B _ _ (by rw [h.rows.1]; exact hl) hr with ⟨i1, hr⟩ | ⟨i1, rfl⟩ | ⟨i1, hr⟩
    · rcases set_mid A.L _ _ hl hy with ⟨i2, hy⟩ | ⟨i2, rfl⟩ | ⟨i2, hy⟩
      · exact old i r y hr hy
      · omega
      · omega
    · rcases set_mid A.L _ _ hl hy with ⟨i2, hy⟩ | ⟨i2, rfl⟩ | ⟨i2, hy⟩
      · omega
      · refine ⟨rfl, Frm.owns_turn (Frm.owns_turn ho3 (Frm.Turn.of_grown G34) (fun k hk => ?_)) T4' (fun k hk => ?_)⟩
        · simp [Value.ownBlock] at hk; subst hk; simp; intro e; subst e; omega
        · simp [Value.ownBlock] at hk; subst hk; simp; intro e; subst e; have := h.b_lt; omega
      · omega
    · rcases set_mid A.L _ _ hl hy with ⟨i2, hy⟩ | ⟨i2, rfl⟩ | ⟨i2, hy⟩
      · omega
      · omega
      · exact old _ r y hr hy
  · -- apart
    have hnm : (M.B.take (lead 0 A.L) ++ ⟨layH A, g', c'⟩ :: M.B.drop (lead 0 A.L)).map Row.g = (M.B.map Row.g).take (lead 0 A.L) ++ g' :: (M.B.map Row.g).drop (lead 0 A.L) := by simp
    rw [hnm]
    have hg'B : g' ∉ M.B.map Row.g := fun hc => hgfoot (by simp only [Mem.foot, List.mem_cons, List.mem_append]; exact Or.inr (Or.inr (Or.inr hc)))
    have hb' := h.b_lt
    have mem : ∀ k, k ∈ (M.B.map Row.g).take (lead 0 A.L) ++ g' :: (M.B.map Row.g).drop (lead 0 A.L) → k = g' ∨ k ∈ M.B.map Row.g := fun k hk => by
      rw [List.mem_append, List.mem_cons] at hk
      rcases hk with hk | hk | hk
      · exact Or.inr (List.mem_of_mem_take hk)
      · exact Or.inl hk
      · exact Or.inr (List.mem_of_mem_drop hk)
    refine List.nodup_cons.2 ⟨fun hc => ?_, List.nodup_cons.2 ⟨fun hc => ?_, nodup_mid hap.2.2 hg'B⟩⟩
    · rcases List.mem_cons.1 hc with e | hc
      · exact o1 e
      · rcases mem _ hc with e | hc
        · omega
        · exact o3 hc
    · rcases mem _ hc with e | hc
      · change M.m = g' at e; omega
      · exact hap.2.1 hc
  · -- side
    have := hFs' k hk
    have hnm : (M.B.take (lead 0 A.L) ++ ⟨layH A, g', c'⟩ :: M.B.drop (lead 0 A.L)).map Row.g = (M.B.map Row.g).take (lead 0 A.L) ++ g' :: (M.B.map Row.g).drop (lead 0 A.L) := by simp
    simp only [hnm, List.mem_cons, List.mem_append, not_or]
    exact ⟨this.1, this.2.1, fun hc => this.2.2.1 (List.mem_of_mem_take hc), this.2.2.2, fun hc => this.2.2.1 (List.mem_of_mem_drop hc)⟩
  · refine (T01.mono (fun k hk => by simp [Mem.foot, hk])).trans T1' (fun k hk => ?_)
    simp at hk; rcases hk with rfl | rfl <;> simp [Mem.foot]
  · simp only [Mem.foot, List.mem_cons, List.mem_append, List.map_append, List.map_cons] at hk ⊢
    rcases hk with rfl | rfl | hk | hk | rfl | hk
    · simp
    · simp
    · rcases hf1 k hk with h' | h'
      · left; simp [h']
      · right; exact h'
    · left; right; right; right
      rw [List.map_take] at hk
      exact List.mem_of_mem_take hk
    · right; exact hgw
    · left; right; right; right
      rw [List.map_drop] at hk
      exact List.mem_of_mem_drop hk
structure LayCut (w1 W0 w3 w4 : World) (M : Mem) (D : DataW Unit) (A : Ar) (ws : List Int) (g' c' : Nat) : Prop where
  own3 : w3.ownsRow 0 32 1 (.slice (some ⟨g', 0, none⟩) ws.length c') ws.length (u64s ws)
  new : W0.drew.heap.size ≤ g'
  turn : Frm.Turn [] W0 w3
  own4 : w4.ownsMap Try.prog 32 hdr M.m (Maps.size D + 1) (D.put (.int .u64 (layH A)) (hdat g' ws.length c'))
  grown : w3.grownBy w4 (some M.m)
theorem lay_max (p u n : Nat) : Value.int .i64 (if (p : Int) < (u : Int) + (n : Int) then (u : Int) + (n : Int) else (p : Int)) = .int .i64 ((max p (u + n) : Nat) : Int) := by congr 1; split <;> omega
theorem lay_cell {w w1 w3 w4 : World} {b i : Nat} {M : Mem} {A : Ar} {v u : Value} (h : ArAt w b M A) (T01 : Frm.Turn M.Fs w w1) (T13 : Frm.Turn [] (w1.setCell ⟨b, 1, none⟩ u) w3) (G34 : w3.grownBy w4 (some M.m)) (hi : i ≠ 1)
    (hc : w.cell? ⟨b, i, none⟩ = some v) : w4.cell? ⟨b, i, none⟩ = some v ∧ w4.frozen? ⟨b, i, none⟩ = false := by
  obtain ⟨o1, o2, o3⟩ := h.b_out
  have e1 : w1.cell? ⟨b, i, none⟩ = some v := T01.cell hc o2
  have e2 : (w1.setCell ⟨b, 1, none⟩ u).cell? ⟨b, i, none⟩ = some v := by rw [World.cell?_setCell_other _ _ _ _ (by simp [Ne.symm hi])]; exact e1
  have e3 : w3.cell? ⟨b, i, none⟩ = some v := T13.cell e2 (by simp)
  have T34 := Frm.Turn.of_grown G34
  have e4 : w4.cell? ⟨b, i, none⟩ = some v := T34.cell e3 (by simp; exact o1)
  refine ⟨e4, ?_⟩
  have f1 : w1.frozen? ⟨b, i, none⟩ = false := (T01.frozen (a := ⟨b, i, none⟩) h.b_lt o2).trans (h.thaw i)
  have hb1 := World.block_lt_of_cell? _ _ e2
  have hb3 := World.block_lt_of_cell? _ _ e3
  rw [T34.frozen (a := ⟨b, i, none⟩) hb3 (by simp; exact o1), T13.frozen (a := ⟨b, i, none⟩) hb1 (by simp), World.frozen?_setCell]
  exact f1
attribute [local go_sem ↓] Go.wp_at_zero Go.wp_at_succ

theorem lay_nil (v : Value) (w : World) : Calls Try.prog 48 #[.pointer none, v] w fun e w' => e = .returned (.tuple #[.int .u64 0, .int .i64 1]) ∧ w = w' := by
  go_enter Try.func48, Try.ntmps48
  go_wp2
  go_ret2
  exact ⟨rfl, rfl⟩
theorem lay_arg (b : Nat) (ao : Option Addr) (n c : Nat) (w : World) (h : n < 1 ∨ 2048 < n) : Calls Try.prog 48 #[.pointer (some ⟨b, 0, none⟩), .slice ao n c] w fun e w' => e = .returned (.tuple #[.int .u64 0, .int .i64 2]) ∧ w = w' := by
  rcases h with h | h
  · have h0 : decide ((n : Int) < 1) = true := by simp; omega
    go_enter Try.func48, Try.ntmps48
    go_wp2
    go_ret2
    exact ⟨rfl, rfl⟩
  · have h0 : decide ((n : Int) < 1) = false := by simp; omega
    have h1 : decide (2048 < (n : Int)) = true := by simp; omega
    go_enter Try.func48, Try.ntmps48
    go_wp2
    go_ret2
    exact ⟨rfl, rfl⟩
theorem lay_room {w : World} {b : Nat} {M : Mem} {A : Ar} (h : ArAt w b M A) (ao : Option Addr) (n c : Nat) (h1 : 1 ≤ n) (h2 : n ≤ 2048) (h3 : A.cap < used A.L + n) : Calls Try.prog 48 #[.pointer (some ⟨b, 0, none⟩), .slice ao n c] w fun e w' => e = .returned (.tuple #[.int .u64 0, .int .i64 20]) ∧ Frm.Turn [] w w' := by
  have h0 : decide ((n : Int) < 1) = false := by simp; omega
  have h1 : decide (2048 < (n : Int)) = false := by simp; omega
  have hc0 := h.cells.c0
  have hc13 := h.cells.c13
  have hu : (used A.L : Int) ≤ 60000 := by have := h.ok.top; have := h.ok.peak; have := h.ok.cap; omega
  have hu0 : (0 : Int) ≤ (used A.L : Int) := by omega
  have h4 : decide ((A.cap : Int) < (used A.L : Int) + (n : Int)) = true := by simp; omega
  clear h h3
  go_enter Try.func48, Try.ntmps48
  go_wp2
  go_quiet (fail)
  go_wp2
  go_ret2
  exact ⟨rfl, (Frm.Turn.refl [] w).drewN _⟩

set_option maxRecDepth 100000 in
set_option maxHeartbeats 4000000 in
theorem lay_yes {w : World} {b : Nat} {M : Mem} {A : Ar} (h : ArAt w b M A) (hl : A.Low lim) (a : Addr) (c : Nat) (ws : List Int) (hws : ∀ j u, (u64s ws)[j]? = some u → w.cell? (a.add j) = some u) (ha : a.block ∉ M.foot b)
    (h1 : 1 ≤ ws.length) (h2 : ws.length ≤ 2048) (h3 : used A.L + ws.length ≤ A.cap) (hb : A.births < 268435455) (hw : ∀ v, v ∈ ws → W64 v) :
    Calls Try.prog 48 #[.pointer (some ⟨b, 0, none⟩), .slice (some a) ws.length c] w fun e w' => e = .returned (.tuple #[.int .u64 (layH A), .int .i64 0]) ∧ LeftM b M (A.lay ws).1 w w' := by
  obtain ⟨S, hS, hm, hu⟩ := h.stock
  obtain ⟨D, hD⟩ := h.map
  have hc0 := h.cells.c0
  have hc1 := h.cells.c1
  have hc12 := h.cells.c12
  have hc13 := h.cells.c13
  have hu6 : (used A.L : Int) ≤ 60000 := by have := h.ok.top; have := h.ok.peak; have := h.ok.cap; omega
  have hu0 : (0 : Int) ≤ (used A.L : Int) := by omega
  have hlr : (A.t.lays : Int) ≤ 1000000000000 := by have := hl.lays; unfold lim at this; omega
  have hlr0 : (0 : Int) ≤ (A.t.lays : Int) := by omega
  have hpk : (A.peak : Int) ≤ 60000 := by have := h.ok.peak; have := h.ok.cap; omega
  have hpk0 : (0 : Int) ≤ (A.peak : Int) := by omega
  have hb0 : (0 : Int) ≤ (A.births : Int) := by omega
  have hb1 : decide (268435455 ≤ (A.births : Int)) = false := by simp; omega
  have hb2 : (A.births : Int) < 268435455 := by omega
  have HW := Lib.hid (show ∀ W F, Frm.Turn F w W → (∀ k, k ∈ F → k ∈ M.foot b) → ∀ W', Frm.Turn [] W W' → Calls Try.prog 54 #[.slice (some a) ws.length c] W' (CloneOf W' ws) from fun W F hT hF W' hT' =>
    uclone_some a c ws W' (fun j u hu => hT'.cell (hT.cell (hws j u hu) (fun hk => ha (by have hbk : (a.add j).block = a.block := by unfold Addr.add; split <;> rfl
                                                                                          rw [← hbk]; exact hF _ hk))) (by simp)) (by omega))
  have HD := Lib.hid hD
  have HS := Lib.hid hS
  have HM := Lib.hid hm
  have HU := Lib.hid hu
  have H := Lib.hid h
  have HH := Lib.hid (show 1 ≤ ws.length ∧ ws.length ≤ 2048 ∧ used A.L + ws.length ≤ A.cap ∧ A.births < 268435455 ∧ ∀ v, v ∈ ws → W64 v from ⟨h1, h2, h3, hb, hw⟩)
  have hn0 : decide ((ws.length : Int) < 1) = false := by simp; omega
  have hn1 : decide (2048 < (ws.length : Int)) = false := by simp; omega
  have hn4 : decide ((A.cap : Int) < (used A.L : Int) + (ws.length : Int)) = false := by simp; omega
  have hn5 : (ws.length : Int) ≤ 2048 := by omega
  have hn6 : (1 : Int) ≤ (ws.length : Int) := by omega
  clear h hS hm hu hD hws ha h1 h2 h3 hb hw hl
  generalize hN : ws.length = N at hn0 hn1 hn4 hn5 hn6 HW HH ⊢
  have HN := Lib.hid hN
  clear hN
  go_enter Try.func48, Try.ntmps48
  go_wp2
  go_quiet (fail)
  go_wp2_with fail
  refine (Lst.take_any M.sb M.Fs S _ (HS.out.turn ((Frm.Turn.refl [] w).drewN _) (by simp))).mono ?_
  rintro e w1 (⟨x, S', Fs', rfl, ht, hs1, T01, hf1⟩ | ⟨rfl, _, hf, _⟩)
  · have hx1 : (1 : Int) ≤ (x : Int) := by have := ht.lo; omega
    have hx2 : (x : Int) ≤ 65535 := by have := ht.hi; have := HM.out; omega
    have hcs := (H.out.step ((Frm.Turn.refl [] w).drewN nq)).cells
    have hbf := H.out.b_out.2.1
    have k1 := T01.cell hcs.c1 hbf
    have k11 := T01.cell hcs.c11 hbf
    have kf : ∀ o, w1.frozen? ⟨b, o, none⟩ = false := fun o => (T01.frozen (a := ⟨b, o, none⟩) H.out.b_lt hbf).trans (H.out.thaw o)
    have kf1 := kf 1
    have HP := Lib.hid (show _ ∧ _ ∧ _ ∧ _ from ⟨ht, hs1, T01, hf1⟩)
    have HKF := Lib.hid kf
    have HCS := Lib.hid hcs
    have HBF := Lib.hid hbf
    clear ht hs1 hf1 hcs hbf kf hc0 hc1 hc12 hc13 T01
    go_upto_region 14 with (go_at_call 53; (with_reducible refine (handle_yes _ _ _ (by omega) (by omega) (by omega) (by omega)).mono ?_); rintro e w2 ⟨rfl, rfl⟩)
    have hxx := lay_number H.out.ok HU.out HP.out.1
    have hkh : ((A.births : Int) + 1) * 65536 + (x : Int) = layH A := by unfold layH; omega
    rw [hkh]
    have T0 : Frm.Turn (M.foot b) w (w1.setCell ⟨b, 1, none⟩ (.int .u64 ((A.births : Int) + 1))) :=
      ((((Frm.Turn.refl [] w).drewN nq).mono (by simp)).trans (HP.out.2.2.1.mono (fun k hk => by simp [Mem.foot, hk])) (fun k hk => Or.inl hk)).setCell (Or.inl (foot_b M b)) _
    have HC0 := Lib.hid (show ∀ W', Frm.Turn [] (w1.setCell ⟨b, 1, none⟩ (.int .u64 ((A.births : Int) + 1))) W' → Calls Try.prog 54 #[.slice (some a) N c] W' fun e w'' => ∃ g' c', e = .returned (.slice (some ⟨g', 0, none⟩) N c') ∧ Hid (w''.ownsRow 0 32 1 (.slice (some ⟨g', 0, none⟩) ws.length c') ws.length (u64s ws)) ∧ Hid (W'.heap.size ≤ g') ∧ Hid (Frm.Turn [] W' w'') from fun W' hW' =>
      (HW.out _ _ T0 (fun k hk => hk) W' hW').mono fun e w'' hc => by
        obtain ⟨g', c', he, q1, q2, q3⟩ := hc
        rw [HN.out] at he
        exact ⟨g', c', he, Lib.hid q1, Lib.hid q2, Lib.hid q3⟩)
    have HMP := Lib.hid (show ∀ W, Frm.Turn [] (w1.setCell ⟨b, 1, none⟩ (.int .u64 ((A.births : Int) + 1))) W → W.ownsMap Try.prog 32 hdr M.m (Maps.size D) D from fun W hT =>
      Lst.own_turn (Lst.own_turn (Lst.own_turn HD.out.own ((Frm.Turn.refl [] w).drewN nq) (by simp)) ((HP.out.2.2.1.mono (G := b :: M.Fs) (fun k hk => by simp [hk])).setCell (p := ⟨b, 1, none⟩) (Or.inl (by simp)) (.int .u64 ((A.births : Int) + 1))) (by
        have q1 := H.out.b_out.1
        have q2 := fun hc => H.out.side M.m hc (by simp)
        simp; exact ⟨fun e => q1 e.symm, q2⟩)) hT (by simp))
    have hwf : W64 (layH A) := by unfold layH; exact ⟨by omega, by omega⟩
    have HKEY := Lib.hid (key_u64 (layH A) hwf)
    have HSZ := Lib.hid (show Maps.size D < maxLen by
      have q1 := length_le_used (fun x hx => (H.out.ok.len x hx).1)
      have q2 := HD.out.size
      unfold maxLen; omega)
    have k11' : (w1.setCell ⟨b, 1, none⟩ (.int .u64 ((A.births : Int) + 1))).cell? ⟨b, 11, none⟩ = some (.map (some M.m)) := by rw [World.cell?_setCell_other _ _ _ _ (by simp)]; exact k11
    have HK11 := Lib.hid (show ∀ W, Frm.Turn [] (w1.setCell ⟨b, 1, none⟩ (.int .u64 ((A.births : Int) + 1))) W → W.cell? ⟨b, 11, none⟩ = some (.map (some M.m)) from fun W hT => hT.cell k11' (by simp))
    have HUP := Lib.hid (show ∀ W, Frm.Turn [] (w1.setCell ⟨b, 1, none⟩ (.int .u64 ((A.births : Int) + 1))) W → ∀ g' c', ∃ w4, (Instr.mapUpdate 53 (.map (some M.m)) (.int .u64 (layH A)) (.slice (some ⟨g', 0, none⟩) N c')).run Try.prog W = .ok () w4 ∧
        Hid (w4.ownsMap Try.prog 32 hdr M.m (Maps.size D + 1) (D.put (.int .u64 (layH A)) (hdat g' ws.length c'))) ∧ Hid (W.grownBy w4 (some M.m)) from fun W hT g' c' => by
      obtain ⟨w4, q1, q2, q3⟩ := (HMP.out _ hT).update keyU mapU HSZ.out HKEY.out (hdr_mk g' ws.length c')
      rw [HN.out] at q1
      exact ⟨w4, q1, Lib.hid q2, Lib.hid q3⟩)
    obtain ⟨W0, hW0⟩ : ∃ W0, W0 = w1.setCell ⟨b, 1, none⟩ (.int .u64 ((A.births : Int) + 1)) := ⟨_, rfl⟩
    rw [← hW0] at k11' T0 HC0 HUP HK11 ⊢
    have HW0 := Lib.hid hW0
    have HT0 := Lib.hid T0
    clear hW0 T0 k1 k11 kf1 hxx hkh hwf HMP
    go_cut [75] (fun s75 W => ∃ g' c' w3, s75 = .slice (some ⟨g', 0, none⟩) N c' ∧ LayCut w1 W0 w3 W M D A ws g' c')
    case first =>
      have k11d : W0.drew.cell? ⟨b, 11, none⟩ = some (.map (some M.m)) := k11'
      go_region_with ((go_at_call 54; (with_reducible refine (HC0.out _ ((Frm.Turn.refl [] W0).drew)).mono ?_); rintro e w3 ⟨g', c', rfl, HO3, HG3, HT3'⟩; have HT3 := Lib.hid (((Frm.Turn.refl [] W0).drew).trans HT3'.out (by simp)); have k3 := HK11.out w3 HT3.out; obtain ⟨w4, hrun4, HO4, HG4⟩ := HUP.out w3 HT3.out g' c'))
      all_goals go_wp2_with fail
      all_goals go_meet
      all_goals exact ⟨g', c', w3, rfl, ⟨HO3.out, HG3.out, HT3.out, HO4.out, HG4.out⟩⟩
    case rest =>
      obtain ⟨g', c', w3, rfl, hL⟩ := hcut
      have hLt := hL.turn
      rw [HW0.out] at hLt
      have HD' := Lib.hid (H.out.step ((Frm.Turn.refl [] w).drewN nq))
      obtain ⟨c13, f13⟩ := lay_cell HD'.out HP.out.2.2.1 hLt hL.grown (by omega) HCS.out.c13
      obtain ⟨c14, f14⟩ := lay_cell HD'.out HP.out.2.2.1 hLt hL.grown (by omega) HCS.out.c14
      obtain ⟨c16, f16⟩ := lay_cell HD'.out HP.out.2.2.1 hLt hL.grown (by omega) HCS.out.c16
      have HL := Lib.hid hL
      have HLT := Lib.hid hLt
      clear hL hLt k11'
      go_upto_region 16 with fail
      go_cut [96] (fun s96 W => s96 = .pointer (some ⟨b, 14, none⟩) ∧ W = ((wc.setCell ⟨b, 13, none⟩ (.int .i64 ((used A.L : Int) + (N : Int)))).setCell ⟨b, 14, none⟩ (.int .i64 ((max A.peak (used A.L + N) : Nat) : Int))).drew)
      case first =>
        rename_i J K' hRJ hMK
        have hmax := Lib.hid (lay_max A.peak (used A.L) N)
        have HMK := Lib.hid hMK
        have HRJ := Lib.hid hRJ
        clear hMK hRJ
        go_region
        all_goals rw [hmax.out]
        all_goals dsimp only [Exit.then]
        all_goals refine HMK.out _ _ (Met.intro (HRJ.out _ _ ?_))
        all_goals (repeat apply Exists.intro)
        all_goals exact ⟨⟨rfl, rfl⟩, rfl⟩
      case rest =>
        obtain ⟨rfl, rfl⟩ := hcut
        go_wp2
        go_ret2
        refine ⟨rfl, ?_⟩
        have hT1 := HP.out.2.2.1
        have hnew : w1.heap.size ≤ g' := by
          have q := HL.out.new
          rw [HW0.out] at q
          simpa using q
        have hres := lay_done HD'.out HM.out HU.out (HD.out.turn ((Frm.Turn.refl [] w).drewN nq) (by simp)) HP.out.1 HP.out.2.1 hT1 HP.out.2.2.2 HL.out.own3 hnew HLT.out HL.out.own4 HL.out.grown (by rw [HN.out]; exact HH.out.1) (by rw [HN.out]; exact HH.out.2.1) (by rw [HN.out]; exact HH.out.2.2.1) HH.out.2.2.2.1 HH.out.2.2.2.2
        rw [HN.out] at hres
        obtain ⟨M', q1, q2, q3⟩ := hres
        exact ⟨M', q1.step ((Frm.Turn.refl [] _).drew), ((((Frm.Turn.refl [] w).drewN nq).mono (by simp)).trans q2 (fun k hk => Or.inl hk)).drew, q3⟩
  · exact (lay_full H.out.ok HM.out HU.out hf).elim
end Arn
end Go.Proofs.Ytgodlddbocmcmaa
