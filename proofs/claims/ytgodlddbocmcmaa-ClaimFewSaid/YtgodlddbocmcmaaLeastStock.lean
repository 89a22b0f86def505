/- A stock in memory, and what its methods do: New, Used, Len, High, Take, Give. -/
import Derived.Test.YtgodlddbocmcmaaLeastPush
import Derived.Test.YtgodlddbocmcmaaLeastStockPlain
import Derived.Maps.OwnSet
import Derived.Maps.OwnOps
set_option linter.unusedVariables false
set_option linter.unusedSimpArgs false
namespace Go.Proofs.Ytgodlddbocmcmaa
namespace Lst
open Go.RowKit Hp Go.Maps

theorem keyI : Keyed Try.prog 3 := int_keyed (q := .i64) (by kernel_rfl)
theorem mapT : Try.prog.underlying 68 = some (.map 3 102) := by kernel_rfl
theorem zeroU (w : World) : (zeroValue 102).run Try.prog w = .ok (.agg #[]) w := by kernel_rfl
theorem key_of (k : Int) (h : (Lit.int .i64 k).wf = true) : keyOf Try.prog 3 (.int .i64 k) = some (.int .i64 k) := keyOf_int_mk (by kernel_rfl) h

/-- Block m is the set of those numbers that are in use. -/
structure SetAt (w : World) (m : Nat) (S : St) (D : DataW Unit) : Prop where
  own : w.ownsMap Try.prog 3 (unitElem (H := Unit)) m (Maps.size D) D
  has : ∀ k : Int, Maps.has D (.int .i64 k) = S.used k
  size : Maps.size D + S.back.length = S.high
/-- Block b is a stock S; F: the blocks that it lies in. -/
structure StockAt (w : World) (b : Nat) (F : List Nat) (S : St) : Prop where
  ok : S.Ok
  most : w.cell? ⟨b, 0, none⟩ = some (.int .i64 (S.most : Int))
  high : w.cell? ⟨b, 1, none⟩ = some (.int .i64 (S.high : Int))
  thaw : ∀ o, w.frozen? ⟨b, o, none⟩ = false
  parts : ∃ m G, F = b :: m :: G ∧ Rv w b 2 G S.back ∧ b ∉ G ∧ w.cell? ⟨b, 3, none⟩ = some (.map (some m)) ∧ ∃ D, SetAt w m S D

theorem own_tight {w : World} {P : Program} {k : TypeId} {R : Value → Option (DataW Unit × List MemPlace)} {m n : Nat} {D : DataW Unit} (h : w.ownsMap P k R m n D) : w.ownsMap P k R m (Maps.size D) D := by
  obtain ⟨es, clock, hb, F, hs, rfl⟩ := h
  refine ⟨es, clock, hb, F, ?_, rfl⟩
  simp [Maps.size, length_sorted]
theorem own_turn {w w' : World} {P : Program} {k : TypeId} {R : Value → Option (DataW Unit × List MemPlace)} {m n : Nat} {D : DataW Unit} {F : List Nat} (h : w.ownsMap P k R m n D) (ht : Frm.Turn F w w') (hn : m ∉ F) : w'.ownsMap P k R m n D := by
  obtain ⟨es, clock, hb, r⟩ := h
  exact ⟨es, clock, ht.keep hb hn, r⟩
theorem Rw.turn {w w' : World} {b off g c : Nat} {l F : List Nat} (h : Rw w b off g c l) (ht : Frm.Turn F w w') (hb : b ∉ F) (hg : g ∉ F) : Rw w' b off g c l := by
  obtain ⟨cur, h1, h2⟩ := h.row
  exact ⟨ht.cell h.cell hb, (ht.frozen (a := ⟨b, off, none⟩) h.b_lt hb).trans h.thaw, ⟨cur, ht.keep h1 hg, h2⟩, h.room, h.fit, h.ne, h.few⟩
theorem Rv.turn {w w' : World} {b off : Nat} {l F G : List Nat} (h : Rv w b off G l) (ht : Frm.Turn F w w') (hb : b ∉ F) (hG : ∀ k, k ∈ G → k ∉ F) : Rv w' b off G l := by
  rcases h with ⟨h1, h2, h3, h4⟩ | ⟨g, c, rfl, h⟩
  · exact Or.inl ⟨h1, h2, ht.cell h3 hb, (ht.frozen (a := ⟨b, off, none⟩) (World.block_lt_of_cell? w _ h3) hb).trans h4⟩
  · exact Or.inr ⟨g, c, rfl, h.turn ht hb (hG g (by simp))⟩
theorem StockAt.b_lt {w : World} {b : Nat} {F : List Nat} {S : St} (h : StockAt w b F S) : b < w.heap.size := World.block_lt_of_cell? w _ h.most
/-- A stock stays what it is where none of its blocks turns. -/
theorem StockAt.turn {w w' : World} {b : Nat} {F G : List Nat} {S : St} (h : StockAt w b F S) (ht : Frm.Turn G w w') (hn : ∀ k, k ∈ F → k ∉ G) : StockAt w' b F S := by
  obtain ⟨m, R, rfl, hR, hbR, hm, D, hD⟩ := h.parts
  have hb : b ∉ G := hn b (by simp)
  exact ⟨h.ok, ht.cell h.most hb, ht.cell h.high hb, fun o => (ht.frozen (a := ⟨b, o, none⟩) h.b_lt hb).trans (h.thaw o), m, R, rfl, hR.turn ht hb (fun k hk => hn k (by simp [hk])), hbR, ht.cell hm hb, D, own_turn hD.own ht (hn m (by simp)), hD.has, hD.size⟩
theorem SetAt.ne_cell {w : World} {m : Nat} {S : St} {D : DataW Unit} (h : SetAt w m S D) {a : Addr} {v : Value} (hc : w.cell? a = some v) : m ≠ a.block := by
  obtain ⟨es, clock, hb, _⟩ := h.own
  intro e; subst e
  simp [World.cell?, hb] at hc
theorem Rv.ne_map {w : World} {b off : Nat} {G l : List Nat} (h : Rv w b off G l) {m : Nat} {S : St} {D : DataW Unit} (hD : SetAt w m S D) : m ∉ G := by
  rcases h with ⟨_, rfl, _⟩ | ⟨g, c, rfl, h⟩
  · simp
  · obtain ⟨es, clock, hb, _⟩ := hD.own
    obtain ⟨cur, hg, _⟩ := h.row
    simp; intro e; subst e
    rw [hb] at hg; cases hg

/-- A row stays what it is while another cell of the block that points to it is written. -/
theorem Rv.set_other {w : World} {b off o : Nat} {G l : List Nat} (h : Rv w b off G l) (ho : o ≠ off) (v : Value) : Rv (w.setCell ⟨b, o, none⟩ v) b off G l := by
  have hne : (⟨b, o, none⟩ : Addr) ≠ ⟨b, off, none⟩ := fun e => ho (by simpa using congrArg Addr.off e)
  rcases h with ⟨h1, h2, h3, h4⟩ | ⟨g, c, rfl, h⟩
  · exact Or.inl ⟨h1, h2, by rw [World.cell?_setCell_other _ _ _ _ hne]; exact h3, by rw [World.frozen?_setCell]; exact h4⟩
  · obtain ⟨cur, q1, q2⟩ := h.row
    exact Or.inr ⟨g, c, rfl, ⟨by rw [World.cell?_setCell_other _ _ _ _ hne]; exact h.cell, by rw [World.frozen?_setCell]; exact h.thaw, ⟨cur, by rw [Below.heap_setCell _ _ _ _ h.ne]; exact q1, q2⟩, h.room, h.fit, h.ne, h.few⟩⟩
theorem Rv.drewN {w : World} {b off : Nat} {G l : List Nat} (h : Rv w b off G l) (k : Nat) : Rv (w.drewN k) b off G l :=
  h.imp id (fun ⟨g, c, e, h⟩ => ⟨g, c, e, h.drewN k⟩)
theorem used_any (b : Nat) (F : List Nat) (S : St) (k : Int) (w : World) (h : StockAt w b F S) (hk : (Lit.int .i64 k).wf = true) :
    Calls Try.prog 62 #[.pointer (some ⟨b, 0, none⟩), .int .i64 k] w fun e w' => e = .returned (.bool (S.used k)) ∧ Frm.Turn [] w w' := by
  obtain ⟨m, R, rfl, hR, hbR, hm, D, hD⟩ := h.parts
  have hown := hD.own
  have H := Lib.hid (hD.has k)
  go_enter Try.func62, Try.ntmps62
  go_wp2_with (at_lookup; refine wpList_lookup_own_unit _ rfl _ _ 68 rfl 3 102 keyI mapT (zeroU _) m _ D rfl hown _ _ rfl (key_of k hk) ?_)
  go_ret
  exact ⟨by rw [H.out]; rfl, (Frm.Turn.refl _ _).alloc _⟩
theorem used_nil (k : Int) (w : World) : Calls Try.prog 62 #[.pointer none, .int .i64 k] w fun e w' => e = .returned (.bool false) ∧ w = w' := by
  go_enter Try.func62, Try.ntmps62
  go_wp2
  go_ret
  exact ⟨rfl, rfl⟩
theorem new_no (most : Int) (w : World) (h : most < 0 ∨ 65535 < most) :
    Calls Try.prog 18 #[.int .i64 most] w fun e w' => e = .returned (.tuple #[.pointer none, .int .i64 2]) ∧ w = w' := by
  rcases h with h | h
  · go_enter Try.func18, Try.ntmps18
    go_wp2
    go_ret2
    exact ⟨rfl, rfl⟩
  · have h0 : decide (most < 0) = false := by simp; omega
    go_enter Try.func18, Try.ntmps18
    go_wp2
    go_ret2
    exact ⟨rfl, rfl⟩
theorem new_yes (most : Nat) (w : World) (h : most ≤ 65535) :
    Calls Try.prog 18 #[.int .i64 (most : Int)] w fun e w' => ∃ b F, e = .returned (.tuple #[.pointer (some ⟨b, 0, none⟩), .int .i64 0]) ∧ StockAt w' b F ⟨most, 0, []⟩ ∧ Frm.Turn [] w w' ∧ ∀ k, k ∈ F → w.heap.size ≤ k := by
  have h0 : decide ((most : Int) < 0) = false := by simp
  have h1 : decide (65535 < (most : Int)) = false := by simp; omega
  have hmm := @run_makeMap Try.prog
  go_enter Try.func18, Try.ntmps18
  go_wp2
  go_ret2
  refine ⟨w.heap.size + 1, [w.heap.size + 1, w.heap.size], rfl, ⟨ok_new most h, ?_, ?_, fun o => ?_, w.heap.size, [], rfl, Or.inl ⟨rfl, rfl, ?_, ?_⟩, by simp, ?_, .map [], ?_, fun k => ?_, rfl⟩, ((Frm.Turn.refl _ _).alloc _).alloc _, fun k hk => by simp at hk; omega⟩
  · have := World.cell?_alloc_new (w.alloc (.map #[] 0)) #[.int .i64 (most : Int), .int .i64 0, .slice none 0 0, .map (some w.heap.size)] 71 0
    rw [World.size_alloc] at this; exact this
  · have := World.cell?_alloc_new (w.alloc (.map #[] 0)) #[.int .i64 (most : Int), .int .i64 0, .slice none 0 0, .map (some w.heap.size)] 71 1
    rw [World.size_alloc] at this; exact this
  · have := World.frozen?_alloc_new (w.alloc (.map #[] 0)) #[.int .i64 (most : Int), .int .i64 0, .slice none 0 0, .map (some w.heap.size)] 71 o
    rw [World.size_alloc] at this; exact this
  · have := World.cell?_alloc_new (w.alloc (.map #[] 0)) #[.int .i64 (most : Int), .int .i64 0, .slice none 0 0, .map (some w.heap.size)] 71 2
    rw [World.size_alloc] at this; exact this
  · have := World.frozen?_alloc_new (w.alloc (.map #[] 0)) #[.int .i64 (most : Int), .int .i64 0, .slice none 0 0, .map (some w.heap.size)] 71 2
    rw [World.size_alloc] at this; exact this
  · have := World.cell?_alloc_new (w.alloc (.map #[] 0)) #[.int .i64 (most : Int), .int .i64 0, .slice none 0 0, .map (some w.heap.size)] 71 3
    rw [World.size_alloc] at this; exact this
  · exact (World.ownsMap_made w _ _ _).alloc _
  · rw [used_new]; rfl

/-- Between 'next' and the store into the set: the cells are those of S', the set is still that of S. -/
structure MidAt (w w' : World) (b m : Nat) (G G' : List Nat) (S S' : St) : Prop where
  most : w'.cell? ⟨b, 0, none⟩ = some (.int .i64 (S'.most : Int))
  high : w'.cell? ⟨b, 1, none⟩ = some (.int .i64 (S'.high : Int))
  thaw : ∀ o, w'.frozen? ⟨b, o, none⟩ = false
  rv : Rv w' b 2 G' S'.back
  bG : b ∉ G'
  map : w'.cell? ⟨b, 3, none⟩ = some (.map (some m))
  set : ∀ D, SetAt w m S D → SetAt w' m S D
  turn : Frm.Turn (b :: G) w w'
  fresh : ∀ k, k ∈ G' → k ∈ G ∨ w.heap.size ≤ k
def NextEnd (w : World) (b m : Nat) (G : List Nat) (S : St) (e : Ending) (w' : World) : Prop :=
  (∃ (x : Nat) (S' : St) (G' : List Nat), e = .returned (.tuple #[.int .i64 (x : Int), .bool true]) ∧ Took S x S' ∧ MidAt w w' b m G G' S S') ∨
  (e = .returned (.tuple #[.int .i64 0, .bool false]) ∧ S.back = [] ∧ S.high = S.most ∧ ∃ k, w' = w.drewN k)

theorem bool_assert (x : Int) (w : World) : (Instr.typeAssert (.iface 3 (.int .i64 x)) 20 3 false).run Try.prog w = .ok (.int .i64 x) w := assert_int x w

set_option maxHeartbeats 1000000 in
theorem next_back (b m : Nat) (G : List Nat) (S : St) (w : World) (hok : S.Ok) (hm : w.cell? ⟨b, 0, none⟩ = some (.int .i64 (S.most : Int))) (hh : w.cell? ⟨b, 1, none⟩ = some (.int .i64 (S.high : Int)))
    (ht : ∀ o, w.frozen? ⟨b, o, none⟩ = false) (hR : Rv w b 2 G S.back) (hbG : b ∉ G) (hmap : w.cell? ⟨b, 3, none⟩ = some (.map (some m))) (D : DataW Unit) (hD : SetAt w m S D) (hne : S.back ≠ []) :
    Calls Try.prog 56 #[.pointer (some ⟨b, 0, none⟩)] w (NextEnd w b m G S) := by
  have hmG := hR.ne_map hD
  have hmb := hD.ne_cell hm
  rcases hR with ⟨h1, _⟩ | ⟨g, c, rfl, hR⟩
  · exact absurd h1 hne
  obtain ⟨n, hl⟩ : ∃ n, S.back.length = n + 1 := by
    cases hb : S.back with
    | nil => exact absurd hb hne
    | cons a l => exact ⟨l.length, by simp⟩
  have hcell := hR.cell
  rw [hl] at hcell
  have HP := Lib.hid (heap_pop b 2 g c n S.back w hR hl hok.heap)
  have h0 : decide ((0 : Int) < (n : Int) + 1) = true := by rw [decide_eq_true_eq]; omega
  have has := assert_int
  have HR := Lib.hid hR
  have HM := Lib.hid hm
  have HH := Lib.hid hh
  have HT := Lib.hid ht
  have HX := Lib.hid hmap
  have HE := Lib.hid hmb
  clear hl hR hm hh ht hmap hmb
  go_enter Try.func56, Try.ntmps56
  go_wp2_with (go_at_call 58; (with_reducible refine (HP.out).mono ?_); rintro e w' ⟨x, l', rfl, hR', hp', hmin', hh', hT', hK'⟩)
  go_ret2
  refine Or.inl ⟨x, { S with back := l' }, [g], rfl, took_back hok hp' hmin' hh', ?_⟩
  have hmF : m ∉ [b, g] := by
    intro hc; simp at hc
    rcases hc with rfl | rfl
    · exact HE.out rfl
    · simp at hmG
  refine ⟨(hK'.cell 0 (by omega)).trans HM.out, (hK'.cell 1 (by omega)).trans HH.out, fun o => (hK'.frozen o).trans (HT.out o), Or.inr ⟨g, c, rfl, hR'⟩, hbG, (hK'.cell 3 (by omega)).trans HX.out, fun D0 h => ⟨own_turn h.own hT' hmF, h.has, h.size⟩, hT', fun k hk => Or.inl hk⟩

set_option maxHeartbeats 1000000 in
theorem next_new (b m : Nat) (G : List Nat) (S : St) (w : World) (hok : S.Ok) (hm : w.cell? ⟨b, 0, none⟩ = some (.int .i64 (S.most : Int))) (hh : w.cell? ⟨b, 1, none⟩ = some (.int .i64 (S.high : Int)))
    (ht : ∀ o, w.frozen? ⟨b, o, none⟩ = false) (hR : Rv w b 2 G S.back) (hbG : b ∉ G) (hmap : w.cell? ⟨b, 3, none⟩ = some (.map (some m))) (D : DataW Unit) (hD : SetAt w m S D) (hne : S.back = []) :
    Calls Try.prog 56 #[.pointer (some ⟨b, 0, none⟩)] w (NextEnd w b m G S) := by
  have hmb := hD.ne_cell hm
  obtain ⟨ao, c, hc, _⟩ := hR.owns
  rw [hne] at hc
  have h1 := hok.high
  have h2 := hok.most
  have HOK := Lib.hid hok
  have HR := Lib.hid hR
  have HE := Lib.hid hmb
  have HN := Lib.hid hne
  have h1' : (S.high : Int) ≤ S.most := by omega
  have h2' : (S.most : Int) ≤ 65535 := by omega
  have ht1 := ht 1
  have HT := Lib.hid ht
  clear hmb hok hR hne ht
  by_cases hlt : S.high < S.most
  · have hlt' : decide ((S.most : Int) ≤ (S.high : Int)) = false := by simp; omega
    go_enter Try.func56, Try.ntmps56
    go_wp2
    go_quiet (fail)
    go_wp2
    go_ret2
    have hmF : m ∉ [b] := by simpa using HE.out
    have hoth : ∀ (o : Nat) (v : Value), 1 ≠ o → w.cell? ⟨b, o, none⟩ = some v → ((w.drewN nq).setCell ⟨b, 1, none⟩ (.int .i64 ((S.high : Int) + 1))).cell? ⟨b, o, none⟩ = some v := fun o v ho h => by
      rw [World.cell?_setCell_other _ _ _ _ (fun e => ho (by simpa using congrArg Addr.off e))]; exact h
    have hsame : ((w.drewN nq).setCell ⟨b, 1, none⟩ (.int .i64 ((S.high : Int) + 1))).cell? ⟨b, 1, none⟩ = some (.int .i64 ((S.high : Int) + 1)) := World.cell?_setCell_same (w.drewN nq) _ _ hh
    have hT : Frm.Turn [b] w ((w.drewN nq).setCell ⟨b, 1, none⟩ (.int .i64 ((S.high : Int) + 1))) := ((Frm.Turn.refl [b] w).drewN nq).setCell (Or.inl (by simp)) _
    exact Or.inl ⟨S.high + 1, { S with high := S.high + 1 }, G, by go_num, took_new HOK.out HN.out hlt, hoth 0 _ (by omega) hm, by rw [hsame]; rfl, fun o => (World.frozen?_setCell (w.drewN nq) _ _ _).trans (HT.out o),
      (HR.out.drewN nq).set_other (by omega) _, hbG, hoth 3 _ (by omega) hmap, fun D0 h => ⟨own_turn h.own hT hmF, h.has, h.size⟩, hT.mono (fun k hk => by simp at hk; simp [hk]), fun k hk => Or.inl hk⟩
  · have hlt' : decide ((S.most : Int) ≤ (S.high : Int)) = true := by simp; omega
    go_enter Try.func56, Try.ntmps56
    go_wp2
    go_quiet (fail)
    go_wp2
    go_ret2
    exact Or.inr ⟨rfl, HN.out, by omega, _, rfl⟩

theorem next_any (b m : Nat) (G : List Nat) (S : St) (w : World) (hok : S.Ok) (hm : w.cell? ⟨b, 0, none⟩ = some (.int .i64 (S.most : Int))) (hh : w.cell? ⟨b, 1, none⟩ = some (.int .i64 (S.high : Int)))
    (ht : ∀ o, w.frozen? ⟨b, o, none⟩ = false) (hR : Rv w b 2 G S.back) (hbG : b ∉ G) (hmap : w.cell? ⟨b, 3, none⟩ = some (.map (some m))) (D : DataW Unit) (hD : SetAt w m S D) :
    Calls Try.prog 56 #[.pointer (some ⟨b, 0, none⟩)] w (NextEnd w b m G S) := by
  by_cases hne : S.back = []
  · exact next_new b m G S w hok hm hh ht hR hbG hmap D hD hne
  · exact next_back b m G S w hok hm hh ht hR hbG hmap D hD hne
end Lst
end Go.Proofs.Ytgodlddbocmcmaa
