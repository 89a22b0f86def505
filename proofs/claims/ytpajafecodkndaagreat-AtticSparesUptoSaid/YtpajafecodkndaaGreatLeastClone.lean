/- A stock in memory, and what its methods do: New, Used, Len, High, Take, Give. -/
/- A stock in memory: Take and Give. -/
/- A stock that a caller has made, alone in new memory: its methods. -/
/- A copy of a stock: slices.Clone, maps.Clone, Clone. -/
import Derived.Test.YtpajafecodkndaaGreatLeastPush
import Derived.Test.YtpajafecodkndaaGreatLeastStockPlain
import Derived.Maps.OwnSet
import Derived.Maps.OwnOps
import Derived.Test.YtpajafecodkndaaGreatLeastAppend
import Derived.Shelf.SlMaps.Clone
import Derived.Lib.SliceRun
import Derived.Deep.RegionHeld3
import Derived.Deep.DrawnRows
set_option linter.unusedVariables false
set_option linter.unusedSimpArgs false
namespace Go.Proofs.YtpajafecodkndaaGreat
namespace Lst
open Go.RowKit Hp Go.Maps

theorem keyI : Keyed Tryz.prog 3 := int_keyed (q := .i64) (by kernel_rfl)
theorem mapT : Tryz.prog.underlying 200 = some (.map 3 198) := by kernel_rfl
theorem zeroU (w : World) : (zeroValue 198).run Tryz.prog w = .ok (.agg #[]) w := by kernel_rfl
theorem key_of (k : Int) (h : (Lit.int .i64 k).wf = true) : keyOf Tryz.prog 3 (.int .i64 k) = some (.int .i64 k) := keyOf_int_mk (by kernel_rfl) h

/-- Block m is the set of those numbers that are in use. -/
structure SetAt (w : World) (m : Nat) (S : St) (D : DataW Unit) : Prop where
  own : w.ownsMap Tryz.prog 3 (unitElem (H := Unit)) m (Maps.size D) D
  has : ∀ k : Int, Maps.has D (.int .i64 k) = S.used k
  size : Maps.size D + S.back.length = S.high
/-- Block b is a stock S; F: the blocks that it lies in. -/
structure StockAt (w : World) (b : Nat) (F : List Nat) (S : St) : Prop where
  ok : S.Ok
  most : w.cell? ⟨b, 0, none⟩ = some (.int .i64 (S.most : Int))
  high : w.cell? ⟨b, 1, none⟩ = some (.int .i64 (S.high : Int))
  thaw : ∀ o, w.frozen? ⟨b, o, none⟩ = false
  parts : ∃ m G, F = b :: m :: G ∧ Rv w b 2 G S.back ∧ b ∉ G ∧ w.cell? ⟨b, 3, none⟩ = some (.map (some m)) ∧ ∃ D, SetAt w m S D

theorem own_tight {w : World} {P : Program} {k : TypeId} {R : Value → Option (DataW Unit × List MemPlace)} {m n : Nat} {D : DataW Unit} (h : w.ownsMap P k R m n D) : w.ownsMap P k R m (Maps.size D) D := by
  obtain ⟨es, clock, hb, F, hs, rfl⟩ := h
  refine ⟨es, clock, hb, F, ?_, rfl⟩
  simp [Maps.size, length_sorted]
theorem own_turn {w w' : World} {P : Program} {k : TypeId} {R : Value → Option (DataW Unit × List MemPlace)} {m n : Nat} {D : DataW Unit} {F : List Nat} (h : w.ownsMap P k R m n D) (ht : Frm.Turn F w w') (hn : m ∉ F) : w'.ownsMap P k R m n D := by
  obtain ⟨es, clock, hb, r⟩ := h
  exact ⟨es, clock, ht.keep hb hn, r⟩
theorem Rw.turn {w w' : World} {b off g c : Nat} {l F : List Nat} (h : Rw w b off g c l) (ht : Frm.Turn F w w') (hb : b ∉ F) (hg : g ∉ F) : Rw w' b off g c l := by
  obtain ⟨cur, h1, h2⟩ := h.row
  exact ⟨ht.cell h.cell hb, (ht.frozen (a := ⟨b, off, none⟩) h.b_lt hb).trans h.thaw, ⟨cur, ht.keep h1 hg, h2⟩, h.room, h.fit, h.ne, h.few⟩
theorem Rv.turn {w w' : World} {b off : Nat} {l F G : List Nat} (h : Rv w b off G l) (ht : Frm.Turn F w w') (hb : b ∉ F) (hG : ∀ k, k ∈ G → k ∉ F) : Rv w' b off G l := by
  rcases h with ⟨h1, h2, h3, h4⟩ | ⟨g, c, rfl, h⟩
  · exact Or.inl ⟨h1, h2, ht.cell h3 hb, (ht.frozen (a := ⟨b, off, none⟩) (World.block_lt_of_cell? w _ h3) hb).trans h4⟩
  · exact Or.inr ⟨g, c, rfl, h.turn ht hb (hG g (by simp))⟩
theorem StockAt.b_lt {w : World} {b : Nat} {F : List Nat} {S : St} (h : StockAt w b F S) : b < w.heap.size := World.block_lt_of_cell? w _ h.most
/-- A stock stays what it is where none of its blocks turns. -/
theorem StockAt.turn {w w' : World} {b : Nat} {F G : List Nat} {S : St} (h : StockAt w b F S) (ht : Frm.Turn G w w') (hn : ∀ k, k ∈ F → k ∉ G) : StockAt w' b F S := by
  obtain ⟨m, R, rfl, hR, hbR, hm, D, hD⟩ := h.parts
  have hb : b ∉ G := hn b (by simp)
  exact ⟨h.ok, ht.cell h.most hb, ht.cell h.high hb, fun o => (ht.frozen (a := ⟨b, o, none⟩) h.b_lt hb).trans (h.thaw o), m, R, rfl, hR.turn ht hb (fun k hk => hn k (by simp [hk])), hbR, ht.cell hm hb, D, own_turn hD.own ht (hn m (by simp)), hD.has, hD.size⟩
theorem SetAt.ne_cell {w : World} {m : Nat} {S : St} {D : DataW Unit} (h : SetAt w m S D) {a : Addr} {v : Value} (hc : w.cell? a = some v) : m ≠ a.block := by
  obtain ⟨es, clock, hb, _⟩ := h.own
  intro e; subst e
  simp [World.cell?, hb] at hc
theorem Rv.ne_map {w : World} {b off : Nat} {G l : List Nat} (h : Rv w b off G l) {m : Nat} {S : St} {D : DataW Unit} (hD : SetAt w m S D) : m ∉ G := by
  rcases h with ⟨_, rfl, _⟩ | ⟨g, c, rfl, h⟩
  · simp
  · obtain ⟨es, clock, hb, _⟩ := hD.own
    obtain ⟨cur, hg, _⟩ := h.row
    simp; intro e; subst e
    rw [hb] at hg; cases hg

/-- A row stays what it is while another cell of the block that points to it is written. -/
theorem Rv.set_other {w : World} {b off o : Nat} {G l : List Nat} (h : Rv w b off G l) (ho : o ≠ off) (v : Value) : Rv (w.setCell ⟨b, o, none⟩ v) b off G l := by
  have hne : (⟨b, o, none⟩ : Addr) ≠ ⟨b, off, none⟩ := fun e => ho (by simpa using congrArg Addr.off e)
  rcases h with ⟨h1, h2, h3, h4⟩ | ⟨g, c, rfl, h⟩
  · exact Or.inl ⟨h1, h2, by rw [World.cell?_setCell_other _ _ _ _ hne]; exact h3, by rw [World.frozen?_setCell]; exact h4⟩
  · obtain ⟨cur, q1, q2⟩ := h.row
    exact Or.inr ⟨g, c, rfl, ⟨by rw [World.cell?_setCell_other _ _ _ _ hne]; exact h.cell, by rw [World.frozen?_setCell]; exact h.thaw, ⟨cur, by rw [Below.heap_setCell _ _ _ _ h.ne]; exact q1, q2⟩, h.room, h.fit, h.ne, h.few⟩⟩
theorem Rv.drewN {w : World} {b off : Nat} {G l : List Nat} (h : Rv w b off G l) (k : Nat) : Rv (w.drewN k) b off G l :=
  h.imp id (fun ⟨g, c, e, h⟩ => ⟨g, c, e, h.drewN k⟩)
theorem used_any (b : Nat) (F : List Nat) (S : St) (k : Int) (w : World) (h : StockAt w b F S) (hk : (Lit.int .i64 k).wf = true) :
    Calls Tryz.prog 198 #[.pointer (some ⟨b, 0, none⟩), .int .i64 k] w fun e w' => e = .returned (.bool (S.used k)) ∧ Frm.Turn [] w w' := by
  obtain ⟨m, R, rfl, hR, hbR, hm, D, hD⟩ := h.parts
  have hown := hD.own
  have H := Lib.hid (hD.has k)
  go_enter Tryz.func198, Tryz.ntmps198
  go_wp2_with (at_lookup; refine wpList_lookup_own_unit _ rfl _ _ 200 rfl 3 198 keyI mapT (zeroU _) m _ D rfl hown _ _ rfl (key_of k hk) ?_)
  go_ret
  exact ⟨by rw [H.out]; rfl, (Frm.Turn.refl _ _).alloc _⟩
theorem used_nil (k : Int) (w : World) : Calls Tryz.prog 198 #[.pointer none, .int .i64 k] w fun e w' => e = .returned (.bool false) ∧ w = w' := by
  go_enter Tryz.func198, Tryz.ntmps198
  go_wp2
  go_ret
  exact ⟨rfl, rfl⟩
theorem new_no (most : Int) (w : World) (h : most < 0 ∨ 65535 < most) :
    Calls Tryz.prog 106 #[.int .i64 most] w fun e w' => e = .returned (.tuple #[.pointer none, .int .i64 2]) ∧ w = w' := by
  rcases h with h | h
  · go_enter Tryz.func106, Tryz.ntmps106
    go_wp2
    go_ret2
    exact ⟨rfl, rfl⟩
  · have h0 : decide (most < 0) = false := by simp; omega
    go_enter Tryz.func106, Tryz.ntmps106
    go_wp2
    go_ret2
    exact ⟨rfl, rfl⟩
theorem new_yes (most : Nat) (w : World) (h : most ≤ 65535) :
    Calls Tryz.prog 106 #[.int .i64 (most : Int)] w fun e w' => ∃ b F, e = .returned (.tuple #[.pointer (some ⟨b, 0, none⟩), .int .i64 0]) ∧ StockAt w' b F ⟨most, 0, []⟩ ∧ Frm.Turn [] w w' ∧ ∀ k, k ∈ F → w.heap.size ≤ k := by
  have h0 : decide ((most : Int) < 0) = false := by simp
  have h1 : decide (65535 < (most : Int)) = false := by simp; omega
  have hmm := @run_makeMap Tryz.prog
  go_enter Tryz.func106, Tryz.ntmps106
  go_wp2
  go_ret2
  refine ⟨w.heap.size + 1, [w.heap.size + 1, w.heap.size], rfl, ⟨ok_new most h, ?_, ?_, fun o => ?_, w.heap.size, [], rfl, Or.inl ⟨rfl, rfl, ?_, ?_⟩, by simp, ?_, .map [], ?_, fun k => ?_, rfl⟩, ((Frm.Turn.refl _ _).alloc _).alloc _, fun k hk => by simp at hk; omega⟩
  · have := World.cell?_alloc_new (w.alloc (.map #[] 0)) #[.int .i64 (most : Int), .int .i64 0, .slice none 0 0, .map (some w.heap.size)] 202 0
    rw [World.size_alloc] at this; exact this
  · have := World.cell?_alloc_new (w.alloc (.map #[] 0)) #[.int .i64 (most : Int), .int .i64 0, .slice none 0 0, .map (some w.heap.size)] 202 1
    rw [World.size_alloc] at this; exact this
  · have := World.frozen?_alloc_new (w.alloc (.map #[] 0)) #[.int .i64 (most : Int), .int .i64 0, .slice none 0 0, .map (some w.heap.size)] 202 o
    rw [World.size_alloc] at this; exact this
  · have := World.cell?_alloc_new (w.alloc (.map #[] 0)) #[.int .i64 (most : Int), .int .i64 0, .slice none 0 0, .map (some w.heap.size)] 202 2
    rw [World.size_alloc] at this; exact this
  · have := World.frozen?_alloc_new (w.alloc (.map #[] 0)) #[.int .i64 (most : Int), .int .i64 0, .slice none 0 0, .map (some w.heap.size)] 202 2
    rw [World.size_alloc] at this; exact this
  · have := World.cell?_alloc_new (w.alloc (.map #[] 0)) #[.int .i64 (most : Int), .int .i64 0, .slice none 0 0, .map (some w.heap.size)] 202 3
    rw [World.size_alloc] at this; exact this
  · exact (World.ownsMap_made w _ _ _).alloc _
  · rw [used_new]; rfl

/-- Between 'next' and the store into the set: the cells are those of S', the set is still that of S. -/
structure MidAt (w w' : World) (b m : Nat) (G G' : List Nat) (S S' : St) : Prop where
  most : w'.cell? ⟨b, 0, none⟩ = some (.int .i64 (S'.most : Int))
  high : w'.cell? ⟨b, 1, none⟩ = some (.int .i64 (S'.high : Int))
  thaw : ∀ o, w'.frozen? ⟨b, o, none⟩ = false
  rv : Rv w' b 2 G' S'.back
  bG : b ∉ G'
  map : w'.cell? ⟨b, 3, none⟩ = some (.map (some m))
  set : ∀ D, SetAt w m S D → SetAt w' m S D
  turn : Frm.Turn (b :: G) w w'
  fresh : ∀ k, k ∈ G' → k ∈ G ∨ w.heap.size ≤ k
def NextEnd (w : World) (b m : Nat) (G : List Nat) (S : St) (e : Ending) (w' : World) : Prop :=
  (∃ (x : Nat) (S' : St) (G' : List Nat), e = .returned (.tuple #[.int .i64 (x : Int), .bool true]) ∧ Took S x S' ∧ MidAt w w' b m G G' S S') ∨
  (e = .returned (.tuple #[.int .i64 0, .bool false]) ∧ S.back = [] ∧ S.high = S.most ∧ ∃ k, w' = w.drewN k)

theorem bool_assert (x : Int) (w : World) : (Instr.typeAssert (.iface 3 (.int .i64 x)) 20 3 false).run Tryz.prog w = .ok (.int .i64 x) w := assert_int x w

set_option maxHeartbeats 1000000 in
theorem next_back (b m : Nat) (G : List Nat) (S : St) (w : World) (hok : S.Ok) (hm : w.cell? ⟨b, 0, none⟩ = some (.int .i64 (S.most : Int))) (hh : w.cell? ⟨b, 1, none⟩ = some (.int .i64 (S.high : Int)))
    (ht : ∀ o, w.frozen? ⟨b, o, none⟩ = false) (hR : Rv w b 2 G S.back) (hbG : b ∉ G) (hmap : w.cell? ⟨b, 3, none⟩ = some (.map (some m))) (D : DataW Unit) (hD : SetAt w m S D) (hne : S.back ≠ []) :
    Calls Tryz.prog 107 #[.pointer (some ⟨b, 0, none⟩)] w (NextEnd w b m G S) := by
  have hmG := hR.ne_map hD
  have hmb := hD.ne_cell hm
  rcases hR with ⟨h1, _⟩ | ⟨g, c, rfl, hR⟩
  · exact absurd h1 hne
  obtain ⟨n, hl⟩ : ∃ n, S.back.length = n + 1 := by
    cases hb : S.back with
    | nil => exact absurd hb hne
    | cons a l => exact ⟨l.length, by simp⟩
  have hcell := hR.cell
  rw [hl] at hcell
  have HP := Lib.hid (heap_pop b 2 g c n S.back w hR hl hok.heap)
  have h0 : decide ((0 : Int) < (n : Int) + 1) = true := by rw [decide_eq_true_eq]; omega
  have has := assert_int
  have HR := Lib.hid hR
  have HM := Lib.hid hm
  have HH := Lib.hid hh
  have HT := Lib.hid ht
  have HX := Lib.hid hmap
  have HE := Lib.hid hmb
  clear hl hR hm hh ht hmap hmb
  go_enter Tryz.func107, Tryz.ntmps107
  go_wp2_with (go_at_call 132; (with_reducible refine (HP.out).mono ?_); rintro e w' ⟨x, l', rfl, hR', hp', hmin', hh', hT', hK'⟩)
  go_ret2
  refine Or.inl ⟨x, { S with back := l' }, [g], rfl, took_back hok hp' hmin' hh', ?_⟩
  have hmF : m ∉ [b, g] := by
    intro hc; simp at hc
    rcases hc with rfl | rfl
    · exact HE.out rfl
    · simp at hmG
  refine ⟨(hK'.cell 0 (by omega)).trans HM.out, (hK'.cell 1 (by omega)).trans HH.out, fun o => (hK'.frozen o).trans (HT.out o), Or.inr ⟨g, c, rfl, hR'⟩, hbG, (hK'.cell 3 (by omega)).trans HX.out, fun D0 h => ⟨own_turn h.own hT' hmF, h.has, h.size⟩, hT', fun k hk => Or.inl hk⟩

set_option maxHeartbeats 1000000 in
theorem next_new (b m : Nat) (G : List Nat) (S : St) (w : World) (hok : S.Ok) (hm : w.cell? ⟨b, 0, none⟩ = some (.int .i64 (S.most : Int))) (hh : w.cell? ⟨b, 1, none⟩ = some (.int .i64 (S.high : Int)))
    (ht : ∀ o, w.frozen? ⟨b, o, none⟩ = false) (hR : Rv w b 2 G S.back) (hbG : b ∉ G) (hmap : w.cell? ⟨b, 3, none⟩ = some (.map (some m))) (D : DataW Unit) (hD : SetAt w m S D) (hne : S.back = []) :
    Calls Tryz.prog 107 #[.pointer (some ⟨b, 0, none⟩)] w (NextEnd w b m G S) := by
  have hmb := hD.ne_cell hm
  obtain ⟨ao, c, hc, _⟩ := hR.owns
  rw [hne] at hc
  have h1 := hok.high
  have h2 := hok.most
  have HOK := Lib.hid hok
  have HR := Lib.hid hR
  have HE := Lib.hid hmb
  have HN := Lib.hid hne
  have h1' : (S.high : Int) ≤ S.most := by omega
  have h2' : (S.most : Int) ≤ 65535 := by omega
  have ht1 := ht 1
  have HT := Lib.hid ht
  clear hmb hok hR hne ht
  by_cases hlt : S.high < S.most
  · have hlt' : decide ((S.most : Int) ≤ (S.high : Int)) = false := by simp; omega
    go_enter Tryz.func107, Tryz.ntmps107
    go_wp2
    go_quiet (fail)
    go_wp2
    go_ret2
    have hmF : m ∉ [b] := by simpa using HE.out
    have hoth : ∀ (o : Nat) (v : Value), 1 ≠ o → w.cell? ⟨b, o, none⟩ = some v → ((w.drewN nq).setCell ⟨b, 1, none⟩ (.int .i64 ((S.high : Int) + 1))).cell? ⟨b, o, none⟩ = some v := fun o v ho h => by
      rw [World.cell?_setCell_other _ _ _ _ (fun e => ho (by simpa using congrArg Addr.off e))]; exact h
    have hsame : ((w.drewN nq).setCell ⟨b, 1, none⟩ (.int .i64 ((S.high : Int) + 1))).cell? ⟨b, 1, none⟩ = some (.int .i64 ((S.high : Int) + 1)) := World.cell?_setCell_same (w.drewN nq) _ _ hh
    have hT : Frm.Turn [b] w ((w.drewN nq).setCell ⟨b, 1, none⟩ (.int .i64 ((S.high : Int) + 1))) := ((Frm.Turn.refl [b] w).drewN nq).setCell (Or.inl (by simp)) _
    exact Or.inl ⟨S.high + 1, { S with high := S.high + 1 }, G, by go_num, took_new HOK.out HN.out hlt, hoth 0 _ (by omega) hm, by rw [hsame]; rfl, fun o => (World.frozen?_setCell (w.drewN nq) _ _ _).trans (HT.out o),
      (HR.out.drewN nq).set_other (by omega) _, hbG, hoth 3 _ (by omega) hmap, fun D0 h => ⟨own_turn h.own hT hmF, h.has, h.size⟩, hT.mono (fun k hk => by simp at hk; simp [hk]), fun k hk => Or.inl hk⟩
  · have hlt' : decide ((S.most : Int) ≤ (S.high : Int)) = true := by simp; omega
    go_enter Tryz.func107, Tryz.ntmps107
    go_wp2
    go_quiet (fail)
    go_wp2
    go_ret2
    exact Or.inr ⟨rfl, HN.out, by omega, _, rfl⟩

theorem next_any (b m : Nat) (G : List Nat) (S : St) (w : World) (hok : S.Ok) (hm : w.cell? ⟨b, 0, none⟩ = some (.int .i64 (S.most : Int))) (hh : w.cell? ⟨b, 1, none⟩ = some (.int .i64 (S.high : Int)))
    (ht : ∀ o, w.frozen? ⟨b, o, none⟩ = false) (hR : Rv w b 2 G S.back) (hbG : b ∉ G) (hmap : w.cell? ⟨b, 3, none⟩ = some (.map (some m))) (D : DataW Unit) (hD : SetAt w m S D) :
    Calls Tryz.prog 107 #[.pointer (some ⟨b, 0, none⟩)] w (NextEnd w b m G S) := by
  by_cases hne : S.back = []
  · exact next_new b m G S w hok hm hh ht hR hbG hmap D hD hne
  · exact next_back b m G S w hok hm hh ht hR hbG hmap D hD hne
end Lst
end Go.Proofs.YtpajafecodkndaaGreat

set_option linter.unusedVariables false
set_option linter.unusedSimpArgs false
namespace Go.Proofs.YtpajafecodkndaaGreat
namespace Lst
open Go.RowKit Hp Go.Maps

theorem wf_small {k : Int} (h0 : -1 ≤ k) (h1 : k ≤ 65536) : (Lit.int .i64 k).wf = true := by
  simp [Lit.wf, IntKind.min, IntKind.max, IntKind.bits, IntKind.signed]; omega
/-- Behind a store into the set: all of the stock again. -/
theorem stock_of_mid {w w' w'' : World} {b m : Nat} {G G' : List Nat} {S S' : St} {D' : DataW Unit} (hM : MidAt w w' b m G G' S S') (hok : S'.Ok) (ht : w'.mapTurned w'' m) (hb : m ≠ b) (hmG : m ∉ G')
    (hD : SetAt w'' m S' D') : StockAt w'' b (b :: m :: G') S' := by
  have hT := Frm.Turn.of_grown ht.grown
  have hbm : b ∉ (some m).toList := by simp; omega
  have hlt := World.block_lt_of_cell? w' _ hM.most
  exact ⟨hok, hT.cell hM.most hbm, hT.cell hM.high hbm, fun o => (hT.frozen (a := ⟨b, o, none⟩) hlt hbm).trans (hM.thaw o), m, G', rfl,
    hM.rv.turn hT hbm (fun k hk => by simp; intro e; subst e; exact hmG hk), hM.bG, hT.cell hM.map hbm, D', hD⟩
theorem set_put {w w' : World} {m : Nat} {S S' : St} {D : DataW Unit} {x : Nat} (h : SetAt w m S D) (ht : Took S x S') (n : Nat) (ho : w'.ownsMap Tryz.prog 3 (unitElem (H := Unit)) m n (D.put (.int .i64 (x : Int)) (.agg []))) : SetAt w' m S' (D.put (.int .i64 (x : Int)) (.agg [])) := by
  refine ⟨own_tight ho, fun k => ?_, ?_⟩
  · rw [ht.used]
    by_cases e : k = x
    · subst e; rw [has_put_same h.own.isMap (k := .int .i64 (x : Int)) trivial]; simp
    · rw [has_put_other (by simpa using e), h.has]; simp [e]
  · have hs := size_put (k := .int .i64 (x : Int)) (h.own.tidy keyI) (.agg [])
    rw [h.has, ht.free] at hs
    simp at hs
    have h1 := h.size
    have h2 := ht.len
    have h3 := ht.ok.few
    rw [hs]
    simp only [St.len] at h2
    omega
theorem set_del {w w' : World} {m : Nat} {S S' : St} {D : DataW Unit} {x : Int} (h : SetAt w m S D) (ht : Gave S x S') (n : Nat) (ho : w'.ownsMap Tryz.prog 3 (unitElem (H := Unit)) m n (D.del (.int .i64 x))) : SetAt w' m S' (D.del (.int .i64 x)) := by
  refine ⟨own_tight ho, fun k => ?_, ?_⟩
  · rw [ht.used]
    by_cases e : k = x
    · subst e; rw [has_del_same]; simp
    · rw [has_del_other (by simpa using e), h.has]; simp [e]
  · have hs := size_del (k := .int .i64 x) (h.own.tidy keyI)
    rw [h.has, ht.was] at hs
    simp at hs
    have h1 := h.size
    have h2 := ht.len
    have h3 := ht.ok.few
    have h4 := ht.high
    simp only [St.len] at h2
    omega

def TakeEnd (w : World) (b : Nat) (F : List Nat) (S : St) (e : Ending) (w' : World) : Prop :=
  (∃ (x : Nat) (S' : St) (F' : List Nat), e = .returned (.tuple #[.int .i64 (x : Int), .int .i64 0]) ∧ Took S x S' ∧ StockAt w' b F' S' ∧ Frm.Turn F w w' ∧ ∀ k, k ∈ F' → k ∈ F ∨ w.heap.size ≤ k) ∨
  (e = .returned (.tuple #[.int .i64 0, .int .i64 20]) ∧ S.len = S.most ∧ (∀ k : Int, 1 ≤ k → k ≤ S.most → S.used k = true) ∧ StockAt w' b F S ∧ Frm.Turn [] w w')

set_option maxHeartbeats 1000000 in
theorem take_any (b : Nat) (F : List Nat) (S : St) (w : World) (h : StockAt w b F S) :
    Calls Tryz.prog 61 #[.pointer (some ⟨b, 0, none⟩)] w (TakeEnd w b F S) := by
  obtain ⟨m, G, rfl, hR, hbG, hmap, D, hD⟩ := h.parts
  have HN := Lib.hid (next_any b m G S w h.ok h.most h.high h.thaw hR hbG hmap D hD)
  have HB := Lib.hid (hD.ne_cell h.most)
  have H := Lib.hid h
  have HD := Lib.hid hD
  clear hR hbG hmap hD h
  go_enter Tryz.func61, Tryz.ntmps61
  go_wp2_with fail
  refine (HN.out).mono ?_
  rintro e w1 (⟨x, S', G', rfl, ht, hM⟩ | ⟨rfl, hb, hh, k, rfl⟩)
  · have hmap := hM.map
    have hset := hM.set D HD.out
    have hown := hset.own
    have hsz : Maps.size D < maxLen := by
      have h1 := hset.size; have h2 := H.out.ok.high; have h3 := H.out.ok.most; unfold maxLen; omega
    have hwf : (Lit.int .i64 (x : Int)).wf = true := wf_small (by omega) (by have := ht.hi; have := H.out.ok.most; omega)
    have HM := Lib.hid hM
    have HT := Lib.hid ht
    have HS := Lib.hid hset
    clear hM ht hset
    go_wp2_with (at_mapUpdate; refine wpList_mapUpdate_in _ rfl _ _ _ 200 rfl 3 198 keyI mapT _ m _ D rfl hown hsz _ _ _ rfl rfl (key_of _ hwf) (.agg []) [] unitElem_mk ?_; intro w2 hown2 hturn2)
    go_ret2
    have hmG : m ∉ G' := HM.out.rv.ne_map HS.out
    have hT2 := Frm.Turn.of_grown hturn2.grown
    refine Or.inl ⟨x, S', b :: m :: G', rfl, HT.out, stock_of_mid HM.out HT.out.ok hturn2 HB.out hmG (set_put HS.out HT.out _ hown2), ?_, fun k hk => ?_⟩
    · exact (HM.out.turn.mono (fun k hk => by simp at hk ⊢; rcases hk with h | h <;> simp [h])).trans hT2 (fun k hk => by simp at hk; simp [hk])
    · simp at hk ⊢
      rcases hk with rfl | rfl | hk
      · simp
      · simp
      · rcases HM.out.fresh k hk with h | h <;> simp [h]
  · have HB' := Lib.hid hb
    have HH' := Lib.hid hh
    clear hb hh
    go_wp2
    go_ret2
    have hfull := full_of H.out.ok HB'.out (by have := HH'.out; omega)
    exact Or.inr ⟨rfl, hfull.1, hfull.2, H.out.turn ((Frm.Turn.refl [] w).drewN k) (by simp), (Frm.Turn.refl [] w).drewN k⟩
theorem take_nil (w : World) : Calls Tryz.prog 61 #[.pointer none] w fun e w' => e = .returned (.tuple #[.int .i64 0, .int .i64 1]) ∧ w = w' := by
  go_enter Tryz.func61, Tryz.ntmps61
  go_wp2
  go_ret2
  exact ⟨rfl, rfl⟩

def GiveEnd (w : World) (b : Nat) (F : List Nat) (S : St) (k : Int) (e : Ending) (w' : World) : Prop :=
  (∃ (S' : St) (F' : List Nat), e = .returned (.int .i64 0) ∧ Gave S k S' ∧ StockAt w' b F' S' ∧ Frm.Turn F w w' ∧ ∀ j, j ∈ F' → j ∈ F ∨ w.heap.size ≤ j) ∨
  (e = .returned (.int .i64 21) ∧ S.used k = false ∧ StockAt w' b F S ∧ Frm.Turn [] w w')

set_option maxHeartbeats 1000000 in
theorem give_any (b : Nat) (F : List Nat) (S : St) (k : Int) (w : World) (h : StockAt w b F S) (hk : (Lit.int .i64 k).wf = true) :
    Calls Tryz.prog 192 #[.pointer (some ⟨b, 0, none⟩), .int .i64 k] w (GiveEnd w b F S k) := by
  have HU := Lib.hid (used_any b F S k w h hk)
  have H := Lib.hid h
  clear h
  cases hu : S.used k with
  | false =>
    have HF := Lib.hid hu
    rw [hu] at HU
    clear hu
    go_enter Tryz.func192, Tryz.ntmps192
    go_wp2_with (go_at_call 198; (with_reducible refine (HU.out).mono ?_); rintro e w1 ⟨rfl, hT⟩)
    go_ret
    exact Or.inr ⟨rfl, HF.out, H.out.turn hT (by simp), hT⟩
  | true =>
    have HF := Lib.hid hu
    rw [hu] at HU
    clear hu
    go_enter Tryz.func192, Tryz.ntmps192
    go_wp2_with fail
    refine (HU.out).mono ?_
    rintro e w1 ⟨rfl, hT⟩
    have h1 := H.out.turn hT (by simp)
    obtain ⟨m, G, rfl, hR, hbG, hmap, D, hD⟩ := h1.parts
    have hown := hD.own
    have hth := h1.thaw
    have hxk : ((k.toNat : Nat) : Int) = k := by have := (used_iff S k).1 HF.out; omega
    have H1 := Lib.hid h1
    have HR := Lib.hid hR
    have HD := Lib.hid hD
    have HT := Lib.hid hT
    have HX := Lib.hid hxk
    have HTH := Lib.hid hth
    clear h1 hR hD hT hxk hth
    go_wp2_with (at_delete; refine wpList_delete_own _ rfl _ _ 200 3 rfl 198 keyI mapT _ m _ D rfl hown _ _ rfl (key_of k hk) ?_; intro w2 hown2 hturn2)
    have hT2 := Frm.Turn.of_grown hturn2.grown
    have hmb : m ≠ b := HD.out.ne_cell H1.out.most
    have hmG : m ∉ G := HR.out.ne_map HD.out
    have hbm : b ∉ (some m).toList := by simp; omega
    have hR2 : Rv w2 b 2 G S.back := HR.out.turn hT2 hbm (fun j hj => by simp; intro e; subst e; exact hmG hj)
    have hb2 : b < w2.heap.size := Nat.lt_of_lt_of_le H1.out.b_lt hT2.size
    have hfew : S.back.length ≤ 65535 := by have h1 := H1.out.ok.few; have h2 := H1.out.ok.high; have h3 := H1.out.ok.most; omega
    have hp := heap_push b 2 G S.back k.toNat w2 hR2 hb2 hbG H1.out.ok.heap hfew
    rw [HX.out] at hp
    refine hp.mono ?_
    rintro e w3 ⟨rfl, G', l', hR3, hp3, hh3, hT3, hK3, hf3⟩
    clear hp
    go_wp2
    go_ret
    have hG := gave_of H1.out.ok HF.out hp3 hh3
    have hmF : m ∉ b :: G := by simp; exact ⟨hmb, hmG⟩
    have hD2 := set_del HD.out hG _ hown2
    have hbG' : b ∉ G' := fun hc => by
      rcases hf3 b hc with h | h
      · exact hbG h
      · omega
    have hTT := HT.out
    refine Or.inl ⟨_, b :: m :: G', rfl, hG, ⟨hG.ok, (hK3.cell 0 (by omega)).trans (hT2.cell H1.out.most hbm), (hK3.cell 1 (by omega)).trans (hT2.cell H1.out.high hbm), fun o => ((hK3.frozen o).trans (hT2.frozen (a := ⟨b, o, none⟩) H1.out.b_lt hbm)).trans (HTH.out o),
      m, G', rfl, hR3, hbG', (hK3.cell 3 (by omega)).trans (hT2.cell hmap hbm), _, own_turn hD2.own hT3 hmF, hD2.has, hD2.size⟩, ?_, fun j hj => ?_⟩
    · exact (((hTT.mono (by simp)).trans hT2 (fun j hj => by simp at hj; simp [hj])).trans hT3 (fun j hj => by simp at hj; rcases hj with h | h <;> simp [h]))
    · simp at hj ⊢
      rcases hj with rfl | rfl | hj
      · simp
      · simp
      · have h1 := hTT.size
        have h2 := hT2.size
        rcases hf3 j hj with h | h
        · simp [h]
        · right; omega
theorem give_nil (k : Int) (w : World) : Calls Tryz.prog 192 #[.pointer none, .int .i64 k] w fun e w' => e = .returned (.int .i64 1) ∧ w = w' := by
  go_enter Tryz.func192, Tryz.ntmps192
  go_wp2
  go_ret
  exact ⟨rfl, rfl⟩
end Lst
end Go.Proofs.YtpajafecodkndaaGreat

set_option linter.unusedVariables false
set_option linter.unusedSimpArgs false
namespace Go.Proofs.YtpajafecodkndaaGreat
namespace Lst
open Go.RowKit Hp Go.Maps

/-- In w, which has come out of w0 without a turn in what was there, block b is a stock S in new blocks. -/
def Own (w0 w : World) (b : Nat) (S : St) : Prop := ∃ F, StockAt w b F S ∧ Frm.Turn [] w0 w ∧ ∀ k, k ∈ F → w0.heap.size ≤ k
theorem Own.turn {w0 w : World} {b : Nat} {S : St} (h : Own w0 w b S) : Frm.Turn [] w0 w := let ⟨_, _, ht, _⟩ := h; ht
theorem Own.ok {w0 w : World} {b : Nat} {S : St} (h : Own w0 w b S) : S.Ok := let ⟨_, hs, _⟩ := h; hs.ok
theorem Own.step {w0 w w' : World} {b : Nat} {S : St} (h : Own w0 w b S) (ht : Frm.Turn [] w w') : Own w0 w' b S :=
  let ⟨F, hs, h1, h2⟩ := h
  ⟨F, hs.turn ht (by simp), h1.trans ht (by simp), h2⟩
theorem Own.next {w0 w w' : World} {b : Nat} {F F' : List Nat} {S' : St} (h1 : Frm.Turn [] w0 w) (h2 : ∀ k, k ∈ F → w0.heap.size ≤ k) (hs : StockAt w' b F' S') (ht : Frm.Turn F w w') (hf : ∀ k, k ∈ F' → k ∈ F ∨ w.heap.size ≤ k) : Own w0 w' b S' :=
  ⟨F', hs, h1.trans ht (fun k hk => Or.inr (h2 k hk)), fun k hk => by
    rcases hf k hk with h | h
    · exact h2 k h
    · exact Nat.le_trans h1.size h⟩

theorem own_new (w0 : World) (most : Nat) (w : World) (h : most ≤ 65535) (h1 : Frm.Turn [] w0 w) :
    Calls Tryz.prog 106 #[.int .i64 (most : Int)] w fun e w' => ∃ b, e = .returned (.tuple #[.pointer (some ⟨b, 0, none⟩), .int .i64 0]) ∧ Own w0 w' b ⟨most, 0, []⟩ :=
  (new_yes most w h).mono fun _ _ ⟨b, F, e, hs, ht, hf⟩ => ⟨b, e, F, hs, h1.trans ht (by simp), fun k hk => Nat.le_trans h1.size (hf k hk)⟩
theorem own_used {w0 w : World} {b : Nat} {S : St} (h : Own w0 w b S) (k : Int) (t : Bool) (hk : (Lit.int .i64 k).wf = true) (ht : S.used k = t) :
    Calls Tryz.prog 198 #[.pointer (some ⟨b, 0, none⟩), .int .i64 k] w fun e w' => e = .returned (.bool t) ∧ Own w0 w' b S :=
  let ⟨F, hs, _⟩ := h
  (used_any b F S k w hs hk).mono fun _ _ ⟨e, ht'⟩ => ⟨by rw [e, ht], h.step ht'⟩
def TakeOwn (w0 : World) (b : Nat) (S : St) (e : Ending) (w' : World) : Prop :=
  (∃ (x : Nat) (S' : St), e = .returned (.tuple #[.int .i64 (x : Int), .int .i64 0]) ∧ Took S x S' ∧ Own w0 w' b S') ∨
  (e = .returned (.tuple #[.int .i64 0, .int .i64 20]) ∧ S.len = S.most ∧ (∀ k : Int, 1 ≤ k → k ≤ S.most → S.used k = true) ∧ Own w0 w' b S)
theorem own_take {w0 w : World} {b : Nat} {S : St} (h : Own w0 w b S) :
    Calls Tryz.prog 61 #[.pointer (some ⟨b, 0, none⟩)] w (TakeOwn w0 b S) :=
  let ⟨F, hs, h1, h2⟩ := h
  (take_any b F S w hs).mono fun _ _ he => he.imp (fun ⟨x, S', F', e, ht, hs', hT, hf⟩ => ⟨x, S', e, ht, Own.next h1 h2 hs' hT hf⟩) (fun ⟨e, a, c, _, hT⟩ => ⟨e, a, c, h.step hT⟩)
theorem own_take_is {w0 w : World} {b : Nat} {S : St} (h : Own w0 w b S) (x : Nat) (h1 : 1 ≤ x) (h2 : x ≤ S.most) (hu : S.used x = false) (hl : ∀ k : Int, 1 ≤ k → k < x → S.used k = true) :
    Calls Tryz.prog 61 #[.pointer (some ⟨b, 0, none⟩)] w fun e w' => e = .returned (.tuple #[.int .i64 (x : Int), .int .i64 0]) ∧ ∃ S', Took S x S' ∧ Own w0 w' b S' :=
  (own_take h).mono fun e w' he => by
    rcases he with ⟨y, S', e, ht, ho⟩ | ⟨_, _, hf, _⟩
    · have hyx : y = x := by
        rcases Nat.lt_trichotomy y x with hlt | he | hgt
        · have := hl y (by have := ht.lo; omega) (by omega)
          rw [ht.free] at this; cases this
        · exact he
        · have := ht.least x (by omega) (by omega)
          rw [hu] at this; cases this
      subst hyx
      exact ⟨e, S', ht, ho⟩
    · have := hf x (by omega) (by omega)
      rw [hu] at this; cases this
theorem own_take_full {w0 w : World} {b : Nat} {S : St} (h : Own w0 w b S) (hf : ∀ k : Int, 1 ≤ k → k ≤ S.most → S.used k = true) :
    Calls Tryz.prog 61 #[.pointer (some ⟨b, 0, none⟩)] w fun e w' => e = .returned (.tuple #[.int .i64 0, .int .i64 20]) ∧ Own w0 w' b S :=
  (own_take h).mono fun e w' he => by
    rcases he with ⟨y, S', e, ht, ho⟩ | ⟨e, _, _, ho⟩
    · have := hf y (by have := ht.lo; omega) (by have := ht.hi; omega)
      rw [ht.free] at this; cases this
    · exact ⟨e, ho⟩
theorem own_give_yes {w0 w : World} {b : Nat} {S : St} (h : Own w0 w b S) (k : Int) (hk : (Lit.int .i64 k).wf = true) (hu : S.used k = true) :
    Calls Tryz.prog 192 #[.pointer (some ⟨b, 0, none⟩), .int .i64 k] w fun e w' => e = .returned (.int .i64 0) ∧ ∃ S', Gave S k S' ∧ Own w0 w' b S' :=
  let ⟨F, hs, h1, h2⟩ := h
  (give_any b F S k w hs hk).mono fun e w' he => by
    rcases he with ⟨S', F', e, hg, hs', hT, hf⟩ | ⟨_, hn, _⟩
    · exact ⟨e, S', hg, Own.next h1 h2 hs' hT hf⟩
    · rw [hu] at hn; cases hn
theorem own_give_no {w0 w : World} {b : Nat} {S : St} (h : Own w0 w b S) (k : Int) (hk : (Lit.int .i64 k).wf = true) (hu : S.used k = false) :
    Calls Tryz.prog 192 #[.pointer (some ⟨b, 0, none⟩), .int .i64 k] w fun e w' => e = .returned (.int .i64 21) ∧ Own w0 w' b S :=
  let ⟨F, hs, h1, h2⟩ := h
  (give_any b F S k w hs hk).mono fun e w' he => by
    rcases he with ⟨S', F', e, hg, _⟩ | ⟨e, hn, _, hT⟩
    · rw [hg.was] at hu; cases hu
    · exact ⟨e, h.step hT⟩

/-- The same with the blocks named. -/
structure OwnF (w0 w : World) (b : Nat) (F : List Nat) (S : St) : Prop where
  stock : StockAt w b F S
  turn : Frm.Turn [] w0 w
  new : ∀ k, k ∈ F → w0.heap.size ≤ k
theorem OwnF.own {w0 w : World} {b : Nat} {F : List Nat} {S : St} (h : OwnF w0 w b F S) : Own w0 w b S := ⟨F, h.stock, h.turn, h.new⟩
theorem StockAt.lt {w : World} {b : Nat} {F : List Nat} {S : St} (h : StockAt w b F S) : ∀ k, k ∈ F → k < w.heap.size := by
  obtain ⟨m, G, rfl, hR, _, _, D, hD⟩ := h.parts
  intro k hk
  simp at hk
  rcases hk with rfl | rfl | hk
  · exact h.b_lt
  · exact hD.own.lt
  · rcases hR with ⟨_, rfl, _⟩ | ⟨g, c, rfl, hR⟩
    · simp at hk
    · simp at hk; subst hk
      obtain ⟨cur, hg, _⟩ := hR.row
      exact (Array.getElem?_eq_some_iff.1 hg).1
theorem OwnF.step {w0 w w' : World} {b : Nat} {F : List Nat} {S : St} (h : OwnF w0 w b F S) (ht : Frm.Turn [] w w') : OwnF w0 w' b F S := ⟨h.stock.turn ht (by simp), h.turn.trans ht (by simp), h.new⟩
theorem ownf_used {w0 w : World} {b : Nat} {F : List Nat} {S : St} (h : OwnF w0 w b F S) (k : Int) (t : Bool) (hk : (Lit.int .i64 k).wf = true) (ht : S.used k = t) :
    Calls Tryz.prog 198 #[.pointer (some ⟨b, 0, none⟩), .int .i64 k] w fun e w' => e = .returned (.bool t) ∧ OwnF w0 w' b F S ∧ Frm.Turn [] w w' :=
  (used_any b F S k w h.stock hk).mono fun _ _ ⟨e, ht'⟩ => ⟨by rw [e, ht], h.step ht', ht'⟩
theorem ownf_give_yes {w0 w : World} {b : Nat} {F : List Nat} {S : St} (h : OwnF w0 w b F S) (k : Int) (hk : (Lit.int .i64 k).wf = true) (hu : S.used k = true) :
    Calls Tryz.prog 192 #[.pointer (some ⟨b, 0, none⟩), .int .i64 k] w fun e w' => e = .returned (.int .i64 0) ∧ ∃ S' F', Gave S k S' ∧ OwnF w0 w' b F' S' ∧ Frm.Turn F w w' :=
  (give_any b F S k w h.stock hk).mono fun e w' he => by
    rcases he with ⟨S', F', e, hg, hs', hT, hf⟩ | ⟨_, hn, _⟩
    · refine ⟨e, S', F', hg, ⟨hs', h.turn.trans hT (fun k hk => Or.inr (h.new k hk)), fun k hk => ?_⟩, hT⟩
      rcases hf k hk with h1 | h1
      · exact h.new k h1
      · exact Nat.le_trans h.turn.size h1
    · rw [hu] at hn; cases hn
theorem ownf_give_no {w0 w : World} {b : Nat} {F : List Nat} {S : St} (h : OwnF w0 w b F S) (k : Int) (hk : (Lit.int .i64 k).wf = true) (hu : S.used k = false) :
    Calls Tryz.prog 192 #[.pointer (some ⟨b, 0, none⟩), .int .i64 k] w fun e w' => e = .returned (.int .i64 21) ∧ OwnF w0 w' b F S ∧ Frm.Turn [] w w' :=
  (give_any b F S k w h.stock hk).mono fun e w' he => by
    rcases he with ⟨S', F', e, hg, _⟩ | ⟨e, hn, _, hT⟩
    · rw [hg.was] at hu; cases hu
    · exact ⟨e, h.step hT, hT⟩

end Lst
end Go.Proofs.YtpajafecodkndaaGreat

set_option linter.unusedVariables false
set_option linter.unusedSimpArgs false
namespace Go.Proofs.YtpajafecodkndaaGreat
namespace Lst
open Go.RowKit Hp

/-- A row behind a pointer in a block that is known. -/
theorem rw_mk {w : World} {b off g c : Nat} {l : List Nat} (hc : w.cell? ⟨b, off, none⟩ = some (.slice (some ⟨g, 0, none⟩) l.length c)) (hf : w.frozen? ⟨b, off, none⟩ = false)
    (ho : w.ownsRow 0 3 1 (.slice (some ⟨g, 0, none⟩) l.length c) l.length (ints l)) (hne : g ≠ b) (hfew : l.length ≤ 65536) : Rw w b off g c l := by
  rcases ho.2 with ⟨h, _⟩ | ⟨g', cap, cur, h, _, hg, h1, h2, h3, h4⟩
  · cases h
  · cases h
    exact ⟨hc, hf, ⟨cur, hg, by simpa using h3, by simpa using h4⟩, h1, h2, hne, hfew⟩

def CloneEnd (w : World) (S : St) (e : Ending) (w' : World) : Prop :=
  ∃ b' F', e = .returned (.pointer (some ⟨b', 0, none⟩)) ∧ StockAt w' b' F' S ∧ (∀ k, k ∈ F' → w.heap.size ≤ k) ∧ Frm.Turn [] w w'

attribute [local go_sem ↓] Go.wp_at_zero Go.wp_at_succ

/-- The new stock, once its parts lie there. -/
theorem clone_done {w W : World} {S : St} {m' : Nat} {vb : Value} {G' : List Nat} {D : DataW Unit} (hok : S.Ok) (hT : Frm.Turn [] w W) (hm : w.heap.size ≤ m') (hown : W.ownsMap Tryz.prog 3 (unitElem (H := Unit)) m' (Maps.size D) D)
    (hhas : ∀ k : Int, Maps.has D (.int .i64 k) = S.used k) (hsz : Maps.size D + S.back.length = S.high)
    (hv : (vb = .slice none 0 0 ∧ S.back = [] ∧ G' = []) ∨ ∃ g c, vb = .slice (some ⟨g, 0, none⟩) S.back.length c ∧ G' = [g] ∧ w.heap.size ≤ g ∧ W.ownsRow 0 3 1 vb S.back.length (ints S.back)) {e : Ending}
    (he : e = .returned (.pointer (some ⟨W.heap.size, 0, none⟩))) : CloneEnd w S e (W.alloc (.cells #[.int .i64 (S.most : Int), .int .i64 (S.high : Int), vb, .map (some m')] 202)) := by
  have hb := heap_alloc_new W (.cells #[.int .i64 (S.most : Int), .int .i64 (S.high : Int), vb, .map (some m')] 202)
  have hc := fun i => Frm.cell_row _ W.heap.size i _ _ _ hb
  have hf := fun i => Frm.frozen_row _ W.heap.size i _ _ hb
  have hTa : Frm.Turn [] W (W.alloc (.cells #[.int .i64 (S.most : Int), .int .i64 (S.high : Int), vb, .map (some m')] 202)) := (Frm.Turn.refl [] W).alloc _
  have hsW := hT.size
  have hfew : S.back.length ≤ 65536 := by have h1 := hok.few; have h2 := hok.high; have h3 := hok.most; omega
  refine ⟨W.heap.size, W.heap.size :: m' :: G', he, ⟨hok, (hc 0).trans rfl, (hc 1).trans rfl, hf, m', G', rfl, ?_, ?_, (hc 3).trans rfl, D, own_turn hown hTa (by simp), hhas, hsz⟩, fun k hk => ?_, hT.alloc _⟩
  · rcases hv with ⟨rfl, h1, rfl⟩ | ⟨g, c, rfl, rfl, hg, ho⟩
    · exact Or.inl ⟨h1, rfl, (hc 2).trans rfl, hf 2⟩
    · have hgW := (World.ownsRow.lt ho g rfl).2
      exact Or.inr ⟨g, c, rfl, rw_mk ((hc 2).trans rfl) (hf 2) (Frm.owns_turn ho hTa (by simp)) (by omega) hfew⟩
  · rcases hv with ⟨rfl, h1, rfl⟩ | ⟨g, c, rfl, rfl, hg, ho⟩
    · simp
    · have hgW := (World.ownsRow.lt ho g rfl).2
      simp; omega
  · simp at hk
    rcases hk with rfl | rfl | hk
    · omega
    · exact hm
    · rcases hv with ⟨rfl, h1, rfl⟩ | ⟨g, c, rfl, rfl, hg, ho⟩
      · simp at hk
      · simp at hk; omega

theorem clone_drew {w w' : World} {S : St} {e : Ending} (h : CloneEnd w S e w') : CloneEnd w S e w'.drew := by
  obtain ⟨b, F, he, hs, hf, ht⟩ := h
  exact ⟨b, F, he, hs.turn ((Frm.Turn.refl [] w').drew) (by simp), hf, ht.drew⟩
theorem ints_onec (l : List Nat) : ∀ u ∈ ints l, u.oneCell' = true := by
  intro u hu
  simp [ints] at hu
  obtain ⟨a, _, rfl⟩ := hu
  rfl
end Lst
end Go.Proofs.YtpajafecodkndaaGreat
