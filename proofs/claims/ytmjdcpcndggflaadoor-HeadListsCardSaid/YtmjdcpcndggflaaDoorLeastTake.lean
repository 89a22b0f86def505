/- A stock in memory: Take and Give. -/
import Derived.Test.YtmjdcpcndggflaaDoorLeastStock
set_option linter.unusedVariables false
set_option linter.unusedSimpArgs false
namespace Go.Proofs.YtmjdcpcndggflaaDoor
namespace Lst
open Go.RowKit Hp Go.Maps

theorem wf_small {k : Int} (h0 : -1 ≤ k) (h1 : k ≤ 65536) : (Lit.int .i64 k).wf = true := by
  simp [Lit.wf, IntKind.min, IntKind.max, IntKind.bits, IntKind.signed]; omega
/-- Behind a store into the set: all of the stock again. -/
theorem stock_of_mid {w w' w'' : World} {b m : Nat} {G G' : List Nat} {S S' : St} {D' : DataW Unit} (hM : MidAt w w' b m G G' S S') (hok : S'.Ok) (ht : w'.mapTurned w'' m) (hb : m ≠ b) (hmG : m ∉ G')
    (hD : SetAt w'' m S' D') : StockAt w'' b (b :: m :: G') S' := by
  have hT := Frm.Turn.of_grown ht.grown
  have hbm : b ∉ (some m).toList := by simp; omega
  have hlt := World.block_lt_of_cell? w' _ hM.most
  exact ⟨hok, hT.cell hM.most hbm, hT.cell hM.high hbm, fun o => (hT.frozen (a := ⟨b, o, none⟩) hlt hbm).trans (hM.thaw o), m, G', rfl,
    hM.rv.turn hT hbm (fun k hk => by simp; intro e; subst e; exact hmG hk), hM.bG, hT.cell hM.map hbm, D', hD⟩
theorem set_put {w w' : World} {m : Nat} {S S' : St} {D : DataW Unit} {x : Nat} (h : SetAt w m S D) (ht : Took S x S') (n : Nat) (ho : w'.ownsMap Tryd.prog 3 (unitElem (H := Unit)) m n (D.put (.int .i64 (x : Int)) (.agg []))) : SetAt w' m S' (D.put (.int .i64 (x : Int)) (.agg [])) := by
  refine ⟨own_tight ho, fun k => ?_, ?_⟩
  · rw [ht.used]
    by_cases e : k = x
    · subst e; rw [has_put_same h.own.isMap (k := .int .i64 (x : Int)) trivial]; simp
    · rw [has_put_other (by simpa using e), h.has]; simp [e]
  · have hs := size_put (k := .int .i64 (x : Int)) (h.own.tidy keyI) (.agg [])
    rw [h.has, ht.free] at hs
    simp at hs
    have h1 := h.size
    have h2 := ht.len
    have h3 := ht.ok.few
    rw [hs]
    simp only [St.len] at h2
    omega
theorem set_del {w w' : World} {m : Nat} {S S' : St} {D : DataW Unit} {x : Int} (h : SetAt w m S D) (ht : Gave S x S') (n : Nat) (ho : w'.ownsMap Tryd.prog 3 (unitElem (H := Unit)) m n (D.del (.int .i64 x))) : SetAt w' m S' (D.del (.int .i64 x)) := by
  refine ⟨own_tight ho, fun k => ?_, ?_⟩
  · rw [ht.used]
    by_cases e : k = x
    · subst e; rw [has_del_same]; simp
    · rw [has_del_other (by simpa using e), h.has]; simp [e]
  · have hs := size_del (k := .int .i64 x) (h.own.tidy keyI)
    rw [h.has, ht.was] at hs
    simp at hs
    have h1 := h.size
    have h2 := ht.len
    have h3 := ht.ok.few
    have h4 := ht.high
    simp only [St.len] at h2
    omega

def TakeEnd (w : World) (b : Nat) (F : List Nat) (S : St) (e : Ending) (w' : World) : Prop :=
  (∃ (x : Nat) (S' : St) (F' : List Nat), e = .returned (.tuple #[.int .i64 (x : Int), .int .i64 0]) ∧ Took S x S' ∧ StockAt w' b F' S' ∧ Frm.Turn F w w' ∧ ∀ k, k ∈ F' → k ∈ F ∨ w.heap.size ≤ k) ∨
  (e = .returned (.tuple #[.int .i64 0, .int .i64 20]) ∧ S.len = S.most ∧ (∀ k : Int, 1 ≤ k → k ≤ S.most → S.used k = true) ∧ StockAt w' b F S ∧ Frm.Turn [] w w')

set_option maxHeartbeats 1000000 in
theorem take_any (b : Nat) (F : List Nat) (S : St) (w : World) (h : StockAt w b F S) :
    Calls Tryd.prog 36 #[.pointer (some ⟨b, 0, none⟩)] w (TakeEnd w b F S) := by
  obtain ⟨m, G, rfl, hR, hbG, hmap, D, hD⟩ := h.parts
  have HN := Lib.hid (next_any b m G S w h.ok h.most h.high h.thaw hR hbG hmap D hD)
  have HB := Lib.hid (hD.ne_cell h.most)
  have H := Lib.hid h
  have HD := Lib.hid hD
  clear hR hbG hmap hD h
  go_enter Tryd.func36, Tryd.ntmps36
  go_wp2_with fail
  refine (HN.out).mono ?_
  rintro e w1 (⟨x, S', G', rfl, ht, hM⟩ | ⟨rfl, hb, hh, k, rfl⟩)
  · have hmap := hM.map
    have hset := hM.set D HD.out
    have hown := hset.own
    have hsz : Maps.size D < maxLen := by
      have h1 := hset.size; have h2 := H.out.ok.high; have h3 := H.out.ok.most; unfold maxLen; omega
    have hwf : (Lit.int .i64 (x : Int)).wf = true := wf_small (by omega) (by have := ht.hi; have := H.out.ok.most; omega)
    have HM := Lib.hid hM
    have HT := Lib.hid ht
    have HS := Lib.hid hset
    clear hM ht hset
    go_wp2_with (at_mapUpdate; refine wpList_mapUpdate_in _ rfl _ _ _ 99 rfl 3 106 keyI mapT _ m _ D rfl hown hsz _ _ _ rfl rfl (key_of _ hwf) (.agg []) [] unitElem_mk ?_; intro w2 hown2 hturn2)
    go_ret2
    have hmG : m ∉ G' := HM.out.rv.ne_map HS.out
    have hT2 := Frm.Turn.of_grown hturn2.grown
    refine Or.inl ⟨x, S', b :: m :: G', rfl, HT.out, stock_of_mid HM.out HT.out.ok hturn2 HB.out hmG (set_put HS.out HT.out _ hown2), ?_, fun k hk => ?_⟩
    · exact (HM.out.turn.mono (fun k hk => by simp at hk ⊢; rcases hk with h | h <;> simp [h])).trans hT2 (fun k hk => by simp at hk; simp [hk])
    · simp at hk ⊢
      rcases hk with rfl | rfl | hk
      · simp
      · simp
      · rcases HM.out.fresh k hk with h | h <;> simp [h]
  · have HB' := Lib.hid hb
    have HH' := Lib.hid hh
    clear hb hh
    go_wp2
    go_ret2
    have hfull := full_of H.out.ok HB'.out (by have := HH'.out; omega)
    exact Or.inr ⟨rfl, hfull.1, hfull.2, H.out.turn ((Frm.Turn.refl [] w).drewN k) (by simp), (Frm.Turn.refl [] w).drewN k⟩
theorem take_nil (w : World) : Calls Tryd.prog 36 #[.pointer none] w fun e w' => e = .returned (.tuple #[.int .i64 0, .int .i64 1]) ∧ w = w' := by
  go_enter Tryd.func36, Tryd.ntmps36
  go_wp2
  go_ret2
  exact ⟨rfl, rfl⟩

def GiveEnd (w : World) (b : Nat) (F : List Nat) (S : St) (k : Int) (e : Ending) (w' : World) : Prop :=
  (∃ (S' : St) (F' : List Nat), e = .returned (.int .i64 0) ∧ Gave S k S' ∧ StockAt w' b F' S' ∧ Frm.Turn F w w' ∧ ∀ j, j ∈ F' → j ∈ F ∨ w.heap.size ≤ j) ∨
  (e = .returned (.int .i64 21) ∧ S.used k = false ∧ StockAt w' b F S ∧ Frm.Turn [] w w')

end Lst
end Go.Proofs.YtmjdcpcndggflaaDoor
