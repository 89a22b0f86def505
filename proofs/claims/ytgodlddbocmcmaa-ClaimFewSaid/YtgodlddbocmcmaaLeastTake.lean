/- A stock in memory: Take and Give. -/
import Derived.Test.YtgodlddbocmcmaaLeastStock
set_option linter.unusedVariables false
set_option linter.unusedSimpArgs false
namespace Go.Proofs.Ytgodlddbocmcmaa
namespace Lst
open Go.RowKit Hp Go.Maps

theorem wf_small {k : Int} (h0 : -1 ≤ k) (h1 : k ≤ 65536) : (Lit.int .i64 k).wf = true := by
  simp [Lit.wf, IntKind.min, IntKind.max, IntKind.bits, IntKind.signed]; omega
/-- Behind a store into the set: all of the stock again. -/
theorem stock_of_mid {w w' w'' : World} {b m : Nat} {G G' : List Nat} {S S' : St} {D' : DataW Unit} (hM : MidAt w w' b m G G' S S') (hok : S'.Ok) (ht : w'.mapTurned w'' m) (hb : m ≠ b) (hmG : m ∉ G')
    (hD : SetAt w'' m S' D') : StockAt w'' b (b :: m :: G') S' := by
  have hT := Frm.Turn.of_grown ht.grown
  have hbm : b ∉ (some m).toList := by simp; omega
  have hlt := World.block_lt_of_cell? w' _ hM.most
  exact ⟨hok, hT.cell hM.most hbm, hT.cell hM.high hbm, fun o => (hT.frozen (a := ⟨b, o, none⟩) hlt hbm).trans (hM.thaw o), m, G', rfl,
    hM.rv.turn hT hbm (fun k hk => by simp; intro e; subst e; exact hmG hk), hM.bG, hT.cell hM.map hbm, D', hD⟩
theorem set_put {w w' : World} {m : Nat} {S S' : St} {D : DataW Unit} {x : Nat} (h : SetAt w m S D) (ht : Took S x S') (n : Nat) (ho : w'.ownsMap Try.prog 3 (unitElem (H := Unit)) m n (D.put (.int .i64 (x : Int)) (.agg []))) : SetAt w' m S' (D.put (.int .i64 (x : Int)) (.agg [])) := by
  refine ⟨own_tight ho, fun k => ?_, ?_⟩
  · rw [ht.used]
    by_cases e : k = x
    · subst e; rw [has_put_same h.own.isMap (k := .int .i64 (x : Int)) trivial]; simp
    · rw [has_put_other (by simpa using e), h.has]; simp [e]
  · have hs := size_put (k := .int .i64 (x : Int)) (h.own.tidy keyI) (.agg [])
    rw [h.has, ht.free] at hs
    simp at hs
    have h1 := h.size
    have h2 := ht.len
    have h3 := ht.ok.few
    rw [hs]
    simp only [St.len] at h2
    omega
theorem set_del {w w' : World} {m : Nat} {S S' : St} {D : DataW Unit} {x : Int} (h : SetAt w m S D) (ht : Gave S x S') (n : Nat) (ho : w'.ownsMap Try.prog 3 (unitElem (H := Unit)) m n (D.del (.int .i64 x))) : SetAt w' m S' (D.del (.int .i64 x)) := by
  refine ⟨own_tight ho, fun k => ?_, ?_⟩
  · rw [ht.used]
    by_cases e : k = x
    · subst e; rw [has_del_same]; simp
    · rw [has_del_other (by simpa using e), h.has]; simp [e]
  · have hs := size_del (k := .int .i64 x) (h.own.tidy keyI)
    rw [h.has, ht.was] at hs
    simp at hs
    have h1 := h.size
    have h2 := ht.len
    have h3 := ht.ok.few
    have h4 := ht.high
    simp only [St.len] at h2
    omega

def TakeEnd (w : World) (b : Nat) (F : List Nat) (S : St) (e : Ending) (w' : World) : Prop :=
  (∃ (x : Nat) (S' : St) (F' : List Nat), e = .returned (.tuple #[.int .i64 (x : Int), .int .i64 0]) ∧ Took S x S' ∧ StockAt w' b F' S' ∧ Frm.Turn F w w' ∧ ∀ k, k ∈ F' → k ∈ F ∨ w.heap.size ≤ k) ∨
  (e = .returned (.tuple #[.int .i64 0, .int .i64 20]) ∧ S.len = S.most ∧ (∀ k : Int, 1 ≤ k → k ≤ S.most → S.used k = true) ∧ StockAt w' b F S ∧ Frm.Turn [] w w')

set_option maxHeartbeats 1000000 in
theorem take_any (b : Nat) (F : List Nat) (S : St) (w : World) (h : StockAt w b F S) :
    Calls Try.prog 52 #[.pointer (some ⟨b, 0, none⟩)] w (TakeEnd w b F S) := by
  obtain ⟨m, G, rfl, hR, hbG, hmap, D, hD⟩ := h.parts
  have HN := Lib.hid (next_any b m G S w h.ok h.most h.high h.thaw hR hbG hmap D hD)
  have HB := Lib.hid (hD.ne_cell h.most)
  have H := Lib.hid h
  have HD := Lib.hid hD
  clear hR hbG hmap hD h
  go_enter Try.func52, Try.ntmps52
  go_wp2_with fail
  refine (HN.out).mono ?_
  rintro e w1 (⟨x, S', G', rfl, ht, hM⟩ | ⟨rfl, hb, hh, k, rfl⟩)
  · have hmap := hM.map
    have hset := hM.set D HD.out
    have hown := hset.own
    have hsz : Maps.size D < maxLen := by
      have h1 := hset.size; have h2 := H.out.ok.high; have h3 := H.out.ok.most; unfold maxLen; omega
    have hwf : (Lit.int .i64 (x : Int)).wf = true := wf_small (by omega) (by have := ht.hi; have := H.out.ok.most; omega)
    have HM := Lib.hid hM
    have HT := Lib.hid ht
    have HS := Lib.hid hset
    clear hM ht hset
    go_wp2_with (at_mapUpdate; refine wpList_mapUpdate_in _ rfl _ _ _ 68 rfl 3 102 keyI mapT _ m _ D rfl hown hsz _ _ _ rfl rfl (key_of _ hwf) (.agg []) [] unitElem_mk ?_; intro w2 hown2 hturn2)
    go_ret2
    have hmG : m ∉ G' := HM.out.rv.ne_map HS.out
    have hT2 := Frm.Turn.of_grown hturn2.grown
    refine Or.inl ⟨x, S', b :: m :: G', rfl, HT.out, stock_of_mid HM.out HT.out.ok hturn2 HB.out hmG (set_put HS.out HT.out _ hown2), ?_, fun k hk => ?_⟩
    · exact (HM.out.turn.mono (fun k hk => by simp at hk ⊢; rcases hk with h | h <;> simp [h])).trans hT2 (fun k hk => by simp at hk; simp [hk])
    · simp at hk ⊢
      rcases hk with rfl | rfl | hk
      · simp
      · simp
      · rcases HM.out.fresh k hk with h | h <;> simp [h]
  · have HB' := Lib.hid hb
    have HH' := Lib.hid hh
    clear hb hh
    go_wp2
    go_ret2
    have hfull := full_of H.out.ok HB'.out (by have := HH'.out; omega)
    exact Or.inr ⟨rfl, hfull.1, hfull.2, H.out.turn ((Frm.Turn.refl [] w).drewN k) (by simp), (Frm.Turn.refl [] w).drewN k⟩
theorem take_nil (w : World) : Calls Try.prog 52 #[.pointer none] w fun e w' => e = .returned (.tuple #[.int .i64 0, .int .i64 1]) ∧ w = w' := by
  go_enter Try.func52, Try.ntmps52
  go_wp2
  go_ret2
  exact ⟨rfl, rfl⟩

def GiveEnd (w : World) (b : Nat) (F : List Nat) (S : St) (k : Int) (e : Ending) (w' : World) : Prop :=
  (∃ (S' : St) (F' : List Nat), e = .returned (.int .i64 0) ∧ Gave S k S' ∧ StockAt w' b F' S' ∧ Frm.Turn F w w' ∧ ∀ j, j ∈ F' → j ∈ F ∨ w.heap.size ≤ j) ∨
  (e = .returned (.int .i64 21) ∧ S.used k = false ∧ StockAt w' b F S ∧ Frm.Turn [] w w')

set_option maxHeartbeats 1000000 in
theorem give_any (b : Nat) (F : List Nat) (S : St) (k : Int) (w : World) (h : StockAt w b F S) (hk : (Lit.int .i64 k).wf = true) :
    Calls Try.prog 59 #[.pointer (some ⟨b, 0, none⟩), .int .i64 k] w (GiveEnd w b F S k) := by
  have HU := Lib.hid (used_any b F S k w h hk)
  have H := Lib.hid h
  clear h
  cases hu : S.used k with
  | false =>
    have HF := Lib.hid hu
    rw [hu] at HU
    clear hu
    go_enter Try.func59, Try.ntmps59
    go_wp2_with (go_at_call 62; (with_reducible refine (HU.out).mono ?_); rintro e w1 ⟨rfl, hT⟩)
    go_ret
    exact Or.inr ⟨rfl, HF.out, H.out.turn hT (by simp), hT⟩
  | true =>
    have HF := Lib.hid hu
    rw [hu] at HU
    clear hu
    go_enter Try.func59, Try.ntmps59
    go_wp2_with fail
    refine (HU.out).mono ?_
    rintro e w1 ⟨rfl, hT⟩
    have h1 := H.out.turn hT (by simp)
    obtain ⟨m, G, rfl, hR, hbG, hmap, D, hD⟩ := h1.parts
    have hown := hD.own
    have hth := h1.thaw
    have hxk : ((k.toNat : Nat) : Int) = k := by have := (used_iff S k).1 HF.out; omega
    have H1 := Lib.hid h1
    have HR := Lib.hid hR
    have HD := Lib.hid hD
    have HT := Lib.hid hT
    have HX := Lib.hid hxk
    have HTH := Lib.hid hth
    clear h1 hR hD hT hxk hth
    go_wp2_with (at_delete; refine wpList_delete_own _ rfl _ _ 68 3 rfl 102 keyI mapT _ m _ D rfl hown _ _ rfl (key_of k hk) ?_; intro w2 hown2 hturn2)
    have hT2 := Frm.Turn.of_grown hturn2.grown
    have hmb : m ≠ b := HD.out.ne_cell H1.out.most
    have hmG : m ∉ G := HR.out.ne_map HD.out
    have hbm : b ∉ (some m).toList := by simp; omega
    have hR2 : Rv w2 b 2 G S.back := HR.out.turn hT2 hbm (fun j hj => by simp; intro e; subst e; exact hmG hj)
    have hb2 : b < w2.heap.size := Nat.lt_of_lt_of_le H1.out.b_lt hT2.size
    have hfew : S.back.length ≤ 65535 := by have h1 := H1.out.ok.few; have h2 := H1.out.ok.high; have h3 := H1.out.ok.most; omega
    have hp := heap_push b 2 G S.back k.toNat w2 hR2 hb2 hbG H1.out.ok.heap hfew
    rw [HX.out] at hp
    refine hp.mono ?_
    rintro e w3 ⟨rfl, G', l', hR3, hp3, hh3, hT3, hK3, hf3⟩
    clear hp
    go_wp2
    go_ret
    have hG := gave_of H1.out.ok HF.out hp3 hh3
    have hmF : m ∉ b :: G := by simp; exact ⟨hmb, hmG⟩
    have hD2 := set_del HD.out hG _ hown2
    have hbG' : b ∉ G' := fun hc => by
      rcases hf3 b hc with h | h
      · exact hbG h
      · omega
    have hTT := HT.out
    refine Or.inl ⟨_, b :: m :: G', rfl, hG, ⟨hG.ok, (hK3.cell 0 (by omega)).trans (hT2.cell H1.out.most hbm), (hK3.cell 1 (by omega)).trans (hT2.cell H1.out.high hbm), fun o => ((hK3.frozen o).trans (hT2.frozen (a := ⟨b, o, none⟩) H1.out.b_lt hbm)).trans (HTH.out o),
      m, G', rfl, hR3, hbG', (hK3.cell 3 (by omega)).trans (hT2.cell hmap hbm), _, own_turn hD2.own hT3 hmF, hD2.has, hD2.size⟩, ?_, fun j hj => ?_⟩
    · exact (((hTT.mono (by simp)).trans hT2 (fun j hj => by simp at hj; simp [hj])).trans hT3 (fun j hj => by simp at hj; rcases hj with h | h <;> simp [h]))
    · simp at hj ⊢
      rcases hj with rfl | rfl | hj
      · simp
      · simp
      · have h1 := hTT.size
        have h2 := hT2.size
        rcases hf3 j hj with h | h
        · simp [h]
        · right; omega
theorem give_nil (k : Int) (w : World) : Calls Try.prog 59 #[.pointer none, .int .i64 k] w fun e w' => e = .returned (.int .i64 1) ∧ w = w' := by
  go_enter Try.func59, Try.ntmps59
  go_wp2
  go_ret
  exact ⟨rfl, rfl⟩
end Lst
end Go.Proofs.Ytgodlddbocmcmaa
