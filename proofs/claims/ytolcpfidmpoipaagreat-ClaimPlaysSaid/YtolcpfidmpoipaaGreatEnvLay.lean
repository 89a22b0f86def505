/- The document's environment: Lay. -/
import Derived.Test.YtolcpfidmpoipaaGreatEnvFree
set_option linter.unusedVariables false
set_option linter.unusedSimpArgs false
namespace Go.Proofs.YtolcpfidmpoipaaGreat
namespace Evn
open Go.RowKit Go.Maps Arn
variable {W W' : World} {eb : Nat} {E : En} {CS CS' : Array Value} {lv : Value} {G G' : List Nat}
/-- The cells of a block of a result. -/
theorem res_cells {w : World} {k : Nat} {x y z : Value} (h : w.heap[k]? = some (.cells #[x, y, z] 110 (0, 0))) :
    (w.cell? ⟨k, 0, none⟩ = some x ∧ w.cell? ⟨k, 1, none⟩ = some y ∧ w.cell? ⟨k, 2, none⟩ = some z) ∧ w.frozen? ⟨k, 0, none⟩ = false ∧ w.frozen? ⟨k, 1, none⟩ = false ∧ w.frozen? ⟨k, 2, none⟩ = false :=
  ⟨⟨(Frm.cell_row _ _ 0 _ _ _ h).trans rfl, (Frm.cell_row _ _ 1 _ _ _ h).trans rfl, (Frm.cell_row _ _ 2 _ _ _ h).trans rfl⟩, Frm.frozen_row _ _ 0 _ _ h, Frm.frozen_row _ _ 1 _ _ h, Frm.frozen_row _ _ 2 _ _ h⟩
/-- The block of the answer is written anew. -/
theorem put_answer {w1 w4 : World} {lv4 : Value} {k : Nat} {x y z : Value} (h1 : EnAt w1 eb E CS lv G) (hT1 : Frm.Turn [eb] W w1) (hk : k = w1.heap.size) (hk4 : k < w4.heap.size) {E4 : En} (h4 : EnAt w4 eb E4 CS' lv4 G') (hT4 : Frm.Turn [eb] W w4) (hg : k ∉ G') (hl : ∀ q, lv4.ownBlock = some q → k < q) :
    EnAt (((w4.setCell ⟨k, 0, none⟩ x).setCell ⟨k, 1, none⟩ y).setCell ⟨k, 2, none⟩ z) eb E4 CS' lv4 G' ∧ Frm.Turn [eb] W (((w4.setCell ⟨k, 0, none⟩ x).setCell ⟨k, 1, none⟩ y).setCell ⟨k, 2, none⟩ z) := by
  have hT : Frm.Turn [k] w4 (((w4.setCell ⟨k, 0, none⟩ x).setCell ⟨k, 1, none⟩ y).setCell ⟨k, 2, none⟩ z) :=
    (((Frm.Turn.refl [k] w4).setCell (p := ⟨k, 0, none⟩) (.inl (by simp)) _).setCell (p := ⟨k, 1, none⟩) (.inl (by simp)) _).setCell (p := ⟨k, 2, none⟩) (.inl (by simp)) _
  have he := h1.lt
  have hs := hT1.size
  exact ⟨h4.turn hT (by simp; omega) (fun q hq e => by simp at e; subst e; exact hg hq) (fun q hq e => by simp at e; have := hl q hq; omega), hT4.trans hT (fun q hq => .inr (by simp at hq; omega))⟩
set_option maxRecDepth 100000 in
set_option maxHeartbeats 4000000 in
theorem lay_any (h : EnAt W eb E CS lv G) (hl : E.log.length ≤ 100000) (ha : E.at_ ≤ 100000) (hok : E.A.Ok) (hb : E.A.births ≤ 100000000) (hla : E.A.t.lays ≤ 100000000) (x : Value) (ws : List Int) (hx : ∀ W', Frm.Turn [eb] W W' → WordsAt W' x ws) (hws : ws.length ≤ 9223372036854775807) :
    Calls Tryz.prog 50 #[.pointer (some ⟨eb, 0, none⟩), x] W (AccPost W eb (E.acc (aLay ws)).1 lv G (.tuple #[.int .u64 (E.acc (aLay ws)).2.w, .int .i64 (E.acc (aLay ws)).2.e])) := by
  have HO := old_any h hl ha
  have hlt := h.lt
  have HGL := Lib.hid h.gl
  have HGE := Lib.hid h.ge
  obtain ⟨fs, hfs⟩ := struct_of under_refA
  have HFS := Lib.hid hfs
  by_cases hB : E.oldB = true
  · have hdef : E.acc (aLay ws) = (E.oldE, E.oldR) := by unfold En.acc; rw [if_pos hB]
    rw [hdef]
    rw [hB] at HO
    have HO := Lib.hid HO
    clear h hB hdef hx
    go_enter Tryz.func50, Tryz.ntmps50
    go_wp2_with (first
      | (go_at_call 52; go_must (with_reducible refine HO.out.mono ?_); rintro e w1 ⟨rfl, hE1, hT1⟩; have HE1 := Lib.hid hE1; have HT1 := Lib.hid hT1; unfold resV; clear hE1 hT1))
    go_quiet (fail)
    go_wp2
    refine bodyPost_ret (by simp [results, Tryz.results50]) rfl ⟨rfl, CS, lv, G, HE1.out.step ?_, ?_, fun k hk => .inl hk, fun k hk => .inl hk⟩
    · (repeat' first | exact Frm.Turn.refl _ _ | refine Frm.Turn.alloc ?_ _ | refine Frm.Turn.drew ?_ | refine Frm.Turn.drewN ?_ _ | (refine Frm.Turn.setCell ?_ (.inr (by simp)) _))
    · refine HT1.out.trans (G := []) ?_ (by simp)
      (repeat' first | exact Frm.Turn.refl _ _ | refine Frm.Turn.alloc ?_ _ | refine Frm.Turn.drew ?_ | refine Frm.Turn.drewN ?_ _ | (refine Frm.Turn.setCell ?_ (.inr (by simp)) _))
  · have hB : E.oldB = false := by simpa using hB
    have hdef : E.acc (aLay ws) = ({ E.oldE with A := (E.A.lay ws).1, log := E.oldE.log ++ [⟨(E.A.lay ws).2.1, false, (E.A.lay ws).2.2⟩] }, ⟨(E.A.lay ws).2.1, false, (E.A.lay ws).2.2⟩) := by unfold En.acc; rw [if_neg (by rw [hB]; simp), (oldE_same E).2]; rfl
    rw [hdef]
    rw [hB, oldR_of hB] at HO
    have HO := Lib.hid HO
    have HEA := Lib.hid (oldE_same E).1
    have HLG : Hid (E.oldE.log.length ≤ 100000) := Lib.hid (by rw [(oldE_same E).2]; exact hl)
    have HOK := Lib.hid hok
    have HX := Lib.hid hx
    clear h hB hdef hx
    go_enter Tryz.func50, Tryz.ntmps50
    go_wp2_with (first
      | (go_at_call 52; go_must (with_reducible refine HO.out.mono ?_); rintro e w1 ⟨rfl, hE1, hT1⟩; have HE1 := Lib.hid hE1; have HT1 := Lib.hid hT1; have HRF := Lib.hid (fun W' (hT : Frm.Turn [] w1 W') => refLay_s E.A (.agg CS) G W' (by have := (hE1.step hT).m; rw [HEA.out] at this; exact this) HOK.out hb hla x ws (HX.out W' (hT1.trans hT (by simp))) hws); have hb1 := World.alloc_heap_new w1 (.cells #[.int .u64 0, .bool false, .int .i64 0] 110); have HB1 := Lib.hid hb1; unfold resV Res.zero; clear hE1 hT1 hb1)
      | (refine wpList_load_mid rfl 34 (.tmp 21) rfl eb 0 rfl CS.toList (.struct fs) ((HE1.out.step (by (repeat' first | exact Frm.Turn.refl _ _ | refine Frm.Turn.alloc ?_ _ | refine Frm.Turn.drew ?_ | refine Frm.Turn.drewN ?_ _ | (refine Frm.Turn.setCell ?_ (.inr (by simp)) _)))).range) HFS.out rfl (by rw [Array.length_toList, HE1.out.size]; exact info_refA) ?_; rw [Array.toArray_toList])
      | (go_at_call 68; go_must (with_reducible refine (HRF.out _ (by (repeat' first | exact Frm.Turn.refl _ _ | refine Frm.Turn.alloc ?_ _ | refine Frm.Turn.drew ?_ | refine Frm.Turn.drewN ?_ _ | (refine Frm.Turn.setCell ?_ (.inr (by simp)) _)))).mono ?_); rintro e w2 ⟨u', G', rfl, hR, hT2, hG⟩; obtain ⟨CS', rfl, hz, hone⟩ := hR.row; have hput := put_all (HE1.out.step ((Frm.Turn.refl [] w1).alloc _)) hT2 hz hone hR hG; unfold z20 at hput; obtain ⟨q1, q2, q3, q4⟩ := hput; have HR1 := Lib.hid q1; have HR2 := Lib.hid q2; have HR3 := Lib.hid q3; have HR4 := Lib.hid q4; have HZ := Lib.hid hz; have HONE := Lib.hid hone; have HGG : Hid (∀ q, q ∈ G' → q ∈ G ∨ w1.heap.size < q) := Lib.hid (fun q hq => by rcases hG q hq with h | h; exact .inl h; exact .inr (by have := h.1; simp at this; omega)); have hd := done_any q3 HLG.out ⟨(E.A.lay ws).2.1, false, (E.A.lay ws).2.2⟩; unfold resV at hd; dsimp only at hd; have HD := Lib.hid hd; clear hd q1 q2 q3 q4 hz hone hR hT2 hG)
      | (refine wpList_store_row rfl 34 (.tmp 8) (.tmp 25) rfl w2.heap.size CS' rfl rfl 34 _ (World.alloc_heap_new w2 _) (by rw [HZ.out]; exact info_refA) (by rw [HZ.out]; rfl) HONE.out ?_)
      | (refine wpList_load_row rfl 34 (.tmp 8) rfl w2.heap.size rfl 34 CS' (0, 0) (.struct fs) HR1.out HFS.out rfl (by rw [HZ.out]; exact info_refA) ?_)
      | (refine wpList_store_mid rfl 34 (.tmp 31) (.tmp 29) rfl eb 0 CS' rfl rfl (by rw [HZ.out]; exact HR2.out.there) (by rw [HZ.out]; exact info_refA) HONE.out ?_)
      | (go_at_call 54; go_must (with_reducible refine HD.out.mono ?_); rintro e w4 ⟨rfl, lv4, hE4, hT4, hL4⟩; have hq5 := HR4.out.trans hT4 (fun k hk => .inl hk); have hne : w1.heap.size ≠ eb := Nat.ne_of_gt HE1.out.lt; obtain ⟨⟨c0, c1, c2⟩, f0, f1, f2⟩ := res_cells (hq5.keep HB1.out (by simpa using hne)); have HE4 := Lib.hid hE4; have HT4 := Lib.hid ((HT1.out.trans ((Frm.Turn.refl [] w1).alloc _) (by simp)).trans hq5 (fun k hk => .inl hk)); have HSZ : Hid (w1.heap.size < w4.heap.size) := Lib.hid (by have := hq5.size; simp at this; omega); have HL4 : Hid (∀ q, lv4.ownBlock = some q → w1.heap.size < q) := Lib.hid (fun q hq => by have h5 := hL4 q hq; have h6 := HR4.out.size; rw [World.size_alloc] at h6; omega); clear hE4 hT4 hL4 hq5))
    go_quiet (fail)
    go_wp2
    have hpa := fun E4 (h4 : EnAt w4 eb E4 CS' lv4 G') (x y z : Value) => put_answer (x := x) (y := y) (z := z) HE1.out HT1.out rfl HSZ.out h4 HT4.out (fun hk => by rcases HGG.out _ hk with h | h; have := HGL.out _ h; have := HT1.out.size; omega; omega) HL4.out
    obtain ⟨e1, e2⟩ := hpa _ HE4.out (.int .u64 (E.A.lay ws).2.1) (.bool false) (.int .i64 (E.A.lay ws).2.2)
    refine bodyPost_ret (by simp [results, Tryz.results50]) rfl ⟨rfl, CS', lv4, G', e1.step ?_, e2.trans (G := []) ?_ (by simp), fun q hq => by rcases HGG.out q hq with h | h; exact .inl h; exact .inr (by have := HT1.out.size; omega), fun q hq => .inr (by have := HL4.out q hq; have := HT1.out.size; omega)⟩
    · (repeat' first | exact Frm.Turn.refl _ _ | refine Frm.Turn.alloc ?_ _ | refine Frm.Turn.drew ?_ | refine Frm.Turn.drewN ?_ _ | (refine Frm.Turn.setCell ?_ (.inr (by simp)) _))
    · (repeat' first | exact Frm.Turn.refl _ _ | refine Frm.Turn.alloc ?_ _ | refine Frm.Turn.drew ?_ | refine Frm.Turn.drewN ?_ _ | (refine Frm.Turn.setCell ?_ (.inr (by simp)) _))
end Evn
end Go.Proofs.YtolcpfidmpoipaaGreat
