/- A table's calls that write: drop, swap, acquire, release. -/
import Derived.Test.YtmodanjblbaedaaDoorModelTab
set_option linter.unusedVariables false
set_option linter.unusedSimpArgs false
namespace Go.Proofs.YtmodanjblbaedaaDoor
namespace Mdl
open Go.RowKit Go.Maps

theorem TAt.some_of {w : World} {p : Option Nat} {f : Tb} (h : TAt w p f) {k v : Int} (e : f k = some v) : ∃ b, p = some b := by
  cases p with
  | some b => exact ⟨b, rfl⟩
  | none => rw [h.nil_none] at e; cases e

set_option maxHeartbeats 1000000 in
theorem drop_any {w : World} {p : Option Nat} {f : Tb} (h : TAt w p f) {k : Int} (hk : 0 ≤ k ∧ k ≤ 255) :
    Calls Tryd.prog 47 #[.map p, .int .i64 k] w fun e w' => e = .returned (rv (get f k)) ∧ TAt w' p (upd f k none) ∧ Frm.Turn p.toList w w' := by
  have hI : I64 k := by omega
  have HG := Lib.hid (fun W (hT : Frm.Turn [] w W) => get_any (h.step hT) hI)
  have HA := Lib.hid (fun W (hT : Frm.Turn [] w W) => h.step hT)
  have HK := Lib.hid hk
  have HT := Lib.hid (fun o => (Frm.Turn.refl [] w).alloc o)
  have HB := Lib.hid (res_new w)
  have HP : Hid (∀ k, w.heap.size ≤ k → k ∉ p.toList) := Lib.hid (fun j hj hm => by have := h.lt j (by simpa using hm); omega)
  clear h hk hI
  generalize get f k = r at HG ⊢
  obtain ⟨x, y⟩ := r
  go_enter Tryd.func47, Tryd.ntmps47
  go_wp2_with (first
    | (at_delete; refine wpList_del _ rfl _ _ rfl (HA.out _ (HT1.out.alloc _)) HK.out rfl rfl ?_; intro w2 hA2 hT2; obtain ⟨⟨c0, c1⟩, f0, f1⟩ := blk2 (hT2.keep (((Frm.Turn.refl [] w1).alloc _).keep HB1.out (by simp)) (HP.out _ (Nat.le_refl _))); obtain ⟨⟨d0, d1⟩, g0, g1⟩ := blk2 (hT2.keep (heap_alloc_new w1 _) (HP.out _ HT1.out.size)); have HB2 := Lib.hid (hT2.keep (((Frm.Turn.refl [] w1).alloc _).keep HB1.out (by simp)) (HP.out _ (Nat.le_refl _))); have HA2 := Lib.hid hA2; have HT2 := Lib.hid (((HT1.out.alloc _).mono (by simp)).trans hT2 (fun k hk => Or.inl hk)); clear hA2 hT2)
    | (go_at_call 45; (with_reducible refine (HG.out _ (HT.out _)).mono ?_); rintro e w1 ⟨rfl, hT⟩; have HB1 := Lib.hid (hT.keep HB.out (by simp)); have HT1 := Lib.hid ((HT.out _).trans hT (by simp)); clear hT))
  have r := blk2 (told_blk HB2.out (.int .i64 x) (.int .i64 y))
  have hTt : Frm.Turn p.toList w ((w2.setCell ⟨w.heap.size, 0, none⟩ (.int .i64 x)).setCell ⟨w.heap.size, 1, none⟩ (.int .i64 y)) := (HT2.out.setCell (Or.inr (Nat.le_refl _)) _).setCell (Or.inr (Nat.le_refl _)) _
  have hT3 : Frm.Turn [w.heap.size] w2 ((w2.setCell ⟨w.heap.size, 0, none⟩ (.int .i64 x)).setCell ⟨w.heap.size, 1, none⟩ (.int .i64 y)) := ((Frm.Turn.refl _ _).setCell (Or.inl (by simp)) _).setCell (Or.inl (by simp)) _
  exact bodyPost_ret (v := rv (x, y)) (by simp [results, Tryd.results47, go_sem, r.1.1, r.1.2]) rfl ⟨rfl, HA2.out.turn hT3 (fun b hb => by simp; intro e; subst e; exact HP.out _ (Nat.le_refl _) (by simp [hb])), hTt⟩
end Mdl
end Go.Proofs.YtmodanjblbaedaaDoor
