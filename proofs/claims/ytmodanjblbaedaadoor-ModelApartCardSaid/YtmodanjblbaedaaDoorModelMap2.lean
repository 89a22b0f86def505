/- What is done to a model's map, a code at a time (made by tools/model-table-calls.py). -/
import Derived.Test.YtmodanjblbaedaaDoorModelMap
set_option linter.unusedVariables false
set_option linter.unusedSimpArgs false
namespace Go.Proofs.YtmodanjblbaedaaDoor
namespace Mdl
open Go.RowKit Go.Maps

set_option maxRecDepth 10000 in
set_option maxHeartbeats 2000000 in
theorem onMap_get {w : World} {b : Nat} {m : Mo} {F : List Nat} (h : MAt w b m F) {k a b2 : Int} (ho : OpOk k a b2) :
    Calls Tryd.prog 31 #[.pointer (some ⟨b, 0, none⟩), .agg #[.int .i64 4, .int .i64 k, .int .i64 a, .int .i64 b2]] w (MapEnd w b F m 4 k a b2) := by
  obtain ⟨qv, pd, ps, rfl, h⟩ := h
  have hI : I64 k := by have := ho.k; omega
  have hbl := h.blt
  have c1 := h.c1
  have HT := Lib.hid (fun o o' => (((Frm.Turn.refl [] w).alloc o).alloc o').drew)
  have HB := Lib.hid (fun o => res_new2 w o)
  have H := Lib.hid h
  have HBL := Lib.hid hbl
  obtain ⟨x, y, hr⟩ : ∃ x y, (mapT m.d 4 k a b2).2 = (x, y) := ⟨_, _, rfl⟩
  have HR : Hid ((({ m with d := (mapT m.d 4 k a b2).1 }, (mapT m.d 4 k a b2).2) : Mo × Rs) = ({ m with d := (mapT m.d 4 k a b2).1, s := m.s }, (x, y))) := Lib.hid (by rw [hr])
  have HOK : Hid (MOk { m with d := (mapT m.d 4 k a b2).1, s := m.s }) := Lib.hid ⟨h.ok.few, h.ok.vals, mapT_ok h.ok.d 4 ho, h.ok.s⟩
  have HG : Hid (∀ W, Frm.Turn [] w W → Calls Tryd.prog 45 #[.map pd, .int .i64 k] W fun e w' => e = .returned (rv (x, y)) ∧ Frm.Turn [] W w') := Lib.hid (fun W hT => by rw [← hr]; exact get_any (h.d.step hT) hI)
  clear h ho hI 
  go_enter Tryd.func31, Tryd.ntmps31
  clear hr
  go_wp2
  refine wp_tail 6 (by kernel_rfl) (by kernel_rfl) ?_
  simp only [List.take_succ_cons, List.take_zero, List.drop_succ_cons, List.drop_zero]
  iterate 6 still_step
  refine wpStill_nil ?_
  go_wp2_with (go_at_call 45; (with_reducible refine (HG.out _ (HT.out _ _)).mono ?_); rintro e w1 ⟨rfl, hT⟩; have hk := hT.keep (HB.out _) (by simp); obtain ⟨⟨e0, e1⟩, g0, g1⟩ := blk2 hk; have HB1 := Lib.hid hk; clear hk; have HT1 := Lib.hid ((HT.out _ _).trans hT (by simp)); clear hT)
  have r := blk2 (told_blk HB1.out (.int .i64 x) (.int .i64 y))
  refine bodyPost_ret (v := rv (x, y)) (by simp [results, Tryd.results31, go_sem, r.1.1, r.1.2]) rfl ?_
  exact fin_t H.out (H.out.d.step HT1.out) (H.out.s.step HT1.out) (HT1.out.mono (by simp)) (HT1.out.keep H.out.body (by simp)) (.inl rfl) (.inl rfl) (.inl rfl) HOK.out _ _ HR.out

set_option maxRecDepth 10000 in
set_option maxHeartbeats 2000000 in
theorem onMap_put {w : World} {b : Nat} {m : Mo} {F : List Nat} (h : MAt w b m F) {k a b2 : Int} (ho : OpOk k a b2) :
    Calls Tryd.prog 31 #[.pointer (some ⟨b, 0, none⟩), .agg #[.int .i64 5, .int .i64 k, .int .i64 a, .int .i64 b2]] w (MapEnd w b F m 5 k a b2) := by
  obtain ⟨qv, pd, ps, rfl, h⟩ := h
  have hI : I64 k := by have := ho.k; omega
  have hbl := h.blt
  have c1 := h.c1
  have HT := Lib.hid (fun o o' => (((Frm.Turn.refl [] w).alloc o).alloc o').drew)
  have HB := Lib.hid (fun o => res_new2 w o)
  have H := Lib.hid h
  have HBL := Lib.hid hbl
  obtain ⟨x, y, hr⟩ : ∃ x y, (mapT m.d 5 k a b2).2 = (x, y) := ⟨_, _, rfl⟩
  have HR : Hid ((({ m with d := (mapT m.d 5 k a b2).1 }, (mapT m.d 5 k a b2).2) : Mo × Rs) = ({ m with d := (mapT m.d 5 k a b2).1, s := m.s }, (x, y))) := Lib.hid (by rw [hr])
  have HOK : Hid (MOk { m with d := (mapT m.d 5 k a b2).1, s := m.s }) := Lib.hid ⟨h.ok.few, h.ok.vals, mapT_ok h.ok.d 5 ho, h.ok.s⟩
  have HG : Hid (∀ W, Frm.Turn [] w W → Calls Tryd.prog 46 #[.pointer (some ⟨b, 1, none⟩), .int .i64 k, .int .i64 a] W (PutEnd W b 1 #[qv, .map pd, .map ps] 59 pd ((mapT m.d 5 k a b2).1, (x, y)))) := Lib.hid (fun W hT => by rw [← hr]; exact put_any (h.d.step hT) (hT.keep h.body (by simp)) rfl (fun q hq e => by have := h.apart; subst e; simp [foot, hq] at this) ho.k ho.a)
  clear h ho hI 
  go_enter Tryd.func31, Tryd.ntmps31
  clear hr
  go_wp2
  refine wp_tail 7 (by kernel_rfl) (by kernel_rfl) ?_
  simp only [List.take_succ_cons, List.take_zero, List.drop_succ_cons, List.drop_zero]
  iterate 7 still_step
  refine wpStill_nil ?_
  go_wp2_with (go_at_call 46; (with_reducible refine (HG.out _ (HT.out _ _)).mono ?_); intro e w1 hE; obtain rfl := hE.ret; have hk := hE.turn.keep (HB.out _) (fun hm => by simp at hm; rcases hm with e | e; (have := HBL.out; omega); (have := H.out.d.lt _ e; omega)); obtain ⟨⟨e0, e1⟩, g0, g1⟩ := blk2 hk; have HB1 := Lib.hid hk; clear hk; have HE1 := Lib.hid hE; clear hE)
  have r := blk2 (told_blk HB1.out (.int .i64 x) (.int .i64 y))
  refine bodyPost_ret (v := rv (x, y)) (by simp [results, Tryd.results31, go_sem, r.1.1, r.1.2]) rfl ?_
  obtain ⟨p', hA, hn, hb⟩ := HE1.out.at_
  have HT1 : Frm.Turn (b :: pd.toList) w w1 := ((HT.out _ _).mono (by simp)).trans HE1.out.turn (fun k hk => Or.inl hk)
  exact fin_t H.out hA (H.out.s.turn HT1 (H.out.bds)) (HT1.mono (fun k hk => by simp at hk ⊢; rcases hk with e | e <;> simp [e])) hb (hn.imp id (fun ⟨g, e, hg⟩ => ⟨g, e, by simpa using hg⟩)) (.inl rfl) (.inr rfl) HOK.out _ _ HR.out

set_option maxRecDepth 10000 in
set_option maxHeartbeats 2000000 in
theorem onMap_drop {w : World} {b : Nat} {m : Mo} {F : List Nat} (h : MAt w b m F) {k a b2 : Int} (ho : OpOk k a b2) :
    Calls Tryd.prog 31 #[.pointer (some ⟨b, 0, none⟩), .agg #[.int .i64 6, .int .i64 k, .int .i64 a, .int .i64 b2]] w (MapEnd w b F m 6 k a b2) := by
  obtain ⟨qv, pd, ps, rfl, h⟩ := h
  have hI : I64 k := by have := ho.k; omega
  have hbl := h.blt
  have c1 := h.c1
  have HT := Lib.hid (fun o o' => (((Frm.Turn.refl [] w).alloc o).alloc o').drew)
  have HB := Lib.hid (fun o => res_new2 w o)
  have H := Lib.hid h
  have HBL := Lib.hid hbl
  obtain ⟨x, y, hr⟩ : ∃ x y, (mapT m.d 6 k a b2).2 = (x, y) := ⟨_, _, rfl⟩
  have HR : Hid ((({ m with d := (mapT m.d 6 k a b2).1 }, (mapT m.d 6 k a b2).2) : Mo × Rs) = ({ m with d := (mapT m.d 6 k a b2).1, s := m.s }, (x, y))) := Lib.hid (by rw [hr])
  have HOK : Hid (MOk { m with d := (mapT m.d 6 k a b2).1, s := m.s }) := Lib.hid ⟨h.ok.few, h.ok.vals, mapT_ok h.ok.d 6 ho, h.ok.s⟩
  have HG : Hid (∀ W, Frm.Turn [] w W → Calls Tryd.prog 47 #[.map pd, .int .i64 k] W fun e w' => e = .returned (rv (x, y)) ∧ TAt w' pd (mapT m.d 6 k a b2).1 ∧ Frm.Turn pd.toList W w') := Lib.hid (fun W hT => by rw [← hr]; exact drop_any (h.d.step hT) ho.k)
  clear h ho hI 
  go_enter Tryd.func31, Tryd.ntmps31
  clear hr
  go_wp2
  refine wp_tail 6 (by kernel_rfl) (by kernel_rfl) ?_
  simp only [List.take_succ_cons, List.take_zero, List.drop_succ_cons, List.drop_zero]
  iterate 6 still_step
  refine wpStill_nil ?_
  go_wp2_with (go_at_call 47; (with_reducible refine (HG.out _ (HT.out _ _)).mono ?_); rintro e w1 ⟨rfl, hA, hT⟩; have hk := hT.keep (HB.out _) (fun hm => by have := H.out.d.lt _ (by simpa using hm); omega); obtain ⟨⟨e0, e1⟩, g0, g1⟩ := blk2 hk; have HB1 := Lib.hid hk; clear hk; have HA1 := Lib.hid hA; have HT1 : Hid (Frm.Turn pd.toList w w1) := Lib.hid (((HT.out _ _).mono (by simp)).trans hT (fun k hk => Or.inl hk)); clear hA hT)
  have r := blk2 (told_blk HB1.out (.int .i64 x) (.int .i64 y))
  refine bodyPost_ret (v := rv (x, y)) (by simp [results, Tryd.results31, go_sem, r.1.1, r.1.2]) rfl ?_
  exact fin_t H.out HA1.out (H.out.s.turn HT1.out (H.out.ds)) (HT1.out.mono (fun k hk => by simp at hk ⊢; simp [hk])) (HT1.out.keep H.out.body H.out.bd) (.inl rfl) (.inl rfl) (.inl rfl) HOK.out _ _ HR.out

set_option maxRecDepth 10000 in
set_option maxHeartbeats 2000000 in
theorem onMap_swap {w : World} {b : Nat} {m : Mo} {F : List Nat} (h : MAt w b m F) {k a b2 : Int} (ho : OpOk k a b2) :
    Calls Tryd.prog 31 #[.pointer (some ⟨b, 0, none⟩), .agg #[.int .i64 7, .int .i64 k, .int .i64 a, .int .i64 b2]] w (MapEnd w b F m 7 k a b2) := by
  obtain ⟨qv, pd, ps, rfl, h⟩ := h
  have hI : I64 k := by have := ho.k; omega
  have hbl := h.blt
  have c1 := h.c1
  have HT := Lib.hid (fun o o' => (((Frm.Turn.refl [] w).alloc o).alloc o').drew)
  have HB := Lib.hid (fun o => res_new2 w o)
  have H := Lib.hid h
  have HBL := Lib.hid hbl
  obtain ⟨x, y, hr⟩ : ∃ x y, (mapT m.d 7 k a b2).2 = (x, y) := ⟨_, _, rfl⟩
  have HR : Hid ((({ m with d := (mapT m.d 7 k a b2).1 }, (mapT m.d 7 k a b2).2) : Mo × Rs) = ({ m with d := (mapT m.d 7 k a b2).1, s := m.s }, (x, y))) := Lib.hid (by rw [hr])
  have HOK : Hid (MOk { m with d := (mapT m.d 7 k a b2).1, s := m.s }) := Lib.hid ⟨h.ok.few, h.ok.vals, mapT_ok h.ok.d 7 ho, h.ok.s⟩
  have HG : Hid (∀ W, Frm.Turn [] w W → Calls Tryd.prog 48 #[.map pd, .int .i64 k, .int .i64 a, .int .i64 b2] W fun e w' => e = .returned (rv (x, y)) ∧ TAt w' pd (mapT m.d 7 k a b2).1 ∧ Frm.Turn pd.toList W w') := Lib.hid (fun W hT => by rw [← hr]; exact swap_any (h.d.step hT) ho)
  clear h ho hI 
  go_enter Tryd.func31, Tryd.ntmps31
  clear hr
  go_wp2
  refine wp_tail 10 (by kernel_rfl) (by kernel_rfl) ?_
  simp only [List.take_succ_cons, List.take_zero, List.drop_succ_cons, List.drop_zero]
  iterate 10 still_step
  refine wpStill_nil ?_
  go_wp2_with (go_at_call 48; (with_reducible refine (HG.out _ (HT.out _ _)).mono ?_); rintro e w1 ⟨rfl, hA, hT⟩; have hk := hT.keep (HB.out _) (fun hm => by have := H.out.d.lt _ (by simpa using hm); omega); obtain ⟨⟨e0, e1⟩, g0, g1⟩ := blk2 hk; have HB1 := Lib.hid hk; clear hk; have HA1 := Lib.hid hA; have HT1 : Hid (Frm.Turn pd.toList w w1) := Lib.hid (((HT.out _ _).mono (by simp)).trans hT (fun k hk => Or.inl hk)); clear hA hT)
  have r := blk2 (told_blk HB1.out (.int .i64 x) (.int .i64 y))
  refine bodyPost_ret (v := rv (x, y)) (by simp [results, Tryd.results31, go_sem, r.1.1, r.1.2]) rfl ?_
  exact fin_t H.out HA1.out (H.out.s.turn HT1.out (H.out.ds)) (HT1.out.mono (fun k hk => by simp at hk ⊢; simp [hk])) (HT1.out.keep H.out.body H.out.bd) (.inl rfl) (.inl rfl) (.inl rfl) HOK.out _ _ HR.out

set_option maxRecDepth 10000 in
set_option maxHeartbeats 2000000 in
theorem onMap_len {w : World} {b : Nat} {m : Mo} {F : List Nat} (h : MAt w b m F) {k a b2 : Int} (ho : OpOk k a b2) :
    Calls Tryd.prog 31 #[.pointer (some ⟨b, 0, none⟩), .agg #[.int .i64 8, .int .i64 k, .int .i64 a, .int .i64 b2]] w (MapEnd w b F m 8 k a b2) := by
  obtain ⟨qv, pd, ps, rfl, h⟩ := h
  have hI : I64 k := by have := ho.k; omega
  have hbl := h.blt
  have c1 := h.c1
  have HT := Lib.hid (fun o o' => (((Frm.Turn.refl [] w).alloc o).alloc o'))
  have HB := Lib.hid (fun o => res_new2p w o)
  have H := Lib.hid h
  have HBL := Lib.hid hbl
  obtain ⟨x, y, hr⟩ : ∃ x y, (mapT m.d 8 k a b2).2 = (x, y) := ⟨_, _, rfl⟩
  have HR : Hid ((({ m with d := (mapT m.d 8 k a b2).1 }, (mapT m.d 8 k a b2).2) : Mo × Rs) = ({ m with d := (mapT m.d 8 k a b2).1, s := m.s }, (x, y))) := Lib.hid (by rw [hr])
  have HOK : Hid (MOk { m with d := (mapT m.d 8 k a b2).1, s := m.s }) := Lib.hid ⟨h.ok.few, h.ok.vals, mapT_ok h.ok.d 8 ho, h.ok.s⟩
  clear h ho hI 
  go_enter Tryd.func31, Tryd.ntmps31
  have hr2 : (x, y) = ((0 : Int), (cnt m.d : Int)) := by rw [← hr]; rfl
  cases hr2
  clear hr
  go_wp2_with (first
    | (refine wpList_len _ rfl _ rfl (H.out.d.step (HT.out _ _)) rfl ?_)
    | (go_at_call 44; (with_reducible refine (done_any _ _).mono ?_); rintro e w1 ⟨rfl, hT⟩; have hk := hT.keep (HB.out _) (by simp); obtain ⟨⟨e0, e1⟩, g0, g1⟩ := blk2 hk; have HB1 := Lib.hid hk; clear hk; have HT1 := Lib.hid ((HT.out _ _).trans hT (by simp)); clear hT))
  have r := blk2 (told_blk HB1.out (.int .i64 0) (.int .i64 (cnt m.d : Int)))
  refine bodyPost_ret (v := rv (0, (cnt m.d : Int))) (by simp [results, Tryd.results31, go_sem, r.1.1, r.1.2]) rfl ?_
  exact fin_t H.out (H.out.d.step HT1.out) (H.out.s.step HT1.out) (HT1.out.mono (by simp)) (HT1.out.keep H.out.body (by simp)) (.inl rfl) (.inl rfl) (.inl rfl) HOK.out _ _ HR.out

set_option maxRecDepth 10000 in
set_option maxHeartbeats 2000000 in
theorem onMap_floor {w : World} {b : Nat} {m : Mo} {F : List Nat} (h : MAt w b m F) {k a b2 : Int} (ho : OpOk k a b2) :
    Calls Tryd.prog 31 #[.pointer (some ⟨b, 0, none⟩), .agg #[.int .i64 9, .int .i64 k, .int .i64 a, .int .i64 b2]] w (MapEnd w b F m 9 k a b2) := by
  obtain ⟨qv, pd, ps, rfl, h⟩ := h
  have hI : I64 k := by have := ho.k; omega
  have hbl := h.blt
  have c1 := h.c1
  have HT := Lib.hid (fun o o' => (((Frm.Turn.refl [] w).alloc o).alloc o').drew)
  have HB := Lib.hid (fun o => res_new2 w o)
  have H := Lib.hid h
  have HBL := Lib.hid hbl
  obtain ⟨x, y, hr⟩ : ∃ x y, (mapT m.d 9 k a b2).2 = (x, y) := ⟨_, _, rfl⟩
  have HR : Hid ((({ m with d := (mapT m.d 9 k a b2).1 }, (mapT m.d 9 k a b2).2) : Mo × Rs) = ({ m with d := (mapT m.d 9 k a b2).1, s := m.s }, (x, y))) := Lib.hid (by rw [hr])
  have HOK : Hid (MOk { m with d := (mapT m.d 9 k a b2).1, s := m.s }) := Lib.hid ⟨h.ok.few, h.ok.vals, mapT_ok h.ok.d 9 ho, h.ok.s⟩
  have HG : Hid (∀ W, Frm.Turn [] w W → Calls Tryd.prog 49 #[.map pd, .int .i64 k] W fun e w' => e = .returned (rv (x, y)) ∧ Frm.Turn [] W w') := Lib.hid (fun W hT => by rw [← hr]; exact floor_any (h.d.step hT) ho.k)
  clear h ho hI 
  go_enter Tryd.func31, Tryd.ntmps31
  clear hr
  go_wp2
  refine wp_tail 6 (by kernel_rfl) (by kernel_rfl) ?_
  simp only [List.take_succ_cons, List.take_zero, List.drop_succ_cons, List.drop_zero]
  iterate 6 still_step
  refine wpStill_nil ?_
  go_wp2_with (go_at_call 49; (with_reducible refine (HG.out _ (HT.out _ _)).mono ?_); rintro e w1 ⟨rfl, hT⟩; have hk := hT.keep (HB.out _) (by simp); obtain ⟨⟨e0, e1⟩, g0, g1⟩ := blk2 hk; have HB1 := Lib.hid hk; clear hk; have HT1 := Lib.hid ((HT.out _ _).trans hT (by simp)); clear hT)
  have r := blk2 (told_blk HB1.out (.int .i64 x) (.int .i64 y))
  refine bodyPost_ret (v := rv (x, y)) (by simp [results, Tryd.results31, go_sem, r.1.1, r.1.2]) rfl ?_
  exact fin_t H.out (H.out.d.step HT1.out) (H.out.s.step HT1.out) (HT1.out.mono (by simp)) (HT1.out.keep H.out.body (by simp)) (.inl rfl) (.inl rfl) (.inl rfl) HOK.out _ _ HR.out

theorem onMap_any {w : World} {b : Nat} {m : Mo} {F : List Nat} (h : MAt w b m F) {c k a b2 : Int} (ho : OpOk k a b2) (hc : 4 ≤ c ∧ c ≤ 9) :
    Calls Tryd.prog 31 #[.pointer (some ⟨b, 0, none⟩), .agg #[.int .i64 c, .int .i64 k, .int .i64 a, .int .i64 b2]] w (MapEnd w b F m c k a b2) := by
  have : c = 4 ∨ c = 5 ∨ c = 6 ∨ c = 7 ∨ c = 8 ∨ c = 9 := by omega
  rcases this with rfl | rfl | rfl | rfl | rfl | rfl
  · exact onMap_get h ho
  · exact onMap_put h ho
  · exact onMap_drop h ho
  · exact onMap_swap h ho
  · exact onMap_len h ho
  · exact onMap_floor h ho
end Mdl
end Go.Proofs.YtmodanjblbaedaaDoor
