/- What is done to a model's semaphores, a code at a time (made by tools/model-table-calls.py). -/
import Derived.Test.YtmodanjblbaedaaDoorModelMap
set_option linter.unusedVariables false
set_option linter.unusedSimpArgs false
namespace Go.Proofs.YtmodanjblbaedaaDoor
namespace Mdl
open Go.RowKit Go.Maps

set_option maxRecDepth 10000 in
set_option maxHeartbeats 2000000 in
theorem onSems_put {w : World} {b : Nat} {m : Mo} {F : List Nat} (h : MAt w b m F) {k a b2 : Int} (ho : OpOk k a b2) :
    Calls Tryd.prog 32 #[.pointer (some ⟨b, 0, none⟩), .agg #[.int .i64 10, .int .i64 k, .int .i64 a, .int .i64 b2]] w (SemEnd w b F m 10 k a) := by
  obtain ⟨qv, pd, ps, rfl, h⟩ := h
  have hI : I64 k := by have := ho.k; omega
  have hbl := h.blt
  have c2 := h.c2
  have HT := Lib.hid (fun o o' => (((Frm.Turn.refl [] w).alloc o).alloc o').drew)
  have HB := Lib.hid (fun o => res_new2 w o)
  have H := Lib.hid h
  have HBL := Lib.hid hbl
  obtain ⟨x, y, hr⟩ : ∃ x y, (semT m.s 10 k a).2 = (x, y) := ⟨_, _, rfl⟩
  have HR : Hid ((({ m with s := (semT m.s 10 k a).1 }, (semT m.s 10 k a).2) : Mo × Rs) = ({ m with d := m.d, s := (semT m.s 10 k a).1 }, (x, y))) := Lib.hid (by rw [hr])
  have HOK : Hid (MOk { m with d := m.d, s := (semT m.s 10 k a).1 }) := Lib.hid ⟨h.ok.few, h.ok.vals, h.ok.d, semT_ok h.ok.s 10 ho⟩
  have HG : Hid (∀ W, Frm.Turn [] w W → Calls Tryd.prog 46 #[.pointer (some ⟨b, 2, none⟩), .int .i64 k, .int .i64 a] W (PutEnd W b 2 #[qv, .map pd, .map ps] 59 ps ((semT m.s 10 k a).1, (x, y)))) := Lib.hid (fun W hT => by rw [← hr]; exact put_any (h.s.step hT) (hT.keep h.body (by simp)) rfl (fun q hq e => by have := h.apart; subst e; simp [foot, hq] at this) ho.k ho.a)
  clear h ho hI 
  go_enter Tryd.func32, Tryd.ntmps32
  clear hr
  go_wp2
  refine wp_tail 7 (by kernel_rfl) (by kernel_rfl) ?_
  simp only [List.take_succ_cons, List.take_zero, List.drop_succ_cons, List.drop_zero]
  iterate 7 still_step
  refine wpStill_nil ?_
  go_wp2_with (go_at_call 46; (with_reducible refine (HG.out _ (HT.out _ _)).mono ?_); intro e w1 hE; obtain rfl := hE.ret; have hk := hE.turn.keep (HB.out _) (fun hm => by simp at hm; rcases hm with e | e; (have := HBL.out; omega); (have := H.out.s.lt _ e; omega)); obtain ⟨⟨e0, e1⟩, g0, g1⟩ := blk2 hk; have HB1 := Lib.hid hk; clear hk; have HE1 := Lib.hid hE; clear hE)
  have r := blk2 (told_blk HB1.out (.int .i64 x) (.int .i64 y))
  refine bodyPost_ret (v := rv (x, y)) (by simp [results, Tryd.results32, go_sem, r.1.1, r.1.2]) rfl ?_
  obtain ⟨p', hA, hn, hb⟩ := HE1.out.at_
  have HT1 : Frm.Turn (b :: ps.toList) w w1 := ((HT.out _ _).mono (by simp)).trans HE1.out.turn (fun k hk => Or.inl hk)
  exact fin_t H.out (H.out.d.turn HT1 (H.out.bsd)) hA (HT1.mono (fun k hk => by simp at hk ⊢; rcases hk with e | e <;> simp [e])) hb (.inl rfl) (hn.imp id (fun ⟨g, e, hg⟩ => ⟨g, e, by simpa using hg⟩)) (.inl rfl) HOK.out _ _ HR.out

set_option maxRecDepth 10000 in
set_option maxHeartbeats 2000000 in
theorem onSems_acquire {w : World} {b : Nat} {m : Mo} {F : List Nat} (h : MAt w b m F) {k a b2 : Int} (ho : OpOk k a b2) :
    Calls Tryd.prog 32 #[.pointer (some ⟨b, 0, none⟩), .agg #[.int .i64 11, .int .i64 k, .int .i64 a, .int .i64 b2]] w (SemEnd w b F m 11 k a) := by
  obtain ⟨qv, pd, ps, rfl, h⟩ := h
  have hI : I64 k := by have := ho.k; omega
  have hbl := h.blt
  have c2 := h.c2
  have HT := Lib.hid (fun o o' => (((Frm.Turn.refl [] w).alloc o).alloc o').drew)
  have HB := Lib.hid (fun o => res_new2 w o)
  have H := Lib.hid h
  have HBL := Lib.hid hbl
  obtain ⟨x, y, hr⟩ : ∃ x y, (semT m.s 11 k a).2 = (x, y) := ⟨_, _, rfl⟩
  have HR : Hid ((({ m with s := (semT m.s 11 k a).1 }, (semT m.s 11 k a).2) : Mo × Rs) = ({ m with d := m.d, s := (semT m.s 11 k a).1 }, (x, y))) := Lib.hid (by rw [hr])
  have HOK : Hid (MOk { m with d := m.d, s := (semT m.s 11 k a).1 }) := Lib.hid ⟨h.ok.few, h.ok.vals, h.ok.d, semT_ok h.ok.s 11 ho⟩
  have HG : Hid (∀ W, Frm.Turn [] w W → Calls Tryd.prog 50 #[.map ps, .int .i64 k] W fun e w' => e = .returned (rv (x, y)) ∧ TAt w' ps (semT m.s 11 k a).1 ∧ Frm.Turn ps.toList W w') := Lib.hid (fun W hT => by rw [← hr]; exact acquire_any (h.s.step hT) ho.k)
  clear h ho hI 
  go_enter Tryd.func32, Tryd.ntmps32
  clear hr
  go_wp2
  refine wp_tail 6 (by kernel_rfl) (by kernel_rfl) ?_
  simp only [List.take_succ_cons, List.take_zero, List.drop_succ_cons, List.drop_zero]
  iterate 6 still_step
  refine wpStill_nil ?_
  go_wp2_with (go_at_call 50; (with_reducible refine (HG.out _ (HT.out _ _)).mono ?_); rintro e w1 ⟨rfl, hA, hT⟩; have hk := hT.keep (HB.out _) (fun hm => by have := H.out.s.lt _ (by simpa using hm); omega); obtain ⟨⟨e0, e1⟩, g0, g1⟩ := blk2 hk; have HB1 := Lib.hid hk; clear hk; have HA1 := Lib.hid hA; have HT1 : Hid (Frm.Turn ps.toList w w1) := Lib.hid (((HT.out _ _).mono (by simp)).trans hT (fun k hk => Or.inl hk)); clear hA hT)
  have r := blk2 (told_blk HB1.out (.int .i64 x) (.int .i64 y))
  refine bodyPost_ret (v := rv (x, y)) (by simp [results, Tryd.results32, go_sem, r.1.1, r.1.2]) rfl ?_
  exact fin_t H.out (H.out.d.turn HT1.out (H.out.sd)) HA1.out (HT1.out.mono (fun k hk => by simp at hk ⊢; simp [hk])) (HT1.out.keep H.out.body H.out.bs) (.inl rfl) (.inl rfl) (.inl rfl) HOK.out _ _ HR.out

set_option maxRecDepth 10000 in
set_option maxHeartbeats 2000000 in
theorem onSems_release {w : World} {b : Nat} {m : Mo} {F : List Nat} (h : MAt w b m F) {k a b2 : Int} (ho : OpOk k a b2) :
    Calls Tryd.prog 32 #[.pointer (some ⟨b, 0, none⟩), .agg #[.int .i64 12, .int .i64 k, .int .i64 a, .int .i64 b2]] w (SemEnd w b F m 12 k a) := by
  obtain ⟨qv, pd, ps, rfl, h⟩ := h
  have hI : I64 k := by have := ho.k; omega
  have hbl := h.blt
  have c2 := h.c2
  have HT := Lib.hid (fun o o' => (((Frm.Turn.refl [] w).alloc o).alloc o').drew)
  have HB := Lib.hid (fun o => res_new2 w o)
  have H := Lib.hid h
  have HBL := Lib.hid hbl
  obtain ⟨x, y, hr⟩ : ∃ x y, (semT m.s 12 k a).2 = (x, y) := ⟨_, _, rfl⟩
  have HR : Hid ((({ m with s := (semT m.s 12 k a).1 }, (semT m.s 12 k a).2) : Mo × Rs) = ({ m with d := m.d, s := (semT m.s 12 k a).1 }, (x, y))) := Lib.hid (by rw [hr])
  have HOK : Hid (MOk { m with d := m.d, s := (semT m.s 12 k a).1 }) := Lib.hid ⟨h.ok.few, h.ok.vals, h.ok.d, semT_ok h.ok.s 12 ho⟩
  have HG : Hid (∀ W, Frm.Turn [] w W → Calls Tryd.prog 51 #[.map ps, .int .i64 k] W fun e w' => e = .returned (rv (x, y)) ∧ TAt w' ps (semT m.s 12 k a).1 ∧ Frm.Turn ps.toList W w') := Lib.hid (fun W hT => by rw [← hr]; exact release_any (h.s.step hT) ho.k)
  clear h ho hI 
  go_enter Tryd.func32, Tryd.ntmps32
  clear hr
  go_wp2
  refine wp_tail 6 (by kernel_rfl) (by kernel_rfl) ?_
  simp only [List.take_succ_cons, List.take_zero, List.drop_succ_cons, List.drop_zero]
  iterate 6 still_step
  refine wpStill_nil ?_
  go_wp2_with (go_at_call 51; (with_reducible refine (HG.out _ (HT.out _ _)).mono ?_); rintro e w1 ⟨rfl, hA, hT⟩; have hk := hT.keep (HB.out _) (fun hm => by have := H.out.s.lt _ (by simpa using hm); omega); obtain ⟨⟨e0, e1⟩, g0, g1⟩ := blk2 hk; have HB1 := Lib.hid hk; clear hk; have HA1 := Lib.hid hA; have HT1 : Hid (Frm.Turn ps.toList w w1) := Lib.hid (((HT.out _ _).mono (by simp)).trans hT (fun k hk => Or.inl hk)); clear hA hT)
  have r := blk2 (told_blk HB1.out (.int .i64 x) (.int .i64 y))
  refine bodyPost_ret (v := rv (x, y)) (by simp [results, Tryd.results32, go_sem, r.1.1, r.1.2]) rfl ?_
  exact fin_t H.out (H.out.d.turn HT1.out (H.out.sd)) HA1.out (HT1.out.mono (fun k hk => by simp at hk ⊢; simp [hk])) (HT1.out.keep H.out.body H.out.bs) (.inl rfl) (.inl rfl) (.inl rfl) HOK.out _ _ HR.out

set_option maxRecDepth 10000 in
set_option maxHeartbeats 2000000 in
theorem onSems_value {w : World} {b : Nat} {m : Mo} {F : List Nat} (h : MAt w b m F) {k a b2 : Int} (ho : OpOk k a b2) :
    Calls Tryd.prog 32 #[.pointer (some ⟨b, 0, none⟩), .agg #[.int .i64 13, .int .i64 k, .int .i64 a, .int .i64 b2]] w (SemEnd w b F m 13 k a) := by
  obtain ⟨qv, pd, ps, rfl, h⟩ := h
  have hI : I64 k := by have := ho.k; omega
  have hbl := h.blt
  have c2 := h.c2
  have HT := Lib.hid (fun o o' => (((Frm.Turn.refl [] w).alloc o).alloc o').drew)
  have HB := Lib.hid (fun o => res_new2 w o)
  have H := Lib.hid h
  have HBL := Lib.hid hbl
  obtain ⟨x, y, hr⟩ : ∃ x y, (semT m.s 13 k a).2 = (x, y) := ⟨_, _, rfl⟩
  have HR : Hid ((({ m with s := (semT m.s 13 k a).1 }, (semT m.s 13 k a).2) : Mo × Rs) = ({ m with d := m.d, s := (semT m.s 13 k a).1 }, (x, y))) := Lib.hid (by rw [hr])
  have HOK : Hid (MOk { m with d := m.d, s := (semT m.s 13 k a).1 }) := Lib.hid ⟨h.ok.few, h.ok.vals, h.ok.d, semT_ok h.ok.s 13 ho⟩
  have HG : Hid (∀ W, Frm.Turn [] w W → Calls Tryd.prog 45 #[.map ps, .int .i64 k] W fun e w' => e = .returned (rv (x, y)) ∧ Frm.Turn [] W w') := Lib.hid (fun W hT => by rw [← hr]; exact get_any (h.s.step hT) hI)
  clear h ho hI 
  go_enter Tryd.func32, Tryd.ntmps32
  clear hr
  go_wp2
  refine wp_tail 6 (by kernel_rfl) (by kernel_rfl) ?_
  simp only [List.take_succ_cons, List.take_zero, List.drop_succ_cons, List.drop_zero]
  iterate 6 still_step
  refine wpStill_nil ?_
  go_wp2_with (go_at_call 45; (with_reducible refine (HG.out _ (HT.out _ _)).mono ?_); rintro e w1 ⟨rfl, hT⟩; have hk := hT.keep (HB.out _) (by simp); obtain ⟨⟨e0, e1⟩, g0, g1⟩ := blk2 hk; have HB1 := Lib.hid hk; clear hk; have HT1 := Lib.hid ((HT.out _ _).trans hT (by simp)); clear hT)
  have r := blk2 (told_blk HB1.out (.int .i64 x) (.int .i64 y))
  refine bodyPost_ret (v := rv (x, y)) (by simp [results, Tryd.results32, go_sem, r.1.1, r.1.2]) rfl ?_
  exact fin_t H.out (H.out.d.step HT1.out) (H.out.s.step HT1.out) (HT1.out.mono (by simp)) (HT1.out.keep H.out.body (by simp)) (.inl rfl) (.inl rfl) (.inl rfl) HOK.out _ _ HR.out

set_option maxRecDepth 10000 in
set_option maxHeartbeats 2000000 in
theorem onSems_drop {w : World} {b : Nat} {m : Mo} {F : List Nat} (h : MAt w b m F) {k a b2 : Int} (ho : OpOk k a b2) :
    Calls Tryd.prog 32 #[.pointer (some ⟨b, 0, none⟩), .agg #[.int .i64 14, .int .i64 k, .int .i64 a, .int .i64 b2]] w (SemEnd w b F m 14 k a) := by
  obtain ⟨qv, pd, ps, rfl, h⟩ := h
  have hI : I64 k := by have := ho.k; omega
  have hbl := h.blt
  have c2 := h.c2
  have HT := Lib.hid (fun o o' => (((Frm.Turn.refl [] w).alloc o).alloc o').drew)
  have HB := Lib.hid (fun o => res_new2 w o)
  have H := Lib.hid h
  have HBL := Lib.hid hbl
  obtain ⟨x, y, hr⟩ : ∃ x y, (semT m.s 14 k a).2 = (x, y) := ⟨_, _, rfl⟩
  have HR : Hid ((({ m with s := (semT m.s 14 k a).1 }, (semT m.s 14 k a).2) : Mo × Rs) = ({ m with d := m.d, s := (semT m.s 14 k a).1 }, (x, y))) := Lib.hid (by rw [hr])
  have HOK : Hid (MOk { m with d := m.d, s := (semT m.s 14 k a).1 }) := Lib.hid ⟨h.ok.few, h.ok.vals, h.ok.d, semT_ok h.ok.s 14 ho⟩
  have HG : Hid (∀ W, Frm.Turn [] w W → Calls Tryd.prog 47 #[.map ps, .int .i64 k] W fun e w' => e = .returned (rv (x, y)) ∧ TAt w' ps (semT m.s 14 k a).1 ∧ Frm.Turn ps.toList W w') := Lib.hid (fun W hT => by rw [← hr]; exact drop_any (h.s.step hT) ho.k)
  clear h ho hI 
  go_enter Tryd.func32, Tryd.ntmps32
  clear hr
  go_wp2
  refine wp_tail 6 (by kernel_rfl) (by kernel_rfl) ?_
  simp only [List.take_succ_cons, List.take_zero, List.drop_succ_cons, List.drop_zero]
  iterate 6 still_step
  refine wpStill_nil ?_
  go_wp2_with (go_at_call 47; (with_reducible refine (HG.out _ (HT.out _ _)).mono ?_); rintro e w1 ⟨rfl, hA, hT⟩; have hk := hT.keep (HB.out _) (fun hm => by have := H.out.s.lt _ (by simpa using hm); omega); obtain ⟨⟨e0, e1⟩, g0, g1⟩ := blk2 hk; have HB1 := Lib.hid hk; clear hk; have HA1 := Lib.hid hA; have HT1 : Hid (Frm.Turn ps.toList w w1) := Lib.hid (((HT.out _ _).mono (by simp)).trans hT (fun k hk => Or.inl hk)); clear hA hT)
  have r := blk2 (told_blk HB1.out (.int .i64 x) (.int .i64 y))
  refine bodyPost_ret (v := rv (x, y)) (by simp [results, Tryd.results32, go_sem, r.1.1, r.1.2]) rfl ?_
  exact fin_t H.out (H.out.d.turn HT1.out (H.out.sd)) HA1.out (HT1.out.mono (fun k hk => by simp at hk ⊢; simp [hk])) (HT1.out.keep H.out.body H.out.bs) (.inl rfl) (.inl rfl) (.inl rfl) HOK.out _ _ HR.out

theorem onSems_any {w : World} {b : Nat} {m : Mo} {F : List Nat} (h : MAt w b m F) {c k a b2 : Int} (ho : OpOk k a b2) (hc : 10 ≤ c ∧ c ≤ 14) :
    Calls Tryd.prog 32 #[.pointer (some ⟨b, 0, none⟩), .agg #[.int .i64 c, .int .i64 k, .int .i64 a, .int .i64 b2]] w (SemEnd w b F m c k a) := by
  have : c = 10 ∨ c = 11 ∨ c = 12 ∨ c = 13 ∨ c = 14 := by omega
  rcases this with rfl | rfl | rfl | rfl | rfl
  · exact onSems_put h ho
  · exact onSems_acquire h ho
  · exact onSems_release h ho
  · exact onSems_value h ho
  · exact onSems_drop h ho
end Mdl
end Go.Proofs.YtmodanjblbaedaaDoor
