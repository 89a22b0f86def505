/- The document's environment: Free. -/
/- The document's environment: Lay. -/
/- The document's environment: behind the call of an access that made an arena. -/
import Derived.Test.YtlghinjggkgfmaaGreatEnvAccMem
import Derived.Deep.RegionHeld3
import Derived.Deep.DeepCutAuto
set_option linter.unusedVariables false
set_option linter.unusedSimpArgs false
namespace Go.Proofs.YtlghinjggkgfmaaGreat
namespace Evn
open Go.RowKit Go.Maps Arn
variable {W W' : World} {eb : Nat} {E : En} {CS CS' : Array Value} {lv : Value} {G G' : List Nat}
/-- Behind an access. -/
def AccPost (W : World) (eb : Nat) (E' : En) (lv : Value) (G : List Nat) (v : Value) (e : Ending) (w' : World) : Prop :=
  e = .returned v ∧ ∃ CS' lv' G', EnAt w' eb E' CS' lv' G' ∧ Frm.Turn [eb] W w' ∧ (∀ k, k ∈ G' → k ∈ G ∨ W.heap.size ≤ k) ∧ ∀ k, lv'.ownBlock = some k → lv.ownBlock = some k ∨ W.heap.size ≤ k
set_option maxRecDepth 100000 in
set_option maxHeartbeats 4000000 in
theorem free_any (h : EnAt W eb E CS lv G) (hl : E.log.length ≤ 100000) (ha : E.at_ ≤ 100000) (hok : E.A.Ok) (hf : E.A.faults ≤ 100000000) (hr : E.A.t.frees ≤ 100000000) (k : Int) :
    Calls Tryz.prog 86 #[.pointer (some ⟨eb, 0, none⟩), .int .u64 k] W (AccPost W eb (E.acc (aFree k)).1 lv G (.tuple #[])) := by
  have HO := old_any h hl ha
  have hlt := h.lt
  have HGL := Lib.hid h.gl
  have HGE := Lib.hid h.ge
  obtain ⟨fs, hfs⟩ := struct_of under_refA
  have HFS := Lib.hid hfs
  by_cases hB : E.oldB = true
  · have hdef : (E.acc (aFree k)).1 = E.oldE := by unfold En.acc; rw [if_pos hB]
    rw [hdef]
    rw [hB] at HO
    have HO := Lib.hid HO
    clear h hB hdef
    go_enter Tryz.func86, Tryz.ntmps86
    go_wp2_with (first
      | (go_at_call 121; go_must (with_reducible refine HO.out.mono ?_); rintro e w1 ⟨rfl, hE1, hT1⟩; have HE1 := Lib.hid hE1; have HT1 := Lib.hid hT1; unfold resV; clear hE1 hT1))
    refine bodyPost_ret (by simp [results, Tryz.results86]) rfl ⟨rfl, CS, lv, G, HE1.out.step ?_, ?_, fun k hk => .inl hk, fun k hk => .inl hk⟩
    · (repeat' first | exact Frm.Turn.refl _ _ | refine Frm.Turn.alloc ?_ _ | refine Frm.Turn.drew ?_ | refine Frm.Turn.drewN ?_ _ | (refine Frm.Turn.setCell ?_ (.inr (by simp)) _))
    · refine HT1.out.trans (G := []) ?_ (by simp)
      (repeat' first | exact Frm.Turn.refl _ _ | refine Frm.Turn.alloc ?_ _ | refine Frm.Turn.drew ?_ | refine Frm.Turn.drewN ?_ _ | (refine Frm.Turn.setCell ?_ (.inr (by simp)) _))
  · have hB : E.oldB = false := by simpa using hB
    have hdef : (E.acc (aFree k)).1 = { E.oldE with A := (E.A.free k).1, log := E.oldE.log ++ [Res.zero] } := by unfold En.acc; rw [if_neg (by rw [hB]; simp), (oldE_same E).2]; rfl
    rw [hdef]
    rw [hB, oldR_of hB] at HO
    have HO := Lib.hid HO
    have HEA := Lib.hid (oldE_same E).1
    have HLG : Hid (E.oldE.log.length ≤ 100000) := Lib.hid (by rw [(oldE_same E).2]; exact hl)
    have HOK := Lib.hid hok
    clear h hB hdef
    go_enter Tryz.func86, Tryz.ntmps86
    go_wp2_with (first
      | (go_at_call 121; go_must (with_reducible refine HO.out.mono ?_); rintro e w1 ⟨rfl, hE1, hT1⟩; have HE1 := Lib.hid hE1; have HT1 := Lib.hid hT1; have HRF := Lib.hid (fun W (hT : Frm.Turn [] w1 W) => refFree_s E.A (.agg CS) G W (by have := (hE1.step hT).m; rw [HEA.out] at this; exact this) HOK.out hf hr k); unfold resV Res.zero; clear hE1 hT1)
      | (refine wpList_load_mid rfl 67 (.tmp 18) rfl eb 0 rfl CS.toList (.struct fs) ((HE1.out.step (by (repeat' first | exact Frm.Turn.refl _ _ | refine Frm.Turn.alloc ?_ _ | refine Frm.Turn.drew ?_ | refine Frm.Turn.drewN ?_ _ | (refine Frm.Turn.setCell ?_ (.inr (by simp)) _)))).range) HFS.out rfl (by rw [Array.length_toList, HE1.out.size]; exact info_refA) ?_; rw [Array.toArray_toList])
      | (go_at_call 124; go_must (with_reducible refine (HRF.out _ (by (repeat' first | exact Frm.Turn.refl _ _ | refine Frm.Turn.alloc ?_ _ | refine Frm.Turn.drew ?_ | refine Frm.Turn.drewN ?_ _ | (refine Frm.Turn.setCell ?_ (.inr (by simp)) _)))).mono ?_); rintro e w2 ⟨u', G', rfl, hR, hT2, hG⟩; obtain ⟨CS', rfl, hz, hone⟩ := hR.row; have hput := put_all HE1.out (((Frm.Turn.refl [] w1).alloc _).trans hT2 (by simp)) hz hone hR (fun q hq => by rcases hG q hq with h | h; exact .inl h; exact .inr ⟨by have := h.1; simp at this; omega, h.2⟩); unfold z20 at hput; obtain ⟨q1, q2, q3, q4⟩ := hput; have HR1 := Lib.hid q1; have HR2 := Lib.hid q2; have HR3 := Lib.hid q3; have HR4 := Lib.hid q4; have HZ := Lib.hid hz; have HONE := Lib.hid hone; have HGG : Hid (∀ q, q ∈ G' → q ∈ G ∨ W.heap.size ≤ q) := Lib.hid (fun q hq => by rcases hG q hq with h | h; exact .inl h; exact .inr (by have := h.1; have := HT1.out.size; simp at *; omega)); have hd := done_any q3 HLG.out Res.zero; unfold resV Res.zero at hd; dsimp only at hd; have HD := Lib.hid hd; clear hd q1 q2 q3 q4 hz hone hR hT2 hG)
      | (refine wpList_store_row rfl 67 (.tmp 6) (.tmp 22) rfl w2.heap.size CS' rfl rfl 67 _ (World.alloc_heap_new w2 _) (by rw [HZ.out]; exact info_refA) (by rw [HZ.out]; rfl) HONE.out ?_)
      | (refine wpList_load_row rfl 67 (.tmp 6) rfl w2.heap.size rfl 67 CS' (0, 0) (.struct fs) HR1.out HFS.out rfl (by rw [HZ.out]; exact info_refA) ?_)
      | (refine wpList_store_mid rfl 67 (.tmp 27) (.tmp 25) rfl eb 0 CS' rfl rfl (by rw [HZ.out]; exact HR2.out.there) (by rw [HZ.out]; exact info_refA) HONE.out ?_)
      | (go_at_call 123; go_must (with_reducible refine HD.out.mono ?_); rintro e w4 ⟨rfl, lv4, hE4, hT4, hL4⟩; have HE4 := Lib.hid hE4; have HT4 := Lib.hid ((HT1.out.trans HR4.out (fun k hk => .inl hk)).trans hT4 (fun k hk => .inl hk)); have HL4 : Hid (∀ q, lv4.ownBlock = some q → W.heap.size ≤ q) := Lib.hid (fun q hq => by have h5 := hL4 q hq; have h6 := HR4.out.size; have h7 := HT1.out.size; omega); clear hE4 hT4 hL4))
    exact bodyPost_ret (by simp [results, Tryz.results86]) rfl ⟨rfl, CS', lv4, G', HE4.out, HT4.out, HGG.out, fun q hq => .inr (HL4.out q hq)⟩
end Evn
end Go.Proofs.YtlghinjggkgfmaaGreat

set_option linter.unusedVariables false
set_option linter.unusedSimpArgs false
namespace Go.Proofs.YtlghinjggkgfmaaGreat
namespace Evn
open Go.RowKit Go.Maps Arn
variable {W W' : World} {eb : Nat} {E : En} {CS CS' : Array Value} {lv : Value} {G G' : List Nat}
/-- The cells of a block of a result. -/
theorem res_cells {w : World} {k : Nat} {x y z : Value} (h : w.heap[k]? = some (.cells #[x, y, z] 213 (0, 0))) :
    (w.cell? ⟨k, 0, none⟩ = some x ∧ w.cell? ⟨k, 1, none⟩ = some y ∧ w.cell? ⟨k, 2, none⟩ = some z) ∧ w.frozen? ⟨k, 0, none⟩ = false ∧ w.frozen? ⟨k, 1, none⟩ = false ∧ w.frozen? ⟨k, 2, none⟩ = false :=
  ⟨⟨(Frm.cell_row _ _ 0 _ _ _ h).trans rfl, (Frm.cell_row _ _ 1 _ _ _ h).trans rfl, (Frm.cell_row _ _ 2 _ _ _ h).trans rfl⟩, Frm.frozen_row _ _ 0 _ _ h, Frm.frozen_row _ _ 1 _ _ h, Frm.frozen_row _ _ 2 _ _ h⟩
/-- The block of the answer is written anew. -/
theorem put_answer {w1 w4 : World} {lv4 : Value} {k : Nat} {x y z : Value} (h1 : EnAt w1 eb E CS lv G) (hT1 : Frm.Turn [eb] W w1) (hk : k = w1.heap.size) (hk4 : k < w4.heap.size) {E4 : En} (h4 : EnAt w4 eb E4 CS' lv4 G') (hT4 : Frm.Turn [eb] W w4) (hg : k ∉ G') (hl : ∀ q, lv4.ownBlock = some q → k < q) :
    EnAt (((w4.setCell ⟨k, 0, none⟩ x).setCell ⟨k, 1, none⟩ y).setCell ⟨k, 2, none⟩ z) eb E4 CS' lv4 G' ∧ Frm.Turn [eb] W (((w4.setCell ⟨k, 0, none⟩ x).setCell ⟨k, 1, none⟩ y).setCell ⟨k, 2, none⟩ z) := by
  have hT : Frm.Turn [k] w4 (((w4.setCell ⟨k, 0, none⟩ x).setCell ⟨k, 1, none⟩ y).setCell ⟨k, 2, none⟩ z) :=
    (((Frm.Turn.refl [k] w4).setCell (p := ⟨k, 0, none⟩) (.inl (by simp)) _).setCell (p := ⟨k, 1, none⟩) (.inl (by simp)) _).setCell (p := ⟨k, 2, none⟩) (.inl (by simp)) _
  have he := h1.lt
  have hs := hT1.size
  exact ⟨h4.turn hT (by simp; omega) (fun q hq e => by simp at e; subst e; exact hg hq) (fun q hq e => by simp at e; have := hl q hq; omega), hT4.trans hT (fun q hq => .inr (by simp at hq; omega))⟩
end Evn
end Go.Proofs.YtlghinjggkgfmaaGreat

set_option linter.unusedVariables false
set_option linter.unusedSimpArgs false
namespace Go.Proofs.YtlghinjggkgfmaaGreat
namespace Evn
open Go.RowKit Go.Maps Arn
variable {W W' : World} {eb : Nat} {E : En} {CS CS' : Array Value} {lv : Value} {G G' : List Nat}
/-- The arena that an access made lies in a new block kb. -/
def Took (w0 : World) (eb : Nat) (E : En) (CS : Array Value) (lv : Value) (G : List Nat) (A' : Ar) (kb : Nat) (CS' : Array Value) (G' : List Nat) (W : World) : Prop :=
  W.heap[kb]? = some (.cells CS' 67 (0, 0)) ∧ CS'.size = 20 ∧ CS'.all (·.oneCell') = true ∧ EnAt W eb E CS lv G ∧
  (EnAt (W.setCells eb 0 CS'.toList) eb { E with A := A' } CS' lv G' ∧ Frm.Turn [eb] w0 (W.setCells eb 0 CS'.toList)) ∧ Frm.Turn [] w0 W ∧ ∀ q, q ∈ G' → q ∈ G ∨ w0.heap.size ≤ q
theorem took_any {w0 w2 : World} {A' : Ar} {kb : Nat} (h0 : EnAt w0 eb E CS lv G) (hT : Frm.Turn [] w0 w2) (hs : CS'.size = 20) (ho : CS'.all (·.oneCell') = true) (hr : RefS w2 A' (.agg CS') G') (hG : ∀ q, q ∈ G' → q ∈ G ∨ (w0.heap.size ≤ q ∧ q < w2.heap.size)) (hk : w2.heap[kb]? = some (.cells CS' 67 (0, 0))) :
    Took w0 eb E CS lv G A' kb CS' G' w2 := by
  have hE := h0.step hT
  have hlt := h0.lt
  have hsz := hT.size
  have hg : eb ∉ G' := fun hk => by
    rcases hG eb hk with h | h
    · exact h0.ge h
    · omega
  have hl : ∀ k, k ∈ G' → k < w2.heap.size := fun k hk => by
    rcases hG k hk with h | h
    · have := h0.gl k h; omega
    · exact h.2
  obtain ⟨p1, p2⟩ := hE.putM hs ho hr hg hl
  exact ⟨hk, hs, ho, hE, ⟨p1, (hT.mono (by simp)).trans p2 (fun k hk => .inl hk)⟩, hT, fun q hq => (hG q hq).imp_right (·.1)⟩
/-- The block was made behind the call. -/
theorem took_behind {w0 w1 w2 : World} {A' : Ar} (h0 : EnAt w0 eb E CS lv G) (hT1 : Frm.Turn [] w0 w1) (hT : Frm.Turn [] w1 w2) (hs : CS'.size = 20) (ho : CS'.all (·.oneCell') = true) (hr : RefS w2 A' (.agg CS') G') (hG : ∀ q, q ∈ G' → q ∈ G ∨ (w1.heap.size ≤ q ∧ q < w2.heap.size)) (C : Array Value) :
    Took w0 eb E CS lv G A' w2.heap.size CS' G' ((w2.alloc (.cells C 67)).setRow w2.heap.size CS') := by
  rw [World.setRow_alloc_new]
  have hT2 := hT1.trans hT (by simp)
  refine took_any h0 (hT2.alloc _) hs ho (hr.turn ((Frm.Turn.refl [] w2).alloc _) (by simp)) (fun q hq => ?_) (World.alloc_heap_new _ _)
  rcases hG q hq with h | h
  · exact .inl h
  · have := hT1.size
    exact .inr ⟨by omega, by rw [World.size_alloc]; omega⟩
/-- The block was made ahead of the call. -/
theorem took_ahead {w0 w1 w2 : World} {A' : Ar} (h0 : EnAt w0 eb E CS lv G) (hT1 : Frm.Turn [] w0 w1) (C : Array Value) (hT : Frm.Turn [] (w1.alloc (.cells C 67)) w2) (hs : CS'.size = 20) (ho : CS'.all (·.oneCell') = true) (hr : RefS w2 A' (.agg CS') G') (hG : ∀ q, q ∈ G' → q ∈ G ∨ ((w1.alloc (.cells C 67)).heap.size ≤ q ∧ q < w2.heap.size)) :
    Took w0 eb E CS lv G A' w1.heap.size CS' G' (w2.setRow w1.heap.size CS') := by
  have hT2 : Frm.Turn [] w0 w2 := (hT1.alloc _).trans hT (by simp)
  have hz := hT.size
  have hz1 := hT1.size
  rw [World.size_alloc] at hz
  have hT3 := setRow_turn hT2 (.inr hz1) CS'
  have hTr : Frm.Turn [w1.heap.size] w2 (w2.setRow w1.heap.size CS') := setRow_turn (Frm.Turn.refl _ w2) (.inl (by simp)) CS'
  refine took_any h0 hT3 hs ho (hr.turn hTr (fun k hk e => ?_)) (fun q hq => ?_) (setRow_heap _ _ _ _ _ _ (hT.keep (World.alloc_heap_new w1 _) (by simp)))
  · simp at e
    subst e
    rcases hG _ hk with h | h
    · have := h0.gl _ h; omega
    · rw [World.size_alloc] at h; omega
  · rcases hG q hq with h | h
    · exact .inl h
    · rw [World.size_alloc] at h
      exact .inr ⟨by omega, by have := hTr.size; omega⟩
end Evn
end Go.Proofs.YtlghinjggkgfmaaGreat
