/- The document's environment: Free. -/
import Derived.Test.YtolcpfidmpoipaaGreatEnvAccMem
set_option linter.unusedVariables false
set_option linter.unusedSimpArgs false
namespace Go.Proofs.YtolcpfidmpoipaaGreat
namespace Evn
open Go.RowKit Go.Maps Arn
variable {W W' : World} {eb : Nat} {E : En} {CS CS' : Array Value} {lv : Value} {G G' : List Nat}
/-- Behind an access. -/
def AccPost (W : World) (eb : Nat) (E' : En) (lv : Value) (G : List Nat) (v : Value) (e : Ending) (w' : World) : Prop :=
  e = .returned v ∧ ∃ CS' lv' G', EnAt w' eb E' CS' lv' G' ∧ Frm.Turn [eb] W w' ∧ (∀ k, k ∈ G' → k ∈ G ∨ W.heap.size ≤ k) ∧ ∀ k, lv'.ownBlock = some k → lv.ownBlock = some k ∨ W.heap.size ≤ k
set_option maxRecDepth 100000 in
set_option maxHeartbeats 4000000 in
theorem free_any (h : EnAt W eb E CS lv G) (hl : E.log.length ≤ 100000) (ha : E.at_ ≤ 100000) (hok : E.A.Ok) (hf : E.A.faults ≤ 100000000) (hr : E.A.t.frees ≤ 100000000) (k : Int) :
    Calls Tryz.prog 51 #[.pointer (some ⟨eb, 0, none⟩), .int .u64 k] W (AccPost W eb (E.acc (aFree k)).1 lv G (.tuple #[])) := by
  have HO := old_any h hl ha
  have hlt := h.lt
  have HGL := Lib.hid h.gl
  have HGE := Lib.hid h.ge
  obtain ⟨fs, hfs⟩ := struct_of under_refA
  have HFS := Lib.hid hfs
  by_cases hB : E.oldB = true
  · have hdef : (E.acc (aFree k)).1 = E.oldE := by unfold En.acc; rw [if_pos hB]
    rw [hdef]
    rw [hB] at HO
    have HO := Lib.hid HO
    clear h hB hdef
    go_enter Tryz.func51, Tryz.ntmps51
    go_wp2_with (first
      | (go_at_call 52; go_must (with_reducible refine HO.out.mono ?_); rintro e w1 ⟨rfl, hE1, hT1⟩; have HE1 := Lib.hid hE1; have HT1 := Lib.hid hT1; unfold resV; clear hE1 hT1))
    refine bodyPost_ret (by simp [results, Tryz.results51]) rfl ⟨rfl, CS, lv, G, HE1.out.step ?_, ?_, fun k hk => .inl hk, fun k hk => .inl hk⟩
    · (repeat' first | exact Frm.Turn.refl _ _ | refine Frm.Turn.alloc ?_ _ | refine Frm.Turn.drew ?_ | refine Frm.Turn.drewN ?_ _ | (refine Frm.Turn.setCell ?_ (.inr (by simp)) _))
    · refine HT1.out.trans (G := []) ?_ (by simp)
      (repeat' first | exact Frm.Turn.refl _ _ | refine Frm.Turn.alloc ?_ _ | refine Frm.Turn.drew ?_ | refine Frm.Turn.drewN ?_ _ | (refine Frm.Turn.setCell ?_ (.inr (by simp)) _))
  · have hB : E.oldB = false := by simpa using hB
    have hdef : (E.acc (aFree k)).1 = { E.oldE with A := (E.A.free k).1, log := E.oldE.log ++ [Res.zero] } := by unfold En.acc; rw [if_neg (by rw [hB]; simp), (oldE_same E).2]; rfl
    rw [hdef]
    rw [hB, oldR_of hB] at HO
    have HO := Lib.hid HO
    have HEA := Lib.hid (oldE_same E).1
    have HLG : Hid (E.oldE.log.length ≤ 100000) := Lib.hid (by rw [(oldE_same E).2]; exact hl)
    have HOK := Lib.hid hok
    clear h hB hdef
    go_enter Tryz.func51, Tryz.ntmps51
    go_wp2_with (first
      | (go_at_call 52; go_must (with_reducible refine HO.out.mono ?_); rintro e w1 ⟨rfl, hE1, hT1⟩; have HE1 := Lib.hid hE1; have HT1 := Lib.hid hT1; have HRF := Lib.hid (fun W (hT : Frm.Turn [] w1 W) => refFree_s E.A (.agg CS) G W (by have := (hE1.step hT).m; rw [HEA.out] at this; exact this) HOK.out hf hr k); unfold resV Res.zero; clear hE1 hT1)
      | (refine wpList_load_mid rfl 34 (.tmp 18) rfl eb 0 rfl CS.toList (.struct fs) ((HE1.out.step (by (repeat' first | exact Frm.Turn.refl _ _ | refine Frm.Turn.alloc ?_ _ | refine Frm.Turn.drew ?_ | refine Frm.Turn.drewN ?_ _ | (refine Frm.Turn.setCell ?_ (.inr (by simp)) _)))).range) HFS.out rfl (by rw [Array.length_toList, HE1.out.size]; exact info_refA) ?_; rw [Array.toArray_toList])
      | (go_at_call 69; go_must (with_reducible refine (HRF.out _ (by (repeat' first | exact Frm.Turn.refl _ _ | refine Frm.Turn.alloc ?_ _ | refine Frm.Turn.drew ?_ | refine Frm.Turn.drewN ?_ _ | (refine Frm.Turn.setCell ?_ (.inr (by simp)) _)))).mono ?_); rintro e w2 ⟨u', G', rfl, hR, hT2, hG⟩; obtain ⟨CS', rfl, hz, hone⟩ := hR.row; have hput := put_all HE1.out (((Frm.Turn.refl [] w1).alloc _).trans hT2 (by simp)) hz hone hR (fun q hq => by rcases hG q hq with h | h; exact .inl h; exact .inr ⟨by have := h.1; simp at this; omega, h.2⟩); unfold z20 at hput; obtain ⟨q1, q2, q3, q4⟩ := hput; have HR1 := Lib.hid q1; have HR2 := Lib.hid q2; have HR3 := Lib.hid q3; have HR4 := Lib.hid q4; have HZ := Lib.hid hz; have HONE := Lib.hid hone; have HGG : Hid (∀ q, q ∈ G' → q ∈ G ∨ W.heap.size ≤ q) := Lib.hid (fun q hq => by rcases hG q hq with h | h; exact .inl h; exact .inr (by have := h.1; have := HT1.out.size; simp at *; omega)); have hd := done_any q3 HLG.out Res.zero; unfold resV Res.zero at hd; dsimp only at hd; have HD := Lib.hid hd; clear hd q1 q2 q3 q4 hz hone hR hT2 hG)
      | (refine wpList_store_row rfl 34 (.tmp 6) (.tmp 22) rfl w2.heap.size CS' rfl rfl 34 _ (World.alloc_heap_new w2 _) (by rw [HZ.out]; exact info_refA) (by rw [HZ.out]; rfl) HONE.out ?_)
      | (refine wpList_load_row rfl 34 (.tmp 6) rfl w2.heap.size rfl 34 CS' (0, 0) (.struct fs) HR1.out HFS.out rfl (by rw [HZ.out]; exact info_refA) ?_)
      | (refine wpList_store_mid rfl 34 (.tmp 27) (.tmp 25) rfl eb 0 CS' rfl rfl (by rw [HZ.out]; exact HR2.out.there) (by rw [HZ.out]; exact info_refA) HONE.out ?_)
      | (go_at_call 54; go_must (with_reducible refine HD.out.mono ?_); rintro e w4 ⟨rfl, lv4, hE4, hT4, hL4⟩; have HE4 := Lib.hid hE4; have HT4 := Lib.hid ((HT1.out.trans HR4.out (fun k hk => .inl hk)).trans hT4 (fun k hk => .inl hk)); have HL4 : Hid (∀ q, lv4.ownBlock = some q → W.heap.size ≤ q) := Lib.hid (fun q hq => by have h5 := hL4 q hq; have h6 := HR4.out.size; have h7 := HT1.out.size; omega); clear hE4 hT4 hL4))
    exact bodyPost_ret (by simp [results, Tryz.results51]) rfl ⟨rfl, CS', lv4, G', HE4.out, HT4.out, HGG.out, fun q hq => .inr (HL4.out q hq)⟩
end Evn
end Go.Proofs.YtolcpfidmpoipaaGreat
