/- The arena of law 15's first, and what a sweep does there. -/
/- Calls of an attic upon parts; blocks laid. -/
/- first of law 15. -/
import Derived.Test.YtpajafecodkndaaGreatAttStep
import Derived.Test.YtpajafecodkndaaGreatHoldSegs
import Derived.Test.YtpajafecodkndaaGreatAttLog2
set_option linter.unusedVariables false
set_option linter.unusedSimpArgs false
namespace Go.Proofs.YtpajafecodkndaaGreat
namespace Att
open Arn Clm Cnt Hld
structure FA (A : Ar) (n : Nat) (l : List Blk) : Prop where
  ok : A.Ok
  L : A.L = l
  births : A.births = n
  cap : A.cap = 60000
  f1 : A.fixed.getD 1 0 = 65537
  f2 : ∀ g, 1 ≤ g → g < 8 → A.fixed.getD (1 + g) 0 = 0
variable {A : Ar} {n : Nat} {l : List Blk}
theorem FA.lay (h : FA A n l) (ws : List Int) (h1 : 1 ≤ ws.length) (h2 : ws.length ≤ 2048) (hu : used l + ws.length ≤ 60000) (hn : n < 1000) (hw : ∀ v, v ∈ ws → W64 v) :
    (A.lay ws).2 = (((n : Int) + 1) * 65536 + ((lead 0 l : Int) + 1), 0) ∧ FA (A.lay ws).1 (n + 1) (l.take (lead 0 l) ++ ⟨((n : Int) + 1) * 65536 + ((lead 0 l : Int) + 1), ws⟩ :: l.drop (lead 0 l)) := by
  have hok := lay_ok h.ok h1 h2 (by rw [h.L, h.cap]; exact hu) (by rw [h.births]; omega) hw
  have e : A.lay ws = ({ A with births := A.births + 1, L := A.L.take (lead 0 A.L) ++ ⟨((A.births : Int) + 1) * 65536 + ((lead 0 A.L : Int) + 1), ws⟩ :: A.L.drop (lead 0 A.L), peak := max A.peak (used A.L + ws.length), t := { A.t with lays := A.t.lays + 1 } },
      ((A.births : Int) + 1) * 65536 + ((lead 0 A.L : Int) + 1), 0) := by
    unfold Ar.lay
    rw [if_neg (by omega), if_neg (by rw [h.L, h.cap]; omega)]
  rw [e] at hok ⊢
  rw [h.L, h.births] at *
  exact ⟨rfl, hok, rfl, rfl, h.cap, h.f1, h.f2⟩
theorem FA.write (h : FA A n l) (blk : Int) (i : Nat) (v : Int) (hb : blk ≠ 0) (he : A.err blk i = 0) (hv : W64 v) : FA (A.write blk i v).1 n (Arn.setW l blk i v) := by
  have hok := ok_write h.ok blk i hv
  unfold Ar.write at hok ⊢
  rw [if_pos he] at hok ⊢
  unfold Ar.set at hok ⊢
  rw [if_neg hb] at hok ⊢
  exact ⟨hok, by show Arn.setW A.L _ _ _ = _; rw [h.L]; rfl, h.births, h.cap, h.f1, h.f2⟩
theorem FA.read (h : FA A n l) (blk i : Int) : FA (A.read blk i).1 n l := by
  have hok := ok_read h.ok blk i
  unfold Ar.read at hok ⊢
  split
  · rename_i e; rw [if_pos e] at hok; exact ⟨hok, h.L, h.births, h.cap, h.f1, h.f2⟩
  · rename_i e; rw [if_neg e] at hok; exact ⟨hok, h.L, h.births, h.cap, h.f1, h.f2⟩
theorem FA.free (h : FA A n l) (k : Int) (hk : Arn.hasH l k = true) : FA (A.free k).1 n (Arn.drop l k) := by
  have hok := free_ok h.ok k
  unfold Ar.free at hok ⊢
  rw [h.L, if_pos hk] at hok ⊢
  exact ⟨hok, rfl, h.births, h.cap, h.f1, h.f2⟩
theorem FA.row (h : FA A n l) {k : Int} (hk : k ≠ 0) : A.row k = Arn.look l k := by unfold Ar.row; rw [if_neg hk, h.L]
theorem FA.err (h : FA A n l) {k : Int} {ws : List Int} {i : Nat} (hk : k ≠ 0) (hl : Arn.look l k = some ws) (hi : i < ws.length) : A.err k i = 0 := by
  unfold Ar.err
  rw [h.row hk, hl]
  dsimp only
  rw [if_pos ⟨by omega, by omega⟩]
theorem FA.val (h : FA A n l) {k : Int} {ws : List Int} {i : Nat} (hk : k ≠ 0) (hl : Arn.look l k = some ws) (hi : i < ws.length) : (A.read k i).2.1 = ws.getD i 0 := by
  unfold Ar.read
  rw [if_pos (h.err hk hl hi)]
  show A.get k i = _
  unfold Ar.get
  rw [h.row hk, hl]
  rfl
theorem fa_acc (h : FA A n l) (C : Col.Co) : FA (C.acc A) n l := by
  unfold Col.Co.acc
  split
  · exact h.read _ _
  · split
    · exact h.read _ _
    · exact h
def wF : List Int := [0, 0, 0, 0, 196611, 0, 1]
def fF : Nat → Nat → Int := fun _ j => wF.getD j 0
def l3F : List Blk := [⟨65537, wF⟩, ⟨131074, [1]⟩, ⟨196611, [2]⟩]
def l6F : List Blk := [⟨65537, wF⟩, ⟨196611, [2]⟩]
theorem fa_start (S : SegA A 1 zF) (hb : A.births = 1) (hc : A.cap = 60000) : FA A 1 [⟨65537, [0, 0, 0, 0, 0, 0, 0]⟩] :=
  ⟨S.ok, S.L, hb, hc, S.fx 0 (by omega), fun g h1 h2 => by have := S.fx g h2; rwa [if_neg (by omega)] at this⟩
theorem fa_seg (h : FA A n l) (hl : Arn.look l 65537 = some wF) : ColB.SegB A 1 fF := by
  refine ⟨h.ok, fun g hg => ?_, fun g hg => ?_⟩
  · obtain rfl : g = 0 := by omega
    show A.row 65537 = _
    rw [h.row (by omega), hl]
    decide
  · by_cases e : g < 1
    · obtain rfl : g = 0 := by omega
      rw [if_pos e]; exact h.f1
    · rw [if_neg e]; exact h.f2 g (by omega) hg
def C1F : Col.Co := Col.Co.step 1 fF Col.Co.new
def C2F : Col.Co := Col.Co.step 1 fF C1F
def C3F : Col.Co := Col.Co.step 1 fF C2F
def swF : Nat → Sw
  | 0 => ⟨0, Col.Co.new, [], [], [196611, 131074]⟩
  | 1 => ⟨0, C1F, [], [], [196611, 131074]⟩
  | 2 => ⟨0, C2F, [], [], [196611, 131074]⟩
  | 3 => ⟨1, C3F, [(65537, 3), (65537, 4)], [], [196611, 131074]⟩
  | 4 => ⟨1, C3F, [(65537, 4)], [0], [196611, 131074]⟩
  | 5 => ⟨2, C3F, [], [0, 196611], [131074]⟩
  | _ => ⟨3, C3F, [], [0, 196611], []⟩
def lF (j : Nat) : List Blk := if j < 6 then l3F else l6F
def lsF (j : Nat) : List Int := if j < 6 then [196611, 131074] else [196611]
theorem c3_ph : C3F.ph = 2 := by decide
theorem c3_L : C3F.L = [0] := by decide
theorem look3 : Arn.look l3F 65537 = some wF := by decide
theorem swF_step {j : Nat} (hj : j < 6) (h : FA A n (lF j)) : (swF j).step 1 fF A 9 = swF (j + 1) ∧ FA ((swF j).acc A) n (lF (j + 1)) ∧ (swF j).lst (lsF j) = lsF (j + 1) := by
  have h3 : FA A n l3F := by unfold lF at h; rwa [if_pos hj] at h
  have r3 : (A.read 65537 3).2.1 = 0 := h3.val (i := 3) (by omega) look3 (by decide)
  have r4 : (A.read 65537 4).2.1 = 196611 := h3.val (i := 4) (by omega) look3 (by decide)
  have hcase : j = 0 ∨ j = 1 ∨ j = 2 ∨ j = 3 ∨ j = 4 ∨ j = 5 := by omega
  rcases hcase with rfl | rfl | rfl | rfl | rfl | rfl
  · exact ⟨rfl, fa_acc h3 Col.Co.new, rfl⟩
  · exact ⟨rfl, fa_acc h3 C1F, rfl⟩
  · refine ⟨?_, fa_acc h3 C2F, rfl⟩
    show (if C3F.ph = 2 then Sw.look 9 ⟨0, C3F, [], [], [196611, 131074]⟩ else ⟨0, C3F, [], [], [196611, 131074]⟩) = _
    rw [if_pos c3_ph]
    unfold Sw.look
    rw [if_neg (by show ¬ C3F.L = []; rw [c3_L]; simp)]
    show (⟨1, C3F, hdA C3F.L, [], [196611, 131074]⟩ : Sw) = _
    rw [c3_L]
    rfl
  · refine ⟨?_, h3.read _ _, rfl⟩
    show (⟨1, C3F, [(65537, 4)], [] ++ [(A.read 65537 3).2.1], [196611, 131074]⟩ : Sw) = _
    rw [r3]
    rfl
  · refine ⟨?_, h3.read _ _, rfl⟩
    show Sw.sort 9 ⟨1, C3F, [], [0] ++ [(A.read 65537 4).2.1], [196611, 131074]⟩ = _
    rw [r4]
    rfl
  · refine ⟨rfl, ?_, rfl⟩
    exact h3.free 131074 (by decide)
theorem swF_fit {j : Nat} (hj : j < 6) : (swF j).Fit 1 9 := by
  have w3 : ∀ a, a ∈ [((65537 : Int), (3 : Int)), (65537, 4)] → W64 a.1 ∧ (Lit.int .i64 a.2).wf = true := by
    intro a ha
    simp only [List.mem_cons, List.not_mem_nil, or_false] at ha
    rcases ha with rfl | rfl
    · exact ⟨by unfold W64; omega, by decide⟩
    · exact ⟨by unfold W64; omega, by decide⟩
  have wl : ∀ h : Int, h ∈ [(196611 : Int), 131074] → W64 h := by
    intro h hh
    simp only [List.mem_cons, List.not_mem_nil, or_false] at hh
    rcases hh with rfl | rfl <;> (unfold W64; omega)
  have f0 := Col.fit_new 1
  have f1 : C1F.Fit 1 := Col.fit_step (by omega) f0
  have f2 : C2F.Fit 1 := Col.fit_step (by omega) f1
  have f3 : C3F.Fit 1 := Col.fit_step (by omega) f2
  have hcase : j = 0 ∨ j = 1 ∨ j = 2 ∨ j = 3 ∨ j = 4 ∨ j = 5 := by omega
  rcases hcase with rfl | rfl | rfl | rfl | rfl | rfl
  · exact ⟨fun _ => f0, (fun a ha => by cases ha), wl, by decide, by decide, f0.small⟩
  · exact ⟨fun _ => f1, (fun a ha => by cases ha), wl, by decide, by decide, f1.small⟩
  · exact ⟨fun _ => f2, (fun a ha => by cases ha), wl, by decide, by decide, f2.small⟩
  · exact ⟨fun h => (by cases h), w3, wl, by decide, by decide, f3.small⟩
  · exact ⟨fun h => (by cases h), fun a ha => w3 a (List.mem_cons_of_mem _ ha), wl, by decide, by decide, f3.small⟩
  · exact ⟨fun h => (by cases h), (fun a ha => by cases ha), fun h hh => wl h (List.mem_cons_of_mem _ hh), by decide, by decide, f3.small⟩
end Att
end Go.Proofs.YtpajafecodkndaaGreat

set_option linter.unusedVariables false
set_option linter.unusedSimpArgs false
namespace Go.Proofs.YtpajafecodkndaaGreat
namespace Att
open Go.RowKit Go.Maps Arn Pac Clm Cnt Sta Hld

variable {w W W' : World} {b k n r s base : Nat} {A : Ar} {ps : List Part} {V : Nat → Value} {lg : Value} {L : Nat → List Int} {bs : List (Bt × Value)}
/-- A row of one's own, whatever its elements. -/
def roP (base : Nat) (t : TypeId) (size n : Nat) (v : Value) (xs : List Value) : Part := ⟨v.ownBlock.toList, [], fun W => W.ownsRow base t size v n xs⟩
theorem roP_fra (base : Nat) (t : TypeId) (size n : Nat) (v : Value) (xs : List Value) : (roP base t size n v xs).Fra := fun W W' F h ht h1 _ => Frm.owns_turn h ht (fun q hq => h1 q (by simp [roP, hq]))
theorem ro_add {t : TypeId} {size n : Nat} {v : Value} {xs : List Value} (S : Stash w b A k ps W) (hT : Frm.Turn [] W W') (ho : W'.ownsRow W.heap.size t size v n xs) : Stash w b A k (roP w.heap.size t size n v xs :: ps) W' :=
  S.add hT (roP_fra _ _ _ _ _ _) (row_base ho S.kin.turn.size) (fun x hx => by
    have := ho.lt x (by simpa [roP] using hx)
    exact ⟨this.1, this.2⟩) (by simp [roP]) (by simp [roP])
theorem lay_one (S : Stash w b A k ps W) (hk : k ≤ 1000000) (x : Int) (hx : W64 x) : Calls Tryz.prog 10 #[.pointer (some ⟨b, 0, none⟩), .slice (some ⟨W.heap.size, 0, none⟩) 1 1] (W.alloc (.cells #[.int .u64 x] 31)) fun e w' =>
    e = .returned (.tuple #[.int .u64 (A.lay [x]).2.1, .int .i64 (A.lay [x]).2.2]) ∧ Stash w b (A.lay [x]).1 (k + 1) ps w' := by
  have S1 := add_h S (.cells #[.int .u64 x] 31) (World.alloc_heap_new _ _)
  refine (lay_h (ws := [x]) S1 (by omega) (.inr ⟨⟨W.heap.size, 0, none⟩, 1, rfl, fun j u hu => ?_⟩) (fun q hq => ?_) (by simpa using hx)).mono ?_
  · rw [Addr.add_mid, Nat.zero_add, Frm.cell_row _ _ _ _ _ _ (World.alloc_heap_new _ _)]
    simpa [u64s] using hu
  · simp [Value.ownBlock] at hq; subst hq
    exact mem_feet (List.mem_cons_self ..) (in_own (by simp [bkP]))
  · rintro e w' ⟨he, hS⟩
    exact ⟨he, hS.drop⟩
theorem arlen_s (S : Stash w b A k ps W) : Calls Tryz.prog 84 #[.pointer (some ⟨b, 0, none⟩)] W fun e w' => e = .returned (.int .i64 (A.L.length : Int)) ∧ W = w' := by
  obtain ⟨M, h1, _⟩ := S.kin
  exact Arn.len_any h1.at_
theorem at_list (S : Stash w b A k ps W) (hm : atP w.heap.size r L V lg bs ∈ ps) (hs : s < 255) (hl : (L s).length ≤ 65536) :
    Calls Tryz.prog 45 #[.pointer (some ⟨r, 0, none⟩), .int .i64 s] W fun e w' => ∃ ao c, e = .returned (.slice ao (L s).length c) ∧ Stash w b A k (roP w.heap.size 31 1 (L s).length (.slice ao (L s).length c) (u64s (L s)) :: ps) w' := by
  have hA : AtAll W w.heap.size r L V lg bs := S.on _ hm
  refine (list_any hA.ls hs hl).mono ?_
  rintro e w' ⟨ao, c, he, ho, hT⟩
  exact ⟨ao, c, he, ro_add S hT ho⟩
theorem at_len (S : Stash w b A k ps W) (hm : atP w.heap.size r L V lg bs ∈ ps) (hN : (allW L 255).length ≤ 1000000) : Calls Tryz.prog 42 #[.pointer (some ⟨r, 0, none⟩)] W fun e w' => e = .returned (.int .i64 ((allW L 255).length : Int)) ∧ W = w' :=
  Att.len_any (AtAll.ls (S.on _ hm)) hN
theorem at_log (S : Stash w b A k ps W) (hm : atP w.heap.size r L V lg bs ∈ ps) (hl : bs.length ≤ 65536) :
    Calls Tryz.prog 46 #[.pointer (some ⟨r, 0, none⟩)] W fun e w' => ∃ ao c us, e = .returned (.slice ao bs.length c) ∧ us.map Prod.fst = bs.map Prod.fst ∧ (∀ u, u ∈ us → ApsAt w' u.2 u.1) ∧ Stash w b A k (roP w.heap.size 83 2 bs.length (.slice ao bs.length c) (btCells us) :: ps) w' := by
  have hA : AtAll W w.heap.size r L V lg bs := S.on _ hm
  refine (log_any hA hl).mono ?_
  rintro e w' ⟨ao, c, us, he, h⟩
  refine ⟨ao, c, us, he, ?_, h.at_, ro_add S h.turn h.row⟩
  have := h.same
  rwa [List.take_length] at this
theorem at_note {v : Value} {x : Bt} (S : Stash w b A k (atP w.heap.size r L V lg bs :: ps) W) (hl : bs.length ≤ 65536) (hv : ApsAt W v x) (ok : x.Ok) :
    Calls Tryz.prog 40 #[.pointer (some ⟨r, 0, none⟩), .agg #[.int .u64 x.hd, v]] W fun e w' => e = .returned (.tuple #[]) ∧ ∃ lg' u, Stash w b A k (atP w.heap.size r L V lg' (bs ++ [(x, u)]) :: ps) w' := by
  have hA : AtAll W w.heap.size r L V lg bs := S.on _ (List.mem_cons_self ..)
  refine (note_any hA S.kin.turn.size hl hv ok).mono ?_
  rintro e w' ⟨he, lg', u, h', hT, h1, h2⟩
  have hsz := hT.size
  refine ⟨he, lg', u, S.act hT (fun y hy => ?_) (atP_fra _ _ _ _ _ _) h' (fun y hy => ?_) (fun y hy => ?_) (fun y hy hy' => ?_)⟩
  · rcases List.mem_cons.1 hy with rfl | hy
    · exact own_r
    · exact own_log (by simpa using hy)
  · rcases of_own hy with rfl | ⟨i, hi, hq⟩ | hq
    · exact .inl own_r
    · exact .inl (own_list hi hq)
    · rcases h1 y hq with h3 | h3
      · exact .inl (own_log h3)
      · exact .inr ⟨h3, (h'.row.lt y hq).2⟩
  · obtain ⟨c, hc, hq⟩ := List.mem_flatMap.1 hy
    have hq : c.2.ownBlock = some y := by simpa using hq
    have hlt := (h'.imm c y hc hq).2.2.2
    rcases List.mem_append.1 hc with hc | hc
    · exact .inl ⟨_, List.mem_cons_self .., List.mem_flatMap.2 ⟨c, hc, by simp [hq]⟩⟩
    · rw [List.mem_singleton.1 hc] at hq
      exact .inr ⟨h2 y hq, hlt⟩
  · obtain ⟨c, hc, hq⟩ := List.mem_flatMap.1 hy'
    obtain ⟨a1, a2, a3, a4⟩ := h'.imm c y hc (by simpa using hq)
    rcases of_own hy with e | ⟨i, hi, hq⟩ | hq
    · exact a1 e
    · exact a2 i hi hq
    · exact a3 hq
end Att
end Go.Proofs.YtpajafecodkndaaGreat

set_option linter.unusedVariables false
set_option linter.unusedSimpArgs false
namespace Go.Proofs.YtpajafecodkndaaGreat
namespace Att
open Go.RowKit Go.Maps Arn Pac Clm Cnt Sta Hld

variable {w W W' : World} {b k n r s base : Nat} {A : Ar} {ps : List Part} {V : Nat → Value} {lg : Value} {L : Nat → List Int} {bs : List (Bt × Value)}
def LF (j : Nat) : Nat → List Int := upA (fun _ => []) 3 (lsF j)
theorem LF_at (j : Nat) : LF j 3 = lsF j := upA_at _ _ _
theorem LF_len (j : Nat) : (LF j 3).length ≤ 65536 := by rw [LF_at]; unfold lsF; split <;> simp
/-- The sweep behind j of its steps. -/
def FSt (w : World) (b ar r : Nat) (ps : List Part) (j : Nat) (W : World) : Prop := ∃ A k pts V, SwIs w.heap.size r b ar 3 9 (swF j) pts ∧ Stash w b A k (pts ++ atP w.heap.size ar (LF j) V (.slice none 0 0) [] :: ps) W ∧ FA A 3 (lF j) ∧ k ≤ 20 + j
theorem fst_step {ar j : Nat} (H : FSt w b ar r ps j W) (hj : j < 6) : Calls Tryz.prog 53 #[.pointer (some ⟨r, 0, none⟩)] W fun e w' => e = .returned (.tuple #[]) ∧ FSt w b ar r ps (j + 1) w' := by
  obtain ⟨A, k, pts, V, h1, S, hA, hk⟩ := H
  have h3 : FA A 3 l3F := by have := hA; unfold lF at this; rwa [if_pos hj] at this
  obtain ⟨e1, e2, e3⟩ := swF_step hj hA
  refine (step_s (n := 1) (f := fF) h1 S (by omega) (by omega) (swF_fit hj) (fa_seg h3 look3) (by omega) (by have := LF_len j; omega) (by omega)).mono ?_
  rintro e w' ⟨he, pts', V', h1', S'⟩
  rw [e1] at h1'
  rw [LF_at, e3] at S'
  have e4 : upA (LF j) 3 (lsF (j + 1)) = LF (j + 1) := by
    funext i
    unfold LF
    by_cases e : i = 3
    · subst e; rw [upA_at, upA_at]
    · rw [upA_ne _ _ e, upA_ne _ _ e, upA_ne _ _ e]
  rw [e4] at S'
  exact ⟨he, _, _, pts', V', h1', S', e2, by omega⟩
def btF : Bt := ⟨7, 1, [.int .i64 1, .int .u64 0, .int .i64 0, .int .i64 0, .int .i64 0, .int .i64 0, .int .i64 0, .int .i64 0]⟩
theorem btF_ok : btF.Ok := ⟨rfl, by decide, by decide⟩
theorem LF_all : (allW (LF 6) 255).length = 1 := by decide +kernel
/-- What is asked at the end. -/
theorem fst_ask {ar : Nat} {ao : Option Addr} {c : Nat} {ao2 : Option Addr} {c2 : Nat} {us : List (Bt × Value)} {pts : List Part} (h1 : SwIs w.heap.size r b ar 3 9 (swF 6) pts) (S : Stash w b A k (roP w.heap.size 83 2 1 (.slice ao2 1 c2) (btCells us) :: (pts ++ roP w.heap.size 31 1 1 (.slice ao 1 c) (u64s [196611]) :: atP w.heap.size ar (LF 6) V lg bs :: ps)) W) (hA : FA A 3 l6F) (hk : k ≤ 100) :
    Calls Tryz.prog 48 #[.pointer (some ⟨r, 0, none⟩)] W (fun e w' => e = .returned (.bool true) ∧ W = w') ∧ Calls Tryz.prog 84 #[.pointer (some ⟨b, 0, none⟩)] W (fun e w' => e = .returned (.int .i64 2) ∧ W = w') ∧
    Calls Tryz.prog 42 #[.pointer (some ⟨ar, 0, none⟩)] W (fun e w' => e = .returned (.int .i64 1) ∧ W = w') ∧
    Calls Tryz.prog 39 #[.pointer (some ⟨ar, 0, none⟩), .int .i64 3, .int .u64 196611] W (fun e w' => e = .returned (.bool true) ∧
      Calls Tryz.prog 39 #[.pointer (some ⟨ar, 0, none⟩), .int .i64 3, .int .u64 196611] w' (fun e w'' => e = .returned (.bool false) ∧
        Calls Tryz.prog 47 #[.pointer (some ⟨b, 0, none⟩), .pointer (some ⟨ar, 0, none⟩), .int .i64 3, .int .i64 9] w'' (fun e w3 => ∃ r3, e = .returned (.pointer (some ⟨r3, 0, none⟩)) ∧ Frm.Turn [] w w3 ∧ Calls Tryz.prog 48 #[.pointer (some ⟨r3, 0, none⟩)] w3 (fun e w' => e = .returned (.bool true) ∧ w3 = w')))) := by
  have S1 := S.drop
  refine ⟨?_, ?_, ?_, ?_⟩
  · exact done_s (ps := roP w.heap.size 31 1 1 (.slice ao 1 c) (u64s [196611]) :: atP w.heap.size ar (LF 6) V lg bs :: ps) h1 S1
  · have := arlen_s S1
    rwa [hA.L] at this
  · have := at_len S1 (r := ar) (L := LF 6) (V := V) (lg := lg) (bs := bs) (by simp) (by rw [LF_all]; omega)
    rwa [LF_all] at this
  · have S2 : Stash w b A k (atP w.heap.size ar (LF 6) V lg bs :: ((pts ++ [roP w.heap.size 31 1 1 (.slice ao 1 c) (u64s [196611])]) ++ ps)) W := S1.perm (by
      have := List.perm_middle (a := atP w.heap.size ar (LF 6) V lg bs) (l₁ := pts ++ [roP w.heap.size 31 1 1 (.slice ao 1 c) (u64s [196611])]) (l₂ := ps)
      rw [List.append_assoc] at this
      exact this)
    refine (at_take S2 (s := 3) (by omega) 196611 (by rw [LF_at]; decide)).mono ?_
    rintro e w' ⟨he, V2, S3⟩
    have e1 : decide ((196611 : Int) ∈ LF 6 3) = true := by rw [LF_at]; decide
    have e2 : (LF 6 3).erase 196611 = [] := by rw [LF_at]; decide
    rw [e1] at he
    rw [e2] at S3
    refine ⟨he, (at_take S3 (s := 3) (by omega) 196611 (by rw [upA_at]; decide)).mono ?_⟩
    rintro e w'' ⟨he2, V3, S4⟩
    rw [upA_at] at he2
    have e3 : upA (upA (LF 6) 3 []) 3 ((upA (LF 6) 3 [] 3).erase 196611) 3 = [] := by rw [upA_at, upA_at]; rfl
    refine ⟨he2, (new_s S4 (s := 3) (m := 9) (by omega) (by rw [e3]; decide) 9 (by decide) (by omega)).mono ?_⟩
    rintro e w3 ⟨r3, pts3, he3, h3, S5⟩
    rw [e3] at h3
    exact ⟨r3, he3, S5.kin.turn, done_s h3 S5⟩
set_option maxRecDepth 100000 in
set_option maxHeartbeats 8000000 in
theorem first15 (w : World) : Calls Tryz.prog 33 #[] w fun e w' => e = .returned (.bool true) ∧ Frm.Turn [] w w' := by
  have e1' : ((1 : Nat) : Int) = 1 := rfl
  have hsg := segs14 1 w w (Frm.Turn.refl [] w) (by omega) (by omega)
  rw [e1'] at hsg
  have HSG := Lib.hid hsg
  obtain ⟨fs, hfs⟩ := struct_of under_refA
  have HFS := Lib.hid hfs
  clear hsg hfs
  go_enter Tryz.func33, Tryz.ntmps33
  go_upto_region 2 with (first
    | (go_at_call 9; (with_reducible refine (HSG.out).mono ?_); rintro e w2 ⟨b, CS, G, kh, kc, ohs, A, k, rfl, y1, y2, y3, y4, y5, y6, y7, y8⟩; have HZZ1 := Lib.hid y1; have HZZ2 := Lib.hid y2; have HO := Lib.hid y3; have HK := Lib.hid y4; have HF2 := Lib.hid (fa_start y5 y6 y7); have HS2 := Lib.hid y8; clear y1 y2 y3 y4 y5 y6 y7 y8)
    | (refine wpList_store_row rfl 37 (.tmp 2) (.tmp 15) rfl w2.heap.size CS rfl rfl 37 _ (World.alloc_heap_new w2 _) (by rw [HZZ1.out]; exact info_refA) (by rw [HZZ1.out]; rfl) HZZ2.out ?_))
  generalize hw3 : World.setRow _ w2.heap.size CS = w3
  have HT3 : Hid (Frm.Turn [] w2 w3) := Lib.hid (by rw [← hw3]; exact setRow_turn ((Frm.Turn.refl [] w2).alloc _) (.inr (Nat.le_refl _)) CS)
  have HS3 := Lib.hid ((HS2.out.perm (List.Perm.swap ..)).drop.still HT3.out)
  clear hw3 HSG HS2 HT3 HZZ1 HZZ2 HFS
  obtain ⟨hv1, hf1⟩ := HF2.out.lay [1] (by decide) (by decide) (by decide) (by omega) (by intro v hv; simp at hv; subst hv; unfold W64; omega)
  have hl1 := lay_one HS3.out (by have := HK.out; omega) 1 (by unfold W64; omega)
  have hv1' : (A.lay [1]).2 = (131074, 0) := hv1.trans (by decide)
  rw [hv1'] at hl1
  have HL1 := Lib.hid hl1
  have HF3 := Lib.hid hf1
  clear hl1 hv1 hv1' hf1
  go_upto_region 3 with (go_at_call 10; (with_reducible refine (HL1.out).mono ?_); rintro e w4 ⟨rfl, hS⟩; have HS4 := Lib.hid hS; clear hS)
  clear HL1 HS3 HF2
  generalize (A.lay [1]).1 = A4 at HS4 HF3
  obtain ⟨hv1, hf1⟩ := HF3.out.lay [2] (by decide) (by decide) (by decide) (by omega) (by intro v hv; simp at hv; subst hv; unfold W64; omega)
  have hl1 := lay_one HS4.out (by have := HK.out; omega) 2 (by unfold W64; omega)
  have hv1' : (A4.lay [2]).2 = (196611, 0) := hv1.trans (by decide)
  rw [hv1'] at hl1
  have HL1 := Lib.hid hl1
  have HF5 := Lib.hid hf1
  clear hl1 hv1 hv1' hf1
  go_upto_region 4 with (go_at_call 10; (with_reducible refine (HL1.out).mono ?_); rintro e w5 ⟨rfl, hS⟩; have HS5 := Lib.hid hS; clear hS)
  clear HL1 HS4 HF3
  generalize (A4.lay [2]).1 = A5 at HS5 HF5
  have HF5 : Hid (FA A5 3 [⟨65537, [0, 0, 0, 0, 0, 0, 0]⟩, ⟨131074, [1]⟩, ⟨196611, [2]⟩]) := HF5
  have hk0 : w5.cell? ⟨kh, 0, none⟩ = some (.int .u64 65537) := (HO.out _ (HS5.out.on (bkP kh ohs) (by simp))) 0 (by omega)
  have HWR := Lib.hid (write_h HS5.out (by have := HK.out; omega) 65537 6 1 (by unfold W64; omega) (by decide) (by unfold W64; omega))
  have HF6 := Lib.hid (HF5.out.write 65537 6 1 (by omega) (HF5.out.err (ws := [0, 0, 0, 0, 0, 0, 0]) (i := 6) (by omega) (by decide) (by decide)) (by unfold W64; omega))
  go_upto_region 5 with (go_at_call 15; (with_reducible refine (HWR.out).mono ?_); rintro e w6 ⟨rfl, hS⟩; have HS6 := Lib.hid hS; clear hS)
  clear HWR HS5 HF5 hk0
  have HF6 : Hid (FA (A5.write 65537 6 1).1 3 [⟨65537, [0, 0, 0, 0, 0, 0, 1]⟩, ⟨131074, [1]⟩, ⟨196611, [2]⟩]) := HF6
  generalize (A5.write 65537 6 1).1 = A6 at HS6 HF6
  have hk0 : w6.cell? ⟨kh, 0, none⟩ = some (.int .u64 65537) := (HO.out _ (HS6.out.on (bkP kh ohs) (by simp))) 0 (by omega)
  have HWR := Lib.hid (write_h HS6.out (by have := HK.out; omega) 65537 4 196611 (by unfold W64; omega) (by decide) (by unfold W64; omega))
  have HF7 := Lib.hid (HF6.out.write 65537 4 196611 (by omega) (HF6.out.err (ws := [0, 0, 0, 0, 0, 0, 1]) (i := 4) (by omega) (by decide) (by decide)) (by unfold W64; omega))
  go_upto_region 6 with (go_at_call 15; (with_reducible refine (HWR.out).mono ?_); rintro e w7 ⟨rfl, hS⟩; have HS7 := Lib.hid hS; clear hS)
  clear HWR HS6 HF6 hk0
  have HF7 : Hid (FA (A6.write 65537 4 196611).1 3 l3F) := HF7
  generalize (A6.write 65537 4 196611).1 = A7 at HS7 HF7
  have HNW := Lib.hid (at_new HS7.out)
  go_upto_region 7 with (go_at_call 34; (with_reducible refine (HNW.out).mono ?_); rintro e w8 ⟨ar, rfl, hS⟩; have HS8 := Lib.hid hS; clear hS)
  clear HNW HS7
  have HPT : Hid (Calls Tryz.prog 36 #[.pointer (some ⟨ar, 0, none⟩), .int .i64 3, .slice (some ⟨w8.heap.size, 0, none⟩) 2 2] (w8.alloc (.cells #[.int .u64 196611, .int .u64 131074] 31)) fun e w' => e = .returned (.tuple #[]) ∧ ∃ V', Stash w b A7 (k + 1 + 1 + 1 + 1) (atP w.heap.size ar (LF 0) V' (.slice none 0 0) [] :: [bkP kh ohs]) w') := Lib.hid (by
    have := at_put (s := 3) (a := ⟨w8.heap.size, 0, none⟩) (l := [196611, 131074]) (c := 2) (HS8.out.still ((Frm.Turn.refl [] w8).alloc (.cells #[.int .u64 196611, .int .u64 131074] 31))) (by omega) (two_news w8 (.int .u64 196611) (.int .u64 131074) 31) (by decide)
    exact this)
  go_upto_region 8 with (go_at_call 36; (with_reducible refine (HPT.out).mono ?_); rintro e w9 ⟨rfl, V9, hS⟩; have HS9 := Lib.hid hS; clear hS)
  clear HPT HS8
  have HNS : Hid (Calls Tryz.prog 47 #[.pointer (some ⟨b, 0, none⟩), .pointer (some ⟨ar, 0, none⟩), .int .i64 3, .int .i64 9] w9 fun e w' => ∃ r, e = .returned (.pointer (some ⟨r, 0, none⟩)) ∧ FSt w b ar r [bkP kh ohs] 0 w') := Lib.hid (by
    refine (new_s HS9.out (s := 3) (m := 9) (by omega) (LF_len 0) 9 (by decide) (by omega)).mono ?_
    rintro e w' ⟨r, pts, he, h1, h2⟩
    exact ⟨r, he, A7, _, pts, V9, h1, h2, HF7.out, by have := HK.out; omega⟩)
  go_upto_region 9 with (go_at_call 47; (with_reducible refine (HNS.out).mono ?_); rintro e w10 ⟨r, rfl, hS⟩; have HG10 := Lib.hid hS; clear hS)
  clear HNS HS9 HF7
  go_wp2_with fail
  go_loopw [51] (fun i wr => ∃ j : Nat, j ≤ 6 ∧ i = .int .i64 j ∧ FSt w b ar r [bkP kh ohs] j wr) (fun i _ => 6 - (intOf i).toNat)
  case atStart => exact ⟨0, Nat.zero_le _, rfl, HG10.out⟩
  case round =>
    obtain ⟨j, hj, rfl, hrel⟩ := hrel
    clear HG10
    by_cases hlt : j < 6
    · have HST := Lib.hid (fst_step hrel hlt)
      have hj1 : (j : Int) < 6 := by omega
      clear hrel
      go_wp2_with (go_at_call 53; (with_reducible refine (HST.out).mono ?_); rintro e w9 ⟨rfl, hg⟩; have HG9 := Lib.hid hg; clear hg)
      refine ⟨⟨j + 1, by omega, by simp, HG9.out⟩, ?_⟩
      simp [intOf]; omega
    · obtain rfl : j = 6 := by omega
      have hj3 : ¬ ((6 : Nat) : Int) < 6 := by omega
      obtain ⟨A11, k11, pts, V11, h1, hS, hA, hk⟩ := hrel
      have HI := Lib.hid h1
      have HA := Lib.hid hA
      have HK11 := Lib.hid hk
      have HLI : Hid (Calls Tryz.prog 45 #[.pointer (some ⟨ar, 0, none⟩), .int .i64 3] wr fun e w' => ∃ ao c, e = .returned (.slice ao 1 c) ∧ Stash w b A11 k11 (roP w.heap.size 31 1 1 (.slice ao 1 c) (u64s [196611]) :: (pts ++ atP w.heap.size ar (LF 6) V11 (.slice none 0 0) [] :: [bkP kh ohs])) w') := Lib.hid (at_list hS (s := 3) (r := ar) (L := LF 6) (V := V11) (lg := .slice none 0 0) (bs := []) (by simp) (by omega) (LF_len 6))
      clear h1 hS hA hk hlt hj
      go_upto_region 14 with (go_at_call 45; (with_reducible refine (HLI.out).mono ?_); rintro e w12 ⟨ao, c, rfl, hS⟩; have HS12 := Lib.hid hS; clear hS)
      clear HLI
      have HNT : Hid (Calls Tryz.prog 40 #[.pointer (some ⟨ar, 0, none⟩), .agg #[.int .u64 7, .slice (some ⟨w12.heap.size, 0, none⟩) 1 1]] (w12.alloc (.cells #[.int .i64 1, .int .u64 0, .int .i64 0, .int .i64 0, .int .i64 0, .int .i64 0, .int .i64 0, .int .i64 0] 164)) fun e w' => e = .returned (.tuple #[]) ∧ ∃ lg' u, Stash w b A11 k11 (atP w.heap.size ar (LF 6) V11 lg' [(btF, u)] :: ((roP w.heap.size 31 1 1 (.slice ao 1 c) (u64s [196611]) :: pts) ++ [bkP kh ohs])) w') := Lib.hid (by
        have S1 := HS12.out.still ((Frm.Turn.refl [] w12).alloc (.cells #[.int .i64 1, .int .u64 0, .int .i64 0, .int .i64 0, .int .i64 0, .int .i64 0, .int .i64 0, .int .i64 0] 164))
        have S2 := S1.perm (List.perm_middle (a := atP w.heap.size ar (LF 6) V11 (.slice none 0 0) []) (l₁ := roP w.heap.size 31 1 1 (.slice ao 1 c) (u64s [196611]) :: pts) (l₂ := [bkP kh ohs]))
        refine (at_note S2 (x := btF) (by decide) (.inr ⟨⟨w12.heap.size, 0, none⟩, 1, rfl, fun j u hu => ?_⟩) btF_ok).mono ?_
        · rw [Addr.add_mid, Nat.zero_add, Frm.cell_row _ _ _ _ _ _ (World.alloc_heap_new _ _)]
          simpa [btF] using hu
        · rintro e w' ⟨he, lg', u, h⟩
          exact ⟨he, lg', u, h⟩)
      go_upto_region 15 with (go_at_call 40; (with_reducible refine (HNT.out).mono ?_); rintro e w13 ⟨rfl, lg, u, hS⟩; have HS13 := Lib.hid hS; clear hS)
      clear HNT HS12
      have HLG := Lib.hid (at_log HS13.out (r := ar) (L := LF 6) (V := V11) (lg := lg) (bs := [(btF, u)]) (by simp) (by simp))
      go_upto_region 16 with (go_at_call 46; (with_reducible refine (HLG.out).mono ?_); rintro e w14 ⟨ao2, c2, us, rfl, hus, hap, hS⟩; have HU := Lib.hid (And.intro hus hap); have HS14 := Lib.hid hS; clear hus hap hS)
      clear HLG HS13
      obtain ⟨hus, hap⟩ := HU.out
      obtain ⟨u2, rfl⟩ : ∃ u2, us = [(btF, u2)] := by
        cases us with
        | nil => simp at hus
        | cons x t =>
          cases t with
          | nil => simp at hus; exact ⟨x.2, by rw [← hus]⟩
          | cons y t => simp at hus
      have hu2 := hap (btF, u2) (List.mem_cons_self ..)
      obtain ⟨uo, uc, rfl⟩ : ∃ uo uc, u2 = .slice uo 1 uc := by
        rcases hu2 with ⟨_, e⟩ | ⟨a, c, e, _⟩
        · exact absurd e (by simp [btF])
        · exact ⟨some a, c, e⟩
      have hS := HS14.out
      have hrl : w14.ownsRow w.heap.size 31 1 (.slice ao 1 c) 1 (u64s [196611]) := hS.on (roP w.heap.size 31 1 1 (.slice ao 1 c) (u64s [196611])) (by simp)
      have hrb : w14.ownsRow w.heap.size 83 2 (.slice ao2 1 c2) 1 (btCells [(btF, .slice uo 1 uc)]) := hS.on (roP w.heap.size 83 2 1 (.slice ao2 1 c2) (btCells [(btF, .slice uo 1 uc)])) (by simp)
      obtain ⟨gl, rfl⟩ : ∃ gl, ao = some ⟨gl, 0, none⟩ := by
        rcases hrl.2 with ⟨_, e⟩ | ⟨g, c', cur, e, _⟩
        · omega
        · simp only [Value.slice.injEq] at e; exact ⟨g, e.1⟩
      obtain ⟨gb2, rfl⟩ : ∃ gl, ao2 = some ⟨gl, 0, none⟩ := by
        rcases hrb.2 with ⟨_, e⟩ | ⟨g, c', cur, e, _⟩
        · omega
        · simp only [Value.slice.injEq] at e; exact ⟨g, e.1⟩
      have k0 : w14.cell? ⟨gl, 0, none⟩ = some (.int .u64 196611) := (hrl.cellAt 0 (by omega)).trans rfl
      have k1 : w14.cell? ⟨gb2, 0, none⟩ = some (.int .u64 7) := (hrb.cellAt 0 (by omega)).trans rfl
      have k2 : w14.cell? ⟨gb2, 1, none⟩ = some (.slice uo 1 uc) := (hrb.cellAt 1 (by omega)).trans rfl
      have hS2 : Stash w b A11 k11 (roP w.heap.size 83 2 1 (.slice (some ⟨gb2, 0, none⟩) 1 c2) (btCells [(btF, .slice uo 1 uc)]) :: (pts ++ roP w.heap.size 31 1 1 (.slice (some ⟨gl, 0, none⟩) 1 c) (u64s [196611]) :: atP w.heap.size ar (LF 6) V11 lg [(btF, u)] :: [bkP kh ohs])) w14 := hS.perm (List.Perm.cons _ (by
        exact (List.Perm.swap _ _ _).trans ((List.Perm.cons _ (List.perm_middle (l₁ := pts)).symm).trans (List.perm_middle (l₁ := pts)).symm)))
      obtain ⟨q1, q2, q3, q4⟩ := fst_ask HI.out hS2 HA.out (by have := HK11.out; omega)
      have HQ1 := Lib.hid q1
      have HQ2 := Lib.hid q2
      have HQ3 := Lib.hid q3
      have HQ4 := Lib.hid q4
      clear hus hap hu2 hS hrl hrb hS2 q1 q2 q3 q4 HU HS14
      go_wp2_with (first
        | (go_at_call 84; (with_reducible refine (HQ2.out).mono ?_); rintro e wn ⟨rfl, rfl⟩)
        | (go_at_call 42; (with_reducible refine (HQ3.out).mono ?_); rintro e wn ⟨rfl, rfl⟩)
        | (go_at_call 39; (with_reducible refine (HQ4.out).mono ?_); rintro e wt ⟨rfl, hq⟩; have HQ5 := Lib.hid hq; clear hq HQ4)
        | (go_at_call 39; (with_reducible refine (HQ5.out).mono ?_); rintro e wt2 ⟨rfl, hq⟩; have HQ6 := Lib.hid hq; clear hq)
        | (go_at_call 47; (with_reducible refine (HQ6.out).mono ?_); rintro e wt3 ⟨r3, rfl, hT3, hq⟩; have HQ7 := Lib.hid hq; have HT15 := Lib.hid hT3; clear hq hT3)
        | (go_at_call 48; (with_reducible refine (HQ7.out).mono ?_); rintro e wn ⟨rfl, rfl⟩)
        | (go_at_call 48; (with_reducible refine (HQ1.out).mono ?_); rintro e wn ⟨rfl, rfl⟩))
      go_ret
      exact ⟨rfl, HT15.out⟩
end Att
end Go.Proofs.YtpajafecodkndaaGreat
