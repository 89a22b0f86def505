/- A range over a function whose iterator TELLS the body something of the world in which it is called (that the row handed out holds those words): the contract and the caller's law. At the wide fence. -/
/- All: the handles by their numbers, the copies of the blocks; its iterator, for whatever loop that leaves those alone. -/
/- All's iterator: for whatever loop that leaves what All has laid alone, it hands out each block in its place, in a row of its own, and says so. -/
/- Blocks of the laws: the first blocks of an arena, as a list. -/
import Derived.RangeFuncWrites
import Derived.RangeFuncBound
import Derived.WalkKit
import Derived.Test.YtpajafecodkndaaGreatArenaSort
set_option linter.unusedVariables false
set_option linter.unusedSimpArgs false
namespace Go.Proofs.YtpajafecodkndaaGreat
namespace Told
open Go Go.RowKit

/-- The iterator's promise: as the kit's SeqStopsK, and at each yield 'G pre x' holds of the world at hand. -/
def Tells {α : Type} (n : Nat) (P : Program) (g : Nat) (lb : Array Value) (encs : α → Array Value) (Kp : World → World → Prop) (G : List α → α → World → Prop) (S Sp : List α → Prop) (w : World) : Prop :=
  ∀ (l : Nat) (J Jx : List α → World → Prop) (W : World), Below w.heap.size w W → AbidesFrom W.heap.size J → AbidesFrom W.heap.size Jx →
    (∀ pre x W1, J pre W1 → G pre x W1 → YieldAt Fence.wide (n - 1) P l (encs x) W1 fun e W' =>
      (e = .returned (.bool true) ∧ J (pre ++ [x]) W' ∧ Kp W1 W') ∨ (e = .returned (.bool false) ∧ Jx (pre ++ [x]) W')) →
    J [] W →
    CallsIn Fence.wide n P g (#[.func (.yield l) #[] #[]] ++ lb) W fun e W' => (∃ v, e = .returned v) ∧ ((∃ xs, S xs ∧ J xs W') ∨ (∃ pre, Sp pre ∧ Jx pre W'))

variable {P : Program} {n : Nat}

/-- The caller's law. -/
theorem wp_told {α : Type} {g : Operand} {ps : Array Tmp} {assign body : Code} {Q : Exit → Act → World → Prop} {a : Act} {w : World}
    (h1 : 1 ≤ n) {gf : Nat} {lb : Array Value} (hg : a.eval g = .func (.func gf) #[] lb) (eg : ∀ args w, (callFunc gf args).run P w = .ok (.enter gf args) w)
    {encs : α → Array Value} {Kp : World → World → Prop} {G : List α → α → World → Prop} {S Sp : List α → Prop} {w0 : World} (hseq : Tells (n - 1) P gf lb encs Kp G S Sp w0)
    (hKt : ∀ {A B C : World}, Kp A B → Kp B C → Kp A C) (hKb : ∀ (W : World) (l : Nat) (o o' : Obj), w.heap.size ≤ l → W.heap[l]? = some o → o.isCells = false → o.isWalk = false → Kp W (W.putObj l o')) (hb0 : Below w0.heap.size w0 w) (hps : ∀ x, (encs x).size = ps.size)
    (I : List α → World → Prop) (Ix : Code → List α → World → Prop) (hI : OwnFrom w.heap.size I) (hIx : ∀ c, OwnFrom w.heap.size (Ix c)) (hG : ∀ pre, OwnFrom w.heap.size (G pre)) (h0 : I [] w) (a₁ : α → Act)
    (hassign : ∀ (l : Nat) (x : α) (W : World) (K : Act → World → Prop), K (a₁ x) W →
      assign.wpIn (Fence.wide.inRound l) (n - 1 - 1) P (Exit.then K (fun _ _ _ => False)) { tmps := (ps.zip (encs x)).foldl (fun t (p, v) => t.setIfInBounds p v) a.tmps, defers := [] } W)
    (hbody : ∀ (l : Nat) (pre : List α) (x : α) (W : World), I pre W → G pre x W → body.wpIn (Fence.wide.inRound l) (n - 1 - 1) P (ownPostG w.heap.size Kp I Ix (pre ++ [x]) W) (a₁ x) W)
    (hdone : ∀ (D : Nat) (xs : List α) (W : World), w.heap.size ≤ D → S xs → I xs W → W.heap[D]? = some (.deferred (some [])) → Q .normal { a with defers := { target := .collected D, args := #[] } :: a.defers } W)
    (hstop : ∀ (D : Nat) (c : Code) (pre : List α) (W : World), w.heap.size ≤ D → Sp pre → Ix c pre W → W.heap[D]? = some (.deferred (some [])) → c.wpIn Fence.wide n P Q { a with defers := { target := .collected D, args := #[] } :: a.defers } W) :
    (Code.rangeFunc g ps assign body).wpIn Fence.wide n P Q a w := by
  refine wpIn_rangeFunc fun fn hfn => ?_
  have hro : (Fence.wide : Fence).round = none := rfl
  rw [hro]
  -- the loop's record, by its state; the world in which the iterator begins
  let rc : LoopState → Option Code → Loop := fun st pe => { state := st, pending := pe, fn, tmps := a.tmps, params := ps, assign, body, defers := w.heap.size }
  let L : Nat := w.heap.size + 1
  let W1 : World := (w.alloc (.deferred (some []))).alloc (.loop (rc .ready none))
  have s1 : W1.heap.size = w.heap.size + 2 := by simp [W1]
  have hL1 : W1.heap[L]? = some (.loop (rc .ready none)) := by
    have := World.alloc_heap_new (w.alloc (.deferred (some []))) (.loop (rc .ready none)); rwa [World.size_alloc] at this
  have hK1 : W1.heap[w.heap.size]? = some (.deferred (some [])) := (Below.heap_alloc _ _ _ (by simp)).trans (World.alloc_heap_new w _)
  have hb1 : Below w0.heap.size w0 W1 := hb0.trans ((((Below.refl _ w).alloc (Nat.le_refl _) _).alloc (by simp) _).mono hb0.size)
  -- the books: the record and the list of the deferred stand as they are
  let Bk : LoopState → Option Code → World → Prop := fun st pe W => W.heap[L]? = some (.loop (rc st pe)) ∧ W.heap[w.heap.size]? = some (.deferred (some []))
  have kept : ∀ {st pe} {A B : World} {row : Option Nat}, Bk st pe A → A.grownBy B row → (∀ r, row = some r → W1.heap.size ≤ r ∧ ∃ o : Obj, A.heap[r]? = some o ∧ o.isWalk = true) → Bk st pe B :=
    fun hs hg' hr => ⟨(grownBy_keeps hg' (fun r e => (hr r e).2) hs.1 rfl).trans hs.1, (grownBy_keeps hg' (fun r e => (hr r e).2) hs.2 rfl).trans hs.2⟩
  have low : ∀ {A : World} {row : Option Nat}, (∀ r, row = some r → W1.heap.size ≤ r ∧ ∃ o : Obj, A.heap[r]? = some o ∧ o.isWalk = true) → (∀ r, row = some r → w.heap.size ≤ r ∧ ∃ o : Obj, A.heap[r]? = some o ∧ o.isCells = false) :=
    fun hr r e => by obtain ⟨hB, o, ho, hw⟩ := hr r e; exact ⟨by omega, o, ho, Obj.not_cells_of_walk hw⟩
  refine ⟨L, [{ target := .collected w.heap.size, args := #[] }], W1, { target := .fn (.func gf) lb, args := #[.func (.yield L) #[] #[]] }, W1, gf, #[.func (.yield L) #[] #[]] ++ lb, W1,
    run_enterLoop_outer _ _ _ _ _, by simp only [resolve, hg]; simp [go_sem, L], fun f' _ => trivial, by simp [invoke, go_sem, eg], fun _ => h1, ?_⟩
  refine (hseq L (fun pre W => I pre W ∧ Bk .ready none W) (fun pre W => ∃ c, Ix c pre W ∧ Bk .done (some c) W) W1 hb1
    (fun s A B row hs hg' hr => ⟨hI s A B row hs.1 hg' (low hr), kept hs.2 hg' hr⟩)
    (fun s A B row hs hg' hr => hs.elim fun c hc => ⟨c, hIx c s A B row hc.1 hg' (low hr), kept hc.2 hg' hr⟩)
    ?_ ⟨hI.alloc _ (hI.alloc _ h0), hL1, hK1⟩).mono ?_
  · rintro pre x W ⟨hi, hl, hk⟩ hgx
    have hlt : L < W.heap.size := (Array.getElem?_eq_some_iff.1 hl).1
    have hLn : w.heap.size ≤ L := Nat.le_succ _
    have hne : w.heap.size ≠ L := by simp [L]
    refine ⟨fn, _, assign, body, run_yield (P := P) (args := encs x) hl (hps x), roundIn_of_wpIn hfn (hassign _ x W _ ⟨_, run_beginRound hl rfl, ?_⟩)⟩
    let V : World := W.putObj L (.loop (rc .busy none))
    have hl2 : V.heap[L]? = some (.loop (rc .busy none)) := World.putObj_heap_same hlt
    have hk2 : V.heap[w.heap.size]? = some (.deferred (some [])) := (World.putObj_heap_other hne).trans hk
    have hw2 : Kp W V := hKb _ _ _ _ hLn hl rfl rfl
    refine wpIn_mono (hbody _ pre x V (hI.putObj _ hi hLn hl rfl) ((hG pre).putObj _ hgx hLn hl rfl)) ?_
    have fin : ∀ (j : Option Code) (W3 : World), KeepsFrom w.heap.size V W3 →
        (Instr.endRound L j).run P W3 = .ok (.bool j.isNone) (W3.putObj L (.loop (rc (if j.isNone then .ready else .done) j))) ∧ W3.heap[L]? = some (.loop (rc .busy none)) ∧ Bk (if j.isNone then .ready else .done) j (W3.putObj L (.loop (rc (if j.isNone then .ready else .done) j))) := fun j W3 hk3 => by
      have hl3 := hk3.same _ _ hLn hl2 rfl
      exact ⟨run_endRound (P := P) j hl3, hl3, World.putObj_heap_same (Array.getElem?_eq_some_iff.1 hl3).1, (World.putObj_heap_other hne).trans (hk3.same _ _ (Nat.le_refl _) hk2 rfl)⟩
    have out : ∀ (c : Code) (W3 : World), KeepsFrom w.heap.size V W3 → Ix c (pre ++ [x]) W3 → ∃ c', Ix c' (pre ++ [x]) (W3.putObj L (.loop (rc .done (some c)))) ∧ Bk .done (some c') (W3.putObj L (.loop (rc .done (some c)))) := fun c W3 hk3 hi3 =>
      ⟨c, (hIx c).putObj _ hi3 hLn (fin (some c) W3 hk3).2.1 rfl, (fin (some c) W3 hk3).2.2⟩
    rintro e a3 W3 hp
    cases e with
    | normal =>
      obtain ⟨hk3, hkp3, hi3⟩ := hp
      obtain ⟨hr, hl3, hb⟩ := fin none W3 hk3
      exact ⟨_, _, hr, .inl ⟨rfl, ⟨hI.putObj _ hi3 hLn hl3 rfl, hb⟩, hKt (hKt hw2 hkp3) (hKb _ _ _ _ hLn hl3 rfl rfl)⟩⟩
    | ret => exact ⟨_, _, (fin (some .ret) W3 hp.1).1, .inr ⟨rfl, out _ W3 hp.1 hp.2⟩⟩
    | exit id => exact ⟨_, _, (fin (some (.exit id)) W3 hp.1).1, .inr ⟨rfl, out _ W3 hp.1 hp.2⟩⟩
    | goto t => exact ⟨_, _, (fin (some (.goto t)) W3 hp.1).1, .inr ⟨rfl, out _ W3 hp.1 hp.2⟩⟩
    | panic ch => exact hp.elim
    | outgrown => exact hp.elim
  · have hLn : w.heap.size ≤ L := Nat.le_succ _
    have hne : w.heap.size ≠ L := by simp [L]
    rintro e W2 ⟨⟨v, rfl⟩, ⟨xs, hS, hi, hl, hk⟩ | ⟨pre, hSp, c, hi, hl, hk⟩⟩
    · exact ⟨none, _, run_endLoop (P := P) hl (by simp [rc]), hdone _ xs _ (Nat.le_refl _) hS (hI.putObj _ hi hLn hl rfl) ((World.putObj_heap_other hne).trans hk)⟩
    · exact ⟨some c, _, run_endLoop (P := P) hl (by simp [rc]), hstop _ c pre _ (Nat.le_refl _) hSp ((hIx c).putObj _ hi hLn hl rfl) ((World.putObj_heap_other hne).trans hk)⟩
end Told
end Go.Proofs.YtpajafecodkndaaGreat

set_option linter.unusedVariables false
set_option linter.unusedSimpArgs false
namespace Go.Proofs.YtpajafecodkndaaGreat
namespace Arn
open Go.RowKit Hp Go.Maps Go.Shelf

theorem MapAt.look_is {w : World} {m : Nat} {B : List Row} {L : List Blk} {D : DataW Unit} (h : MapAt w m B L D) {i : Nat} {r : Row} {x : Blk} (hr : B[i]? = some r) (hx : L[i]? = some x) (he : r.h = x.h) (h64 : W64 x.h) :
    (Instr.lookup 125 (.map (some m)) (.int .u64 x.h) false).run Tryz.prog w = .ok (.slice (some ⟨r.g, 0, none⟩) x.ws.length r.c) w := by
  obtain ⟨v, ps, hrun, hv⟩ := h.own.lookup keyU mapU (zeroS w) hdr_nil (key_u64 x.h h64)
  have := h.at_ i r x hr hx (hdat 0 0 0)
  rw [← he] at hv hrun
  rw [← he]
  rw [h.at_ i r x hr hx] at hv
  rw [hrun, hdr_of hv]

/-- What All has laid: a box with the handles' slice, a box with the map of the copies. -/
structure AllAt (W : World) (Bk Bm m : Nat) (kv : Value) (B : List Row) (L : List Blk) : Prop where
  bk : Boxed W Bk 25 kv
  bm : Boxed W Bm 125 (.map (some m))
  row : W.ownsRow 0 31 1 kv L.length (u64s (hs_ L))
  map : ∃ D, MapAt W m B L D
  rows : B.length = L.length ∧ ∀ (i : Nat) (r : Row) (x : Blk), B[i]? = some r → L[i]? = some x → RowOk W r x
def allFoot (Bk Bm m : Nat) (kv : Value) (B : List Row) : List Nat := Bk :: Bm :: m :: (kv.ownBlock.toList ++ B.map Row.g)
theorem AllAt.turn {W W' : World} {Bk Bm m : Nat} {kv : Value} {B : List Row} {L : List Blk} {G : List Nat} (h : AllAt W Bk Bm m kv B L) (ht : Frm.Turn G W W') (hn : ∀ k, k ∈ allFoot Bk Bm m kv B → k ∉ G) : AllAt W' Bk Bm m kv B L := by
  obtain ⟨D, hD⟩ := h.map
  refine ⟨ht.keep h.bk (hn Bk (by simp [allFoot])), ht.keep h.bm (hn Bm (by simp [allFoot])), Frm.owns_turn h.row ht (fun k hk => hn k ?_), ⟨D, hD.turn ht (hn m (by simp [allFoot]))⟩, h.rows.1, fun i r x hr hx => (h.rows.2 i r x hr hx).turn ht (hn r.g ?_)⟩
  · simp [allFoot, hk]
  · have := g_mem (M := ⟨0, 0, [], B⟩) hr
    simp only [allFoot, List.mem_cons, List.mem_append]
    exact Or.inr (Or.inr (Or.inr (Or.inr this)))
theorem AllAt.lt {W : World} {Bk Bm m : Nat} {kv : Value} {B : List Row} {L : List Blk} (h : AllAt W Bk Bm m kv B L) {k : Nat} (hk : k ∈ allFoot Bk Bm m kv B) : k < W.heap.size := by
  obtain ⟨D, hD⟩ := h.map
  simp only [allFoot, List.mem_cons, List.mem_append] at hk
  rcases hk with rfl | rfl | rfl | hk | hk
  · exact h.bk.lt
  · exact h.bm.lt
  · exact hD.own.lt
  · simp at hk; exact (h.row.lt k hk).2
  · obtain ⟨r, hr, rfl⟩ := List.mem_map.1 hk
    obtain ⟨i, hi⟩ := List.mem_iff_getElem?.1 hr
    have hil : i < L.length := by have := (List.getElem?_eq_some_iff.1 hi).1; have := h.rows.1; omega
    exact ((h.rows.2 i r _ hi (List.getElem?_eq_getElem hil)).own.lt r.g rfl).2

theorem slice_of_row {w : World} {base : Nat} {e : TypeId} {size n : Nat} {v : Value} {xs : List Value} (h : w.ownsRow base e size v n xs) : ∃ a n c, v = .slice a n c := by
  rcases ownsRow_shape h with ⟨rfl, _⟩ | ⟨g, cap, rfl, _⟩
  · exact ⟨_, _, _, rfl⟩
  · exact ⟨_, _, _, rfl⟩
theorem keys_any (m : Nat) (w : World) : Calls Tryz.prog 140 #[.map (some m)] w fun e w' => e = .returned (.func (.func 162) #[] #[.pointer (some ⟨w.heap.size, 0, none⟩)]) ∧ w' = w.alloc (.cells #[.map (some m)] 125) := by
  go_enter Tryz.func140, Tryz.ntmps140
  go_wp2
  go_ret
  exact ⟨rfl, rfl⟩
set_option maxHeartbeats 1000000 in
theorem all_any {w : World} {b : Nat} {M : Mem} {A : Ar} (h : ArAt w b M A) :
    Calls Tryz.prog 119 #[.pointer (some ⟨b, 0, none⟩)] w fun e w' => ∃ Bk Bm m kv B, e = .returned (.func (.func 144) #[] #[.pointer (some ⟨Bk, 0, none⟩), .pointer (some ⟨Bm, 0, none⟩)]) ∧
      AllAt w' Bk Bm m kv B A.L ∧ (∀ k, k ∈ allFoot Bk Bm m kv B → w.heap.size ≤ k) ∧ Frm.Turn [] w w' := by
  have HC := Lib.hid (copies_any h)
  have HS : Hid (∀ (W : World) (m Bx : Nat) (B : List Row) (D : DataW Unit), MapAt W m B A.L D → W.cell? ⟨Bx, 0, none⟩ = some (.map (some m)) → Bx < W.heap.size →
      Calls Tryz.prog 139 #[.func (.func 162) #[] #[.pointer (some ⟨Bx, 0, none⟩)], .func (.func 141) #[] #[]] W fun e w' => ∃ v, e = .returned v ∧ w'.ownsRow W.heap.size 31 1 v A.L.length (u64s (hs_ A.L)) ∧ Below W.heap.size W w') :=
    Lib.hid fun W m Bx B D hD hc hl => by
      have hlen : A.L.length ≤ 60000 := by
        have h3 := length_le_used (fun x hx => (h.ok.len x hx).1)
        have h4 := h.ok.top
        have h5 := h.ok.peak
        have h6 := h.ok.cap
        omega
      exact sortedFunc_any (enters_of Tryz.func162 (by kernel_rfl) rfl) (keys_stops 4 (by omega) Bx m (Maps.size D) A.L D hD.has W hl hc hD.own) (by rw [hD.size]; omega) h.ok.rise (fun x hx => by have := h.ok.hnd x hx; have := h.ok.births; unfold W64; omega) (by omega)
  have HSF : Hid (∀ (m : Nat) (B : List Row) (w1 : World), Copied w m B A.L w1 →
      Calls Tryz.prog 139 #[.func (.func 162) #[] #[.pointer (some ⟨w1.heap.size + 1, 0, none⟩)], .func (.func 141) #[] #[]] ((w1.alloc (.cells #[.map (some m)] 125)).alloc (.cells #[.map (some m)] 125))
        fun e w' => ∃ v, e = .returned v ∧ AllAt (w'.alloc (.cells #[v] 25)) w'.heap.size w1.heap.size m v B A.L ∧ (∀ k, k ∈ allFoot w'.heap.size w1.heap.size m v B → w.heap.size ≤ k) ∧ Frm.Turn [] w (w'.alloc (.cells #[v] 25))) :=
    Lib.hid fun m B w1 hcp => by
      obtain ⟨D, hD⟩ := hcp.map
      have T2 : Frm.Turn [] w1 ((w1.alloc (.cells #[.map (some m)] 125)).alloc (.cells #[.map (some m)] 125)) := ((Frm.Turn.refl [] w1).alloc _).alloc _
      have b0 := (Boxed.new w1 125 (.map (some m))).alloc (.cells #[.map (some m)] 125)
      have b1 := Boxed.new (w1.alloc (.cells #[.map (some m)] 125)) 125 (.map (some m))
      rw [World.size_alloc] at b1
      refine (HS.out _ m (w1.heap.size + 1) B D (hD.turn T2 (by simp)) b1.cell b1.lt).mono ?_
      rintro e w3 ⟨v, rfl, hrow, hbl⟩
      have T3 : Frm.Turn [] ((w1.alloc (.cells #[.map (some m)] 125)).alloc (.cells #[.map (some m)] 125)) w3 := Frm.Turn.of_below hbl
      have T4 : Frm.Turn [] w1 (w3.alloc (.cells #[v] 25)) := (T2.trans T3 (by simp)).alloc _
      have h2 := hbl.size
      have h1 := hcp.turn.size
      simp at h2
      have hrow0 : w3.ownsRow 0 31 1 v A.L.length (u64s (hs_ A.L)) := ⟨hrow.1, hrow.2.imp id (fun ⟨g, cap, cur, e, _, r⟩ => ⟨g, cap, cur, e, Nat.zero_le _, r⟩)⟩
      refine ⟨v, rfl, ⟨Boxed.new _ _ _, ?_, hrow0.alloc _, ⟨D, hD.turn T4 (by simp)⟩, hcp.rows.1, fun i r x hr hx => (hcp.rows.2 i r x hr hx).turn T4 (by simp)⟩, fun k hk => ?_, hcp.turn.trans T4 (by simp)⟩
      · have := T3.keep (show _ = _ from b0) (by simp)
        exact Boxed.alloc this _
      · simp only [allFoot, List.mem_cons, List.mem_append] at hk
        rcases hk with rfl | rfl | rfl | hk | hk
        · omega
        · omega
        · exact hcp.newm
        · simp at hk
          have := (hrow.lt k hk).1
          simp at this
          omega
        · exact hcp.new k hk
  clear h HS
  go_enter Tryz.func119, Tryz.ntmps119
  go_wp2_with (first
    | (go_at_call 138; (with_reducible refine (HC.out).mono ?_); rintro e w1 ⟨m, B, rfl, hcp⟩; have HCP := Lib.hid hcp; clear hcp)
    | (go_at_call 140; (with_reducible refine (keys_any _ _).mono ?_); rintro e w2 ⟨rfl, rfl⟩)
    | (go_at_call 139; (with_reducible refine (HSF.out _ _ _ HCP.out).mono ?_); rintro e w3 ⟨v, rfl, h1, h2, h3⟩; obtain ⟨a0, n0, c0, rfl⟩ := slice_of_row h1.row; have HF := Lib.hid (And.intro h1 (And.intro h2 h3)); clear h1 h2 h3))
  go_ret
  exact ⟨_, _, _, _, _, rfl, HF.out⟩
end Arn
end Go.Proofs.YtpajafecodkndaaGreat

set_option linter.unusedVariables false
set_option linter.unusedSimpArgs false
namespace Go.Proofs.YtpajafecodkndaaGreat
namespace Arn
open Go.RowKit Hp Go.Maps Go.Shelf
attribute [local go_sem] Oper.semAt_some

abbrev Got := Blk × Nat × Nat
def gotEnc (x : Got) : Array Value := #[.int .u64 x.1.h, .slice (some ⟨x.2.1, 0, none⟩) x.1.ws.length x.2.2]
def KeepsAll (F : List Nat) (W W' : World) : Prop := ∃ G : List Nat, (∀ k, k ∈ G → k ∉ F) ∧ Frm.Turn G W W'
theorem KeepsAll.trans {F : List Nat} {A B C : World} (h : KeepsAll F A B) (k : KeepsAll F B C) : KeepsAll F A C := by
  obtain ⟨G, hG, hT⟩ := h
  obtain ⟨G', hG', hT'⟩ := k
  refine ⟨G ++ G', fun i hi => ?_, (hT.mono (by simp +contextual)).trans (hT'.mono (F := G') (G := G ++ G') (by simp +contextual)) (fun k hk => Or.inl hk)⟩
  rcases List.mem_append.1 hi with h | h
  · exact hG i h
  · exact hG' i h
/-- The words of x lie in its row. -/
def HasRow (W : World) (x : Got) : Prop := W.ownsRow 0 31 1 (.slice (some ⟨x.2.1, 0, none⟩) x.1.ws.length x.2.2) x.1.ws.length (u64s x.1.ws)
theorem HasRow.turn {W W' : World} {x : Got} {G : List Nat} (h : HasRow W x) (ht : Frm.Turn G W W') (hn : x.2.1 ∉ G) : HasRow W' x :=
  Frm.owns_turn h ht (fun k hk => by simp [Value.ownBlock] at hk; subst hk; exact hn)
def Gives (L : List Blk) (pre : List Got) (x : Got) (W : World) : Prop := HasRow W x ∧ L[pre.length]? = some x.1 ∧ pre.map Prod.fst = L.take pre.length

set_option maxRecDepth 100000 in
set_option maxHeartbeats 2000000 in
theorem iter1_in (n : Nat) (hn : 1 ≤ n) (l Bk Bm m : Nat) (kv : Value) (B : List Row) (L : List Blk) (h64 : ∀ x, x ∈ L → W64 x.h ∧ x.ws.length ≤ 2048) (hlen : L.length ≤ 60000) (J Jx : List Got → World → Prop)
    (hY : ∀ pre x W, J pre W → Gives L pre x W → YieldAt Fence.wide (n - 1) Tryz.prog l (gotEnc x) W fun e W' =>
      (e = .returned (.bool true) ∧ J (pre ++ [x]) W' ∧ KeepsAll (allFoot Bk Bm m kv B) W W') ∨ (e = .returned (.bool false) ∧ Jx (pre ++ [x]) W'))
    (W : World) (hJ : AbidesFrom W.heap.size J) (hA : AllAt W Bk Bm m kv B L) (h0 : J [] W) :
    CallsIn Fence.wide n Tryz.prog 144 #[.func (.yield l) #[] #[], .pointer (some ⟨Bk, 0, none⟩), .pointer (some ⟨Bm, 0, none⟩)] W fun e W' => (∃ v, e = .returned v) ∧
      ((∃ xs : List Got, xs.map Prod.fst = L ∧ J xs W') ∨ (∃ pre : List Got, (∃ k, pre.map Prod.fst = L.take (k + 1)) ∧ Jx pre W')) := by
  have hcK := hA.bk.cell
  rcases ownsRow_shape hA.row with ⟨rfl, hL0⟩ | ⟨kg, cap, rfl, _⟩
  · have : L = [] := List.length_eq_zero_iff.1 hL0
    subst this
    refine callsIn_of_wp Tryz.func144 rfl trivial ?_ rfl
    simp only [Tryz.ntmps144, List.size_toArray, List.length_cons, List.length_nil, Nat.reduceAdd, Nat.reduceSub, Array.replicate_succ, Array.replicate_zero, List.push_toArray, List.append_toArray, List.nil_append, List.cons_append]
    gi_wp2
    gi_loopw [8] (fun i wr => i = .int .i64 0 ∧ J [] wr) (fun _ _ => 0)
    case atStart => exact ⟨rfl, h0⟩
    case round =>
      obtain ⟨rfl, hJs⟩ := hrel
      gi_wp2
      go_end0
      exact ⟨⟨_, rfl⟩, .inl ⟨[], rfl, hJs⟩⟩
  · refine callsIn_of_wp Tryz.func144 rfl trivial ?_ rfl
    simp only [Tryz.ntmps144, List.size_toArray, List.length_cons, List.length_nil, Nat.reduceAdd, Nat.reduceSub, Array.replicate_succ, Array.replicate_zero, List.push_toArray, List.append_toArray, List.nil_append, List.cons_append]
    gi_wp2
    gi_loopw [8] (fun i wr => ∃ pre : List Got, pre.length ≤ L.length ∧ i = .int .i64 pre.length ∧ pre.map Prod.fst = L.take pre.length ∧ J pre wr ∧ AllAt wr Bk Bm m (.slice (some ⟨kg, 0, none⟩) L.length cap) B L)
      (fun i _ => L.length - (intOf i).toNat)
    case atStart => exact ⟨[], Nat.zero_le _, rfl, rfl, h0, hA⟩
    case round =>
      obtain ⟨pre, hk, rfl, hpre, hJs, hAr⟩ := hrel
      by_cases hlt : pre.length < L.length
      · obtain ⟨x, hx⟩ : ∃ x, L[pre.length]? = some x := ⟨_, List.getElem?_eq_getElem hlt⟩
        obtain ⟨r, hr⟩ : ∃ r, B[pre.length]? = some r := ⟨_, List.getElem?_eq_getElem (by have := hAr.rows.1; omega)⟩
        obtain ⟨D, hD⟩ := hAr.map
        have hR := hAr.rows.2 _ r x hr hx
        have hm := List.mem_of_getElem? hx
        have hlk := hD.look_is hr hx hR.h (h64 x hm).1
        have hcm := hAr.bm.cell
        have hck : wr.cell? ⟨kg, pre.length, none⟩ = some (.int .u64 x.h) := by
          have := World.ownsRow.cells hAr.row rfl pre.length (.int .u64 x.h) (by simp [u64s, hs_, hx])
          have hadd : (⟨kg, 0, none⟩ : Addr).add pre.length = ⟨kg, pre.length, none⟩ := by
            unfold Addr.add; split
            · rename_i e; rw [e]
            · simp
          rwa [hadd] at this
        have HCL := Lib.hid (uclone_some ⟨r.g, 0, none⟩ r.c x.ws wr (fun j u hu => World.ownsRow.cells hR.own rfl j u hu) (by have := (h64 x hm).2; omega))
        have HX := Lib.hid hx
        have HA := Lib.hid hAr
        clear hD hR hr hx hm hA h0 hAr
        have HJ : Hid (∀ (w3 : World) (g' c' : Nat), w3.ownsRow 0 31 1 (.slice (some ⟨g', 0, none⟩) x.ws.length c') x.ws.length (u64s x.ws) → Frm.Turn [] wr w3 → ∃ fn tmps assign body, (Instr.yield l #[.int .u64 x.h, .slice (some ⟨g', 0, none⟩) x.ws.length c']).run Tryz.prog w3 = .ok (.round l fn tmps assign body) w3 ∧
            Hid (RoundIn Fence.wide (n - 1) Tryz.prog l fn tmps assign body w3 fun e W' => (e = .returned (.bool true) ∧ J (pre ++ [(x, g', c')]) W' ∧ KeepsAll (allFoot Bk Bm m (.slice (some ⟨kg, 0, none⟩) L.length cap) B) w3 W') ∨ (e = .returned (.bool false) ∧ Jx (pre ++ [(x, g', c')]) W'))) :=
          Lib.hid fun w3 g' c' ho hT => by
            obtain ⟨fn, tmps, assign, body, hy, hRR⟩ := hY pre (x, g', c') w3 (hJ pre wr w3 none hJs (grown_of hT) (by simp)) ⟨ho, HX.out, hpre⟩
            exact ⟨fn, tmps, assign, body, hy, Lib.hid hRR⟩
        gi_wp2_with ((refine ⟨trivial, ?_⟩; gi_at_call 63; refine (callsIn_wide.2 HCL.out).mono ?_; rintro e w3 ⟨g', c', rfl, ho, hg, hT⟩; obtain ⟨fn, tmps, assign, body, hy, hRR⟩ := HJ.out w3 g' c' ho hT; have HT3 := Lib.hid hT; clear ho hg hT))
        refine hRR.out.mono ?_
        rintro e W3 (⟨rfl, hJ3, hk3⟩ | ⟨rfl, hJx3⟩)
        · have HA3 : AllAt W3 Bk Bm m (.slice (some ⟨kg, 0, none⟩) L.length cap) B L := by
            obtain ⟨G, hG, hTG⟩ := hk3
            exact (HA.out.turn HT3.out (by simp)).turn hTG (fun k hk hk' => hG k hk' hk)
          have htk : (pre ++ [(x, g', c')]).map Prod.fst = L.take (pre ++ [(x, g', c')]).length := by
            rw [List.map_append, hpre, List.length_append, List.length_singleton, List.take_add_one, HX.out]; rfl
          have HH := Lib.hid (And.intro htk (And.intro hJ3 HA3))
          clear hJ3 hk3 HA3 htk
          gi_wp2
          go_roundw
          case rel => exact ⟨pre ++ [(x, g', c')], by simp; omega, by simp, HH.out⟩
          case measure => simp [intOf]; omega
        · have htk : (pre ++ [(x, g', c')]).map Prod.fst = L.take (pre.length + 1) := by
            rw [List.map_append, hpre, List.take_add_one, HX.out]; rfl
          gi_wp2
          refine bodyPost_ret (results_none rfl _ _ _) rfl ?_
          exact ⟨⟨_, rfl⟩, .inr ⟨_, ⟨_, htk⟩, hJx3⟩⟩
      · have hke : pre.length = L.length := by omega
        have hall : pre.map Prod.fst = L := by rw [hpre, hke]; simp
        clear hpre hAr hA
        gi_wp2
        go_end0
        exact ⟨⟨_, rfl⟩, .inl ⟨pre, hall, hJs⟩⟩
end Arn
end Go.Proofs.YtpajafecodkndaaGreat

set_option linter.unusedVariables false
set_option linter.unusedSimpArgs false
namespace Go.Proofs.YtpajafecodkndaaGreat
namespace Arn
open Go.RowKit Hp Go.Maps Go.Shelf
attribute [local go_sem] Oper.semAt_some

def gotCells (l : List Got) : List Value := l.flatMap fun x => [.int .u64 x.1.h, .slice (some ⟨x.2.1, 0, none⟩) x.1.ws.length x.2.2]
theorem gotCells_snoc (l : List Got) (x : Got) : gotCells (l ++ [x]) = gotCells l ++ [.int .u64 x.1.h, .slice (some ⟨x.2.1, 0, none⟩) x.1.ws.length x.2.2] := by simp [gotCells]
theorem info_blk : (Tryz.prog.info? 135).map (fun i => (i.zero, i.size, i.bytes)) = some (some (.agg #[.int .u64 0, .slice none 0 0]), 2, 32) := by kernel_rfl
theorem under_blks : Tryz.prog.underlying 33 = some (.slice 135) := by kernel_rfl
theorem cell_two_new (w : World) (x y : Value) (t : TypeId) : ∀ j u, [x, y][j]? = some u → (w.alloc (.cells #[x, y] t)).cell? ((⟨w.heap.size, 0, none⟩ : Addr).add j) = some u := by
  intro j u hj
  match j, hj with
  | 0, hj =>
    simp at hj; subst hj
    have hb := World.alloc_heap_new w (.cells #[x, y] t)
    show (w.alloc (.cells #[x, y] t)).cell? ⟨w.heap.size, 0, none⟩ = _
    unfold World.cell?
    rw [hb]; rfl
  | 1, hj =>
    simp at hj; subst hj
    have hb := World.alloc_heap_new w (.cells #[x, y] t)
    show (w.alloc (.cells #[x, y] t)).cell? ⟨w.heap.size, 1, none⟩ = _
    unfold World.cell?
    rw [hb]; rfl

structure BlkAt (w : World) (base Bl Bq : Nat) (most : Int) (L : List Blk) (pre : List Got) (W : World) : Prop where
  box : ∃ v, Boxed W Bl 33 v ∧ W.ownsRow base 135 2 v pre.length (gotCells pre) ∧ True
  q : Boxed W Bq 3 (.int .i64 most)
  rows : ∀ x, x ∈ pre → HasRow W x
  below : Below w.heap.size w W
  come : pre.map Prod.fst = L.take pre.length
  few : pre.length ≤ most.toNat
  big : base ≤ W.heap.size
theorem HasRow.cells {W : World} {x : Got} (h : HasRow W x) : ∃ cur, W.heap[x.2.1]? = some (.cells cur 31 (0, 0)) := by
  rcases h.2 with ⟨e, _⟩ | ⟨g, cap, cur, e, _, hg, _⟩
  · cases e
  · cases e; exact ⟨cur, hg⟩
theorem BlkAt.own (w : World) (base Bl Bq : Nat) (most : Int) (L : List Blk) {B : Nat} (hB : w.heap.size ≤ B) : OwnFrom B (BlkAt w base Bl Bq most L) := fun s X Y row hs hg hr =>
  ⟨holdsRow_own base Bl 33 135 2 (fun s : List Got => s.length) gotCells (fun _ _ => True) s X Y row hs.box hg (fun r e => (hr r e).2),
    boxed_own (β := List Got) Bq 3 (fun _ => .int .i64 most) s X Y row hs.q hg (fun r e => (hr r e).2),
    fun x hx => (hs.rows x hx).turn (Frm.Turn.of_grown hg) (fun hk => by
      simp at hk
      obtain ⟨_, o, ho, hc⟩ := hr _ hk
      obtain ⟨cur, hcur⟩ := (hs.rows x hx).cells
      rw [hcur] at ho; cases ho; cases hc),
    ownFrom_below (β := List Got) (Nat.le_refl _) hB s X Y row hs.below hg hr, hs.come, hs.few, Nat.le_trans hs.big hg.size⟩
theorem ownsRow_base {W : World} {base : Nat} {e : TypeId} {size n : Nat} {v : Value} {xs : List Value} (h : W.ownsRow 0 e size v n xs) (hb : ∀ k, v.ownBlock = some k → base ≤ k) : W.ownsRow base e size v n xs :=
  ⟨h.1, h.2.imp id fun ⟨g, cap, cur, he, _, r⟩ => ⟨g, cap, cur, he, hb g (by rw [he]; rfl), r⟩⟩
theorem ownsRow_zero {W : World} {base : Nat} {e : TypeId} {size n : Nat} {v : Value} {xs : List Value} (h : W.ownsRow base e size v n xs) : W.ownsRow 0 e size v n xs :=
  ⟨h.1, h.2.imp id fun ⟨g, cap, cur, he, _, r⟩ => ⟨g, cap, cur, he, Nat.zero_le _, r⟩⟩
theorem gives_own (L : List Blk) (B : Nat) (pre : List Got) : OwnFrom B (Gives L pre) := fun x X Y row hs hg hr =>
  ⟨hs.1.turn (Frm.Turn.of_grown hg) (fun hk => by
      simp at hk
      obtain ⟨_, o, ho, hc⟩ := hr _ hk
      obtain ⟨cur, hcur⟩ := hs.1.cells
      rw [hcur] at ho; cases ho; cases hc), hs.2⟩
/-- One append. -/
theorem BlkAt.step {w W w1 : World} {base Bl Bq : Nat} {most : Int} {L : List Blk} {pre : List Got} {x : Got} {v v' : Value} {tmp : Obj} (hw : w.heap.size ≤ Bl) (hwb : w.heap.size ≤ base) (hq : Bl ≠ Bq) (h : BlkAt w base Bl Bq most L pre W) (hv : Boxed W Bl 33 v) (hrow : W.ownsRow base 135 2 v pre.length (gotCells pre)) (hg : Gives L pre x W) (hm : pre.length + 1 ≤ most.toNat)
    (hown' : w1.ownsRow base 135 2 v' (pre.length + 1) (gotCells pre ++ [.int .u64 x.1.h, .slice (some ⟨x.2.1, 0, none⟩) x.1.ws.length x.2.2])) (hgrow : (W.alloc tmp).grownBy w1 v.ownBlock) :
    BlkAt w base Bl Bq most L (pre ++ [x]) (w1.setCell ⟨Bl, 0, none⟩ v') ∧ KeepsOthers W (w1.setCell ⟨Bl, 0, none⟩ v') ∧ Frm.Turn (Bl :: v.ownBlock.toList) W (w1.setCell ⟨Bl, 0, none⟩ v') := by
  obtain ⟨_, hv2, hr2, hk2, _⟩ := hv.appended (n₀ := 0) (by decide) (ownsRow_zero hrow) (Nat.zero_le _) (Nat.zero_le _) (ownsRow_zero hown') hgrow
  have T : Frm.Turn (Bl :: v.ownBlock.toList) W (w1.setCell ⟨Bl, 0, none⟩ v') :=
    ((((Frm.Turn.refl [] W).alloc tmp).mono (by simp)).trans ((Frm.Turn.of_grown hgrow).mono (G := Bl :: v.ownBlock.toList) (by simp +contextual)) (fun k hk => Or.inl hk)).setCell (p := ⟨Bl, 0, none⟩) (by simp) _
  have hno : ∀ y : Got, HasRow W y → y.2.1 ∉ Bl :: v.ownBlock.toList := fun y hy hk => by
    obtain ⟨cur, hcur⟩ := hy.cells
    simp at hk
    rcases hk with hk | hk
    · rw [hk, show W.heap[Bl]? = _ from hv] at hcur
      simp at hcur
    · rcases hrow.2 with ⟨rfl, _⟩ | ⟨g, cap, cur', rfl, _, hgb, _⟩
      · simp [Value.ownBlock] at hk
      · simp [Value.ownBlock] at hk
        rw [← hk, hgb] at hcur
        simp at hcur
  have hbase : ∀ k, v.ownBlock = some k → base ≤ k := fun k hk => (hrow.lt k hk).1
  refine ⟨⟨⟨v', hv2, ?_, trivial⟩, ?_, fun y hy => ?_, ?_, ?_, ?_, Nat.le_trans h.big T.size⟩, hk2, T⟩
  · rw [gotCells_snoc]
    have := ownsRow_base hr2 (fun k hk => (hown'.lt k hk).1)
    simpa using this
  · refine T.keep (show _ = _ from h.q) (fun hk => ?_)
    simp at hk
    rcases hk with hk | hk
    · exact hq hk.symm
    · rcases hrow.2 with ⟨rfl, _⟩ | ⟨g, cap, cur', rfl, _, hgb, _⟩
      · simp [Value.ownBlock] at hk
      · simp [Value.ownBlock] at hk
        have hqb := h.q
        unfold Boxed at hqb
        rw [← hk, hgb] at hqb
        simp at hqb
  · rcases List.mem_append.1 hy with hy | hy
    · exact (h.rows y hy).turn T (hno y (h.rows y hy))
    · simp at hy; subst hy
      exact hg.1.turn T (hno y hg.1)
  · refine h.below.trans (T.below h.below.size (fun k hk => ?_))
    simp at hk
    rcases hk with rfl | hk
    · exact hw
    · have := hbase k hk; omega
  · rw [List.map_append, h.come, List.length_append, List.length_singleton, List.take_add_one, hg.2.1]; rfl
  · simpa using hm

set_option maxRecDepth 100000 in
set_option maxHeartbeats 4000000 in
theorem blocks_any {w : World} {b : Nat} {M : Mem} {A : Ar} (h : ArAt w b M A) (most : Int) :
    Calls Tryz.prog 80 #[.pointer (some ⟨b, 0, none⟩), .int .i64 most] w fun e w' => ∃ v ys, e = .returned v ∧ w'.ownsRow w.heap.size 135 2 v ys.length (gotCells ys) ∧
      ys.map Prod.fst = A.L.take most.toNat ∧ (∀ y, y ∈ ys → HasRow w' y) ∧ Frm.Turn [] w w' := by
  obtain ⟨i0, hi, hz0, hz1, hz2⟩ := info_parts info_blk
  have T2 : Frm.Turn [] w ((w.alloc (.cells #[.int .i64 most] 3)).alloc (.cells #[.slice none 0 0] 33)) := ((Frm.Turn.refl [] w).alloc _).alloc _
  have HAll := Lib.hid (all_any (h.step T2))
  have h64 : ∀ x, x ∈ A.L → W64 x.h ∧ x.ws.length ≤ 2048 := fun x hx => by
    have := h.ok.hnd x hx; have := h.ok.births; have := h.ok.len x hx; unfold W64; omega
  have hlen : A.L.length ≤ 60000 := by
    have h3 := length_le_used (fun x hx => (h.ok.len x hx).1)
    have h4 := h.ok.top
    have h5 := h.ok.peak
    have h6 := h.ok.cap
    omega
  refine callsIn_wide.1 (?_ : CallsIn Fence.wide 6 _ _ _ _ _)
  refine callsIn_of_wp_marks Tryz.func80 rfl trivial ?_ rfl
  simp only [Tryz.ntmps80, List.size_toArray, List.length_cons, List.length_nil, Nat.reduceAdd, Nat.reduceSub, Array.replicate_succ, Array.replicate_zero, List.push_toArray, List.append_toArray, List.nil_append, List.cons_append]
  gi_wp2_with (refine ⟨trivial, ?_⟩; gi_at_call 119; refine (callsIn_wide.2 HAll.out).mono ?_; rintro e W0 ⟨Bk, Bm, m, kv, B, rfl, hA, hF, hT⟩)
  have b0 : Boxed W0 w.heap.size 3 (.int .i64 most) := hT.keep (show _ = _ from (Boxed.new w 3 (.int .i64 most)).alloc _) (by simp)
  have b1 : Boxed W0 (w.heap.size + 1) 33 (.slice none 0 0) := hT.keep (by
    have := Boxed.new (w.alloc (.cells #[.int .i64 most] 3)) 33 (.slice none 0 0)
    rw [World.size_alloc] at this
    exact this) (by simp)
  have hTw : Frm.Turn [] w W0 := T2.trans hT (by simp)
  have hs0 := hTw.size
  have hs1 := hT.size
  simp at hs1
  have hF' : ∀ k, k ∈ allFoot Bk Bm m kv B → w.heap.size + 2 ≤ k ∧ k < W0.heap.size := fun k hk => by
    have h1 := hF k hk
    simp at h1
    exact ⟨by omega, hA.lt hk⟩
  have hA0 := Lib.hid hA
  have hB0 : Below w.heap.size w W0 := hTw.below (Nat.le_refl _) (by simp)
  have HO := Lib.hid (BlkAt.own w W0.heap.size (w.heap.size + 1) w.heap.size most A.L hs0)
  refine Told.wp_told (n := 6) (by omega) (gf := 144) (lb := #[.pointer (some ⟨Bk, 0, none⟩), .pointer (some ⟨Bm, 0, none⟩)]) rfl (enters_of Tryz.func144 (by kernel_rfl) rfl)
    (encs := gotEnc) (Kp := KeepsAll (allFoot Bk Bm m kv B)) (G := Gives A.L) (S := fun xs => xs.map Prod.fst = A.L) (Sp := fun pre => True) (w0 := W0)
    (fun l J Jx W hW hJ _ hY hj0 => (iter1_in 5 (by omega) l Bk Bm m kv B A.L h64 hlen J Jx hY W hJ (hA0.out.turn (Frm.Turn.of_below (F := []) hW) (by simp)) hj0).mono (by rintro e W' ⟨h1, ⟨xs, h2, h3⟩ | ⟨pre, _, h3⟩⟩; exact ⟨h1, .inl ⟨xs, h2, h3⟩⟩; exact ⟨h1, .inr ⟨pre, trivial, h3⟩⟩))
    KeepsAll.trans
    (fun W l o o' hl ho hc hw => ⟨[l], fun k hk hk' => by have := (hF' k hk').2; simp at hk; omega, Frm.Turn.of_grown (grownBy_putObj' W l o')⟩)
    (Below.refl _ _) (fun _ => rfl)
    (BlkAt w W0.heap.size (w.heap.size + 1) w.heap.size most A.L)
    (fun c pre' W => c = .exit 0 ∧ ∃ pre x, pre' = pre ++ [x] ∧ BlkAt w W0.heap.size (w.heap.size + 1) w.heap.size most A.L pre W ∧ most ≤ pre.length)
    HO.out
    (fun c s X Y row hs hg hr => ⟨hs.1, hs.2.elim fun pre h => h.elim fun x h => ⟨pre, x, h.1, HO.out pre X Y row h.2.1 hg hr, h.2.2⟩⟩)
    (fun pre => gives_own A.L _ pre)
    ⟨⟨_, b1, World.ownsRow_nil _ _ _ _, trivial⟩, b0, by simp, hB0, rfl, Nat.zero_le _, Nat.le_refl _⟩
    (fun x => { tmps := #[.pointer (some ⟨b, 0, none⟩), .int .i64 most, undef, .pointer (some ⟨w.heap.size, 0, none⟩), .slice none 0 0, .pointer (some ⟨w.heap.size + 1, 0, none⟩), .int .u64 x.1.h, .slice (some ⟨x.2.1, 0, none⟩) x.1.ws.length x.2.2, .pointer (some ⟨b, 0, none⟩), .func (.func 144) #[] #[.pointer (some ⟨Bk, 0, none⟩), .pointer (some ⟨Bm, 0, none⟩)], .int .u64 x.1.h, .slice (some ⟨x.2.1, 0, none⟩) x.1.ws.length x.2.2, undef, undef, undef, undef, undef, undef, undef, undef, undef, undef, undef], defers := [] }) ?assign ?body ?done ?stop
  case assign =>
    intro l x W K hK
    unfold gotEnc
    gi_wp2
    exact hK
  case body =>
    rintro l pre x W hI hgx
    obtain ⟨v, hv, hrow, _⟩ := hI.box
    obtain ⟨a0, c0, rfl⟩ : ∃ a c, v = .slice a pre.length c := by
      rcases ownsRow_shape hrow with ⟨rfl, e⟩ | ⟨g, cap, rfl, _⟩
      · exact ⟨none, 0, by rw [e]⟩
      · exact ⟨_, _, rfl⟩
    have hc := hv.cell
    have hq := hI.q.cell
    have hsz := hI.big
    have hlen' : pre.length ≤ 60000 := by
      have := congrArg List.length hI.come
      simp at this
      omega
    by_cases hm : most ≤ pre.length
    · have HI := Lib.hid hI
      clear hI hgx hrow hv
      gi_wp2
      exact ⟨KeepsFrom.refl _ _, rfl, pre, x, rfl, HI.out, hm⟩
    · have hm' : ¬ (most : Int) ≤ ((pre.length : Nat) : Int) := hm
      have HI := Lib.hid hI
      have HG := Lib.hid hgx
      have hmt : pre.length + 1 ≤ most.toNat := by omega
      clear hI hgx
      gi_wp2_with (gi_at_builtin; refine wpListIn_append_own _ rfl _ _ 33 rfl W0.heap.size 135 i0 (.agg #[.int .u64 0, .slice none 0 0]) 2 32 under_blks hi hz0 hz1 hz2 rfl (by decide) _ _ _ rfl (hrow.alloc _) ⟨W.heap.size, 0, none⟩ 1 1 [.int .u64 x.1.h, .slice (some ⟨x.2.1, 0, none⟩) x.1.ws.length x.2.2] rfl rfl (cell_two_new _ _ _ _) (by simp [Value.oneCell']) (by unfold maxLen; omega) (by omega) (by simp; omega) ?_; intro v' w1 hown' hgrow _; obtain ⟨g', cap', rfl⟩ := ownsRow_succ hown'; obtain ⟨hB1, hK1, hT1⟩ := BlkAt.step (by omega) (by omega) (by omega) HI.out hv hrow HG.out hmt hown' hgrow; have hv1 := hv.appended (n₀ := 0) (by decide) (ownsRow_zero hrow) (Nat.zero_le _) (Nat.zero_le _) (ownsRow_zero hown') hgrow; have hc1 := hv1.1.cell; have hf1 := hv1.1.frozen; have HB1 := Lib.hid hB1; have HK1 := Lib.hid hK1; have HT1 := Lib.hid hT1; clear hB1 hK1 hT1 hv1)
      refine ⟨HK1.out.from _, ⟨_, fun k hk hk' => ?_, HT1.out⟩, HB1.out⟩
      have h2 := hF' k hk'
      simp [Value.ownBlock] at hk
      rcases hk with rfl | hk
      · omega
      · have := (hrow.lt k (by cases a0 <;> simp_all [Value.ownBlock])).1
        omega
  case done =>
    rintro D ys W hD hS hI hK
    obtain ⟨v, hv, hrow, _⟩ := hI.box
    have hc := hv.cell
    have hI2 := Lib.hid (HO.out.putObj (.deferred none) hI (by omega) hK rfl)
    clear hI
    gi_wp2
    refine ⟨by simp, .inl ⟨_, _, rfl, run_takeDeferred hK, ?_⟩⟩
    refine ⟨_, results_tmp rfl _ _ _, v, ys, rfl, ?_, ?_, hI2.out.rows, Frm.Turn.of_below hI2.out.below⟩
    · exact ownsRow_base (ownsRow_zero (ownsRow_putObj hrow _ hK rfl)) (fun k hk => by have := (hrow.lt k hk).1; omega)
    · have h1 := hI2.out.few
      rw [hS, List.take_of_length_le]
      rw [← hS]; simpa using h1
  case stop =>
    rintro D c pre' W hD _ ⟨rfl, pre, x, rfl, hI, hm⟩ hK
    obtain ⟨v, hv, hrow, _⟩ := hI.box
    have hc := hv.cell
    have hI2 := Lib.hid (HO.out.putObj (.deferred none) hI (by omega) hK rfl)
    clear hI
    gi_wp2
    refine ⟨by simp, .inl ⟨_, _, rfl, run_takeDeferred hK, ?_⟩⟩
    refine ⟨_, results_tmp rfl _ _ _, v, pre, rfl, ?_, ?_, hI2.out.rows, Frm.Turn.of_below hI2.out.below⟩
    · exact ownsRow_base (ownsRow_zero (ownsRow_putObj hrow _ hK rfl)) (fun k hk => by have := (hrow.lt k hk).1; omega)
    · have h1 := hI2.out.few
      rw [hI2.out.come, show pre.length = most.toNat by omega]
end Arn
end Go.Proofs.YtpajafecodkndaaGreat
