/- The calls of a round of ClaimPlays. -/
import Derived.Test.YtolcpfidmpoipaaGreatPlayMem
import Derived.Test.YtolcpfidmpoipaaGreatPlayTie
import Derived.Test.YtolcpfidmpoipaaGreatArenaLawSame
set_option linter.unusedVariables false
set_option linter.unusedSimpArgs false
namespace Go.Proofs.YtolcpfidmpoipaaGreat
namespace Frm
open Go.RowKit
theorem step_store_row {P : Program} {ops : Array Oper} {o : Oper} {a : Act} {w : World} {K : Act → World → Prop} {Q : Exit → Act → World → Prop} {E : Prop}
    (hgd : o.guard = none) (ty : TypeId) (x y : Operand) (ho : o.op = .store ty x y) (g : Nat) (cells : Array Value) (hx : a.eval x = .pointer (some ⟨g, 0, none⟩)) (hy : a.eval y = .agg cells)
    (t : TypeId) (old : Array Value) (hg : w.heap[g]? = some (.cells old t (0, 0))) (hi : (P.info? ty).map (·.size) = some cells.size) (hold : old.size = cells.size) (h1 : cells.all (·.oneCell') = true)
    (hK : K (a.put o.dst undef) (w.setRow g cells)) : if Region.wanted o (yielded ops a.tmps) = true then Oper.wp P o a w K Q else E := by
  have hw : Region.wanted o (yielded ops a.tmps) = true := by simp [Region.wanted, hgd]
  rw [if_pos hw]
  exact wp_store_row ty x y ho g cells hx hy t old hg hi hold h1 hK
end Frm
namespace Evn
open Go.RowKit Go.Maps Arn Pac Clm

theorem row_put {W : World} {k : Nat} {t : TypeId} {cs : Array Value} (cs' : Array Value) (h : W.heap[k]? = some (.cells cs t (0, 0))) : (W.setRow k cs').heap[k]? = some (.cells cs' t (0, 0)) := by
  unfold World.setRow
  simp only [Array.getElem?_modify, if_pos, h, Option.map_some]
variable {w W W' : World} {b mb n k i0 i : Nat} {v : Value} {rr ee : Nat → Nat} {ct : Nat → Int} {K : List Nat} {CS : Array Value} {Gm : List Nat} {A B : Ar} {c : Nat → Cl} {E : Nat → En} {CE : Nat → Array Value} {lv : Nat → Value} {G : Nat → List Nat}
theorem Play.wider {K' : List Nat} (P : Play w b mb n v rr ee ct K CS Gm A B k i0 c E CE lv G W) (hk : Kin w b K' A k W) (hK : ∀ x, x ∈ K → x ∈ K') : Play w b mb n v rr ee ct K' CS Gm A B k i0 c E CE lv G W :=
  { P with kin := hk, km := hK _ P.km, kr := fun i hi => hK _ (P.kr i hi), ke := fun i hi => hK _ (P.ke i hi), ki := fun x hx => hK _ (P.ki x hx), kv := fun x hx => hK _ (P.kv x hx) }
/-- A variable is made. -/
theorem Play.box (P : Play w b mb n v rr ee ct K CS Gm A B k i0 c E CE lv G W) (o : Obj) : Play w b mb n v rr ee ct (W.heap.size :: K) CS Gm A B k i0 c E CE lv G (W.alloc o) :=
  (P.still ((Frm.Turn.refl [] W).alloc o)).wider (P.kin.add ((Frm.Turn.refl [] W).alloc o) (Nat.le_refl _) (by rw [World.size_alloc]; omega)) (fun x hx => List.mem_cons_of_mem _ hx)
theorem Play.size (P : Play w b mb n v rr ee ct K CS Gm A B k i0 c E CE lv G W) : CS.size = 20 ∧ CS.all (·.oneCell') = true := by
  obtain ⟨CS', e, h1, h2⟩ := P.mref.row
  cases e
  exact ⟨h1, h2⟩
/-- The document's arena is written to, and put back. -/
theorem Play.mwrite (P : Play w b mb n v rr ee ct K CS Gm A B k i0 c E CE lv G W) (hL : LimA B) (hw : B.t.writes ≤ 100000000) (blk x z : Int) :
    Calls Tryz.prog 11 #[.agg CS, .agg #[.int .u64 blk, .int .i64 x], .int .u64 z] W fun e w' => ∃ CS1, e = .returned (.tuple #[.agg CS1, .int .i64 (B.write blk x z).2]) ∧ CS1.size = 20 ∧ CS1.all (·.oneCell') = true ∧ Frm.Turn [] W w' ∧
      ∃ G1 K', (∀ x, x ∈ K → x ∈ K') ∧ Play w b mb n v rr ee ct K' CS1 G1 A (B.write blk x z).1 k i0 c E CE lv G (w'.setRow mb CS1) := by
  refine (refWrite_any B (.agg CS) Gm W P.mref hL.ok hL.faults hw blk x z (fun q hq => P.kin.lt (P.ki q (.inl hq)))).mono ?_
  rintro e w' ⟨u', G1, rfl, hr, hT, hG⟩
  obtain ⟨CS1, rfl, h1, h2⟩ := hr.row
  have hp := hT.size
  have hm := row_put CS1 (hT.keep P.mown (by simp))
  have hT2 : Frm.Turn [mb] W (w'.setRow mb CS1) := setRow_turn (hT.mono (by simp)) (.inl (by simp)) CS1
  have hmb := P.kin.lt P.km
  have hne : ∀ q, q ∈ G1 → q ∉ [mb] := fun q hq => by
    rcases hG q hq with h | h
    · simpa using (P.im q (.inl h)).1
    · simp; omega
  obtain ⟨K', h3, h4⟩ := P.mput hT2 hm (hr.turn (setRow_turn (Frm.Turn.refl _ w') (.inl (by simp)) CS1) hne) (fun q hq => (hG q hq).imp .inl (fun h => ⟨h.1, by simp only [World.setRow, Array.size_modify]; exact h.2⟩))
  exact ⟨CS1, rfl, h1, h2, hT, G1, K', h3, h4⟩
def z24 : Array Value := #[.int .i64 0, .int .i64 0, .int .i64 0, .int .i64 0, .int .u64 0, .int .u64 0, .int .u64 0, .int .u64 0, .int .u64 0, .int .u64 0, .int .u64 0, .int .u64 0, .int .u64 0, .slice none 0 0, .int .i64 0, .int .i64 0, .int .i64 0, .int .i64 0, .int .i64 0, .int .i64 0, .slice none 0 0, .int .i64 0, .bool false, .bool false]
def zc20 (cap : Int) : Array Value := #[.int .i64 cap, .int .i64 0, .int .i64 0, .int .i64 0, .int .u64 0, .int .u64 0, .int .u64 0, .int .u64 0, .int .u64 0, .int .u64 0, .int .u64 0, .int .u64 0, .int .u64 0, .slice none 0 0, .int .i64 0, .int .i64 0, .int .i64 0, .int .i64 0, .int .i64 0, .int .i64 0]
def E0 : En := ⟨Ar.new 0, [], 0, false, false⟩
/-- An environment as it begins. -/
theorem env_new {N : Array Value} (hN : N = z24) {e : Nat} (h : W.heap[e]? = some (.cells N 41 (0, 0))) : EnAt W e E0 (zc20 0) (.slice none 0 0) [] := by
  subst hN
  exact ⟨h, rfl, by simp [zc20, Value.oneCell'], refS_new W 0, World.ownsRow_nil _ _ _ _, by simp [Value.ownBlock], by simp, by simp⟩
/-- Begin. -/
theorem Play.begin_ (P : Play w b mb n v rr ee ct K CS Gm A B k i c E CE lv G W) (hi : i < n) :
    Calls Tryz.prog 13 #[.pointer (some ⟨ee i, 0, none⟩), .agg CS] W fun e w' => e = .returned (.tuple #[]) ∧ Frm.Turn [ee i] W w' ∧
      ∃ K' CE' lv' G', (∀ x, x ∈ K → x ∈ K') ∧ Play w b mb n v rr ee ct K' CS Gm A B k i c (upd E i ((E i).begin B)) CE' lv' G' w' := by
  refine (begin_any (P.en i hi) B P.mref (fun h => ((P.im _ (.inl h)).2.2 i hi).2 rfl) (fun q hq => P.kin.lt (P.ki q (.inl hq)))).mono ?_
  rintro e w' ⟨he, h1, h2⟩
  obtain ⟨K', h3, h4⟩ := P.env hi h2 h1 (P.len i hi) (fun x hx => .inl (.inl hx)) (fun x hx => .inl (.inr ⟨i, hi, .inr hx⟩))
  exact ⟨he, h2, K', _, _, _, h3, h4⟩
/-- Run. -/
theorem Play.run {A' : Ar} {L : List Res} {r : Res} {tok : Int} (P : Play w b mb n v rr ee ct K CS Gm A B k i c E CE lv G W) (hi : i < n) {A1 : Ar} (R : Goes tok A1 A' L r) (hE : E i = plcE A1 A' L r 0) (hl : L.length + 1 ≤ k) :
    Calls Tryz.prog 14 #[.pointer (some ⟨ee i, 0, none⟩), .int .u64 tok] W fun e w' => ∃ (j : Nat) (sg s : Int) (own : Bool) (ld er : Int), e = .returned (.agg (gotAll sg s own ld er)) ∧ RunOk tok L r j sg s own ld er ∧ Frm.Turn [ee i] W w' ∧
      ∃ K' CE' lv' G', (∀ x, x ∈ K → x ∈ K') ∧ Play w b mb n v rr ee ct K' CS Gm A B k i c (upd E i (plcE A1 A' L r j)) CE' lv' G' w' := by
  have h0 := P.en i hi
  rw [hE] at h0
  refine (run_any R h0).mono ?_
  rintro e w' ⟨j, sg, s, own, ld, er, he, hok, ⟨CS1, lv1, G1, h1, h2, h3⟩, h4⟩
  have hlog : (plcE A1 A' L r j).log.length ≤ k := by
    unfold plcE posE endE
    repeat' split
    all_goals (first | (dsimp only; omega) | (simp; omega))
  obtain ⟨K', h5, h6⟩ := P.env hi h4 h1 hlog (fun x hx => (h2 x hx).imp (fun h => .inr ⟨i, hi, .inl h⟩) id) (fun x hx => (h3 x hx).imp (fun h => .inr ⟨i, hi, .inr h⟩) id)
  exact ⟨j, sg, s, own, ld, er, he, hok, h4, K', _, _, _, h5, h6⟩
/-- What the environment has is put into the document's arena. -/
theorem Play.take (P : Play w b mb n v rr ee ct K CS Gm A B k i0 c E CE lv G W) (hi : i < n) : ∃ K', (∀ x, x ∈ K → x ∈ K') ∧ Play w b mb n v rr ee ct K' (CE i) (G i) A (E i).A k i0 c E CE lv G (W.setRow mb (CE i)) := by
  have hT : Frm.Turn [mb] W (W.setRow mb (CE i)) := setRow_turn (Frm.Turn.refl _ W) (.inl (by simp)) _
  exact P.mput hT (row_put _ P.mown) ((P.en i hi).m.turn hT (fun q hq => by simpa using (P.im q (.inr ⟨i, hi, .inl hq⟩)).1)) (fun q hq => .inl (.inr ⟨i, hi, .inl hq⟩))
/-- Both arenas tell the same. -/
theorem Play.same (P : Play w b mb n v rr ee ct K CS Gm A A k i0 c E CE lv G W) :
    Calls Tryz.prog 16 #[.pointer (some ⟨b, 0, none⟩), .agg CS] W fun e w' => e = .returned (.int .i64 1) ∧ Frm.Turn [] W w' := by
  obtain ⟨M, h1, _⟩ := P.kin
  exact lawSame_any h1.at_ (.agg CS) Gm P.mref
/-- A claim's next answer, and the arena behind it. -/
theorem Play.goes (P : Play w b mb n v rr ee ct K CS Gm A B k 8 c E CE lv G W) (hi : i < n) (hk : k ≤ 50000) (hA : LimA ((c i).step A).1) : Goes ((i : Int) + 1) A ((c i).step A).1 (E i).log ((c i).acc A).2 := by
  have hn := P.few
  have ht := P.tie i hi (by omega)
  refine ⟨Nat.le_trans (P.len i hi) hk, by omega, P.lim (by omega), hA, ?_⟩
  rw [← ht.eq, step_next]
end Evn
end Go.Proofs.YtolcpfidmpoipaaGreat
