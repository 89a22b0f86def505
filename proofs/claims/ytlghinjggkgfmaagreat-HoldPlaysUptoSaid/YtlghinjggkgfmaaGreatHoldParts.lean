/- Law 14's parts: environments and the document's arena; what the document's grips, fetches, clears tell beside the machines. -/
import Derived.Test.YtlghinjggkgfmaaGreatHoldRefF
import Derived.Test.YtlghinjggkgfmaaGreatArenaLawSame
import Derived.Test.YtlghinjggkgfmaaGreatHoldLaw
set_option linter.unusedVariables false
set_option linter.unusedSimpArgs false
namespace Go.Proofs.YtlghinjggkgfmaaGreat
namespace Hld
open Go.RowKit Go.Maps Arn Pac Clm Cnt Evn Sta

def enP (eb : Nat) (E : En) (CS : Array Value) (lv : Value) (G : List Nat) : Part := ⟨[eb], G ++ lv.ownBlock.toList, fun W => EnAt W eb E CS lv G⟩
def mP (mb : Nat) (A : Ar) (CS : Array Value) (G : List Nat) : Part := ⟨[mb], G, fun W => W.heap[mb]? = some (.cells CS 67 (0, 0)) ∧ RefS W A (.agg CS) G⟩
theorem enP_fra (eb : Nat) (E : En) (CS : Array Value) (lv : Value) (G : List Nat) : (enP eb E CS lv G).Fra := fun W W' F h ht h1 h2 => EnAt.turn h ht (h1 eb (by simp [enP])) (fun q hq => h2 q (by simp [enP, hq])) (fun q hq => h2 q (by simp [enP, hq]))
theorem mP_fra (mb : Nat) (A : Ar) (CS : Array Value) (G : List Nat) : (mP mb A CS G).Fra := fun W W' F h ht h1 h2 => ⟨ht.keep h.1 (h1 mb (by simp [mP])), h.2.turn ht (fun q hq => h2 q (by simpa [mP] using hq))⟩
variable {w W W' : World} {b k n r q eb mb : Nat} {A B : Ar} {ps : List Part} {v lv : Value} {E : En} {CS : Array Value} {G : List Nat} {L : List Res} {seg root h nn : Int} {s : Nat}
/-- An environment turns by a call that keeps to it. -/
theorem sta_env {E' : En} (S : Stash w b A k (enP eb E CS lv G :: ps) W) (h : EnvB W lv G eb [] E' W') : ∃ CS' lv' G', Stash w b A k (enP eb E' CS' lv' G' :: ps) W' := by
  obtain ⟨⟨CS', lv', G', e1, _, e3, e4⟩, e5, _, _⟩ := h
  refine ⟨CS', lv', G', S.act e5 (by simp [enP]) (enP_fra _ _ _ _ _) e1 (fun x hx => .inl hx) (fun x hx => ?_) (fun x hx hx' => ?_)⟩
  · rcases List.mem_append.1 hx with g | g
    · rcases e3 x g with h | h
      · exact .inl ⟨_, List.mem_cons_self .., by simp [enP, h]⟩
      · exact .inr ⟨h, e1.gl x g⟩
    · have g' : lv'.ownBlock = some x := by simpa using g
      rcases e4 x g' with h | h
      · exact .inl ⟨_, List.mem_cons_self .., by simp [enP, h]⟩
      · exact .inr ⟨h, lv_lt e1 g'⟩
  · simp only [enP, List.mem_singleton] at hx
    subst hx
    rcases List.mem_append.1 hx' with g | g
    · exact e1.ge g
    · exact e1.le (by simpa using g)
/-- An environment begins anew upon the document's arena. -/
theorem sta_begin {CM : Array Value} {GM : List Nat} (S : Stash w b A k (enP eb E CS lv G :: ps) W) (hm : mP mb B CM GM ∈ ps) :
    Calls Tryz.prog 31 #[.pointer (some ⟨eb, 0, none⟩), .agg CM] W fun e w' => e = .returned (.tuple #[]) ∧ Stash w b A k (enP eb (E.begin B) CM lv GM :: ps) w' := by
  have hE : EnAt W eb E CS lv G := S.on _ (List.mem_cons_self ..)
  have hM := S.on _ (List.mem_cons_of_mem _ hm)
  have o1 := (List.pairwise_cons.1 S.off).1 _ hm
  have hg : eb ∉ GM := (o1.1 eb (by simp [enP])).2
  refine (begin_any hE B hM.2 hg (fun x hx => S.lt (List.mem_cons_of_mem _ hm) (in_imm hx))).mono ?_
  rintro e w' ⟨he, h1, hT⟩
  refine ⟨he, S.act hT (by simp [enP]) (enP_fra _ _ _ _ _) h1 (fun x hx => .inl hx) (fun x hx => ?_) (fun x hx hx' => ?_)⟩
  · rcases List.mem_append.1 hx with g | g
    · exact .inl ⟨_, List.mem_cons_of_mem _ hm, g⟩
    · exact .inl ⟨_, List.mem_cons_self .., List.mem_append_right _ g⟩
  · simp only [enP, List.mem_singleton] at hx
    subst hx
    rcases List.mem_append.1 hx' with g | g
    · exact hg g
    · exact hE.le (by simpa using g)
/-- The document's arena is put anew, from the environment's. -/
theorem sta_put {CM : Array Value} {GM : List Nat} {E' : En} {CE : Array Value} {le : Value} {GE : List Nat} (S : Stash w b A k (mP mb B CM GM :: ps) W) (hm : enP eb E' CE le GE ∈ ps) (hz : CE.size = CM.size) : Stash w b A k (mP mb E'.A CE GE :: ps) (W.setRow mb CE) := by
  have hE : EnAt W eb E' CE le GE := S.on _ (List.mem_cons_of_mem _ hm)
  have hM := S.on _ (List.mem_cons_self ..)
  have o1 := (List.pairwise_cons.1 S.off).1 _ hm
  have hg : mb ∉ GE := fun h => (o1.1 mb (by simp [mP])).2 (List.mem_append_left _ h)
  have hT : Frm.Turn [mb] W (W.setRow mb CE) := setRow_turn (Frm.Turn.refl _ W) (.inl (by simp)) CE
  refine S.act hT (by simp [mP]) (mP_fra _ _ _ _) ⟨Cnt.row_set CE hM.1, hE.m.turn hT (fun x hx => by simp only [List.mem_singleton]; rintro rfl; exact hg hx)⟩ (fun x hx => .inl hx) (fun x hx => .inl ⟨_, List.mem_cons_of_mem _ hm, List.mem_append_left _ hx⟩) (fun x hx hx' => ?_)
  simp only [mP, List.mem_singleton] at hx
  subst hx
  exact hg hx'
def zE24 : Array Value := #[.int .i64 0, .int .i64 0, .int .i64 0, .int .i64 0, .int .u64 0, .int .u64 0, .int .u64 0, .int .u64 0, .int .u64 0, .int .u64 0, .int .u64 0, .int .u64 0, .int .u64 0, .slice none 0 0, .int .i64 0, .int .i64 0, .int .i64 0, .int .i64 0, .int .i64 0, .int .i64 0, .slice none 0 0, .int .i64 0, .bool false, .bool false]
def zA20 : Array Value := #[.int .i64 0, .int .i64 0, .int .i64 0, .int .i64 0, .int .u64 0, .int .u64 0, .int .u64 0, .int .u64 0, .int .u64 0, .int .u64 0, .int .u64 0, .int .u64 0, .int .u64 0, .slice none 0 0, .int .i64 0, .int .i64 0, .int .i64 0, .int .i64 0, .int .i64 0, .int .i64 0]
def E00 : En := ⟨Ar.new 0, [], 0, false, false⟩
/-- An environment as it begins. -/
theorem env_fresh {N : Array Value} (hN : N = zE24) {e : Nat} (h : W.heap[e]? = some (.cells N 77 (0, 0))) : EnAt W e E00 zA20 (.slice none 0 0) [] := by
  subst hN
  exact ⟨h, rfl, by simp [zA20, Value.oneCell'], refS_new W 0, World.ownsRow_nil _ _ _ _, by simp [Value.ownBlock], by simp, by simp⟩

theorem sta_lim (S : Stash w b A k ps W) (hk : k ≤ 1000000) : LimW A := by
  have h := S.kin.choose_spec.1.low
  have hb := S.kin.born
  exact ⟨⟨S.kin.ok, by have := h.faults; omega, by omega, by have := h.reads; omega, by have := h.swaps; omega, by have := h.lays; omega, by have := h.frees; omega⟩, by have := h.writes; omega⟩
theorem sta_same (S : Stash w b A k ps W) (hm : mP mb A CS G ∈ ps) :
    Calls Tryz.prog 34 #[.pointer (some ⟨b, 0, none⟩), .agg CS] W fun e w' => e = .returned (.int .i64 1) ∧ Frm.Turn [] W w' := by
  obtain ⟨M, h1, _⟩ := S.kin
  exact lawSame_any h1.at_ (.agg CS) G (S.on _ hm).2
/-- Where the environment stands behind a run. -/
theorem plc_out {A A' : Ar} {r : Res} {j : Nat} (hj : L.length + 1 ≤ j) : (plcE A A' L r j).A = A' ∧ (plcE A A' L r j).log = L ++ [r] := by
  unfold plcE posE endE
  split
  · rw [if_neg (by omega)]
    exact ⟨rfl, rfl⟩
  · exact ⟨rfl, rfl⟩
theorem plc_old {A A' : Ar} {r : Res} {j : Nat} (hj : j ≤ L.length) : (plcE A A' L r j).A = A ∧ (plcE A A' L r j).log = L := by
  unfold plcE posE
  rw [if_pos (by omega), if_pos hj]
  exact ⟨rfl, rfl⟩
/-! ### grips -/
def gA (seg : Int) (s : Nat) (A : Ar) (L : List Res) : Ar := if L.length < 3 then (gAsk seg s L A).1 else A
theorem gstep_t (S : Stash w b A k (gpP r b (gOf seg s L) :: ps) W) (hk : k ≤ 10000000) (F : (gOf seg s L).Fit) (hL : L.length ≤ 3) :
    Calls Tryz.prog 45 #[.pointer (some ⟨r, 0, none⟩)] W fun e w' => e = .returned (.tuple #[]) ∧ Stash w b (gA seg s A L) (k + 1) (gpP r b (gOf seg s (gLog seg s A L)) :: ps) w' := by
  refine (gstep_h S hk F).mono ?_
  rintro e w' ⟨he, hS⟩
  rw [g_step hL] at hS
  exact ⟨he, hS⟩
theorem lw_head {L' : List Res} {r : Res} {i : Nat} (hL' : L' = L ++ [r] ∨ (L' = L ∧ i < L.length)) : (ansE L r i).w = lw L' i := by
  rcases hL' with e | ⟨e, hi⟩
  · rw [e]; rfl
  · rw [e]; exact ans_old hi
theorem gOf1 (h : L.length = 1) : gOf seg s L = ⟨2, seg, s, lw L 0, 0⟩ := by unfold gOf; rw [if_neg (by omega), if_pos h]
theorem gOf2 (h : L.length = 2) : gOf seg s L = ⟨3, seg, s, lw L 0, 0⟩ := by unfold gOf; rw [if_neg (by omega), if_neg (by omega), if_pos h]
theorem gOf3 (h : L.length = 3) : gOf seg s L = ⟨0, seg, s, lw L 0, if lw L 2 = lw L 0 then 1 else 2⟩ := by unfold gOf; rw [if_neg (by omega), if_neg (by omega), if_neg (by omega)]
theorem g_out (hL : L.length ≤ 3) : (plcE A (gA seg s A L) L (gAsk seg s L A).2 3).A = gA seg s A L ∧ (plcE A (gA seg s A L) L (gAsk seg s L A).2 3).log = gLog seg s A L ∧ (plcE A (gA seg s A L) L (gAsk seg s L A).2 3).stop = !decide ((gOf seg s (gLog seg s A L)).st = 0) ∧
    (ansE L (gAsk seg s L A).2 0).w = (gOf seg s (gLog seg s A L)).root ∧ gOut L (gAsk seg s L A).2 = (gOf seg s (gLog seg s A L)).out := by
  rw [plc_stop]
  by_cases h3 : L.length < 3
  · have e : gLog seg s A L = L ++ [(gAsk seg s L A).2] := by unfold gLog; rw [if_pos h3]
    have hl : (gLog seg s A L).length = L.length + 1 := by rw [e, ln_app]
    obtain ⟨p1, p2⟩ := plc_out (A := A) (A' := gA seg s A L) (r := (gAsk seg s L A).2) (L := L) (j := 3) (by omega)
    refine ⟨p1, by rw [p2, e], ?_⟩
    rw [lw_head (.inl e)]
    unfold gOut
    rw [lw_head (i := 2) (.inl e), lw_head (i := 0) (.inl e)]
    have : L.length = 0 ∨ L.length = 1 ∨ L.length = 2 := by omega
    rcases this with e0 | e0 | e0
    · rw [gOf1 (by omega), if_pos (by omega), decide_eq_true (by omega)]
      exact ⟨rfl, rfl, rfl⟩
    · rw [gOf2 (by omega), if_pos (by omega), decide_eq_true (by omega)]
      exact ⟨rfl, rfl, rfl⟩
    · rw [gOf3 (by omega), if_neg (c := L.length ≤ 1) (by omega), decide_eq_false (by omega)]
      exact ⟨rfl, rfl, rfl⟩
  · have hl : L.length = 3 := by omega
    have e : gLog seg s A L = L := by unfold gLog; rw [if_neg h3]
    have ea : gA seg s A L = A := by unfold gA; rw [if_neg h3]
    obtain ⟨p1, p2⟩ := plc_old (A := A) (A' := gA seg s A L) (r := (gAsk seg s L A).2) (L := L) (j := 3) (by omega)
    refine ⟨by rw [p1, ea], by rw [p2, e], ?_⟩
    unfold gOut
    rw [lw_head (i := 2) (.inr ⟨rfl, by omega⟩), lw_head (i := 0) (.inr ⟨rfl, by omega⟩), e, gOf3 hl, if_neg (c := L.length ≤ 1) (by omega), decide_eq_false (by omega)]
    exact ⟨rfl, rfl, rfl⟩
theorem gref_t {CE : Array Value} (S : Stash w b (gA seg s A L) k (enP eb (plcE A (gA seg s A L) L (gAsk seg s L A).2 0) CE lv G :: ps) W) (lA : LimW A) (lA' : LimW (gA seg s A L)) (hL : L.length ≤ 3) (hs : s < 255) (h0 : W64 (gOf seg s (gLog seg s A L)).root) :
    Calls Tryz.prog 46 #[.pointer (some ⟨eb, 0, none⟩), .agg #[.int .u64 seg, .int .i64 s]] W fun e w' => e = .returned (.tuple #[.int .u64 (gOf seg s (gLog seg s A L)).root, .int .i64 (gOf seg s (gLog seg s A L)).out]) ∧
      ∃ E' CS' lv' G', E'.A = gA seg s A L ∧ E'.log = gLog seg s A L ∧ E'.stop = !decide ((gOf seg s (gLog seg s A L)).st = 0) ∧ Stash w b (gA seg s A L) k (enP eb E' CS' lv' G' :: ps) w' := by
  obtain ⟨o1, o2, o3, o4, o5⟩ := g_out (A := A) (seg := seg) (s := s) hL
  have hE : EnAt W eb (plcE A (gA seg s A L) L (gAsk seg s L A).2 0) CE lv G := S.on _ (List.mem_cons_self ..)
  refine (rgrip_any hE lA lA' hL hs (fun h3 => by unfold gA; rw [if_pos h3]) (by rw [o4]; exact h0)).mono ?_
  rintro e w' ⟨he, hB⟩
  obtain ⟨CS', lv', G', S2⟩ := sta_env S hB
  exact ⟨by rw [he, o4, o5], _, CS', lv', G', o1, o2, o3, S2⟩
/-! ### clears -/
def cA (seg : Int) (s : Nat) (A : Ar) (L : List Res) : Ar := if L.length < 2 then (cAsk seg s L A).1 else A
theorem cstep_t (S : Stash w b A k (crP r b (cOf seg s L) :: ps) W) (hk : k ≤ 10000000) (F : (cOf seg s L).Fit) (hL : L.length ≤ 2) :
    Calls Tryz.prog 56 #[.pointer (some ⟨r, 0, none⟩)] W fun e w' => e = .returned (.tuple #[]) ∧ Stash w b (cA seg s A L) (k + 1) (crP r b (cOf seg s (cLog seg s A L)) :: ps) w' := by
  refine (cstep_h S hk F).mono ?_
  rintro e w' ⟨he, hS⟩
  rw [c_step hL] at hS
  exact ⟨he, hS⟩
theorem c_out (hL : L.length ≤ 2) : (plcE A (cA seg s A L) L (cAsk seg s L A).2 2).A = cA seg s A L ∧ (plcE A (cA seg s A L) L (cAsk seg s L A).2 2).log = cLog seg s A L ∧ (plcE A (cA seg s A L) L (cAsk seg s L A).2 2).stop = !decide ((cOf seg s (cLog seg s A L)).st = 0) := by
  by_cases h3 : L.length < 2
  · have e : cLog seg s A L = L ++ [(cAsk seg s L A).2] := by unfold cLog; rw [if_pos h3]
    have hl : (cLog seg s A L).length = L.length + 1 := by rw [e, ln_app]
    obtain ⟨p1, p2⟩ := plc_out (A := A) (A' := cA seg s A L) (r := (cAsk seg s L A).2) (L := L) (j := 2) (by omega)
    refine ⟨p1, by rw [p2, e], ?_⟩
    rw [plc_stop]
    unfold cOf
    rw [hl]
    by_cases e1 : L.length = 1
    · rw [decide_eq_false (by omega)]; dsimp only; rw [if_neg (by omega), if_neg (by omega)]; rfl
    · rw [decide_eq_true (by omega)]; dsimp only; rw [if_neg (by omega), if_pos (by omega)]; rfl
  · have hl : L.length = 2 := by omega
    have e : cLog seg s A L = L := by unfold cLog; rw [if_neg h3]
    have ea : cA seg s A L = A := by unfold cA; rw [if_neg h3]
    obtain ⟨p1, p2⟩ := plc_old (A := A) (A' := cA seg s A L) (r := (cAsk seg s L A).2) (L := L) (j := 2) (by omega)
    refine ⟨by rw [p1, ea], by rw [p2, e], ?_⟩
    rw [plc_stop, e]
    unfold cOf
    rw [decide_eq_false (by omega)]; dsimp only; rw [if_neg (by omega), if_neg (by omega)]; rfl
theorem cref_t {CE : Array Value} (S : Stash w b (cA seg s A L) k (enP eb (plcE A (cA seg s A L) L (cAsk seg s L A).2 0) CE lv G :: ps) W) (lA : LimW A) (lA' : LimW (cA seg s A L)) (hL : L.length ≤ 2) (hs : s < 255) :
    Calls Tryz.prog 57 #[.pointer (some ⟨eb, 0, none⟩), .agg #[.int .u64 seg, .int .i64 s]] W fun e w' => e = .returned (.tuple #[]) ∧
      ∃ E' CS' lv' G', E'.A = cA seg s A L ∧ E'.log = cLog seg s A L ∧ E'.stop = !decide ((cOf seg s (cLog seg s A L)).st = 0) ∧ Stash w b (cA seg s A L) k (enP eb E' CS' lv' G' :: ps) w' := by
  obtain ⟨o1, o2, o3⟩ := c_out (A := A) (seg := seg) (s := s) hL
  have hE : EnAt W eb (plcE A (cA seg s A L) L (cAsk seg s L A).2 0) CE lv G := S.on _ (List.mem_cons_self ..)
  refine (rclear_any hE lA lA' hL hs (fun h3 => by unfold cA; rw [if_pos h3])).mono ?_
  rintro e w' ⟨he, hB⟩
  obtain ⟨CS', lv', G', S2⟩ := sta_env S hB
  exact ⟨he, _, CS', lv', G', o1, o2, o3, S2⟩
/-! ### fetches -/
def fA (seg : Int) (s : Nat) (root h nn : Int) (A : Ar) (L : List Res) : Ar := if fEnd root nn L then A else (fAsk seg s root h nn L A).1
theorem fstep_t (S : Stash w b A k (feP r b v (fOf seg s root h nn L) :: rwP w.heap.size v (fOf seg s root h nn L).ws :: ps) W) (hk : k ≤ 10000000) (F : (fOf seg s root h nn L).Fit) (hl : (fOf seg s root h nn L).ws.length ≤ 60000) (hw : lw L 1 ≠ root → L.length ≤ 2) :
    Calls Tryz.prog 50 #[.pointer (some ⟨r, 0, none⟩)] W fun e w' => e = .returned (.tuple #[]) ∧ ∃ v', Stash w b (fA seg s root h nn A L) (k + 1) (feP r b v' (fOf seg s root h nn (fLog seg s root h nn A L)) :: rwP w.heap.size v' (fOf seg s root h nn (fLog seg s root h nn A L)).ws :: ps) w' := by
  refine (fstep_h S hk F hl).mono ?_
  rintro e w' ⟨he, v', hS⟩
  rw [f_step hw] at hS
  exact ⟨he, v', hS⟩
theorem fref_t {CE : Array Value} (S : Stash w b (fA seg s root h nn A L) k (enP eb (plcE A (fA seg s root h nn A L) L (fAsk seg s root h nn L A).2 0) CE lv G :: ps) W) (lA : LimW A) (lA' : LimW (fA seg s root h nn A L)) (hL : L.length ≤ 1000) (hs : s < 255) (hw : lw L 1 ≠ root → L.length ≤ 2) (hn : (L.length : Int) - 2 ≤ max nn 0) :
    Calls Tryz.prog 51 #[.pointer (some ⟨eb, 0, none⟩), .agg #[.int .u64 seg, .int .i64 s], .int .u64 root, .int .u64 h, .int .i64 nn] W fun e w' => ∃ v', e = .returned (.tuple #[v', .int .i64 (fOf seg s root h nn (fLog seg s root h nn A L)).out]) ∧
      WordsAt w' v' (fOf seg s root h nn (fLog seg s root h nn A L)).ws ∧ ∃ E' CS' lv' G', E'.A = fA seg s root h nn A L ∧ E'.log = fLog seg s root h nn A L ∧ E'.stop = !decide ((fOf seg s root h nn (fLog seg s root h nn A L)).st = 0) ∧ Stash w b (fA seg s root h nn A L) k (enP eb E' CS' lv' G' :: ps) w' := by
  have hE : EnAt W eb (plcE A (fA seg s root h nn A L) L (fAsk seg s root h nn L A).2 0) CE lv G := S.on _ (List.mem_cons_self ..)
  refine (rfetch_any (seg := seg) (s := s) (root := root) (h := h) (n := nn) (L' := fLog seg s root h nn A L) hE lA lA' hL hs (by unfold fLog; rfl) (fun h3 => by unfold fA; rw [if_neg h3]) hw hn).mono ?_
  rintro e w' ⟨v', j, he, hr, hB, hst, h1, h2⟩
  obtain ⟨CS', lv', G', S2⟩ := sta_env S hB
  refine ⟨v', he, words_row hr, _, CS', lv', G', ?_, ?_, ?_, S2⟩
  · by_cases hh : fEnd root nn L
    · rw [(plc_old (h1 hh)).1]; unfold fA; rw [if_pos hh]
    · rw [(plc_out (h2 hh)).1]
  · by_cases hh : fEnd root nn L
    · rw [(plc_old (h1 hh)).2]; unfold fLog; rw [if_pos hh]
    · rw [(plc_out (h2 hh)).2]; unfold fLog; rw [if_neg hh]
  · rw [plc_stop]
    by_cases hz : (fOf seg s root h nn (fLog seg s root h nn A L)).st = 0
    · rw [decide_eq_true hz, decide_eq_false (fun g => hst.1 g hz)]; rfl
    · rw [decide_eq_false hz, decide_eq_true (hst.2 hz)]; rfl
end Hld
end Go.Proofs.YtlghinjggkgfmaaGreat
