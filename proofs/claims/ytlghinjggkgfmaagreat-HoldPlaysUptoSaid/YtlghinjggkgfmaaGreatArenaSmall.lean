/- What layer 3 calls, and its small calls: fields.Block, fields.Handle, slices.Clone of words, fault, and what an arena tells of itself. -/
import Derived.Test.YtlghinjggkgfmaaGreatArenaMem
import Derived.Test.YtlghinjggkgfmaaGreatFieldsPlain
import Derived.WalkSpells
import Derived.Lib.SliceRun
import Derived.Deep.RegionHeld3
import Derived.Deep.DrawnRows
set_option linter.unusedVariables false
set_option linter.unusedSimpArgs false
namespace Go.Proofs.YtlghinjggkgfmaaGreat
namespace Arn
open Go.RowKit Hp Go.Maps

theorem block_any (a : Int) (w : World) (h : W64 a) :
    Calls Tryz.prog 152 #[.int .u64 a] w fun e w' => e = .returned (.int .u64 (a % 65536)) ∧ w = w' := by
  obtain ⟨h0, h1⟩ := h
  have hm := Fld.and_mask16 a ⟨h0, by omega⟩
  go_enter Tryz.func152, Tryz.ntmps152
  go_wp2
  go_ret
  exact ⟨rfl, rfl⟩
theorem handle_yes (a b : Int) (w : World) (h1 : 1 ≤ a) (h2 : a ≤ 268435455) (h3 : 1 ≤ b) (h4 : b ≤ 65535) :
    Calls Tryz.prog 99 #[.int .u64 a, .int .u64 b] w fun e w' => e = .returned (.tuple #[.int .u64 (a * 65536 + b), .bool true]) ∧ w = w' := by
  have hj := Fld.or_join16 a b (by omega) h2 (by omega) h4
  go_enter Tryz.func99, Tryz.ntmps99
  go_wp2
  go_ret2
  exact ⟨rfl, rfl⟩

/-- A slice of words, wherever it lies: nil, or cells one by one. -/
def WordsAt (w : World) (v : Value) (l : List Int) : Prop :=
  (v = .slice none 0 0 ∧ l = []) ∨ ∃ a c, v = .slice (some a) l.length c ∧ ∀ j u, (u64s l)[j]? = some u → w.cell? (a.add j) = some u
theorem WordsAt.turn {w w' : World} {v : Value} {l : List Int} {F : List Nat} (h : WordsAt w v l) (ht : Frm.Turn F w w') (hn : ∀ k, v.ownBlock = some k → k ∉ F) : WordsAt w' v l := by
  rcases h with h | ⟨a, c, rfl, h⟩
  · exact Or.inl h
  · refine Or.inr ⟨a, c, rfl, fun j u hu => ht.cell (h j u hu) ?_⟩
    have := hn a.block rfl
    have hb : (a.add j).block = a.block := by unfold Addr.add; split <;> rfl
    rw [hb]; exact this
theorem WordsAt.own {w : World} {g c : Nat} {l : List Int} (h : w.ownsRow 0 25 1 (.slice (some ⟨g, 0, none⟩) l.length c) l.length (u64s l)) : WordsAt w (.slice (some ⟨g, 0, none⟩) l.length c) l :=
  Or.inr ⟨⟨g, 0, none⟩, c, rfl, fun j u hu => World.ownsRow.cells h rfl j u hu⟩
theorem uclone_nil (w : World) : Calls Tryz.prog 61 #[.slice none 0 0] w fun e w' => e = .returned (.slice none 0 0) ∧ w = w' := by
  have hq := fun w => Lib.run_eql_slice_nil (P := Tryz.prog) w 24 _ none 0 0 0 0 under_u64s
  go_enter Tryz.func61, Tryz.ntmps61
  go_wp2
  go_ret
  exact ⟨rfl, rfl⟩
def CloneOf (w : World) (l : List Int) (e : Ending) (w' : World) : Prop :=
  ∃ g' c', e = .returned (.slice (some ⟨g', 0, none⟩) l.length c') ∧ w'.ownsRow 0 25 1 (.slice (some ⟨g', 0, none⟩) l.length c') l.length (u64s l) ∧ w.heap.size ≤ g' ∧ Frm.Turn [] w w'
set_option maxHeartbeats 1000000 in
theorem uclone_some (a : Addr) (c : Nat) (l : List Int) (w : World) (h : ∀ j u, (u64s l)[j]? = some u → w.cell? (a.add j) = some u) (hn : l.length ≤ 65536) :
    Calls Tryz.prog 61 #[.slice (some a) l.length c] w (CloneOf w l) := by
  have hq := fun w => Lib.run_eql_slice_nil (P := Tryz.prog) w 24 _ (some a) l.length c 0 0 under_u64s
  have HT : Hid (∀ o, ∀ j u, (u64s l)[j]? = some u → (w.alloc o).cell? (a.add j) = some u) := Lib.hid fun o j u hu => ((Frm.Turn.refl [] w).alloc o).cell (h j u hu) (by simp)
  obtain ⟨i0, hi, hz0, hz1, hz2⟩ := info_parts info_u64
  have HO : Hid ((w.alloc (.cells #[] 25)).ownsRow 0 25 1 (.slice (some ⟨w.heap.size, 0, none⟩) 0 0) 0 []) := Lib.hid (World.ownsRow_made w #[] 0 (Nat.zero_le _) (by simp [maxLen]) (by simp))
  clear h
  obtain ⟨n, HN⟩ : ∃ n, Hid (n = l.length) := ⟨_, Lib.hid rfl⟩
  rw [← HN.out] at hn hq ⊢
  go_enter Tryz.func61, Tryz.ntmps61
  go_wp2_with (at_builtin; refine wpList_append_own_at _ rfl (.tmp 5) (.tmp 6) 24 rfl 0 25 i0 (.int .u64 0) 1 8 under_u64s hi hz0 hz1 hz2 rfl (by decide) (.slice (some ⟨w.heap.size, 0, none⟩) 0 0) 0 [] rfl HO.out a n c (u64s l) rfl (by rw [length_u64s, HN.out]; omega) (HT.out _) (u64s_one l) (by unfold maxLen; omega) (by omega) (Nat.zero_le _) ?_; intro v1 w3 hown3 hg3 _ hl3; simp only [Nat.zero_add, List.nil_append] at hown3; have HO3 := Lib.hid hown3; have HG3 := Lib.hid hg3; have HL3 := Lib.hid hl3; clear hown3 hg3 hl3)
  go_ret
  have hs3 := HG3.out.size
  simp at hs3
  have hbl : ∀ k, v1.ownBlock = some k → w.heap.size ≤ k := fun k hk => by
    rcases HL3.out with h | h <;> rw [h] at hk <;> simp [Value.ownBlock] at hk <;> omega
  have hne : v1.ownBlock ≠ none := by
    rcases HL3.out with h | h <;> rw [h] <;> simp [Value.ownBlock]
  have ho := HO3.out
  rw [HN.out] at ho
  rcases ho.2 with ⟨rfl, _⟩ | ⟨g', c', cur, rfl, _⟩
  · simp [Value.ownBlock] at hne
  · refine ⟨g', c', rfl, ho, hbl g' rfl, ((Frm.Turn.refl [] w).alloc _).trans (Frm.Turn.of_grown HG3.out) (fun k hk => ?_)⟩
    simp [Value.ownBlock] at hk; subst hk; right; omega

/-! ### counters -/
theorem cells_eq {A A' : Ar} {M : Mem} (e0 : A'.cap = A.cap) (e1 : A'.births = A.births) (e2 : A'.fixed = A.fixed) (e3 : A'.L = A.L) : A'.cells M = .int .i64 (A.cap : Int) :: .int .u64 (A.births : Int) :: (u64s A.fixed ++
    [.map (some M.m), .pointer (some ⟨M.sb, 0, none⟩), .int .i64 (used A.L : Int), .int .i64 (A'.peak : Int), .int .i64 (A'.faults : Int),
      .int .i64 (A'.t.lays : Int), .int .i64 (A'.t.frees : Int), .int .i64 (A'.t.reads : Int), .int .i64 (A'.t.writes : Int), .int .i64 (A'.t.swaps : Int), .int .i64 (A'.t.adds : Int)]) := by
  simp [Ar.cells, e0, e1, e2, e3]
theorem ArAt.miss {w : World} {b : Nat} {M : Mem} {A : Ar} (h : ArAt w b M A) : ArAt (w.setCell ⟨b, 15, none⟩ (.int .i64 ((A.faults : Int) + 1))) b M A.miss := by
  refine h.poke ?_ rfl (h.ok.tally _ _)
  obtain ⟨f0, f1, f2, f3, f4, f5, f6, f7, f8, e⟩ := nine_of h.ok.nine
  simp [Ar.cells, Ar.miss, u64s, e]
theorem ArAt.lays {w : World} {b : Nat} {M : Mem} {A : Ar} (h : ArAt w b M A) : ArAt (w.setCell ⟨b, 16, none⟩ (.int .i64 ((A.t.lays : Int) + 1))) b M { A with t := { A.t with lays := A.t.lays + 1 } } := by
  refine h.poke ?_ rfl (h.ok.tally _ _)
  obtain ⟨f0, f1, f2, f3, f4, f5, f6, f7, f8, e⟩ := nine_of h.ok.nine
  simp [Ar.cells, u64s, e]
theorem ArAt.frees {w : World} {b : Nat} {M : Mem} {A : Ar} (h : ArAt w b M A) : ArAt (w.setCell ⟨b, 17, none⟩ (.int .i64 ((A.t.frees : Int) + 1))) b M { A with t := { A.t with frees := A.t.frees + 1 } } := by
  refine h.poke ?_ rfl (h.ok.tally _ _)
  obtain ⟨f0, f1, f2, f3, f4, f5, f6, f7, f8, e⟩ := nine_of h.ok.nine
  simp [Ar.cells, u64s, e]
theorem ArAt.reads {w : World} {b : Nat} {M : Mem} {A : Ar} (h : ArAt w b M A) : ArAt (w.setCell ⟨b, 18, none⟩ (.int .i64 ((A.t.reads : Int) + 1))) b M { A with t := { A.t with reads := A.t.reads + 1 } } := by
  refine h.poke ?_ rfl (h.ok.tally _ _)
  obtain ⟨f0, f1, f2, f3, f4, f5, f6, f7, f8, e⟩ := nine_of h.ok.nine
  simp [Ar.cells, u64s, e]
theorem ArAt.writes {w : World} {b : Nat} {M : Mem} {A : Ar} (h : ArAt w b M A) : ArAt (w.setCell ⟨b, 19, none⟩ (.int .i64 ((A.t.writes : Int) + 1))) b M { A with t := { A.t with writes := A.t.writes + 1 } } := by
  refine h.poke ?_ rfl (h.ok.tally _ _)
  obtain ⟨f0, f1, f2, f3, f4, f5, f6, f7, f8, e⟩ := nine_of h.ok.nine
  simp [Ar.cells, u64s, e]
theorem ArAt.swaps {w : World} {b : Nat} {M : Mem} {A : Ar} (h : ArAt w b M A) : ArAt (w.setCell ⟨b, 20, none⟩ (.int .i64 ((A.t.swaps : Int) + 1))) b M { A with t := { A.t with swaps := A.t.swaps + 1 } } := by
  refine h.poke ?_ rfl (h.ok.tally _ _)
  obtain ⟨f0, f1, f2, f3, f4, f5, f6, f7, f8, e⟩ := nine_of h.ok.nine
  simp [Ar.cells, u64s, e]
theorem ArAt.adds {w : World} {b : Nat} {M : Mem} {A : Ar} (h : ArAt w b M A) : ArAt (w.setCell ⟨b, 21, none⟩ (.int .i64 ((A.t.adds : Int) + 1))) b M { A with t := { A.t with adds := A.t.adds + 1 } } := by
  refine h.poke ?_ rfl (h.ok.tally _ _)
  obtain ⟨f0, f1, f2, f3, f4, f5, f6, f7, f8, e⟩ := nine_of h.ok.nine
  simp [Ar.cells, u64s, e]

def lim : Nat := 1000000000000
theorem fault_any {w : World} {b : Nat} {M : Mem} {A : Ar} (h : ArAt w b M A) (hl : A.Low lim) (err : Int) :
    Calls Tryz.prog 118 #[.pointer (some ⟨b, 0, none⟩), .int .i64 err] w fun e w' => e = .returned (.int .i64 err) ∧ ArAt w' b M A.miss ∧ Frm.Turn [b] w w' := by
  have hc := h.cells.c15
  have hf := h.thaw 15
  have hb : (A.faults : Int) ≤ 1000000000000 := by have := hl.faults; unfold lim at this; omega
  have hb0 : (0 : Int) ≤ (A.faults : Int) := by omega
  have H := Lib.hid h
  clear h
  go_enter Tryz.func118, Tryz.ntmps118
  go_wp2
  go_ret
  exact ⟨rfl, H.out.miss, (Frm.Turn.refl _ _).setCell (Or.inl (by simp)) _⟩

/-! ### what an arena tells of itself -/
theorem size_nil (k : Int) (w : World) : Calls Tryz.prog 35 #[.pointer none, .int .u64 k] w fun e w' => e = .returned (.int .i64 0) ∧ w = w' := by
  go_enter Tryz.func35, Tryz.ntmps35
  go_wp2
  go_ret
  exact ⟨rfl, rfl⟩
theorem cap_nil (w : World) : Calls Tryz.prog 90 #[.pointer none] w fun e w' => e = .returned (.int .i64 0) ∧ w = w' := by
  go_enter Tryz.func90, Tryz.ntmps90
  go_wp2
  go_ret
  exact ⟨rfl, rfl⟩
theorem used_nil (w : World) : Calls Tryz.prog 91 #[.pointer none] w fun e w' => e = .returned (.int .i64 0) ∧ w = w' := by
  go_enter Tryz.func91, Tryz.ntmps91
  go_wp2
  go_ret
  exact ⟨rfl, rfl⟩
theorem peak_nil (w : World) : Calls Tryz.prog 93 #[.pointer none] w fun e w' => e = .returned (.int .i64 0) ∧ w = w' := by
  go_enter Tryz.func93, Tryz.ntmps93
  go_wp2
  go_ret
  exact ⟨rfl, rfl⟩
theorem len_nil (w : World) : Calls Tryz.prog 59 #[.pointer none] w fun e w' => e = .returned (.int .i64 0) ∧ w = w' := by
  go_enter Tryz.func59, Tryz.ntmps59
  go_wp2
  go_ret
  exact ⟨rfl, rfl⟩
theorem faults_nil (w : World) : Calls Tryz.prog 36 #[.pointer none] w fun e w' => e = .returned (.int .i64 0) ∧ w = w' := by
  go_enter Tryz.func36, Tryz.ntmps36
  go_wp2
  go_ret
  exact ⟨rfl, rfl⟩
theorem words_nil (w : World) : Calls Tryz.prog 87 #[.pointer none] w fun e w' => e = .returned (.slice none 0 0) ∧ w = w' := by
  go_enter Tryz.func87, Tryz.ntmps87
  go_wp2
  go_ret
  exact ⟨rfl, rfl⟩
theorem cap_any {w : World} {b : Nat} {M : Mem} {A : Ar} (h : ArAt w b M A) : Calls Tryz.prog 90 #[.pointer (some ⟨b, 0, none⟩)] w fun e w' => e = .returned (.int .i64 (A.cap : Int)) ∧ w = w' := by
  have hc := h.cells.c0
  clear h
  go_enter Tryz.func90, Tryz.ntmps90
  go_wp2
  go_ret
  exact ⟨rfl, rfl⟩
theorem used_any {w : World} {b : Nat} {M : Mem} {A : Ar} (h : ArAt w b M A) : Calls Tryz.prog 91 #[.pointer (some ⟨b, 0, none⟩)] w fun e w' => e = .returned (.int .i64 (used A.L : Int)) ∧ w = w' := by
  have hc := h.cells.c13
  clear h
  go_enter Tryz.func91, Tryz.ntmps91
  go_wp2
  go_ret
  exact ⟨rfl, rfl⟩
theorem peak_any {w : World} {b : Nat} {M : Mem} {A : Ar} (h : ArAt w b M A) : Calls Tryz.prog 93 #[.pointer (some ⟨b, 0, none⟩)] w fun e w' => e = .returned (.int .i64 (A.peak : Int)) ∧ w = w' := by
  have hc := h.cells.c14
  clear h
  go_enter Tryz.func93, Tryz.ntmps93
  go_wp2
  go_ret
  exact ⟨rfl, rfl⟩
theorem faults_any {w : World} {b : Nat} {M : Mem} {A : Ar} (h : ArAt w b M A) : Calls Tryz.prog 36 #[.pointer (some ⟨b, 0, none⟩)] w fun e w' => e = .returned (.int .i64 (A.faults : Int)) ∧ w = w' := by
  have hc := h.cells.c15
  clear h
  go_enter Tryz.func36, Tryz.ntmps36
  go_wp2
  go_ret
  exact ⟨rfl, rfl⟩
theorem len_any {w : World} {b : Nat} {M : Mem} {A : Ar} (h : ArAt w b M A) : Calls Tryz.prog 59 #[.pointer (some ⟨b, 0, none⟩)] w fun e w' => e = .returned (.int .i64 (A.L.length : Int)) ∧ w = w' := by
  have hc := h.cells.c11
  obtain ⟨D, hD⟩ := h.map
  have hown := hD.own
  have H := Lib.hid hD.size
  clear h hD
  go_enter Tryz.func59, Tryz.ntmps59
  go_wp2_with (at_len; refine wpList_len_own _ rfl _ 157 rfl 25 24 mapU _ M.m _ D rfl hown ?_)
  go_ret
  exact ⟨by rw [H.out]; rfl, rfl⟩
def tal (t : Tal) : Value := .agg #[.int .i64 (t.lays : Int), .int .i64 (t.frees : Int), .int .i64 (t.reads : Int), .int .i64 (t.writes : Int), .int .i64 (t.swaps : Int), .int .i64 (t.adds : Int)]
end Arn
end Go.Proofs.YtlghinjggkgfmaaGreat
