/- An arena in memory: its own block, its map, the rows of its blocks, its stock; what stays when something turns. -/
/- What layer 3 calls, and its small calls: fields.Block, fields.Handle, slices.Clone of words, fault, and what an arena tells of itself. -/
import Derived.Test.YtpajafecodkndaaGreatArenaPlain
import Derived.Test.YtpajafecodkndaaGreatLeastAppend
import Derived.Test.YtpajafecodkndaaGreatLeastClone
import Derived.Test.YtpajafecodkndaaGreatFieldsPlain
import Derived.WalkSpells
import Derived.Lib.SliceRun
import Derived.Deep.RegionHeld3
import Derived.Deep.DrawnRows
set_option linter.unusedVariables false
set_option linter.unusedSimpArgs false
namespace Go.Proofs.YtpajafecodkndaaGreat
namespace Arn
open Go.RowKit Hp Go.Maps

def u64s (l : List Int) : List Value := l.map (Value.int .u64)
theorem length_u64s (l : List Int) : (u64s l).length = l.length := by simp [u64s]
theorem u64s_one (l : List Int) : ∀ u ∈ u64s l, u.oneCell' = true := by
  intro u hu
  simp [u64s] at hu
  obtain ⟨a, _, rfl⟩ := hu
  rfl
/-- How a slice stands in the map: by its block, its length, its capacity. -/
def hdat (g n c : Nat) : DataW Unit := .slice [.lit (.int .i64 g), .lit (.int .i64 n), .lit (.int .i64 c)] []
def hdr (v : Value) : Option (DataW Unit × List MemPlace) :=
  match v with
  | .slice none 0 0 => some (.nil, [])
  | .slice (some ⟨g, 0, none⟩) n c => some (hdat g n c, [])
  | _ => none
theorem hdr_nil : hdr (.slice none 0 0) = some (.nil, []) := rfl
theorem hdr_mk (g n c : Nat) : hdr (.slice (some ⟨g, 0, none⟩) n c) = some (hdat g n c, []) := rfl
theorem hdr_inv {v : Value} {z : DataW Unit × List MemPlace} (h : hdr v = some z) : (v = .slice none 0 0 ∧ z = (.nil, [])) ∨ ∃ g n c, v = .slice (some ⟨g, 0, none⟩) n c ∧ z = (hdat g n c, []) := by
  unfold hdr at h
  split at h
  · cases h; exact Or.inl ⟨rfl, rfl⟩
  · cases h; exact Or.inr ⟨_, _, _, rfl, rfl⟩
  · cases h
theorem hdat_inj {g n c g' n' c' : Nat} (h : hdat g n c = hdat g' n' c') : g = g' ∧ n = n' ∧ c = c' := by
  simp [hdat] at h
  omega
theorem hdr_of {v : Value} {g n c : Nat} {ps : List MemPlace} (h : hdr v = some (hdat g n c, ps)) : v = .slice (some ⟨g, 0, none⟩) n c := by
  rcases hdr_inv h with ⟨_, e⟩ | ⟨g', n', c', rfl, e⟩
  · simp [hdat] at e
  · obtain ⟨rfl, rfl, rfl⟩ := hdat_inj (congrArg Prod.fst e)
    rfl

theorem keyU : Keyed Tryz.prog 31 := int_keyed (q := .u64) (by kernel_rfl)
theorem mapU : Tryz.prog.underlying 125 = some (.map 31 25) := by kernel_rfl
theorem under_u64s : Tryz.prog.underlying 25 = some (.slice 31) := by kernel_rfl
theorem under_u64 : Tryz.prog.underlying 31 = some (.int .u64) := by kernel_rfl
theorem info_u64 : (Tryz.prog.info? 31).map (fun i => (i.zero, i.size, i.bytes)) = some (some (.int .u64 0), 1, 8) := by kernel_rfl
theorem zeroS (w : World) : (zeroValue 25).run Tryz.prog w = .ok (.slice none 0 0) w := by kernel_rfl
theorem wf_u64 {k : Int} (h : W64 k) : (Lit.int .u64 k).wf = true := by
  simp [Lit.wf, IntKind.min, IntKind.max, IntKind.bits, IntKind.signed]
  exact ⟨h.1, by have := h.2; omega⟩
theorem of_wf_u64 {k : Int} (h : (Lit.int .u64 k).wf = true) : W64 k := by
  simp [Lit.wf, IntKind.min, IntKind.max, IntKind.bits, IntKind.signed] at h
  exact ⟨h.1, by omega⟩
theorem key_u64 (k : Int) (h : W64 k) : keyOf Tryz.prog 31 (.int .u64 k) = some (.int .u64 k) := keyOf_int_mk under_u64 (wf_u64 h)

/-- Where a block's words lie: the handle, the row's block, the row's capacity. -/
structure Row where
  h : Int
  g : Nat
  c : Nat
/-- Where an arena's parts lie: its map, its stock (and that one's blocks), its blocks' rows. -/
structure Mem where
  m : Nat
  sb : Nat
  Fs : List Nat
  B : List Row
def Mem.foot (M : Mem) (b : Nat) : List Nat := b :: M.m :: (M.Fs ++ M.B.map Row.g)
def Ar.cells (A : Ar) (M : Mem) : List Value :=
  .int .i64 (A.cap : Int) :: .int .u64 (A.births : Int) :: (u64s A.fixed ++
    [.map (some M.m), .pointer (some ⟨M.sb, 0, none⟩), .int .i64 (used A.L : Int), .int .i64 (A.peak : Int), .int .i64 (A.faults : Int),
      .int .i64 (A.t.lays : Int), .int .i64 (A.t.frees : Int), .int .i64 (A.t.reads : Int), .int .i64 (A.t.writes : Int), .int .i64 (A.t.swaps : Int), .int .i64 (A.t.adds : Int)])
structure RowOk (w : World) (r : Row) (x : Blk) : Prop where
  h : r.h = x.h
  own : w.ownsRow 0 31 1 (.slice (some ⟨r.g, 0, none⟩) x.ws.length r.c) x.ws.length (u64s x.ws)
/-- Block m is the map of those blocks. -/
structure MapAt (w : World) (m : Nat) (B : List Row) (L : List Blk) (D : DataW Unit) : Prop where
  own : w.ownsMap Tryz.prog 31 hdr m (Maps.size D) D
  size : Maps.size D = L.length
  has : ∀ k : Int, Maps.has D (.int .u64 k) = hasH L k
  at_ : ∀ (i : Nat) (r : Row) (x : Blk), B[i]? = some r → L[i]? = some x → ∀ z, D.atKey (.int .u64 r.h) z = hdat r.g x.ws.length r.c
structure ArAt (w : World) (b : Nat) (M : Mem) (A : Ar) : Prop where
  ok : A.Ok
  body : w.heap[b]? = some (.cells (A.cells M).toArray 128)
  stock : ∃ S, Lst.StockAt w M.sb M.Fs S ∧ S.most = 65535 ∧ ∀ k : Int, S.used k = hasN A.L k
  map : ∃ D, MapAt w M.m M.B A.L D
  rows : M.B.length = A.L.length ∧ ∀ (i : Nat) (r : Row) (x : Blk), M.B[i]? = some r → A.L[i]? = some x → RowOk w r x
  apart : (b :: M.m :: M.B.map Row.g).Nodup
  side : ∀ k, k ∈ M.Fs → k ∉ b :: M.m :: M.B.map Row.g

theorem MapAt.turn {w w' : World} {m : Nat} {B : List Row} {L : List Blk} {D : DataW Unit} {F : List Nat} (h : MapAt w m B L D) (ht : Frm.Turn F w w') (hn : m ∉ F) : MapAt w' m B L D :=
  ⟨Lst.own_turn h.own ht hn, h.size, h.has, h.at_⟩
theorem RowOk.turn {w w' : World} {r : Row} {x : Blk} {F : List Nat} (h : RowOk w r x) (ht : Frm.Turn F w w') (hn : r.g ∉ F) : RowOk w' r x :=
  ⟨h.h, Frm.owns_turn h.own ht (fun k hk => by simp [Value.ownBlock] at hk; subst hk; exact hn)⟩
theorem g_mem {M : Mem} {i : Nat} {r : Row} (hr : M.B[i]? = some r) : r.g ∈ M.B.map Row.g := List.mem_map.2 ⟨r, List.mem_of_getElem? hr, rfl⟩
theorem ArAt.turn {w w' : World} {b : Nat} {M : Mem} {A : Ar} {G : List Nat} (h : ArAt w b M A) (ht : Frm.Turn G w w') (hn : ∀ k, k ∈ M.foot b → k ∉ G) : ArAt w' b M A := by
  obtain ⟨S, hS, hm, hu⟩ := h.stock
  obtain ⟨D, hD⟩ := h.map
  exact ⟨h.ok, ht.keep h.body (hn b (by simp [Mem.foot])), ⟨S, hS.turn ht (fun k hk => hn k (by simp [Mem.foot, hk])), hm, hu⟩, ⟨D, hD.turn ht (hn _ (by simp [Mem.foot]))⟩,
    ⟨h.rows.1, fun i r x hr hx => (h.rows.2 i r x hr hx).turn ht (hn _ (by have := g_mem hr; simp only [Mem.foot, List.mem_cons, List.mem_append]; exact Or.inr (Or.inr (Or.inr this))))⟩, h.apart, h.side⟩
theorem ArAt.step {w w' : World} {b : Nat} {M : Mem} {A : Ar} (h : ArAt w b M A) (ht : Frm.Turn [] w w') : ArAt w' b M A := h.turn ht (by simp)
theorem ArAt.b_lt {w : World} {b : Nat} {M : Mem} {A : Ar} (h : ArAt w b M A) : b < w.heap.size := (Array.getElem?_eq_some_iff.1 h.body).1
theorem ArAt.row_at {w : World} {b : Nat} {M : Mem} {A : Ar} (h : ArAt w b M A) {i : Nat} {r : Row} (hr : M.B[i]? = some r) : ∃ x, A.L[i]? = some x ∧ RowOk w r x := by
  have hi : i < A.L.length := by have := (List.getElem?_eq_some_iff.1 hr).1; have := h.rows.1; omega
  exact ⟨_, List.getElem?_eq_getElem hi, h.rows.2 i r _ hr (List.getElem?_eq_getElem hi)⟩
theorem ArAt.lt {w : World} {b : Nat} {M : Mem} {A : Ar} (h : ArAt w b M A) : ∀ k, k ∈ M.foot b → k < w.heap.size := by
  intro k hk
  simp only [Mem.foot, List.mem_cons, List.mem_append, List.mem_map] at hk
  obtain ⟨S, hS, _⟩ := h.stock
  obtain ⟨D, hD⟩ := h.map
  rcases hk with rfl | rfl | hk | ⟨r, hr, rfl⟩
  · exact h.b_lt
  · exact hD.own.lt
  · exact hS.lt k hk
  · obtain ⟨i, hi⟩ := List.getElem?_of_mem hr
    obtain ⟨x, _, hx⟩ := h.row_at hi
    exact (World.ownsRow.lt hx.own r.g rfl).2

/-- The cells of an arena's own block, one by one. -/
structure ACells (w : World) (b : Nat) (M : Mem) (A : Ar) : Prop where
  c0 : w.cell? ⟨b, 0, none⟩ = some (.int .i64 (A.cap : Int))
  c1 : w.cell? ⟨b, 1, none⟩ = some (.int .u64 (A.births : Int))
  c11 : w.cell? ⟨b, 11, none⟩ = some (.map (some M.m))
  c12 : w.cell? ⟨b, 12, none⟩ = some (.pointer (some ⟨M.sb, 0, none⟩))
  c13 : w.cell? ⟨b, 13, none⟩ = some (.int .i64 (used A.L : Int))
  c14 : w.cell? ⟨b, 14, none⟩ = some (.int .i64 (A.peak : Int))
  c15 : w.cell? ⟨b, 15, none⟩ = some (.int .i64 (A.faults : Int))
  c16 : w.cell? ⟨b, 16, none⟩ = some (.int .i64 (A.t.lays : Int))
  c17 : w.cell? ⟨b, 17, none⟩ = some (.int .i64 (A.t.frees : Int))
  c18 : w.cell? ⟨b, 18, none⟩ = some (.int .i64 (A.t.reads : Int))
  c19 : w.cell? ⟨b, 19, none⟩ = some (.int .i64 (A.t.writes : Int))
  c20 : w.cell? ⟨b, 20, none⟩ = some (.int .i64 (A.t.swaps : Int))
  c21 : w.cell? ⟨b, 21, none⟩ = some (.int .i64 (A.t.adds : Int))
theorem nine_of {l : List Int} (h : l.length = 9) : ∃ a b c d e f g i j, l = [a, b, c, d, e, f, g, i, j] := by
  match l, h with
  | [a, b, c, d, e, f, g, i, j], _ => exact ⟨a, b, c, d, e, f, g, i, j, rfl⟩
theorem ArAt.cells {w : World} {b : Nat} {M : Mem} {A : Ar} (h : ArAt w b M A) : ACells w b M A := by
  have hc := fun i => Frm.cell_row w b i _ _ _ h.body
  obtain ⟨f0, f1, f2, f3, f4, f5, f6, f7, f8, e⟩ := nine_of h.ok.nine
  constructor <;> (rw [hc]; simp [Ar.cells, u64s, e])
theorem ArAt.fix {w : World} {b : Nat} {M : Mem} {A : Ar} (h : ArAt w b M A) {i : Nat} {x : Int} (hx : A.fixed[i]? = some x) : w.cell? ⟨b, 2 + i, none⟩ = some (.int .u64 x) := by
  rw [Frm.cell_row w b _ _ _ _ h.body]
  have hi := (List.getElem?_eq_some_iff.1 hx).1
  simp only [Ar.cells, List.getElem?_toArray]
  rw [show 2 + i = i + 1 + 1 from by omega, List.getElem?_cons_succ, List.getElem?_cons_succ, List.getElem?_append_left (by simpa [u64s] using hi)]
  simp [u64s, hx]
theorem ArAt.thaw {w : World} {b : Nat} {M : Mem} {A : Ar} (h : ArAt w b M A) (o : Nat) : w.frozen? ⟨b, o, none⟩ = false := Frm.frozen_row w b o _ _ h.body

theorem ArAt.b_out {w : World} {b : Nat} {M : Mem} {A : Ar} (h : ArAt w b M A) : b ≠ M.m ∧ b ∉ M.Fs ∧ b ∉ M.B.map Row.g := by
  have := h.apart
  simp only [List.nodup_cons, List.mem_cons] at this
  exact ⟨fun e => this.1 (Or.inl e), fun hb => h.side b hb (by simp), fun hb => this.1 (Or.inr hb)⟩
/-- A cell of the arena's own block is written. -/
theorem ArAt.poke {w : World} {b : Nat} {M : Mem} {A A' : Ar} {i : Nat} {v : Value} (h : ArAt w b M A) (hc : (A.cells M).set i v = A'.cells M) (hL : A'.L = A.L) (hok : A'.Ok) : ArAt (w.setCell ⟨b, i, none⟩ v) b M A' := by
  have ht : Frm.Turn [b] w (w.setCell ⟨b, i, none⟩ v) := (Frm.Turn.refl _ _).setCell (Or.inl (by simp)) _
  obtain ⟨o1, o2, o3⟩ := h.b_out
  obtain ⟨S, hS, hm, hu⟩ := h.stock
  obtain ⟨D, hD⟩ := h.map
  refine ⟨hok, ?_, ⟨S, hS.turn ht (fun k hk => by simp; intro e; subst e; exact o2 hk), hm, by rw [hL]; exact hu⟩, ⟨D, by rw [hL]; exact hD.turn ht (by simp; exact fun e => o1 e.symm)⟩,
    ⟨by rw [hL]; exact h.rows.1, fun j r x hr hx => (h.rows.2 j r x hr (by rw [← hL]; exact hx)).turn ht (by simp; intro e; rw [← e] at o3; exact o3 (g_mem hr))⟩, h.apart, h.side⟩
  rw [Frm.heap_set w b i _ _ _ v h.body, ← hc]
  simp
/-- The place of a word that there is. -/
def PtrAt (b : Nat) (M : Mem) (blk i : Int) (p : Addr) : Prop :=
  (blk = 0 ∧ p = ⟨b, 2 + i.toNat, none⟩) ∨ (blk ≠ 0 ∧ ∃ (j : Nat) (r : Row), M.B[j]? = some r ∧ r.h = blk ∧ p = ⟨r.g, i.toNat, none⟩)
theorem err_row {A : Ar} {blk i : Int} (h : A.err blk i = 0) : ∃ l, A.row blk = some l ∧ 0 ≤ i ∧ i < (l.length : Int) ∧ l[i.toNat]? = some (A.get blk i) := by
  unfold Ar.err at h
  split at h
  · cases h
  · rename_i l hl
    split at h
    · rename_i hi
      refine ⟨l, hl, hi.1, hi.2, ?_⟩
      have hlt : i.toNat < l.length := by omega
      simp [Ar.get, hl, List.getD_eq_getElem?_getD, hlt]
    · cases h
theorem ArAt.row_of {w : World} {b : Nat} {M : Mem} {A : Ar} (h : ArAt w b M A) {blk i : Int} {j : Nat} {r : Row} (hr : M.B[j]? = some r) (he : r.h = blk) (h0 : blk ≠ 0) : ∃ x, A.L[j]? = some x ∧ RowOk w r x ∧ A.row blk = some x.ws := by
  obtain ⟨x, hx, hR⟩ := h.row_at hr
  refine ⟨x, hx, hR, ?_⟩
  unfold Ar.row
  rw [if_neg h0]
  exact h.ok.look_some.2 ⟨x, List.mem_of_getElem? hx, by rw [← hR.h, he], rfl⟩
theorem ArAt.ptr {w : World} {b : Nat} {M : Mem} {A : Ar} {blk i : Int} {p : Addr} (h : ArAt w b M A) (hp : PtrAt b M blk i p) (he : A.err blk i = 0) :
    w.cell? p = some (.int .u64 (A.get blk i)) ∧ w.frozen? p = false ∧ p.block ∈ M.foot b := by
  obtain ⟨l, hl, h0, h1, hg⟩ := err_row he
  rcases hp with ⟨rfl, rfl⟩ | ⟨hb, j, r, hr, rfl, rfl⟩
  · simp [Ar.row] at hl
    subst hl
    exact ⟨h.fix hg, h.thaw _, by simp [Mem.foot]⟩
  · obtain ⟨x, hx, hR, hrow⟩ := h.row_of (i := i) hr rfl hb
    rw [hrow] at hl
    cases hl
    refine ⟨?_, World.ownsRow.frozenAt hR.own _, ?_⟩
    · rw [World.ownsRow.cellAt hR.own _ (by omega)]
      simp [u64s, hg]
    · have := g_mem hr
      simp only [Mem.foot, List.mem_cons, List.mem_append]; exact Or.inr (Or.inr (Or.inr this))
theorem setW_at {l : List Blk} {blk v : Int} {n k : Nat} {y : Blk} (hy : (setW l blk n v)[k]? = some y) : ∃ x, l[k]? = some x ∧ y = if x.h = blk then { x with ws := x.ws.set n v } else x := by
  simp only [setW, List.getElem?_map, Option.map_eq_some_iff] at hy
  obtain ⟨x, hx, rfl⟩ := hy
  exact ⟨x, hx, rfl⟩
/-- A word is written. -/
theorem ArAt.word {w : World} {b : Nat} {M : Mem} {A : Ar} {blk i v : Int} {p : Addr} (h : ArAt w b M A) (hp : PtrAt b M blk i p) (he : A.err blk i = 0) (hv : W64 v) : ArAt (w.setCell p (.int .u64 v)) b M (A.set blk i v) := by
  obtain ⟨l, hl, h0, h1, hg⟩ := err_row he
  have hok := h.ok.set (blk := blk) (i := i) hv
  rcases hp with ⟨rfl, rfl⟩ | ⟨hb, j, r, hr, rfl, rfl⟩
  · refine h.poke ?_ (by simp [Ar.set]) hok
    simp [Ar.row] at hl
    subst hl
    have hi : i.toNat < (u64s A.fixed).length := by simp [u64s]; omega
    simp only [Ar.cells, Ar.set, if_true]
    rw [show 2 + i.toNat = i.toNat + 1 + 1 from by omega, List.set_cons_succ, List.set_cons_succ, List.set_append_left _ _ hi]
    simp [u64s, List.map_set]
  · obtain ⟨x, hx, hR, hrow⟩ := h.row_of (i := i) hr rfl hb
    rw [hrow] at hl
    cases hl
    have ht : Frm.Turn [r.g] w (w.setCell ⟨r.g, i.toNat, none⟩ (.int .u64 v)) := (Frm.Turn.refl _ _).setCell (Or.inl (by simp)) _
    obtain ⟨o1, o2, o3⟩ := h.b_out
    obtain ⟨S, hS, hm, hu⟩ := h.stock
    obtain ⟨D, hD⟩ := h.map
    have hgm := g_mem hr
    have hnd := h.apart
    simp only [List.nodup_cons, List.mem_cons] at hnd
    have hset : A.set r.h i v = { A with L := setW A.L r.h i.toNat v } := by simp [Ar.set, hb]
    rw [hset] at hok ⊢
    have hcells : ({ A with L := setW A.L r.h i.toNat v } : Ar).cells M = A.cells M := by simp [Ar.cells, used_setW]
    refine ⟨hok, by rw [hcells]; exact ht.keep h.body (by simp; intro e; rw [e] at o3; exact o3 hgm), ⟨S, hS.turn ht (fun k hk => by simp; intro e; subst e; exact h.side _ hk (by simp [hgm])), hm, fun k => by rw [hasN_setW]; exact hu k⟩,
      ⟨D, Lst.own_turn hD.own ht (by simp; intro e; rw [e] at hnd; exact hnd.2.1 hgm), by rw [hD.size]; simp [setW], fun k => by rw [hasH_setW]; exact hD.has k, fun k q y hq hy z => ?_⟩,
      ⟨by rw [h.rows.1]; simp [setW], fun k q y hq hy => ?_⟩, h.apart, h.side⟩
    · obtain ⟨x', hx', rfl⟩ := setW_at hy
      have := hD.at_ k q x' hq hx' z
      rw [this]; split <;> simp
    · obtain ⟨x', hx', rfl⟩ := setW_at hy
      have hR' := h.rows.2 k q x' hq hx'
      split
      · rename_i e
        have exx : x' = x := h.ok.h_inj (List.mem_of_getElem? hx') (List.mem_of_getElem? hx) (by rw [e, hR.h])
        subst exx
        have hkj : k = j := by
          have hk := (List.getElem?_eq_some_iff.1 hx').1
          rcases Nat.lt_trichotomy k j with e1 | e1 | e1
          · have := rise_get h.ok.rise hx' hx e1; omega
          · exact e1
          · have := rise_get h.ok.rise hx hx' e1; omega
        subst hkj
        rw [hr] at hq; cases hq
        have hs := (World.ownsRow.stored hR.own i.toNat (.int .u64 v)).1
        refine ⟨hR.h, ?_⟩
        simpa [u64s, List.map_set] using hs
      · rename_i e
        refine hR'.turn ht ?_
        simp
        intro eg
        have hkj : k = j := by
          have hk : (M.B.map Row.g)[k]? = some q.g := by simp [hq]
          have hj : (M.B.map Row.g)[j]? = some r.g := by simp [hr]
          obtain ⟨k1, k2⟩ := List.getElem?_eq_some_iff.1 hk
          obtain ⟨j1, j2⟩ := List.getElem?_eq_some_iff.1 hj
          rcases Nat.lt_trichotomy k j with e1 | e1 | e1
          · exact absurd (by rw [k2, j2, eg]) (List.pairwise_iff_getElem.1 hnd.2.2 k j k1 j1 e1)
          · exact e1
          · exact absurd (by rw [k2, j2, eg]) (List.pairwise_iff_getElem.1 hnd.2.2 j k j1 k1 e1)
        subst hkj
        rw [hr] at hq; cases hq
        exact e hR'.h.symm
end Arn
end Go.Proofs.YtpajafecodkndaaGreat

set_option linter.unusedVariables false
set_option linter.unusedSimpArgs false
namespace Go.Proofs.YtpajafecodkndaaGreat
namespace Arn
open Go.RowKit Hp Go.Maps

theorem block_any (a : Int) (w : World) (h : W64 a) :
    Calls Tryz.prog 143 #[.int .u64 a] w fun e w' => e = .returned (.int .u64 (a % 65536)) ∧ w = w' := by
  obtain ⟨h0, h1⟩ := h
  have hm := Fld.and_mask16 a ⟨h0, by omega⟩
  go_enter Tryz.func143, Tryz.ntmps143
  go_wp2
  go_ret
  exact ⟨rfl, rfl⟩
theorem handle_yes (a b : Int) (w : World) (h1 : 1 ≤ a) (h2 : a ≤ 268435455) (h3 : 1 ≤ b) (h4 : b ≤ 65535) :
    Calls Tryz.prog 62 #[.int .u64 a, .int .u64 b] w fun e w' => e = .returned (.tuple #[.int .u64 (a * 65536 + b), .bool true]) ∧ w = w' := by
  have hj := Fld.or_join16 a b (by omega) h2 (by omega) h4
  go_enter Tryz.func62, Tryz.ntmps62
  go_wp2
  go_ret2
  exact ⟨rfl, rfl⟩

/-- A slice of words, wherever it lies: nil, or cells one by one. -/
def WordsAt (w : World) (v : Value) (l : List Int) : Prop :=
  (v = .slice none 0 0 ∧ l = []) ∨ ∃ a c, v = .slice (some a) l.length c ∧ ∀ j u, (u64s l)[j]? = some u → w.cell? (a.add j) = some u
theorem WordsAt.turn {w w' : World} {v : Value} {l : List Int} {F : List Nat} (h : WordsAt w v l) (ht : Frm.Turn F w w') (hn : ∀ k, v.ownBlock = some k → k ∉ F) : WordsAt w' v l := by
  rcases h with h | ⟨a, c, rfl, h⟩
  · exact Or.inl h
  · refine Or.inr ⟨a, c, rfl, fun j u hu => ht.cell (h j u hu) ?_⟩
    have := hn a.block rfl
    have hb : (a.add j).block = a.block := by unfold Addr.add; split <;> rfl
    rw [hb]; exact this
theorem WordsAt.own {w : World} {g c : Nat} {l : List Int} (h : w.ownsRow 0 31 1 (.slice (some ⟨g, 0, none⟩) l.length c) l.length (u64s l)) : WordsAt w (.slice (some ⟨g, 0, none⟩) l.length c) l :=
  Or.inr ⟨⟨g, 0, none⟩, c, rfl, fun j u hu => World.ownsRow.cells h rfl j u hu⟩
theorem uclone_nil (w : World) : Calls Tryz.prog 63 #[.slice none 0 0] w fun e w' => e = .returned (.slice none 0 0) ∧ w = w' := by
  have hq := fun w => Lib.run_eql_slice_nil (P := Tryz.prog) w 25 _ none 0 0 0 0 under_u64s
  go_enter Tryz.func63, Tryz.ntmps63
  go_wp2
  go_ret
  exact ⟨rfl, rfl⟩
def CloneOf (w : World) (l : List Int) (e : Ending) (w' : World) : Prop :=
  ∃ g' c', e = .returned (.slice (some ⟨g', 0, none⟩) l.length c') ∧ w'.ownsRow 0 31 1 (.slice (some ⟨g', 0, none⟩) l.length c') l.length (u64s l) ∧ w.heap.size ≤ g' ∧ Frm.Turn [] w w'
set_option maxHeartbeats 1000000 in
theorem uclone_some (a : Addr) (c : Nat) (l : List Int) (w : World) (h : ∀ j u, (u64s l)[j]? = some u → w.cell? (a.add j) = some u) (hn : l.length ≤ 65536) :
    Calls Tryz.prog 63 #[.slice (some a) l.length c] w (CloneOf w l) := by
  have hq := fun w => Lib.run_eql_slice_nil (P := Tryz.prog) w 25 _ (some a) l.length c 0 0 under_u64s
  have HT : Hid (∀ o, ∀ j u, (u64s l)[j]? = some u → (w.alloc o).cell? (a.add j) = some u) := Lib.hid fun o j u hu => ((Frm.Turn.refl [] w).alloc o).cell (h j u hu) (by simp)
  obtain ⟨i0, hi, hz0, hz1, hz2⟩ := info_parts info_u64
  have HO : Hid ((w.alloc (.cells #[] 31)).ownsRow 0 31 1 (.slice (some ⟨w.heap.size, 0, none⟩) 0 0) 0 []) := Lib.hid (World.ownsRow_made w #[] 0 (Nat.zero_le _) (by simp [maxLen]) (by simp))
  clear h
  obtain ⟨n, HN⟩ : ∃ n, Hid (n = l.length) := ⟨_, Lib.hid rfl⟩
  rw [← HN.out] at hn hq ⊢
  go_enter Tryz.func63, Tryz.ntmps63
  go_wp2_with (at_builtin; refine wpList_append_own_at _ rfl (.tmp 5) (.tmp 6) 25 rfl 0 31 i0 (.int .u64 0) 1 8 under_u64s hi hz0 hz1 hz2 rfl (by decide) (.slice (some ⟨w.heap.size, 0, none⟩) 0 0) 0 [] rfl HO.out a n c (u64s l) rfl (by rw [length_u64s, HN.out]; omega) (HT.out _) (u64s_one l) (by unfold maxLen; omega) (by omega) (Nat.zero_le _) ?_; intro v1 w3 hown3 hg3 _ hl3; simp only [Nat.zero_add, List.nil_append] at hown3; have HO3 := Lib.hid hown3; have HG3 := Lib.hid hg3; have HL3 := Lib.hid hl3; clear hown3 hg3 hl3)
  go_ret
  have hs3 := HG3.out.size
  simp at hs3
  have hbl : ∀ k, v1.ownBlock = some k → w.heap.size ≤ k := fun k hk => by
    rcases HL3.out with h | h <;> rw [h] at hk <;> simp [Value.ownBlock] at hk <;> omega
  have hne : v1.ownBlock ≠ none := by
    rcases HL3.out with h | h <;> rw [h] <;> simp [Value.ownBlock]
  have ho := HO3.out
  rw [HN.out] at ho
  rcases ho.2 with ⟨rfl, _⟩ | ⟨g', c', cur, rfl, _⟩
  · simp [Value.ownBlock] at hne
  · refine ⟨g', c', rfl, ho, hbl g' rfl, ((Frm.Turn.refl [] w).alloc _).trans (Frm.Turn.of_grown HG3.out) (fun k hk => ?_)⟩
    simp [Value.ownBlock] at hk; subst hk; right; omega

/-! ### counters -/
theorem cells_eq {A A' : Ar} {M : Mem} (e0 : A'.cap = A.cap) (e1 : A'.births = A.births) (e2 : A'.fixed = A.fixed) (e3 : A'.L = A.L) : A'.cells M = .int .i64 (A.cap : Int) :: .int .u64 (A.births : Int) :: (u64s A.fixed ++
    [.map (some M.m), .pointer (some ⟨M.sb, 0, none⟩), .int .i64 (used A.L : Int), .int .i64 (A'.peak : Int), .int .i64 (A'.faults : Int),
      .int .i64 (A'.t.lays : Int), .int .i64 (A'.t.frees : Int), .int .i64 (A'.t.reads : Int), .int .i64 (A'.t.writes : Int), .int .i64 (A'.t.swaps : Int), .int .i64 (A'.t.adds : Int)]) := by
  simp [Ar.cells, e0, e1, e2, e3]
theorem ArAt.miss {w : World} {b : Nat} {M : Mem} {A : Ar} (h : ArAt w b M A) : ArAt (w.setCell ⟨b, 15, none⟩ (.int .i64 ((A.faults : Int) + 1))) b M A.miss := by
  refine h.poke ?_ rfl (h.ok.tally _ _)
  obtain ⟨f0, f1, f2, f3, f4, f5, f6, f7, f8, e⟩ := nine_of h.ok.nine
  simp [Ar.cells, Ar.miss, u64s, e]
theorem ArAt.lays {w : World} {b : Nat} {M : Mem} {A : Ar} (h : ArAt w b M A) : ArAt (w.setCell ⟨b, 16, none⟩ (.int .i64 ((A.t.lays : Int) + 1))) b M { A with t := { A.t with lays := A.t.lays + 1 } } := by
  refine h.poke ?_ rfl (h.ok.tally _ _)
  obtain ⟨f0, f1, f2, f3, f4, f5, f6, f7, f8, e⟩ := nine_of h.ok.nine
  simp [Ar.cells, u64s, e]
theorem ArAt.frees {w : World} {b : Nat} {M : Mem} {A : Ar} (h : ArAt w b M A) : ArAt (w.setCell ⟨b, 17, none⟩ (.int .i64 ((A.t.frees : Int) + 1))) b M { A with t := { A.t with frees := A.t.frees + 1 } } := by
  refine h.poke ?_ rfl (h.ok.tally _ _)
  obtain ⟨f0, f1, f2, f3, f4, f5, f6, f7, f8, e⟩ := nine_of h.ok.nine
  simp [Ar.cells, u64s, e]
theorem ArAt.reads {w : World} {b : Nat} {M : Mem} {A : Ar} (h : ArAt w b M A) : ArAt (w.setCell ⟨b, 18, none⟩ (.int .i64 ((A.t.reads : Int) + 1))) b M { A with t := { A.t with reads := A.t.reads + 1 } } := by
  refine h.poke ?_ rfl (h.ok.tally _ _)
  obtain ⟨f0, f1, f2, f3, f4, f5, f6, f7, f8, e⟩ := nine_of h.ok.nine
  simp [Ar.cells, u64s, e]
theorem ArAt.writes {w : World} {b : Nat} {M : Mem} {A : Ar} (h : ArAt w b M A) : ArAt (w.setCell ⟨b, 19, none⟩ (.int .i64 ((A.t.writes : Int) + 1))) b M { A with t := { A.t with writes := A.t.writes + 1 } } := by
  refine h.poke ?_ rfl (h.ok.tally _ _)
  obtain ⟨f0, f1, f2, f3, f4, f5, f6, f7, f8, e⟩ := nine_of h.ok.nine
  simp [Ar.cells, u64s, e]
theorem ArAt.swaps {w : World} {b : Nat} {M : Mem} {A : Ar} (h : ArAt w b M A) : ArAt (w.setCell ⟨b, 20, none⟩ (.int .i64 ((A.t.swaps : Int) + 1))) b M { A with t := { A.t with swaps := A.t.swaps + 1 } } := by
  refine h.poke ?_ rfl (h.ok.tally _ _)
  obtain ⟨f0, f1, f2, f3, f4, f5, f6, f7, f8, e⟩ := nine_of h.ok.nine
  simp [Ar.cells, u64s, e]
theorem ArAt.adds {w : World} {b : Nat} {M : Mem} {A : Ar} (h : ArAt w b M A) : ArAt (w.setCell ⟨b, 21, none⟩ (.int .i64 ((A.t.adds : Int) + 1))) b M { A with t := { A.t with adds := A.t.adds + 1 } } := by
  refine h.poke ?_ rfl (h.ok.tally _ _)
  obtain ⟨f0, f1, f2, f3, f4, f5, f6, f7, f8, e⟩ := nine_of h.ok.nine
  simp [Ar.cells, u64s, e]

def lim : Nat := 1000000000000
theorem fault_any {w : World} {b : Nat} {M : Mem} {A : Ar} (h : ArAt w b M A) (hl : A.Low lim) (err : Int) :
    Calls Tryz.prog 113 #[.pointer (some ⟨b, 0, none⟩), .int .i64 err] w fun e w' => e = .returned (.int .i64 err) ∧ ArAt w' b M A.miss ∧ Frm.Turn [b] w w' := by
  have hc := h.cells.c15
  have hf := h.thaw 15
  have hb : (A.faults : Int) ≤ 1000000000000 := by have := hl.faults; unfold lim at this; omega
  have hb0 : (0 : Int) ≤ (A.faults : Int) := by omega
  have H := Lib.hid h
  clear h
  go_enter Tryz.func113, Tryz.ntmps113
  go_wp2
  go_ret
  exact ⟨rfl, H.out.miss, (Frm.Turn.refl _ _).setCell (Or.inl (by simp)) _⟩

/-! ### what an arena tells of itself -/
theorem size_nil (k : Int) (w : World) : Calls Tryz.prog 56 #[.pointer none, .int .u64 k] w fun e w' => e = .returned (.int .i64 0) ∧ w = w' := by
  go_enter Tryz.func56, Tryz.ntmps56
  go_wp2
  go_ret
  exact ⟨rfl, rfl⟩
theorem cap_nil (w : World) : Calls Tryz.prog 81 #[.pointer none] w fun e w' => e = .returned (.int .i64 0) ∧ w = w' := by
  go_enter Tryz.func81, Tryz.ntmps81
  go_wp2
  go_ret
  exact ⟨rfl, rfl⟩
theorem used_nil (w : World) : Calls Tryz.prog 82 #[.pointer none] w fun e w' => e = .returned (.int .i64 0) ∧ w = w' := by
  go_enter Tryz.func82, Tryz.ntmps82
  go_wp2
  go_ret
  exact ⟨rfl, rfl⟩
theorem peak_nil (w : World) : Calls Tryz.prog 83 #[.pointer none] w fun e w' => e = .returned (.int .i64 0) ∧ w = w' := by
  go_enter Tryz.func83, Tryz.ntmps83
  go_wp2
  go_ret
  exact ⟨rfl, rfl⟩
theorem len_nil (w : World) : Calls Tryz.prog 84 #[.pointer none] w fun e w' => e = .returned (.int .i64 0) ∧ w = w' := by
  go_enter Tryz.func84, Tryz.ntmps84
  go_wp2
  go_ret
  exact ⟨rfl, rfl⟩
theorem faults_nil (w : World) : Calls Tryz.prog 57 #[.pointer none] w fun e w' => e = .returned (.int .i64 0) ∧ w = w' := by
  go_enter Tryz.func57, Tryz.ntmps57
  go_wp2
  go_ret
  exact ⟨rfl, rfl⟩
theorem words_nil (w : World) : Calls Tryz.prog 78 #[.pointer none] w fun e w' => e = .returned (.slice none 0 0) ∧ w = w' := by
  go_enter Tryz.func78, Tryz.ntmps78
  go_wp2
  go_ret
  exact ⟨rfl, rfl⟩
theorem cap_any {w : World} {b : Nat} {M : Mem} {A : Ar} (h : ArAt w b M A) : Calls Tryz.prog 81 #[.pointer (some ⟨b, 0, none⟩)] w fun e w' => e = .returned (.int .i64 (A.cap : Int)) ∧ w = w' := by
  have hc := h.cells.c0
  clear h
  go_enter Tryz.func81, Tryz.ntmps81
  go_wp2
  go_ret
  exact ⟨rfl, rfl⟩
theorem used_any {w : World} {b : Nat} {M : Mem} {A : Ar} (h : ArAt w b M A) : Calls Tryz.prog 82 #[.pointer (some ⟨b, 0, none⟩)] w fun e w' => e = .returned (.int .i64 (used A.L : Int)) ∧ w = w' := by
  have hc := h.cells.c13
  clear h
  go_enter Tryz.func82, Tryz.ntmps82
  go_wp2
  go_ret
  exact ⟨rfl, rfl⟩
theorem peak_any {w : World} {b : Nat} {M : Mem} {A : Ar} (h : ArAt w b M A) : Calls Tryz.prog 83 #[.pointer (some ⟨b, 0, none⟩)] w fun e w' => e = .returned (.int .i64 (A.peak : Int)) ∧ w = w' := by
  have hc := h.cells.c14
  clear h
  go_enter Tryz.func83, Tryz.ntmps83
  go_wp2
  go_ret
  exact ⟨rfl, rfl⟩
theorem faults_any {w : World} {b : Nat} {M : Mem} {A : Ar} (h : ArAt w b M A) : Calls Tryz.prog 57 #[.pointer (some ⟨b, 0, none⟩)] w fun e w' => e = .returned (.int .i64 (A.faults : Int)) ∧ w = w' := by
  have hc := h.cells.c15
  clear h
  go_enter Tryz.func57, Tryz.ntmps57
  go_wp2
  go_ret
  exact ⟨rfl, rfl⟩
theorem len_any {w : World} {b : Nat} {M : Mem} {A : Ar} (h : ArAt w b M A) : Calls Tryz.prog 84 #[.pointer (some ⟨b, 0, none⟩)] w fun e w' => e = .returned (.int .i64 (A.L.length : Int)) ∧ w = w' := by
  have hc := h.cells.c11
  obtain ⟨D, hD⟩ := h.map
  have hown := hD.own
  have H := Lib.hid hD.size
  clear h hD
  go_enter Tryz.func84, Tryz.ntmps84
  go_wp2_with (at_len; refine wpList_len_own _ rfl _ 125 rfl 31 25 mapU _ M.m _ D rfl hown ?_)
  go_ret
  exact ⟨by rw [H.out]; rfl, rfl⟩
def tal (t : Tal) : Value := .agg #[.int .i64 (t.lays : Int), .int .i64 (t.frees : Int), .int .i64 (t.reads : Int), .int .i64 (t.writes : Int), .int .i64 (t.swaps : Int), .int .i64 (t.adds : Int)]
end Arn
end Go.Proofs.YtpajafecodkndaaGreat
