/- The document's Get in one form; its Read. -/
import Derived.Test.YtfbnidjcimcfoaaArenaRefGet
set_option linter.unusedVariables false
set_option linter.unusedSimpArgs false
namespace Go.Proofs.Ytfbnidjcimcfoaa
namespace Arn
open Go.RowKit Hp Go.Maps

/-- What Get leaves of an arena, and what it tells. -/
def Ar.got (A : Ar) (blk i : Int) : Ar := if A.err blk i = 0 then A else A.miss
def Ar.gotW (A : Ar) (blk i : Int) : Int := if A.err blk i = 0 then A.get blk i else 0
theorem len_of {A : Ar} (hok : A.Ok) {l : List RB} (hAL : l.map Prod.fst = A.L) : l.length ≤ 60000 := by
  have u1 := length_le_used (fun x hx => (hok.len x hx).1)
  have u2 := hok.top
  have u3 := hok.peak
  have u4 := hok.cap
  rw [← hAL, List.length_map] at u1
  rw [← hAL] at u2
  omega
theorem refGet_any (A : Ar) (f0 f1 f2 f3 f4 f5 f6 f7 f8 : Int) (v : Value) (l : List RB) (w : World) (h : BlksAt w v l) (hAL : l.map Prod.fst = A.L) (hok : A.Ok) (hfix : A.fixed = [f0, f1, f2, f3, f4, f5, f6, f7, f8]) (hf : A.faults ≤ 100000000) (blk i : Int) :
    Calls Try.prog 48 #[.agg (refCells A f0 f1 f2 f3 f4 f5 f6 f7 f8 v), .agg #[.int .u64 blk, .int .i64 i]] w fun e w' =>
      e = .returned (.tuple #[.agg (refCells (A.got blk i) f0 f1 f2 f3 f4 f5 f6 f7 f8 v), .int .u64 (A.gotW blk i), .int .i64 (A.err blk i)]) ∧ Frm.Turn [] w w' := by
  have hl := len_of hok hAL
  by_cases hz : blk = 0
  · have hrow : A.row blk = some A.fixed := by unfold Ar.row; rw [if_pos hz]
    by_cases hin : 0 ≤ i ∧ i < 9
    · have he : A.err blk i = 0 := by unfold Ar.err; rw [hrow, hfix]; simp; omega
      have hg : A.get blk i = [f0, f1, f2, f3, f4, f5, f6, f7, f8].getD i.toNat 0 := by unfold Ar.get; rw [hrow, hfix]; rfl
      unfold Ar.got Ar.gotW
      rw [he, if_pos rfl, if_pos rfl, hg]
      exact refGet_fixin A f0 f1 f2 f3 f4 f5 f6 f7 f8 v l w h (by omega) hf blk i hz hin.1 hin.2
    · have he : A.err blk i = 24 := by unfold Ar.err; rw [hrow, hfix]; simp; omega
      unfold Ar.got Ar.gotW
      rw [he, if_neg (by omega), if_neg (by omega)]
      exact refGet_fixout A f0 f1 f2 f3 f4 f5 f6 f7 f8 v l w h (by omega) hf blk i hz (by omega)
  · have hrow : A.row blk = look A.L blk := by unfold Ar.row; rw [if_neg hz]
    rcases place_of hok hAL blk with ⟨hh, hn⟩ | ⟨hh, j, y, hy, hyk, hu, hyA⟩
    · have he : A.err blk i = 23 := by unfold Ar.err; rw [hrow, look_none.2 hh]
      unfold Ar.got Ar.gotW
      rw [he, if_neg (by omega), if_neg (by omega)]
      exact refGet_gone A f0 f1 f2 f3 f4 f5 f6 f7 f8 v l w h (by omega) hf blk i hz hn
    · have hlk : look A.L blk = some y.1.ws := hok.look_some.2 ⟨y.1, List.mem_of_getElem? hyA, hyk, rfl⟩
      by_cases hin : 0 ≤ i ∧ i < (y.1.ws.length : Int)
      · have he : A.err blk i = 0 := by unfold Ar.err; rw [hrow, hlk]; simp [hin]
        have hg : A.get blk i = y.1.ws.getD i.toNat 0 := by unfold Ar.get; rw [hrow, hlk]; rfl
        unfold Ar.got Ar.gotW
        rw [he, if_pos rfl, if_pos rfl, hg]
        exact refGet_blkin A f0 f1 f2 f3 f4 f5 f6 f7 f8 v l w h (by omega) hf blk i hz j y hy hyk hu hin.1 hin.2
      · have he : A.err blk i = 24 := by unfold Ar.err; rw [hrow, hlk]; simp [hin]
        unfold Ar.got Ar.gotW
        rw [he, if_neg (by omega), if_neg (by omega)]
        exact refGet_blkout A f0 f1 f2 f3 f4 f5 f6 f7 f8 v l w h (by omega) hf blk i hz j y hy hyk hu (by omega)
end Arn
end Go.Proofs.Ytfbnidjcimcfoaa
