/- follow over an arena; List, Handles. -/
import Derived.Test.YtmjdcpcndggflaaDoorHeadFollow
set_option linter.unusedVariables false
set_option linter.unusedSimpArgs false
namespace Go.Proofs.YtmjdcpcndggflaaDoor
namespace Hed
open Go.RowKit Go.Maps Arn

theorem readE_some {l : List Int} {e : Ent} (h : readE l = some e) : ∃ a b c, l = [a, b, c] ∧ e = (IntKind.i64.wrap a, b, c) ∧ entB (IntKind.i64.wrap a) b c = true := by
  match l, h with
  | [a, b, c], h =>
    rw [readE_three] at h
    split at h
    · cases h; exact ⟨a, b, c, rfl, rfl, by assumption⟩
    · cases h
theorem ents64 {A : Ar} (h : A.Ok) : ∀ k e, entsOf A.L k = some e → W64 e.2.2 := fun k e he => by
  obtain ⟨x, hx, _, hr⟩ := entsOf_some he
  obtain ⟨a, b, c, hl, rfl, _⟩ := readE_some hr
  exact h.wrd x hx c (by rw [hl]; simp)
theorem follow_any {w : World} {b : Nat} {M : Mem} {A : Ar} (h : ArAt w b M A) (hk : Ops.Kn w) (c : Int) (hc : W64 c) :
    Calls Tryd.prog 33 #[.pointer (some ⟨b, 0, none⟩), .int .u64 c] w fun e w' => FollowEnd w (chainF (entsOf A.L) 1000 c) e w' :=
  follow_walk _ c (entsOf A.L) w hc (ents64 h.ok) (fun W hT => entries_any (h.step hT) (hk.turn hT))
theorem fend_none {w w' : World} {e : Ending} (h : FollowEnd w none e w') : e = .returned (.tuple #[.agg #[.slice none 0 0, .slice none 0 0], .bool false]) ∧ Frm.Turn [] w w' := by
  rcases h with ⟨_, h1, h2⟩ | ⟨_, _, _, h, _⟩
  · exact ⟨h1, h2⟩
  · cases h
theorem fend_some {w w' : World} {e : Ending} {l : List (Int × Ent)} (h : FollowEnd w (some l) e w') : ∃ pre ve vh, some l = some pre ∧ e = .returned (.tuple #[.agg #[ve, vh], .bool true]) ∧ w'.ownsRow w.heap.size 26 3 ve pre.length (entCells pre) ∧ w'.ownsRow w.heap.size 22 1 vh pre.length (u64s (hands pre)) ∧ Frm.Turn [] w w' := by
  rcases h with ⟨h, _⟩ | h
  · cases h
  · exact h
/-- How List answers. -/
def ListEnd (w : World) (o : Option (List (Int × Ent))) (e : Ending) (w' : World) : Prop :=
  (o = none ∧ e = .returned (.tuple #[.slice none 0 0, .bool false]) ∧ Frm.Turn [] w w') ∨
  ∃ pre v, o = some pre ∧ e = .returned (.tuple #[v, .bool true]) ∧ w'.ownsRow w.heap.size 26 3 v pre.length (entCells pre) ∧ Frm.Turn [] w w'
/-- How Handles answers. -/
def HandsEnd (w : World) (o : Option (List (Int × Ent))) (e : Ending) (w' : World) : Prop :=
  (o = none ∧ e = .returned (.tuple #[.slice none 0 0, .bool false]) ∧ Frm.Turn [] w w') ∨
  ∃ pre v, o = some pre ∧ e = .returned (.tuple #[v, .bool true]) ∧ w'.ownsRow w.heap.size 22 1 v pre.length (u64s (hands pre)) ∧ Frm.Turn [] w w'
set_option maxRecDepth 100000 in
set_option maxHeartbeats 4000000 in
theorem List_of (av : Value) (c : Int) (w : World) (o : Option (List (Int × Ent))) (hF : Calls Tryd.prog 33 #[av, .int .u64 c] w fun e w' => FollowEnd w o e w') :
    Calls Tryd.prog 20 #[av, .int .u64 c] w fun e w' => ListEnd w o e w' := by
  have HF := Lib.hid hF
  clear hF
  cases o with
  | none =>
    go_enter Tryd.func20, Tryd.ntmps20
    go_wp2_with (go_at_call 33; (with_reducible refine (HF.out).mono ?_); rintro e w1 hend; obtain ⟨rfl, hT⟩ := fend_none hend; have HT := Lib.hid hT; clear hT hend)
    go_ret2
    exact .inl ⟨rfl, rfl, HT.out.alloc _⟩
  | some l =>
    go_enter Tryd.func20, Tryd.ntmps20
    go_wp2_with (go_at_call 33; (with_reducible refine (HF.out).mono ?_); rintro e w1 hend; obtain ⟨pre, ve, vh, hh, rfl, hve, hvh, hT⟩ := fend_some hend; obtain ⟨a1, c1, rfl⟩ := Frm.row_form hve; obtain ⟨a2, c2, rfl⟩ := Frm.row_form hvh; have HV := Lib.hid (And.intro hh (And.intro hve (And.intro hvh hT))); clear hh hve hvh hT hend)
    go_ret2
    exact .inr ⟨pre, _, HV.out.1, rfl, Frm.owns_turn HV.out.2.1 ((Frm.Turn.refl [] w1).alloc _) (by simp), HV.out.2.2.2.alloc _⟩
set_option maxRecDepth 100000 in
set_option maxHeartbeats 4000000 in
theorem Handles_of (av : Value) (c : Int) (w : World) (o : Option (List (Int × Ent))) (hF : Calls Tryd.prog 33 #[av, .int .u64 c] w fun e w' => FollowEnd w o e w') :
    Calls Tryd.prog 21 #[av, .int .u64 c] w fun e w' => HandsEnd w o e w' := by
  have HF := Lib.hid hF
  clear hF
  cases o with
  | none =>
    go_enter Tryd.func21, Tryd.ntmps21
    go_wp2_with (go_at_call 33; (with_reducible refine (HF.out).mono ?_); rintro e w1 hend; obtain ⟨rfl, hT⟩ := fend_none hend; have HT := Lib.hid hT; clear hT hend)
    go_ret2
    exact .inl ⟨rfl, rfl, HT.out.alloc _⟩
  | some l =>
    go_enter Tryd.func21, Tryd.ntmps21
    go_wp2_with (go_at_call 33; (with_reducible refine (HF.out).mono ?_); rintro e w1 hend; obtain ⟨pre, ve, vh, hh, rfl, hve, hvh, hT⟩ := fend_some hend; obtain ⟨a1, c1, rfl⟩ := Frm.row_form hve; obtain ⟨a2, c2, rfl⟩ := Frm.row_form hvh; have HV := Lib.hid (And.intro hh (And.intro hve (And.intro hvh hT))); clear hh hve hvh hT hend)
    go_ret2
    exact .inr ⟨pre, _, HV.out.1, rfl, Frm.owns_turn HV.out.2.2.1 ((Frm.Turn.refl [] w1).alloc _) (by simp), HV.out.2.2.2.alloc _⟩
end Hed
end Go.Proofs.YtmjdcpcndggflaaDoor
