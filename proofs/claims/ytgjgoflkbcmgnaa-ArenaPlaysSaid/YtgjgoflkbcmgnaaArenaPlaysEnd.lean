/- The loop behind of law ArenaPlays, as a lemma. -/
import Derived.Test.YtgjgoflkbcmgnaaArenaPlaysPre
set_option linter.unusedVariables false
set_option linter.unusedSimpArgs false
namespace Go.Proofs.Ytgjgoflkbcmgnaa
namespace Arn
open Go.RowKit Hp Go.Maps
set_option maxRecDepth 100000 in
set_option maxHeartbeats 64000000 in
theorem plays_end {cap : Nat} {most : Int} {a0 : Option Addr} {len lc : Nat} {w w1 wr : World} {b j g0 kk : Nat} {st : List One} {ga ca gw cw : Nat} {u6 u20 u21 u22 u23 u24 u25 u26 u27 u28 u29 u30 u31 u32 u33 u34 u35 u36 u37 u38 u39 u40 u41 u42 u43 u44 u45 u46 u47 u176 u177 u178 u179 u180 u181 u182 u183 u184 u185 u186 u187 u188 u189 u190 u191 u192 u193 u194 u195 u196 u197 u198 u199 u200 u201 u202 u203 u204 u205 u206 u207 u208 u209 u210 u211 u212 u213 u214 u215 u216 u217 u218 u219 u220 u221 u222 u223 u224 u225 u226 u227 u228 u229 u230 u231 u232 u233 u234 u235 u236 u237 u238 u239 u240 u241 u242 u243 u244 u245 u246 u247 u248 u249 u250 u251 u252 u253 u254 u255 u256 u257 u258 u259 u260 u261 u262 u263 u264 u265 u266 u267 u268 u269 u270 u271 u272 u273 u274 u275 u276 u277 u278 u279 u280 u281 u282 u283 u284 u285 u286 u287 u288 u289 u290 u291 u292 u293 u294 u295 u296 u297 u298 u299 u300 u301 u302 u303 u304 u305 u306 u307 u308 u309 u310 u311 u312 u313 u314 u315 u316 u317 u318 u319 u320 u321 u322 u323 u324 u325 u326 u327 u328 u329 u330 u331 u332 u333 u334 u335 u336 u337 u338 u339 u340 u341 u342 u343 u344 u345 u346 u347 u348 u349 u350 u351 u352 u353 u354 u355 u356 u357 u358 u359 u360 u361 u362 u363 u364 u365 u366 u367 u368 u369 u370 u371 : Value} {K : Act → World → Prop} (hc : cap ≤ 60000) (hl : len ≤ 100) (hj : j ≤ len) (HT1 : Hid (Frm.Turn [] w w1)) (HM : Hid (Many w1 wr j st ga ca gw cw)) (HA : Hid (∀ (j : Nat) (x : One), st[j]? = some x → x.R = x.A)) (hpos : 0 < st.length) (hfew : st.length ≤ 4)
    (hK : ∀ (a : Act) (w' : World), Code.wp Try.prog restC (bodyPost Try.prog Try.f3 fun e w' => e = .returned (.bool true) ∧ Frm.Turn [] w w') a w' → K a w') :
    Code.wp Try.prog endC (Exit.inBlock 3 (Exit.then K (bodyPost Try.prog Try.f3 fun e w' => e = .returned (.bool true) ∧ Frm.Turn [] w w')))
      { tmps := #[Value.int IntKind.i64 ↑cap, Value.slice a0 len lc, Value.int IntKind.i64 most, undef, undef, undef, u6,
          Value.pointer (some { block := b, off := 0 }), Value.int IntKind.i64 0, undef, undef, undef, undef, undef,
          undef, undef, undef, Value.slice (some { block := ga, off := 0 }) st.length ca,
          Value.slice (some { block := gw, off := 0 }) st.length cw, undef, u20, u21, u22, u23, u24, u25, u26, u27, u28,
          u29, u30, u31, u32, u33, u34, u35, u36, u37, u38, u39, u40, u41, u42, u43, u44, u45, u46, u47,
          Value.int IntKind.i64 ↑kk, undef, undef, undef, Value.bool true, Value.bool false, Value.slice a0 len lc,
          Value.bool false, Value.tuple #[Value.pointer (some { block := b, off := 0 }), Value.int IntKind.i64 0],
          Value.int IntKind.i64 ↑cap,
          Value.tuple #[Value.pointer (some { block := b, off := 0 }), Value.int IntKind.i64 0],
          Value.pointer (some { block := b, off := 0 }), Value.int IntKind.i64 0, Value.int IntKind.i64 ↑cap,
          Value.bool false, Value.bool false, Value.int IntKind.i64 ↑cap, Value.bool false, Value.bool false, undef,
          undef, undef, undef, undef, undef, undef, undef, undef, undef, undef, undef, undef, undef, undef, undef,
          undef, undef, undef, undef, undef, undef, undef, undef, undef, undef, undef, undef, undef, undef, undef,
          undef, undef, undef, undef, undef, undef, undef, undef, undef, undef, undef, undef, undef, undef, undef,
          undef, undef, undef, undef, undef, undef, undef, undef, undef, undef, undef, undef, undef, undef, undef,
          undef, undef, undef, undef, undef, undef, undef, undef, undef, undef, undef, undef, undef, undef, undef,
          undef, undef, undef, undef, undef, undef, undef, undef, undef, undef, undef, undef, undef, undef, undef,
          undef, undef, undef, undef, undef, undef, undef, undef, undef, Value.pointer (some { block := b, off := 0 }),
          Value.slice (some { block := g0, off := 0 }) 1 1, Value.int IntKind.i64 ↑cap,
          Value.agg
            #[Value.int IntKind.i64 ↑cap, Value.int IntKind.i64 0, Value.int IntKind.i64 0, Value.int IntKind.i64 0,
              Value.int IntKind.u64 0, Value.int IntKind.u64 0, Value.int IntKind.u64 0, Value.int IntKind.u64 0,
              Value.int IntKind.u64 0, Value.int IntKind.u64 0, Value.int IntKind.u64 0, Value.int IntKind.u64 0,
              Value.int IntKind.u64 0, Value.slice none 0 0, Value.int IntKind.i64 0, Value.int IntKind.i64 0,
              Value.int IntKind.i64 0, Value.int IntKind.i64 0, Value.int IntKind.i64 0, Value.int IntKind.i64 0],
          Value.slice (some { block := g0 + 1, off := 0 }) 1 1, Value.slice a0 len lc, Value.int IntKind.i64 ↑len,
          Value.int IntKind.i64 ↑j, Value.bool false, u176, u177, u178, u179, u180, u181, u182, u183, u184, u185, u186,
          u187, u188, u189, u190, u191, u192, u193, u194, u195, u196, u197, u198, u199, u200, u201, u202, u203, u204,
          u205, u206, u207, u208, u209, u210, u211, u212, u213, u214, u215, u216, u217, u218, u219, u220, u221, u222,
          u223, u224, u225, u226, u227, u228, u229, u230, u231, u232, u233, u234, u235, u236, u237, u238, u239, u240,
          u241, u242, u243, u244, u245, u246, u247, u248, u249, u250, u251, u252, u253, u254, u255, u256, u257, u258,
          u259, u260, u261, u262, u263, u264, u265, u266, u267, u268, u269, u270, u271, u272, u273, u274, u275, u276,
          u277, u278, u279, u280, u281, u282, u283, u284, u285, u286, u287, u288, u289, u290, u291, u292, u293, u294,
          u295, u296, u297, u298, u299, u300, u301, u302, u303, u304, u305, u306, u307, u308, u309, u310, u311, u312,
          u313, u314, u315, u316, u317, u318, u319, u320, u321, u322, u323, u324, u325, u326, u327, u328, u329, u330,
          u331, u332, u333, u334, u335, u336, u337, u338, u339, u340, u341, u342, u343, u344, u345, u346, u347, u348,
          u349, u350, u351, u352, u353, u354, u355, u356, u357, u358, u359, u360, u361, u362, u363, u364, u365, u366,
          u367, u368, u369, u370, u371, Value.int IntKind.i64 most, Value.int IntKind.i64 (min most 100),
          Value.int IntKind.i64 ↑kk, Value.slice (some { block := ga, off := 0 }) st.length ca,
          Value.int IntKind.i64 ↑st.length, Value.int IntKind.i64 0, undef, undef, undef, undef, undef, undef, undef,
          undef, undef, undef, undef, undef, undef, undef, undef, undef, undef, undef, undef, undef, undef, undef,
          undef, undef, undef, undef, undef, undef, undef, undef, undef, undef, undef, undef, undef, undef, undef,
          undef, undef, undef, undef, undef, undef, undef, undef, undef, undef, undef, undef, undef, undef, undef,
          undef, undef, undef, undef, undef, undef, undef, undef, undef, undef, undef, undef, undef, undef, undef,
          undef, undef, undef, undef, undef, undef, undef, undef, undef, undef, undef, undef, undef, undef, undef,
          undef, undef, undef, undef, undef, undef, undef, undef, undef, undef, undef, undef, undef, undef], defers := [] } wr := by
  simp only [endC, restC, cblk, csnd, cfst, nth, Option.getD_some, Try.f3] at hK ⊢
  go_loopw [377] (fun i wr' => ∃ q : Nat, q ≤ st.length ∧ i = .int .i64 q ∧ Frm.Turn [] wr wr') (fun i _ => st.length - (intOf i).toNat)
  case atStart => exact ⟨0, by omega, rfl, Frm.Turn.refl [] wr⟩
  case round =>
    obtain ⟨q, hq, rfl, hT⟩ := hrel
    by_cases hql : q < st.length
    · obtain ⟨x, hx⟩ : ∃ x, st[q]? = some x := ⟨_, List.getElem?_eq_getElem hql⟩
      have hM2 := HM.out.step hT
      have hE := hM2.each q x hx
      obtain ⟨bv, bl, hbv, hblk, hbL⟩ := hE.ref.blocks
      obtain ⟨va, vc, rfl⟩ := hblk.form
      have hRA := HA.out q x hx
      have hsz := hE.size
      have hcp := hM2.ptr_at hx
      have h13 : wr.cell? ⟨gw, q * 20 + 13, none⟩ = some (.slice va bl.length vc) := by
        have := hM2.range_at hx 13 (.slice va bl.length vc) (by simpa using hbv)
        exact this
      have HX := Lib.hid hx
      have HM2 := Lib.hid hM2
      have HE := Lib.hid hE
      have HBK := Lib.hid hblk
      have HT := Lib.hid hT
      have HBV := Lib.hid hbv
      clear hM2 hE hblk hx hT hbv
      have hqi : (q : Int) < (st.length : Int) := by omega
      have hq0 : (0 : Int) ≤ (q : Int) := by omega
      go_upto_if 388 with fail
      go_cut [51] from 389 to 408 (fun s51 W => s51 = .int .i64 0 ∧ ∃ m, W = wr.drewN m)
      case first =>
        cases bl with
        | nil =>
          simp only [List.length_nil] at h13
          go_wp2_with fail
          go_meet
          exact ⟨rfl, 0, rfl⟩
        | cons z rest =>
          obtain ⟨g, rfl, hcell⟩ : ∃ g, va = some ⟨g, 0, none⟩ ∧ ∀ j u, (rbCells (z :: rest))[j]? = some u → wr.cell? ⟨g, j, none⟩ = some u := by
            rcases HBK.out.head with ⟨_, e2⟩ | ⟨g, c', e1, _, _, hc⟩
            · simp at e2
            · simp only [Value.slice.injEq] at e1
              exact ⟨g, e1.1, hc⟩
          have hc0 : wr.cell? ⟨g, 0, none⟩ = some (.int .u64 z.1.h) := hcell 0 _ (by simp [rbCells])
          obtain ⟨ya, yc, hyf⟩ : ∃ ya yc, z.2 = .slice ya z.1.ws.length yc := by
            rcases HBK.out.rows z (by simp) with ⟨e1, e2⟩ | ⟨a, c, e1, _⟩
            · exact ⟨none, 0, by rw [e1, e2]; rfl⟩
            · exact ⟨_, _, e1⟩
          have hc1 : wr.cell? ⟨g, 1, none⟩ = some (.slice ya z.1.ws.length yc) := hcell 1 _ (by rw [← hyf]; simp [rbCells])
          have hokx := HE.out.sin.at_.ok
          have hzL : z.1 ∈ x.A.L := by rw [← hRA, ← hbL]; simp
          have hzn := hokx.len _ hzL
          have hzh := hokx.hnd _ hzL
          have hzb := hokx.births
          have h64 : W64 z.1.h := by unfold W64; omega
          have hAs : x.A.size z.1.h = z.1.ws.length := by
            unfold Ar.size
            rw [hokx.look_some.2 ⟨z.1, hzL, rfl, rfl⟩]; rfl
          have HSZ := Lib.hid (fun n => size_any (HE.out.sin.at_.step ((Frm.Turn.refl [] wr).drewN n)) z.1.h h64)
          rw [hAs] at HSZ
          obtain ⟨zn, HZN⟩ : ∃ zn, Hid (zn = z.1.ws.length) := ⟨_, Lib.hid rfl⟩
          have hzn2 : zn ≤ 2048 := by rw [HZN.out]; exact hzn.2
          rw [← HZN.out] at HSZ hc1
          simp only [List.length_cons] at h13
          obtain ⟨bn, HBN⟩ : ∃ bn, Hid (bn = rest.length + 1) := ⟨_, Lib.hid rfl⟩
          rw [← HBN.out] at h13
          have hbn : (0 : Int) < (bn : Int) := by have := HBN.out; omega
          have hbn0 : 0 < bn := by have := HBN.out; omega
          have hcl : 0 < (z :: rest).length := by simp
          clear hcell hyf hokx hzL hzn hzh hzb h64 hAs
          go_upto_region 65 with fail
          clear hfew
          go_quiet ((go_at_call 20; exact Calls.quiet_of_same ((HSZ.out _).mono (fun e w' h => ⟨h.1, h.2.symm⟩))))
          go_wp2_with fail
          go_meet
          exact ⟨rfl, _, rfl⟩
      case rest =>
        obtain ⟨rfl, m, rfl⟩ := hcut
        clear h13
        obtain ⟨x0, hx0⟩ : ∃ x0, st[0]? = some x0 := ⟨_, List.getElem?_eq_getElem hpos⟩
        have hE0 := HM2.out.each 0 x0 hx0
        have hRA0 := HA.out 0 x0 hx0
        obtain ⟨bv0, bl0, hbv0, hblk0, hbL0⟩ := hE0.ref.blocks
        obtain ⟨va0, vc0, rfl⟩ := hblk0.form
        have hokx := HE.out.sin.at_.ok
        have hok0 := hE0.sin.at_.ok
        obtain ⟨C1, HC1⟩ : ∃ C1, Hid (C1 = u64s x.A.fixed) := ⟨_, Lib.hid rfl⟩
        obtain ⟨C2, HC2⟩ : ∃ C2, Hid (C2 = u64s x0.A.fixed) := ⟨_, Lib.hid rfl⟩
        obtain ⟨r, HRr⟩ : ∃ r, Hid (r = sameAr x.A x0.A) := ⟨_, Lib.hid rfl⟩
        obtain ⟨ev, HEV⟩ : ∃ ev, Hid (ev = (x.A.fixed == x0.A.fixed)) := ⟨_, Lib.hid rfl⟩
        have hrefA : RefS wr x.A (.agg x.cs) x.G := by have := HE.out.ref; rwa [hRA] at this
        have hrefB : RefS wr x0.A (.agg x0.cs) x0.G := by have := hE0.ref; rwa [hRA0] at this
        have HRS := Lib.hid (fun (W : World) (h : Frm.Turn [] wr W) => (show W.cell? ⟨ga, q, none⟩ = some (.pointer (some ⟨x.b, 0, none⟩)) ∧ W.cell? ⟨ga, 0, none⟩ = some (.pointer (some ⟨x0.b, 0, none⟩)) ∧ W.rangeAt gw (q * 20) x.cs.toList ∧
            W.cell? ⟨gw, q * 20 + 13, none⟩ = some (.slice va bl.length vc) ∧ W.cell? ⟨gw, 13, none⟩ = some (.slice va0 bl0.length vc0) ∧ W.rangeAt gw (q * 20 + 4) C1 ∧ W.rangeAt gw 4 C2 from by
          have hW := HM2.out.step h
          have ra := hW.range_at HX.out
          have rb := hW.range_at hx0
          refine ⟨hW.ptr_at HX.out, hW.ptr_at hx0, ra, ra 13 _ (by simpa using HBV.out), ?_, fun j u hu => ?_, fun j u hu => ?_⟩
          · have := rb 13 (.slice va0 bl0.length vc0) (by simpa using hbv0)
            simpa using this
          · rw [HC1.out] at hu
            have := ra (4 + j) u (RefS.fixed hrefA j u hu)
            rw [Nat.add_assoc]; exact this
          · rw [HC2.out] at hu
            have := rb (4 + j) u (RefS.fixed hrefB j u hu)
            simpa using this))
        obtain ⟨fs, hfs⟩ := struct_of under_refA
        have HFS := Lib.hid hfs
        have HI20 : Hid ((Try.prog.info? 54).map (·.size) = some x.cs.toList.length) := Lib.hid (by rw [Array.length_toList, hsz]; exact info_refA)
        have hun9 := under_nine
        have i1 : (Try.prog.info? 52).map (·.size) = some C1.length := by rw [HC1.out, length_u64s, hokx.nine]; exact size_nine
        have i2 : (Try.prog.info? 52).map (·.size) = some C2.length := by rw [HC2.out, length_u64s, hok0.nine]; exact size_nine
        have hE1 : ∀ w, (Op.equalIn 10000 52 (.agg C1.toArray) (.agg C2.toArray)).run Try.prog w = .ok ev w := by
          rw [HC1.out, HC2.out, HEV.out]; exact fun w => equal_nine w _ _ hokx.nine hok0.nine
        obtain ⟨mn, hmn, hmn1⟩ : ∃ mn : Nat, min (kk : Int) (bl.length : Int) = (mn : Int) ∧ mn = min kk bl.length := ⟨min kk bl.length, by omega, rfl⟩
        have hmnl : mn ≤ bl.length := by omega
        obtain ⟨hhd, hmv, hva⟩ := HBK.out.head_of mn hmnl
        have HVA := Lib.hid hva
        have hl60 : ∀ (X : Ar) (l : List RB), X.Ok → l.map Prod.fst = X.L → l.length ≤ 70000 ∧ ∀ z, z ∈ l → z.1.ws.length ≤ 70000 := fun X l hX hl => by
          have e1 : l.length = X.L.length := by rw [← hl]; simp
          have h3 := length_le_used (fun z hz => (hX.len z hz).1)
          have h4 := hX.top
          have h5 := hX.peak
          have h6 := hX.cap
          refine ⟨by omega, fun z hz => ?_⟩
          have := (hX.len z.1 (by rw [← hl]; exact List.mem_map.2 ⟨z, hz, rfl⟩)).2
          omega
        have hbA : bl.map Prod.fst = x.A.L := by rw [hbL, hRA]
        have hbB : bl0.map Prod.fst = x0.A.L := by rw [hbL0, hRA0]
        have lA := hl60 _ _ hokx hbA
        have lB := hl60 _ _ hok0 hbB
        have HLS := Lib.hid (fun (W : World) (h : Frm.Turn [] wr W) => lawSame_any (HE.out.sin.at_.step h) (.agg x.cs) x.G (hrefA.turn h (by simp)))
        have HBL := Lib.hid (fun (W : World) (h : Frm.Turn [] wr W) => blocks_any (HE.out.sin.at_.step h) (kk : Int))
        have HSM : Hid (∀ W, Frm.Turn [] wr W → Calls Try.prog 25 #[.pointer (some ⟨x.b, 0, none⟩), .pointer (some ⟨x0.b, 0, none⟩)] W fun e w' => e = .returned (.bool r) ∧ Frm.Turn [] W w') :=
          Lib.hid (fun W h => by rw [HRr.out]; exact same_any (HE.out.sin.at_.step h) (hE0.sin.at_.step h))
        have HCM : Hid (∀ W, Frm.Turn [] wr W → ∀ v (ys : List Got), BlksAt W v (ys.map asRB) → ys.map Prod.fst = x.A.L.take (kk : Int).toNat → Calls Try.prog 34 #[v, .slice va mn vc] W fun e w' => e = .returned (.bool true) ∧ Frm.Turn [] W w') :=
          Lib.hid (fun W h v ys hv hys => by
            rw [Int.toNat_natCast] at hys
            have hl1 : (ys.map asRB).map Prod.fst = x.A.L.take kk := by rw [got_fst, hys]
            have hsub : ∀ z, z ∈ ys.map asRB → z.1 ∈ x.A.L := fun z hz => List.mem_of_mem_take (by rw [← hl1]; exact List.mem_map.2 ⟨z, hz, rfl⟩)
            refine (refSame_any v (.slice va mn vc) (ys.map asRB) (bl.take mn) W hv (hhd.step h) ?_ ?_ ?_ ?_).mono ?_
            · have e1 : (ys.map asRB).length = (x.A.L.take kk).length := by rw [← hl1]; simp
              have e2 : x.A.L.length = bl.length := by rw [← hbA]; simp
              rw [e1, List.length_take]; have := lA.1; omega
            · rw [List.length_take]; have := lA.1; omega
            · intro z hz; have := (hokx.len _ (hsub z hz)).2; omega
            · intro z hz; exact lA.2 z (List.mem_of_mem_take hz)
            · rintro e w' ⟨b2, rfl, hb2, hT⟩
              have : b2 = true := hb2.2 (by
                rw [hl1, List.map_take, hbA, hmn1]
                have e2 : bl.length = x.A.L.length := by rw [← hbA]; simp
                rw [e2, List.take_eq_take_iff]; omega)
              exact ⟨by rw [this], hT⟩)
        have HRF : Hid (ev = false → r = false) := Lib.hid (fun h => by
          rw [HRr.out]; rw [HEV.out] at h; unfold sameAr; rw [h]; rfl)
        have HRT : Hid (∀ W, Frm.Turn [] wr W → ev = true → Calls Try.prog 34 #[.slice va bl.length vc, .slice va0 bl0.length vc0] W fun e w' => e = .returned (.bool r) ∧ Frm.Turn [] W w') :=
          Lib.hid (fun W h hev => by
            refine (refSame_any _ _ bl bl0 W (HBK.out.step h) (hblk0.step h) lA.1 lB.1 lA.2 lB.2).mono ?_
            rintro e w' ⟨b2, rfl, hb2, hT⟩
            have hs := same_ar hokx hok0
            have hf : x.A.fixed = x0.A.fixed := by rw [HEV.out] at hev; simpa using hev
            have : b2 = r := by
              rw [HRr.out, Bool.eq_iff_iff, hb2, hs, hbA, hbB]
              exact ⟨fun e => ⟨hf, e⟩, fun e => e.2⟩
            exact ⟨by rw [this], hT⟩)
        have TU0 : Hid (Frm.Turn [] wr (wr.drewN m).drew) := Lib.hid ((Frm.Turn.refl [] wr).drewN m).drew
        have hpi : (0 : Int) < (st.length : Int) := by omega
        have hmn0 : (0 : Int) ≤ (mn : Int) := by omega
        have hmvi : (mn : Int) ≤ (vc : Int) := by omega
        clear hE0 hRA0 hbv0 hblk0 hbL0 hokx hok0 hrefA hrefB hfs hl60 hbA hbB lA lB hhd hva hx0 hbL hRA hmn1 hmnl
        go_upto_region 66 with fail
        refine wp_region_held_drew (S := fun W => W.cell? ⟨ga, q, none⟩ = some (.pointer (some ⟨x.b, 0, none⟩)) ∧ W.cell? ⟨ga, 0, none⟩ = some (.pointer (some ⟨x0.b, 0, none⟩)) ∧ W.rangeAt gw (q * 20) x.cs.toList ∧
            W.cell? ⟨gw, q * 20 + 13, none⟩ = some (.slice va bl.length vc) ∧ W.cell? ⟨gw, 13, none⟩ = some (.slice va0 bl0.length vc0) ∧ W.rangeAt gw (q * 20 + 4) C1 ∧ W.rangeAt gw 4 C2) (by kernel_rfl) ?_ (fun hHeld => ?_)
        · exact HRS.out _ TU0.out
        generalize (wr.drewN m).drew = U0 at TU0 hHeld ⊢
        refine wpAnyH_take (i := 0) (v := ?_) rfl (by kernel_rfl) (by kernel_rfl) (by kernel_rfl) (fun _ _ _ h => h) (Or.inl ⟨by rfl, ?_⟩) (by assumption) ?_
        rotate_left
        · (intro w hSw; (try dsimp only at hSw); go_simp; try with_reducible rfl)
        simp only [Act.put, List.getElem_toArray, List.getElem_cons_succ, List.getElem_cons_zero, List.setIfInBounds_toArray, List.set_cons_zero, List.set_cons_succ]
        refine wpAnyH_take (i := 1) (v := ?_) rfl (by kernel_rfl) (by kernel_rfl) (by kernel_rfl) (fun _ _ _ h => h) (Or.inl ⟨by rfl, ?_⟩) (by assumption) ?_
        rotate_left
        · (intro w hSw; (try dsimp only at hSw); go_simp; try with_reducible rfl)
        simp only [Act.put, List.getElem_toArray, List.getElem_cons_succ, List.getElem_cons_zero, List.setIfInBounds_toArray, List.set_cons_zero, List.set_cons_succ]
        refine wpAnyH_take (i := 2) (v := ?_) rfl (by kernel_rfl) (by kernel_rfl) (by kernel_rfl) (fun _ _ _ h => h) (Or.inl ⟨by rfl, ?_⟩) (by assumption) ?_
        rotate_left
        · (intro w hSw; (try dsimp only at hSw); go_simp; try with_reducible rfl)
        simp only [Act.put, List.getElem_toArray, List.getElem_cons_succ, List.getElem_cons_zero, List.setIfInBounds_toArray, List.set_cons_zero, List.set_cons_succ]
        refine wpAnyH_take (i := 3) (v := ?_) rfl (by kernel_rfl) (by kernel_rfl) (by kernel_rfl) (fun _ _ _ h => h) (Or.inl ⟨by rfl, ?_⟩) (by assumption) ?_
        rotate_left
        · (intro w hSw; (try dsimp only at hSw); go_simp; try with_reducible rfl)
        simp only [Act.put, List.getElem_toArray, List.getElem_cons_succ, List.getElem_cons_zero, List.setIfInBounds_toArray, List.set_cons_zero, List.set_cons_succ]
        refine wpAnyH_take (i := 4) (v := _) rfl (by kernel_rfl) (by kernel_rfl) (by kernel_rfl) (fun _ _ _ h => h)
            (yieldsIf_load_mid (by first | rfl | simp [Region.wanted, yielded]) _ _ rfl gw (q * 20) rfl x.cs.toList _ (fun w hw => hw.2.2.1) HFS.out rfl HI20.out) (by assumption) ?_
        simp only [Act.put, List.setIfInBounds_toArray, List.set_cons_zero, List.set_cons_succ, Array.toArray_toList]
        refine wpAnyH_ready (rs := [5]) (by kernel_rfl) (by simp) ?_
        refine AllReadyH.cons rfl (fun K hK => ?_) AllReadyH.nil
        have HK5 := Lib.hid hK
        clear hK
        simp only [List.getElem_toArray, List.getElem_cons_succ, List.getElem_cons_zero]
        go_simp
        (go_at_call 33; go_must (with_reducible refine (HLS.out _ TU0.out).mono ?_))
        rintro e V5 ⟨rfl, hT5⟩
        have TV5 : Hid (Frm.Turn [] wr V5) := Lib.hid (TU0.out.trans hT5 (by simp))
        clear hT5
        refine HK5.out _ _ (HRS.out _ TV5.out) (fun hHeld => ?_)
        refine wpAnyH_take (i := 6) (v := ?_) rfl (by kernel_rfl) (by kernel_rfl) (by kernel_rfl) (fun _ _ _ h => h) (Or.inl ⟨by rfl, ?_⟩) (by assumption) ?_
        rotate_left
        · (intro w hSw; (try dsimp only at hSw); go_simp; try with_reducible rfl)
        simp only [Act.put, List.getElem_toArray, List.getElem_cons_succ, List.getElem_cons_zero, List.setIfInBounds_toArray, List.set_cons_zero, List.set_cons_succ]
        refine wpAnyH_take (i := 7) (v := ?_) rfl (by kernel_rfl) (by kernel_rfl) (by kernel_rfl) (fun _ _ _ h => h) (Or.inl ⟨by rfl, ?_⟩) (by assumption) ?_
        rotate_left
        · (intro w hSw; (try dsimp only at hSw); go_simp; try with_reducible rfl)
        simp only [Act.put, List.getElem_toArray, List.getElem_cons_succ, List.getElem_cons_zero, List.setIfInBounds_toArray, List.set_cons_zero, List.set_cons_succ]
        refine wpAnyH_take (i := 8) (v := ?_) rfl (by kernel_rfl) (by kernel_rfl) (by kernel_rfl) (fun _ _ _ h => h) (Or.inl ⟨by rfl, ?_⟩) (by assumption) ?_
        rotate_left
        · (intro w hSw; (try dsimp only at hSw); go_simp; try with_reducible rfl)
        simp only [Act.put, List.getElem_toArray, List.getElem_cons_succ, List.getElem_cons_zero, List.setIfInBounds_toArray, List.set_cons_zero, List.set_cons_succ]
        refine wpAnyH_take (i := 9) (v := ?_) rfl (by kernel_rfl) (by kernel_rfl) (by kernel_rfl) (fun _ _ _ h => h) (Or.inl ⟨by rfl, ?_⟩) (by assumption) ?_
        rotate_left
        · (intro w hSw; (try dsimp only at hSw); go_simp; try with_reducible rfl)
        simp only [Act.put, List.getElem_toArray, List.getElem_cons_succ, List.getElem_cons_zero, List.setIfInBounds_toArray, List.set_cons_zero, List.set_cons_succ]
        refine wpAnyH_take (i := 10) (v := ?_) rfl (by kernel_rfl) (by kernel_rfl) (by kernel_rfl) (fun _ _ _ h => h) (Or.inl ⟨by rfl, ?_⟩) (by assumption) ?_
        rotate_left
        · (intro w hSw; (try dsimp only at hSw); go_simp; try with_reducible rfl)
        simp only [Act.put, List.getElem_toArray, List.getElem_cons_succ, List.getElem_cons_zero, List.setIfInBounds_toArray, List.set_cons_zero, List.set_cons_succ]
        refine wpAnyH_take (i := 11) (v := ?_) rfl (by kernel_rfl) (by kernel_rfl) (by kernel_rfl) (fun _ _ _ h => h) (Or.inl ⟨by rfl, ?_⟩) (by assumption) ?_
        rotate_left
        · (intro w hSw; (try dsimp only at hSw); go_simp; try with_reducible rfl)
        simp only [Act.put, List.getElem_toArray, List.getElem_cons_succ, List.getElem_cons_zero, List.setIfInBounds_toArray, List.set_cons_zero, List.set_cons_succ]
        refine wpAnyH_take (i := 12) (v := ?_) rfl (by kernel_rfl) (by kernel_rfl) (by kernel_rfl) (fun _ _ _ h => h) (Or.inl ⟨by rfl, ?_⟩) (by assumption) ?_
        rotate_left
        · (intro w hSw; (try dsimp only at hSw); go_simp; try with_reducible rfl)
        simp only [Act.put, List.getElem_toArray, List.getElem_cons_succ, List.getElem_cons_zero, List.setIfInBounds_toArray, List.set_cons_zero, List.set_cons_succ]
        refine wpAnyH_take (i := 13) (v := ?_) rfl (by kernel_rfl) (by kernel_rfl) (by kernel_rfl) (fun _ _ _ h => h) (Or.inl ⟨by rfl, ?_⟩) (by assumption) ?_
        rotate_left
        · (intro w hSw; (try dsimp only at hSw); go_simp; try with_reducible rfl)
        simp only [Act.put, List.getElem_toArray, List.getElem_cons_succ, List.getElem_cons_zero, List.setIfInBounds_toArray, List.set_cons_zero, List.set_cons_succ]
        refine wpAnyH_take (i := 15) (v := ?_) rfl (by kernel_rfl) (by kernel_rfl) (by kernel_rfl) (fun _ _ _ h => h) (Or.inl ⟨by rfl, ?_⟩) (by assumption) ?_
        rotate_left
        · (intro w hSw; (try dsimp only at hSw); go_simp; try with_reducible rfl)
        simp only [Act.put, List.getElem_toArray, List.getElem_cons_succ, List.getElem_cons_zero, List.setIfInBounds_toArray, List.set_cons_zero, List.set_cons_succ]
        refine wpAnyH_take (i := 16) (v := ?_) rfl (by kernel_rfl) (by kernel_rfl) (by kernel_rfl) (fun _ _ _ h => h) (Or.inl ⟨by rfl, ?_⟩) (by assumption) ?_
        rotate_left
        · (intro w hSw; (try dsimp only at hSw); go_simp; try with_reducible rfl)
        simp only [Act.put, List.getElem_toArray, List.getElem_cons_succ, List.getElem_cons_zero, List.setIfInBounds_toArray, List.set_cons_zero, List.set_cons_succ]
        refine wpAnyH_take (i := 17) (v := ?_) rfl (by kernel_rfl) (by kernel_rfl) (by kernel_rfl) (fun _ _ _ h => h) (Or.inl ⟨by rfl, ?_⟩) (by assumption) ?_
        rotate_left
        · (intro w hSw; (try dsimp only at hSw); go_simp; try with_reducible rfl)
        simp only [Act.put, List.getElem_toArray, List.getElem_cons_succ, List.getElem_cons_zero, List.setIfInBounds_toArray, List.set_cons_zero, List.set_cons_succ]
        refine wpAnyH_take (i := 18) (v := ?_) rfl (by kernel_rfl) (by kernel_rfl) (by kernel_rfl) (fun _ _ _ h => h) (Or.inl ⟨by rfl, ?_⟩) (by assumption) ?_
        rotate_left
        · (intro w hSw; (try dsimp only at hSw); go_simp; try with_reducible rfl)
        simp only [Act.put, List.getElem_toArray, List.getElem_cons_succ, List.getElem_cons_zero, List.setIfInBounds_toArray, List.set_cons_zero, List.set_cons_succ]
        refine wpAnyH_take (i := 19) (v := ?_) rfl (by kernel_rfl) (by kernel_rfl) (by kernel_rfl) (fun _ _ _ h => h) (Or.inl ⟨by rfl, ?_⟩) (by assumption) ?_
        rotate_left
        · (intro w hSw; (try dsimp only at hSw); go_simp; try with_reducible rfl)
        simp only [Act.put, List.getElem_toArray, List.getElem_cons_succ, List.getElem_cons_zero, List.setIfInBounds_toArray, List.set_cons_zero, List.set_cons_succ]
        refine wpAnyH_take (i := 20) (v := ?_) rfl (by kernel_rfl) (by kernel_rfl) (by kernel_rfl) (fun _ _ _ h => h) (Or.inl ⟨by rfl, ?_⟩) (by assumption) ?_
        rotate_left
        · (intro w hSw; (try dsimp only at hSw); go_simp; try with_reducible rfl)
        simp only [Act.put, List.getElem_toArray, List.getElem_cons_succ, List.getElem_cons_zero, List.setIfInBounds_toArray, List.set_cons_zero, List.set_cons_succ]
        refine wpAnyH_take (i := 21) (v := ?_) rfl (by kernel_rfl) (by kernel_rfl) (by kernel_rfl) (fun _ _ _ h => h) (Or.inl ⟨by rfl, ?_⟩) (by assumption) ?_
        rotate_left
        · (intro w hSw; (try dsimp only at hSw); go_simp; try with_reducible rfl)
        simp only [Act.put, List.getElem_toArray, List.getElem_cons_succ, List.getElem_cons_zero, List.setIfInBounds_toArray, List.set_cons_zero, List.set_cons_succ]
        refine wpAnyH_take (i := 22) (v := ?_) rfl (by kernel_rfl) (by kernel_rfl) (by kernel_rfl) (fun _ _ _ h => h) (Or.inl ⟨by rfl, ?_⟩) (by assumption) ?_
        rotate_left
        · (intro w hSw; (try dsimp only at hSw); go_simp; try with_reducible rfl)
        simp only [Act.put, List.getElem_toArray, List.getElem_cons_succ, List.getElem_cons_zero, List.setIfInBounds_toArray, List.set_cons_zero, List.set_cons_succ]
        refine wpAnyH_take (i := 23) (v := ?_) rfl (by kernel_rfl) (by kernel_rfl) (by kernel_rfl) (fun _ _ _ h => h) (Or.inl ⟨by rfl, ?_⟩) (by assumption) ?_
        rotate_left
        · (intro w hSw; (try dsimp only at hSw); go_simp; try with_reducible rfl)
        simp only [Act.put, List.getElem_toArray, List.getElem_cons_succ, List.getElem_cons_zero, List.setIfInBounds_toArray, List.set_cons_zero, List.set_cons_succ]
        refine wpAnyH_take (i := 24) (v := ?_) rfl (by kernel_rfl) (by kernel_rfl) (by kernel_rfl) (fun _ _ _ h => h) (Or.inl ⟨by rfl, ?_⟩) (by assumption) ?_
        rotate_left
        · (intro w hSw; (try dsimp only at hSw); go_simp; try with_reducible rfl)
        simp only [Act.put, List.getElem_toArray, List.getElem_cons_succ, List.getElem_cons_zero, List.setIfInBounds_toArray, List.set_cons_zero, List.set_cons_succ]
        refine wpAnyH_take (i := 25) (v := ?_) rfl (by kernel_rfl) (by kernel_rfl) (by kernel_rfl) (fun _ _ _ h => h) (Or.inl ⟨by rfl, ?_⟩) (by assumption) ?_
        rotate_left
        · (intro w hSw; (try dsimp only at hSw); go_simp; try with_reducible rfl)
        simp only [Act.put, List.getElem_toArray, List.getElem_cons_succ, List.getElem_cons_zero, List.setIfInBounds_toArray, List.set_cons_zero, List.set_cons_succ]
        refine wpAnyH_take (i := 26) (v := ?_) rfl (by kernel_rfl) (by kernel_rfl) (by kernel_rfl) (fun _ _ _ h => h) (Or.inl ⟨by rfl, ?_⟩) (by assumption) ?_
        rotate_left
        · (intro w hSw; (try dsimp only at hSw); go_simp; try with_reducible rfl)
        simp only [Act.put, List.getElem_toArray, List.getElem_cons_succ, List.getElem_cons_zero, List.setIfInBounds_toArray, List.set_cons_zero, List.set_cons_succ]
        refine wpAnyH_take (i := 27) (v := ?_) rfl (by kernel_rfl) (by kernel_rfl) (by kernel_rfl) (fun _ _ _ h => h) (Or.inl ⟨by rfl, ?_⟩) (by assumption) ?_
        rotate_left
        · (intro w hSw; (try dsimp only at hSw); go_simp; try with_reducible rfl)
        simp only [Act.put, List.getElem_toArray, List.getElem_cons_succ, List.getElem_cons_zero, List.setIfInBounds_toArray, List.set_cons_zero, List.set_cons_succ]
        try simp only [hmn]
        refine wpAnyH_take (i := 28) (v := .slice va mn vc) rfl (by kernel_rfl) (by kernel_rfl) (by kernel_rfl) (fun _ _ _ h => h) (Or.inl ⟨by rfl, ?_⟩) (by assumption) ?_
        · intro w hSw
          clear hSw
          rcases HVA.out with ⟨e1, e2, e3⟩ | ⟨g, e1⟩
          · simp only [e1, e2, e3]
            go_simp
          · simp only [e1]
            go_simp
        simp only [Act.put, List.getElem_toArray, List.getElem_cons_succ, List.getElem_cons_zero, List.setIfInBounds_toArray, List.set_cons_zero, List.set_cons_succ]
        refine wpAnyH_ready (rs := [14]) (by kernel_rfl) (by simp) ?_
        refine AllReadyH.cons rfl (fun K hK => ?_) AllReadyH.nil
        have HK14 := Lib.hid hK
        clear hK
        simp only [List.getElem_toArray, List.getElem_cons_succ, List.getElem_cons_zero]
        go_simp
        (go_at_call 22; go_must (with_reducible refine (HBL.out _ TV5.out).mono ?_))
        rintro e V14 ⟨v14, ys, rfl, ho, hys, hrow, hT14⟩
        have TV14 : Hid (Frm.Turn [] wr V14) := Lib.hid (TV5.out.trans hT14 (by simp))
        clear hT14
        have HG14 := Lib.hid (got_blks (ownsRow_zero ho) hrow)
        have HYS := Lib.hid hys
        clear ho hys hrow
        refine HK14.out _ _ (HRS.out _ TV14.out) (fun hHeld => ?_)
        refine wpAnyH_ready (rs := [29]) (by kernel_rfl) (by simp) ?_
        refine AllReadyH.cons rfl (fun K hK => ?_) AllReadyH.nil
        have HK29 := Lib.hid hK
        clear hK
        simp only [List.getElem_toArray, List.getElem_cons_succ, List.getElem_cons_zero]
        go_simp
        (go_at_call 34; go_must (with_reducible refine (HCM.out _ TV14.out v14 ys HG14.out HYS.out).mono ?_))
        rintro e V29 ⟨rfl, hT29⟩
        have TV29 : Hid (Frm.Turn [] wr V29) := Lib.hid (TV14.out.trans hT29 (by simp))
        clear hT29
        refine HK29.out _ _ (HRS.out _ TV29.out) (fun hHeld => ?_)
        refine wpAnyH_take (i := 30) (v := ?_) rfl (by kernel_rfl) (by kernel_rfl) (by kernel_rfl) (fun _ _ _ h => h) (Or.inl ⟨by rfl, ?_⟩) (by assumption) ?_
        rotate_left
        · (intro w hSw; (try dsimp only at hSw); go_simp; try with_reducible rfl)
        simp only [Act.put, List.getElem_toArray, List.getElem_cons_succ, List.getElem_cons_zero, List.setIfInBounds_toArray, List.set_cons_zero, List.set_cons_succ]
        refine wpAnyH_take (i := 31) (v := ?_) rfl (by kernel_rfl) (by kernel_rfl) (by kernel_rfl) (fun _ _ _ h => h) (Or.inl ⟨by rfl, ?_⟩) (by assumption) ?_
        rotate_left
        · (intro w hSw; (try dsimp only at hSw); go_simp; try with_reducible rfl)
        simp only [Act.put, List.getElem_toArray, List.getElem_cons_succ, List.getElem_cons_zero, List.setIfInBounds_toArray, List.set_cons_zero, List.set_cons_succ]
        refine wpAnyH_take (i := 32) (v := ?_) rfl (by kernel_rfl) (by kernel_rfl) (by kernel_rfl) (fun _ _ _ h => h) (Or.inl ⟨by rfl, ?_⟩) (by assumption) ?_
        rotate_left
        · (intro w hSw; (try dsimp only at hSw); go_simp; try with_reducible rfl)
        simp only [Act.put, List.getElem_toArray, List.getElem_cons_succ, List.getElem_cons_zero, List.setIfInBounds_toArray, List.set_cons_zero, List.set_cons_succ]
        refine wpAnyH_take (i := 33) (v := ?_) rfl (by kernel_rfl) (by kernel_rfl) (by kernel_rfl) (fun _ _ _ h => h) (Or.inl ⟨by rfl, ?_⟩) (by assumption) ?_
        rotate_left
        · (intro w hSw; (try dsimp only at hSw); go_simp; try with_reducible rfl)
        simp only [Act.put, List.getElem_toArray, List.getElem_cons_succ, List.getElem_cons_zero, List.setIfInBounds_toArray, List.set_cons_zero, List.set_cons_succ]
        refine wpAnyH_take (i := 34) (v := ?_) rfl (by kernel_rfl) (by kernel_rfl) (by kernel_rfl) (fun _ _ _ h => h) (Or.inl ⟨by rfl, ?_⟩) (by assumption) ?_
        rotate_left
        · (intro w hSw; (try dsimp only at hSw); go_simp; try with_reducible rfl)
        simp only [Act.put, List.getElem_toArray, List.getElem_cons_succ, List.getElem_cons_zero, List.setIfInBounds_toArray, List.set_cons_zero, List.set_cons_succ]
        refine wpAnyH_take (i := 35) (v := ?_) rfl (by kernel_rfl) (by kernel_rfl) (by kernel_rfl) (fun _ _ _ h => h) (Or.inl ⟨by rfl, ?_⟩) (by assumption) ?_
        rotate_left
        · (intro w hSw; (try dsimp only at hSw); go_simp; try with_reducible rfl)
        simp only [Act.put, List.getElem_toArray, List.getElem_cons_succ, List.getElem_cons_zero, List.setIfInBounds_toArray, List.set_cons_zero, List.set_cons_succ]
        refine wpAnyH_take (i := 36) (v := ?_) rfl (by kernel_rfl) (by kernel_rfl) (by kernel_rfl) (fun _ _ _ h => h) (Or.inl ⟨by rfl, ?_⟩) (by assumption) ?_
        rotate_left
        · (intro w hSw; (try dsimp only at hSw); go_simp; try with_reducible rfl)
        simp only [Act.put, List.getElem_toArray, List.getElem_cons_succ, List.getElem_cons_zero, List.setIfInBounds_toArray, List.set_cons_zero, List.set_cons_succ]
        refine wpAnyH_take (i := 38) (v := ?_) rfl (by kernel_rfl) (by kernel_rfl) (by kernel_rfl) (fun _ _ _ h => h) (Or.inl ⟨by rfl, ?_⟩) (by assumption) ?_
        rotate_left
        · (intro w hSw; (try dsimp only at hSw); go_simp; try with_reducible rfl)
        simp only [Act.put, List.getElem_toArray, List.getElem_cons_succ, List.getElem_cons_zero, List.setIfInBounds_toArray, List.set_cons_zero, List.set_cons_succ]
        refine wpAnyH_take (i := 39) (v := ?_) rfl (by kernel_rfl) (by kernel_rfl) (by kernel_rfl) (fun _ _ _ h => h) (Or.inl ⟨by rfl, ?_⟩) (by assumption) ?_
        rotate_left
        · (intro w hSw; (try dsimp only at hSw); go_simp; try with_reducible rfl)
        simp only [Act.put, List.getElem_toArray, List.getElem_cons_succ, List.getElem_cons_zero, List.setIfInBounds_toArray, List.set_cons_zero, List.set_cons_succ]
        refine wpAnyH_take (i := 40) (v := ?_) rfl (by kernel_rfl) (by kernel_rfl) (by kernel_rfl) (fun _ _ _ h => h) (Or.inl ⟨by rfl, ?_⟩) (by assumption) ?_
        rotate_left
        · (intro w hSw; (try dsimp only at hSw); go_simp; try with_reducible rfl)
        simp only [Act.put, List.getElem_toArray, List.getElem_cons_succ, List.getElem_cons_zero, List.setIfInBounds_toArray, List.set_cons_zero, List.set_cons_succ]
        refine wpAnyH_take (i := 41) (v := ?_) rfl (by kernel_rfl) (by kernel_rfl) (by kernel_rfl) (fun _ _ _ h => h) (Or.inl ⟨by rfl, ?_⟩) (by assumption) ?_
        rotate_left
        · (intro w hSw; (try dsimp only at hSw); go_simp; try with_reducible rfl)
        simp only [Act.put, List.getElem_toArray, List.getElem_cons_succ, List.getElem_cons_zero, List.setIfInBounds_toArray, List.set_cons_zero, List.set_cons_succ]
        refine wpAnyH_take (i := 42) (v := _) rfl (by kernel_rfl) (by kernel_rfl) (by kernel_rfl) (fun _ _ _ h => h)
            (yieldsIf_load_mid (by first | rfl | simp [Region.wanted, yielded]) _ _ rfl gw (q * 20 + 4) rfl C1 _ (fun w hw => hw.2.2.2.2.2.1) hun9 rfl i1) (by assumption) ?_
        simp only [Act.put, List.setIfInBounds_toArray, List.set_cons_zero, List.set_cons_succ, Array.toArray_toList]
        refine wpAnyH_take (i := 43) (v := ?_) rfl (by kernel_rfl) (by kernel_rfl) (by kernel_rfl) (fun _ _ _ h => h) (Or.inl ⟨by rfl, ?_⟩) (by assumption) ?_
        rotate_left
        · (intro w hSw; (try dsimp only at hSw); go_simp; try with_reducible rfl)
        simp only [Act.put, List.getElem_toArray, List.getElem_cons_succ, List.getElem_cons_zero, List.setIfInBounds_toArray, List.set_cons_zero, List.set_cons_succ]
        refine wpAnyH_take (i := 44) (v := ?_) rfl (by kernel_rfl) (by kernel_rfl) (by kernel_rfl) (fun _ _ _ h => h) (Or.inl ⟨by rfl, ?_⟩) (by assumption) ?_
        rotate_left
        · (intro w hSw; (try dsimp only at hSw); go_simp; try with_reducible rfl)
        simp only [Act.put, List.getElem_toArray, List.getElem_cons_succ, List.getElem_cons_zero, List.setIfInBounds_toArray, List.set_cons_zero, List.set_cons_succ]
        refine wpAnyH_take (i := 45) (v := ?_) rfl (by kernel_rfl) (by kernel_rfl) (by kernel_rfl) (fun _ _ _ h => h) (Or.inl ⟨by rfl, ?_⟩) (by assumption) ?_
        rotate_left
        · (intro w hSw; (try dsimp only at hSw); go_simp; try with_reducible rfl)
        simp only [Act.put, List.getElem_toArray, List.getElem_cons_succ, List.getElem_cons_zero, List.setIfInBounds_toArray, List.set_cons_zero, List.set_cons_succ]
        refine wpAnyH_take (i := 46) (v := _) rfl (by kernel_rfl) (by kernel_rfl) (by kernel_rfl) (fun _ _ _ h => h)
            (yieldsIf_load_mid (by first | rfl | simp [Region.wanted, yielded]) _ _ rfl gw 4 rfl C2 _ (fun w hw => hw.2.2.2.2.2.2) hun9 rfl i2) (by assumption) ?_
        simp only [Act.put, List.setIfInBounds_toArray, List.set_cons_zero, List.set_cons_succ, Array.toArray_toList]
        refine wpAnyH_take (i := 47) (v := ?_) rfl (by kernel_rfl) (by kernel_rfl) (by kernel_rfl) (fun _ _ _ h => h) (Or.inl ⟨by rfl, ?_⟩) (by assumption) ?_
        rotate_left
        · (intro w hSw; (try dsimp only at hSw); go_simp; try with_reducible rfl)
        simp only [Act.put, List.getElem_toArray, List.getElem_cons_succ, List.getElem_cons_zero, List.setIfInBounds_toArray, List.set_cons_zero, List.set_cons_succ]
        refine wpAnyH_ready (rs := [37]) (by kernel_rfl) (by simp) ?_
        refine AllReadyH.cons rfl (fun K hK => ?_) AllReadyH.nil
        have HK37 := Lib.hid hK
        clear hK
        simp only [List.getElem_toArray, List.getElem_cons_succ, List.getElem_cons_zero]
        go_simp
        (go_at_call 25; go_must (with_reducible refine (HSM.out _ TV29.out).mono ?_))
        rintro e V37 ⟨rfl, hT37⟩
        have TV37 : Hid (Frm.Turn [] wr V37) := Lib.hid (TV29.out.trans hT37 (by simp))
        clear hT37
        refine HK37.out _ _ (HRS.out _ TV37.out) (fun hHeld => ?_)
        refine wpAnyH_take (i := 48) (v := ?_) rfl (by kernel_rfl) (by kernel_rfl) (by kernel_rfl) (fun _ _ _ h => h) (Or.inl ⟨by rfl, ?_⟩) (by assumption) ?_
        rotate_left
        · (intro w hSw; (try dsimp only at hSw); go_simp; try with_reducible rfl)
        simp only [Act.put, List.getElem_toArray, List.getElem_cons_succ, List.getElem_cons_zero, List.setIfInBounds_toArray, List.set_cons_zero, List.set_cons_succ]
        cases ev with
        | false =>
          as_aux_lemma =>
            have hr : r = false := HRF.out rfl
            subst hr
            refine wpAnyH_take (i := 49) (v := undef) rfl (by kernel_rfl) (by kernel_rfl) (by kernel_rfl) (fun _ _ _ h => h) (Or.inr ⟨by first | rfl | simp [Region.wanted, yielded], rfl⟩) (by assumption) ?_
            simp only [Act.put, List.getElem_toArray, List.getElem_cons_succ, List.getElem_cons_zero, List.setIfInBounds_toArray, List.set_cons_zero, List.set_cons_succ]
            refine wpAnyH_take (i := 50) (v := undef) rfl (by kernel_rfl) (by kernel_rfl) (by kernel_rfl) (fun _ _ _ h => h) (Or.inr ⟨by first | rfl | simp [Region.wanted, yielded], rfl⟩) (by assumption) ?_
            simp only [Act.put, List.getElem_toArray, List.getElem_cons_succ, List.getElem_cons_zero, List.setIfInBounds_toArray, List.set_cons_zero, List.set_cons_succ]
            refine wpAnyH_take (i := 51) (v := undef) rfl (by kernel_rfl) (by kernel_rfl) (by kernel_rfl) (fun _ _ _ h => h) (Or.inr ⟨by first | rfl | simp [Region.wanted, yielded], rfl⟩) (by assumption) ?_
            simp only [Act.put, List.getElem_toArray, List.getElem_cons_succ, List.getElem_cons_zero, List.setIfInBounds_toArray, List.set_cons_zero, List.set_cons_succ]
            refine wpAnyH_take (i := 52) (v := undef) rfl (by kernel_rfl) (by kernel_rfl) (by kernel_rfl) (fun _ _ _ h => h) (Or.inr ⟨by first | rfl | simp [Region.wanted, yielded], rfl⟩) (by assumption) ?_
            simp only [Act.put, List.getElem_toArray, List.getElem_cons_succ, List.getElem_cons_zero, List.setIfInBounds_toArray, List.set_cons_zero, List.set_cons_succ]
            refine wpAnyH_take (i := 53) (v := undef) rfl (by kernel_rfl) (by kernel_rfl) (by kernel_rfl) (fun _ _ _ h => h) (Or.inr ⟨by first | rfl | simp [Region.wanted, yielded], rfl⟩) (by assumption) ?_
            simp only [Act.put, List.getElem_toArray, List.getElem_cons_succ, List.getElem_cons_zero, List.setIfInBounds_toArray, List.set_cons_zero, List.set_cons_succ]
            refine wpAnyH_take (i := 54) (v := undef) rfl (by kernel_rfl) (by kernel_rfl) (by kernel_rfl) (fun _ _ _ h => h) (Or.inr ⟨by first | rfl | simp [Region.wanted, yielded], rfl⟩) (by assumption) ?_
            simp only [Act.put, List.getElem_toArray, List.getElem_cons_succ, List.getElem_cons_zero, List.setIfInBounds_toArray, List.set_cons_zero, List.set_cons_succ]
            refine wpAnyH_take (i := 55) (v := undef) rfl (by kernel_rfl) (by kernel_rfl) (by kernel_rfl) (fun _ _ _ h => h) (Or.inr ⟨by first | rfl | simp [Region.wanted, yielded], rfl⟩) (by assumption) ?_
            simp only [Act.put, List.getElem_toArray, List.getElem_cons_succ, List.getElem_cons_zero, List.setIfInBounds_toArray, List.set_cons_zero, List.set_cons_succ]
            refine wpAnyH_take (i := 56) (v := undef) rfl (by kernel_rfl) (by kernel_rfl) (by kernel_rfl) (fun _ _ _ h => h) (Or.inr ⟨by first | rfl | simp [Region.wanted, yielded], rfl⟩) (by assumption) ?_
            simp only [Act.put, List.getElem_toArray, List.getElem_cons_succ, List.getElem_cons_zero, List.setIfInBounds_toArray, List.set_cons_zero, List.set_cons_succ]
            refine wpAnyH_take (i := 57) (v := undef) rfl (by kernel_rfl) (by kernel_rfl) (by kernel_rfl) (fun _ _ _ h => h) (Or.inr ⟨by first | rfl | simp [Region.wanted, yielded], rfl⟩) (by assumption) ?_
            simp only [Act.put, List.getElem_toArray, List.getElem_cons_succ, List.getElem_cons_zero, List.setIfInBounds_toArray, List.set_cons_zero, List.set_cons_succ]
            refine wpAnyH_take (i := 58) (v := undef) rfl (by kernel_rfl) (by kernel_rfl) (by kernel_rfl) (fun _ _ _ h => h) (Or.inr ⟨by first | rfl | simp [Region.wanted, yielded], rfl⟩) (by assumption) ?_
            simp only [Act.put, List.getElem_toArray, List.getElem_cons_succ, List.getElem_cons_zero, List.setIfInBounds_toArray, List.set_cons_zero, List.set_cons_succ]
            refine wpAnyH_take (i := 59) (v := ?_) rfl (by kernel_rfl) (by kernel_rfl) (by kernel_rfl) (fun _ _ _ h => h) (Or.inl ⟨by rfl, ?_⟩) (by assumption) ?_
            rotate_left
            · (intro w hSw; (try dsimp only at hSw); go_simp; try with_reducible rfl)
            simp only [Act.put, List.getElem_toArray, List.getElem_cons_succ, List.getElem_cons_zero, List.setIfInBounds_toArray, List.set_cons_zero, List.set_cons_succ]
            refine wpAnyH_take (i := 60) (v := ?_) rfl (by kernel_rfl) (by kernel_rfl) (by kernel_rfl) (fun _ _ _ h => h) (Or.inl ⟨by rfl, ?_⟩) (by assumption) ?_
            rotate_left
            · (intro w hSw; (try dsimp only at hSw); go_simp; try with_reducible rfl)
            simp only [Act.put, List.getElem_toArray, List.getElem_cons_succ, List.getElem_cons_zero, List.setIfInBounds_toArray, List.set_cons_zero, List.set_cons_succ]
            refine wpAnyH_take (i := 61) (v := ?_) rfl (by kernel_rfl) (by kernel_rfl) (by kernel_rfl) (fun _ _ _ h => h) (Or.inl ⟨by rfl, ?_⟩) (by assumption) ?_
            rotate_left
            · (intro w hSw; (try dsimp only at hSw); go_simp; try with_reducible rfl)
            simp only [Act.put, List.getElem_toArray, List.getElem_cons_succ, List.getElem_cons_zero, List.setIfInBounds_toArray, List.set_cons_zero, List.set_cons_succ]
            refine wpAnyH_done (by kernel_rfl) ?_ _
            try simp only [Act.put]
            go_wp2_with fail
            first
              | (refine ⟨⟨q + 1, by omega, by first | go_num | simp | rfl, HT.out.trans TV37.out (by simp)⟩, ?_⟩; simp [intOf]; omega)
              | (go_roundw; (case rel => exact ⟨q + 1, by omega, by first | go_num | simp | rfl, HT.out.trans TV37.out (by simp)⟩); (case measure => first | (simp [intOf]; omega) | (show st.length - ((q : Int) + 1).toNat < st.length - (q : Int).toNat; omega)))
        | true =>
          as_aux_lemma =>
            refine wpAnyH_take (i := 49) (v := ?_) rfl (by kernel_rfl) (by kernel_rfl) (by kernel_rfl) (fun _ _ _ h => h) (Or.inl ⟨by rfl, ?_⟩) (by assumption) ?_
            rotate_left
            · (intro w hSw; (try dsimp only at hSw); go_simp; try with_reducible rfl)
            simp only [Act.put, List.getElem_toArray, List.getElem_cons_succ, List.getElem_cons_zero, List.setIfInBounds_toArray, List.set_cons_zero, List.set_cons_succ]
            refine wpAnyH_take (i := 50) (v := ?_) rfl (by kernel_rfl) (by kernel_rfl) (by kernel_rfl) (fun _ _ _ h => h) (Or.inl ⟨by rfl, ?_⟩) (by assumption) ?_
            rotate_left
            · (intro w hSw; (try dsimp only at hSw); go_simp; try with_reducible rfl)
            simp only [Act.put, List.getElem_toArray, List.getElem_cons_succ, List.getElem_cons_zero, List.setIfInBounds_toArray, List.set_cons_zero, List.set_cons_succ]
            refine wpAnyH_take (i := 51) (v := ?_) rfl (by kernel_rfl) (by kernel_rfl) (by kernel_rfl) (fun _ _ _ h => h) (Or.inl ⟨by rfl, ?_⟩) (by assumption) ?_
            rotate_left
            · (intro w hSw; (try dsimp only at hSw); go_simp; try with_reducible rfl)
            simp only [Act.put, List.getElem_toArray, List.getElem_cons_succ, List.getElem_cons_zero, List.setIfInBounds_toArray, List.set_cons_zero, List.set_cons_succ]
            refine wpAnyH_take (i := 52) (v := ?_) rfl (by kernel_rfl) (by kernel_rfl) (by kernel_rfl) (fun _ _ _ h => h) (Or.inl ⟨by rfl, ?_⟩) (by assumption) ?_
            rotate_left
            · (intro w hSw; (try dsimp only at hSw); go_simp; try with_reducible rfl)
            simp only [Act.put, List.getElem_toArray, List.getElem_cons_succ, List.getElem_cons_zero, List.setIfInBounds_toArray, List.set_cons_zero, List.set_cons_succ]
            refine wpAnyH_take (i := 53) (v := ?_) rfl (by kernel_rfl) (by kernel_rfl) (by kernel_rfl) (fun _ _ _ h => h) (Or.inl ⟨by rfl, ?_⟩) (by assumption) ?_
            rotate_left
            · (intro w hSw; (try dsimp only at hSw); go_simp; try with_reducible rfl)
            simp only [Act.put, List.getElem_toArray, List.getElem_cons_succ, List.getElem_cons_zero, List.setIfInBounds_toArray, List.set_cons_zero, List.set_cons_succ]
            refine wpAnyH_take (i := 54) (v := ?_) rfl (by kernel_rfl) (by kernel_rfl) (by kernel_rfl) (fun _ _ _ h => h) (Or.inl ⟨by rfl, ?_⟩) (by assumption) ?_
            rotate_left
            · (intro w hSw; (try dsimp only at hSw); go_simp; try with_reducible rfl)
            simp only [Act.put, List.getElem_toArray, List.getElem_cons_succ, List.getElem_cons_zero, List.setIfInBounds_toArray, List.set_cons_zero, List.set_cons_succ]
            refine wpAnyH_take (i := 55) (v := ?_) rfl (by kernel_rfl) (by kernel_rfl) (by kernel_rfl) (fun _ _ _ h => h) (Or.inl ⟨by rfl, ?_⟩) (by assumption) ?_
            rotate_left
            · (intro w hSw; (try dsimp only at hSw); go_simp; try with_reducible rfl)
            simp only [Act.put, List.getElem_toArray, List.getElem_cons_succ, List.getElem_cons_zero, List.setIfInBounds_toArray, List.set_cons_zero, List.set_cons_succ]
            refine wpAnyH_take (i := 56) (v := ?_) rfl (by kernel_rfl) (by kernel_rfl) (by kernel_rfl) (fun _ _ _ h => h) (Or.inl ⟨by rfl, ?_⟩) (by assumption) ?_
            rotate_left
            · (intro w hSw; (try dsimp only at hSw); go_simp; try with_reducible rfl)
            simp only [Act.put, List.getElem_toArray, List.getElem_cons_succ, List.getElem_cons_zero, List.setIfInBounds_toArray, List.set_cons_zero, List.set_cons_succ]
            refine wpAnyH_take (i := 57) (v := ?_) rfl (by kernel_rfl) (by kernel_rfl) (by kernel_rfl) (fun _ _ _ h => h) (Or.inl ⟨by rfl, ?_⟩) (by assumption) ?_
            rotate_left
            · (intro w hSw; (try dsimp only at hSw); go_simp; try with_reducible rfl)
            simp only [Act.put, List.getElem_toArray, List.getElem_cons_succ, List.getElem_cons_zero, List.setIfInBounds_toArray, List.set_cons_zero, List.set_cons_succ]
            refine wpAnyH_ready (rs := [58]) (by kernel_rfl) (by simp) ?_
            refine AllReadyH.cons rfl (fun K hK => ?_) AllReadyH.nil
            have HK58 := Lib.hid hK
            clear hK
            simp only [List.getElem_toArray, List.getElem_cons_succ, List.getElem_cons_zero]
            go_simp
            (go_at_call 34; go_must (with_reducible refine (HRT.out _ TV37.out rfl).mono ?_))
            rintro e V58 ⟨rfl, hT58⟩
            have TV58 : Hid (Frm.Turn [] wr V58) := Lib.hid (TV37.out.trans hT58 (by simp))
            clear hT58
            refine HK58.out _ _ (HRS.out _ TV58.out) (fun hHeld => ?_)
            refine wpAnyH_take (i := 59) (v := ?_) rfl (by kernel_rfl) (by kernel_rfl) (by kernel_rfl) (fun _ _ _ h => h) (Or.inl ⟨by rfl, ?_⟩) (by assumption) ?_
            rotate_left
            · (intro w hSw; (try dsimp only at hSw); go_simp; try with_reducible rfl)
            simp only [Act.put, List.getElem_toArray, List.getElem_cons_succ, List.getElem_cons_zero, List.setIfInBounds_toArray, List.set_cons_zero, List.set_cons_succ]
            refine wpAnyH_take (i := 60) (v := ?_) rfl (by kernel_rfl) (by kernel_rfl) (by kernel_rfl) (fun _ _ _ h => h) (Or.inl ⟨by rfl, ?_⟩) (by assumption) ?_
            rotate_left
            · (intro w hSw; (try dsimp only at hSw); go_simp; try with_reducible rfl)
            simp only [Act.put, List.getElem_toArray, List.getElem_cons_succ, List.getElem_cons_zero, List.setIfInBounds_toArray, List.set_cons_zero, List.set_cons_succ]
            try simp only [bne_self_eq_false]
            refine wpAnyH_take (i := 61) (v := ?_) rfl (by kernel_rfl) (by kernel_rfl) (by kernel_rfl) (fun _ _ _ h => h) (Or.inl ⟨by rfl, ?_⟩) (by assumption) ?_
            rotate_left
            · (intro w hSw; (try dsimp only at hSw); go_simp; try with_reducible rfl)
            simp only [Act.put, List.getElem_toArray, List.getElem_cons_succ, List.getElem_cons_zero, List.setIfInBounds_toArray, List.set_cons_zero, List.set_cons_succ]
            refine wpAnyH_done (by kernel_rfl) ?_ _
            try simp only [Act.put]
            go_wp2_with fail
            first
              | (refine ⟨⟨q + 1, by omega, by first | go_num | simp | rfl, HT.out.trans TV58.out (by simp)⟩, ?_⟩; simp [intOf]; omega)
              | (go_roundw; (case rel => exact ⟨q + 1, by omega, by first | go_num | simp | rfl, HT.out.trans TV58.out (by simp)⟩); (case measure => first | (simp [intOf]; omega) | (show st.length - ((q : Int) + 1).toNat < st.length - (q : Int).toNat; omega)))
    · go_wp2_with fail
      go_ret
      exact ⟨by simp, (HT1.out.trans HM.out.turn (by simp)).trans hT (by simp)⟩
end Arn
end Go.Proofs.Ytgjgoflkbcmgnaa
