/- PrintGiven: facts that are made well formed come back from their texts, together and one by one. What arguments hold that are a literal by value, and lists of literals. What arguments hold that are lists of facts. -/
import Derived.Test.YtchhophblejmeaaGreatDoorProg
import Derived.Test.YtchhophblejmeaaGreatDoorPkGg
import Derived.Test.YtchhophblejmeaaGreatDoorPkAc
import Derived.Test.YtchhophblejmeaaGreatDoorPkBd
import Derived.Test.YtchhophblejmeaaGreatDoorPkGp
import Derived.Test.YtchhophblejmeaaGreatDoorPkBe

namespace Go.Proofs.YtchhophblejmeaaGreatDoor
set_option linter.unusedSimpArgs false
set_option linter.unusedVariables false
open Go.RowKit

theorem fn_zeroF (w : World) : (binOp .neq 31 (.agg #[.int .i64 0, .int .i64 0, .int .i64 0]) (.agg #[.int .i64 0, .int .i64 0, .int .i64 0])).run Tryz.prog w = .ok (.bool false) w := by
  have h1 := run_equalIn_struct (P := Tryz.prog) w 9999 31 #[.int .i64 0, .int .i64 0, .int .i64 0] #[.int .i64 0, .int .i64 0, .int .i64 0] (by kernel_rfl) (by kernel_rfl)
  simp only [binOp]
  simp only [Op.equal, Op.maxDepth, Sem.run_bind]
  go_simp

set_option maxRecDepth 100000 in
set_option maxHeartbeats 8000000 in
theorem printGiven_walk (ao : Option Addr) (len cap : Nat) (fs : List Fct) (w : World) (h : IsFcts w ao len fs) (hl : LexLaid w) (ht : TabLaid w) :
    Calls Tryz.prog 3 #[.slice ao len cap] w fun e w' => e = .returned (.bool true) ∧ Below w.heap.size w w' := by
  have HFc := hide (facts4 fs cap h)
  have HL := hide hl
  have HTb := hide ht
  clear hl ht h
  go_enter Tryz.func3, Tryz.ntmps3
  go_wp2_with fail
  refine HFc.out.mono ?_
  intro e w4 hq
  obtain ⟨v, rfl, xs, hok, hxl, hgr, hb4⟩ := hq
  have HOk := hide hok
  have HXl := hide hxl
  have HB4 := hide hb4
  have hls := hgr.list (by omega)
  have HT4 := hide (HTb.out.kept hb4)
  obtain ⟨f2, f3⟩ := fcts_lined hok hxl
  have HPr := hide (fun V (hb : Below w4.heap.size w4 V) => printFacts hls HT4.out hb (ftxs_zero hok) f2)
  have HLn : Hid (∀ V, Calls Tryz.prog 9 #[.string (strF (fctsT xs)), .int .i64 xs.length] V fun e w' => e = .returned (.bool true) ∧ Below V.heap.size V w') := fun V => (lines_any _ xs.length V f3 (by show (fctsT xs).toArray.size ≤ _; rw [List.size_toArray]; omega)).mono fun e w' ⟨h1, h2⟩ => ⟨h1, by rw [h2]; exact Below.refl _ _⟩
  obtain ⟨va, vc, hv, -, -, -⟩ := hls.shape
  have HLs := hide hls
  rw [hv] at HPr HLs ⊢
  subst hv
  obtain ⟨T2, hT2⟩ : ∃ T2, T2 = strF (fctsT xs) := ⟨_, rfl⟩
  have e1 : (⟨(fctsT xs).toArray⟩ : ByteArray) = T2 := hT2.symm
  have hsz : T2.size ≤ 100000000000000 := by rw [hT2]; show (fctsT xs).toArray.size ≤ _; rw [List.size_toArray]; exact f2
  rw [e1] at HPr
  rw [← hT2] at HLn
  have HTT : Hid (T2.data.toList = fctsT xs) := by show _ = _; rw [hT2]; simp [strF]
  clear hok hxl hgr hb4 hls f2 f3 e1 hT2 HFc
  go_wp2_with fail
  refine (HPr.out w4 (Below.refl _ _)).mono ?_
  rintro e w5 ⟨rfl, hb5⟩
  have HB5 := hide (HB4.out.trans (hb5.mono HB4.out.size))
  have HLs5 := hide (HLs.out.kept hb5)
  clear hb5 HPr HLs
  go_wp2_with fail
  refine (HLn.out w5).mono ?_
  rintro e w6 ⟨rfl, hb6⟩
  have HB6 := hide (HB5.out.trans (hb6.mono HB5.out.size))
  have HLs6 := hide (HLs5.out.kept hb6)
  clear hb6 HLn HLs5 HB5 HB4 HT4
  obtain ⟨n, hn⟩ : ∃ n, n = xs.length := ⟨_, rfl⟩
  rw [← hn] at HLs6 HXl ⊢
  have HN := hide hn
  clear hn
  go_wp2
  go_loopw [5] (fun i wl => ∃ k : Nat, k ≤ n ∧ i = .int .i64 k ∧ Hid (Below w6.heap.size w6 wl)) (fun i _ => n - (intOf i).toNat)
  case atStart => exact ⟨0, by omega, rfl, Below.refl _ _⟩
  case round =>
    obtain ⟨k, hk, rfl, HB⟩ := hrel
    by_cases hlt : k < n
    · have hi : (k : Int) < (n : Int) := by omega
      have hi0 : (0 : Int) ≤ (k : Int) := by omega
      obtain ⟨x, hx⟩ : ∃ x, xs[k]? = some x := ⟨_, List.getElem?_eq_getElem (by have := HN.out; omega)⟩
      have HLw := hide (HLs6.out.kept HB.out)
      have hxm := List.mem_of_getElem? hx
      have HBw := hide (HB6.out.trans (HB.out.mono HB6.out.size))
      have HOx := hide (HOk.out x hxm)
      have HEx := hide (HLw.out.ok hxm)
      have HTw := hide (HTb.out.kept HBw.out)
      have HPf := hide (printFact x HEx.out HTw.out (Below.refl _ _) (ftx_zero HOx.out) (by have := (fct_prn HOx.out).2; omega))
      obtain ⟨P3, hP3, hst⟩ := prt_fact (T := strF (fctT x.p x.cs)) (f := x) (by simp [strF]) HOx.out (by show (fctT x.p x.cs).toArray.size ≤ _; rw [List.size_toArray]; have := (fct_prn HOx.out).2; omega)
      have HP3 := hide hP3
      have HSt := hide (fct_same hst)
      have HTs : Hid ((strF (fctT x.p x.cs)).size ≤ 140737488351232) := by show (fctT x.p x.cs).toArray.size ≤ _; rw [List.size_toArray]; have := (fct_prn HOx.out).2; omega
      have HTe : Hid ((⟨(fctT x.p x.cs).toArray⟩ : ByteArray) = strF (fctT x.p x.cs)) := rfl
      rw [HTe.out] at HPf
      generalize strF (fctT x.p x.cs) = T1 at *
      obtain ⟨xb, xo, hva, -, -, hr⟩ := HLw.out.row (by have := HN.out; omega)
      have c0 := hr k x hx 0 _ rfl
      have c1 := hr k x hx 1 _ rfl
      obtain ⟨xp, xv, xcs⟩ := x
      obtain ⟨xa, xc, hxv, -⟩ := (elFtx_ok HEx.out).2.shape
      simp only at hxv
      subst hxv
      subst hva
      have HLx := hide (elFtx_ok HEx.out).2
      simp only [elFtx, Nat.add_zero] at c0 c1
      clear hst hP3 hr hx hxm HEx HTe HTw
      go_wp2_with fail
      refine HPf.out.mono ?_
      rintro e w7 ⟨rfl, hb7⟩
      have HB7 := hide (HBw.out.trans (hb7.mono HBw.out.size))
      have HC7 := hide (HB.out.trans (hb7.mono HB.out.size))
      have d0 := kept_cell hb7 c0
      have d1 := kept_cell hb7 c1
      have HLx7 := hide (HLx.out.kept hb7)
      clear hb7 HPf c0 c1 HLx HLw HB HBw
      go_wp2_with fail
      refine (parseFact_any T1 w7 (HL.out.kept HB7.out) HTs.out).mono ?_
      intro e w8 hq
      obtain ⟨v3, he, hls3, hb8⟩ := readFact_ok hq HP3.out
      unfold faultV at he
      subst he
      rw [HSt.out.1]
      have HC8 := hide (HC7.out.trans (hb8.mono HC7.out.size))
      have g0 := kept_cell hb8 d0
      have g1 := kept_cell hb8 d1
      have HLx8 := hide (HLx7.out.kept hb8)
      have HLs3 := hide hls3.all
      have HAl := hide (fun V (hb : Below w8.heap.size w8 V) => alike4 xp xcs (P3.ts.map Trm.con) _ _ (HLx8.out.kept hb) (HLs3.out.kept hb) HSt.out.2.2)
      obtain ⟨va3, vc3, hv, -, -, -⟩ := hls3.shape
      subst hv
      clear hq hls3 hb8 d0 d1 HLx7 HB7 HC7 HP3 HSt HTs
      generalize (P3.ts.map Trm.con).length = n3 at *
      have hz := fn_zeroF
      go_wp2_with fail
      obtain ⟨W2, hW2⟩ : ∃ W2, W2 = (w8.alloc (.cells #[.string xp, .slice va3 n3 vc3] 28)).alloc (.cells #[.int .i64 0, .int .i64 0, .int .i64 0] 31) := ⟨_, rfl⟩
      have HBa : Hid (Below w8.heap.size w8 W2) := by rw [hW2]; exact below2a _ _ _
      have i0 := kept_cell HBa.out g0
      have i1 := kept_cell HBa.out g1
      have e0 : W2.cell? ⟨w8.heap.size, 0, none⟩ = some (.string xp) := by rw [hW2]; simp
      have e1 : W2.cell? ⟨w8.heap.size, 1, none⟩ = some (.slice va3 n3 vc3) := by rw [hW2]; simp
      have f0 : W2.cell? ⟨w8.heap.size + 1, 0, none⟩ = some (.int .i64 0) := by rw [hW2]; simp
      have f1 : W2.cell? ⟨w8.heap.size + 1, 1, none⟩ = some (.int .i64 0) := by rw [hW2]; simp
      have f2 : W2.cell? ⟨w8.heap.size + 1, 2, none⟩ = some (.int .i64 0) := by rw [hW2]; simp
      rw [← hW2]
      clear hW2 g0 g1
      refine wp_region_over (fun W => W = W2) (by kernel_rfl) (by kernel_rfl) rfl ?_
      rintro W rfl
      have i0 := over_cell i0
      have i1 := over_cell i1
      have e0 := over_cell e0
      have e1 := over_cell e1
      have f0 := over_cell f0
      have f1 := over_cell f1
      have f2 := over_cell f2
      repeat (go_big_quiet_step (first | (go_at_call 12; exact calls_over (HAl.out _ (HBa.out.trans ((over_below _ _).mono HBa.out.size))))))
      refine wpQuiet_nil ?_
      rintro _ ⟨z, rfl⟩
      have HBz := hide (HC8.out.trans ((HBa.out.trans ((over_below W z).mono HBa.out.size)).mono HC8.out.size))
      clear i0 i1 e0 e1 f0 f1 f2 HAl HBa HLs3 HLx8 HC8 HOx
      generalize over W z = W3 at *
      have hn4 : n ≤ 4096 := HXl.out
      go_wp2
      go_roundw
      case rel => exact ⟨k + 1, by omega, by go_num, HBz⟩
      case measure => simp [intOf]; omega
    · have hi : ¬ (k : Int) < (n : Int) := by omega
      have hke : k = n := by omega
      have HBw := hide (HB6.out.trans (HB.out.mono HB6.out.size))
      have HLw := hide (HLs6.out.kept HB.out)
      by_cases hlong : 65536 < T2.size
      · have hj : (65536 : Int) < (T2.size : Int) := by omega
        go_wp2
        go_ret
        exact ⟨rfl, HBw.out⟩
      · have hj : ¬ (65536 : Int) < (T2.size : Int) := by omega
        obtain ⟨P3, hP3, hst⟩ := prt_facts HTT.out HOk.out (by have := HN.out; have := HXl.out; omega) (by omega)
        have HL6 := hide (HL.out.kept HBw.out)
        go_wp2_with fail
        refine (parseFacts_any T2 _ HL6.out (by omega)).mono ?_
        intro e w9 hq
        obtain ⟨v3, cs3, he, hpu3, hcl3, hls3, hb9⟩ := readFacts_ok hq hP3
        unfold faultV at he
        subst he
        have HB9 := hide (HBw.out.trans (hb9.mono HBw.out.size))
        have HLs9 := hide (HLw.out.kept hb9)
        have HLr9 := hide hls3.all
        have hc3 : cs3.length = n := by
          have h1 := congrArg List.length hst
          have h2 := congrArg List.length hpu3
          simp only [List.length_map] at h1 h2
          have := HN.out
          omega
        have HSt : Hid (cs3.map (fun a => a.pur.st) = xs.map fctSt) := by
          show _ = _
          rw [← hst, ← hpu3, List.map_map]
          rfl
        obtain ⟨va3, vc3, hv, -, -, -⟩ := hls3.shape
        rw [hc3] at hv
        have HN3 := hide hc3
        subst hv
        clear hq hls3 hb9 hpu3 hcl3 hP3 hst hc3 HB HLw HBw HL6 HLs6
        have hz := fn_zeroF
        have hnn : ((n : Int) != (n : Int)) = false := by simp
        have hn4 : n ≤ 4096 := HXl.out
        have HBa := hide (belowA w9 (.cells #[.int .i64 0, .int .i64 0, .int .i64 0] 31))
        go_wp2
        go_loopw [10] (fun i wl => ∃ k : Nat, k ≤ n ∧ i = .int .i64 k ∧ Hid (Below w9.heap.size w9 wl)) (fun i _ => n - (intOf i).toNat)
        case atStart => exact ⟨0, by omega, rfl, HBa⟩
        case round =>
          clear HBa
          obtain ⟨m, hm, rfl, HB⟩ := hrel
          by_cases hltm : m < n
          · have hi : (m : Int) < (n : Int) := by omega
            have hi0 : (0 : Int) ≤ (m : Int) := by omega
            obtain ⟨x, hx⟩ : ∃ x, xs[m]? = some x := ⟨_, List.getElem?_eq_getElem (by have := HN.out; omega)⟩
            obtain ⟨y, hy⟩ : ∃ y, cs3[m]? = some y := ⟨_, List.getElem?_eq_getElem (by have := HN3.out; omega)⟩
            have hxy : y.pur.st = fctSt x := by
              have h1 := congrArg (fun l => l[m]?) HSt.out
              simp only [List.getElem?_map, hx, hy, Option.map_some, Option.some.injEq] at h1
              exact h1
            have HLx := hide (HLs9.out.kept HB.out)
            have HLy := hide (HLr9.out.kept HB.out)
            have HEx := hide (elFtx_ok (HLx.out.ok (List.mem_of_getElem? hx))).2
            have HEy := hide (elAtx_ok (HLy.out.ok (List.mem_of_getElem? hy))).2.2
            obtain ⟨xb, xo, hva, -, -, hr⟩ := HLx.out.row (by have := HN.out; omega)
            obtain ⟨yb, yo, hvb, -, -, hs⟩ := HLy.out.row (by have := HN3.out; omega)
            have c0 := hr m x hx 0 _ rfl
            have c1 := hr m x hx 1 _ rfl
            have d0 := hs m y hy 0 _ rfl
            have d1 := hs m y hy 1 _ rfl
            have d2 := hs m y hy 2 _ rfl
            obtain ⟨q1, q2, -⟩ := fct_same (a := y.pur) hxy
            obtain ⟨xp, xv, xcs⟩ := x
            obtain ⟨yp, yv, yoff, yts⟩ := y
            obtain ⟨xa, xc, hxv, -⟩ := HEx.out.shape
            obtain ⟨ya, yc, hyv, -⟩ := HEy.out.shape
            have q1' : yp = xp := q1
            have q2' : yts.map Trm.st = (xcs.map conTrm).map Trm.st := q2
            simp only at hxv hyv
            subst hxv hyv hva hvb q1'
            simp only [elFtx, elAtx, Nat.add_zero] at c0 c1 d0 d1 d2
            have HSf := hide (fun V (hb : Below wr.heap.size wr V) => sameFact4 yp yoff yts xcs _ _ (HEy.out.kept hb) (HEx.out.kept hb) q2')
            clear hr hs hx hy hxy q1 q2 q2' HEx HEy HLx HLy
            go_wp2_with fail
            refine wp_region_over (fun W => W = wr) (by kernel_rfl) (by kernel_rfl) rfl ?_
            rintro W rfl
            have c0 := over_cell c0
            have c1 := over_cell c1
            have d0 := over_cell d0
            have d1 := over_cell d1
            have d2 := over_cell d2
            repeat (go_big_quiet_step (first | (go_at_call 14; exact calls_over (HSf.out _ (over_below _ _)))))
            refine wpQuiet_nil ?_
            rintro _ ⟨z, rfl⟩
            have HBz := hide (HB.out.trans ((over_below W z).mono HB.out.size))
            clear c0 c1 d0 d1 d2 HSf HB
            generalize over W z = W3 at *
            go_wp2
            go_roundw
            case rel => exact ⟨m + 1, by omega, by go_num, HBz⟩
            case measure => simp [intOf]; omega
          · have hi : ¬ (m : Int) < (n : Int) := by omega
            go_wp2
            go_ret
            exact ⟨rfl, HB9.out.trans (HB.out.mono HB9.out.size)⟩
end Go.Proofs.YtchhophblejmeaaGreatDoor

namespace Go.Proofs.YtchhophblejmeaaGreatDoor
set_option linter.unusedSimpArgs false
set_option linter.unusedVariables false
open Go.RowKit Go.Deep Go.ChangeShapes Go.WideShapes Go.ChangeAt Go.Joins

section
variable {H : Type} {enc : TypeId × Value → H} {w : World}

set_option maxRecDepth 100000 in
theorem open_lit4 {r : Reach} {b0 : Nat} {v : Value} {d : DataW H} {ps : List MemPlace} {ts : List TypeId} {ds : List (DataW H)} {j : Nat}
    (hv : Value.okWide Tryz.prog w r b0 56 v) (h : DataW.Trod enc Tryz.prog w 0 (fun _ => true) true 56 v d ps)
    (hsz : (DataW.weightsEach Tryz.prog ts ds).all (· ≤ reachBytes) = true) (hts : ts[j]? = some 56) (hds : ds[j]? = some d) :
    ∃ x : Ltr, v = x.val ∧ x.at w := by
  obtain ⟨cs, rfl, hs⟩ := okWide_struct Tryz.underlying56 hv
  rw [cellsLit] at hs
  obtain ⟨l⟩ := cs
  have hw : ∀ n ∈ d.weights Tryz.prog 56, n ≤ 140737488351232 := fun n hn => of_decide_eq_true (List.all_eq_true.1 hsz n (DataW.weights_mem_each hts hds n hn))
  obtain ⟨fuel, hf⟩ := h
  simp only [Value.cells] at hf
  obtain ⟨x, hx, rfl⟩ := ltr_vals hf hw
  exact ⟨x, rfl, hx⟩

set_option maxRecDepth 100000 in
theorem open_lits4 {r : Reach} {b0 : Nat} {v : Value} {d : DataW H} {ps : List MemPlace} {ts : List TypeId} {ds : List (DataW H)} {j : Nat}
    (hv : Value.okWide Tryz.prog w r b0 57 v) (h : DataW.Trod enc Tryz.prog w 0 (fun _ => true) true 57 v d ps)
    (hsz : (DataW.weightsEach Tryz.prog ts ds).all (· ≤ reachBytes) = true) (hts : ts[j]? = some 57) (hds : ds[j]? = some d) :
    ∃ ao len cap xs, v = .slice ao len cap ∧ IsLtrs w ao len xs ∧ len * 152 ≤ 140737488351232 ∧ (ao = none → len = 0 ∧ cap = 0) := by
  obtain ⟨ao, len, cap, rfl⟩ := okWide_slice Tryz.underlying57 hv
  have hc := open_cap Tryz.underlying57 h
  have hw : ∀ n ∈ d.weights Tryz.prog 57, n ≤ 140737488351232 := fun n hn => of_decide_eq_true (List.all_eq_true.1 hsz n (DataW.weights_mem_each hts hds n hn))
  obtain ⟨fuel, hf⟩ := h
  simp only [Value.cells] at hf
  obtain ⟨ao1, len1, cap1, e1, hr, -⟩ := rows_in Tryz.underlying57 cellsLit (by omega) hf hw
  rw [show Tryz.prog.bytesOf 56 = 152 from by kernel_rfl] at hr
  obtain ⟨ao2, len2, cap2, xs, e2, hx⟩ := ltrs_val hf hw
  cases e1
  cases e2
  exact ⟨ao, len, cap, xs, rfl, hx, hr, hc.2⟩
end
end Go.Proofs.YtchhophblejmeaaGreatDoor

namespace Go.Proofs.YtchhophblejmeaaGreatDoor
set_option linter.unusedSimpArgs false
set_option linter.unusedVariables false
open Go.RowKit Go.Deep Go.ChangeShapes Go.WideShapes Go.ChangeAt Go.Joins

section
variable {H : Type} {enc : TypeId × Value → H} {w : World}
theorem cellsCon4 : Tryz.prog.cellsOf 68 = 3 := by kernel_rfl
theorem cellsFct4 : Tryz.prog.cellsOf 28 = 2 := by kernel_rfl
theorem cellsCons4 : Tryz.prog.cellsOf 26 = 1 := by kernel_rfl

set_option maxRecDepth 100000 in
theorem con_vals {fuel : Nat} {cs : List Value} {y : DataW H × List MemPlace}
    (hd : DataW.trod enc Tryz.prog w 0 (fun _ => true) true fuel 68 cs = some y) (hw : ∀ n ∈ y.1.weights Tryz.prog 68, n ≤ 140737488351232) :
    ∃ c : Con, c.ok ∧ cs = [.int .i64 c.k, .int .i64 c.n, .string c.s] := by
  obtain ⟨y0, y1, y2, n, hy, hlen, t0, t1, t2⟩ := trod_struct3 Tryz.underlying68 hd
  rw [cellsCon4] at hlen
  match cs, hlen with
  | [v0, v1, v2], _ =>
    simp only [cellsInt, cellsI64, cellsStr, List.drop_zero, List.drop_succ_cons, List.take_succ_cons, List.take_zero] at t0 t1 t2
    obtain ⟨a0, e0, x0, w0⟩ := DataW.trod_int Tryz.underlying3 t0
    obtain ⟨a1, e1, x1, w1⟩ := DataW.trod_int Tryz.underlying2 t1
    obtain ⟨s, e2, x2, hs⟩ := DataW.trod_string Tryz.underlying9 t2
    simp only [List.cons.injEq, and_true] at e0 e1 e2
    subst e0 e1 e2 x0 x1 x2
    have hs2 : s.size ≤ 140737488351232 := by
      refine hw s.size ?_
      rw [hy]
      simp [DataW.weights, DataW.weightsEach, Tryz.underlying68]
    exact ⟨⟨a0, a1, s⟩, ⟨bounds_i64 w0, bounds_i64 w1, hs2⟩, rfl⟩

set_option maxRecDepth 100000 in
theorem cons_val {fuel : Nat} {v : Value} {y : DataW H × List MemPlace}
    (hd : DataW.trod enc Tryz.prog w 0 (fun _ => true) true fuel 26 [v] = some y) (hw : ∀ n ∈ y.1.weights Tryz.prog 26, n ≤ 140737488351232) :
    ∃ ao len cap cs, v = .slice ao len cap ∧ IsCons w ao len cs := by
  obtain ⟨ao, len, cap, rfl, hr, hrow⟩ := rows_in Tryz.underlying26 cellsCon4 (by omega) hd hw
  rw [show Tryz.prog.bytesOf 68 = 32 from by kernel_rfl] at hr
  by_cases hlen : 0 < len
  · obtain ⟨b, off, rfl, hel⟩ := hrow hlen
    obtain ⟨l, h1, h2⟩ := list_of_each (R := fun i (t : Con) => t.ok ∧ conAt w b (off + i * 3) t) len (fun i hi => by
      obtain ⟨cs, fuel, y, g1, g2, g3⟩ := hel i hi
      obtain ⟨t, hok, rfl⟩ := con_vals g2 g3
      obtain ⟨_, _, hc⟩ := World.cells?_some g1
      have c0 := hc 0 (by omega)
      have c1 := hc 1 (by omega)
      have c2 := hc 2 (by omega)
      rw [addr_add] at c0 c1 c2
      exact ⟨t, hok, by simpa using c0, by simpa using c1, by simpa using c2⟩)
    refine ⟨_, len, cap, l, rfl, h1, by omega, fun c hc => ?_, fun _ => ⟨b, off, rfl, fun i c hc => (h2 i c hc).2⟩⟩
    obtain ⟨i, hi⟩ := List.mem_iff_getElem?.1 hc
    exact (h2 i c hi).1
  · obtain rfl : len = 0 := by omega
    exact ⟨ao, 0, cap, [], rfl, rfl, by omega, by simp, fun h => absurd h (by omega)⟩

set_option maxRecDepth 100000 in
theorem fct_vals {fuel : Nat} {cs : List Value} {y : DataW H × List MemPlace}
    (hd : DataW.trod enc Tryz.prog w 0 (fun _ => true) true fuel 28 cs = some y) (hw : ∀ n ∈ y.1.weights Tryz.prog 28, n ≤ 140737488351232) :
    ∃ a : Fct, a.at w ∧ cs = [.string a.p, .slice a.ao a.len a.cap] := by
  obtain ⟨y0, y1, n, hy, hlen, t0, t1⟩ := trod_struct2 Tryz.underlying28 hd
  rw [cellsFct4] at hlen
  rw [hy] at hw
  simp only [DataW.weights, DataW.weightsEach, Tryz.underlying28, List.map_cons, List.map_nil, List.mem_append] at hw
  match cs, hlen with
  | [v0, v1], _ =>
    simp only [cellsCons4, cellsStr, List.drop_zero, List.drop_succ_cons, List.take_succ_cons, List.take_zero] at t0 t1
    obtain ⟨s, e0, x0, hs⟩ := DataW.trod_string Tryz.underlying9 t0
    obtain ⟨ao, len, cap, ts, rfl, hts⟩ := cons_val t1 (fun n hn => hw n (.inr (.inl hn)))
    simp only [List.cons.injEq, and_true] at e0
    subst e0 x0
    have hs2 : s.size ≤ 140737488351232 := hw s.size (.inl (by simp [DataW.weights]))
    exact ⟨⟨s, ao, len, cap, ts⟩, ⟨hs2, hts⟩, rfl⟩

set_option maxRecDepth 100000 in
theorem open_fcts4 {r : Reach} {b0 : Nat} {v : Value} {d : DataW H} {ps : List MemPlace} {ts : List TypeId} {ds : List (DataW H)} {j : Nat}
    (hv : Value.okWide Tryz.prog w r b0 22 v) (h : DataW.Trod enc Tryz.prog w 0 (fun _ => true) true 22 v d ps)
    (hsz : (DataW.weightsEach Tryz.prog ts ds).all (· ≤ reachBytes) = true) (hts : ts[j]? = some 22) (hds : ds[j]? = some d) :
    ∃ ao len cap xs, v = .slice ao len cap ∧ IsFcts w ao len xs := by
  obtain ⟨ao, len, cap, rfl⟩ := okWide_slice Tryz.underlying22 hv
  have hw : ∀ n ∈ d.weights Tryz.prog 22, n ≤ 140737488351232 := fun n hn => of_decide_eq_true (List.all_eq_true.1 hsz n (DataW.weights_mem_each hts hds n hn))
  obtain ⟨fuel, hf⟩ := h
  simp only [Value.cells] at hf
  obtain ⟨ao1, len1, cap1, e1, hr, hrow⟩ := rows_in Tryz.underlying22 cellsFct4 (by omega) hf hw
  cases e1
  rw [show Tryz.prog.bytesOf 28 = 40 from by kernel_rfl] at hr
  by_cases hlen : 0 < len
  · obtain ⟨b, off, rfl, hel⟩ := hrow hlen
    obtain ⟨l, h1, h2⟩ := list_of_each (R := fun i (t : Fct) => t.at w ∧ fctAt w b (off + i * 2) t) len (fun i hi => by
      obtain ⟨cs, fuel, y, g1, g2, g3⟩ := hel i hi
      obtain ⟨t, hok, rfl⟩ := fct_vals g2 g3
      obtain ⟨_, _, hc⟩ := World.cells?_some g1
      have c0 := hc 0 (by omega)
      have c1 := hc 1 (by omega)
      rw [addr_add] at c0 c1
      exact ⟨t, hok, by simpa using c0, by simpa using c1⟩)
    refine ⟨_, len, cap, l, rfl, h1, hr, fun c hc => ?_, fun _ => ⟨b, off, rfl, fun i c hc => (h2 i c hc).2⟩⟩
    obtain ⟨i, hi⟩ := List.mem_iff_getElem?.1 hc
    exact (h2 i c hi).1
  · obtain rfl : len = 0 := by omega
    exact ⟨ao, 0, cap, [], rfl, rfl, by omega, by simp, fun h => absurd h (by omega)⟩
end
end Go.Proofs.YtchhophblejmeaaGreatDoor
