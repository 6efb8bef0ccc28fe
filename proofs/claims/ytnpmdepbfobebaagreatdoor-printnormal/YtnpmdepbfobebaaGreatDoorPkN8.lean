/- Faults held against none; boxes that stay. PrintNormal: what parse makes is well formed; printed, parsed and printed again it is the same. What the program's start-up lays, read off the row's condition: the table of marks and two error values. What the program's start-up lays, read off the row's condition: the table of marks, two error values, the table by which strconv counts digits. -/
import Derived.Test.YtnpmdepbfobebaaGreatDoorProg
import Derived.Test.YtnpmdepbfobebaaGreatDoorParseLit
import Derived.Test.YtnpmdepbfobebaaGreatDoorPkN1
import Derived.Test.YtnpmdepbfobebaaGreatDoorPkN5
import Derived.Test.YtnpmdepbfobebaaGreatDoorPkN6
import Derived.Test.YtnpmdepbfobebaaGreatDoorPkN7
import Derived.Test.YtnpmdepbfobebaaGreatDoorRows
import Derived.Test.YtnpmdepbfobebaaGreatDoorLexInt
import Derived.Lib.LaidU8
import Derived.MakeChecks
import Derived.OpenShut
import Derived.ProofKit
import Derived.LaidMore
import Derived.Stop.Joined
import Derived.Test.YtnpmdepbfobebaaGreatDoorPkN2
import Derived.Lib.LaidTab
import Derived.Lib.SmallJoins

namespace Go.Proofs.YtnpmdepbfobebaaGreatDoor
set_option linter.unusedSimpArgs false
set_option linter.unusedVariables false
open Go.RowKit

theorem fq_zero (w : World) : (binOp .eql 31 (.agg #[.int .i64 0, .int .i64 0, .int .i64 0]) (.agg #[.int .i64 0, .int .i64 0, .int .i64 0])).run Tryz.prog w = .ok (.bool true) w := by
  have h1 := run_equalIn_struct (P := Tryz.prog) w 9999 31 #[.int .i64 0, .int .i64 0, .int .i64 0] #[.int .i64 0, .int .i64 0, .int .i64 0] (by kernel_rfl) (by kernel_rfl)
  simp only [binOp]
  simp only [Op.equal, Op.maxDepth, Sem.run_bind]
  go_simp
theorem fq_bad (c o : Int) (h : c ≠ 0) (w : World) : (binOp .eql 31 (.agg #[.int .i64 c, .int .i64 0, .int .i64 o]) (.agg #[.int .i64 0, .int .i64 0, .int .i64 0])).run Tryz.prog w = .ok (.bool false) w := by
  have hc : (c == 0) = false := by simpa using h
  have h1 := run_equalIn_struct (P := Tryz.prog) w 9999 31 #[.int .i64 c, .int .i64 0, .int .i64 o] #[.int .i64 0, .int .i64 0, .int .i64 0] (by kernel_rfl) (by kernel_rfl)
  simp only [binOp]
  simp only [Op.equal, Op.maxDepth, Sem.run_bind]
  go_simp
theorem nx_first (w : World) (x y : Obj) : ((w.alloc x).alloc y).heap[w.heap.size]? = some x := by
  rw [(belowA (w.alloc x) y).block _ (by simp)]; exact heap_alloc_new w _
theorem nx_second (w : World) (x y : Obj) : ((w.alloc x).alloc y).heap[w.heap.size + 1]? = some y := by
  have := heap_alloc_new (w.alloc x) y
  simpa using this
theorem bx_kept {W W' : World} {b : Nat} {x : Obj} (h : W.heap[b]? = some x) (hb : Below W.heap.size W W') : W'.heap[b]? = some x := by
  rw [hb.block _ (Array.getElem?_eq_some_iff.1 h).1]; exact h
theorem fq_cells {V : World} {b : Nat} {u0 u1 u2 : Value} (h : V.heap[b]? = some (.cells #[u0, u1, u2] 31 (0, 0))) : V.cell? ⟨b, 0, none⟩ = some u0 ∧ V.cell? ⟨b, 1, none⟩ = some u1 ∧ V.cell? ⟨b, 2, none⟩ = some u2 := by
  refine ⟨?_, ?_, ?_⟩ <;> simp [World.cell?, h]
theorem query_ne {s : ByteArray} {x o : Int} (h : queryP (scanX s).2.1 ((scanX s).2.2 : Int) (scanX s).1 = .bad x o) : x ≠ 0 := by
  unfold queryP bodyP at h
  have hb := body_bd (c := (scanX s).2.1) (f := ((scanX s).2.2 : Int)) ((scanX s).1.length + 1) [] (scanX s).1 (by omega) (scan_ne s)
  cases hB : bodyF (scanX s).2.1 ((scanX s).2.2 : Int) ((scanX s).1.length + 1) [] (scanX s).1 with
  | bad a b => rw [hB] at h; cases h; exact bd_bad hb hB
  | ok b r =>
    rw [hB] at h
    simp only at h
    cases hT : takeP (scanX s).2.1 ((scanX s).2.2 : Int) [0] r with
    | bad a c => rw [hT] at h; cases h; exact take_bd0 (bd_ok hb hB) hT
    | ok t q => rw [hT] at h; cases h
theorem fact_ne {s : ByteArray} {x o : Int} (h : factP (scanX s).2.1 ((scanX s).2.2 : Int) (scanX s).1 = .bad x o) : x ≠ 0 := by
  unfold factP at h
  have hb := take_bd (c := (scanX s).2.1) (f := ((scanX s).2.2 : Int)) (ks := [1]) (scan_ne s) (by decide)
  cases hA : takeP (scanX s).2.1 ((scanX s).2.2 : Int) [1] (scanX s).1 with
  | bad a b => rw [hA] at h; cases h; exact bd_bad hb hA
  | ok t r =>
    rw [hA] at h
    simp only at h
    have hc := atom_bd (c := (scanX s).2.1) (f := ((scanX s).2.2 : Int)) (ks := valueKs) (by decide) (name := t) (bd_ok hb hA)
    cases hB : atomP (scanX s).2.1 ((scanX s).2.2 : Int) valueKs t r with
    | bad a b => rw [hB] at h; cases h; exact bd_bad hc hB
    | ok a r1 =>
      rw [hB] at h
      simp only at h
      cases hT : takeP (scanX s).2.1 ((scanX s).2.2 : Int) [0] r1 with
      | bad a c => rw [hT] at h; cases h; exact take_bd0 (bd_ok hc hB) hT
      | ok t q => rw [hT] at h; cases h
end Go.Proofs.YtnpmdepbfobebaaGreatDoor

namespace Go.Proofs.YtnpmdepbfobebaaGreatDoor
set_option linter.unusedSimpArgs false
set_option linter.unusedVariables false
open Go.RowKit

theorem mod9_lt (n : Int) : ∃ k : Nat, mod9 n = k ∧ k < 9 := by
  have h1 : 0 ≤ mod9 n := Int.emod_nonneg _ (by decide)
  have h2 : mod9 n < 9 := Int.emod_lt_of_pos _ (by decide)
  exact ⟨(mod9 n).toNat, by omega, by omega⟩
def strL (l : List UInt8) : ByteArray := ⟨l.toArray⟩
theorem strL_app (l m : List UInt8) : strL l ++ strL m = strL (l ++ m) := by
  apply bytes_ext
  rw [ByteArray.data_append, Array.toList_append]
  simp [strL]
/-- All that the law asks of a program that parse has made. -/
theorem made_facts {cs : List Clx} {T : ByteArray} {b : List PCls} {r : List Tok} (hr : progP (scanX T).2.1 ((scanX T).2.2 : Int) (scanX T).1 = .ok b r) (hb : cs.map Clx.pur = b) :
    progE (cs.map clsOf) = 0 ∧ (progT cs).length ≤ 100000000000000 ∧ Lined (strL (progT cs)) cs.length ∧ (∀ x ∈ b, okC x) ∧ b.length ≤ 512 := by
  obtain ⟨h1, h2⟩ := prog_ok hr
  have hl : cs.length ≤ 512 := by rw [← hb, List.length_map] at h2; exact h2
  have e := progT_pur cs
  rw [hb] at e
  obtain ⟨c1, c2, c3⟩ := prog_count b h1
  have hbl : b.length = cs.length := by rw [← hb, List.length_map]
  refine ⟨prog_zero (by rw [hb]; exact h1) hl, ?_, ?_, h1, h2⟩
  · rw [e]
    have : b.length * 600000 ≤ 512 * 600000 := Nat.mul_le_mul_right _ h2
    omega
  · have e2 : (strL (progT cs)).data.toList = pprogT b := by rw [e]; simp [strL]
    refine lined_of ?_ ?_ ?_
    · rw [e2]; exact prog_lines b h1 0
    · rw [e2, c1, hbl]
    · rw [e2]; exact c2

theorem fn_zero (w : World) : (binOp .neq 31 (.agg #[.int .i64 0, .int .i64 0, .int .i64 0]) (.agg #[.int .i64 0, .int .i64 0, .int .i64 0])).run Tryz.prog w = .ok (.bool false) w := by
  have h1 := run_equalIn_struct (P := Tryz.prog) w 9999 31 #[.int .i64 0, .int .i64 0, .int .i64 0] #[.int .i64 0, .int .i64 0, .int .i64 0] (by kernel_rfl) (by kernel_rfl)
  simp only [binOp]
  simp only [Op.equal, Op.maxDepth, Sem.run_bind]
  go_simp

theorem fn_bad (c o : Int) (h : c ≠ 0) (w : World) : (binOp .neq 31 (.agg #[.int .i64 c, .int .i64 0, .int .i64 o]) (.agg #[.int .i64 0, .int .i64 0, .int .i64 0])).run Tryz.prog w = .ok (.bool true) w := by
  have hc : (c == 0) = false := by simpa using h
  have h1 := run_equalIn_struct (P := Tryz.prog) w 9999 31 #[.int .i64 c, .int .i64 0, .int .i64 o] #[.int .i64 0, .int .i64 0, .int .i64 0] (by kernel_rfl) (by kernel_rfl)
  simp only [binOp]
  simp only [Op.equal, Op.maxDepth, Sem.run_bind]
  go_simp
set_option maxRecDepth 100000 in
set_option maxHeartbeats 8000000 in
theorem printNormal_walk (src : ByteArray) (n : Int) (w : World) (hs : src.size ≤ 140737488351232) (hn : I64 n) (hl : LexLaid w) (ht : TabLaid w) :
    Calls Tryz.prog 4 #[.string src, .int .i64 n] w fun e w' => e = .returned (.bool true) ∧ Below w.heap.size w w' := by
  obtain ⟨m, hm, hm9⟩ := mod9_lt n
  have HM : Hid (∀ W, Calls Tryz.prog 15 #[.int .i64 n, .int .i64 9] W fun e w' => e = .returned (.int .i64 m) ∧ w' = W) := fun W => by
    have := mod4_9 n W
    rw [hm] at this
    exact this
  have HL := hide hl
  have HTb := hide ht
  clear hl ht hm
  go_enter Tryz.func4, Tryz.ntmps4
  go_wp2
  go_loopw [5, 6] (fun fv i wl => ∃ k : Nat, k ≤ m ∧ fv = .string (strL (fewT k)) ∧ i = .int .i64 k ∧ wl = w) (fun _ i _ => m - (intOf i).toNat)
  case atStart => exact ⟨0, by omega, rfl, rfl, rfl⟩
  case round =>
    obtain ⟨k, hk, rfl, rfl, rfl⟩ := hrel
    by_cases hlt : k < m
    · have hi : (k : Int) < (m : Int) := by omega
      have hcat : strL (fewT k) ++ strL [32, 112, 46, 9] = strL (fewT (k + 1)) := strL_app _ _
      have hsz : (strL (fewT k)).size = 4 * k := by show (fewT k).toArray.size = _; rw [List.size_toArray, few_len]
      go_wp2_with (go_at_call 15; refine (HM.out _).mono ?_; rintro e w1 ⟨rfl, hw⟩; have hw := hw.symm; subst hw)
      go_roundw
      case rel => exact ⟨k + 1, by omega, by rw [← hcat]; rfl, by go_num, trivial⟩
      case measure => simp [intOf]; omega
    · obtain rfl : k = m := by omega
      have hi : ¬ (k : Int) < (k : Int) := by omega
      have hfs : (strL (fewT k)).size = 4 * k := by show (fewT k).toArray.size = _; rw [List.size_toArray, few_len]
      obtain ⟨P, hP, hPl⟩ := few_prog (T := strL (fewT k)) hm9 (by simp [strL]) (by omega)
      have HP := hide hP
      have HPl := hide hPl
      clear hP hPl
      go_wp2_with (first | (go_at_call 15; refine (HM.out _).mono ?_; rintro e w1 ⟨rfl, hw⟩; have hw := hw.symm; subst hw) | (go_at_call 16; fail))
      refine (parseProgram_any (strL (fewT k)) wr HL.out (by omega)).mono ?_
      intro e w1 hq
      obtain ⟨v, cs, he, hpu, hcl, hls, hb1⟩ := readProg_ok hq HP.out
      unfold faultV at he
      subst he
      have hcsl : cs.length = k := by have := congrArg List.length hpu; rw [List.length_map, HPl.out] at this; exact this
      obtain ⟨f1, f2, f3, -, -⟩ := made_facts HP.out hpu
      have HPr := hide (fun V (hb : Below w1.heap.size w1 V) => printProgram hls.all (HTb.out.kept hb1) hb f1 f2)
      rw [hcsl] at f3
      have HLn := hide (fun V => lines_any _ k V f3 (by show (progT cs).toArray.size ≤ _; rw [List.size_toArray]; omega))
      have HB1 := hide hb1
      obtain ⟨va, vc, hv, -, -, -⟩ := hls.shape
      rw [hcsl] at hv
      subst hv
      clear hq hpu hcl hls hb1 f1 f2 f3 hcsl HP HPl
      generalize progT cs = T1 at *
      have hz := fq_zero
      have hz2 := fn_zero
      have HMb : Hid (∀ W, Calls Tryz.prog 15 #[.int .i64 n, .int .i64 9] W fun e w' => e = .returned (.int .i64 k) ∧ Below W.heap.size W w') := fun W => (HM.out W).mono fun e w' ⟨h1, h2⟩ => ⟨h1, by rw [h2]; exact Below.refl _ _⟩
      have HLb : Hid (∀ W, Calls Tryz.prog 9 #[.string (strL T1), .int .i64 k] W fun e w' => e = .returned (.bool true) ∧ Below W.heap.size W w') := fun W => (HLn.out W).mono fun e w' ⟨h1, h2⟩ => ⟨h1, by rw [h2]; exact Below.refl _ _⟩
      clear HLn
      go_wp2_with fail
      obtain ⟨W2, hW2⟩ : ∃ W2, W2 = (w1.alloc (.cells #[.slice va k vc] 47)).alloc (.cells #[.int .i64 0, .int .i64 0, .int .i64 0] 31) := ⟨_, rfl⟩
      have HB2 : Hid (Below w1.heap.size w1 W2) := by rw [hW2]; exact below2a _ _ _
      have c0 : W2.cell? ⟨w1.heap.size, 0, none⟩ = some (.slice va k vc) := by rw [hW2]; simp
      have d0 : W2.cell? ⟨w1.heap.size + 1, 0, none⟩ = some (.int .i64 0) := by rw [hW2]; simp
      have d1 : W2.cell? ⟨w1.heap.size + 1, 1, none⟩ = some (.int .i64 0) := by rw [hW2]; simp
      have d2 : W2.cell? ⟨w1.heap.size + 1, 2, none⟩ = some (.int .i64 0) := by rw [hW2]; simp
      rw [← hW2]
      clear hW2
      have HBW := hide (HB1.out.trans (HB2.out.mono HB1.out.size))
      refine wp_region_over (fun W => W = W2) (by kernel_rfl) (by kernel_rfl) rfl ?_
      rintro W rfl
      have c0 := over_cell c0
      have d0 := over_cell d0
      have d1 := over_cell d1
      have d2 := over_cell d2
      repeat (go_big_quiet_step (first | (go_at_call 15; exact calls_over (HMb.out _)) | (go_at_call 17; exact calls_over (HPr.out _ (HB2.out.trans ((over_below _ _).mono HB2.out.size)))) | (go_at_call 9; exact calls_over (HLb.out _))))
      refine wpQuiet_nil ?_
      rintro _ ⟨z, rfl⟩
      have HB3 := hide (HBW.out.trans ((over_below W z).mono HBW.out.size))
      clear c0 d0 d1 d2 HPr HLb HMb HB1 HB2 HBW
      generalize over W z = W3 at *
      clear HM
      go_wp2_with fail
      have HL3 := hide (HL.out.kept HB3.out)
      refine (parseProgram_any src W3 HL3.out hs).mono ?_
      intro e w4 hq
      cases hr : progP (scanX src).2.1 ((scanX src).2.2 : Int) (scanX src).1 with
      | bad ec eo =>
        obtain ⟨he, hb4⟩ := readProg_bad hq hr
        have hec : ec ≠ 0 := prog_ne _ [] _ (by omega) (scan_ne src) hr
        have HB4 := hide (HB3.out.trans (hb4.mono HB3.out.size))
        have hfb := fn_bad ec eo hec
        unfold faultV at he
        subst he
        clear hq hr hb4 hec
        go_wp2
        go_ret
        exact ⟨rfl, HB4.out.trans ((below2a _ _ _).mono HB4.out.size)⟩
      | ok P2 r2 =>
        obtain ⟨v2, cs2, he, hpu, hcl, hls, hb4⟩ := readProg_ok hq hr
        unfold faultV at he
        subst he
        have HB4 := hide (HB3.out.trans (hb4.mono HB3.out.size))
        obtain ⟨f1, f2, f3, f4, f5⟩ := made_facts hr hpu
        have HT4 := hide (HTb.out.kept HB4.out)
        have HPr := hide (fun V (hb : Below w4.heap.size w4 V) => printProgram hls.all HT4.out hb f1 f2)
        obtain ⟨va2, vc2, hv, -, -, -⟩ := hls.shape
        rw [hv] at hls
        have HWl := hide (fun V (hb : Below w4.heap.size w4 V) => well_any va2 cs2.length vc2 (cs2.map clsOf) V (clss_of (hls.all.kept hb)))
        rw [f1] at HWl
        have HLn : Hid (∀ V, Calls Tryz.prog 9 #[.string (strL (progT cs2)), .int .i64 cs2.length] V fun e w' => e = .returned (.bool true) ∧ Below V.heap.size V w') := fun V => (lines_any _ cs2.length V f3 (by show (progT cs2).toArray.size ≤ _; rw [List.size_toArray]; omega)).mono fun e w' ⟨h1, h2⟩ => ⟨h1, by rw [h2]; exact Below.refl _ _⟩
        have HLs := hide hls.all
        have HOk := hide f4
        have HP5 := hide f5
        have HPu := hide hpu
        have HT2 := hide (progT_pur cs2)
        rw [hv] at HPr ⊢
        subst hv
        clear hq hr hpu hls hb4 f1 f3 f4 f5
        obtain ⟨T2, hT2⟩ : ∃ T2, T2 = strL (progT cs2) := ⟨_, rfl⟩
        have e1 : (⟨(progT cs2).toArray⟩ : ByteArray) = T2 := hT2.symm
        have hsz : T2.size ≤ 100000000000000 := by rw [hT2]; show (progT cs2).toArray.size ≤ _; rw [List.size_toArray]; exact f2
        rw [e1] at HPr
        rw [← hT2] at HLn
        have HTT := hide hT2
        clear e1 hT2 f2
        obtain ⟨n2, hn2⟩ : ∃ n2, n2 = cs2.length := ⟨_, rfl⟩
        rw [← hn2] at HPr HWl HLn HLs ⊢
        have HN2 := hide hn2
        clear hn2
        go_wp2_with fail
        obtain ⟨W5, hW5⟩ : ∃ W5, W5 = (w4.alloc (.cells #[.slice va2 n2 vc2] 47)).alloc (.cells #[.int .i64 0, .int .i64 0, .int .i64 0] 31) := ⟨_, rfl⟩
        have HB5 : Hid (Below w4.heap.size w4 W5) := by rw [hW5]; exact below2a _ _ _
        have c0 : W5.cell? ⟨w4.heap.size, 0, none⟩ = some (.slice va2 n2 vc2) := by rw [hW5]; simp
        rw [← hW5]
        clear hW5
        refine (HPr.out W5 HB5.out).mono ?_
        rintro e w6 ⟨rfl, hb6⟩
        have HB6 := hide (HB5.out.trans (hb6.mono HB5.out.size))
        have c6 := kept_cell hb6 c0
        clear hb6 c0 HB5
        go_wp2_with fail
        refine (HWl.out w6 HB6.out).mono ?_
        rintro e w7 ⟨rfl, hb7⟩
        have HB6b := hide (HB6.out.trans (hb7.mono HB6.out.size))
        have c6b := kept_cell hb7 c6
        clear hb7 c6
        go_wp2_with fail
        refine (HLn.out w7).mono ?_
        rintro e W7 ⟨rfl, hb8⟩
        have HB7 := hide (HB6b.out.trans (hb8.mono HB6b.out.size))
        have c7 := kept_cell hb8 c6b
        clear hb8 c6b HWl HLn HB6 HB6b
        by_cases hlong : 65536 < T2.size
        · have hi : (65536 : Int) < (T2.size : Int) := by omega
          go_wp2
          go_ret
          exact ⟨rfl, HB4.out.trans (HB7.out.mono HB4.out.size)⟩
        · have hi : ¬ (65536 : Int) < (T2.size : Int) := by omega
          have hT : T2.data.toList = pprogT P2 := by rw [HTT.out, ← HPu.out, ← HT2.out]; simp [strL]
          obtain ⟨P3, hP3, hst⟩ := prt_prog hT HOk.out HP5.out (by omega)
          have HB8 := hide (HB4.out.trans (HB7.out.mono HB4.out.size))
          have HL8 := hide (HL.out.kept HB8.out)
          clear hT
          go_wp2_with fail
          refine (parseProgram_any T2 W7 HL8.out (by omega)).mono ?_
          intro e w9 hq
          obtain ⟨v3, cs3, he, hpu3, hcl3, hls3, hb9⟩ := readProg_ok hq hP3
          unfold faultV at he
          subst he
          obtain ⟨f1, f2, -, -, -⟩ := made_facts hP3 hpu3
          have HB9 := hide (HB8.out.trans (hb9.mono HB8.out.size))
          have HT9 := hide (HTb.out.kept HB9.out)
          have HPr3 := hide (fun V (hb : Below w9.heap.size w9 V) => printProgram hls3.all HT9.out hb f1 f2)
          have heq : (⟨(progT cs3).toArray⟩ : ByteArray) = T2 := by
            rw [HTT.out, HT2.out, progT_pur cs3, hpu3, HPu.out, pprogT_st hst]
            rfl
          rw [heq] at HPr3
          have hsame : cs2.map (fun x => x.pur.st) = cs3.map (fun x => x.pur.st) := by
            have e1 : cs2.map (fun x => x.pur.st) = P2.map PCls.st := by rw [← HPu.out, List.map_map]; rfl
            have e2 : cs3.map (fun x => x.pur.st) = P3.map PCls.st := by rw [← hpu3, List.map_map]; rfl
            rw [e1, e2, hst]
          have HLs9 := hide ((HLs.out.kept HB7.out).kept hb9)
          have HLs3 := hide hls3.all
          have HSm := hide (fun V (hb : Below w9.heap.size w9 V) => sameProg4 (HLs9.out.kept hb) (HLs3.out.kept hb) hsame)
          have c9 := kept_cell hb9 c7
          obtain ⟨va3, vc3, hv, -, -, -⟩ := hls3.shape
          subst hv
          have hss : (T2.toList == T2.toList) = true := by simp
          clear hq hP3 hst hpu3 hcl3 hls3 hb9 f1 f2 heq hsame c7
          generalize cs3.length = n3 at *
          have c9b := kept_cell (below2a w9 (.cells #[.slice va3 n3 vc3] 47) (.cells #[.int .i64 0, .int .i64 0, .int .i64 0] 31)) c9
          have d9 : ((w9.alloc (.cells #[.slice va3 n3 vc3] 47)).alloc (.cells #[.int .i64 0, .int .i64 0, .int .i64 0] 31)).cell? ⟨w9.heap.size, 0, none⟩ = some (.slice va3 n3 vc3) := by simp
          have HBa := hide (below2a w9 (.cells #[.slice va3 n3 vc3] 47) (.cells #[.int .i64 0, .int .i64 0, .int .i64 0] 31))
          clear c9
          go_wp2_with fail
          refine (HSm.out _ HBa.out).mono ?_
          rintro e wa ⟨rfl, hba⟩
          have HBb := hide (HBa.out.trans (hba.mono HBa.out.size))
          have d10 := kept_cell hba d9
          clear hba c9b d9
          go_wp2_with fail
          refine (HPr3.out wa HBb.out).mono ?_
          rintro e wb ⟨rfl, hbb⟩
          have HBc := hide (HB9.out.trans ((HBb.out.trans (hbb.mono HBb.out.size)).mono HB9.out.size))
          clear hbb d10
          go_wp2
          go_ret
          exact ⟨rfl, HBc.out⟩
end Go.Proofs.YtnpmdepbfobebaaGreatDoor

namespace Go.Proofs.YtnpmdepbfobebaaGreatDoor
set_option linter.unusedSimpArgs false
set_option linter.unusedVariables false
open Go.RowKit

def lexLaid : List (String × DataW Unit) := [("math/bits.deBruijn32tab", Rows.laid_math_bits_deBruijn32tab), ("math/bits.deBruijn64tab", Rows.laid_math_bits_deBruijn64tab), ("internal/strconv.uint64pow10", Rows.laid_internal_strconv_uint64pow10), ("strconv.ErrRange", Rows.laid_strconv_ErrRange), ("strconv.ErrSyntax", Rows.laid_strconv_ErrSyntax), ("edict/lex.marks", Rows.laid_edict_lex_marks)]

theorem gMarks : Tryz.prog.globalNamed "edict/lex.marks" = some 0 := by kernel_rfl
theorem gSyn : Tryz.prog.globalNamed "strconv.ErrSyntax" = some 1 := by kernel_rfl
theorem gRng : Tryz.prog.globalNamed "strconv.ErrRange" = some 2 := by kernel_rfl
theorem tMarks : (Tryz.prog.globals[0]?).map (·.type) = some 165 := by kernel_rfl
theorem tSyn : (Tryz.prog.globals[1]?).map (·.type) = some 158 := by kernel_rfl
theorem tRng : (Tryz.prog.globals[2]?).map (·.type) = some 158 := by kernel_rfl

set_option maxRecDepth 100000 in
theorem iface_cells {fuel : Nat} {W : World} {cs : List Value} {n : String} {d : DataW Unit} {p : List MemPlace} {sp : Nat → Bool} {base : Nat}
    (h : DataW.trod (fun _ => ()) Tryz.prog W base sp false fuel 158 cs = some (.iface n d, p)) : ∃ t y, cs = [.iface t y] := by
  cases fuel with
  | zero => simp [DataW.trod] at h
  | succ m =>
    unfold DataW.trod at h
    rw [Tryz.underlying158] at h
    split at h <;> first | exact ⟨_, _, rfl⟩ | simp_all

set_option maxRecDepth 100000 in
theorem struct_cells {fuel : Nat} {W : World} {cs : List Value} {bs : List UInt8} {k op : Int} {p : List MemPlace} {sp : Nat → Bool} {base : Nat}
    (h : DataW.trod (fun _ => ()) Tryz.prog W base sp false fuel 164 cs = some ((.agg [.lit (.string bs), .lit (.int .i64 k), .lit (.int .i64 op)] : DataW Unit), p)) : cs = [.string ⟨bs.toArray⟩, .int .i64 k, .int .i64 op] := by
  obtain ⟨xs, m, rfl, hx, hlen, hn, hel⟩ := DataW.trod_struct Tryz.underlying164 h
  have hc : Tryz.prog.cellsOf 164 = 3 := by kernel_rfl
  have c9 : Tryz.prog.cellsOf 9 = 1 := by kernel_rfl
  have c3 : Tryz.prog.cellsOf 3 = 1 := by kernel_rfl
  rw [hc] at hlen
  have e0 : DataW.trod (fun _ => ()) Tryz.prog W base sp false m 9 ((cs.drop 0).take (Tryz.prog.cellsOf 9)) = xs[0]? := hel 0 _ rfl
  have e1 : DataW.trod (fun _ => ()) Tryz.prog W base sp false m 3 ((cs.drop 1).take (Tryz.prog.cellsOf 3)) = xs[1]? := hel 1 _ rfl
  have e2 : DataW.trod (fun _ => ()) Tryz.prog W base sp false m 3 ((cs.drop 2).take (Tryz.prog.cellsOf 3)) = xs[2]? := hel 2 _ rfl
  rw [c9] at e0
  rw [c3] at e1 e2
  match xs, hn, hx, e0, e1, e2 with
  | [x0, x1, x2], _, hx, e0, e1, e2 =>
    obtain ⟨s, a0, b0, _⟩ := DataW.trod_string Tryz.underlying9 (show _ = some x0 from e0)
    obtain ⟨n1, a1, b1, _⟩ := DataW.trod_int Tryz.underlying3 (show _ = some x1 from e1)
    obtain ⟨n2, a2, b2, _⟩ := DataW.trod_int Tryz.underlying3 (show _ = some x2 from e2)
    simp only [Prod.mk.injEq, DataW.agg.injEq, List.map_cons, List.map_nil, List.cons.injEq, and_true] at hx
    rw [b0, b1, b2] at hx
    simp only [DataW.lit.injEq, Lit.string.injEq, Lit.int.injEq, true_and] at hx
    obtain ⟨⟨h0, h1, h2⟩, _⟩ := hx
    match cs, hlen, a0, a1, a2 with
    | [c0, c1, c2], _, a0, a1, a2 =>
      simp at a0 a1 a2
      rw [a0, a1, a2, h0, ← h1, ← h2]

/-- The data of the table's rows. -/
def markD (m : List UInt8 × Int × Int) : DataW Unit := .agg [.lit (.string m.1), .lit (.int .i64 m.2.1), .lit (.int .i64 m.2.2)]
def marksM : List (List UInt8 × Int × Int) :=
  [([58, 45], 9, 0), ([33, 61], 11, 2), ([60, 61], 11, 4), ([62, 61], 11, 6), ([60], 11, 3), ([62], 11, 5), ([61], 11, 1), ([40], 5, 0), ([41], 6, 0), ([44], 7, 0), ([46], 8, 0)]
theorem marks_data : (Rows.laid_edict_lex_marks : DataW Unit) = .agg (marksM.map markD) := rfl
def mark3 (m : List UInt8 × Int × Int) : List Value := [.string ⟨m.1.toArray⟩, .int .i64 m.2.1, .int .i64 m.2.2]
theorem marksL_eq : marksL = marksM.flatMap mark3 := rfl

theorem flat3_at (ms : List (List UInt8 × Int × Int)) (cs : List Value) (hl : cs.length = ms.length * 3) (h : ∀ i m, ms[i]? = some m → (cs.drop (i * 3)).take 3 = mark3 m) : cs = ms.flatMap mark3 := by
  induction ms generalizing cs with
  | nil => exact List.length_eq_zero_iff.1 (by simpa using hl)
  | cons m r ih =>
    rw [List.flatMap_cons]
    have h0 := h 0 m rfl
    simp only [Nat.zero_mul, List.drop_zero] at h0
    have h1 := ih (cs.drop 3) (by simp [hl]; omega) (fun i m' hm => by
      have := h (i + 1) m' hm
      rw [List.drop_drop]
      rw [show (i + 1) * 3 = 3 + i * 3 by omega] at this
      exact this)
    rw [← h0, ← h1, List.take_append_drop]

theorem laid_lex {W : World} (h : laidMetH Tryz.prog lexLaid W) : LexLaid W := by
  rw [MakeChecks.laidMetH_plain _ _ _ (by kernel_rfl)] at h
  have r1 := Lib.laidMet.reads h (show ("strconv.ErrRange", Rows.laid_strconv_ErrRange) ∈ lexLaid from .tail _ (.tail _ (.tail _ (.head _))))
  have r2 := Lib.laidMet.reads h (show ("strconv.ErrSyntax", Rows.laid_strconv_ErrSyntax) ∈ lexLaid from .tail _ (.tail _ (.tail _ (.tail _ (.head _)))))
  have r3 := Lib.laidMet.reads h (show ("edict/lex.marks", Rows.laid_edict_lex_marks) ∈ lexLaid from .tail _ (.tail _ (.tail _ (.tail _ (.tail _ (.head _))))))
  refine ⟨?_, ?_, ?_⟩
  · obtain ⟨g, t, cs, fuel, p, hg, ht, hv, hd⟩ := r2
    obtain rfl := Option.some.inj (gSyn.symm.trans hg)
    obtain rfl := Option.some.inj (tSyn.symm.trans ht)
    obtain ⟨t, y, hcs⟩ := iface_cells hd
    refine ⟨t, y, ?_⟩
    have := World.var?_cell hg hv 0
    rw [Array.eq_one_of_toList hcs] at this
    simpa using this
  · obtain ⟨g, t, cs, fuel, p, hg, ht, hv, hd⟩ := r1
    obtain rfl := Option.some.inj (gRng.symm.trans hg)
    obtain rfl := Option.some.inj (tRng.symm.trans ht)
    obtain ⟨t, y, hcs⟩ := iface_cells hd
    refine ⟨t, y, ?_⟩
    have := World.var?_cell hg hv 0
    rw [Array.eq_one_of_toList hcs] at this
    simpa using this
  · obtain ⟨g, t, cs, fuel, p, hg, ht, hv, hd⟩ := r3
    obtain rfl := Option.some.inj (gMarks.symm.trans hg)
    obtain rfl := Option.some.inj (tMarks.symm.trans ht)
    obtain ⟨xs, m, rfl, hx, hlen, hn, hel⟩ := DataW.trod_array Tryz.underlying165 hd
    have c61 : Tryz.prog.cellsOf 165 = 33 := by kernel_rfl
    have c60 : Tryz.prog.cellsOf 164 = 3 := by kernel_rfl
    rw [c61] at hlen
    rw [marks_data] at hx
    simp only [Prod.mk.injEq, DataW.agg.injEq] at hx
    have hcs : cs.toList = marksL := by
      rw [marksL_eq]
      refine flat3_at marksM cs.toList (by rw [hlen]; rfl) (fun i mm hm => ?_)
      have hi : i < 11 := (List.getElem?_eq_some_iff.1 hm).1
      have he := hel i hi
      rw [c60] at he
      have hxi : (xs.map (·.1))[i]? = some (markD mm) := by rw [← hx.1, List.getElem?_map, hm]; rfl
      rw [List.getElem?_map] at hxi
      obtain ⟨x, hx1, hx2⟩ := Option.map_eq_some_iff.1 hxi
      rw [hx1] at he
      obtain ⟨d, ps⟩ := x
      simp only at hx2
      subst hx2
      exact struct_cells he
    intro i v hv'
    have := World.var?_cell hg hv i
    rw [← hcs] at hv'
    rw [this]
    simpa using hv'

end Go.Proofs.YtnpmdepbfobebaaGreatDoor

namespace Go.Proofs.YtnpmdepbfobebaaGreatDoor
set_option linter.unusedSimpArgs false
set_option linter.unusedVariables false
open Go.RowKit

theorem gPow : Tryz.prog.globalNamed "internal/strconv.uint64pow10" = some 3 := by kernel_rfl
theorem tPow : (Tryz.prog.globals[3]?).map (·.type) = some 190 := by kernel_rfl
theorem laid_pn {W : World} (h : laidMetH Tryz.prog lexLaid W) : LexLaid W ∧ TabLaid W := by
  refine ⟨laid_lex h, ?_⟩
  rw [MakeChecks.laidMetH_plain _ _ _ (by kernel_rfl)] at h
  obtain ⟨g, t, cs, fuel, p, hg, ht, hv, hd⟩ := Lib.laidMet.reads h (show ("internal/strconv.uint64pow10", Rows.laid_internal_strconv_uint64pow10) ∈ lexLaid from .tail _ (.tail _ (.head _)))
  obtain rfl := Option.some.inj (gPow.symm.trans hg)
  obtain rfl := Option.some.inj (tPow.symm.trans ht)
  have hcs := Lib.cells_of_tab (k := .u64) (zs := Lib.pow10Tab) Tryz.underlying190 Tryz.underlying168 (by kernel_rfl) (by kernel_rfl) hd
  unfold TabLaid Lib.TabIs
  rw [hv, ← hcs]
end Go.Proofs.YtnpmdepbfobebaaGreatDoor
