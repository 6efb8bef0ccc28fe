/- What match.Holds and the document's Holds answer of a test under a substitution. -/
import Derived.Test.YtnahfhfnodghaaaMatchCmp
import Derived.Test.YtnahfhfnodghaaaSlotMem
namespace Go.Proofs.Ytnahfhfnodghaaa
set_option linter.unusedSimpArgs false
set_option linter.unusedVariables false
open Go.RowKit

structure Tst where
  op : Int
  l : Slt
  r : Slt
def Tst.ok (t : Tst) : Prop := I64 t.op ∧ I64 t.l.n ∧ I64 t.r.n
def Tst.val (t : Tst) : Value := .agg #[.int .i64 t.op, .bool t.l.v, .int .i64 t.l.n, .bool t.r.v, .int .i64 t.r.n]
def tstObj (t : Tst) : Obj := .cells #[.int .i64 t.op, .bool t.l.v, .int .i64 t.l.n, .bool t.r.v, .int .i64 t.r.n] 45
/-- The test lies in five cells. -/
def tstAt (w : World) (b off : Nat) (t : Tst) : Prop := w.cell? ⟨b, off, none⟩ = some (.int .i64 t.op) ∧ sltAt w b (off + 1) t.l ∧ sltAt w b (off + 3) t.r
theorem tstAt.kept {w w' : World} {b off : Nat} {t : Tst} (h : tstAt w b off t) (hb : Below w.heap.size w w') : tstAt w' b off t := ⟨kept_cell hb h.1, h.2.1.kept hb, h.2.2.kept hb⟩
theorem tstAt_new (w : World) (t : Tst) : tstAt (w.alloc (tstObj t)) w.heap.size 0 t := by
  unfold tstAt sltAt tstObj
  refine ⟨?_, ⟨?_, ?_⟩, ?_, ?_⟩ <;> go_simp

/-- What Holds answers. -/
def holdsP (cs : List Con) (t : Tst) (sub : List Int) : Bool × Int :=
  if idP t.l sub < 0 then (false, 2) else if idP t.r sub < 0 then (false, 2) else
  match cs[(idP t.l sub).toNat]?, cs[(idP t.r sub).toNat]? with
  | some a, some b => cmpP t.op a b
  | _, _ => (false, 2)

theorem holdsP_out {cs : List Con} {t : Tst} {sub : List Int} {x y : Int} (hx : idP t.l sub = x) (hy : idP t.r sub = y) (h : x < 0 ∨ y < 0 ∨ (cs.length : Int) ≤ x ∨ (cs.length : Int) ≤ y) : holdsP cs t sub = (false, 2) := by
  unfold holdsP
  rw [hx, hy]
  by_cases h1 : x < 0
  · rw [if_pos h1]
  · rw [if_neg h1]
    by_cases h2 : y < 0
    · rw [if_pos h2]
    · rw [if_neg h2]
      by_cases h3 : cs.length ≤ x.toNat
      · rw [List.getElem?_eq_none h3]
      · rw [List.getElem?_eq_none (show cs.length ≤ y.toNat by omega)]
        split <;> first | rfl | simp_all

theorem holdsP_in {cs : List Con} {t : Tst} {sub : List Int} {x y : Nat} {a b : Con} (hx : idP t.l sub = x) (hy : idP t.r sub = y) (ha : cs[x]? = some a) (hb : cs[y]? = some b) : holdsP cs t sub = cmpP t.op a b := by
  unfold holdsP
  rw [hx, hy, if_neg (by omega), if_neg (by omega)]
  simp only [Int.toNat_natCast, ha, hb]

theorem holdsP_op {cs : List Con} {t : Tst} {sub : List Int} (h : opOk t.op = false) : holdsP cs t sub = (false, 2) := by
  unfold holdsP
  split
  · rfl
  · split
    · rfl
    · split
      · simp [cmpP, h]
      · rfl

set_option maxRecDepth 100000 in
set_option maxHeartbeats 2000000 in
theorem rholds_any {cs : List Con} {t : Tst} {sub : List Int} {w : World} {ca sa : Option Addr} {cl cc sl sc : Nat} (ht : t.ok) (hc : IsCons w ca cl cs) (hs : IsNums w sa sl sub) :
    Calls Try.prog 18 #[.slice ca cl cc, t.val, .slice sa sl sc] w fun e w' => e = .returned (.tuple #[.bool (holdsP cs t sub).1, .int .i64 (holdsP cs t sub).2]) ∧ Below w.heap.size w w' := by
  have T0 := tstAt_new w t
  have HB0 : Hid (Below w.heap.size w (w.alloc (tstObj t))) := (Below.refl _ _).alloc (Nat.le_refl _) _
  obtain ⟨x, hx⟩ : ∃ x, idP t.l sub = x := ⟨_, rfl⟩
  obtain ⟨y, hy⟩ : ∃ y, idP t.r sub = y := ⟨_, rfl⟩
  have HV1 : Hid (∀ W : World, Below w.heap.size w W → Calls Try.prog 26 #[t.l.val, .slice sa sl sc] W fun e w' => e = .returned (.int .i64 x) ∧ Below W.heap.size W w') := fun W hb => hx ▸ value_any ht.2.1 (hs.kept hb)
  have HV2 : Hid (∀ W : World, Below w.heap.size w W → Calls Try.prog 26 #[t.r.val, .slice sa sl sc] W fun e w' => e = .returned (.int .i64 y) ∧ Below W.heap.size W w') := fun W hb => hy ▸ value_any ht.2.2 (hs.kept hb)
  have hi : I64 x := hx ▸ idP_I64 ht.2.1 hs.2.2.1
  have hj : I64 y := hy ▸ idP_I64 ht.2.2 hs.2.2.1
  have HC := hide hc
  have hcl : cl * 32 ≤ 140737488355328 := hc.2.1
  have hop := ht.1
  have HX := hide hx
  have HY := hide hy
  clear hs ht hx hy
  obtain ⟨hi1, hi2⟩ := hi
  obtain ⟨hj1, hj2⟩ := hj
  have HOp := hide hop
  obtain ⟨hop1, hop2⟩ := hop
  by_cases hbad : opOk t.op = false ∨ x < 0 ∨ y < 0 ∨ (cl : Int) ≤ x ∨ (cl : Int) ≤ y
  · have e : holdsP cs t sub = (false, 2) := by
      rcases hbad with h | h
      · exact holdsP_op h
      · exact holdsP_out HX.out HY.out (by rw [hc.1]; exact h)
    rw [e]
    clear HC hc HX HY e
    obtain ⟨op, ⟨lv, ln⟩, ⟨rv, rn⟩⟩ := t
    unfold Slt.val at HV1 HV2
    unfold Tst.val
    unfold tstObj at *
    simp only at *
    have hb2 : op < 1 ∨ 6 < op ∨ (1 ≤ op ∧ op ≤ 6 ∧ (x < 0 ∨ (0 ≤ x ∧ y < 0) ∨ (0 ≤ x ∧ 0 ≤ y ∧ (cl : Int) ≤ x) ∨ (0 ≤ x ∧ 0 ≤ y ∧ x < (cl : Int) ∧ (cl : Int) ≤ y))) := by
      rcases hbad with h | h
      · unfold opOk at h
        simp at h
        omega
      · omega
    clear hbad
    go_enter Try.func18, Try.ntmps18
    go_wp2_with fail
    refine (HV1.out _ HB0.out).mono ?_
    rintro e w1 ⟨rfl, h1⟩
    have HB1 := hide (HB0.out.trans (h1.mono HB0.out.size))
    have T1 := T0.kept h1
    clear h1 T0 HB0 HV1
    have T1' := T1
    obtain ⟨t0, ⟨t1, t2⟩, ⟨t3, t4⟩⟩ := T1'
    go_wp2_with fail
    refine (HV2.out _ HB1.out).mono ?_
    rintro e w2 ⟨rfl, h1⟩
    have HB2 := hide (HB1.out.trans (h1.mono HB1.out.size))
    have T2 := T1.kept h1
    clear h1 T1 t0 t1 t2 t3 t4 HB1 HV2
    obtain ⟨t0, ⟨t1, t2⟩, ⟨t3, t4⟩⟩ := T2
    rcases hb2 with h | h | ⟨g1, g2, h | ⟨g3, h⟩ | ⟨g3, g4, h⟩ | ⟨g3, g4, g5, h⟩⟩
    all_goals
      go_wp2
      go_ret2
      exact ⟨rfl, HB2.out⟩
  · obtain ⟨p, rfl⟩ : ∃ p : Nat, x = p := ⟨x.toNat, by omega⟩
    obtain ⟨q, rfl⟩ : ∃ q : Nat, y = q := ⟨y.toNat, by omega⟩
    have hop3 : 1 ≤ t.op ∧ t.op ≤ 6 := opOk_bounds (by cases h : opOk t.op with | true => rfl | false => exact absurd (.inl h) hbad)
    have hp : p < cl := by omega
    have hq : q < cl := by omega
    clear hbad
    obtain ⟨a, ha⟩ : ∃ a, cs[p]? = some a := ⟨_, List.getElem?_eq_getElem (by rw [hc.1]; exact hp)⟩
    obtain ⟨b, hb⟩ : ∃ b, cs[q]? = some b := ⟨_, List.getElem?_eq_getElem (by rw [hc.1]; exact hq)⟩
    rw [holdsP_in HX.out HY.out ha hb]
    obtain ⟨cb, co, rfl, hrow⟩ := hc.2.2.2 (by omega)
    have A0 := hrow p a ha
    have B0 := hrow q b hb
    have HCm : Hid (∀ W, Calls Try.prog 17 #[.int .i64 t.op, a.val, b.val] W fun e w' => e = .returned (.tuple #[.bool (cmpP t.op a b).1, .int .i64 (cmpP t.op a b).2]) ∧ Below W.heap.size W w') := fun W => rcompare6_any t.op a b W HOp.out (hc.2.2.1 a (List.mem_of_getElem? ha)) (hc.2.2.1 b (List.mem_of_getElem? hb))
    have hp1 : (p : Int) < (cl : Int) := by omega
    have hq1 : (q : Int) < (cl : Int) := by omega
    have hp0 : ¬ (cl : Int) ≤ (p : Int) := by omega
    have hq0 : ¬ (cl : Int) ≤ (q : Int) := by omega
    have hp2 : (0 : Int) ≤ (p : Int) := by omega
    have hq2 : (0 : Int) ≤ (q : Int) := by omega
    clear hrow ha hb HX HY HC hc
    generalize cmpP t.op a b = R at *
    obtain ⟨op, ⟨lv, ln⟩, ⟨rv, rn⟩⟩ := t
    unfold Slt.val at HV1 HV2
    unfold Tst.val
    unfold Con.val at HCm
    unfold tstObj at *
    simp only at *
    obtain ⟨hop3, hop4⟩ := hop3
    go_enter Try.func18, Try.ntmps18
    go_wp2_with fail
    refine (HV1.out _ HB0.out).mono ?_
    rintro e w1 ⟨rfl, h1⟩
    have HB1 := hide (HB0.out.trans (h1.mono HB0.out.size))
    have T1 := T0.kept h1
    clear h1 T0 HB0 HV1
    have T1' := T1
    obtain ⟨t0, ⟨t1, t2⟩, ⟨t3, t4⟩⟩ := T1'
    go_wp2_with fail
    refine (HV2.out _ HB1.out).mono ?_
    rintro e w2 ⟨rfl, h1⟩
    have HB2 := hide (HB1.out.trans (h1.mono HB1.out.size))
    have T2 := T1.kept h1
    clear h1 T1 t0 t1 t2 t3 t4 HB1 HV2
    obtain ⟨t0, ⟨t1, t2⟩, ⟨t3, t4⟩⟩ := T2
    obtain ⟨a0, a1, a2⟩ := conAt_kept A0 HB2.out
    obtain ⟨b0, b1, b2⟩ := conAt_kept B0 HB2.out
    clear A0 B0
    go_wp2_with fail
    refine wp_region_over (fun W => W = w2) (by kernel_rfl) (by kernel_rfl) rfl ?_
    rintro W rfl
    have t0' := over_cell t0
    have a0' := over_cell a0
    have a1' := over_cell a1
    have a2' := over_cell a2
    have b0' := over_cell b0
    have b1' := over_cell b1
    have b2' := over_cell b2
    clear t0 t1 t2 t3 t4 a0 a1 a2 b0 b1 b2
    repeat (go_big_quiet_step ((go_at_call 17; exact calls_over (HCm.out _))))
    refine wpQuiet_nil ?_
    rintro _ ⟨z, rfl⟩
    have HB3 := hide (HB2.out.trans ((over_below W z).mono HB2.out.size))
    clear t0' a0' a1' a2' b0' b1' b2'
    go_wp2
    go_ret2
    exact ⟨rfl, HB3.out⟩

set_option maxRecDepth 100000 in
set_option maxHeartbeats 2000000 in
theorem holds6_any {cs : List Con} {t : Tst} {sub : List Int} {w : World} {ca sa : Option Addr} {cl cc sl sc : Nat} (ht : t.ok) (hc : IsCons w ca cl cs) (hs : IsNums w sa sl sub) :
    Calls Try.prog 20 #[.slice ca cl cc, t.val, .slice sa sl sc] w fun e w' => e = .returned (.tuple #[.bool (holdsP cs t sub).1, .int .i64 (holdsP cs t sub).2]) ∧ Below w.heap.size w w' := by
  have T0 := tstAt_new w t
  have HB0 : Hid (Below w.heap.size w (w.alloc (tstObj t))) := (Below.refl _ _).alloc (Nat.le_refl _) _
  obtain ⟨x, hx⟩ : ∃ x, idP t.l sub = x := ⟨_, rfl⟩
  obtain ⟨y, hy⟩ : ∃ y, idP t.r sub = y := ⟨_, rfl⟩
  have HV : Hid (∀ (v : Bool) (n : Int) (W : World), I64 n → Below w.heap.size w W → Calls Try.prog 25 #[.agg #[.bool v, .int .i64 n], .slice sa sl sc] W fun e w' => e = .returned (.int .i64 (idP ⟨v, n⟩ sub)) ∧ Below W.heap.size W w') := fun v n W h hb => idOf_any (s := ⟨v, n⟩) h (hs.kept hb)
  have HLn := hide ht.2.1
  have HRn := hide ht.2.2
  have hi : I64 x := hx ▸ idP_I64 ht.2.1 hs.2.2.1
  have hj : I64 y := hy ▸ idP_I64 ht.2.2 hs.2.2.1
  have HC := hide hc
  have hcl : cl * 32 ≤ 140737488355328 := hc.2.1
  have hop := ht.1
  have HX := hide hx
  have HY := hide hy
  clear hs ht hx hy
  obtain ⟨hi1, hi2⟩ := hi
  obtain ⟨hj1, hj2⟩ := hj
  have HOp := hide hop
  obtain ⟨hop1, hop2⟩ := hop
  by_cases hbad : x < 0 ∨ y < 0 ∨ (cl : Int) ≤ x ∨ (cl : Int) ≤ y
  · have e : holdsP cs t sub = (false, 2) := holdsP_out HX.out HY.out (by rw [hc.1]; exact hbad)
    rw [e]
    clear HC hc e
    obtain ⟨op, ⟨lv, ln⟩, ⟨rv, rn⟩⟩ := t
    unfold Tst.val
    unfold tstObj at *
    simp only at *
    have HBad := hide hbad
    clear hbad
    go_enter Try.func20, Try.ntmps20
    go_wp2_with fail
    refine wp_region_over (fun W => W = w.alloc (.cells #[.int .i64 op, .bool lv, .int .i64 ln, .bool rv, .int .i64 rn] 45)) (by kernel_rfl) (by kernel_rfl) rfl ?_
    rintro W hW
    rw [← hW] at T0 HB0
    clear hW
    have T0' := T0
    obtain ⟨t0, ⟨t1, t2⟩, ⟨t3, t4⟩⟩ := T0'
    have t1' := over_cell t1
    have t2' := over_cell t2
    have t3' := over_cell t3
    have t4' := over_cell t4
    clear t0 t1 t2 t3 t4
    repeat (go_big_quiet_step ((go_at_call 25; exact calls_over (HV.out _ _ _ (by first | exact HLn.out | exact HRn.out) (HB0.out.trans ((over_below W _).mono HB0.out.size))))))
    refine wpQuiet_nil ?_
    rintro _ ⟨z, rfl⟩
    rw [HX.out, HY.out]
    have HB2 := hide (HB0.out.trans ((over_below W z).mono HB0.out.size))
    have T2 := T0.kept (over_below W z)
    clear t1' t2' t3' t4' T0 HB0 HV HX HY
    generalize over W z = w2 at *
    obtain ⟨t0, ⟨t1, t2⟩, ⟨t3, t4⟩⟩ := T2
    go_wp2_with fail
    all_goals first
      | (go_ret2; exact ⟨rfl, HB2.out⟩)
      | (exfalso; have := HBad.out; omega)
  · obtain ⟨p, rfl⟩ : ∃ p : Nat, x = p := ⟨x.toNat, by omega⟩
    obtain ⟨q, rfl⟩ : ∃ q : Nat, y = q := ⟨y.toNat, by omega⟩
    have hp : p < cl := by omega
    have hq : q < cl := by omega
    clear hbad
    obtain ⟨a, ha⟩ : ∃ a, cs[p]? = some a := ⟨_, List.getElem?_eq_getElem (by rw [hc.1]; exact hp)⟩
    obtain ⟨b, hb⟩ : ∃ b, cs[q]? = some b := ⟨_, List.getElem?_eq_getElem (by rw [hc.1]; exact hq)⟩
    rw [holdsP_in HX.out HY.out ha hb]
    obtain ⟨cb, co, rfl, hrow⟩ := hc.2.2.2 (by omega)
    have A0 := hrow p a ha
    have B0 := hrow q b hb
    have HCm : Hid (∀ W, Calls Try.prog 16 #[.int .i64 t.op, a.val, b.val] W fun e w' => e = .returned (.tuple #[.bool (cmpP t.op a b).1, .int .i64 (cmpP t.op a b).2]) ∧ Below W.heap.size W w') := fun W => compare6_any t.op a b W HOp.out (hc.2.2.1 a (List.mem_of_getElem? ha)) (hc.2.2.1 b (List.mem_of_getElem? hb))
    have hp1 : (p : Int) < (cl : Int) := by omega
    have hq1 : (q : Int) < (cl : Int) := by omega
    have hp0 : ¬ (cl : Int) ≤ (p : Int) := by omega
    have hq0 : ¬ (cl : Int) ≤ (q : Int) := by omega
    have hp2 : (0 : Int) ≤ (p : Int) := by omega
    have hq2 : (0 : Int) ≤ (q : Int) := by omega
    clear hrow ha hb HC hc
    generalize cmpP t.op a b = R at *
    obtain ⟨op, ⟨lv, ln⟩, ⟨rv, rn⟩⟩ := t
    unfold Tst.val
    unfold Con.val at HCm
    unfold tstObj at *
    simp only at *
    go_enter Try.func20, Try.ntmps20
    go_wp2_with fail
    refine wp_region_over (fun W => W = w.alloc (.cells #[.int .i64 op, .bool lv, .int .i64 ln, .bool rv, .int .i64 rn] 45)) (by kernel_rfl) (by kernel_rfl) rfl ?_
    rintro W hW
    rw [← hW] at T0 HB0
    clear hW
    have T0' := T0
    obtain ⟨t0, ⟨t1, t2⟩, ⟨t3, t4⟩⟩ := T0'
    have t1' := over_cell t1
    have t2' := over_cell t2
    have t3' := over_cell t3
    have t4' := over_cell t4
    clear t0 t1 t2 t3 t4
    repeat (go_big_quiet_step ((go_at_call 25; exact calls_over (HV.out _ _ _ (by first | exact HLn.out | exact HRn.out) (HB0.out.trans ((over_below W _).mono HB0.out.size))))))
    refine wpQuiet_nil ?_
    rintro _ ⟨z, rfl⟩
    rw [HX.out, HY.out]
    have HB2 := hide (HB0.out.trans ((over_below W z).mono HB0.out.size))
    have T2 := T0.kept (over_below W z)
    clear t1' t2' t3' t4' T0 HB0 HV HX HY
    generalize over W z = w2 at *
    obtain ⟨t0, ⟨t1, t2⟩, ⟨t3, t4⟩⟩ := T2
    obtain ⟨a0, a1, a2⟩ := conAt_kept A0 HB2.out
    obtain ⟨b0, b1, b2⟩ := conAt_kept B0 HB2.out
    clear A0 B0
    go_wp2_with fail
    all_goals first | (exfalso; omega) | skip
    all_goals
      refine wp_region_over (fun W => W = w2) (by kernel_rfl) (by kernel_rfl) rfl ?_
      rintro W rfl
      have t0' := over_cell t0
      have a0' := over_cell a0
      have a1' := over_cell a1
      have a2' := over_cell a2
      have b0' := over_cell b0
      have b1' := over_cell b1
      have b2' := over_cell b2
      clear t0 t1 t2 t3 t4 a0 a1 a2 b0 b1 b2
      repeat (go_big_quiet_step ((go_at_call 16; exact calls_over (HCm.out _))))
      refine wpQuiet_nil ?_
      rintro _ ⟨z, rfl⟩
      have HB3 := hide (HB2.out.trans ((over_below W z).mono HB2.out.size))
      clear t0' a0' a1' a2' b0' b1' b2'
      go_wp2
      go_ret2
      exact ⟨rfl, HB3.out⟩
end Go.Proofs.Ytnahfhfnodghaaa
