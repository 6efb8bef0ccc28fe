/- edictlaw01.SymRenamed returns true at every script of at most 1048576 calls. -/
import Derived.Test.YtlccgnlchngkeaaRenamedAt
import Derived.Test.YtlccgnlchngkeaaOpen
namespace Go.Proofs.Ytlccgnlchngkeaa
set_option linter.unusedSimpArgs false
set_option linter.unusedVariables false
open Go.RowKit Go.Maps Go.Deep Go.ChangeShapes Go.WideShapes

/-- One call of a script. -/
structure NOp where
  kd : Int
  k : Int
  x : Int

def NOp.ok (o : NOp) : Prop := I64 o.kd ∧ I64 o.k ∧ I64 o.x
def nopAt (w : World) (b off : Nat) (o : NOp) : Prop := w.cell? ⟨b, off, none⟩ = some (.int .i64 o.kd) ∧ w.cell? ⟨b, off + 1, none⟩ = some (.int .i64 o.k) ∧ w.cell? ⟨b, off + 2, none⟩ = some (.int .i64 o.x)
def IsNOps (w : World) (ao : Option Addr) (len : Nat) (os : List NOp) : Prop :=
  os.length = len ∧ (∀ o ∈ os, o.ok) ∧ (0 < len → ∃ b off, ao = some ⟨b, off, none⟩ ∧ ∀ i o, os[i]? = some o → nopAt w b (off + i * 3) o)

theorem list3 {α : Type} {l : List α} (h : l.length = 3) : ∃ a b c, l = [a, b, c] := by
  match l, h with
  | [a, b, c], _ => exact ⟨a, b, c, rfl⟩

theorem open_ops0 {H : Type} {enc : TypeId × Value → H} {w : World} {ao : Option Addr} {len cap : Nat} {d : DataW H} {ps : List MemPlace} {ts : List TypeId} {ds : List (DataW H)} {j : Nat}
    (h : DataW.Trod enc Try.prog w 0 (fun _ => true) true 28 (.slice ao len cap) d ps)
    (hsz : (DataW.weightsEach Try.prog ts ds).all (· ≤ reachBytes) = true) (hts : ts[j]? = some 28) (hds : ds[j]? = some d) : ∃ os, IsNOps w ao len os := by
  obtain ⟨hr, hrow⟩ := open_rows (size := 3) Try.underlying28 (by kernel_rfl) (by omega) h hsz hts hds
  have c1 : Try.prog.cellsOf 3 = 1 := by kernel_rfl
  by_cases hlen : 0 < len
  · obtain ⟨b, off, rfl, hel⟩ := hrow hlen
    obtain ⟨l, h1, h2⟩ := list_of_each (R := fun i (o : NOp) => o.ok ∧ nopAt w b (off + i * 3) o) len (fun i hi => by
      obtain ⟨cs, fuel, y, g1, g2, _⟩ := hel i hi
      obtain ⟨_, hl3, hcell⟩ := World.cells?_some g1
      obtain ⟨y0, y1, y2, n, _, _, t0, t1, t2⟩ := trod_struct3 Try.underlying39 g2
      obtain ⟨v0, v1, v2, rfl⟩ := list3 hl3
      · simp only [c1, List.drop_zero, List.drop_succ_cons, List.take_succ_cons, List.take_zero] at t0 t1 t2
        obtain ⟨a0, e0, _, w0⟩ := DataW.trod_int Try.underlying3 t0
        obtain ⟨a1, e1, _, w1⟩ := DataW.trod_int Try.underlying3 t1
        obtain ⟨a2, e2, _, w2⟩ := DataW.trod_int Try.underlying3 t2
        simp only [List.cons.injEq, and_true] at e0 e1 e2
        subst e0 e1 e2
        have g0 := hcell 0 (by omega)
        have g1 := hcell 1 (by omega)
        have g2 := hcell 2 (by omega)
        rw [addr_add] at g0 g1 g2
        exact ⟨⟨a0, a1, a2⟩, ⟨bounds_i64 w0, bounds_i64 w1, bounds_i64 w2⟩, by simpa using g0, by simpa using g1, by simpa using g2⟩)
    refine ⟨l, h1, fun o ho => ?_, fun _ => ⟨b, off, rfl, fun i o ho => (h2 i o ho).2⟩⟩
    obtain ⟨i, hi⟩ := List.mem_iff_getElem?.1 ho
    exact (h2 i o hi).1
  · obtain rfl : len = 0 := by omega
    exact ⟨[], rfl, by simp, fun h => absurd h (by omega)⟩

theorem renamed_any {base : Nat} {w : World} {px mx py my n : Nat} {ax : Option Addr} {cx : Nat} {ay : Option Addr} {cy : Nat} {ks : List Int} (t : Two base w px mx py my n ax cx ay cy ks) (o : NOp) (ho : o.ok) (hn : n < 2199023255552) :
    Calls Try.prog 18 #[.pointer (some ⟨px, 0, none⟩), .pointer (some ⟨py, 0, none⟩), .agg #[.int .i64 o.kd, .int .i64 o.k, .int .i64 o.x]] w fun e w' => e = .returned (.bool true) ∧ Left2 base px mx py my n w' ∧ Below base w w' := by
  obtain ⟨kd, k, x⟩ := o
  obtain ⟨_, hk, hx⟩ := ho
  simp only at hk hx
  by_cases h1 : kd = 1
  · subst h1; exact renamed_intern t k x hk hn
  · by_cases h2 : kd = 2
    · subst h2; exact renamed_find t k x hk
    · by_cases h6 : kd = 6
      · subst h6; exact renamed_cut t k x hx hn
      · have e1 : (kd == 1) = false := by simp [h1]
        have e2 : (kd == 2) = false := by simp [h2]
        have e6 : (kd == 6) = false := by simp [h6]
        by_cases hr : x < 0 ∨ (ks.length : Int) ≤ x
        · exact renamed_at_out t kd k x e1 e2 e6 hr hn
        · obtain ⟨i, rfl⟩ : ∃ i : Nat, x = i := ⟨x.toNat, by omega⟩
          have hi : i < ks.length := by omega
          exact renamed_at_in t kd k i e1 e2 e6 (List.getElem?_eq_getElem hi) hn

set_option maxRecDepth 100000 in
set_option maxHeartbeats 1000000 in
theorem symRenamed_walk (ao : Option Addr) (len cap : Nat) (os : List NOp) (w : World) (h : IsNOps w ao len os) (hk : len ≤ 1048576) :
    Calls Try.prog 5 #[.slice ao len cap] w fun e w' => e = .returned (.bool true) ∧ Below w.heap.size w w' := by
  obtain ⟨hlen, hok, hrow⟩ := h
  have HL := hide hlen
  clear hlen
  go_enter Try.func5, Try.ntmps5
  go_wp2_with fail
  refine (newInt_none w (base := w.heap.size) (Nat.le_refl _)).mono ?_
  rintro e w1 ⟨rfl, hx1, hb1⟩
  have X1 := hide hx1
  clear hx1
  go_wp2_with fail
  refine (newCon_none w1 (base := w.heap.size) hb1.size).mono ?_
  rintro e w2 ⟨rfl, hy2, hb2⟩
  have X2 := hide (X1.out.grow hb2)
  have Y2 := hide hy2
  clear hy2
  have hB2 : Below w.heap.size w w2 := hb1.trans (hb2.mono hb1.size)
  have i7 : I64 7 := ⟨by decide, by decide⟩
  have i8 : I64 8 := ⟨by decide, by decide⟩
  go_wp2_with fail
  refine (internInt_new (k := 7) X2.out hB2.size i7 (by simp) (by decide) (by decide)).mono ?_
  rintro e w3 ⟨rfl, ax, cx, hx3, hO3, hA3⟩
  have hne : w.heap.size ≠ w1.heap.size := by have := X1.out.map.lt; omega
  have X3 := hide hx3
  have Y3 := hide (X2.out.keep Y2.out (by decide) (by decide) (by decide) (by decide) hne hO3)
  clear hx3
  go_wp2_with fail
  refine (key_any 7 _).mono ?_
  rintro e w4 ⟨rfl, hb4⟩
  have X4 := hide (X3.out.grow hb4)
  have Y4 := hide (Y3.out.grow hb4)
  go_wp2_with fail
  have hb5 : w.heap.size ≤ w4.heap.size := Nat.le_trans hB2.size (Nat.le_trans hO3.size hb4.size)
  refine (internCon_new (c := keyC 7) Y4.out hb5 (keyC_ok i7) (by simp) (by simp) (by decide) (by decide)).mono ?_
  rintro e w5 ⟨rfl, ay, cy, hy5, hO5, hA5⟩
  have X5 := hide (Y4.out.keep X4.out (by decide) (by decide) (by decide) (by decide) hne.symm hO5)
  have Y5 := hide hy5
  clear hy5
  go_wp2_with fail
  refine (findInt_some (i := 0) (k := 7) X5.out i7 rfl).mono ?_
  rintro e w' ⟨rfl, hw⟩
  have hw := hw.symm
  subst hw
  go_wp2_with fail
  refine (findInt_none (k := 8) X5.out i8 (by simp)).mono ?_
  rintro e w' ⟨rfl, hw⟩
  have hw := hw.symm
  subst hw
  go_wp2_with fail
  refine (lenInt_any X5.out).mono ?_
  rintro e w' ⟨rfl, hw⟩
  have hw := hw.symm
  subst hw
  have HT : Hid (Two w.heap.size w5 (w.heap.size + 1) w.heap.size (w1.heap.size + 1) w1.heap.size 1 ax cx ay cy [7]) := ⟨X5.out, Y5.out, hne, by simp, by intro k hk; rw [List.mem_singleton.1 hk]; exact i7, by simp, Nat.le_trans hb5 hO5.size⟩
  have HB : Below w.heap.size w w5 := by
    have b1 := hO3.below hB2.size (fun q hq hf => by have := (X2.out.foot_lt (by decide) hf).2; omega)
    have b3 := hO5.below hb5 (fun q hq hf => by have := (Y4.out.foot_lt (by decide) hf).2; omega)
    exact ((hB2.trans b1).trans (hb4.mono (Nat.le_trans hB2.size hO3.size))).trans b3
  clear hB2 hb1 hb2 hO3 hA3 hb4 hO5 hA5 X1 X2 Y2 X3 Y3 X4 Y4 X5 Y5
  go_wp2_with fail
  go_loopw [5] (fun i wr => ∃ j : Nat, j ≤ len ∧ i = .int .i64 j ∧ Below w.heap.size w wr ∧ Hid (∃ n ax cx ay cy ks, n ≤ j + 1 ∧ Two w.heap.size wr (w.heap.size + 1) w.heap.size (w1.heap.size + 1) w1.heap.size n ax cx ay cy ks)) (fun i _ => len - (intOf i).toNat)
  case atStart => exact ⟨0, Nat.zero_le _, rfl, HB, 1, ax, cx, ay, cy, [7], Nat.le_refl _, HT.out⟩
  case round =>
    obtain ⟨j, hj, rfl, hbr, hT⟩ := hrel
    by_cases hlt : j < len
    · have hi : (j : Int) < (len : Int) := by omega
      obtain ⟨b, off, rfl, hr⟩ := hrow (by omega)
      obtain ⟨o, ho⟩ : ∃ o, os[j]? = some o := ⟨_, List.getElem?_eq_getElem (by rw [HL.out]; exact hlt)⟩
      have hoo := hok o (List.mem_of_getElem? ho)
      obtain ⟨c0, c1, c2⟩ := hr j o ho
      have d0 := below_cell hbr c0 (lt_of_cell c0)
      have d1 := below_cell hbr c1 (lt_of_cell c1)
      have d2 := below_cell hbr c2 (lt_of_cell c2)
      obtain ⟨n, ax', cx', ay', cy', ks', hn, t⟩ := hT.out
      have HR := hide (renamed_any t o hoo (by omega))
      clear ho hr c0 c1 c2 t
      go_wp2_with fail
      refine HR.out.mono ?_
      rintro e w6 ⟨rfl, hl6, hb6⟩
      have HL6 := hide hl6
      clear hl6
      go_wp2_with fail
      go_roundw
      case rel =>
        obtain ⟨a1, a2, a3, a4, a5, a6⟩ := HL6.out
        exact ⟨j + 1, by omega, by go_num, hbr.trans hb6, n + 1, a1, a2, a3, a4, a5, by omega, a6⟩
      case measure => simp [intOf]; omega
    · have hi : ¬ (j : Int) < (len : Int) := by omega
      obtain ⟨n, ax', cx', ay', cy', ks', hn, t⟩ := hT.out
      have T := hide t
      clear t
      go_wp2_with fail
      refine (lenInt_any T.out.ix).mono ?_
      rintro e w' ⟨rfl, hw⟩
      have hw := hw.symm
      subst hw
      go_wp2_with fail
      refine (lenCon_any T.out.iy).mono ?_
      rintro e w' ⟨rfl, hw⟩
      have hw := hw.symm
      subst hw
      rw [List.length_map]
      go_wp2_with fail
      go_ret
      exact ⟨by simp, hbr⟩
end Go.Proofs.Ytlccgnlchngkeaa
