/- What an argument holds that is a list of numbers, a test or a pattern. -/
import Derived.Test.YtnahfhfnodghaaaSlotMem
import Derived.Test.YtnahfhfnodghaaaMatchHold
namespace Go.Proofs.Ytnahfhfnodghaaa
set_option linter.unusedSimpArgs false
set_option linter.unusedVariables false
open Go.RowKit Go.Deep Go.ChangeShapes Go.WideShapes Go.ChangeAt Go.Joins

section
variable {H : Type} {enc : TypeId × Value → H} {P : Program} {w : World}

/-- A slice in a cell: nil or empty; or a row, each element with its cells and its own reading, within the reach. -/
theorem rows_in6 {t e : TypeId} {v : Value} {x : DataW H × List MemPlace} {fuel size : Nat}
    (ht : P.underlying t = some (.slice e)) (ce : P.cellsOf e = size) (hsize : 0 < size)
    (hf : DataW.trod enc P w 0 (fun _ => true) true fuel t [v] = some x) (hw : ∀ n ∈ x.1.weights P t, n ≤ 140737488351232) :
    ∃ ao len cap, v = .slice ao len cap ∧ (len ≤ cap ∧ (ao = none → len = 0 ∧ cap = 0)) ∧ len * P.bytesOf e ≤ 140737488351232 ∧ (0 < len → ∃ b off, ao = some ⟨b, off, none⟩ ∧ ∀ i, i < len → ∃ cs fuel y, w.cells? 0 ⟨b, off + i * size, none⟩ size = some cs ∧ DataW.trod enc P w 0 (fun _ => true) true fuel e cs = some y ∧ ∀ n ∈ y.1.weights P e, n ≤ 140737488351232) := by
  rcases open_slice ht hf with ⟨h1, _⟩ | ⟨a, len, cap, m, n, D, Pl, h1, hb, hl, hm, hmm, hx, hel⟩
  · simp only [List.cons.injEq, and_true] at h1
    exact ⟨none, 0, 0, h1, ⟨Nat.le_refl _, fun _ => ⟨rfl, rfl⟩⟩, by omega, fun h => absurd h (by omega)⟩
  · simp only [List.cons.injEq, and_true] at h1
    simp only [if_true] at hmm
    subst hmm
    rw [(Prod.mk.inj hx).1] at hw
    simp only [DataW.weights, ht] at hw
    have hreach := hw _ (List.mem_cons_self ..)
    simp only [List.length_map, List.length_range] at hreach
    have hlr : len * P.bytesOf e ≤ 140737488351232 := Nat.le_trans (Nat.mul_le_mul_right _ (by omega)) hreach
    obtain ⟨b, off, spot⟩ := a
    refine ⟨_, len, _, h1, ⟨hl, fun h => by cases h⟩, hlr, fun hlen => ?_⟩
    have hspot : spot = none := by
      obtain ⟨cs', g1, _⟩ := hel 0 (by omega)
      rw [ce] at g1
      obtain ⟨_, hl3, g2⟩ := World.cells?_some g1
      have g3 := g2 0 hsize
      have g4 : w.cell? ⟨b, off, spot⟩ = some (cs'[0]'(by omega)) := by
        simp only [Nat.zero_mul, Addr.add, if_true] at g3
        rw [g3]; exact List.getElem?_eq_getElem _
      exact World.cell?_spot g4
    subst hspot
    refine ⟨b, off, rfl, fun i hi => ?_⟩
    obtain ⟨cs', g1, g2⟩ := hel i (by omega)
    rw [addr_add, ce] at g1
    refine ⟨cs', n, (D i, Pl i), g1, g2, fun k hk => ?_⟩
    exact hw k (List.mem_cons_of_mem _ (List.mem_append_left _ (weights_all (List.mem_map.2 ⟨i, List.mem_range.2 hi, rfl⟩) k hk)))
end

section
variable {H : Type} {enc : TypeId × Value → H} {w : World}

theorem cellsInt6 : Try.prog.cellsOf 3 = 1 := by kernel_rfl
theorem cellsBool6 : Try.prog.cellsOf 4 = 1 := by kernel_rfl

theorem nums_val {fuel : Nat} {v : Value} {y : DataW H × List MemPlace}
    (hd : DataW.trod enc Try.prog w 0 (fun _ => true) true fuel 25 [v] = some y) (hw : ∀ n ∈ y.1.weights Try.prog 25, n ≤ 140737488351232) :
    ∃ ao len cap l, v = .slice ao len cap ∧ IsNums w ao len l ∧ (len ≤ cap ∧ (ao = none → len = 0 ∧ cap = 0)) ∧ len * 8 ≤ 140737488351232 := by
  obtain ⟨ao, len, cap, rfl, hcap, hr, hrow⟩ := rows_in6 Try.underlying25 cellsInt6 (by omega) hd hw
  rw [show Try.prog.bytesOf 3 = 8 from by kernel_rfl] at hr
  by_cases hlen : 0 < len
  · obtain ⟨b, off, rfl, hel⟩ := hrow hlen
    obtain ⟨l, h1, h2⟩ := list_of_each (R := fun i (x : Int) => I64 x ∧ w.cell? ⟨b, off + i, none⟩ = some (.int .i64 x)) len (fun i hi => by
      obtain ⟨cs, fuel, y, g1, g2, g3⟩ := hel i hi
      rw [Nat.mul_one] at g1
      obtain ⟨_, hl3, g4⟩ := World.cells?_some g1
      obtain ⟨a0, e0, x0, w0⟩ := DataW.trod_int Try.underlying3 g2
      subst e0 x0
      have g5 := g4 0 (by omega)
      rw [addr_add] at g5
      exact ⟨a0, bounds_i64 w0, by simpa using g5⟩)
    refine ⟨_, len, cap, l, rfl, ⟨h1, by omega, fun c hc => ?_, fun _ => ⟨b, off, rfl, fun i c hc => (h2 i c hc).2⟩⟩, hcap, hr⟩
    obtain ⟨i, hi⟩ := List.mem_iff_getElem?.1 hc
    exact (h2 i c hi).1
  · obtain rfl : len = 0 := by omega
    exact ⟨ao, 0, cap, [], rfl, ⟨rfl, by omega, by simp, fun h => absurd h (by omega)⟩, hcap, hr⟩

theorem open_nums {r : Reach} {b0 : Nat} {v : Value} {d : DataW H} {ps : List MemPlace} {ts : List TypeId} {ds : List (DataW H)} {j : Nat}
    (hv : Value.okWide Try.prog w r b0 25 v) (h : DataW.Trod enc Try.prog w 0 (fun _ => true) true 25 v d ps)
    (hsz : (DataW.weightsEach Try.prog ts ds).all (· ≤ reachBytes) = true) (hts : ts[j]? = some 25) (hds : ds[j]? = some d) :
    ∃ ao len cap l, v = .slice ao len cap ∧ IsNums w ao len l ∧ (len ≤ cap ∧ (ao = none → len = 0 ∧ cap = 0)) ∧ len * 8 ≤ 140737488351232 := by
  obtain ⟨a, len, cap, rfl⟩ := okWide_slice Try.underlying25 hv
  obtain ⟨fuel, hf⟩ := h
  refine nums_val hf (fun n hn => of_decide_eq_true (List.all_eq_true.1 hsz n (DataW.weights_mem_each hts hds n hn)))

theorem slt_vals {fuel : Nat} {cs : List Value} {y : DataW H × List MemPlace}
    (hd : DataW.trod enc Try.prog w 0 (fun _ => true) true fuel 43 cs = some y) :
    ∃ s : Slt, I64 s.n ∧ cs = [.bool s.v, .int .i64 s.n] := by
  obtain ⟨y0, y1, n, hy, hlen, t0, t1⟩ := trod_struct2 Try.underlying43 hd
  rw [show Try.prog.cellsOf 43 = 2 from by kernel_rfl] at hlen
  match cs, hlen with
  | [v0, v1], _ =>
    simp only [cellsInt6, cellsBool6, List.drop_zero, List.drop_succ_cons, List.take_succ_cons, List.take_zero] at t0 t1
    obtain ⟨a0, e0, x0⟩ := DataW.trod_bool Try.underlying4 t0
    obtain ⟨a1, e1, x1, w1⟩ := DataW.trod_int Try.underlying3 t1
    simp only [List.cons.injEq, and_true] at e0 e1
    subst e0 e1
    exact ⟨⟨a0, a1⟩, bounds_i64 w1, rfl⟩

theorem slts_val {fuel : Nat} {v : Value} {y : DataW H × List MemPlace}
    (hd : DataW.trod enc Try.prog w 0 (fun _ => true) true fuel 22 [v] = some y) (hw : ∀ n ∈ y.1.weights Try.prog 22, n ≤ 140737488351232) :
    ∃ ao len cap l, v = .slice ao len cap ∧ IsSlts w ao len l ∧ (len ≤ cap ∧ (ao = none → len = 0 ∧ cap = 0)) ∧ len * 16 ≤ 140737488351232 := by
  obtain ⟨ao, len, cap, rfl, hcap, hr, hrow⟩ := rows_in6 Try.underlying22 (show Try.prog.cellsOf 43 = 2 from by kernel_rfl) (by omega) hd hw
  rw [show Try.prog.bytesOf 43 = 16 from by kernel_rfl] at hr
  by_cases hlen : 0 < len
  · obtain ⟨b, off, rfl, hel⟩ := hrow hlen
    obtain ⟨l, h1, h2⟩ := list_of_each (R := fun i (x : Slt) => I64 x.n ∧ sltAt w b (off + i * 2) x) len (fun i hi => by
      obtain ⟨cs, fuel, y, g1, g2, g3⟩ := hel i hi
      obtain ⟨s, hs, rfl⟩ := slt_vals g2
      obtain ⟨_, hl3, hc⟩ := World.cells?_some g1
      have c0 := hc 0 (by omega)
      have c1 := hc 1 (by omega)
      rw [addr_add] at c0 c1
      exact ⟨s, hs, by simpa using c0, by simpa using c1⟩)
    refine ⟨_, len, cap, l, rfl, ⟨h1, by omega, fun c hc => ?_, fun _ => ⟨b, off, rfl, fun i c hc => (h2 i c hc).2⟩⟩, hcap, hr⟩
    obtain ⟨i, hi⟩ := List.mem_iff_getElem?.1 hc
    exact (h2 i c hi).1
  · obtain rfl : len = 0 := by omega
    exact ⟨ao, 0, cap, [], rfl, ⟨rfl, by omega, by simp, fun h => absurd h (by omega)⟩, hcap, hr⟩

theorem open_pat {r : Reach} {b0 : Nat} {v : Value} {d : DataW H} {ps : List MemPlace} {ts : List TypeId} {ds : List (DataW H)} {j : Nat}
    (hv : Value.okWide Try.prog w r b0 24 v) (h : DataW.Trod enc Try.prog w 0 (fun _ => true) true 24 v d ps)
    (hsz : (DataW.weightsEach Try.prog ts ds).all (· ≤ reachBytes) = true) (hts : ts[j]? = some 24) (hds : ds[j]? = some d) :
    ∃ q ao len cap l, v = .agg #[.int .i64 q, .slice ao len cap] ∧ I64 q ∧ IsSlts w ao len l ∧ (len ≤ cap ∧ (ao = none → len = 0 ∧ cap = 0)) ∧ len * 16 ≤ 140737488351232 := by
  obtain ⟨cs, rfl, hs⟩ := okWide_struct Try.underlying24 hv
  have hC : Try.prog.cellsOf 24 = 2 := by kernel_rfl
  rw [hC] at hs
  obtain ⟨l⟩ := cs
  match l, hs with
  | [c0, c1], _ =>
    obtain ⟨fuel, hf⟩ := h
    obtain ⟨y0, y1, n, hx, _, h0, h1⟩ := trod_struct2 Try.underlying24 hf
    have hw : ∀ n ∈ d.weights Try.prog 24, n ≤ 140737488351232 := fun n hn => of_decide_eq_true (List.all_eq_true.1 hsz n (DataW.weights_mem_each hts hds n hn))
    rw [(Prod.mk.inj hx).1] at hw
    simp only [DataW.weights, DataW.weightsEach, Try.underlying24, List.map_cons, List.map_nil, List.mem_append] at hw
    simp only [cellsInt6, show Try.prog.cellsOf 22 = 1 from by kernel_rfl, Value.cells, List.drop_zero, List.drop_succ_cons, List.take_succ_cons, List.take_zero] at h0 h1
    obtain ⟨a0, e0, x0, w0⟩ := DataW.trod_int Try.underlying3 h0
    obtain ⟨ao, len, cap, l, rfl, hl, hcap, hz⟩ := slts_val h1 (fun n hn => hw n (.inr (.inl hn)))
    simp only [List.cons.injEq, and_true] at e0
    subst e0
    exact ⟨a0, ao, len, cap, l, rfl, bounds_i64 w0, hl, hcap, hz⟩
theorem open_test {r : Reach} {b0 : Nat} {v : Value} {d : DataW H} {ps : List MemPlace}
    (hv : Value.okWide Try.prog w r b0 45 v) (h : DataW.Trod enc Try.prog w 0 (fun _ => true) true 45 v d ps) :
    ∃ t : Tst, v = t.val ∧ t.ok := by
  obtain ⟨cs, rfl, hs⟩ := okWide_struct Try.underlying45 hv
  have hC : Try.prog.cellsOf 45 = 5 := by kernel_rfl
  rw [hC] at hs
  obtain ⟨l⟩ := cs
  match l, hs with
  | [c0, c1, c2, c3, c4], _ =>
    obtain ⟨fuel, hf⟩ := h
    obtain ⟨y0, y1, y2, n, hx, _, h0, h1, h2⟩ := trod_struct3 Try.underlying45 hf
    simp only [cellsInt6, show Try.prog.cellsOf 43 = 2 from by kernel_rfl, Value.cells, List.drop_zero, List.drop_succ_cons, List.take_succ_cons, List.take_zero] at h0 h1 h2
    obtain ⟨a0, e0, x0, w0⟩ := DataW.trod_int Try.underlying3 h0
    obtain ⟨s1, k1, e1⟩ := slt_vals h1
    obtain ⟨s2, k2, e2⟩ := slt_vals h2
    simp only [List.cons.injEq, and_true] at e0 e1 e2
    obtain ⟨rfl, rfl⟩ := e1
    obtain ⟨rfl, rfl⟩ := e2
    subst e0
    exact ⟨⟨a0, s1, s2⟩, rfl, bounds_i64 w0, k1, k2⟩
end
end Go.Proofs.Ytnahfhfnodghaaa
