/- What an argument holds that is a program by value: its clauses with their lists, each within the form's own reach. -/
import Derived.Test.YtpkpajjdpiebfaaProg
import Derived.Test.YtpkpajjdpiebfaaWellPure
namespace Go.Proofs.Ytpkpajjdpiebfaa
set_option linter.unusedSimpArgs false
set_option linter.unusedVariables false
open Go.RowKit Go.Deep Go.ChangeShapes Go.WideShapes Go.ChangeAt Go.Joins

section
variable {H : Type} {enc : TypeId × Value → H} {P : Program} {w : World}

/-- A slice in a cell: nil or empty; or a row, each element with its cells and its own reading, within the reach. -/
theorem rows_in {t e : TypeId} {v : Value} {x : DataW H × List MemPlace} {fuel size : Nat}
    (ht : P.underlying t = some (.slice e)) (ce : P.cellsOf e = size) (hsize : 0 < size)
    (hf : DataW.trod enc P w 0 (fun _ => true) true fuel t [v] = some x) (hw : ∀ n ∈ x.1.weights P t, n ≤ 140737488351232) :
    ∃ ao len cap, v = .slice ao len cap ∧ len * P.bytesOf e ≤ 140737488351232 ∧ (0 < len → ∃ b off, ao = some ⟨b, off, none⟩ ∧ ∀ i, i < len → ∃ cs fuel y, w.cells? 0 ⟨b, off + i * size, none⟩ size = some cs ∧ DataW.trod enc P w 0 (fun _ => true) true fuel e cs = some y ∧ ∀ n ∈ y.1.weights P e, n ≤ 140737488351232) := by
  rcases open_slice ht hf with ⟨h1, _⟩ | ⟨a, len, cap, m, n, D, Pl, h1, hb, hl, hm, hmm, hx, hel⟩
  · simp only [List.cons.injEq, and_true] at h1
    exact ⟨none, 0, 0, h1, by omega, fun h => absurd h (by omega)⟩
  · simp only [List.cons.injEq, and_true] at h1
    simp only [if_true] at hmm
    subst hmm
    rw [hx] at hw
    simp only [DataW.weights, ht] at hw
    have hreach := hw _ (List.mem_cons_self ..)
    simp only [List.length_map, List.length_range] at hreach
    have hlr : len * P.bytesOf e ≤ 140737488351232 := Nat.le_trans (Nat.mul_le_mul_right _ (by omega)) hreach
    obtain ⟨b, off, spot⟩ := a
    refine ⟨_, len, _, h1, hlr, fun hlen => ?_⟩
    have hspot : spot = none := by
      obtain ⟨cs', g1, _⟩ := hel 0 (by omega)
      rw [ce] at g1
      obtain ⟨_, hl3, g2⟩ := World.cells?_some g1
      have g3 := g2 0 hsize
      have g4 : w.cell? ⟨b, off, spot⟩ = some (cs'[0]'(by omega)) := by
        simp only [Nat.zero_mul, Addr.add, if_true] at g3
        rw [g3]; exact List.getElem?_eq_getElem _
      exact World.cell?_spot g4
    subst hspot
    refine ⟨b, off, rfl, fun i hi => ?_⟩
    obtain ⟨cs', g1, g2⟩ := hel i (by omega)
    rw [addr_add, ce] at g1
    refine ⟨cs', n, (D i, Pl i), g1, g2, fun k hk => ?_⟩
    exact hw k (List.mem_cons_of_mem _ (List.mem_append_left _ (weights_all (List.mem_map.2 ⟨i, List.mem_range.2 hi, rfl⟩) k hk)))

theorem trod_struct6 {t : TypeId} {f0 f1 f2 f3 f4 f5 : Field} {fuel : Nat} {cs : List Value} {x : DataW H × List MemPlace} (ht : P.underlying t = some (.struct #[f0, f1, f2, f3, f4, f5])) (h : DataW.trod enc P w 0 (fun _ => true) true fuel t cs = some x) :
    ∃ y0 y1 y2 y3 y4 y5 n, x.1 = .agg [y0.1, y1.1, y2.1, y3.1, y4.1, y5.1] ∧ cs.length = P.cellsOf t ∧ DataW.trod enc P w 0 (fun _ => true) true n f0.type ((cs.drop f0.offset).take (P.cellsOf f0.type)) = some y0 ∧
      DataW.trod enc P w 0 (fun _ => true) true n f1.type ((cs.drop f1.offset).take (P.cellsOf f1.type)) = some y1 ∧ DataW.trod enc P w 0 (fun _ => true) true n f2.type ((cs.drop f2.offset).take (P.cellsOf f2.type)) = some y2 ∧
      DataW.trod enc P w 0 (fun _ => true) true n f3.type ((cs.drop f3.offset).take (P.cellsOf f3.type)) = some y3 ∧ DataW.trod enc P w 0 (fun _ => true) true n f4.type ((cs.drop f4.offset).take (P.cellsOf f4.type)) = some y4 ∧
      DataW.trod enc P w 0 (fun _ => true) true n f5.type ((cs.drop f5.offset).take (P.cellsOf f5.type)) = some y5 := by
  obtain ⟨xs, n, _, rfl, hl, hlen, hf⟩ := DataW.trod_struct ht h
  match xs, hlen with
  | [y0, y1, y2, y3, y4, y5], _ => exact ⟨y0, y1, y2, y3, y4, y5, n, by simp, hl, by simpa using hf 0 f0 rfl, by simpa using hf 1 f1 rfl, by simpa using hf 2 f2 rfl, by simpa using hf 3 f3 rfl, by simpa using hf 4 f4 rfl, by simpa using hf 5 f5 rfl⟩
end

section
variable {H : Type} {enc : TypeId × Value → H} {w : World}

theorem cellsTerm : Try.prog.cellsOf 57 = 4 := by kernel_rfl
theorem cellsAtom : Try.prog.cellsOf 44 = 3 := by kernel_rfl
theorem cellsLit : Try.prog.cellsOf 59 = 14 := by kernel_rfl
theorem cellsCls : Try.prog.cellsOf 47 = 4 := by kernel_rfl
theorem cellsInt : Try.prog.cellsOf 3 = 1 := by kernel_rfl
theorem cellsI64 : Try.prog.cellsOf 2 = 1 := by kernel_rfl
theorem cellsStr : Try.prog.cellsOf 9 = 1 := by kernel_rfl
theorem cellsTs : Try.prog.cellsOf 42 = 1 := by kernel_rfl
theorem cellsLs : Try.prog.cellsOf 45 = 1 := by kernel_rfl
theorem cellsCs : Try.prog.cellsOf 30 = 1 := by kernel_rfl

theorem trm_vals {fuel : Nat} {cs : List Value} {y : DataW H × List MemPlace}
    (hd : DataW.trod enc Try.prog w 0 (fun _ => true) true fuel 57 cs = some y) (hw : ∀ n ∈ y.1.weights Try.prog 57, n ≤ 140737488351232) :
    ∃ t : Trm, t.ok ∧ cs = [.int .i64 t.k, .int .i64 t.n, .string t.s, .int .i64 t.off] := by
  obtain ⟨y0, y1, y2, y3, n, hy, hlen, t0, t1, t2, t3⟩ := trod_struct4 Try.underlying57 hd
  rw [cellsTerm] at hlen
  match cs, hlen with
  | [v0, v1, v2, v3], _ =>
    simp only [cellsInt, cellsI64, cellsStr, List.drop_zero, List.drop_succ_cons, List.take_succ_cons, List.take_zero] at t0 t1 t2 t3
    obtain ⟨a0, e0, x0, w0⟩ := DataW.trod_int Try.underlying3 t0
    obtain ⟨a1, e1, x1, w1⟩ := DataW.trod_int Try.underlying2 t1
    obtain ⟨s, e2, x2, hs⟩ := DataW.trod_string Try.underlying9 t2
    obtain ⟨a3, e3, x3, w3⟩ := DataW.trod_int Try.underlying3 t3
    simp only [List.cons.injEq, and_true] at e0 e1 e2 e3
    subst e0 e1 e2 e3 x0 x1 x2 x3
    have hs2 : s.size ≤ 140737488351232 := by
      refine hw s.size ?_
      rw [hy]
      simp [DataW.weights, DataW.weightsEach, Try.underlying57]
    exact ⟨⟨a0, a1, s, a3⟩, ⟨⟨bounds_i64 w0, bounds_i64 w1, hs2⟩, bounds_i64 w3⟩, rfl⟩

theorem trms_val {fuel : Nat} {v : Value} {y : DataW H × List MemPlace}
    (hd : DataW.trod enc Try.prog w 0 (fun _ => true) true fuel 42 [v] = some y) (hw : ∀ n ∈ y.1.weights Try.prog 42, n ≤ 140737488351232) :
    ∃ ao len cap ts, v = .slice ao len cap ∧ IsTrms w ao len ts := by
  obtain ⟨ao, len, cap, rfl, hr, hrow⟩ := rows_in Try.underlying42 cellsTerm (by omega) hd hw
  rw [show Try.prog.bytesOf 57 = 40 from by kernel_rfl] at hr
  by_cases hlen : 0 < len
  · obtain ⟨b, off, rfl, hel⟩ := hrow hlen
    obtain ⟨l, h1, h2⟩ := list_of_each (R := fun i (t : Trm) => t.ok ∧ trmAt w b (off + i * 4) t) len (fun i hi => by
      obtain ⟨cs, fuel, y, g1, g2, g3⟩ := hel i hi
      obtain ⟨t, hok, rfl⟩ := trm_vals g2 g3
      obtain ⟨_, _, hc⟩ := World.cells?_some g1
      have c0 := hc 0 (by omega)
      have c1 := hc 1 (by omega)
      have c2 := hc 2 (by omega)
      have c3 := hc 3 (by omega)
      rw [addr_add] at c0 c1 c2 c3
      exact ⟨t, hok, by simpa using c0, by simpa using c1, by simpa using c2, by simpa using c3⟩)
    refine ⟨_, len, cap, l, rfl, h1, hr, fun c hc => ?_, fun _ => ⟨b, off, rfl, fun i c hc => (h2 i c hc).2⟩⟩
    obtain ⟨i, hi⟩ := List.mem_iff_getElem?.1 hc
    exact (h2 i c hi).1
  · obtain rfl : len = 0 := by omega
    exact ⟨ao, 0, cap, [], rfl, rfl, hr, by simp, fun h => absurd h (by omega)⟩

theorem atm_vals {fuel : Nat} {cs : List Value} {y : DataW H × List MemPlace}
    (hd : DataW.trod enc Try.prog w 0 (fun _ => true) true fuel 44 cs = some y) (hw : ∀ n ∈ y.1.weights Try.prog 44, n ≤ 140737488351232) :
    ∃ a : Atm, a.at w ∧ cs = [.string a.p, .slice a.ao a.len a.cap, .int .i64 a.off] := by
  obtain ⟨y0, y1, y2, n, hy, hlen, t0, t1, t2⟩ := trod_struct3 Try.underlying44 hd
  rw [cellsAtom] at hlen
  rw [hy] at hw
  simp only [DataW.weights, DataW.weightsEach, Try.underlying44, List.map_cons, List.map_nil, List.mem_append] at hw
  match cs, hlen with
  | [v0, v1, v2], _ =>
    simp only [cellsInt, cellsTs, cellsStr, List.drop_zero, List.drop_succ_cons, List.take_succ_cons, List.take_zero] at t0 t1 t2
    obtain ⟨s, e0, x0, hs⟩ := DataW.trod_string Try.underlying9 t0
    obtain ⟨ao, len, cap, ts, rfl, hts⟩ := trms_val t1 (fun n hn => hw n (.inr (.inl hn)))
    obtain ⟨a2, e2, x2, w2⟩ := DataW.trod_int Try.underlying3 t2
    simp only [List.cons.injEq, and_true] at e0 e2
    subst e0 e2 x0 x2
    have hs2 : s.size ≤ 140737488351232 := hw s.size (.inl (by simp [DataW.weights]))
    exact ⟨⟨s, ao, len, cap, a2, ts⟩, ⟨hs2, bounds_i64 w2, hts⟩, rfl⟩

theorem ltr_vals {fuel : Nat} {cs : List Value} {y : DataW H × List MemPlace}
    (hd : DataW.trod enc Try.prog w 0 (fun _ => true) true fuel 59 cs = some y) (hw : ∀ n ∈ y.1.weights Try.prog 59, n ≤ 140737488351232) :
    ∃ x : Ltr, x.at w ∧ cs = [.int .i64 x.k, .string x.a.p, .slice x.a.ao x.a.len x.a.cap, .int .i64 x.a.off, .int .i64 x.op, .int .i64 x.l.k, .int .i64 x.l.n, .string x.l.s, .int .i64 x.l.off, .int .i64 x.r.k, .int .i64 x.r.n, .string x.r.s, .int .i64 x.r.off, .int .i64 x.off] := by
  obtain ⟨y0, y1, y2, y3, y4, y5, n, hy, hlen, t0, t1, t2, t3, t4, t5⟩ := trod_struct6 Try.underlying59 hd
  rw [cellsLit] at hlen
  rw [hy] at hw
  simp only [DataW.weights, DataW.weightsEach, Try.underlying59, List.map_cons, List.map_nil, List.mem_append] at hw
  match cs, hlen with
  | [v0, v1, v2, v3, v4, v5, v6, v7, v8, v9, v10, v11, v12, v13], _ =>
    simp only [cellsInt, cellsAtom, cellsTerm, List.drop_zero, List.drop_succ_cons, List.take_succ_cons, List.take_zero] at t0 t1 t2 t3 t4 t5
    obtain ⟨a0, e0, x0, w0⟩ := DataW.trod_int Try.underlying3 t0
    obtain ⟨a, ha, e1⟩ := atm_vals t1 (fun n hn => hw n (.inr (.inl hn)))
    obtain ⟨a2, e2, x2, w2⟩ := DataW.trod_int Try.underlying3 t2
    obtain ⟨l, hl, e3⟩ := trm_vals t3 (fun n hn => hw n (.inr (.inr (.inr (.inl hn)))))
    obtain ⟨r, hr, e4⟩ := trm_vals t4 (fun n hn => hw n (.inr (.inr (.inr (.inr (.inl hn))))))
    obtain ⟨a5, e5, x5, w5⟩ := DataW.trod_int Try.underlying3 t5
    simp only [List.cons.injEq, and_true] at e0 e1 e2 e3 e4 e5
    obtain ⟨rfl, rfl, rfl⟩ := e1
    obtain ⟨rfl, rfl, rfl, rfl⟩ := e3
    obtain ⟨rfl, rfl, rfl, rfl⟩ := e4
    subst e0 e2 e5
    exact ⟨⟨a0, a, a2, l, r, a5⟩, ⟨bounds_i64 w0, ha, bounds_i64 w2, hl, hr, bounds_i64 w5⟩, rfl⟩

theorem ltrs_val {fuel : Nat} {v : Value} {y : DataW H × List MemPlace}
    (hd : DataW.trod enc Try.prog w 0 (fun _ => true) true fuel 45 [v] = some y) (hw : ∀ n ∈ y.1.weights Try.prog 45, n ≤ 140737488351232) :
    ∃ ao len cap ts, v = .slice ao len cap ∧ IsLtrs w ao len ts := by
  obtain ⟨ao, len, cap, rfl, hr, hrow⟩ := rows_in Try.underlying45 cellsLit (by omega) hd hw
  rw [show Try.prog.bytesOf 59 = 152 from by kernel_rfl] at hr
  by_cases hlen : 0 < len
  · obtain ⟨b, off, rfl, hel⟩ := hrow hlen
    obtain ⟨l, h1, h2⟩ := list_of_each (R := fun i (t : Ltr) => t.at w ∧ ltrAt w b (off + i * 14) t) len (fun i hi => by
      obtain ⟨cs, fuel, y, g1, g2, g3⟩ := hel i hi
      obtain ⟨t, hok, rfl⟩ := ltr_vals g2 g3
      obtain ⟨_, _, hc⟩ := World.cells?_some g1
      have cc : ∀ j (v : Value), ([.int .i64 t.k, .string t.a.p, .slice t.a.ao t.a.len t.a.cap, .int .i64 t.a.off, .int .i64 t.op, .int .i64 t.l.k, .int .i64 t.l.n, .string t.l.s, .int .i64 t.l.off, .int .i64 t.r.k, .int .i64 t.r.n, .string t.r.s, .int .i64 t.r.off, .int .i64 t.off] : List Value)[j]? = some v → w.cell? ⟨b, off + i * 14 + j, none⟩ = some v := fun j v hv => by
        have hj : j < 14 := by
          rcases Nat.lt_or_ge j 14 with h | h
          · exact h
          · rw [List.getElem?_eq_none (by simpa using h)] at hv; exact absurd hv (by simp)
        have := hc j hj
        rw [addr_add] at this
        rw [this]; exact hv
      exact ⟨t, hok, cc 0 _ rfl, cc 1 _ rfl, cc 2 _ rfl, cc 3 _ rfl, cc 4 _ rfl, ⟨cc 5 _ rfl, cc 6 _ rfl, cc 7 _ rfl, cc 8 _ rfl⟩, ⟨cc 9 _ rfl, cc 10 _ rfl, cc 11 _ rfl, cc 12 _ rfl⟩, cc 13 _ rfl⟩)
    refine ⟨_, len, cap, l, rfl, h1, by omega, fun c hc => ?_, fun _ => ⟨b, off, rfl, fun i c hc => (h2 i c hc).2⟩⟩
    obtain ⟨i, hi⟩ := List.mem_iff_getElem?.1 hc
    exact (h2 i c hi).1
  · obtain rfl : len = 0 := by omega
    exact ⟨ao, 0, cap, [], rfl, rfl, by omega, by simp, fun h => absurd h (by omega)⟩

theorem cls_vals {fuel : Nat} {cs : List Value} {y : DataW H × List MemPlace}
    (hd : DataW.trod enc Try.prog w 0 (fun _ => true) true fuel 47 cs = some y) (hw : ∀ n ∈ y.1.weights Try.prog 47, n ≤ 140737488351232) :
    ∃ c : Cls, c.at w ∧ cs = [.string c.h.p, .slice c.h.ao c.h.len c.h.cap, .int .i64 c.h.off, .slice c.ao c.len c.cap] := by
  obtain ⟨y0, y1, n, hy, hlen, t0, t1⟩ := trod_struct2 Try.underlying47 hd
  rw [cellsCls] at hlen
  rw [hy] at hw
  simp only [DataW.weights, DataW.weightsEach, Try.underlying47, List.map_cons, List.map_nil, List.mem_append] at hw
  match cs, hlen with
  | [v0, v1, v2, v3], _ =>
    simp only [cellsAtom, cellsLs, List.drop_zero, List.drop_succ_cons, List.take_succ_cons, List.take_zero] at t0 t1
    obtain ⟨a, ha, e0⟩ := atm_vals t0 (fun n hn => hw n (.inl hn))
    obtain ⟨ao, len, cap, ts, rfl, hts⟩ := ltrs_val t1 (fun n hn => hw n (.inr (.inl hn)))
    simp only [List.cons.injEq, and_true] at e0
    obtain ⟨rfl, rfl, rfl⟩ := e0
    exact ⟨⟨a, ao, len, cap, ts⟩, ⟨ha, hts⟩, rfl⟩

theorem clss_val {fuel : Nat} {v : Value} {y : DataW H × List MemPlace}
    (hd : DataW.trod enc Try.prog w 0 (fun _ => true) true fuel 30 [v] = some y) (hw : ∀ n ∈ y.1.weights Try.prog 30, n ≤ 140737488351232) :
    ∃ ao len cap ts, v = .slice ao len cap ∧ IsClss w ao len ts := by
  obtain ⟨ao, len, cap, rfl, hr, hrow⟩ := rows_in Try.underlying30 cellsCls (by omega) hd hw
  rw [show Try.prog.bytesOf 47 = 72 from by kernel_rfl] at hr
  by_cases hlen : 0 < len
  · obtain ⟨b, off, rfl, hel⟩ := hrow hlen
    obtain ⟨l, h1, h2⟩ := list_of_each (R := fun i (t : Cls) => t.at w ∧ clsAt w b (off + i * 4) t) len (fun i hi => by
      obtain ⟨cs, fuel, y, g1, g2, g3⟩ := hel i hi
      obtain ⟨t, hok, rfl⟩ := cls_vals g2 g3
      obtain ⟨_, _, hc⟩ := World.cells?_some g1
      have c0 := hc 0 (by omega)
      have c1 := hc 1 (by omega)
      have c2 := hc 2 (by omega)
      have c3 := hc 3 (by omega)
      rw [addr_add] at c0 c1 c2 c3
      exact ⟨t, hok, by simpa using c0, by simpa using c1, by simpa using c2, by simpa using c3⟩)
    refine ⟨_, len, cap, l, rfl, h1, by omega, fun c hc => ?_, fun _ => ⟨b, off, rfl, fun i c hc => (h2 i c hc).2⟩⟩
    obtain ⟨i, hi⟩ := List.mem_iff_getElem?.1 hc
    exact (h2 i c hi).1
  · obtain rfl : len = 0 := by omega
    exact ⟨ao, 0, cap, [], rfl, rfl, by omega, by simp, fun h => absurd h (by omega)⟩

theorem open_prog {r : Reach} {b0 : Nat} {v : Value} {d : DataW H} {ps : List MemPlace} {ts : List TypeId} {ds : List (DataW H)} {j : Nat}
    (hv : Value.okWide Try.prog w r b0 32 v) (h : DataW.Trod enc Try.prog w 0 (fun _ => true) true 32 v d ps)
    (hsz : (DataW.weightsEach Try.prog ts ds).all (· ≤ reachBytes) = true) (hts : ts[j]? = some 32) (hds : ds[j]? = some d) :
    ∃ ao len cap cs, v = .agg #[.slice ao len cap] ∧ IsClss w ao len cs := by
  obtain ⟨cs, rfl, hs⟩ := okWide_struct Try.underlying32 hv
  have hC : Try.prog.cellsOf 32 = 1 := by kernel_rfl
  rw [hC] at hs
  obtain ⟨l⟩ := cs
  match l, hs with
  | [c0], _ =>
    obtain ⟨fuel, hf⟩ := h
    obtain ⟨y0, n, hx, _, h0⟩ := trod_struct1 Try.underlying32 hf
    simp only [Prod.mk.injEq] at hx
    have hw : ∀ n ∈ d.weights Try.prog 32, n ≤ 140737488351232 := fun n hn => of_decide_eq_true (List.all_eq_true.1 hsz n (DataW.weights_mem_each hts hds n hn))
    rw [hx.1] at hw
    simp only [DataW.weights, DataW.weightsEach, Try.underlying32, List.map_cons, List.map_nil, List.mem_append] at hw
    simp only [cellsCs, Value.cells, List.drop_zero, List.take_succ_cons, List.take_zero] at h0
    obtain ⟨ao, len, cap, ts, rfl, hts⟩ := clss_val h0 (fun n hn => hw n (.inl hn))
    exact ⟨ao, len, cap, ts, rfl, hts⟩
end
end Go.Proofs.Ytpkpajjdpiebfaa
