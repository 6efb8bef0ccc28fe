/- What an argument holds that is a list of numbers, of rows, of lists of rows; how long, by the bulk of what is read. -/
import Derived.Test.YtcofoddjcgmmkaaStoreLaw8
import Derived.Test.YtcofoddjcgmmkaaUpto
namespace Go.Proofs.Ytcofoddjcgmmkaa
set_option linter.unusedSimpArgs false
set_option linter.unusedVariables false
open Go.RowKit Go.Deep Go.ChangeShapes Go.WideShapes Go.ChangeAt Go.Joins

section
variable {H : Type} {enc : TypeId × Value → H} {P : Program} {w : World}

theorem rows_inB {t e : TypeId} {v : Value} {x : DataW H × List MemPlace} {fuel size : Nat}
    (ht : P.underlying t = some (.slice e)) (ce : P.cellsOf e = size) (hsize : 0 < size)
    (hf : DataW.trod enc P w 0 (fun _ => true) true fuel t [v] = some x) :
    ∃ ao len cap, ∃ D : Nat → DataW H, v = .slice ao len cap ∧ (ao = none → len = 0 ∧ cap = 0) ∧ Rows.uptoBulkAll ((List.range len).map D) ≤ Rows.uptoBulk x.1 ∧ (0 < len → ∃ b off, ao = some ⟨b, off, none⟩ ∧ ∀ i, i < len → ∃ cs fuel y, w.cells? 0 ⟨b, off + i * size, none⟩ size = some cs ∧ DataW.trod enc P w 0 (fun _ => true) true fuel e cs = some y ∧ y.1 = D i) := by
  rcases open_slice ht hf with ⟨h1, _⟩ | ⟨a, len, cap, m, n, D, Pl, h1, hb, hl, hm, hmm, hx, hel⟩
  · simp only [List.cons.injEq, and_true] at h1
    exact ⟨none, 0, 0, fun _ => .nil, h1, fun _ => ⟨rfl, rfl⟩, by simp [Rows.uptoBulkAll], fun h => absurd h (by omega)⟩
  · simp only [List.cons.injEq, and_true] at h1
    simp only [if_true] at hmm
    subst hmm
    obtain ⟨b, off, spot⟩ := a
    refine ⟨_, len, _, D, h1, (fun h => nomatch h), ?_, fun hlen => ?_⟩
    · rw [hx]
      simp only [Rows.uptoBulk]
      omega
    · have hspot : spot = none := by
        obtain ⟨cs', g1, _⟩ := hel 0 (by omega)
        rw [ce] at g1
        obtain ⟨_, hl3, g2⟩ := World.cells?_some g1
        have g3 := g2 0 hsize
        have g4 : w.cell? ⟨b, off, spot⟩ = some (cs'[0]'(by omega)) := by
          simp only [Nat.zero_mul, Addr.add, if_true] at g3
          rw [g3]; exact List.getElem?_eq_getElem _
        exact World.cell?_spot g4
      subst hspot
      refine ⟨b, off, rfl, fun i hi => ?_⟩
      obtain ⟨cs', g1, g2⟩ := hel i (by omega)
      rw [addr_add, ce] at g1
      exact ⟨cs', n, (D i, Pl i), g1, g2, rfl⟩

theorem bulk_at {D : Nat → DataW H} {len i : Nat} (hi : i < len) : Rows.uptoBulk (D i) ≤ Rows.uptoBulkAll ((List.range len).map D) :=
  bulk_mem (j := i) (by rw [List.getElem?_map, List.getElem?_range hi]; rfl)
theorem bulk_range (D : Nat → DataW H) (len : Nat) : len ≤ Rows.uptoBulkAll ((List.range len).map D) := by
  have := bulk_len ((List.range len).map D)
  simpa using this
theorem bulkAll_append : ∀ a b : List (DataW H), Rows.uptoBulkAll (a ++ b) = Rows.uptoBulkAll a + Rows.uptoBulkAll b
  | [], b => by simp [Rows.uptoBulkAll]
  | x :: a, b => by simp only [List.cons_append, Rows.uptoBulkAll, bulkAll_append a b]; omega
theorem bulk_sum (D : Nat → DataW H) (f : Nat → Nat) : ∀ len, (∀ i, i < len → f i ≤ Rows.uptoBulk (D i)) → ((List.range len).map f).sum ≤ Rows.uptoBulkAll ((List.range len).map D)
  | 0, _ => by simp
  | n + 1, h => by
    rw [List.range_succ, List.map_append, List.map_append, bulkAll_append, List.sum_append]
    have h1 := bulk_sum D f n (fun i hi => h i (by omega))
    have h2 := h n (by omega)
    simp only [List.map_cons, List.map_nil, List.sum_cons, List.sum_nil, Rows.uptoBulkAll]
    omega
end

section
variable {H : Type} {enc : TypeId × Value → H} {w : World}

theorem cellsInt5 : Try.prog.cellsOf 3 = 1 := by kernel_rfl

theorem ints_valB {fuel : Nat} {v : Value} {y : DataW H × List MemPlace}
    (hd : DataW.trod enc Try.prog w 0 (fun _ => true) true fuel 22 [v] = some y) (hk : Rows.uptoBulk y.1 ≤ 1048576) :
    ∃ ao len cap l, v = .slice ao len cap ∧ IsInts w ao len l ∧ (ao = none → len = 0 ∧ cap = 0) := by
  obtain ⟨ao, len, cap, D, rfl, hn, hbk, hrow⟩ := rows_inB Try.underlying22 cellsInt5 (by omega) hd
  have hlb := bulk_range D len
  by_cases hlen : 0 < len
  · obtain ⟨b, off, rfl, hel⟩ := hrow hlen
    obtain ⟨l, h1, h2⟩ := list_of_each (R := fun i (x : Int) => I64 x ∧ w.cell? ⟨b, off + i, none⟩ = some (.int .i64 x)) len (fun i hi => by
      obtain ⟨cs, fuel, y, g1, g2, g3⟩ := hel i hi
      rw [Nat.mul_one] at g1
      obtain ⟨_, hl3, g4⟩ := World.cells?_some g1
      obtain ⟨a0, e0, x0, w0⟩ := DataW.trod_int Try.underlying3 g2
      subst e0
      have g5 := g4 0 (by omega)
      rw [addr_add] at g5
      exact ⟨a0, bounds_i64 w0, by simpa using g5⟩)
    refine ⟨_, len, cap, l, rfl, ⟨h1, by omega, fun c hc => ?_, fun _ => ⟨b, off, rfl, fun i c hc => (h2 i c hc).2⟩⟩, hn⟩
    obtain ⟨i, hi⟩ := List.mem_iff_getElem?.1 hc
    exact (h2 i c hi).1
  · obtain rfl : len = 0 := by omega
    exact ⟨ao, 0, cap, [], rfl, ⟨rfl, by omega, by simp, fun h => absurd h (by omega)⟩, hn⟩

theorem row_valsB {fuel : Nat} {cs : List Value} {y : DataW H × List MemPlace}
    (hd : DataW.trod enc Try.prog w 0 (fun _ => true) true fuel 31 cs = some y) (hk : Rows.uptoBulk y.1 ≤ 1048576) :
    ∃ q ao cap l, I64 q ∧ cs = [.int .i64 q, .slice ao l.length cap] ∧ IsInts w ao l.length l := by
  obtain ⟨y0, y1, n, hy, hlen, t0, t1⟩ := trod_struct2 Try.underlying31 hd
  rw [show Try.prog.cellsOf 31 = 2 from by kernel_rfl] at hlen
  rw [hy] at hk
  simp only [Rows.uptoBulk, Rows.uptoBulkAll] at hk
  match cs, hlen with
  | [v0, v1], _ =>
    simp only [cellsInt5, show Try.prog.cellsOf 22 = 1 from by kernel_rfl, List.drop_zero, List.drop_succ_cons, List.take_succ_cons, List.take_zero] at t0 t1
    obtain ⟨a0, e0, x0, w0⟩ := DataW.trod_int Try.underlying3 t0
    obtain ⟨ao, len, cap, l, rfl, hl, _⟩ := ints_valB t1 (by omega)
    simp only [List.cons.injEq, and_true] at e0
    subst e0
    have e := hl.1
    subst e
    exact ⟨a0, ao, cap, l, bounds_i64 w0, rfl, hl⟩

theorem rows_valB {fuel : Nat} {v : Value} {y : DataW H × List MemPlace}
    (hd : DataW.trod enc Try.prog w 0 (fun _ => true) true fuel 23 [v] = some y) (hk : Rows.uptoBulk y.1 ≤ 1048576) :
    ∃ ao cap R, v = .slice ao R.length cap ∧ FreeRows w (fun _ => none) ao R.length R ∧ R.length ≤ Rows.uptoBulk y.1 := by
  obtain ⟨ao, len, cap, D, rfl, hn, hbk, hrow⟩ := rows_inB Try.underlying23 (show Try.prog.cellsOf 31 = 2 from by kernel_rfl) (by omega) hd
  have hlb := bulk_range D len
  by_cases hlen : 0 < len
  · obtain ⟨b, off, rfl, hel⟩ := hrow hlen
    obtain ⟨R, h1, h2⟩ := list_of_each (R := fun i (r : Rw) => I64 r.1 ∧ rwAt w (fun _ => none) b (off + i * 2) r) len (fun i hi => by
      obtain ⟨cs, fuel, y, g1, g2, g3⟩ := hel i hi
      have hbi := bulk_at (D := D) hi
      rw [← g3] at hbi
      obtain ⟨q, a, c, l, hq, rfl, hl⟩ := row_valsB g2 (by omega)
      obtain ⟨_, hl3, hc⟩ := World.cells?_some g1
      have c0 := hc 0 (by omega)
      have c1 := hc 1 (by omega)
      rw [addr_add] at c0 c1
      exact ⟨(q, l), hq, by simpa using c0, a, c, by simpa using c1, hl, fun _ _ _ => rfl⟩)
    subst h1
    refine ⟨_, cap, R, rfl, ⟨rfl, by omega, fun r hr => ?_, fun _ => ⟨b, off, rfl, rfl, fun i r hr => (h2 i r hr).2⟩⟩, by omega⟩
    obtain ⟨i, hi⟩ := List.mem_iff_getElem?.1 hr
    exact (h2 i r hi).1
  · obtain rfl : len = 0 := by omega
    exact ⟨ao, cap, [], rfl, ⟨rfl, by simp, by simp, fun h => absurd h (by simp)⟩, by simp⟩

end
end Go.Proofs.Ytcofoddjcgmmkaa
