/- What an argument of type Parts holds, by the bulk of what is read. -/
import Derived.Test.YtcofoddjcgmmkaaOpenStore
namespace Go.Proofs.Ytcofoddjcgmmkaa
set_option linter.unusedSimpArgs false
set_option linter.unusedVariables false
open Go.RowKit Go.Deep Go.ChangeShapes Go.WideShapes Go.ChangeAt Go.Joins

section
variable {H : Type} {enc : TypeId × Value → H} {P : Program} {w : World}
theorem trod_struct7 {t : TypeId} {f0 f1 f2 f3 f4 f5 f6 : Field} {fuel : Nat} {cs : List Value} {x : DataW H × List MemPlace} (ht : P.underlying t = some (.struct #[f0, f1, f2, f3, f4, f5, f6])) (h : DataW.trod enc P w 0 (fun _ => true) true fuel t cs = some x) :
    ∃ y0 y1 y2 y3 y4 y5 y6 n, x.1 = .agg [y0.1, y1.1, y2.1, y3.1, y4.1, y5.1, y6.1] ∧ cs.length = P.cellsOf t ∧ DataW.trod enc P w 0 (fun _ => true) true n f0.type ((cs.drop f0.offset).take (P.cellsOf f0.type)) = some y0 ∧
      DataW.trod enc P w 0 (fun _ => true) true n f1.type ((cs.drop f1.offset).take (P.cellsOf f1.type)) = some y1 ∧ DataW.trod enc P w 0 (fun _ => true) true n f2.type ((cs.drop f2.offset).take (P.cellsOf f2.type)) = some y2 ∧
      DataW.trod enc P w 0 (fun _ => true) true n f3.type ((cs.drop f3.offset).take (P.cellsOf f3.type)) = some y3 ∧ DataW.trod enc P w 0 (fun _ => true) true n f4.type ((cs.drop f4.offset).take (P.cellsOf f4.type)) = some y4 ∧
      DataW.trod enc P w 0 (fun _ => true) true n f5.type ((cs.drop f5.offset).take (P.cellsOf f5.type)) = some y5 ∧ DataW.trod enc P w 0 (fun _ => true) true n f6.type ((cs.drop f6.offset).take (P.cellsOf f6.type)) = some y6 := by
  obtain ⟨xs, n, _, rfl, hl, hlen, hf⟩ := DataW.trod_struct ht h
  match xs, hlen with
  | [y0, y1, y2, y3, y4, y5, y6], _ => exact ⟨y0, y1, y2, y3, y4, y5, y6, n, by simp, hl, by simpa using hf 0 f0 rfl, by simpa using hf 1 f1 rfl, by simpa using hf 2 f2 rfl, by simpa using hf 3 f3 rfl, by simpa using hf 4 f4 rfl, by simpa using hf 5 f5 rfl, by simpa using hf 6 f6 rfl⟩
end

section
variable {H : Type} {enc : TypeId × Value → H} {w : World}
theorem open_parts {r : Reach} {b0 : Nat} {v : Value} {d : DataW H} {ps : List MemPlace}
    (hv : Value.okWide Try.prog w r b0 25 v) (h : DataW.Trod enc Try.prog w 0 (fun _ => true) true 25 v d ps) (hk : Rows.uptoBulk d ≤ 1048576) :
    ∃ aa al ac ar fa fc F sa sc G ta tc K pr st sy, v = .agg #[.slice aa al ac, .slice fa F.length fc, .slice sa G.length sc, .slice ta K.length tc, .int .i64 pr, .int .i64 st, .bool sy] ∧ IsInts w aa al ar ∧
      (FreeRows w (fun _ => none) fa F.length F ∧ F.length ≤ 1048576) ∧ (FreeRows w (fun _ => none) sa G.length G ∧ G.length ≤ 1048576) ∧ (FreeRows w (fun _ => none) ta K.length K ∧ K.length ≤ 1048576) := by
  obtain ⟨cs, rfl, hs⟩ := okWide_struct Try.underlying25 hv
  have hC : Try.prog.cellsOf 25 = 7 := by kernel_rfl
  rw [hC] at hs
  obtain ⟨l⟩ := cs
  match l, hs with
  | [c0, c1, c2, c3, c4, c5, c6], _ =>
    obtain ⟨fuel, hf⟩ := h
    obtain ⟨y0, y1, y2, y3, y4, y5, y6, n, hx, _, h0, h1, h2, h3, h4, h5, h6⟩ := trod_struct7 Try.underlying25 hf
    have hx' : d = _ := hx
    rw [hx'] at hk
    simp only [Rows.uptoBulk, Rows.uptoBulkAll] at hk
    simp only [cellsInt5, show Try.prog.cellsOf 22 = 1 from by kernel_rfl, show Try.prog.cellsOf 23 = 1 from by kernel_rfl, show Try.prog.cellsOf 4 = 1 from by kernel_rfl, Value.cells, List.drop_zero, List.drop_succ_cons, List.take_succ_cons, List.take_zero] at h0 h1 h2 h3 h4 h5 h6
    obtain ⟨aa, al, ac, ar, rfl, hi, -⟩ := ints_valB h0 (by omega)
    obtain ⟨fa, fc, F, rfl, f1, f2⟩ := rows_valB h1 (by omega)
    obtain ⟨sa, sc, G, rfl, g1, g2⟩ := rows_valB h2 (by omega)
    obtain ⟨ta, tc, K, rfl, k1, k2⟩ := rows_valB h3 (by omega)
    obtain ⟨a4, e4, -, -⟩ := DataW.trod_int Try.underlying3 h4
    obtain ⟨a5, e5, -, -⟩ := DataW.trod_int Try.underlying3 h5
    obtain ⟨a6, e6, -⟩ := DataW.trod_bool Try.underlying4 h6
    simp only [List.cons.injEq, and_true] at e4 e5 e6
    subst e4 e5 e6
    exact ⟨aa, al, ac, ar, fa, fc, F, sa, sc, G, ta, tc, K, a4, a5, a6, rfl, hi, ⟨f1, by omega⟩, ⟨g1, by omega⟩, ⟨k1, by omega⟩⟩
theorem open_partsI {r : Reach} {b0 : Nat} {v : Value} {d : DataW H} {ps : List MemPlace}
    (hv : Value.okWide Try.prog w r b0 25 v) (h : DataW.Trod enc Try.prog w 0 (fun _ => true) true 25 v d ps) (hk : Rows.uptoBulk d ≤ 1048576) :
    ∃ aa al ac ar fa fc F sa sc G ta tc K pr st sy, v = .agg #[.slice aa al ac, .slice fa F.length fc, .slice sa G.length sc, .slice ta K.length tc, .int .i64 pr, .int .i64 st, .bool sy] ∧ (I64 pr ∧ I64 st) ∧ IsInts w aa al ar ∧
      (FreeRows w (fun _ => none) fa F.length F ∧ F.length ≤ 1048576) ∧ (FreeRows w (fun _ => none) sa G.length G ∧ G.length ≤ 1048576) ∧ (FreeRows w (fun _ => none) ta K.length K ∧ K.length ≤ 1048576) := by
  obtain ⟨cs, rfl, hs⟩ := okWide_struct Try.underlying25 hv
  have hC : Try.prog.cellsOf 25 = 7 := by kernel_rfl
  rw [hC] at hs
  obtain ⟨l⟩ := cs
  match l, hs with
  | [c0, c1, c2, c3, c4, c5, c6], _ =>
    obtain ⟨fuel, hf⟩ := h
    obtain ⟨y0, y1, y2, y3, y4, y5, y6, n, hx, _, h0, h1, h2, h3, h4, h5, h6⟩ := trod_struct7 Try.underlying25 hf
    have hx' : d = _ := hx
    rw [hx'] at hk
    simp only [Rows.uptoBulk, Rows.uptoBulkAll] at hk
    simp only [cellsInt5, show Try.prog.cellsOf 22 = 1 from by kernel_rfl, show Try.prog.cellsOf 23 = 1 from by kernel_rfl, show Try.prog.cellsOf 4 = 1 from by kernel_rfl, Value.cells, List.drop_zero, List.drop_succ_cons, List.take_succ_cons, List.take_zero] at h0 h1 h2 h3 h4 h5 h6
    obtain ⟨aa, al, ac, ar, rfl, hi, -⟩ := ints_valB h0 (by omega)
    obtain ⟨fa, fc, F, rfl, f1, f2⟩ := rows_valB h1 (by omega)
    obtain ⟨sa, sc, G, rfl, g1, g2⟩ := rows_valB h2 (by omega)
    obtain ⟨ta, tc, K, rfl, k1, k2⟩ := rows_valB h3 (by omega)
    obtain ⟨a4, e4, -, b4⟩ := DataW.trod_int Try.underlying3 h4
    obtain ⟨a5, e5, -, b5⟩ := DataW.trod_int Try.underlying3 h5
    obtain ⟨a6, e6, -⟩ := DataW.trod_bool Try.underlying4 h6
    simp only [List.cons.injEq, and_true] at e4 e5 e6
    subst e4 e5 e6
    exact ⟨aa, al, ac, ar, fa, fc, F, sa, sc, G, ta, tc, K, a4, a5, a6, rfl, ⟨bounds_i64 b4, bounds_i64 b5⟩, hi, ⟨f1, by omega⟩, ⟨g1, by omega⟩, ⟨k1, by omega⟩⟩
end
end Go.Proofs.Ytcofoddjcgmmkaa
