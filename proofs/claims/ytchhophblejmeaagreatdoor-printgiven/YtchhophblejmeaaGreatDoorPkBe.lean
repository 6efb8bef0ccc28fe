/- What the program's start-up lays, read off the row's condition: the table of marks and two error values. What the program's start-up lays, read off the row's condition: the table of marks, two error values, the table by which strconv counts digits. A slice in a cell, opened: nil or empty; or a row, each element with its cells and its own reading. What an argument holds that is a program by value: its clauses with their lists, each within the form's own reach. Faults held against none; boxes that stay. -/
import Derived.Test.YtchhophblejmeaaGreatDoorProg
import Derived.Test.YtchhophblejmeaaGreatDoorRows
import Derived.Test.YtchhophblejmeaaGreatDoorLexInt
import Derived.Lib.LaidU8
import Derived.MakeChecks
import Derived.OpenShut
import Derived.ProofKit
import Derived.LaidMore
import Derived.Stop.Joined
import Derived.Test.YtchhophblejmeaaGreatDoorPkB5
import Derived.Lib.LaidTab
import Derived.Lib.SmallJoins
import Derived.Test.YtchhophblejmeaaGreatDoorPkB3
import Derived.Test.YtchhophblejmeaaGreatDoorPkB8
import Derived.Test.YtchhophblejmeaaGreatDoorPkB4

namespace Go.Proofs.YtchhophblejmeaaGreatDoor
set_option linter.unusedSimpArgs false
set_option linter.unusedVariables false
open Go.RowKit

def lexLaid : List (String × DataW Unit) := [("math/bits.deBruijn32tab", Rows.laid_math_bits_deBruijn32tab), ("math/bits.deBruijn64tab", Rows.laid_math_bits_deBruijn64tab), ("internal/strconv.uint64pow10", Rows.laid_internal_strconv_uint64pow10), ("strconv.ErrRange", Rows.laid_strconv_ErrRange), ("strconv.ErrSyntax", Rows.laid_strconv_ErrSyntax), ("edict/lex.marks", Rows.laid_edict_lex_marks)]

theorem gMarks : Tryz.prog.globalNamed "edict/lex.marks" = some 0 := by kernel_rfl
theorem gSyn : Tryz.prog.globalNamed "strconv.ErrSyntax" = some 1 := by kernel_rfl
theorem gRng : Tryz.prog.globalNamed "strconv.ErrRange" = some 2 := by kernel_rfl
theorem tMarks : (Tryz.prog.globals[0]?).map (·.type) = some 165 := by kernel_rfl
theorem tSyn : (Tryz.prog.globals[1]?).map (·.type) = some 158 := by kernel_rfl
theorem tRng : (Tryz.prog.globals[2]?).map (·.type) = some 158 := by kernel_rfl

set_option maxRecDepth 100000 in
theorem iface_cells {fuel : Nat} {W : World} {cs : List Value} {n : String} {d : DataW Unit} {p : List MemPlace} {sp : Nat → Bool} {base : Nat}
    (h : DataW.trod (fun _ => ()) Tryz.prog W base sp false fuel 158 cs = some (.iface n d, p)) : ∃ t y, cs = [.iface t y] := by
  cases fuel with
  | zero => simp [DataW.trod] at h
  | succ m =>
    unfold DataW.trod at h
    rw [Tryz.underlying158] at h
    split at h <;> first | exact ⟨_, _, rfl⟩ | simp_all

set_option maxRecDepth 100000 in
theorem struct_cells {fuel : Nat} {W : World} {cs : List Value} {bs : List UInt8} {k op : Int} {p : List MemPlace} {sp : Nat → Bool} {base : Nat}
    (h : DataW.trod (fun _ => ()) Tryz.prog W base sp false fuel 164 cs = some ((.agg [.lit (.string bs), .lit (.int .i64 k), .lit (.int .i64 op)] : DataW Unit), p)) : cs = [.string ⟨bs.toArray⟩, .int .i64 k, .int .i64 op] := by
  obtain ⟨xs, m, rfl, hx, hlen, hn, hel⟩ := DataW.trod_struct Tryz.underlying164 h
  have hc : Tryz.prog.cellsOf 164 = 3 := by kernel_rfl
  have c9 : Tryz.prog.cellsOf 9 = 1 := by kernel_rfl
  have c3 : Tryz.prog.cellsOf 3 = 1 := by kernel_rfl
  rw [hc] at hlen
  have e0 : DataW.trod (fun _ => ()) Tryz.prog W base sp false m 9 ((cs.drop 0).take (Tryz.prog.cellsOf 9)) = xs[0]? := hel 0 _ rfl
  have e1 : DataW.trod (fun _ => ()) Tryz.prog W base sp false m 3 ((cs.drop 1).take (Tryz.prog.cellsOf 3)) = xs[1]? := hel 1 _ rfl
  have e2 : DataW.trod (fun _ => ()) Tryz.prog W base sp false m 3 ((cs.drop 2).take (Tryz.prog.cellsOf 3)) = xs[2]? := hel 2 _ rfl
  rw [c9] at e0
  rw [c3] at e1 e2
  match xs, hn, hx, e0, e1, e2 with
  | [x0, x1, x2], _, hx, e0, e1, e2 =>
    obtain ⟨s, a0, b0, _⟩ := DataW.trod_string Tryz.underlying9 (show _ = some x0 from e0)
    obtain ⟨n1, a1, b1, _⟩ := DataW.trod_int Tryz.underlying3 (show _ = some x1 from e1)
    obtain ⟨n2, a2, b2, _⟩ := DataW.trod_int Tryz.underlying3 (show _ = some x2 from e2)
    simp only [Prod.mk.injEq, DataW.agg.injEq, List.map_cons, List.map_nil, List.cons.injEq, and_true] at hx
    rw [b0, b1, b2] at hx
    simp only [DataW.lit.injEq, Lit.string.injEq, Lit.int.injEq, true_and] at hx
    obtain ⟨⟨h0, h1, h2⟩, _⟩ := hx
    match cs, hlen, a0, a1, a2 with
    | [c0, c1, c2], _, a0, a1, a2 =>
      simp at a0 a1 a2
      rw [a0, a1, a2, h0, ← h1, ← h2]

/-- The data of the table's rows. -/
def markD (m : List UInt8 × Int × Int) : DataW Unit := .agg [.lit (.string m.1), .lit (.int .i64 m.2.1), .lit (.int .i64 m.2.2)]
def marksM : List (List UInt8 × Int × Int) :=
  [([58, 45], 9, 0), ([33, 61], 11, 2), ([60, 61], 11, 4), ([62, 61], 11, 6), ([60], 11, 3), ([62], 11, 5), ([61], 11, 1), ([40], 5, 0), ([41], 6, 0), ([44], 7, 0), ([46], 8, 0)]
theorem marks_data : (Rows.laid_edict_lex_marks : DataW Unit) = .agg (marksM.map markD) := rfl
def mark3 (m : List UInt8 × Int × Int) : List Value := [.string ⟨m.1.toArray⟩, .int .i64 m.2.1, .int .i64 m.2.2]
theorem marksL_eq : marksL = marksM.flatMap mark3 := rfl

theorem flat3_at (ms : List (List UInt8 × Int × Int)) (cs : List Value) (hl : cs.length = ms.length * 3) (h : ∀ i m, ms[i]? = some m → (cs.drop (i * 3)).take 3 = mark3 m) : cs = ms.flatMap mark3 := by
  induction ms generalizing cs with
  | nil => exact List.length_eq_zero_iff.1 (by simpa using hl)
  | cons m r ih =>
    rw [List.flatMap_cons]
    have h0 := h 0 m rfl
    simp only [Nat.zero_mul, List.drop_zero] at h0
    have h1 := ih (cs.drop 3) (by simp [hl]; omega) (fun i m' hm => by
      have := h (i + 1) m' hm
      rw [List.drop_drop]
      rw [show (i + 1) * 3 = 3 + i * 3 by omega] at this
      exact this)
    rw [← h0, ← h1, List.take_append_drop]

theorem laid_lex {W : World} (h : laidMetH Tryz.prog lexLaid W) : LexLaid W := by
  rw [MakeChecks.laidMetH_plain _ _ _ (by kernel_rfl)] at h
  have r1 := Lib.laidMet.reads h (show ("strconv.ErrRange", Rows.laid_strconv_ErrRange) ∈ lexLaid from .tail _ (.tail _ (.tail _ (.head _))))
  have r2 := Lib.laidMet.reads h (show ("strconv.ErrSyntax", Rows.laid_strconv_ErrSyntax) ∈ lexLaid from .tail _ (.tail _ (.tail _ (.tail _ (.head _)))))
  have r3 := Lib.laidMet.reads h (show ("edict/lex.marks", Rows.laid_edict_lex_marks) ∈ lexLaid from .tail _ (.tail _ (.tail _ (.tail _ (.tail _ (.head _))))))
  refine ⟨?_, ?_, ?_⟩
  · obtain ⟨g, t, cs, fuel, p, hg, ht, hv, hd⟩ := r2
    obtain rfl := Option.some.inj (gSyn.symm.trans hg)
    obtain rfl := Option.some.inj (tSyn.symm.trans ht)
    obtain ⟨t, y, hcs⟩ := iface_cells hd
    refine ⟨t, y, ?_⟩
    have := World.var?_cell hg hv 0
    rw [Array.eq_one_of_toList hcs] at this
    simpa using this
  · obtain ⟨g, t, cs, fuel, p, hg, ht, hv, hd⟩ := r1
    obtain rfl := Option.some.inj (gRng.symm.trans hg)
    obtain rfl := Option.some.inj (tRng.symm.trans ht)
    obtain ⟨t, y, hcs⟩ := iface_cells hd
    refine ⟨t, y, ?_⟩
    have := World.var?_cell hg hv 0
    rw [Array.eq_one_of_toList hcs] at this
    simpa using this
  · obtain ⟨g, t, cs, fuel, p, hg, ht, hv, hd⟩ := r3
    obtain rfl := Option.some.inj (gMarks.symm.trans hg)
    obtain rfl := Option.some.inj (tMarks.symm.trans ht)
    obtain ⟨xs, m, rfl, hx, hlen, hn, hel⟩ := DataW.trod_array Tryz.underlying165 hd
    have c61 : Tryz.prog.cellsOf 165 = 33 := by kernel_rfl
    have c60 : Tryz.prog.cellsOf 164 = 3 := by kernel_rfl
    rw [c61] at hlen
    rw [marks_data] at hx
    simp only [Prod.mk.injEq, DataW.agg.injEq] at hx
    have hcs : cs.toList = marksL := by
      rw [marksL_eq]
      refine flat3_at marksM cs.toList (by rw [hlen]; rfl) (fun i mm hm => ?_)
      have hi : i < 11 := (List.getElem?_eq_some_iff.1 hm).1
      have he := hel i hi
      rw [c60] at he
      have hxi : (xs.map (·.1))[i]? = some (markD mm) := by rw [← hx.1, List.getElem?_map, hm]; rfl
      rw [List.getElem?_map] at hxi
      obtain ⟨x, hx1, hx2⟩ := Option.map_eq_some_iff.1 hxi
      rw [hx1] at he
      obtain ⟨d, ps⟩ := x
      simp only at hx2
      subst hx2
      exact struct_cells he
    intro i v hv'
    have := World.var?_cell hg hv i
    rw [← hcs] at hv'
    rw [this]
    simpa using hv'

end Go.Proofs.YtchhophblejmeaaGreatDoor

namespace Go.Proofs.YtchhophblejmeaaGreatDoor
set_option linter.unusedSimpArgs false
set_option linter.unusedVariables false
open Go.RowKit

theorem gPow : Tryz.prog.globalNamed "internal/strconv.uint64pow10" = some 3 := by kernel_rfl
theorem tPow : (Tryz.prog.globals[3]?).map (·.type) = some 190 := by kernel_rfl
theorem laid_pn {W : World} (h : laidMetH Tryz.prog lexLaid W) : LexLaid W ∧ TabLaid W := by
  refine ⟨laid_lex h, ?_⟩
  rw [MakeChecks.laidMetH_plain _ _ _ (by kernel_rfl)] at h
  obtain ⟨g, t, cs, fuel, p, hg, ht, hv, hd⟩ := Lib.laidMet.reads h (show ("internal/strconv.uint64pow10", Rows.laid_internal_strconv_uint64pow10) ∈ lexLaid from .tail _ (.tail _ (.head _)))
  obtain rfl := Option.some.inj (gPow.symm.trans hg)
  obtain rfl := Option.some.inj (tPow.symm.trans ht)
  have hcs := Lib.cells_of_tab (k := .u64) (zs := Lib.pow10Tab) Tryz.underlying190 Tryz.underlying168 (by kernel_rfl) (by kernel_rfl) hd
  unfold TabLaid Lib.TabIs
  rw [hv, ← hcs]
end Go.Proofs.YtchhophblejmeaaGreatDoor

namespace Go.Proofs.YtchhophblejmeaaGreatDoor
set_option linter.unusedSimpArgs false
set_option linter.unusedVariables false
open Go.RowKit Go.Deep Go.ChangeShapes Go.WideShapes Go.ChangeAt Go.Joins

section
variable {H : Type} {enc : TypeId × Value → H} {P : Program} {w : World}

/-- A slice in a cell: nil or empty; or a row, each element with its cells and its own reading, within the reach. -/
theorem rows_in {t e : TypeId} {v : Value} {x : DataW H × List MemPlace} {fuel size : Nat}
    (ht : P.underlying t = some (.slice e)) (ce : P.cellsOf e = size) (hsize : 0 < size)
    (hf : DataW.trod enc P w 0 (fun _ => true) true fuel t [v] = some x) (hw : ∀ n ∈ x.1.weights P t, n ≤ 140737488351232) :
    ∃ ao len cap, v = .slice ao len cap ∧ len * P.bytesOf e ≤ 140737488351232 ∧ (0 < len → ∃ b off, ao = some ⟨b, off, none⟩ ∧ ∀ i, i < len → ∃ cs fuel y, w.cells? 0 ⟨b, off + i * size, none⟩ size = some cs ∧ DataW.trod enc P w 0 (fun _ => true) true fuel e cs = some y ∧ ∀ n ∈ y.1.weights P e, n ≤ 140737488351232) := by
  rcases open_slice ht hf with ⟨h1, _⟩ | ⟨a, len, cap, m, n, D, Pl, h1, hb, hl, hm, hmm, hx, hel⟩
  · simp only [List.cons.injEq, and_true] at h1
    exact ⟨none, 0, 0, h1, by omega, fun h => absurd h (by omega)⟩
  · simp only [List.cons.injEq, and_true] at h1
    simp only [if_true] at hmm
    subst hmm
    rw [hx] at hw
    simp only [DataW.weights, ht] at hw
    have hreach := hw _ (List.mem_cons_self ..)
    simp only [List.length_map, List.length_range] at hreach
    have hlr : len * P.bytesOf e ≤ 140737488351232 := Nat.le_trans (Nat.mul_le_mul_right _ (by omega)) hreach
    obtain ⟨b, off, spot⟩ := a
    refine ⟨_, len, _, h1, hlr, fun hlen => ?_⟩
    have hspot : spot = none := by
      obtain ⟨cs', g1, _⟩ := hel 0 (by omega)
      rw [ce] at g1
      obtain ⟨_, hl3, g2⟩ := World.cells?_some g1
      have g3 := g2 0 hsize
      have g4 : w.cell? ⟨b, off, spot⟩ = some (cs'[0]'(by omega)) := by
        simp only [Nat.zero_mul, Addr.add, if_true] at g3
        rw [g3]; exact List.getElem?_eq_getElem _
      exact World.cell?_spot g4
    subst hspot
    refine ⟨b, off, rfl, fun i hi => ?_⟩
    obtain ⟨cs', g1, g2⟩ := hel i (by omega)
    rw [addr_add, ce] at g1
    refine ⟨cs', n, (D i, Pl i), g1, g2, fun k hk => ?_⟩
    exact hw k (List.mem_cons_of_mem _ (List.mem_append_left _ (weights_all (List.mem_map.2 ⟨i, List.mem_range.2 hi, rfl⟩) k hk)))

theorem trod_struct6 {t : TypeId} {f0 f1 f2 f3 f4 f5 : Field} {fuel : Nat} {cs : List Value} {x : DataW H × List MemPlace} (ht : P.underlying t = some (.struct #[f0, f1, f2, f3, f4, f5])) (h : DataW.trod enc P w 0 (fun _ => true) true fuel t cs = some x) :
    ∃ y0 y1 y2 y3 y4 y5 n, x.1 = .agg [y0.1, y1.1, y2.1, y3.1, y4.1, y5.1] ∧ cs.length = P.cellsOf t ∧ DataW.trod enc P w 0 (fun _ => true) true n f0.type ((cs.drop f0.offset).take (P.cellsOf f0.type)) = some y0 ∧
      DataW.trod enc P w 0 (fun _ => true) true n f1.type ((cs.drop f1.offset).take (P.cellsOf f1.type)) = some y1 ∧ DataW.trod enc P w 0 (fun _ => true) true n f2.type ((cs.drop f2.offset).take (P.cellsOf f2.type)) = some y2 ∧
      DataW.trod enc P w 0 (fun _ => true) true n f3.type ((cs.drop f3.offset).take (P.cellsOf f3.type)) = some y3 ∧ DataW.trod enc P w 0 (fun _ => true) true n f4.type ((cs.drop f4.offset).take (P.cellsOf f4.type)) = some y4 ∧
      DataW.trod enc P w 0 (fun _ => true) true n f5.type ((cs.drop f5.offset).take (P.cellsOf f5.type)) = some y5 := by
  obtain ⟨xs, n, _, rfl, hl, hlen, hf⟩ := DataW.trod_struct ht h
  match xs, hlen with
  | [y0, y1, y2, y3, y4, y5], _ => exact ⟨y0, y1, y2, y3, y4, y5, n, by simp, hl, by simpa using hf 0 f0 rfl, by simpa using hf 1 f1 rfl, by simpa using hf 2 f2 rfl, by simpa using hf 3 f3 rfl, by simpa using hf 4 f4 rfl, by simpa using hf 5 f5 rfl⟩
end

theorem cellsInt : Tryz.prog.cellsOf 3 = 1 := by kernel_rfl
end Go.Proofs.YtchhophblejmeaaGreatDoor

namespace Go.Proofs.YtchhophblejmeaaGreatDoor
set_option linter.unusedSimpArgs false
set_option linter.unusedVariables false
open Go.RowKit Go.Deep Go.ChangeShapes Go.WideShapes Go.ChangeAt Go.Joins

section
variable {H : Type} {enc : TypeId × Value → H} {w : World}

theorem cellsTerm : Tryz.prog.cellsOf 54 = 4 := by kernel_rfl
theorem cellsAtom : Tryz.prog.cellsOf 42 = 3 := by kernel_rfl
theorem cellsLit : Tryz.prog.cellsOf 56 = 14 := by kernel_rfl
theorem cellsCls : Tryz.prog.cellsOf 88 = 4 := by kernel_rfl
theorem cellsI64 : Tryz.prog.cellsOf 2 = 1 := by kernel_rfl
theorem cellsStr : Tryz.prog.cellsOf 9 = 1 := by kernel_rfl
theorem cellsTs : Tryz.prog.cellsOf 40 = 1 := by kernel_rfl
theorem cellsLs : Tryz.prog.cellsOf 57 = 1 := by kernel_rfl
theorem cellsCs : Tryz.prog.cellsOf 45 = 1 := by kernel_rfl

set_option maxRecDepth 100000 in
theorem trm_vals {fuel : Nat} {cs : List Value} {y : DataW H × List MemPlace}
    (hd : DataW.trod enc Tryz.prog w 0 (fun _ => true) true fuel 54 cs = some y) (hw : ∀ n ∈ y.1.weights Tryz.prog 54, n ≤ 140737488351232) :
    ∃ t : Trm, t.ok ∧ cs = [.int .i64 t.k, .int .i64 t.n, .string t.s, .int .i64 t.off] := by
  obtain ⟨y0, y1, y2, y3, n, hy, hlen, t0, t1, t2, t3⟩ := trod_struct4 Tryz.underlying54 hd
  rw [cellsTerm] at hlen
  match cs, hlen with
  | [v0, v1, v2, v3], _ =>
    simp only [cellsInt, cellsI64, cellsStr, List.drop_zero, List.drop_succ_cons, List.take_succ_cons, List.take_zero] at t0 t1 t2 t3
    obtain ⟨a0, e0, x0, w0⟩ := DataW.trod_int Tryz.underlying3 t0
    obtain ⟨a1, e1, x1, w1⟩ := DataW.trod_int Tryz.underlying2 t1
    obtain ⟨s, e2, x2, hs⟩ := DataW.trod_string Tryz.underlying9 t2
    obtain ⟨a3, e3, x3, w3⟩ := DataW.trod_int Tryz.underlying3 t3
    simp only [List.cons.injEq, and_true] at e0 e1 e2 e3
    subst e0 e1 e2 e3 x0 x1 x2 x3
    have hs2 : s.size ≤ 140737488351232 := by
      refine hw s.size ?_
      rw [hy]
      simp [DataW.weights, DataW.weightsEach, Tryz.underlying54]
    exact ⟨⟨a0, a1, s, a3⟩, ⟨⟨bounds_i64 w0, bounds_i64 w1, hs2⟩, bounds_i64 w3⟩, rfl⟩

set_option maxRecDepth 100000 in
theorem trms_val {fuel : Nat} {v : Value} {y : DataW H × List MemPlace}
    (hd : DataW.trod enc Tryz.prog w 0 (fun _ => true) true fuel 40 [v] = some y) (hw : ∀ n ∈ y.1.weights Tryz.prog 40, n ≤ 140737488351232) :
    ∃ ao len cap ts, v = .slice ao len cap ∧ IsTrms w ao len ts := by
  obtain ⟨ao, len, cap, rfl, hr, hrow⟩ := rows_in Tryz.underlying40 cellsTerm (by omega) hd hw
  rw [show Tryz.prog.bytesOf 54 = 40 from by kernel_rfl] at hr
  by_cases hlen : 0 < len
  · obtain ⟨b, off, rfl, hel⟩ := hrow hlen
    obtain ⟨l, h1, h2⟩ := list_of_each (R := fun i (t : Trm) => t.ok ∧ trmAt w b (off + i * 4) t) len (fun i hi => by
      obtain ⟨cs, fuel, y, g1, g2, g3⟩ := hel i hi
      obtain ⟨t, hok, rfl⟩ := trm_vals g2 g3
      obtain ⟨_, _, hc⟩ := World.cells?_some g1
      have c0 := hc 0 (by omega)
      have c1 := hc 1 (by omega)
      have c2 := hc 2 (by omega)
      have c3 := hc 3 (by omega)
      rw [addr_add] at c0 c1 c2 c3
      exact ⟨t, hok, by simpa using c0, by simpa using c1, by simpa using c2, by simpa using c3⟩)
    refine ⟨_, len, cap, l, rfl, h1, hr, fun c hc => ?_, fun _ => ⟨b, off, rfl, fun i c hc => (h2 i c hc).2⟩⟩
    obtain ⟨i, hi⟩ := List.mem_iff_getElem?.1 hc
    exact (h2 i c hi).1
  · obtain rfl : len = 0 := by omega
    exact ⟨ao, 0, cap, [], rfl, rfl, hr, by simp, fun h => absurd h (by omega)⟩

set_option maxRecDepth 100000 in
theorem atm_vals {fuel : Nat} {cs : List Value} {y : DataW H × List MemPlace}
    (hd : DataW.trod enc Tryz.prog w 0 (fun _ => true) true fuel 42 cs = some y) (hw : ∀ n ∈ y.1.weights Tryz.prog 42, n ≤ 140737488351232) :
    ∃ a : Atm, a.at w ∧ cs = [.string a.p, .slice a.ao a.len a.cap, .int .i64 a.off] := by
  obtain ⟨y0, y1, y2, n, hy, hlen, t0, t1, t2⟩ := trod_struct3 Tryz.underlying42 hd
  rw [cellsAtom] at hlen
  rw [hy] at hw
  simp only [DataW.weights, DataW.weightsEach, Tryz.underlying42, List.map_cons, List.map_nil, List.mem_append] at hw
  match cs, hlen with
  | [v0, v1, v2], _ =>
    simp only [cellsInt, cellsTs, cellsStr, List.drop_zero, List.drop_succ_cons, List.take_succ_cons, List.take_zero] at t0 t1 t2
    obtain ⟨s, e0, x0, hs⟩ := DataW.trod_string Tryz.underlying9 t0
    obtain ⟨ao, len, cap, ts, rfl, hts⟩ := trms_val t1 (fun n hn => hw n (.inr (.inl hn)))
    obtain ⟨a2, e2, x2, w2⟩ := DataW.trod_int Tryz.underlying3 t2
    simp only [List.cons.injEq, and_true] at e0 e2
    subst e0 e2 x0 x2
    have hs2 : s.size ≤ 140737488351232 := hw s.size (.inl (by simp [DataW.weights]))
    exact ⟨⟨s, ao, len, cap, a2, ts⟩, ⟨hs2, bounds_i64 w2, hts⟩, rfl⟩

set_option maxRecDepth 100000 in
theorem ltr_vals {fuel : Nat} {cs : List Value} {y : DataW H × List MemPlace}
    (hd : DataW.trod enc Tryz.prog w 0 (fun _ => true) true fuel 56 cs = some y) (hw : ∀ n ∈ y.1.weights Tryz.prog 56, n ≤ 140737488351232) :
    ∃ x : Ltr, x.at w ∧ cs = [.int .i64 x.k, .string x.a.p, .slice x.a.ao x.a.len x.a.cap, .int .i64 x.a.off, .int .i64 x.op, .int .i64 x.l.k, .int .i64 x.l.n, .string x.l.s, .int .i64 x.l.off, .int .i64 x.r.k, .int .i64 x.r.n, .string x.r.s, .int .i64 x.r.off, .int .i64 x.off] := by
  obtain ⟨y0, y1, y2, y3, y4, y5, n, hy, hlen, t0, t1, t2, t3, t4, t5⟩ := trod_struct6 Tryz.underlying56 hd
  rw [cellsLit] at hlen
  rw [hy] at hw
  simp only [DataW.weights, DataW.weightsEach, Tryz.underlying56, List.map_cons, List.map_nil, List.mem_append] at hw
  match cs, hlen with
  | [v0, v1, v2, v3, v4, v5, v6, v7, v8, v9, v10, v11, v12, v13], _ =>
    simp only [cellsInt, cellsAtom, cellsTerm, List.drop_zero, List.drop_succ_cons, List.take_succ_cons, List.take_zero] at t0 t1 t2 t3 t4 t5
    obtain ⟨a0, e0, x0, w0⟩ := DataW.trod_int Tryz.underlying3 t0
    obtain ⟨a, ha, e1⟩ := atm_vals t1 (fun n hn => hw n (.inr (.inl hn)))
    obtain ⟨a2, e2, x2, w2⟩ := DataW.trod_int Tryz.underlying3 t2
    obtain ⟨l, hl, e3⟩ := trm_vals t3 (fun n hn => hw n (.inr (.inr (.inr (.inl hn)))))
    obtain ⟨r, hr, e4⟩ := trm_vals t4 (fun n hn => hw n (.inr (.inr (.inr (.inr (.inl hn))))))
    obtain ⟨a5, e5, x5, w5⟩ := DataW.trod_int Tryz.underlying3 t5
    simp only [List.cons.injEq, and_true] at e0 e1 e2 e3 e4 e5
    obtain ⟨rfl, rfl, rfl⟩ := e1
    obtain ⟨rfl, rfl, rfl, rfl⟩ := e3
    obtain ⟨rfl, rfl, rfl, rfl⟩ := e4
    subst e0 e2 e5
    exact ⟨⟨a0, a, a2, l, r, a5⟩, ⟨bounds_i64 w0, ha, bounds_i64 w2, hl, hr, bounds_i64 w5⟩, rfl⟩

set_option maxRecDepth 100000 in
theorem ltrs_val {fuel : Nat} {v : Value} {y : DataW H × List MemPlace}
    (hd : DataW.trod enc Tryz.prog w 0 (fun _ => true) true fuel 57 [v] = some y) (hw : ∀ n ∈ y.1.weights Tryz.prog 57, n ≤ 140737488351232) :
    ∃ ao len cap ts, v = .slice ao len cap ∧ IsLtrs w ao len ts := by
  obtain ⟨ao, len, cap, rfl, hr, hrow⟩ := rows_in Tryz.underlying57 cellsLit (by omega) hd hw
  rw [show Tryz.prog.bytesOf 56 = 152 from by kernel_rfl] at hr
  by_cases hlen : 0 < len
  · obtain ⟨b, off, rfl, hel⟩ := hrow hlen
    obtain ⟨l, h1, h2⟩ := list_of_each (R := fun i (t : Ltr) => t.at w ∧ ltrAt w b (off + i * 14) t) len (fun i hi => by
      obtain ⟨cs, fuel, y, g1, g2, g3⟩ := hel i hi
      obtain ⟨t, hok, rfl⟩ := ltr_vals g2 g3
      obtain ⟨_, _, hc⟩ := World.cells?_some g1
      have cc : ∀ j (v : Value), ([.int .i64 t.k, .string t.a.p, .slice t.a.ao t.a.len t.a.cap, .int .i64 t.a.off, .int .i64 t.op, .int .i64 t.l.k, .int .i64 t.l.n, .string t.l.s, .int .i64 t.l.off, .int .i64 t.r.k, .int .i64 t.r.n, .string t.r.s, .int .i64 t.r.off, .int .i64 t.off] : List Value)[j]? = some v → w.cell? ⟨b, off + i * 14 + j, none⟩ = some v := fun j v hv => by
        have hj : j < 14 := by
          rcases Nat.lt_or_ge j 14 with h | h
          · exact h
          · rw [List.getElem?_eq_none (by simpa using h)] at hv; exact absurd hv (by simp)
        have := hc j hj
        rw [addr_add] at this
        rw [this]; exact hv
      exact ⟨t, hok, cc 0 _ rfl, cc 1 _ rfl, cc 2 _ rfl, cc 3 _ rfl, cc 4 _ rfl, ⟨cc 5 _ rfl, cc 6 _ rfl, cc 7 _ rfl, cc 8 _ rfl⟩, ⟨cc 9 _ rfl, cc 10 _ rfl, cc 11 _ rfl, cc 12 _ rfl⟩, cc 13 _ rfl⟩)
    refine ⟨_, len, cap, l, rfl, h1, by omega, fun c hc => ?_, fun _ => ⟨b, off, rfl, fun i c hc => (h2 i c hc).2⟩⟩
    obtain ⟨i, hi⟩ := List.mem_iff_getElem?.1 hc
    exact (h2 i c hi).1
  · obtain rfl : len = 0 := by omega
    exact ⟨ao, 0, cap, [], rfl, rfl, by omega, by simp, fun h => absurd h (by omega)⟩

set_option maxRecDepth 100000 in
theorem cls_vals {fuel : Nat} {cs : List Value} {y : DataW H × List MemPlace}
    (hd : DataW.trod enc Tryz.prog w 0 (fun _ => true) true fuel 88 cs = some y) (hw : ∀ n ∈ y.1.weights Tryz.prog 88, n ≤ 140737488351232) :
    ∃ c : Cls, c.at w ∧ cs = [.string c.h.p, .slice c.h.ao c.h.len c.h.cap, .int .i64 c.h.off, .slice c.ao c.len c.cap] := by
  obtain ⟨y0, y1, n, hy, hlen, t0, t1⟩ := trod_struct2 Tryz.underlying88 hd
  rw [cellsCls] at hlen
  rw [hy] at hw
  simp only [DataW.weights, DataW.weightsEach, Tryz.underlying88, List.map_cons, List.map_nil, List.mem_append] at hw
  match cs, hlen with
  | [v0, v1, v2, v3], _ =>
    simp only [cellsAtom, cellsLs, List.drop_zero, List.drop_succ_cons, List.take_succ_cons, List.take_zero] at t0 t1
    obtain ⟨a, ha, e0⟩ := atm_vals t0 (fun n hn => hw n (.inl hn))
    obtain ⟨ao, len, cap, ts, rfl, hts⟩ := ltrs_val t1 (fun n hn => hw n (.inr (.inl hn)))
    simp only [List.cons.injEq, and_true] at e0
    obtain ⟨rfl, rfl, rfl⟩ := e0
    exact ⟨⟨a, ao, len, cap, ts⟩, ⟨ha, hts⟩, rfl⟩

set_option maxRecDepth 100000 in
theorem clss_val {fuel : Nat} {v : Value} {y : DataW H × List MemPlace}
    (hd : DataW.trod enc Tryz.prog w 0 (fun _ => true) true fuel 45 [v] = some y) (hw : ∀ n ∈ y.1.weights Tryz.prog 45, n ≤ 140737488351232) :
    ∃ ao len cap ts, v = .slice ao len cap ∧ IsClss w ao len ts := by
  obtain ⟨ao, len, cap, rfl, hr, hrow⟩ := rows_in Tryz.underlying45 cellsCls (by omega) hd hw
  rw [show Tryz.prog.bytesOf 88 = 72 from by kernel_rfl] at hr
  by_cases hlen : 0 < len
  · obtain ⟨b, off, rfl, hel⟩ := hrow hlen
    obtain ⟨l, h1, h2⟩ := list_of_each (R := fun i (t : Cls) => t.at w ∧ clsAt w b (off + i * 4) t) len (fun i hi => by
      obtain ⟨cs, fuel, y, g1, g2, g3⟩ := hel i hi
      obtain ⟨t, hok, rfl⟩ := cls_vals g2 g3
      obtain ⟨_, _, hc⟩ := World.cells?_some g1
      have c0 := hc 0 (by omega)
      have c1 := hc 1 (by omega)
      have c2 := hc 2 (by omega)
      have c3 := hc 3 (by omega)
      rw [addr_add] at c0 c1 c2 c3
      exact ⟨t, hok, by simpa using c0, by simpa using c1, by simpa using c2, by simpa using c3⟩)
    refine ⟨_, len, cap, l, rfl, h1, by omega, fun c hc => ?_, fun _ => ⟨b, off, rfl, fun i c hc => (h2 i c hc).2⟩⟩
    obtain ⟨i, hi⟩ := List.mem_iff_getElem?.1 hc
    exact (h2 i c hi).1
  · obtain rfl : len = 0 := by omega
    exact ⟨ao, 0, cap, [], rfl, rfl, by omega, by simp, fun h => absurd h (by omega)⟩

set_option maxRecDepth 100000 in
theorem open_prog {r : Reach} {b0 : Nat} {v : Value} {d : DataW H} {ps : List MemPlace} {ts : List TypeId} {ds : List (DataW H)} {j : Nat}
    (hv : Value.okWide Tryz.prog w r b0 47 v) (h : DataW.Trod enc Tryz.prog w 0 (fun _ => true) true 47 v d ps)
    (hsz : (DataW.weightsEach Tryz.prog ts ds).all (· ≤ reachBytes) = true) (hts : ts[j]? = some 47) (hds : ds[j]? = some d) :
    ∃ ao len cap cs, v = .agg #[.slice ao len cap] ∧ IsClss w ao len cs := by
  obtain ⟨cs, rfl, hs⟩ := okWide_struct Tryz.underlying47 hv
  have hC : Tryz.prog.cellsOf 47 = 1 := by kernel_rfl
  rw [hC] at hs
  obtain ⟨l⟩ := cs
  match l, hs with
  | [c0], _ =>
    obtain ⟨fuel, hf⟩ := h
    obtain ⟨y0, n, hx, _, h0⟩ := trod_struct1 Tryz.underlying47 hf
    simp only [Prod.mk.injEq] at hx
    have hw : ∀ n ∈ d.weights Tryz.prog 47, n ≤ 140737488351232 := fun n hn => of_decide_eq_true (List.all_eq_true.1 hsz n (DataW.weights_mem_each hts hds n hn))
    rw [hx.1] at hw
    simp only [DataW.weights, DataW.weightsEach, Tryz.underlying47, List.map_cons, List.map_nil, List.mem_append] at hw
    simp only [cellsCs, Value.cells, List.drop_zero, List.take_succ_cons, List.take_zero] at h0
    obtain ⟨ao, len, cap, ts, rfl, hts⟩ := clss_val h0 (fun n hn => hw n (.inl hn))
    exact ⟨ao, len, cap, ts, rfl, hts⟩
end
end Go.Proofs.YtchhophblejmeaaGreatDoor

namespace Go.Proofs.YtchhophblejmeaaGreatDoor
set_option linter.unusedSimpArgs false
set_option linter.unusedVariables false
open Go.RowKit

theorem fq_zero (w : World) : (binOp .eql 31 (.agg #[.int .i64 0, .int .i64 0, .int .i64 0]) (.agg #[.int .i64 0, .int .i64 0, .int .i64 0])).run Tryz.prog w = .ok (.bool true) w := by
  have h1 := run_equalIn_struct (P := Tryz.prog) w 9999 31 #[.int .i64 0, .int .i64 0, .int .i64 0] #[.int .i64 0, .int .i64 0, .int .i64 0] (by kernel_rfl) (by kernel_rfl)
  simp only [binOp]
  simp only [Op.equal, Op.maxDepth, Sem.run_bind]
  go_simp
theorem fq_bad (c o : Int) (h : c ≠ 0) (w : World) : (binOp .eql 31 (.agg #[.int .i64 c, .int .i64 0, .int .i64 o]) (.agg #[.int .i64 0, .int .i64 0, .int .i64 0])).run Tryz.prog w = .ok (.bool false) w := by
  have hc : (c == 0) = false := by simpa using h
  have h1 := run_equalIn_struct (P := Tryz.prog) w 9999 31 #[.int .i64 c, .int .i64 0, .int .i64 o] #[.int .i64 0, .int .i64 0, .int .i64 0] (by kernel_rfl) (by kernel_rfl)
  simp only [binOp]
  simp only [Op.equal, Op.maxDepth, Sem.run_bind]
  go_simp
theorem nx_first (w : World) (x y : Obj) : ((w.alloc x).alloc y).heap[w.heap.size]? = some x := by
  rw [(belowA (w.alloc x) y).block _ (by simp)]; exact heap_alloc_new w _
theorem nx_second (w : World) (x y : Obj) : ((w.alloc x).alloc y).heap[w.heap.size + 1]? = some y := by
  have := heap_alloc_new (w.alloc x) y
  simpa using this
theorem bx_kept {W W' : World} {b : Nat} {x : Obj} (h : W.heap[b]? = some x) (hb : Below W.heap.size W W') : W'.heap[b]? = some x := by
  rw [hb.block _ (Array.getElem?_eq_some_iff.1 h).1]; exact h
theorem fq_cells {V : World} {b : Nat} {u0 u1 u2 : Value} (h : V.heap[b]? = some (.cells #[u0, u1, u2] 31 (0, 0))) : V.cell? ⟨b, 0, none⟩ = some u0 ∧ V.cell? ⟨b, 1, none⟩ = some u1 ∧ V.cell? ⟨b, 2, none⟩ = some u2 := by
  refine ⟨?_, ?_, ?_⟩ <;> simp [World.cell?, h]
theorem query_ne {s : ByteArray} {x o : Int} (h : queryP (scanX s).2.1 ((scanX s).2.2 : Int) (scanX s).1 = .bad x o) : x ≠ 0 := by
  unfold queryP bodyP at h
  have hb := body_bd (c := (scanX s).2.1) (f := ((scanX s).2.2 : Int)) ((scanX s).1.length + 1) [] (scanX s).1 (by omega) (scan_ne s)
  cases hB : bodyF (scanX s).2.1 ((scanX s).2.2 : Int) ((scanX s).1.length + 1) [] (scanX s).1 with
  | bad a b => rw [hB] at h; cases h; exact bd_bad hb hB
  | ok b r =>
    rw [hB] at h
    simp only at h
    cases hT : takeP (scanX s).2.1 ((scanX s).2.2 : Int) [0] r with
    | bad a c => rw [hT] at h; cases h; exact take_bd0 (bd_ok hb hB) hT
    | ok t q => rw [hT] at h; cases h
theorem fact_ne {s : ByteArray} {x o : Int} (h : factP (scanX s).2.1 ((scanX s).2.2 : Int) (scanX s).1 = .bad x o) : x ≠ 0 := by
  unfold factP at h
  have hb := take_bd (c := (scanX s).2.1) (f := ((scanX s).2.2 : Int)) (ks := [1]) (scan_ne s) (by decide)
  cases hA : takeP (scanX s).2.1 ((scanX s).2.2 : Int) [1] (scanX s).1 with
  | bad a b => rw [hA] at h; cases h; exact bd_bad hb hA
  | ok t r =>
    rw [hA] at h
    simp only at h
    have hc := atom_bd (c := (scanX s).2.1) (f := ((scanX s).2.2 : Int)) (ks := valueKs) (by decide) (name := t) (bd_ok hb hA)
    cases hB : atomP (scanX s).2.1 ((scanX s).2.2 : Int) valueKs t r with
    | bad a b => rw [hB] at h; cases h; exact bd_bad hc hB
    | ok a r1 =>
      rw [hB] at h
      simp only at h
      cases hT : takeP (scanX s).2.1 ((scanX s).2.2 : Int) [0] r1 with
      | bad a c => rw [hT] at h; cases h; exact take_bd0 (bd_ok hc hB) hT
      | ok t q => rw [hT] at h; cases h
end Go.Proofs.YtchhophblejmeaaGreatDoor
