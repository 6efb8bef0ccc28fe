/- What the program's start-up lays, read off the row's condition: the table of marks and two error values. -/
import Derived.Test.YtilckhdaijfddaaDoorProg
import Derived.Test.YtilckhdaijfddaaDoorRows
import Derived.Test.YtilckhdaijfddaaDoorLexInt
import Derived.Lib.LaidU8
import Derived.MakeChecks
import Derived.OpenShut
import Derived.ProofKit
import Derived.LaidMore
import Derived.Stop.Joined
namespace Go.Proofs.YtilckhdaijfddaaDoor
set_option linter.unusedSimpArgs false
set_option linter.unusedVariables false
open Go.RowKit

def lexLaid : List (String × DataW Unit) := [("math/bits.deBruijn32tab", Rows.laid_math_bits_deBruijn32tab), ("math/bits.deBruijn64tab", Rows.laid_math_bits_deBruijn64tab), ("internal/strconv.uint64pow10", Rows.laid_internal_strconv_uint64pow10), ("strconv.ErrRange", Rows.laid_strconv_ErrRange), ("strconv.ErrSyntax", Rows.laid_strconv_ErrSyntax), ("edict/lex.marks", Rows.laid_edict_lex_marks)]

theorem gMarks : Tryd.prog.globalNamed "edict/lex.marks" = some 1 := by kernel_rfl
theorem gSyn : Tryd.prog.globalNamed "strconv.ErrSyntax" = some 4 := by kernel_rfl
theorem gRng : Tryd.prog.globalNamed "strconv.ErrRange" = some 5 := by kernel_rfl
theorem tMarks : (Tryd.prog.globals[1]?).map (·.type) = some 157 := by kernel_rfl
theorem tSyn : (Tryd.prog.globals[4]?).map (·.type) = some 150 := by kernel_rfl
theorem tRng : (Tryd.prog.globals[5]?).map (·.type) = some 150 := by kernel_rfl

set_option maxRecDepth 100000 in
theorem iface_cells {fuel : Nat} {W : World} {cs : List Value} {n : String} {d : DataW Unit} {p : List MemPlace} {sp : Nat → Bool} {base : Nat}
    (h : DataW.trod (fun _ => ()) Tryd.prog W base sp false fuel 150 cs = some (.iface n d, p)) : ∃ t y, cs = [.iface t y] := by
  cases fuel with
  | zero => simp [DataW.trod] at h
  | succ m =>
    unfold DataW.trod at h
    rw [Tryd.underlying150] at h
    split at h <;> first | exact ⟨_, _, rfl⟩ | simp_all

set_option maxRecDepth 100000 in
theorem struct_cells {fuel : Nat} {W : World} {cs : List Value} {bs : List UInt8} {k op : Int} {p : List MemPlace} {sp : Nat → Bool} {base : Nat}
    (h : DataW.trod (fun _ => ()) Tryd.prog W base sp false fuel 156 cs = some ((.agg [.lit (.string bs), .lit (.int .i64 k), .lit (.int .i64 op)] : DataW Unit), p)) : cs = [.string ⟨bs.toArray⟩, .int .i64 k, .int .i64 op] := by
  obtain ⟨xs, m, rfl, hx, hlen, hn, hel⟩ := DataW.trod_struct Tryd.underlying156 h
  have hc : Tryd.prog.cellsOf 156 = 3 := by kernel_rfl
  have c9 : Tryd.prog.cellsOf 9 = 1 := by kernel_rfl
  have c3 : Tryd.prog.cellsOf 3 = 1 := by kernel_rfl
  rw [hc] at hlen
  have e0 : DataW.trod (fun _ => ()) Tryd.prog W base sp false m 9 ((cs.drop 0).take (Tryd.prog.cellsOf 9)) = xs[0]? := hel 0 _ rfl
  have e1 : DataW.trod (fun _ => ()) Tryd.prog W base sp false m 3 ((cs.drop 1).take (Tryd.prog.cellsOf 3)) = xs[1]? := hel 1 _ rfl
  have e2 : DataW.trod (fun _ => ()) Tryd.prog W base sp false m 3 ((cs.drop 2).take (Tryd.prog.cellsOf 3)) = xs[2]? := hel 2 _ rfl
  rw [c9] at e0
  rw [c3] at e1 e2
  match xs, hn, hx, e0, e1, e2 with
  | [x0, x1, x2], _, hx, e0, e1, e2 =>
    obtain ⟨s, a0, b0, _⟩ := DataW.trod_string Tryd.underlying9 (show _ = some x0 from e0)
    obtain ⟨n1, a1, b1, _⟩ := DataW.trod_int Tryd.underlying3 (show _ = some x1 from e1)
    obtain ⟨n2, a2, b2, _⟩ := DataW.trod_int Tryd.underlying3 (show _ = some x2 from e2)
    simp only [Prod.mk.injEq, DataW.agg.injEq, List.map_cons, List.map_nil, List.cons.injEq, and_true] at hx
    rw [b0, b1, b2] at hx
    simp only [DataW.lit.injEq, Lit.string.injEq, Lit.int.injEq, true_and] at hx
    obtain ⟨⟨h0, h1, h2⟩, _⟩ := hx
    match cs, hlen, a0, a1, a2 with
    | [c0, c1, c2], _, a0, a1, a2 =>
      simp at a0 a1 a2
      rw [a0, a1, a2, h0, ← h1, ← h2]

/-- The data of the table's rows. -/
def markD (m : List UInt8 × Int × Int) : DataW Unit := .agg [.lit (.string m.1), .lit (.int .i64 m.2.1), .lit (.int .i64 m.2.2)]
def marksM : List (List UInt8 × Int × Int) :=
  [([58, 45], 9, 0), ([33, 61], 11, 2), ([60, 61], 11, 4), ([62, 61], 11, 6), ([60], 11, 3), ([62], 11, 5), ([61], 11, 1), ([40], 5, 0), ([41], 6, 0), ([44], 7, 0), ([46], 8, 0)]
theorem marks_data : (Rows.laid_edict_lex_marks : DataW Unit) = .agg (marksM.map markD) := rfl
def mark3 (m : List UInt8 × Int × Int) : List Value := [.string ⟨m.1.toArray⟩, .int .i64 m.2.1, .int .i64 m.2.2]
theorem marksL_eq : marksL = marksM.flatMap mark3 := rfl

theorem flat3_at (ms : List (List UInt8 × Int × Int)) (cs : List Value) (hl : cs.length = ms.length * 3) (h : ∀ i m, ms[i]? = some m → (cs.drop (i * 3)).take 3 = mark3 m) : cs = ms.flatMap mark3 := by
  induction ms generalizing cs with
  | nil => exact List.length_eq_zero_iff.1 (by simpa using hl)
  | cons m r ih =>
    rw [List.flatMap_cons]
    have h0 := h 0 m rfl
    simp only [Nat.zero_mul, List.drop_zero] at h0
    have h1 := ih (cs.drop 3) (by simp [hl]; omega) (fun i m' hm => by
      have := h (i + 1) m' hm
      rw [List.drop_drop]
      rw [show (i + 1) * 3 = 3 + i * 3 by omega] at this
      exact this)
    rw [← h0, ← h1, List.take_append_drop]

theorem laid_lex {W : World} (h : laidMetH Tryd.prog lexLaid W) : LexLaid W := by
  rw [MakeChecks.laidMetH_plain _ _ _ (by kernel_rfl)] at h
  have r1 := Lib.laidMet.reads h (show ("strconv.ErrRange", Rows.laid_strconv_ErrRange) ∈ lexLaid from .tail _ (.tail _ (.tail _ (.head _))))
  have r2 := Lib.laidMet.reads h (show ("strconv.ErrSyntax", Rows.laid_strconv_ErrSyntax) ∈ lexLaid from .tail _ (.tail _ (.tail _ (.tail _ (.head _)))))
  have r3 := Lib.laidMet.reads h (show ("edict/lex.marks", Rows.laid_edict_lex_marks) ∈ lexLaid from .tail _ (.tail _ (.tail _ (.tail _ (.tail _ (.head _))))))
  refine ⟨?_, ?_, ?_⟩
  · obtain ⟨g, t, cs, fuel, p, hg, ht, hv, hd⟩ := r2
    obtain rfl := Option.some.inj (gSyn.symm.trans hg)
    obtain rfl := Option.some.inj (tSyn.symm.trans ht)
    obtain ⟨t, y, hcs⟩ := iface_cells hd
    refine ⟨t, y, ?_⟩
    have := World.var?_cell hg hv 0
    rw [Array.eq_one_of_toList hcs] at this
    simpa using this
  · obtain ⟨g, t, cs, fuel, p, hg, ht, hv, hd⟩ := r1
    obtain rfl := Option.some.inj (gRng.symm.trans hg)
    obtain rfl := Option.some.inj (tRng.symm.trans ht)
    obtain ⟨t, y, hcs⟩ := iface_cells hd
    refine ⟨t, y, ?_⟩
    have := World.var?_cell hg hv 0
    rw [Array.eq_one_of_toList hcs] at this
    simpa using this
  · obtain ⟨g, t, cs, fuel, p, hg, ht, hv, hd⟩ := r3
    obtain rfl := Option.some.inj (gMarks.symm.trans hg)
    obtain rfl := Option.some.inj (tMarks.symm.trans ht)
    obtain ⟨xs, m, rfl, hx, hlen, hn, hel⟩ := DataW.trod_array Tryd.underlying157 hd
    have c61 : Tryd.prog.cellsOf 157 = 33 := by kernel_rfl
    have c60 : Tryd.prog.cellsOf 156 = 3 := by kernel_rfl
    rw [c61] at hlen
    rw [marks_data] at hx
    simp only [Prod.mk.injEq, DataW.agg.injEq] at hx
    have hcs : cs.toList = marksL := by
      rw [marksL_eq]
      refine flat3_at marksM cs.toList (by rw [hlen]; rfl) (fun i mm hm => ?_)
      have hi : i < 11 := (List.getElem?_eq_some_iff.1 hm).1
      have he := hel i hi
      rw [c60] at he
      have hxi : (xs.map (·.1))[i]? = some (markD mm) := by rw [← hx.1, List.getElem?_map, hm]; rfl
      rw [List.getElem?_map] at hxi
      obtain ⟨x, hx1, hx2⟩ := Option.map_eq_some_iff.1 hxi
      rw [hx1] at he
      obtain ⟨d, ps⟩ := x
      simp only at hx2
      subst hx2
      exact struct_cells he
    intro i v hv'
    have := World.var?_cell hg hv i
    rw [← hcs] at hv'
    rw [this]
    simpa using hv'

end Go.Proofs.YtilckhdaijfddaaDoor
