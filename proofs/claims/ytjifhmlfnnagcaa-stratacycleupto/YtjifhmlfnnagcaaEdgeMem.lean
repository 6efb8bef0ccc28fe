/- Edges in memory; edictlaw08.edges, ints, equalEdges, equalInts. -/
import Derived.Test.YtjifhmlfnnagcaaProg
import Derived.Test.YtjifhmlfnnagcaaForms
import Derived.Test.YtjifhmlfnnagcaaPush
import Derived.Test.YtjifhmlfnnagcaaWellBase
import Derived.WalkSpells
import Derived.Deep.DeepCutAuto
import Derived.WalkLawsBesides
namespace Go.Proofs.Ytjifhmlfnnagcaa
set_option linter.unusedSimpArgs false
set_option linter.unusedVariables false
open Go.RowKit

structure Edg where
  f : Int
  t : Int
  neg : Bool
  r : Int
deriving DecidableEq
def elEdg : El Edg where
  cells c := [.int .i64 c.f, .int .i64 c.t, .bool c.neg, .int .i64 c.r]
  size := 4
  pos := by decide
  len _ := rfl
  ok _ _ c := I64 c.f ∧ I64 c.t ∧ I64 c.r
  one _ u hu := by simp only [List.mem_cons, List.not_mem_nil, or_false] at hu; rcases hu with rfl | rfl | rfl | rfl <;> rfl
  move h _ := h

theorem Try.infoEdg : (Try.prog.info? 25).map (fun i => (i.zero, i.size, i.bytes)) = some (some (.agg #[.int .i64 0, .int .i64 0, .bool false, .int .i64 0]), 4, 32) := by kernel_rfl
theorem Try.infoInt8 : (Try.prog.info? 3).map (fun i => (i.zero, i.size, i.bytes)) = some (some (.int .i64 0), 1, 8) := by kernel_rfl

theorem take_snoc8 {α : Type} {l : List α} {k : Nat} {x : α} (hx : l[k]? = some x) : l.take (k + 1) = l.take k ++ [x] := by rw [List.take_add_one, hx]; rfl

set_option maxHeartbeats 1000000 in
theorem edges_any {w : World} {v : Value} {es : List Edg} (h : Has elEdg w v es) :
    Calls Try.prog 6 #[v] w fun e w' => ∃ v', e = .returned v' ∧ Grow elEdg 25 w.heap.size w' v' es ∧ Below w.heap.size w w' := by
  obtain ⟨i0, hi0, hz0, hz1, hz2⟩ := info_parts Try.infoEdg
  obtain ⟨va, vc, rfl, -, -, hlen⟩ := h.shape
  have HL := hide h
  clear h
  go_enter Try.func6, Try.ntmps6
  go_wp2
  go_loopw [3, 4] (fun m i wl => ∃ k : Nat, k ≤ es.length ∧ i = .int .i64 k ∧ Hid (Grow elEdg 25 w.heap.size wl m (es.take k)) ∧ Hid (Below w.heap.size w wl)) (fun _ i _ => es.length - (intOf i).toNat)
  case atStart => exact ⟨0, by omega, rfl, Grow.nil _ _ _ _, Below.refl _ _⟩
  case round =>
    obtain ⟨k, hk, rfl, HG, HB⟩ := hrel
    by_cases hlt : k < es.length
    · have hi : (k : Int) < (es.length : Int) := by omega
      have hi0' : (0 : Int) ≤ (k : Int) := by omega
      obtain ⟨b, off, rfl, -, -, hrow⟩ := HL.out.row (by omega)
      obtain ⟨x, hx⟩ : ∃ x, es[k]? = some x := ⟨_, List.getElem?_eq_getElem hlt⟩
      have y0 := kept_cell HB.out (hrow k x hx 0 _ rfl)
      have y1 := kept_cell HB.out (hrow k x hx 1 _ rfl)
      have y2 := kept_cell HB.out (hrow k x hx 2 _ rfl)
      have y3 := kept_cell HB.out (hrow k x hx 3 _ rfl)
      simp only [elEdg, Nat.add_zero] at y0 y1 y2 y3
      have HTk := hide (take_snoc8 hx)
      have HO := hide (HL.out.ok (List.mem_of_getElem? hx))
      have HLn : Hid ((es.take k).length = k) := by show _ = _; rw [List.length_take]; omega
      obtain ⟨oa, oc, hsh, -, -⟩ := HG.out.shape
      rw [HLn.out] at hsh
      subst hsh
      have HG2 := hide (HG.out.kept (belo1 wr (.cells #[.int .i64 x.f, .int .i64 x.t, .bool x.neg, .int .i64 x.r] 25)))
      have HB2 := hide (HB.out.alloc HB.out.size (.cells #[.int .i64 x.f, .int .i64 x.t, .bool x.neg, .int .i64 x.r] 25))
      have HS := hide HB.out.size
      obtain ⟨L, hL⟩ : ∃ L, es.take k = L := ⟨_, rfl⟩
      rw [hL] at HG2 HTk HLn
      clear hrow hx HG hL
      go_wp2_with (at_builtin; refine wpList_push (w0 := w) elEdg rfl _ _ 22 rfl w.heap.size 25 i0 _ 32 Try.underlying22 hi0 hz0 hz1 hz2 rfl (by decide) _ L k HLn.out rfl HG2.out x wr.heap.size 1 rfl (fun j u hu => new_cells j u hu) HO.out (by omega) HB2.out (by simp; have := HS.out; omega) ?_)
      intro g cap' w1 HG1 HB1 HGr
      clear HGr
      go_wp2
      go_roundw
      case rel => exact ⟨k + 1, by omega, by go_num, by rw [HTk.out]; exact HG1, HB1⟩
      case measure => simp [intOf]; omega
    · obtain rfl : k = es.length := by omega
      have hi : ¬ (es.length : Int) < (es.length : Int) := by omega
      rw [List.take_of_length_le (Nat.le_refl _)] at HG
      go_wp2
      go_ret
      exact ⟨_, rfl, HG.out, HB.out⟩
end Go.Proofs.Ytjifhmlfnnagcaa
