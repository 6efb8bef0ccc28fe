/- edictlaw08.ints, equalEdges, equalInts: a copy; the same lists are the same. -/
import Derived.Test.YtakdkdckhldjiaaEdgeMem
import Derived.Test.YtakdkdckhldjiaaOverAt
namespace Go.Proofs.Ytakdkdckhldjiaa
set_option linter.unusedSimpArgs false
set_option linter.unusedVariables false
open Go.RowKit

set_option maxHeartbeats 1000000 in
theorem ints_any {w : World} {v : Value} {l : List Int} (h : Has elInt w v l) :
    Calls Try.prog 9 #[v] w fun e w' => ∃ v', e = .returned v' ∧ Grow elInt 3 w.heap.size w' v' l ∧ Below w.heap.size w w' := by
  obtain ⟨i0, hi0, hz0, hz1, hz2⟩ := info_parts Try.infoInt8
  obtain ⟨va, vc, rfl, -, -, hlen⟩ := h.shape
  have HL := hide h
  clear h
  go_enter Try.func9, Try.ntmps9
  go_wp2
  go_loopw [3, 4] (fun m i wl => ∃ k : Nat, k ≤ l.length ∧ i = .int .i64 k ∧ Hid (Grow elInt 3 w.heap.size wl m (l.take k)) ∧ Hid (Below w.heap.size w wl)) (fun _ i _ => l.length - (intOf i).toNat)
  case atStart => exact ⟨0, by omega, rfl, Grow.nil _ _ _ _, Below.refl _ _⟩
  case round =>
    obtain ⟨k, hk, rfl, HG, HB⟩ := hrel
    by_cases hlt : k < l.length
    · have hi : (k : Int) < (l.length : Int) := by omega
      have hi0' : (0 : Int) ≤ (k : Int) := by omega
      obtain ⟨b, off, rfl, -, -, hrow⟩ := HL.out.row (by omega)
      obtain ⟨x, hx⟩ : ∃ x, l[k]? = some x := ⟨_, List.getElem?_eq_getElem hlt⟩
      have y0 := kept_cell HB.out (hrow k x hx 0 _ rfl)
      simp only [elInt, Nat.add_zero, Nat.mul_one] at y0
      have HTk := hide (take_snoc8 hx)
      have HO := hide (HL.out.ok (List.mem_of_getElem? hx))
      have HLn : Hid ((l.take k).length = k) := by show _ = _; rw [List.length_take]; omega
      obtain ⟨oa, oc, hsh, -, -⟩ := HG.out.shape
      rw [HLn.out] at hsh
      subst hsh
      have HG2 := hide (HG.out.kept (belo1 wr (.cells #[.int .i64 x] 3)))
      have HB2 := hide (HB.out.alloc HB.out.size (.cells #[.int .i64 x] 3))
      have HS := hide HB.out.size
      obtain ⟨L, hL⟩ : ∃ L, l.take k = L := ⟨_, rfl⟩
      rw [hL] at HG2 HTk HLn
      clear hrow hx HG hL
      go_wp2_with (at_builtin; refine wpList_push (w0 := w) elInt rfl _ _ 23 rfl w.heap.size 3 i0 _ 8 Try.underlying23 hi0 hz0 hz1 hz2 rfl (by decide) _ L k HLn.out rfl HG2.out x wr.heap.size 1 rfl (fun j u hu => new_cells j u hu) HO.out (by omega) HB2.out (by simp; have := HS.out; omega) ?_)
      intro g cap' w1 HG1 HB1 HGr
      clear HGr
      go_wp2
      go_roundw
      case rel => exact ⟨k + 1, by omega, by go_num, by rw [HTk.out]; exact HG1, HB1⟩
      case measure => simp [intOf]; omega
    · obtain rfl : k = l.length := by omega
      have hi : ¬ (l.length : Int) < (l.length : Int) := by omega
      rw [List.take_of_length_le (Nat.le_refl _)] at HG
      go_wp2
      go_ret
      exact ⟨_, rfl, HG.out, HB.out⟩

theorem neqEdg (a : Edg) (w : World) : (binOp .neq 35 (.agg #[.int .i64 a.f, .int .i64 a.t, .bool a.neg, .int .i64 a.r]) (.agg #[.int .i64 a.f, .int .i64 a.t, .bool a.neg, .int .i64 a.r])).run Try.prog w = .ok (.bool false) w := by
  have h1 := run_equalIn_struct (P := Try.prog) w 9999 35 #[.int .i64 a.f, .int .i64 a.t, .bool a.neg, .int .i64 a.r] #[.int .i64 a.f, .int .i64 a.t, .bool a.neg, .int .i64 a.r] (by kernel_rfl) (by kernel_rfl)
  simp only [binOp]
  simp only [Op.equal, Op.maxDepth, Sem.run_bind]
  go_simp


end Go.Proofs.Ytakdkdckhldjiaa
