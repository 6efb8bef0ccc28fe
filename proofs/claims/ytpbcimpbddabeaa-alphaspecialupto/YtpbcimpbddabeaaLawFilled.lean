/- The law's filled and same. -/
import Derived.Test.YtpbcimpbddabeaaAlphaSame
import Derived.Test.YtpbcimpbddabeaaPatPure
import Derived.Test.YtpbcimpbddabeaaShapesOf
namespace Go.Proofs.Ytpbcimpbddabeaa
set_option linter.unusedSimpArgs false
set_option linter.unusedVariables false
open Go.RowKit

theorem bits_i64 (op : BinOp) (a b : Int) : I64 (bits op .i64 a b) := by
  have h : ∃ n, bits op .i64 a b = IntKind.i64.wrap n := by
    unfold bits
    exact ⟨_, rfl⟩
  obtain ⟨n, hn⟩ := h
  rw [hn, IntKind.wrap_i64]
  exact ⟨by omega, by omega⟩
/-- The number in place of a variable. -/
def fillN (x n : Int) : Int := bits .and .i64 (bits .xor .i64 n x) 65535

set_option maxRecDepth 100000 in
set_option maxHeartbeats 2000000 in
theorem filled_any {w : World} {q x : Int} {v : Value} {ss : List Slo} (h : Has elSlo w v ss) :
    Calls Try.prog 12 #[.agg #[.int .i64 q, v], .int .i64 x] w fun e w' => ∃ u, e = .returned u ∧ Grow elInt 3 w.heap.size w' u (ss.map (valS (fillN x))) ∧ Below w.heap.size w w' := by
  obtain ⟨i0, hi0', hz0, hz1, hz2⟩ := info_parts Try.infoInt10
  obtain ⟨va, vc, rfl, -, -, hlen⟩ := h.shape
  have HB0 := hide (belo1 w (.cells #[.int .i64 q, .slice va ss.length vc] 24))
  have hb1 : (w.alloc (.cells #[.int .i64 q, .slice va ss.length vc] 24)).cell? ⟨w.heap.size, 1, none⟩ = some (.slice va ss.length vc) := new_cells (cs := #[.int .i64 q, .slice va ss.length vc]) 1 _ rfl
  have HL := hide (h.kept HB0.out)
  clear h
  obtain ⟨W, hW⟩ : ∃ W, W = w.alloc (.cells #[.int .i64 q, .slice va ss.length vc] 24) := ⟨_, rfl⟩
  go_enter Try.func12, Try.ntmps12
  go_wp2
  rw [← hW] at HB0 HL hb1 ⊢
  clear hW
  go_loopw [5, 6] (fun m i wl => ∃ k : Nat, k ≤ ss.length ∧ i = .int .i64 k ∧ Hid (Grow elInt 3 W.heap.size wl m ((ss.take k).map (valS (fillN x)))) ∧ Hid (Below W.heap.size W wl)) (fun _ i _ => ss.length - (intOf i).toNat)
  case atStart => exact ⟨0, by omega, rfl, Grow.nil _ _ _ _, Below.refl _ _⟩
  case round =>
    obtain ⟨k, hk, rfl, HG, HB⟩ := hrel
    have yb := kept_cell HB.out hb1
    have HLn : Hid (((ss.take k).map (valS (fillN x))).length = k) := by show _ = _; rw [List.length_map, List.length_take]; omega
    obtain ⟨oa, oc, hsh, -, -⟩ := HG.out.shape
    rw [HLn.out] at hsh
    subst hsh
    by_cases hlt : k < ss.length
    · have hi : (k : Int) < (ss.length : Int) := by omega
      have hi0 : (0 : Int) ≤ (k : Int) := by omega
      obtain ⟨b, off, rfl, -, -, hrow⟩ := HL.out.row (by omega)
      obtain ⟨s, hs⟩ : ∃ s, ss[k]? = some s := ⟨_, List.getElem?_eq_getElem hlt⟩
      have y0 := kept_cell HB.out (hrow k s hs 0 _ rfl)
      have y1 := kept_cell HB.out (hrow k s hs 1 _ rfl)
      simp only [elSlo, Nat.add_zero] at y0 y1
      have hsn : I64 s.n := HL.out.ok (List.mem_of_getElem? hs)
      have HTk : Hid ((ss.take (k + 1)).map (valS (fillN x)) = (ss.take k).map (valS (fillN x)) ++ [valS (fillN x) s]) := by show _ = _; rw [List.take_add_one, hs, List.map_append]; rfl
      obtain ⟨L, hL⟩ : ∃ L, (ss.take k).map (valS (fillN x)) = L := ⟨_, rfl⟩
      rw [hL] at HG HLn HTk
      clear hrow hs hL
      cases hv : s.v with
      | true =>
        rw [hv] at y0
        have HEq : Hid (valS (fillN x) s = fillN x s.n) := valS_var hv
        have hfi : I64 (fillN x s.n) := bits_i64 _ _ _
        have hfd : bits BinOp.and IntKind.i64 (bits BinOp.xor IntKind.i64 s.n x) 65535 = fillN x s.n := rfl
        obtain ⟨r, hr⟩ : ∃ r, fillN x s.n = r := ⟨_, rfl⟩
        rw [hr] at HEq hfi hfd
        clear hr
        have HG2 := hide (HG.out.kept (belo1 wr (.cells #[.int .i64 r] 3)))
        have HB2 := hide (HB.out.alloc HB.out.size (.cells #[.int .i64 r] 3))
        go_wp2_with (at_builtin; refine wpList_push (w0 := W) elInt rfl _ _ 25 rfl W.heap.size 3 i0 _ 8 Try.underlying25 hi0' hz0 hz1 hz2 rfl (by decide) _ L k HLn.out rfl HG2.out r wr.heap.size 1 rfl (fun j u hu => new_cells j u hu) hfi (by omega) HB2.out HB2.out.size ?_)
        intro g cap' w1 HG1 HB1 HGr
        clear HGr
        go_wp2
        go_roundw
        case rel => exact ⟨k + 1, by omega, by go_num, by rw [HTk.out, HEq.out]; exact HG1, HB1⟩
        case measure => simp [intOf]; omega
      | false =>
        rw [hv] at y0
        have HEq : Hid (valS (fillN x) s = s.n) := valS_con hv
        have HG2 := hide (HG.out.kept (belo1 wr (.cells #[.int .i64 s.n] 3)))
        have HB2 := hide (HB.out.alloc HB.out.size (.cells #[.int .i64 s.n] 3))
        go_wp2_with (at_builtin; refine wpList_push (w0 := W) elInt rfl _ _ 25 rfl W.heap.size 3 i0 _ 8 Try.underlying25 hi0' hz0 hz1 hz2 rfl (by decide) _ L k HLn.out rfl HG2.out s.n wr.heap.size 1 rfl (fun j u hu => new_cells j u hu) hsn (by omega) HB2.out HB2.out.size ?_)
        intro g cap' w1 HG1 HB1 HGr
        clear HGr
        go_wp2
        go_roundw
        case rel => exact ⟨k + 1, by omega, by go_num, by rw [HTk.out, HEq.out]; exact HG1, HB1⟩
        case measure => simp [intOf]; omega
    · obtain rfl : k = ss.length := by omega
      have hi : ¬ (ss.length : Int) < (ss.length : Int) := by omega
      rw [List.take_of_length_le (Nat.le_refl _)] at HG
      go_wp2
      go_ret
      exact ⟨_, rfl, HG.out.mono HB0.out.size, belot HB0.out HB.out⟩

set_option maxHeartbeats 1000000 in
theorem lsame_any {w : World} {q p : Int} {u v : Value} {l m : List Int} (h1 : Has elInt w u l) (h2 : Has elInt w v m) :
    Calls Try.prog 22 #[.agg #[.int .i64 q, u], .agg #[.int .i64 p, v]] w fun e w' => e = .returned (.bool (decide (q = p ∧ l = m))) ∧ Below w.heap.size w w' := by
  obtain ⟨va, vc, rfl, -, -, hlen⟩ := h1.shape
  obtain ⟨ua, uc, rfl, -, -, hlen2⟩ := h2.shape
  have HB0 : Hid (Below w.heap.size w ((w.alloc (.cells #[.int .i64 q, .slice va l.length vc] 32)).alloc (.cells #[.int .i64 p, .slice ua m.length uc] 32))) := belot (belo1 w _) (belo1 _ _)
  have HC := hide (ints_any (h1.kept HB0.out) (h2.kept HB0.out))
  clear h1 h2
  obtain ⟨r, hr⟩ : ∃ r, decide (q = p ∧ l = m) = r := ⟨_, rfl⟩
  rw [hr]
  obtain ⟨t, ht⟩ : ∃ t, decide (l = m) = t := ⟨_, rfl⟩
  rw [ht] at HC
  by_cases hqp : q = p
  · subst hqp
    have HR : Hid (r = t) := by show _ = _; rw [← hr, ← ht]; simp
    clear hr ht
    go_enter Try.func22, Try.ntmps22
    go_wp2_with (go_at_call 16; refine HC.out.mono ?_; rintro e w2 ⟨rfl, h2⟩; have HB2 := hide (belot HB0.out h2); clear h2)
    go_ret
    exact ⟨by rw [HR.out]; rfl, HB2.out⟩
  · have HN : Hid (r = false) := by
      show _ = _
      rw [← hr, decide_eq_false_iff_not]
      exact fun h => hqp h.1
    clear hr ht
    have hq1 : (q == p) = false := by simp [hqp]
    go_enter Try.func22, Try.ntmps22
    go_wp2
    go_ret
    exact ⟨by rw [HN.out]; rfl, HB0.out⟩
end Go.Proofs.Ytpbcimpbddabeaa
