/- edictlaw05.ints, equalInts, equal. -/
import Derived.Test.YtcofoddjcgmmkaaStoreLaw
namespace Go.Proofs.Ytcofoddjcgmmkaa
set_option linter.unusedSimpArgs false
set_option linter.unusedVariables false
open Go.RowKit Go.Maps

theorem ints_len (l : List Int) : (ints l).length = l.length := List.length_map ..

theorem own_isInts {w : World} {base n : Nat} {ao : Option Addr} {cap : Nat} {l : List Int} (h : w.ownsRow base 3 1 (.slice ao n cap) n (ints l)) (hI : ∀ x ∈ l, I64 x) (hz : n < 1099511627776) : IsInts w ao n l := by
  have hl : l.length = n := by have := h.1; rw [ints_len] at this; omega
  refine ⟨hl, hz, hI, fun hp => ?_⟩
  obtain ⟨ao', cap', e, _, hn, hg⟩ := own_shape6 h
  cases e
  cases ao with
  | none => exact absurd (hn rfl).1 (by omega)
  | some ad =>
  obtain ⟨g, rfl, _⟩ := hg ad rfl
  refine ⟨g, 0, rfl, fun i x hx => ?_⟩
  rw [Nat.zero_add]
  refine own_at h ?_
  rw [List.getElem?_map, hx]
  rfl

set_option maxHeartbeats 1000000 in
theorem ints_any {w : World} {ao : Option Addr} {len cap : Nat} {l : List Int} (h : IsInts w ao len l) :
    Calls Try.prog 21 #[.slice ao len cap] w fun e w' => ∃ v, e = .returned v ∧ w'.ownsRow w.heap.size 3 1 v len (ints l) ∧ Below w.heap.size w w' := by
  obtain ⟨i0, hi0, hz0, hz1, hz2⟩ := info_parts Try.infoInt5
  have HI := hide h
  have hlen := h.2.1
  clear h
  go_enter Try.func21, Try.ntmps21
  go_wp2
  go_loopw [3, 4] (fun m i wl => ∃ k : Nat, k ≤ len ∧ i = .int .i64 k ∧ Hid (wl.ownsRow w.heap.size 3 1 m k (ints (l.take k))) ∧ Hid (Below w.heap.size w wl)) (fun _ i _ => len - (intOf i).toNat)
  case atStart => exact ⟨0, by omega, rfl, World.ownsRow_nil _ _ _ _, Below.refl _ _⟩
  case round =>
    obtain ⟨k, hk, rfl, HO, HB⟩ := hrel
    by_cases hlt : k < len
    · have hi : (k : Int) < (len : Int) := by omega
      have hi1 : (0 : Int) ≤ (k : Int) := by omega
      obtain ⟨b, off, rfl, hc⟩ := HI.out.2.2.2 (by omega)
      obtain ⟨x, hx⟩ : ∃ x, l[k]? = some x := ⟨_, List.getElem?_eq_getElem (by rw [HI.out.1]; omega)⟩
      have x0 := kept_cell HB.out (hc k x hx)
      obtain ⟨oa, oc, rfl, -, -, -⟩ := own_shape6 HO.out
      have HO2 := hide (own_kept6 HO.out ((Below.refl _ _).alloc (Nat.le_refl _) (.cells #[.int .i64 x] 3)))
      have HTk : Hid (ints (l.take (k + 1)) = ints (l.take k) ++ [.int .i64 x]) := by show _ = _; rw [List.take_add_one, hx]; simp [ints]
      clear hc hx
      obtain ⟨xs, hxs⟩ : ∃ xs, ints (l.take k) = xs := ⟨_, rfl⟩
      rw [hxs] at HO2 HTk
      clear hxs
      go_wp2_with (first
        | (at_builtin; refine wpList_append_any rfl _ _ 22 rfl w.heap.size 3 i0 (.int .i64 0) 1 8 Try.underlying22 hi0 hz0 hz1 hz2 rfl (by decide) _ k xs rfl HO2.out (some ⟨wr.heap.size, 0, none⟩) 1 1 [.int .i64 x] rfl (fun h => by cases h) rfl (fun ad h => by cases h; exact World.news_of_block (cs := #[.int .i64 x]) (t := 3) (fr := (0, 0)) (heap_alloc_new wr _)) (by simp [Value.oneCell']) (by unfold maxLen; omega) (by omega) (by simp; have := HB.out.size; omega) ?_))
      intro v3 w3 hown3 hgrow
      have hB3 : Below w.heap.size w w3 := below_grown (HB.out.alloc HB.out.size _) HO2.out hgrow (by simp; have := HB.out.size; omega)
      have HO3 := hide hown3
      have HB3 := hide hB3
      clear hown3 hgrow hB3
      go_wp2
      go_roundw
      case rel => exact ⟨k + 1, by omega, by go_num, by show World.ownsRow _ _ _ _ _ _ _; rw [HTk.out]; exact HO3.out, HB3.out⟩
      case measure => simp [intOf]; omega
    · obtain rfl : k = len := by omega
      have hi : ¬ (k : Int) < (k : Int) := by omega
      have hfull : l.take k = l := List.take_of_length_le (by rw [HI.out.1]; exact Nat.le_refl _)
      rw [hfull] at HO
      go_wp2
      go_ret
      exact ⟨_, rfl, HO.out, HB.out⟩

theorem equalInts_any {w : World} {a1 a2 : Option Addr} {n1 n2 c1 c2 : Nat} {l1 l2 : List Int} (h1 : IsInts w a1 n1 l1) (h2 : IsInts w a2 n2 l2) :
    Calls Try.prog 19 #[.slice a1 n1 c1, .slice a2 n2 c2] w fun e w' => e = .returned (.bool (l1 == l2)) ∧ Below w.heap.size w w' := by
  obtain ⟨hl1, hlen1, hI1, hr1⟩ := h1
  obtain ⟨hl2, hlen2, hI2, hr2⟩ := h2
  by_cases hn : n1 = n2
  · subst hn
    have HL1 := hide hl1
    have HL2 := hide hl2
    have HR1 := hide hr1
    have HR2 := hide hr2
    clear hl1 hl2 hI1 hI2 hr1 hr2 hlen2
    go_enter Try.func19, Try.ntmps19
    go_wp2
    go_loopw [5] (fun i wr => ∃ k : Nat, k ≤ n1 ∧ i = .int .i64 k ∧ Hid (l1.take k = l2.take k) ∧ Hid (Below w.heap.size w wr)) (fun i _ => n1 - (intOf i).toNat)
    case atStart => exact ⟨0, by omega, rfl, by show l1.take 0 = l2.take 0; rfl, Below.refl _ _⟩
    case round =>
      obtain ⟨k, hk, rfl, HT, HB⟩ := hrel
      by_cases hlt : k < n1
      · have hi : (k : Int) < (n1 : Int) := by omega
        have hi0 : (0 : Int) ≤ (k : Int) := by omega
        obtain ⟨b1, o1, rfl, hc1⟩ := HR1.out (by omega)
        obtain ⟨b2, o2, rfl, hc2⟩ := HR2.out (by omega)
        obtain ⟨x, hx⟩ : ∃ x, l1[k]? = some x := ⟨_, List.getElem?_eq_getElem (by rw [HL1.out]; omega)⟩
        obtain ⟨y, hy⟩ : ∃ y, l2[k]? = some y := ⟨_, List.getElem?_eq_getElem (by rw [HL2.out]; omega)⟩
        have x0 := kept_cell HB.out (hc1 k x hx)
        have y0 := kept_cell HB.out (hc2 k y hy)
        have HX := hide hx
        have HY := hide hy
        clear hc1 hc2 hx hy
        by_cases hxy : x = y
        · subst hxy
          have hq : (x != x) = false := by simp
          go_wp2
          go_quiet (fail)
          go_wp2
          go_roundw
          case rel => exact ⟨k + 1, by omega, by go_num, by show l1.take (k + 1) = l2.take (k + 1); rw [List.take_add_one, List.take_add_one, HT.out, HX.out, HY.out], HB.out.trans (below_drewN _ _ _)⟩
          case measure => simp [intOf]; omega
        · have HE : Hid ((l1 == l2) = false) := by
            show _ = _
            simp only [beq_eq_false_iff_ne]
            intro h
            have h1 := HX.out
            rw [h, HY.out] at h1
            exact hxy (Option.some.inj h1).symm
          have hq : (x != y) = true := by simpa using hxy
          clear hxy
          go_wp2
          go_quiet (fail)
          go_wp2
          go_ret
          exact ⟨by rw [HE.out]; rfl, HB.out.trans (below_drewN _ _ _)⟩
      · obtain rfl : k = n1 := by omega
        have hi : ¬ (k : Int) < (k : Int) := by omega
        have HE : Hid ((l1 == l2) = true) := by
          show _ = _
          have := HT.out
          rw [List.take_of_length_le (by rw [HL1.out]; omega), List.take_of_length_le (by rw [HL2.out]; omega)] at this
          rw [this]
          simp
        go_wp2
        go_ret
        exact ⟨by rw [HE.out]; rfl, HB.out⟩
  · have e : (l1 == l2) = false := by
      simp only [beq_eq_false_iff_ne]
      intro h
      rw [h, hl2] at hl1
      exact hn hl1.symm
    rw [e]
    have hn1 : ¬ (n1 : Int) = (n2 : Int) := by omega
    have hn2 : ((n1 : Int) != (n2 : Int)) = true := by simpa using hn1
    clear hI1 hI2 hr1 hr2 hl1 hl2
    go_enter Try.func19, Try.ntmps19
    go_wp2
    go_ret
    exact ⟨rfl, Below.refl _ _⟩

/-- The same row? -/
def eqRw (r s : Rw) : Bool := r.1 == s.1 && r.2 == s.2
theorem eqRw_iff (r s : Rw) : eqRw r s = true ↔ r = s := by
  unfold eqRw
  simp only [Bool.and_eq_true, beq_iff_eq]
  constructor
  · rintro ⟨h1, h2⟩; exact Prod.ext h1 h2
  · rintro rfl; exact ⟨rfl, rfl⟩

set_option maxHeartbeats 1000000 in
theorem equal_any {w : World} {q1 q2 : Int} {a1 a2 : Option Addr} {n1 n2 c1 c2 : Nat} {l1 l2 : List Int} (h1 : IsInts w a1 n1 l1) (h2 : IsInts w a2 n2 l2) :
    Calls Try.prog 17 #[.agg #[.int .i64 q1, .slice a1 n1 c1], .agg #[.int .i64 q2, .slice a2 n2 c2]] w fun e w' => e = .returned (.bool (eqRw (q1, l1) (q2, l2))) ∧ Below w.heap.size w w' := by
  have HB : Hid (Below w.heap.size w ((w.alloc (.cells #[.int .i64 q1, .slice a1 n1 c1] 31)).alloc (.cells #[.int .i64 q2, .slice a2 n2 c2] 31))) := ((Below.refl _ w).alloc (Nat.le_refl _) _).alloc (by simp) _
  have HE := hide (equalInts_any (c1 := c1) (c2 := c2) (h1.kept HB.out) (h2.kept HB.out))
  clear h1 h2
  by_cases hq : q1 = q2
  · have hq2 : (q1 == q2) = true := by simpa using hq
    have HR : Hid (eqRw (q1, l1) (q2, l2) = (l1 == l2)) := by show _ = _; simp [eqRw, hq]
    clear hq
    go_enter Try.func17, Try.ntmps17
    go_wp2_with (go_at_call 19; refine HE.out.mono ?_; rintro e w2 ⟨rfl, hb2⟩; have HB2 := hide (HB.out.trans (hb2.mono HB.out.size)); clear hb2)
    go_ret
    exact ⟨by rw [HR.out]; rfl, HB2.out⟩
  · have hq2 : (q1 == q2) = false := by simpa using hq
    have HR : Hid (eqRw (q1, l1) (q2, l2) = false) := by show _ = _; simp [eqRw, hq2]
    clear hq
    go_enter Try.func17, Try.ntmps17
    go_wp2
    go_ret
    exact ⟨by rw [HR.out]; rfl, HB.out⟩
end Go.Proofs.Ytcofoddjcgmmkaa
