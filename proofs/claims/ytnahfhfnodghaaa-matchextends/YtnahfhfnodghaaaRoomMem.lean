/- Rows of one's own read as lists; edictlaw06.roomy, sameInts, untouched. -/
import Derived.Test.YtnahfhfnodghaaaSlotMem
import Derived.Test.YtnahfhfnodghaaaAppendAny
import Derived.Deep.RegionHeld3
namespace Go.Proofs.Ytnahfhfnodghaaa
set_option linter.unusedSimpArgs false
set_option linter.unusedVariables false
open Go.RowKit

def numsV (l : List Int) : List Value := l.map (.int .i64 ·)
theorem numsV_len (l : List Int) : (numsV l).length = l.length := List.length_map ..
theorem numsV_append (l m : List Int) : numsV (l ++ m) = numsV l ++ numsV m := List.map_append ..
theorem numsV_one (l : List Int) : ∀ u ∈ numsV l, u.oneCell' = true := fun v hv => by obtain ⟨x, _, rfl⟩ := List.mem_map.1 hv; rfl

theorem Try.infoInt6 : (Try.prog.info? 3).map (fun i => (i.zero, i.size, i.bytes)) = some (some (.int .i64 0), 1, 8) := by kernel_rfl

theorem own_nums {w : World} {base n : Nat} {ao : Option Addr} {cap : Nat} {l : List Int} (h : w.ownsRow base 3 1 (.slice ao n cap) n (numsV l)) (hI : ∀ x ∈ l, I64 x) (hz : n * 8 ≤ 140737488355328) : IsNums w ao n l := by
  have hl : l.length = n := by have := h.1; rw [numsV_len] at this; omega
  refine ⟨hl, hz, hI, fun hp => ?_⟩
  obtain ⟨ao', cap', e, _, hn, hg⟩ := own_shape6 h
  cases e
  cases ao with
  | none => exact absurd (hn rfl).1 (by omega)
  | some ad =>
  obtain ⟨g, rfl, _⟩ := hg ad rfl
  refine ⟨g, 0, rfl, fun i x hx => ?_⟩
  rw [Nat.zero_add]
  refine own_at h ?_
  unfold numsV
  rw [List.getElem?_map, hx]
  rfl

/-- A list with one more number, -99, in its spare room, all of it new. -/
def Room (w : World) (base : Nat) (v : Value) (l : List Int) : Prop :=
  ∃ g cap, v = .slice (some ⟨g, 0, none⟩) l.length cap ∧ l.length + 1 ≤ cap ∧ base ≤ g ∧ ∀ i x, (l ++ [-99])[i]? = some x → w.cell? ⟨g, i, none⟩ = some (.int .i64 x)

theorem Room.kept {w w' : World} {base : Nat} {v : Value} {l : List Int} (h : Room w base v l) (hb : Below w.heap.size w w') : Room w' base v l := by
  obtain ⟨g, cap, h1, h2, h3, h4⟩ := h
  exact ⟨g, cap, h1, h2, h3, fun i x hx => kept_cell hb (h4 i x hx)⟩

theorem room_of_own {w : World} {base g n cap : Nat} {l : List Int} (hl : l.length = n) (h : w.ownsRow base 3 1 (.slice (some ⟨g, 0, none⟩) (n + 1) cap) (n + 1) (numsV l ++ [.int .i64 (-99)])) : Room w base (.slice (some ⟨g, 0, none⟩) n cap) l := by
  subst hl
  obtain ⟨ao, cap', e, h1, _, h2⟩ := own_shape6 h
  cases e
  obtain ⟨g', e2, hg⟩ := h2 _ rfl
  cases e2
  refine ⟨g, cap, rfl, h1, hg, fun i x hx => own_at h ?_⟩
  rw [show numsV l ++ [.int .i64 (-99)] = numsV (l ++ [-99]) from by rw [numsV_append]; rfl]
  unfold numsV
  rw [List.getElem?_map, hx]
  rfl

theorem nums_src {w : World} {ao : Option Addr} {len : Nat} {l : List Int} (h : IsNums w ao len l) : ∀ ad, ao = some ad → ∀ j u, (numsV l)[j]? = some u → w.cell? (ad.add j) = some u := by
  intro ad had j u hu
  unfold numsV at hu
  rw [List.getElem?_map] at hu
  cases hj : l[j]? with
  | none => rw [hj] at hu; simp at hu
  | some x =>
    rw [hj] at hu
    simp only [Option.map_some, Option.some.injEq] at hu
    subst hu
    have hlt := (List.getElem?_eq_some_iff.1 hj).1
    obtain ⟨b, off, e, hc⟩ := h.2.2.2 (by have := h.1; omega)
    rw [had] at e
    cases e
    rw [addr_add]
    exact hc j x hj

set_option maxRecDepth 100000 in
set_option maxHeartbeats 1000000 in
theorem roomy_any {w : World} {ao : Option Addr} {len cap : Nat} {l : List Int} (h : IsNums w ao len l) (hn : ao = none → len = 0 ∧ cap = 0) (hz : len * 8 ≤ 140737488351232) :
    Calls Try.prog 7 #[.slice ao len cap] w fun e w' => ∃ v, e = .returned v ∧ Room w' w.heap.size v l ∧ Below w.heap.size w w' := by
  obtain ⟨i0, hi0, hz0, hz1, hz2⟩ := info_parts Try.infoInt6
  have H2 := hide (nums_src h)
  have HL := hide h.1
  have HN := hide hn
  clear h hn
  go_enter Try.func7, Try.ntmps7
  go_wp2_with (first
    | (at_builtin; refine wpList_append_any rfl _ _ 25 rfl w.heap.size 3 i0 (.int .i64 0) 1 8 Try.underlying25 hi0 hz0 hz1 hz2 rfl (by decide) _ 0 [] rfl (World.ownsRow_nil _ _ _ _) ao len cap (numsV l) rfl HN.out (by rw [numsV_len, HL.out]; omega) H2.out (numsV_one l) (by unfold maxLen; omega) (by omega) (Nat.le_refl _) ?_))
  intro v1 w1 hown1 hgrow
  have hB1 : Below w.heap.size w w1 := below_grown (Below.refl _ _) (World.ownsRow_nil w w.heap.size 3 1) hgrow (Nat.le_refl _)
  obtain ⟨a1, c1, rfl, _, _, _⟩ := own_shape6 hown1
  have H3 : Hid ((w1.alloc (.cells #[.int .i64 (-99)] 3)).ownsRow w.heap.size 3 1 (.slice a1 len c1) len (numsV l)) := own_kept6 hown1 ((Below.refl _ _).alloc (Nat.le_refl _) _)
  have H0 := hide hB1
  have H4 : Hid (w.heap.size ≤ w1.heap.size) := hB1.size
  clear hown1 hgrow hB1
  go_wp2_with (first
    | (at_builtin; refine wpList_append_any rfl _ _ 25 rfl w.heap.size 3 i0 (.int .i64 0) 1 8 Try.underlying25 hi0 hz0 hz1 hz2 rfl (by decide) _ len (numsV l) rfl H3.out (some ⟨w1.heap.size, 0, none⟩) 1 1 [.int .i64 (-99)] rfl (fun h => by cases h) rfl (fun ad h => by cases h; exact World.news_of_block (cs := #[.int .i64 (-99)]) (t := 3) (fr := (0, 0)) (heap_alloc_new w1 _)) (by simp [Value.oneCell']) (by unfold maxLen; omega) (by omega) (by simp; have := H4.out; omega) ?_))
  intro v2 w2 hown2 hgrow
  have hB2 : Below w.heap.size w w2 := below_grown (H0.out.alloc H0.out.size _) H3.out hgrow (by simp; have := H4.out; omega)
  obtain ⟨a2, cap2, rfl, hcap, hnn, hg⟩ := own_shape6 hown2
  obtain ⟨g2, rfl⟩ : ∃ g, a2 = some ⟨g, 0, none⟩ := by
    cases a2 with
    | none => exact absurd (hnn rfl).1 (by omega)
    | some ad => obtain ⟨g, rfl, _⟩ := hg ad rfl; exact ⟨g, rfl⟩
  have HR : Hid (Room w2 w.heap.size (.slice (some ⟨g2, 0, none⟩) len cap2) l) := room_of_own HL.out hown2
  have HB := hide hB2
  have hc1 : len ≤ cap2 := by omega
  have hc2 : ((len : Nat) : Int) ≤ ((cap2 : Nat) : Int) := by omega
  clear hown2 hgrow hB2 hcap H3 H4 hnn hg
  go_wp2
  go_ret
  exact ⟨_, rfl, HR.out, HB.out⟩

theorem sameInts_any {w : World} {a1 a2 : Option Addr} {n1 n2 c1 c2 : Nat} {l1 l2 : List Int} (h1 : IsNums w a1 n1 l1) (h2 : IsNums w a2 n2 l2) :
    Calls Try.prog 11 #[.slice a1 n1 c1, .slice a2 n2 c2] w fun e w' => e = .returned (.bool (l1 == l2)) ∧ Below w.heap.size w w' := by
  obtain ⟨hl1, hlen1, hI1, hr1⟩ := h1
  obtain ⟨hl2, hlen2, hI2, hr2⟩ := h2
  by_cases hn : n1 = n2
  · subst hn
    have HL1 := hide hl1
    have HL2 := hide hl2
    have HR1 := hide hr1
    have HR2 := hide hr2
    clear hl1 hl2 hI1 hI2 hr1 hr2 hlen2
    go_enter Try.func11, Try.ntmps11
    go_wp2
    go_loopw [5, 13] (fun _ i wr => ∃ k : Nat, k ≤ n1 ∧ i = .int .i64 k ∧ Hid (l1.take k = l2.take k) ∧ Hid (Below w.heap.size w wr)) (fun _ i _ => n1 - (intOf i).toNat)
    case atStart => exact ⟨0, by omega, rfl, by show l1.take 0 = l2.take 0; rfl, Below.refl _ _⟩
    case round =>
      obtain ⟨k, hk, rfl, HT, HB⟩ := hrel
      by_cases hlt : k < n1
      · have hi : (k : Int) < (n1 : Int) := by omega
        have hi0 : (0 : Int) ≤ (k : Int) := by omega
        obtain ⟨b1, o1, rfl, hc1⟩ := HR1.out (by omega)
        obtain ⟨b2, o2, rfl, hc2⟩ := HR2.out (by omega)
        obtain ⟨x, hx⟩ : ∃ x, l1[k]? = some x := ⟨_, List.getElem?_eq_getElem (by rw [HL1.out]; omega)⟩
        obtain ⟨y, hy⟩ : ∃ y, l2[k]? = some y := ⟨_, List.getElem?_eq_getElem (by rw [HL2.out]; omega)⟩
        have x0 := kept_cell HB.out (hc1 k x hx)
        have y0 := kept_cell HB.out (hc2 k y hy)
        have HX := hide hx
        have HY := hide hy
        clear hc1 hc2 hx hy
        by_cases hxy : x = y
        · subst hxy
          have hq : (x != x) = false := by simp
          have HB2 : Hid (Below w.heap.size w wr.drew) := HB.out.drew
          go_wp2
          go_quiet (fail)
          go_wp2
          go_roundw
          case rel => exact ⟨k + 1, by omega, by go_num, by show l1.take (k + 1) = l2.take (k + 1); rw [List.take_add_one, List.take_add_one, HT.out, HX.out, HY.out], HB.out.trans (below_drewN _ _ _)⟩
          case measure => simp [intOf]; omega
        · have e : (l1 == l2) = false := by
            simp only [beq_eq_false_iff_ne]
            intro h
            have h1 := HX.out
            rw [h, HY.out] at h1
            exact hxy (Option.some.inj h1).symm
          have HE := hide e
          have hq : (x != y) = true := by simpa using hxy
          clear hxy e
          go_wp2
          go_quiet (fail)
          go_wp2
          go_ret
          exact ⟨by rw [HE.out]; rfl, HB.out.trans (below_drewN _ _ _)⟩
      · obtain rfl : k = n1 := by omega
        have hi : ¬ (k : Int) < (k : Int) := by omega
        have e : (l1 == l2) = true := by
          have := HT.out
          rw [List.take_of_length_le (by rw [HL1.out]; omega), List.take_of_length_le (by rw [HL2.out]; omega)] at this
          rw [this]
          simp
        have HE := hide e
        clear e
        go_wp2
        go_ret
        exact ⟨by rw [HE.out]; rfl, HB.out⟩
  · have e : (l1 == l2) = false := by
      simp only [beq_eq_false_iff_ne]
      intro h
      rw [h, hl2] at hl1
      exact hn hl1.symm
    rw [e]
    have hn1 : ¬ (n1 : Int) = (n2 : Int) := by omega
    have hn2 : ((n1 : Int) != (n2 : Int)) = true := by simpa using hn1
    clear hI1 hI2 hr1 hr2 hl1 hl2
    go_enter Try.func11, Try.ntmps11
    go_wp2
    go_ret
    exact ⟨rfl, Below.refl _ _⟩

theorem Room.nums {w : World} {base : Nat} {v : Value} {l : List Int} (h : Room w base v l) (hI : ∀ x ∈ l, I64 x) (hz : l.length * 8 ≤ 140737488355328) : ∃ g cap, v = .slice (some ⟨g, 0, none⟩) l.length cap ∧ l.length + 1 ≤ cap ∧ IsNums w (some ⟨g, 0, none⟩) l.length l ∧ w.cell? ⟨g, l.length, none⟩ = some (.int .i64 (-99)) := by
  obtain ⟨g, cap, rfl, h1, h2, h3⟩ := h
  refine ⟨g, cap, rfl, h1, ⟨rfl, hz, hI, fun _ => ⟨g, 0, rfl, fun i x hx => ?_⟩⟩, h3 _ _ (by simp)⟩
  rw [Nat.zero_add]
  exact h3 i x (by rw [List.getElem?_append_left (List.getElem?_eq_some_iff.1 hx).1]; exact hx)

theorem untouched_any {w : World} {base : Nat} {v : Value} {ao : Option Addr} {len cap : Nat} {l : List Int} (hr : Room w base v l) (h : IsNums w ao len l) :
    Calls Try.prog 12 #[v, .slice ao len cap] w fun e w' => e = .returned (.bool true) ∧ Below w.heap.size w w' := by
  obtain ⟨g, c1, rfl, hc, hn, hm⟩ := hr.nums h.2.2.1 (by rw [h.1]; exact h.2.1)
  have HS := hide (sameInts_any (c1 := c1) (c2 := cap) hn h)
  simp only [beq_self_eq_true] at HS
  have hl := h.1
  have hlen := h.2.1
  clear h hn hr
  rw [hl] at HS hc hm ⊢
  clear hl
  have k1 : (len : Int) + 1 ≤ (c1 : Int) := by omega
  go_enter Try.func12, Try.ntmps12
  go_wp2_with (go_at_call 11; refine HS.out.mono ?_; rintro e w1 ⟨rfl, hb⟩; have m0 := kept_cell hb hm; have HB := hide hb; clear hb)
  go_ret
  exact ⟨rfl, HB.out⟩
end Go.Proofs.Ytnahfhfnodghaaa
