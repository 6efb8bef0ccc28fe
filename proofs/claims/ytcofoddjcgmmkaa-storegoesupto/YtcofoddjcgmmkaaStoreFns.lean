/- What store's small functions answer: noArity, noId, ContainsFunc with them, Clone, Len. -/
import Derived.Test.YtcofoddjcgmmkaaProg
import Derived.Test.YtcofoddjcgmmkaaStoreKeys
import Derived.WalkSpells
import Derived.Deep.DeepCutAuto
import Derived.Deep.AppendLies
import Derived.WalkLawsBesides
import Derived.Laws.Cover3
namespace Go.Proofs.Ytcofoddjcgmmkaa
set_option linter.unusedSimpArgs false
set_option linter.unusedVariables false
open Go.RowKit Go.Maps

/-- A slice of numbers that can be read. -/
def IsInts (w : World) (ao : Option Addr) (len : Nat) (l : List Int) : Prop :=
  l.length = len ∧ len < 1099511627776 ∧ (∀ x ∈ l, I64 x) ∧ (0 < len → ∃ b off, ao = some ⟨b, off, none⟩ ∧ ∀ i x, l[i]? = some x → w.cell? ⟨b, off + i, none⟩ = some (.int .i64 x))

theorem IsInts.kept {w w' : World} {ao : Option Addr} {len : Nat} {l : List Int} (h : IsInts w ao len l) (hb : Below w.heap.size w w') : IsInts w' ao len l :=
  ⟨h.1, h.2.1, h.2.2.1, fun hp => by obtain ⟨b, off, e, hc⟩ := h.2.2.2 hp; exact ⟨b, off, e, fun i x hi => kept_cell hb (hc i x hi)⟩⟩

def badAr (x : Int) : Bool := decide (x < 0) || decide (8 < x)
def badId (x : Int) : Bool := decide (x < 0)

theorem noArity_any (x : Int) (w : World) (hx : I64 x) : Calls Try.prog 40 #[.int .i64 x] w fun e w' => e = .returned (.bool (badAr x)) ∧ w' = w := by
  have hx1 := hx.1
  have hx2 := hx.2
  unfold badAr
  by_cases h : x < 0
  · go_enter Try.func40, Try.ntmps40
    go_wp2
    go_ret
    simp [h]
  · by_cases h2 : 8 < x
    · go_enter Try.func40, Try.ntmps40
      go_wp2
      go_ret
      simp [h, h2]
    · go_enter Try.func40, Try.ntmps40
      go_wp2
      go_ret
      simp [h, h2]

theorem noId_any (x : Int) (w : World) : Calls Try.prog 42 #[.int .i64 x] w fun e w' => e = .returned (.bool (badId x)) ∧ w' = w := by
  unfold badId
  by_cases h : x < 0
  · go_enter Try.func42, Try.ntmps42
    go_wp2
    go_ret
    simp [h]
  · go_enter Try.func42, Try.ntmps42
    go_wp2
    go_ret
    simp [h]

theorem any_take_succ {l : List Int} {f : Int → Bool} {k : Nat} {x : Int} (hx : l[k]? = some x) : (l.take (k + 1)).any f = ((l.take k).any f || f x) := by
  have hk : k < l.length := (List.getElem?_eq_some_iff.1 hx).1
  have e : l[k] = x := by rw [List.getElem?_eq_getElem hk] at hx; exact Option.some.inj hx
  rw [List.take_succ_eq_append_getElem hk, List.any_append, e]
  simp

theorem any_of_at {l : List Int} {f : Int → Bool} {k : Nat} {x : Int} (hx : l[k]? = some x) (hf : f x = true) : l.any f = true := List.any_eq_true.2 ⟨x, List.mem_of_getElem? hx, hf⟩

theorem idx_ar {w : World} {ao : Option Addr} {len cap : Nat} {l : List Int} (h : IsInts w ao len l) :
    Calls Try.prog 48 #[.slice ao len cap, .func (.func 40) #[] #[]] w fun e w' => (∃ r : Int, e = .returned (.int .i64 r) ∧ decide (0 ≤ r) = l.any badAr) ∧ w' = w := by
  obtain ⟨hl, hlen, hI, hrow⟩ := h
  have HL := hide hl
  have HI := hide hI
  have HR := hide hrow
  clear hl hI hrow
  go_enter Try.func48, Try.ntmps48
  go_wp2
  go_loopw [5, 8] (fun _ i wr => ∃ k : Nat, k ≤ len ∧ i = .int .i64 k ∧ wr = w ∧ Hid ((l.take k).any badAr = false)) (fun _ i _ => len - (intOf i).toNat)
  case atStart => exact ⟨0, by omega, rfl, rfl, by show (l.take 0).any badAr = false; simp⟩
  case round =>
    obtain ⟨k, hk, rfl, rfl, HA⟩ := hrel
    by_cases hlt : k < len
    · have hi : (k : Int) < (len : Int) := by omega
      obtain ⟨b, off, rfl, hc⟩ := HR.out (by omega)
      obtain ⟨x, hx⟩ : ∃ x, l[k]? = some x := ⟨_, List.getElem?_eq_getElem (by rw [HL.out]; omega)⟩
      have ck := hc k x hx
      have HX := hide hx
      have hix := HI.out x (List.mem_of_getElem? hx)
      clear hc hx
      have hf := noArity_any x wr hix
      cases hb : badAr x with
      | true =>
        rw [hb] at hf
        go_wp2_with (go_at_call 40; refine hf.mono ?_; rintro e w2 ⟨rfl, hw⟩; have hw := hw.symm; subst hw)
        go_ret
        exact ⟨⟨k, rfl, by rw [any_of_at HX.out hb]; simp⟩, rfl⟩
      | false =>
        rw [hb] at hf
        go_wp2_with (go_at_call 40; refine hf.mono ?_; rintro e w2 ⟨rfl, hw⟩; have hw := hw.symm; subst hw)
        go_roundw
        case rel => exact ⟨k + 1, by omega, by go_num, trivial, by show (l.take (k + 1)).any badAr = false; rw [any_take_succ HX.out, HA.out, hb]; rfl⟩
        case measure => simp [intOf]; omega
    · obtain rfl : k = len := by omega
      have hi : ¬ (k : Int) < (k : Int) := by omega
      go_wp2
      go_ret
      have ha := HA.out
      rw [← HL.out, List.take_length] at ha
      exact ⟨⟨-1, rfl, by rw [ha]; rfl⟩, rfl⟩

theorem contains_ar {w : World} {ao : Option Addr} {len cap : Nat} {l : List Int} (h : IsInts w ao len l) :
    Calls Try.prog 39 #[.slice ao len cap, .func (.func 40) #[] #[]] w fun e w' => e = .returned (.bool (l.any badAr)) ∧ w' = w := by
  have hx := idx_ar (cap := cap) h
  clear h
  go_enter Try.func39, Try.ntmps39
  go_wp2_with (go_at_call 48; refine hx.mono ?_; rintro e w2 ⟨⟨r, rfl, hr⟩, hw⟩; have hw := hw.symm; subst hw; revert hr)
  intro hr
  have HR := hide hr
  clear hr
  by_cases h0 : 0 ≤ r
  · go_wp2
    go_ret
    rw [← HR.out]
    simp [h0]
  · go_wp2
    go_ret
    rw [← HR.out]
    simp [h0]

theorem idx_id {w : World} {ao : Option Addr} {len cap : Nat} {l : List Int} (h : IsInts w ao len l) :
    Calls Try.prog 48 #[.slice ao len cap, .func (.func 42) #[] #[]] w fun e w' => (∃ r : Int, e = .returned (.int .i64 r) ∧ decide (0 ≤ r) = l.any badId) ∧ w' = w := by
  obtain ⟨hl, hlen, hI, hrow⟩ := h
  have HL := hide hl
  have HI := hide hI
  have HR := hide hrow
  clear hl hI hrow
  go_enter Try.func48, Try.ntmps48
  go_wp2
  go_loopw [5, 8] (fun _ i wr => ∃ k : Nat, k ≤ len ∧ i = .int .i64 k ∧ wr = w ∧ Hid ((l.take k).any badId = false)) (fun _ i _ => len - (intOf i).toNat)
  case atStart => exact ⟨0, by omega, rfl, rfl, by show (l.take 0).any badId = false; simp⟩
  case round =>
    obtain ⟨k, hk, rfl, rfl, HA⟩ := hrel
    by_cases hlt : k < len
    · have hi : (k : Int) < (len : Int) := by omega
      obtain ⟨b, off, rfl, hc⟩ := HR.out (by omega)
      obtain ⟨x, hx⟩ : ∃ x, l[k]? = some x := ⟨_, List.getElem?_eq_getElem (by rw [HL.out]; omega)⟩
      have ck := hc k x hx
      have HX := hide hx
      have hix := HI.out x (List.mem_of_getElem? hx)
      clear hc hx
      have hf := noId_any x wr
      cases hb : badId x with
      | true =>
        rw [hb] at hf
        go_wp2_with (go_at_call 42; refine hf.mono ?_; rintro e w2 ⟨rfl, hw⟩; have hw := hw.symm; subst hw)
        go_ret
        exact ⟨⟨k, rfl, by rw [any_of_at HX.out hb]; simp⟩, rfl⟩
      | false =>
        rw [hb] at hf
        go_wp2_with (go_at_call 42; refine hf.mono ?_; rintro e w2 ⟨rfl, hw⟩; have hw := hw.symm; subst hw)
        go_roundw
        case rel => exact ⟨k + 1, by omega, by go_num, trivial, by show (l.take (k + 1)).any badId = false; rw [any_take_succ HX.out, HA.out, hb]; rfl⟩
        case measure => simp [intOf]; omega
    · obtain rfl : k = len := by omega
      have hi : ¬ (k : Int) < (k : Int) := by omega
      go_wp2
      go_ret
      have ha := HA.out
      rw [← HL.out, List.take_length] at ha
      exact ⟨⟨-1, rfl, by rw [ha]; rfl⟩, rfl⟩

theorem contains_id {w : World} {ao : Option Addr} {len cap : Nat} {l : List Int} (h : IsInts w ao len l) :
    Calls Try.prog 39 #[.slice ao len cap, .func (.func 42) #[] #[]] w fun e w' => e = .returned (.bool (l.any badId)) ∧ w' = w := by
  have hx := idx_id (cap := cap) h
  clear h
  go_enter Try.func39, Try.ntmps39
  go_wp2_with (go_at_call 48; refine hx.mono ?_; rintro e w2 ⟨⟨r, rfl, hr⟩, hw⟩; have hw := hw.symm; subst hw; revert hr)
  intro hr
  have HR := hide hr
  clear hr
  by_cases h0 : 0 ≤ r
  · go_wp2
    go_ret
    rw [← HR.out]
    simp [h0]
  · go_wp2
    go_ret
    rw [← HR.out]
    simp [h0]

theorem hold_goal {p : Prop} (h : Hid p) : p := h

theorem eqlNil (W : World) (a : Option Addr) (l c : Nat) : (binOp .eql 22 (.slice a l c) (.slice none 0 0)).run Try.prog W = .ok (.bool a.isNone) W := by
  simp only [binOp]
  simp [run_equal_slice_nil W _ _ a l c Try.underlying22]

theorem clone_nil (w : World) : Calls Try.prog 38 #[.slice none 0 0] w fun e w' => e = .returned (.slice none 0 0) ∧ w' = w := by
  have hn : (binOp .eql 22 (.slice none 0 0) (.slice none 0 0)).run Try.prog w = .ok (.bool true) w := eqlNil w none 0 0
  go_enter Try.func38, Try.ntmps38
  go_wp2
  go_ret
  exact ⟨rfl, rfl⟩

theorem Try.infoInt2 : (Try.prog.info? 3).map (fun i => (i.zero, i.size, i.bytes)) = some (some (.int .i64 0), 1, 8) := by kernel_rfl

theorem clone_zero (w : World) (a : Addr) (cap : Nat) : Calls Try.prog 38 #[.slice (some a) 0 cap] w fun e w' => ∃ ao' cap', e = .returned (.slice ao' 0 cap') ∧ Below w.heap.size w w' := by
  have hn : (binOp .eql 22 (.slice (some a) 0 cap) (.slice none 0 0)).run Try.prog w = .ok (.bool false) w := eqlNil w (some a) 0 cap
  go_enter Try.func38, Try.ntmps38
  go_wp2
  go_ret
  exact ⟨_, _, rfl, (Below.refl _ _).alloc (Nat.le_refl _) _⟩

set_option maxHeartbeats 1000000 in
theorem clone_pos {w : World} {b off len cap : Nat} {l : List Int} (h : IsInts w (some ⟨b, off, none⟩) len l) (hpos : 0 < len) :
    Calls Try.prog 38 #[.slice (some ⟨b, off, none⟩) len cap] w fun e w' => ∃ g cap', e = .returned (.slice (some ⟨g, 0, none⟩) len cap') ∧ w'.ownsRow w.heap.size 3 1 (.slice (some ⟨g, 0, none⟩) len cap') len (ints l) ∧ Below w.heap.size w w' := by
  have hn : (binOp .eql 22 (.slice (some ⟨b, off, none⟩) len cap) (.slice none 0 0)).run Try.prog w = .ok (.bool false) w := eqlNil w (some ⟨b, off, none⟩) len cap
  obtain ⟨hl, hlen, hI, hrow⟩ := h
  obtain ⟨b', off', e, hc⟩ := hrow hpos
  simp only [Option.some.injEq, Addr.mk.injEq, and_true] at e
  obtain ⟨rfl, rfl⟩ := e
  obtain ⟨i0, hi0, hz0, hz1, hz2⟩ := info_parts Try.infoInt2
  have HL := hide hl
  have HC := hide hc
  clear hl hc hI hrow
  have hB0 : Below w.heap.size w (w.alloc (.cells #[] 3)) := (Below.refl _ _).alloc (Nat.le_refl _) _
  have hown : (w.alloc (.cells #[] 3)).ownsRow w.heap.size 3 1 (.slice (some ⟨w.heap.size, 0, none⟩) 0 0) 0 [] := ⟨rfl, .inr ⟨w.heap.size, 0, #[], rfl, Nat.le_refl _, heap_alloc_new _ _, Nat.le_refl _, by unfold maxLen; omega, rfl, rfl⟩⟩
  have hnews : ∀ j u, (ints l)[j]? = some u → (w.alloc (.cells #[] 3)).cell? ((⟨b, off, none⟩ : Addr).add j) = some u := fun j u hu => by
    rw [List.getElem?_map] at hu
    cases hj : l[j]? with
    | none => rw [hj] at hu; simp at hu
    | some x =>
      rw [hj] at hu
      simp only [Option.map_some, Option.some.injEq] at hu
      subst hu
      rw [addr_add]
      exact kept_cell hB0 (HC.out j x hj)
  have hone : ∀ u ∈ ints l, u.oneCell' = true := fun v hv => by obtain ⟨x, _, rfl⟩ := List.mem_map.1 hv; rfl
  have H1 := hide hown
  have H2 := hide hnews
  have H3 := hide hone
  have H0 := hide hB0
  clear hown hnews hone hB0
  go_enter Try.func38, Try.ntmps38
  go_wp2_with (at_builtin; refine wpList_append_lies _ rfl _ _ 22 rfl w.heap.size 3 i0 (.int .i64 0) 1 8 Try.underlying22 hi0 hz0 hz1 hz2 rfl (by decide) _ 0 [] rfl H1.out ⟨b, off, none⟩ len cap (ints l) rfl (by rw [List.length_map, HL.out]; omega) H2.out H3.out hpos (by unfold maxLen; omega) (by omega) (by simp) (w.heap.size + 1) (by simp) ?_)
  intro g cap' w1 hown1 hgrow hat hlt
  have hB1 : Below w.heap.size w w1 := H0.out.grown hgrow (by simp) (fun j hj => by simp [Value.ownBlock] at hj; omega)
  have H4 := hide hown1
  have H5 := hide hB1
  clear hown1 hgrow hat hB1
  go_wp2
  go_ret
  refine ⟨g, cap', ?_, ?_, H5.out⟩
  · simp
  · have := H4.out
    simpa using this
end Go.Proofs.Ytcofoddjcgmmkaa
