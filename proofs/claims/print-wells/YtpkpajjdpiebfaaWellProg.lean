/- print's reasons for a body, a clause and a program. -/
import Derived.Test.YtpkpajjdpiebfaaProg
import Derived.Test.YtpkpajjdpiebfaaWellLit
namespace Go.Proofs.Ytpkpajjdpiebfaa
set_option linter.unusedSimpArgs false
set_option linter.unusedVariables false
open Go.RowKit

set_option maxHeartbeats 1000000 in
theorem firstLit (ao : Option Addr) (len cap : Nat) (ts : List Ltr) (w : World) (h : IsLtrs w ao len ts) :
    Calls Try.prog 55 #[.slice ao len cap, .func (.func 56) #[] #[]] w fun e w' => e = .returned (.int .i64 (firstE litE ts)) ∧ Below w.heap.size w w' := by
  have H1 := hide h
  have hl : len ≤ 140737488351232 := by have := h.2.1; omega
  clear h
  go_enter Try.func55, Try.ntmps55
  go_wp2
  go_loopw [4, 10] (fun _ i wr => ∃ k : Nat, k ≤ len ∧ i = .int .i64 k ∧ Hid (∀ y ∈ ts.take k, litE y = 0) ∧ Hid (Below w.heap.size w wr)) (fun _ i _ => len - (intOf i).toNat)
  case atStart => exact ⟨0, Nat.zero_le _, rfl, fun y hy => by simp at hy, Below.refl _ _⟩
  case round =>
    obtain ⟨k, hk, rfl, HA, HB⟩ := hrel
    by_cases hlt : k < len
    · have hi : (k : Int) < (len : Int) := by omega
      obtain ⟨hlen, -, hok, hrow⟩ := H1.out
      obtain ⟨b, off, rfl, hr⟩ := hrow (by omega)
      obtain ⟨t, ht⟩ : ∃ t, ts[k]? = some t := ⟨_, List.getElem?_eq_getElem (by omega)⟩
      obtain ⟨x0, x1, x2, x3, x4, ⟨x5, x6, x7, x8⟩, ⟨x9, x10, x11, x12⟩, x13⟩ := (hr k t ht).kept HB.out
      have HT : Hid (∀ w1, Below w.heap.size w w1 → Calls Try.prog 56 #[t.val] w1 fun e w' => e = .returned (.int .i64 (litE t)) ∧ Below w1.heap.size w1 w') := fun w1 hb => whyLit t w1 ((hok t (List.mem_of_getElem? ht)).kept hb)
      rw [show off + k * 14 + 5 + 1 = off + k * 14 + 6 from rfl] at x6
      rw [show off + k * 14 + 5 + 2 = off + k * 14 + 7 from rfl] at x7
      rw [show off + k * 14 + 5 + 3 = off + k * 14 + 8 from rfl] at x8
      rw [show off + k * 14 + 9 + 1 = off + k * 14 + 10 from rfl] at x10
      rw [show off + k * 14 + 9 + 2 = off + k * 14 + 11 from rfl] at x11
      rw [show off + k * 14 + 9 + 3 = off + k * 14 + 12 from rfl] at x12

      unfold Ltr.val at HT
      by_cases hz : litE t = 0
      · have HN := hide (take_zero_more HA.out ht hz)
        rw [hz] at HT
        clear hz HA hlen hok hrow hr ht
        go_wp2_with (go_at_call 56; refine (HT.out _ (belowt HB.out (below1 _ _))).mono ?_; rintro e w' ⟨rfl, hb⟩)
        go_roundw
        case rel => exact ⟨k + 1, by omega, by go_num, HN, hide (belowt HB.out (below1t hb))⟩
        case measure => simp [intOf]; omega
      · have HF := hide (firstE_at HA.out ht hz)
        have hz' : (litE t != 0) = true := by simpa using hz
        clear hz HA hlen hok hrow hr ht
        go_wp2_with (go_at_call 56; refine (HT.out _ (belowt HB.out (below1 _ _))).mono ?_; rintro e w' ⟨rfl, hb⟩)
        go_ret
        exact ⟨by rw [HF.out]; rfl, belowt HB.out (below1t hb)⟩
    · have hi : ¬ (k : Int) < (len : Int) := by omega
      have HF : Hid (firstE litE ts = 0) := firstE_zero fun y hy => HA.out y (by rw [List.take_of_length_le (by have := H1.out.1; omega)]; exact hy)
      go_wp2
      go_ret
      exact ⟨by rw [HF.out]; rfl, HB.out⟩

set_option maxHeartbeats 1000000 in
theorem whyBody (ao : Option Addr) (len cap : Nat) (ls : List Ltr) (w : World) (h : IsLtrs w ao len ls) :
    Calls Try.prog 43 #[.slice ao len cap] w fun e w' => e = .returned (.int .i64 (bodyE ls)) ∧ Below w.heap.size w w' := by
  have HT := hide (firstLit ao len cap ls w h)
  have hl : Hid (ls.length = len) := h.1
  have hl2 : len ≤ 140737488351232 := by have := h.2.1; omega
  clear h
  by_cases h8 : 16 < len
  · have HE : Hid (bodyE ls = 23) := by show bodyE _ = 23; unfold bodyE; rw [hl.out]; simp [h8]
    rw [HE.out]
    have hi : (16 : Int) < (len : Int) := by omega
    clear HE
    go_enter Try.func43, Try.ntmps43
    go_wp2_with (go_at_call 55; refine HT.out.mono ?_; rintro e w' ⟨rfl, hb⟩)
    go_ret
    exact ⟨rfl, Below.refl _ _⟩
  · have HE : Hid (bodyE ls = firstE litE ls) := by show bodyE _ = _; unfold bodyE; rw [hl.out]; simp [h8]
    rw [HE.out]
    have hi : ¬ (16 : Int) < (len : Int) := by omega
    clear HE
    go_enter Try.func43, Try.ntmps43
    go_wp2_with (go_at_call 55; refine HT.out.mono ?_; rintro e w' ⟨rfl, hb⟩)
    go_ret
    exact ⟨rfl, hb⟩

set_option maxHeartbeats 1000000 in
theorem whyClause (c : Cls) (w : World) (h : c.at w) :
    Calls Try.prog 25 #[c.val] w fun e w' => e = .returned (.int .i64 (clauseE c)) ∧ Below w.heap.size w w' := by
  obtain ⟨⟨p, hao, hlen, hcap, hoff, ts⟩, ao, len, cap, ls⟩ := c
  obtain ⟨h1, h2⟩ := h
  have HA := hide (fun w1 (hb : Below w.heap.size w w1) => whyAtom ⟨p, hao, hlen, hcap, hoff, ts⟩ w1 (h1.kept hb))
  have HL := hide (fun w1 (hb : Below w.heap.size w w1) => whyBody ao len cap ls w1 (h2.kept hb))
  clear h1 h2
  unfold Atm.val at HA
  unfold Cls.val
  dsimp only at HA ⊢
  have HX := hide (fun w' (hb : Below (w.alloc (.cells #[.string p, .slice hao hlen hcap, .int .i64 hoff, .slice ao len cap] 47)).heap.size (w.alloc (.cells #[.string p, .slice hao hlen hcap, .int .i64 hoff, .slice ao len cap] 47)) w') => kept_cell hb (show (w.alloc (.cells #[.string p, .slice hao hlen hcap, .int .i64 hoff, .slice ao len cap] 47)).cell? ⟨w.heap.size, 3, none⟩ = some (.slice ao len cap) from by go_simp))
  by_cases hz : atomE p ts = 0
  · have HE : Hid (clauseE ⟨⟨p, hao, hlen, hcap, hoff, ts⟩, ao, len, cap, ls⟩ = bodyE ls) := by show clauseE _ = _; unfold clauseE; simp [hz]
    rw [HE.out]
    rw [hz] at HA
    clear HE hz
    go_enter Try.func25, Try.ntmps25
    go_wp2_with (first | (go_at_call 42; refine (HA.out _ (below1 _ _)).mono ?_; rintro e w' ⟨rfl, hb1⟩; have c3 := HX.out _ hb1) | (go_at_call 43; refine (HL.out _ (below1t hb1)).mono ?_; rintro e w' ⟨rfl, hb2⟩))
    go_ret
    exact ⟨rfl, below1t (belowt hb1 hb2)⟩
  · have HE : Hid (clauseE ⟨⟨p, hao, hlen, hcap, hoff, ts⟩, ao, len, cap, ls⟩ = atomE p ts) := by show clauseE _ = _; unfold clauseE; simp [hz]
    rw [HE.out]
    have hz' : (atomE p ts != 0) = true := by simpa using hz
    clear HE hz
    go_enter Try.func25, Try.ntmps25
    go_wp2_with (go_at_call 42; refine (HA.out _ (below1 _ _)).mono ?_; rintro e w' ⟨rfl, hb1⟩)
    go_ret
    exact ⟨rfl, below1t hb1⟩

set_option maxHeartbeats 1000000 in
theorem firstClause (ao : Option Addr) (len cap : Nat) (ts : List Cls) (w : World) (h : IsClss w ao len ts) :
    Calls Try.prog 24 #[.slice ao len cap, .func (.func 25) #[] #[]] w fun e w' => e = .returned (.int .i64 (firstE clauseE ts)) ∧ Below w.heap.size w w' := by
  have H1 := hide h
  have hl : len ≤ 140737488351232 := by have := h.2.1; omega
  clear h
  go_enter Try.func24, Try.ntmps24
  go_wp2
  go_loopw [4, 10] (fun _ i wr => ∃ k : Nat, k ≤ len ∧ i = .int .i64 k ∧ Hid (∀ y ∈ ts.take k, clauseE y = 0) ∧ Hid (Below w.heap.size w wr)) (fun _ i _ => len - (intOf i).toNat)
  case atStart => exact ⟨0, Nat.zero_le _, rfl, fun y hy => by simp at hy, Below.refl _ _⟩
  case round =>
    obtain ⟨k, hk, rfl, HA, HB⟩ := hrel
    by_cases hlt : k < len
    · have hi : (k : Int) < (len : Int) := by omega
      obtain ⟨hlen, -, hok, hrow⟩ := H1.out
      obtain ⟨b, off, rfl, hr⟩ := hrow (by omega)
      obtain ⟨t, ht⟩ : ∃ t, ts[k]? = some t := ⟨_, List.getElem?_eq_getElem (by omega)⟩
      obtain ⟨x0, x1, x2, x3⟩ := (hr k t ht).kept HB.out
      have HT : Hid (∀ w1, Below w.heap.size w w1 → Calls Try.prog 25 #[t.val] w1 fun e w' => e = .returned (.int .i64 (clauseE t)) ∧ Below w1.heap.size w1 w') := fun w1 hb => whyClause t w1 ((hok t (List.mem_of_getElem? ht)).kept hb)
      unfold Cls.val at HT
      by_cases hz : clauseE t = 0
      · have HN := hide (take_zero_more HA.out ht hz)
        rw [hz] at HT
        clear hz HA hlen hok hrow hr ht
        go_wp2_with (go_at_call 25; refine (HT.out _ (belowt HB.out (below1 _ _))).mono ?_; rintro e w' ⟨rfl, hb⟩)
        go_roundw
        case rel => exact ⟨k + 1, by omega, by go_num, HN, hide (belowt HB.out (below1t hb))⟩
        case measure => simp [intOf]; omega
      · have HF := hide (firstE_at HA.out ht hz)
        have hz' : (clauseE t != 0) = true := by simpa using hz
        clear hz HA hlen hok hrow hr ht
        go_wp2_with (go_at_call 25; refine (HT.out _ (belowt HB.out (below1 _ _))).mono ?_; rintro e w' ⟨rfl, hb⟩)
        go_ret
        exact ⟨by rw [HF.out]; rfl, belowt HB.out (below1t hb)⟩
    · have hi : ¬ (k : Int) < (len : Int) := by omega
      have HF : Hid (firstE clauseE ts = 0) := firstE_zero fun y hy => HA.out y (by rw [List.take_of_length_le (by have := H1.out.1; omega)]; exact hy)
      go_wp2
      go_ret
      exact ⟨by rw [HF.out]; rfl, HB.out⟩

set_option maxHeartbeats 1000000 in
theorem whyProgram (ao : Option Addr) (len cap : Nat) (cs : List Cls) (w : World) (h : IsClss w ao len cs) :
    Calls Try.prog 16 #[.agg #[.slice ao len cap]] w fun e w' => e = .returned (.int .i64 (progE cs)) ∧ Below w.heap.size w w' := by
  have HT := hide (fun w1 (hb : Below w.heap.size w w1) => firstClause ao len cap cs w1 (h.kept hb))
  have hl : Hid (cs.length = len) := h.1
  have hl2 : len ≤ 140737488351232 := by have := h.2.1; omega
  clear h
  by_cases h8 : 512 < len
  · have HE : Hid (progE cs = 24) := by show progE _ = 24; unfold progE; rw [hl.out]; simp [h8]
    rw [HE.out]
    have hi : (512 : Int) < (len : Int) := by omega
    clear HE
    go_enter Try.func16, Try.ntmps16
    go_wp2_with (go_at_call 24; refine (HT.out _ (below1 _ _)).mono ?_; rintro e w' ⟨rfl, hb⟩)
    go_ret
    exact ⟨rfl, below1 _ _⟩
  · have HE : Hid (progE cs = firstE clauseE cs) := by show progE _ = _; unfold progE; rw [hl.out]; simp [h8]
    rw [HE.out]
    have hi : ¬ (512 : Int) < (len : Int) := by omega
    clear HE
    go_enter Try.func16, Try.ntmps16
    go_wp2_with (go_at_call 24; refine (HT.out _ (below1 _ _)).mono ?_; rintro e w' ⟨rfl, hb⟩)
    go_ret
    exact ⟨rfl, below1t hb⟩

theorem well_any (ao : Option Addr) (len cap : Nat) (cs : List Cls) (w : World) (h : IsClss w ao len cs) :
    Calls Try.prog 9 #[.agg #[.slice ao len cap]] w fun e w' => e = .returned (.int .i64 (progE cs)) ∧ Below w.heap.size w w' := by
  have HT := hide (fun w1 (hb : Below w.heap.size w w1) => whyProgram ao len cap cs w1 (h.kept hb))
  clear h
  go_enter Try.func9, Try.ntmps9
  go_wp2_with (go_at_call 16; refine (HT.out _ (below1 _ _)).mono ?_; rintro e w' ⟨rfl, hb⟩)
  go_ret
  exact ⟨rfl, below1t hb⟩
end Go.Proofs.Ytpkpajjdpiebfaa
