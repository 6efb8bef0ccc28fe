/- edictlaw01's ahead and times. -/
import Derived.Test.YthhoiejjejdffaaProg
import Derived.Test.YthhoiejjejdffaaConEq
import Derived.Test.YthhoiejjejdffaaOpen
import Derived.Test.YthhoiejjejdffaaBox
namespace Go.Proofs.Ythhoiejjejdffaa
set_option linter.unusedSimpArgs false
set_option linter.unusedVariables false
open Go.RowKit

def aheadB (a b : Con) : Bool := if a.k = b.k then (if a.n = b.n then Op.bytesLess a.s.toList b.s.toList else decide (a.n < b.n)) else decide (a.k < b.k)

theorem ahead_any (a b : Con) (w : World) :
    Calls Try.prog 17 #[a.val, b.val] w fun e w' => e = .returned (.bool (aheadB a b)) ∧ Below w.heap.size w w' := by
  obtain ⟨k, n, s⟩ := a
  obtain ⟨k', n', s'⟩ := b
  unfold Con.val
  by_cases h1 : k = k'
  · have e1 : (k != k') = false := by simpa using h1
    by_cases h2 : n = n'
    · have e2 : (n != n') = false := by simpa using h2
      have HX : Hid (aheadB ⟨k, n, s⟩ ⟨k', n', s'⟩ = Op.bytesLess s.toList s'.toList) := by show aheadB _ _ = _; unfold aheadB; rw [if_pos h1, if_pos h2]
      rw [HX.out]
      clear h1 h2 HX
      go_enter Try.func17, Try.ntmps17
      go_wp2
      go_ret
      exact ⟨rfl, ((Below.refl _ _).alloc (Nat.le_refl _) _).alloc (by simp) _⟩
    · have e2 : (n != n') = true := by simpa using h2
      have HX : Hid (aheadB ⟨k, n, s⟩ ⟨k', n', s'⟩ = decide (n < n')) := by show aheadB _ _ = _; unfold aheadB; rw [if_pos h1, if_neg h2]
      rw [HX.out]
      clear h1 h2 HX
      go_enter Try.func17, Try.ntmps17
      go_wp2
      go_ret
      exact ⟨rfl, ((Below.refl _ _).alloc (Nat.le_refl _) _).alloc (by simp) _⟩
  · have e1 : (k != k') = true := by simpa using h1
    have HX : Hid (aheadB ⟨k, n, s⟩ ⟨k', n', s'⟩ = decide (k < k')) := by show aheadB _ _ = _; unfold aheadB; rw [if_neg h1]
    rw [HX.out]
    clear h1 HX
    go_enter Try.func17, Try.ntmps17
    go_wp2
    go_ret
    exact ⟨rfl, ((Below.refl _ _).alloc (Nat.le_refl _) _).alloc (by simp) _⟩

def timesC (c : Con) (cs : List Con) : Nat := cs.countP (fun x => conEq x c)

set_option maxHeartbeats 1000000 in
theorem times_any (ao : Option Addr) (len cap : Nat) (cs : List Con) (c : Con) (w : World) (h : IsCons w ao len cs) (hl : len ≤ 140737488351232) :
    Calls Try.prog 42 #[.slice ao len cap, c.val] w fun e w' => e = .returned (.int .i64 (timesC c cs : Int)) ∧ Below w.heap.size w w' := by
  obtain ⟨hlen, hrow⟩ := h
  have HR := hide hrow
  have HN := hide hlen
  clear hrow hlen
  unfold Con.val
  go_enter Try.func42, Try.ntmps42
  go_wp2
  go_loopw [5, 6] (fun n i wr => ∃ (k t : Nat), k ≤ len ∧ t ≤ k ∧ i = .int .i64 k ∧ n = .int .i64 t ∧ Hid (timesC c (cs.take k) = t) ∧ Hid (Below (w.alloc (.cells #[.int .i64 c.k, .int .i64 c.n, .string c.s] 34)).heap.size (w.alloc (.cells #[.int .i64 c.k, .int .i64 c.n, .string c.s] 34)) wr)) (fun _ i _ => len - (intOf i).toNat)
  case atStart => exact ⟨0, 0, by omega, by omega, rfl, rfl, rfl, Below.refl _ _⟩
  case round =>
    obtain ⟨k, t, hk, htk, rfl, rfl, HT, HB⟩ := hrel
    by_cases hlt : k < len
    · have hi : (k : Int) < (len : Int) := by omega
      obtain ⟨b, off, rfl, hr⟩ := HR.out.2.2 (by omega)
      obtain ⟨x, hx⟩ : ∃ x, cs[k]? = some x := ⟨_, List.getElem?_eq_getElem (by have := HN.out; omega)⟩
      have hb : Below w.heap.size w wr := ((Below.refl _ _).alloc (Nat.le_refl _) _).trans (HB.out.mono (by simp))
      obtain ⟨x0, x1, x2⟩ := conAt_kept (hr k x hx) hb
      obtain ⟨y0, y1, y2⟩ := conAt_kept (conAt_new w c 34) HB.out
      have hq := eqCon x c
      have HTk : Hid (timesC c (cs.take (k + 1)) = t + (if conEq x c then 1 else 0)) := by
        show timesC c _ = _
        rw [List.take_add_one, hx, ← HT.out]
        unfold timesC
        rw [Option.toList_some, List.countP_append, List.countP_singleton]
      have HBW := HB
      clear hr hx HT hb HB
      go_wp2
      refine wp_region_over (fun W => Below (w.alloc (.cells #[.int .i64 c.k, .int .i64 c.n, .string c.s] 34)).heap.size (w.alloc (.cells #[.int .i64 c.k, .int .i64 c.n, .string c.s] 34)) W ∧ W = wr) (by kernel_rfl) (by kernel_rfl) ⟨HBW.out, rfl⟩ ?_
      rintro W ⟨hW, rfl⟩
      have x0' := over_cell x0
      have x1' := over_cell x1
      have x2' := over_cell x2
      have y0' := over_cell y0
      have y1' := over_cell y1
      have y2' := over_cell y2
      clear x0 x1 x2 y0 y1 y2
      repeat (go_big_quiet_step (first | fail))
      refine wpQuiet_nil ?_
      rintro _ ⟨z, rfl⟩
      have HB3 := hide (hW.trans ((over_below W z).mono hW.size))
      clear x0' x1' x2' y0' y1' y2' hW
      cases hc : conEq x c with
      | true =>
        rw [hc] at HTk
        go_wp2
        go_roundw
        case rel => exact ⟨k + 1, t + 1, by omega, by omega, by go_num, by go_num, HTk, HB3⟩
        case measure => simp [intOf]; omega
      | false =>
        rw [hc] at HTk
        go_wp2
        go_roundw
        case rel => exact ⟨k + 1, t, by omega, by omega, by go_num, rfl, HTk, HB3⟩
        case measure => simp [intOf]; omega
    · obtain rfl : k = len := by omega
      have hi : ¬ (k : Int) < (k : Int) := by omega
      have HX : Hid (timesC c cs = t) := by
        show timesC c cs = t
        rw [← HT.out, List.take_of_length_le (by rw [HN.out]; exact Nat.le_refl _)]
      go_wp2
      go_ret
      exact ⟨by rw [HX.out]; rfl, ((Below.refl _ _).alloc (Nat.le_refl _) _).trans (HB.out.mono (by simp))⟩

theorem aheadB_cmp (a b : Con) : aheadB a b = decide (cmpC a b = -1) := by
  unfold aheadB
  rcases cmpC_cases a b with ⟨h, e⟩ | ⟨h, e⟩ | ⟨h, h', e⟩ | ⟨h, h', e⟩ | ⟨h, h', e⟩
  · rw [if_neg (by omega), e]; simp [h]
  · rw [if_neg (by omega), e]; simp; omega
  · rw [if_pos h, if_neg (by omega), e]; simp [h']
  · rw [if_pos h, if_neg (by omega), e]; simp; omega
  · rw [if_pos h, if_pos h', e, less_eq]
end Go.Proofs.Ythhoiejjejdffaa
