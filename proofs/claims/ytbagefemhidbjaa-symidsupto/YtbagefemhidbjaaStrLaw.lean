/- edictlaw01's strings and first. -/
import Derived.Test.YtbagefemhidbjaaRIds3
namespace Go.Proofs.Ytbagefemhidbjaa
set_option linter.unusedSimpArgs false
set_option linter.unusedVariables false
open Go.RowKit Go.Maps

set_option maxRecDepth 100000 in
set_option maxHeartbeats 1000000 in
theorem strings_same (a1 a2 : Option Addr) (n c1 c2 : Nat) (xs : List ByteArray) (w : World) (h1 : IsStrs w a1 n xs) (h2 : IsStrs w a2 n xs) :
    Calls Try.prog 35 #[.slice a1 n c1, .slice a2 n c2] w fun e w' => e = .returned (.bool true) ∧ Below w.heap.size w w' := by
  have H1 := hide h1
  have H2 := hide h2
  have hb := h1.2.1
  clear h1 h2
  go_enter Try.func35, Try.ntmps35
  go_wp2
  go_loopw [5] (fun t wr => ∃ j : Nat, j ≤ n ∧ t = .int .i64 j ∧ Hid (Below w.heap.size w wr)) (fun t _ => n - (intOf t).toNat)
  case atStart => exact ⟨0, by omega, rfl, Below.refl _ _⟩
  case round =>
    obtain ⟨j, hj, rfl, HB⟩ := hrel
    by_cases hlt : j < n
    · have hi : (j : Int) < (n : Int) := by omega
      obtain ⟨s, hs⟩ : ∃ s, xs[j]? = some s := ⟨_, List.getElem?_eq_getElem (by have := H1.out.1; omega)⟩
      obtain ⟨b1, o1, rfl, r1⟩ := H1.out.2.2.2 (by omega)
      obtain ⟨b2, o2, rfl, r2⟩ := H2.out.2.2.2 (by omega)
      have e1 := kept_cell HB.out (r1 j s hs)
      have e2 := kept_cell HB.out (r2 j s hs)
      have q : (s.toList != s.toList) = false := by simp
      clear r1 r2 hs
      go_wp2
      go_quiet (fail)
      go_wp2
      go_roundw
      case rel => exact ⟨j + 1, by omega, by go_num, HB.out.trans (below_drewN _ _ _)⟩
      case measure => simp [intOf]; omega
    · obtain rfl : j = n := by omega
      have hi : ¬ (j : Int) < (j : Int) := by omega
      go_wp2
      go_ret
      exact ⟨rfl, HB.out⟩

theorem IsStrs.take {w : World} {a : Option Addr} {n d : Nat} {xs : List ByteArray} (h : IsStrs w a n xs) (hd : d ≤ n) : IsStrs w a d (xs.take d) := by
  obtain ⟨h1, h2, h3, h4⟩ := h
  refine ⟨by rw [List.length_take]; omega, by omega, fun s hs => h3 s (List.mem_of_mem_take hs), fun h0 => ?_⟩
  obtain ⟨b, off, ha, hr⟩ := h4 (by omega)
  refine ⟨b, off, ha, fun i s hi => hr i s ?_⟩
  rw [List.getElem?_take] at hi
  split at hi
  · exact hi
  · cases hi

theorem first_any (a : Option Addr) (n c d : Nat) (z : Int) (xs : List ByteArray) (w : World) (h : IsStrs w a n xs) (hc : n ≤ c) (hcl : c ≤ maxLen) (hd : (d = n ∧ d ≤ z.toNat) ∨ (d = z.toNat ∧ d ≤ n)) :
    Calls Try.prog 34 #[.slice a n c, .int .i64 z] w fun e w' => e = .returned (.slice a d c) ∧ w' = w := by
  have HI := hide h
  have hb := h.2.1
  clear h
  by_cases h0 : z ≤ 0
  · have e : d = 0 := by omega
    subst e
    have h1 : ¬ 0 < z := by omega
    go_enter Try.func34, Try.ntmps34
    go_wp2
    · go_ret
      exact ⟨rfl, rfl⟩
    · obtain rfl : n = 0 := by omega
      go_ret
      exact ⟨rfl, rfl⟩
  · have h1 : 0 < z := by omega
    by_cases h2 : (n : Int) ≤ z
    · have e : d = n := by omega
      subst e
      go_enter Try.func34, Try.ntmps34
      go_wp2
      go_ret
      exact ⟨rfl, rfl⟩
    · have e : (d : Int) = z := by omega
      have h3 : z < (n : Int) := by omega
      subst e
      go_enter Try.func34, Try.ntmps34
      go_wp2
      go_ret
      exact ⟨rfl, rfl⟩
end Go.Proofs.Ytbagefemhidbjaa
