/- edictlaw01.SymCompares returns true at every list of constants. -/
import Derived.Test.YtlccgnlchngkeaaRefCmp
import Derived.Test.YtlccgnlchngkeaaOpen
namespace Go.Proofs.Ytlccgnlchngkeaa
set_option linter.unusedSimpArgs false
set_option linter.unusedVariables false
open Go.RowKit

set_option maxHeartbeats 400000 in
theorem symCompares_walk (ao : Option Addr) (len cap : Nat) (cs : List Con) (w : World) (h : IsCons w ao len cs) :
    Calls Try.prog 4 #[.slice ao len cap] w fun e w' => e = .returned (.bool true) ∧ Below w.heap.size w w' := by
  obtain ⟨hlen, hsz, hok, hrow⟩ := h
  have HL := hide hlen
  clear hlen
  go_enter Try.func4, Try.ntmps4
  go_wp2
  go_loopw [3] (fun i wr => ∃ k : Nat, k ≤ len ∧ i = .int .i64 k ∧ Below w.heap.size w wr) (fun i _ => len - (intOf i).toNat)
  case atStart => exact ⟨0, Nat.zero_le _, rfl, Below.refl _ _⟩
  case round =>
    obtain ⟨k, hk, rfl, hb⟩ := hrel
    by_cases hlt : k < len
    · have hi : (k : Int) < (len : Int) := by omega
      obtain ⟨b, off, rfl, hr⟩ := hrow (by omega)
      go_wp2
      obtain ⟨wo, hwo⟩ : ∃ wo : World, wo = wr := ⟨_, rfl⟩
      subst hwo
      go_loopw [4] (fun i wr => ∃ m : Nat, m ≤ len ∧ i = .int .i64 m ∧ Below w.heap.size w wr) (fun i _ => len - (intOf i).toNat)
      case atStart => exact ⟨0, Nat.zero_le _, rfl, hb⟩
      case round =>
        obtain ⟨m, hm, rfl, hb2⟩ := hrel
        by_cases hlt2 : m < len
        · have hi2 : (m : Int) < (len : Int) := by omega
          go_wp2
          obtain ⟨c, hc⟩ : ∃ c, cs[k]? = some c := ⟨_, List.getElem?_eq_getElem (by rw [HL.out]; exact hlt)⟩
          obtain ⟨d, hd⟩ : ∃ d, cs[m]? = some d := ⟨_, List.getElem?_eq_getElem (by rw [HL.out]; exact hlt2)⟩
          have sc : c.s.size ≤ maxLen := by have := (hok c (List.mem_of_getElem? hc)).2.2; unfold maxLen; omega
          have sd : d.s.size ≤ maxLen := by have := (hok d (List.mem_of_getElem? hd)).2.2; unfold maxLen; omega
          obtain ⟨c0, c1, c2⟩ := hr k c hc
          obtain ⟨d0, d1, d2⟩ := hr m d hd
          have HC := hide hc
          have HD := hide hd
          clear hc hd
          refine wp_region_over (fun W => Below w.heap.size w W) (by kernel_rfl) (by kernel_rfl) hb2 ?_
          intro W hW
          have c0' := over_cell (kept_cell hW c0)
          have c1' := over_cell (kept_cell hW c1)
          have c2' := over_cell (kept_cell hW c2)
          have d0' := over_cell (kept_cell hW d0)
          have d1' := over_cell (kept_cell hW d1)
          have d2' := over_cell (kept_cell hW d2)
          repeat (go_big_quiet_step (first | (go_at_call 9; exact calls_over (compare_any c d _)) | (go_at_call 10; exact calls_over (refCompare_any c d _ sc sd))))
          refine wpQuiet_nil ?_
          rintro _ ⟨x, rfl⟩
          have hb3 : Below w.heap.size w (over W x) := hW.trans ((over_below W x).mono hW.size)
          clear c0' c1' c2' d0' d1' d2'
          go_wp2
          go_roundw
          case rel => exact ⟨m + 1, by omega, by go_num, hb3⟩
          case measure => simp [intOf]; omega
        · have hi2 : ¬ (m : Int) < (len : Int) := by omega
          go_wp2
          go_roundw
          case rel => exact ⟨k + 1, by omega, by go_num, hb2⟩
          case measure => simp [intOf]; omega
    · have hi : ¬ (k : Int) < (len : Int) := by omega
      go_wp2
      go_ret
      exact ⟨rfl, hb⟩
end Go.Proofs.Ytlccgnlchngkeaa
