/- LexSpelled's own wordy and wordOK. -/
import Derived.Test.YtaemcbabegjfnaaDoorProg
import Derived.Test.YtaemcbabegjfnaaDoorPartPure
namespace Go.Proofs.YtaemcbabegjfnaaDoor
set_option linter.unusedSimpArgs false
set_option linter.unusedVariables false
open Go.RowKit

set_option maxRecDepth 100000 in
set_option maxHeartbeats 2000000 in
theorem wordy_any (c : UInt8) (w : World) : Calls Tryd.prog 12 #[.int .u8 (c.toNat : Int)] w fun e w' => e = .returned (.bool (bWord (c.toNat : Int))) ∧ w' = w := by
  have hlt := c.toNat_lt
  obtain ⟨n, hn⟩ : ∃ n : Int, n = (c.toNat : Int) := ⟨_, rfl⟩
  have hb : 0 ≤ n ∧ n ≤ 255 := by omega
  rw [← hn]
  clear hn hlt
  unfold bWord bLow bUp bDig
  by_cases h1 : 97 ≤ n <;> by_cases h2 : n ≤ 122 <;> by_cases h3 : 65 ≤ n <;> by_cases h4 : n ≤ 90 <;> by_cases h5 : 48 ≤ n <;> by_cases h6 : n ≤ 57 <;> by_cases h7 : n = 95 <;>
  first
  | (exfalso; omega)
  | (have e7 : (n == 95) = true := by simp [h7]
     go_enter Tryd.func12, Tryd.ntmps12
     go_wp2
     go_ret
     exact ⟨by simp [h1, h2, h3, h4, h5, h6, h7], rfl⟩)
  | (have e7 : (n == 95) = false := by simp [h7]
     go_enter Tryd.func12, Tryd.ntmps12
     go_wp2
     go_ret
     exact ⟨by simp [h1, h2, h3, h4, h5, h6, h7], rfl⟩)
end Go.Proofs.YtaemcbabegjfnaaDoor
