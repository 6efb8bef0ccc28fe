/- The document's whole numbers: of. -/
import Derived.Test.YtihkhnljjegopaaBigMem
namespace Go.Proofs.Ytihkhnljjegopaa
set_option linter.unusedSimpArgs false
set_option linter.unusedVariables false
open Go.RowKit

theorem of_step {a m : Nat} {l : List Nat} (h : val l + 65536 ^ l.length * m = a) : val (l ++ [m % 65536]) + 65536 ^ (l ++ [m % 65536]).length * (m / 65536) = a := by
  rw [val_snoc, List.length_append, List.length_singleton, Nat.pow_succ, Nat.add_assoc, Nat.mul_assoc, ← Nat.mul_add, Nat.mod_add_div]
  exact h
theorem of_len {a m n : Nat} {l : List Nat} (ha : a < 18446744073709551616) (h : val l + 65536 ^ l.length * m = a) (hn : l.length = n) (hm : 0 < m) : n < 4 := by
  subst hn
  rcases Nat.lt_or_ge l.length 4 with h1 | h1
  · exact h1
  · have h2 : 65536 ^ 4 ≤ 65536 ^ l.length := Nat.pow_le_pow_right (by omega) h1
    have h3 : 65536 ^ l.length * 1 ≤ 65536 ^ l.length * m := Nat.mul_le_mul_left _ hm
    have h4 : (65536 : Nat) ^ 4 = 18446744073709551616 := by decide
    omega

set_option maxHeartbeats 1000000 in
theorem of_any {a : Nat} (ha : a < 18446744073709551616) (w : World) :
    Calls Try.prog 20 #[.int .u64 a] w fun e w' => ∃ v, e = .returned v ∧ ∃ l, Grow elU 27 w.heap.size w' v l ∧ Dig l ∧ val l = a ∧ l.length ≤ 4 ∧ Below w.heap.size w w' := by
  obtain ⟨i0, hi0, hz0, hz1, hz2⟩ := info_parts Try.infoU
  have HA := hide ha
  clear ha
  go_enter Try.func20, Try.ntmps20
  go_wp2
  go_loopw [0, 3] (fun x v wl => ∃ (m : Nat) (l : List Nat), x = .int .u64 m ∧ Hid (m < 18446744073709551616 ∧ val l + 65536 ^ l.length * m = a ∧ Dig l) ∧ Hid (l.length ≤ 4) ∧ Hid (Grow elU 27 w.heap.size wl v l) ∧ Hid (Below w.heap.size w wl)) (fun x _ _ => (intOf x).toNat)
  case atStart => exact ⟨a, [], rfl, ⟨HA.out, by simp [val], Dig.nil⟩, by show _ ≤ _; simp, Grow.nil _ _ _ _, Below.refl _ _⟩
  case round =>
    obtain ⟨m, l, rfl, HM, HN, HG, HB⟩ := hrel
    obtain ⟨oa, oc, rfl, -, -⟩ := HG.out.shape
    by_cases h0 : m = 0
    · subst h0
      have HV : Hid (val l = a) := by show _ = _; have := HM.out.2.1; rw [Nat.mul_zero, Nat.add_zero] at this; exact this
      go_wp2
      go_ret
      exact ⟨_, rfl, _, HG.out, HM.out.2.2, HV.out, HN.out, HB.out⟩
    · have hpos : decide ((0 : Int) < (m : Int)) = true := by simp; omega
      obtain ⟨n, hn⟩ : ∃ n, l.length = n := ⟨_, rfl⟩
      have HL4 := hide (of_len HA.out HM.out.2.1 hn (by omega))
      have HLn := hide hn
      have HS2 := hide (of_step HM.out.2.1)
      have HO : Hid (m % 65536 < 65536) := Nat.mod_lt _ (by decide)
      rw [hn] at HG ⊢
      have HG2 := hide (HG.out.kept (belo1 wr (.cells #[.int .u64 ((m : Int) % 65536)] 27)))
      have HB2 := hide (HB.out.alloc HB.out.size (.cells #[.int .u64 ((m : Int) % 65536)] 27))
      have HS := hide HB.out.size
      have HW : Hid (IntKind.u64.wrap ((m : Int) / 65536) = ((m / 65536 : Nat) : Int)) := by show _ = _; rw [IntKind.wrap_u64]; have := HM.out.1; omega
      clear HG HB hn
      go_wp2_with (at_builtin; refine wpList_push (w0 := w) elU rfl _ _ 60 rfl w.heap.size 27 i0 _ 8 Try.underlying60 hi0 hz0 hz1 hz2 rfl (by decide) _ l n HLn.out rfl HG2.out (m % 65536) wr.heap.size 1 rfl (fun j u hu => new_cells j u hu) (by show _ < _; have := HO.out; omega) (by have := HL4.out; omega) HB2.out (by simp; have := HS.out; omega) ?_)
      intro g cap' w1 HG1 HB1 HGr
      clear HGr
      go_wp2
      go_roundw
      case rel => exact ⟨m / 65536, _, by rw [HW.out], ⟨by have := HM.out.1; omega, HS2.out, HM.out.2.2.snoc HO.out⟩, by show _ ≤ _; have := HL4.out; have := HLn.out; simp; omega, HG1, HB1⟩
      case measure => simp only [intOf]; rw [HW.out]; omega
end Go.Proofs.Ytihkhnljjegopaa
