/- strconv.ParseUint of two bytes in base 16, and what lex.hexEscape answers. -/
import Derived.Test.YtplldgkdjainlaaDoorProg
import Derived.Test.YtplldgkdjainlaaDoorLexInt
import Derived.Lib.ConvBytes
import Derived.Laws.Closers25b
namespace Go.Proofs.YtplldgkdjainlaaDoor
set_option linter.unusedSimpArgs false
set_option linter.unusedVariables false
open Go.RowKit

def hexD (n : Nat) : Option Nat := if 48 ≤ n ∧ n ≤ 57 then some (n - 48) else if 97 ≤ n ∧ n ≤ 102 then some (n - 87) else if 65 ≤ n ∧ n ≤ 70 then some (n - 55) else none

def hexU (acc : Nat) : List UInt8 → Option Nat
  | [] => some acc
  | c :: r => match hexD c.toNat with
    | none => none
    | some d => hexU (acc * 16 + d) r

theorem low_bits : ∀ n : Fin 256, bits .or .u8 (n.val : Int) 32 = ((n.val ||| 32 : Nat) : Int) := by decide +kernel
theorem hexD_low : ∀ n : Fin 256, ¬ (48 ≤ n.val ∧ n.val ≤ 57) → hexD n.val = if 97 ≤ (n.val ||| 32) ∧ (n.val ||| 32) ≤ 102 then some ((n.val ||| 32) - 87) else none := by decide +kernel

theorem lower_any (c : Int) (w : World) (h : 0 ≤ c ∧ c ≤ 255) :
    Calls Tryd.prog 48 #[.int .u8 c] w fun e w' => e = .returned (.int .u8 ((c.toNat ||| 32 : Nat) : Int)) ∧ w' = w := by
  have hb : bits .or .u8 c 32 = ((c.toNat ||| 32 : Nat) : Int) := by
    have := low_bits ⟨c.toNat, by omega⟩
    rw [show ((c.toNat : Nat) : Int) = c from by omega] at this
    exact this
  go_enter Tryd.func48, Tryd.ntmps48
  go_wp2
  go_ret
  first | exact ⟨rfl, rfl⟩ | exact ⟨by rw [← hb]; rfl, rfl⟩

/-- What the library's ParseUint hands back. -/
def hexRet : Option Nat → Value
  | some v => .tuple #[.int .u64 v, .nilIface]
  | none => .tuple #[.int .u64 0, .iface 68 (.int .i64 2)]

set_option maxHeartbeats 8000000 in
set_option maxRecDepth 100000 in
theorem parseHex_in (t : ByteArray) (h2 : t.size = 2) (w : World) :
    Calls Tryd.prog 42 #[.string t, .int .i64 16, .int .i64 8] w fun e w' => e = .returned (hexRet (hexU 0 t.data.toList)) ∧ w' = Lib.bytesWorld w 5 t := by
  have hemp : t.toList.isEmpty = false := by
    rw [← decide_eq_emptyBytes]
    exact decide_eq_false (fun h => by rw [h] at h2; exact absurd h2 (by decide))
  have hcv := Lib.run_convert_string_bytes (P := Tryd.prog) w 9 60 5 t (u := .string) Tryd.underlying9 Tryd.underlying60 Tryd.underlying5
  have hB : ∀ j, j < t.size → (Lib.bytesWorld w 5 t).cell? ⟨w.heap.size, j, none⟩ = some (.int .u8 (t.data.toList.getD j 0).toNat) := fun j hj => Lib.bytesWorld_cell w 5 t j hj
  obtain ⟨W1, hW1⟩ : ∃ W1, W1 = Lib.bytesWorld w 5 t := ⟨_, rfl⟩
  rw [← hW1] at hcv hB ⊢
  clear hW1
  obtain ⟨bs, hL⟩ : ∃ bs, bs = t.data.toList := ⟨_, rfl⟩
  have hLn : bs.length = t.size := by rw [hL]; simp
  rw [← hL] at hB ⊢
  clear hL
  have hmv : IntKind.u64.wrap (IntKind.u64.wrap 256 - 1) = 255 := by
    rw [IntKind.wrap_u64, IntKind.wrap_u64]
    decide
  replace hLn := hide hLn
  replace hB := hide hB
  go_enter Tryd.func42, Tryd.ntmps42
  go_wp2
  go_loop [12, 13, 101] (fun vu vn vi => ∃ (k acc : Nat) (a : Int), vu = .bool false ∧ vn = .int .u64 a ∧ vi = .int .i64 k ∧ k ≤ 2 ∧ Hid (a = (acc : Int) ∧ acc < 16 ^ k ∧ hexU 0 bs = hexU acc (bs.drop k)))
    (fun _ _ vi => 2 - (intOf vi).toNat)
  case atStart => exact ⟨0, 0, 0, rfl, rfl, rfl, by omega, rfl, by decide, rfl⟩
  case round =>
    obtain ⟨k, acc, a, rfl, rfl, rfl, hk, hh⟩ := hrel
    obtain ⟨ha, hacc, hdec⟩ := hh.out
    clear hh
    by_cases hkn : k < 2
    · have hi : (k : Int) < 2 := by omega
      have hacc' : acc ≤ 15 := by
        rcases (show k = 0 ∨ k = 1 by omega) with rfl | rfl
        · have : acc < 1 := hacc
          omega
        · have : acc < 16 := hacc
          omega
      have hnext : ∀ d, d ≤ 15 → acc * 16 + d < 16 ^ (k + 1) := by
        intro d hd
        rcases (show k = 0 ∨ k = 1 by omega) with rfl | rfl
        · have : acc < 1 := hacc
          show _ < 16
          omega
        · show _ < 256
          omega
      have hc := hB.out k (by omega)
      have hkl : k < bs.length := by rw [hLn.out]; omega
      have hdrop : bs.drop k = bs[k]'hkl :: bs.drop (k + 1) := List.drop_eq_getElem_cons hkl
      have hget : bs.getD k 0 = bs[k]'hkl := by simp [List.getD, List.getElem?_eq_getElem hkl]
      rw [hdrop] at hdec
      rw [hget] at hc
      generalize bs[k]'hkl = c at hc hdec
      have hc256 : c.toNat < 256 := c.toNat_lt
      have a0 : 0 ≤ a := by omega
      have a1 : a ≤ 15 := by omega
      clear hdrop hget
      by_cases hdig : 48 ≤ c.toNat ∧ c.toNat ≤ 57
      · obtain ⟨hd0, hd1⟩ := hdig
        have HN : Hid (a * 16 + ((c.toNat : Int) - 48) = ((acc * 16 + (c.toNat - 48) : Nat) : Int) ∧ acc * 16 + (c.toNat - 48) < 16 ^ (k + 1) ∧ hexU 0 bs = hexU (acc * 16 + (c.toNat - 48)) (bs.drop (k + 1))) := by
          refine ⟨by omega, hnext _ (by omega), hdec.trans ?_⟩
          show (match hexD c.toNat with | none => none | some d => hexU (acc * 16 + d) (bs.drop (k + 1))) = _
          rw [show hexD c.toNat = some (c.toNat - 48) from if_pos ⟨hd0, hd1⟩]
        have e95 : ((c.toNat : Int) == 95) = false := by simp; omega
        clear hacc hacc' hnext hdec ha
        go_wp2
        refine ⟨⟨k + 1, acc * 16 + (c.toNat - 48), a * 16 + ((c.toNat : Int) - 48), rfl, (by first | rfl | (congr 1; omega)), (by first | rfl | (congr 1; omega)), by omega, HN⟩, by simp [intOf]; omega⟩
      · have hD := hexD_low ⟨c.toNat, hc256⟩ hdig
        simp only at hD
        have HV : Hid (∀ W, Calls Tryd.prog 48 #[.int .u8 (c.toNat : Int)] W fun e w' => e = .returned (.int .u8 ((c.toNat ||| 32 : Nat) : Int)) ∧ w' = W) := fun W => lower_any (c.toNat : Int) W (by omega)
        have hv256 : (c.toNat ||| 32) < 256 := Nat.or_lt_two_pow (n := 8) hc256 (by decide)
        have hnd : ¬ ((48 : Int) ≤ (c.toNat : Int) ∧ (c.toNat : Int) ≤ 57) := by omega
        by_cases h95 : (c.toNat : Int) = 95
        · have hN : Hid (hexU 0 bs = none) := by
            refine hdec.trans ?_
            show (match hexD c.toNat with | none => none | some d => hexU (acc * 16 + d) (bs.drop (k + 1))) = _
            rw [show hexD c.toNat = none from by rw [show c.toNat = 95 by omega]; rfl]
          have HV : Hid (∀ W, Calls Tryd.prog 48 #[.int .u8 95] W fun e w' => e = .returned (.int .u8 127) ∧ w' = W) := fun W => lower_any 95 W (by omega)
          clear hacc hacc' hnext hdec ha hD hdig hnd
          go_wp2_with (go_at_call 48; refine (HV.out _).mono ?_; rintro e w' ⟨rfl, hw'⟩; have hw' := hw'.symm; subst hw')
          all_goals go_ret2
          all_goals exact ⟨by rw [hN.out]; rfl, rfl⟩
        have e95 : ((c.toNat : Int) == 95) = false := by simpa using h95
        generalize c.toNat ||| 32 = v at *
        by_cases hx : 97 ≤ v ∧ v ≤ 102
        · rw [if_pos hx] at hD
          have HN : Hid (a * 16 + ((v : Int) - 97 + 10) = ((acc * 16 + (v - 87) : Nat) : Int) ∧ acc * 16 + (v - 87) < 16 ^ (k + 1) ∧ hexU 0 bs = hexU (acc * 16 + (v - 87)) (bs.drop (k + 1))) := by
            refine ⟨by omega, hnext _ (by omega), hdec.trans ?_⟩
            show (match hexD c.toNat with | none => none | some d => hexU (acc * 16 + d) (bs.drop (k + 1))) = _
            rw [hD]
          obtain ⟨hx1, hx2⟩ := hx
          have i1 : (97 : Int) ≤ (v : Int) := by omega
          have i2 : (v : Int) ≤ 102 := by omega
          clear hacc hacc' hnext hdec ha hD h95
          by_cases hlo : (48 : Int) ≤ (c.toNat : Int)
          · have hhi : ¬ (c.toNat : Int) ≤ 57 := by omega
            clear hdig hnd
            go_wp2_with (go_at_call 48; refine (HV.out _).mono ?_; rintro e w' ⟨rfl, hw'⟩; have hw' := hw'.symm; subst hw')
            refine ⟨⟨k + 1, acc * 16 + (v - 87), a * 16 + ((v : Int) - 97 + 10), rfl, (by first | rfl | (congr 1; omega)), (by first | rfl | (congr 1; omega)), by omega, HN⟩, by simp [intOf]; omega⟩
          · clear hdig hnd
            go_wp2_with (go_at_call 48; refine (HV.out _).mono ?_; rintro e w' ⟨rfl, hw'⟩; have hw' := hw'.symm; subst hw')
            refine ⟨⟨k + 1, acc * 16 + (v - 87), a * 16 + ((v : Int) - 97 + 10), rfl, (by first | rfl | (congr 1; omega)), (by first | rfl | (congr 1; omega)), by omega, HN⟩, by simp [intOf]; omega⟩
        · rw [if_neg hx] at hD
          have hN : Hid (hexU 0 bs = none) := by
            refine hdec.trans ?_
            show (match hexD c.toNat with | none => none | some d => hexU (acc * 16 + d) (bs.drop (k + 1))) = _
            rw [hD]
          clear hacc hacc' hnext hdec ha hD h95
          by_cases hlo : (48 : Int) ≤ (c.toNat : Int)
          · have hhi : ¬ (c.toNat : Int) ≤ 57 := by omega
            clear hdig hnd
            by_cases g1 : (97 : Int) ≤ (v : Int)
            · by_cases g2 : (v : Int) ≤ 122
              · have g3 : (103 : Int) ≤ (v : Int) := by omega
                clear hx
                go_wp2_with (go_at_call 48; refine (HV.out _).mono ?_; rintro e w' ⟨rfl, hw'⟩; have hw' := hw'.symm; subst hw')
                all_goals go_ret2
                all_goals exact ⟨by rw [hN.out]; rfl, rfl⟩
              · clear hx
                go_wp2_with (go_at_call 48; refine (HV.out _).mono ?_; rintro e w' ⟨rfl, hw'⟩; have hw' := hw'.symm; subst hw')
                all_goals go_ret2
                all_goals exact ⟨by rw [hN.out]; rfl, rfl⟩
            · clear hx
              go_wp2_with (go_at_call 48; refine (HV.out _).mono ?_; rintro e w' ⟨rfl, hw'⟩; have hw' := hw'.symm; subst hw')
              all_goals go_ret2
              all_goals exact ⟨by rw [hN.out]; rfl, rfl⟩
          · clear hdig hnd
            by_cases g1 : (97 : Int) ≤ (v : Int)
            · by_cases g2 : (v : Int) ≤ 122
              · have g3 : (103 : Int) ≤ (v : Int) := by omega
                clear hx
                go_wp2_with (go_at_call 48; refine (HV.out _).mono ?_; rintro e w' ⟨rfl, hw'⟩; have hw' := hw'.symm; subst hw')
                all_goals go_ret2
                all_goals exact ⟨by rw [hN.out]; rfl, rfl⟩
              · clear hx
                go_wp2_with (go_at_call 48; refine (HV.out _).mono ?_; rintro e w' ⟨rfl, hw'⟩; have hw' := hw'.symm; subst hw')
                all_goals go_ret2
                all_goals exact ⟨by rw [hN.out]; rfl, rfl⟩
            · clear hx
              go_wp2_with (go_at_call 48; refine (HV.out _).mono ?_; rintro e w' ⟨rfl, hw'⟩; have hw' := hw'.symm; subst hw')
              all_goals go_ret2
              all_goals exact ⟨by rw [hN.out]; rfl, rfl⟩
    · have hi : ¬ (k : Int) < 2 := by omega
      obtain rfl : k = 2 := by omega
      have hN : Hid (hexU 0 bs = some acc) := by
        refine hdec.trans ?_
        rw [List.drop_eq_nil_of_le (by rw [hLn.out]; omega)]; rfl
      subst ha
      clear hacc hdec
      go_wp2
      go_ret2
      exact ⟨by rw [hN.out]; rfl, rfl⟩

end Go.Proofs.YtplldgkdjainlaaDoor
