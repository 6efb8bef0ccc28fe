/- What the document's above answers: is the number written above the bound? -/
import Derived.Test.YtojgfngpndmfoaaDoorProg
import Derived.Test.YtojgfngpndmfoaaDoorRefEsc
import Derived.Laws.Cover1
namespace Go.Proofs.YtojgfngpndmfoaaDoor
set_option linter.unusedSimpArgs false
set_option linter.unusedVariables false
open Go.RowKit

def stripZ : List UInt8 → List UInt8
  | [] => []
  | c :: r => if c.toNat = 48 then stripZ r else c :: r

theorem ext_one (d : ByteArray) : (d.extract 1 d.size).data.toList = d.data.toList.drop 1 := extract_rest d 1

theorem list_zero (d : ByteArray) (h : 0 < d.size) : d.data.toList = d[0] :: d.data.toList.drop 1 := by
  have := rest_cons d 0 h
  unfold rest at this
  simpa using this

def aboveB (l m : List UInt8) : Bool := if (stripZ l).length = m.length then !(Op.bytesLess (stripZ l) m || stripZ l == m) else decide (m.length < (stripZ l).length)

theorem above_ret {d D m : ByteArray} (h : stripZ d.data.toList = D.data.toList) (hsz : D.size = m.size) :
    Ending.returned (.bool (!Op.bytesLess D.toList m.toList && !(D.toList == m.toList))) = .returned (.bool (aboveB d.data.toList m.data.toList)) := by
  unfold aboveB
  rw [h, if_pos (by simpa using hsz), ByteArray.toList_eq, ByteArray.toList_eq, Bool.not_or]
theorem above_ret2 {d D m : ByteArray} (h : stripZ d.data.toList = D.data.toList) (hsz : ¬ D.size = m.size) :
    Ending.returned (.bool (decide (m.size < D.size))) = .returned (.bool (aboveB d.data.toList m.data.toList)) := by
  unfold aboveB
  rw [h, if_neg (by simpa using hsz)]
  simp

set_option maxHeartbeats 1000000 in
set_option maxRecDepth 100000 in
theorem above_any (d m : ByteArray) (w : World) (hs : d.size ≤ 140737488351232) (hm : m.size ≤ 140737488351232) (hm0 : 0 < m.size) :
    Calls Tryd.prog 57 #[.string d, .string m] w fun e w' => e = .returned (.bool (aboveB d.data.toList m.data.toList)) ∧ w' = w := by
  go_enter Tryd.func57, Tryd.ntmps57
  go_wp2
  go_loop [0] (fun v => ∃ D : ByteArray, D.size ≤ 140737488351232 ∧ v = .string D ∧ Hid (stripZ d.data.toList = stripZ D.data.toList)) (fun v => match v with | .string D => D.size | _ => 0)
  case atStart => exact ⟨d, hs, rfl, rfl⟩
  case round =>
    obtain ⟨D, hD, rfl, HE⟩ := hrel
    by_cases hlt : 0 < D.size
    · have hi : (0 : Int) < (D.size : Int) := by omega
      have h1 : (1 : Int) ≤ (D.size : Int) := by omega
      have hl := list_zero D hlt
      obtain ⟨b, hb⟩ : ∃ b : Int, b = (D[0].toNat : Int) := ⟨_, rfl⟩
      by_cases h48 : b = 48
      · have HF : Hid (stripZ D.data.toList = stripZ (D.extract 1 D.size).data.toList) := by
          show stripZ _ = _
          rw [hl, ext_one]
          exact if_pos (by omega)
        have hz : (D.extract 1 D.size).size = D.size - 1 := by rw [ByteArray.size_extract]; omega
        replace hz := hide hz
        subst h48
        replace hb := hb.symm
        clear hl
        go_wp2
        go_round
        case rel => exact ⟨D.extract 1 D.size, by have := hz.out; omega, rfl, HE.out.trans HF.out⟩
        case measure => have := hz.out; simp; omega
      · have HF : Hid (stripZ D.data.toList = D.data.toList) := by
          show stripZ _ = _
          rw [hl]
          exact if_neg (by omega)
        have e48 : (b == 48) = false := by simpa using h48
        replace hb := hb.symm
        clear hl
        by_cases hsz : D.size = m.size
        · have e1 : ((D.size : Int) != (m.size : Int)) = false := by simp [hsz]
          replace hsz := hide hsz
          go_wp2
          go_ret
          exact ⟨above_ret (HE.out.trans HF.out) hsz.out, rfl⟩
        · have e1 : ((D.size : Int) != (m.size : Int)) = true := by simp; omega
          replace hsz := hide hsz
          go_wp2
          go_ret
          exact ⟨above_ret2 (HE.out.trans HF.out) hsz.out, rfl⟩
    · have hi : ¬ (0 : Int) < (D.size : Int) := by omega
      have HF : Hid (stripZ D.data.toList = D.data.toList) := by
        show stripZ _ = _
        rw [show D.data.toList = [] from List.length_eq_zero_iff.1 (by rw [Array.length_toList]; show D.size = 0; omega)]; rfl
      have hsz : ¬ D.size = m.size := by omega
      have e1 : ((D.size : Int) != (m.size : Int)) = true := by simp; omega
      replace hsz := hide hsz
      go_wp2
      go_ret
      exact ⟨above_ret2 (HE.out.trans HF.out) hsz.out, rfl⟩

end Go.Proofs.YtojgfngpndmfoaaDoor
