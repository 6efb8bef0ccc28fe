/- What lex.hexEscape and lex.escape answer. -/
import Derived.Test.YtplldgkdjainlaaDoorProg
import Derived.Test.YtplldgkdjainlaaDoorLexHex
namespace Go.Proofs.YtplldgkdjainlaaDoor
set_option linter.unusedSimpArgs false
set_option linter.unusedVariables false
open Go.RowKit

theorem hexU_le (a b : UInt8) {v : Nat} (h : hexU 0 [a, b] = some v) : v ≤ 255 := by
  unfold hexU at h
  have hd : ∀ n d, hexD n = some d → d ≤ 15 := by
    intro n d h
    unfold hexD at h
    repeat' split at h
    all_goals first | (injection h with h; omega) | cases h
  cases ha : hexD a.toNat with
  | none => rw [ha] at h; cases h
  | some x =>
    rw [ha] at h
    simp only at h
    unfold hexU at h
    cases hb : hexD b.toNat with
    | none => rw [hb] at h; cases h
    | some y =>
      rw [hb] at h
      simp only [hexU] at h
      have h1 := hd _ _ ha
      have h2 := hd _ _ hb
      injection h with h
      omega

set_option maxHeartbeats 1000000 in
theorem parseHex_ok (t : ByteArray) (h2 : t.size = 2) (w : World) {v : Nat} (h : hexU 0 t.data.toList = some v) :
    Calls Tryd.prog 47 #[.string t, .int .i64 16, .int .i64 8] w fun e w' => e = .returned (.tuple #[.int .u64 v, .nilIface]) ∧ Below w.heap.size w w' := by
  have HP : Hid (Calls Tryd.prog 42 #[.string t, .int .i64 16, .int .i64 8] w fun e w' => e = .returned (.tuple #[.int .u64 v, .nilIface]) ∧ Below w.heap.size w w') :=
    (parseHex_in t h2 w).mono fun e w' ⟨he, hw⟩ => ⟨by rw [he, h]; rfl, by rw [hw]; exact Go.Joins.below_bytesWorld _ _ _ _ (Nat.le_refl _)⟩
  clear h
  go_enter Tryd.func47, Tryd.ntmps47
  go_wp2_with (go_at_call 42; refine HP.out.mono ?_; rintro e w' ⟨rfl, hb⟩; have hb := hide hb)
  go_ret2
  exact ⟨rfl, hb.out⟩

set_option maxHeartbeats 1000000 in
theorem parseHex_bad (t : ByteArray) (h2 : t.size = 2) (w : World) (hl : LexLaid w) (h : hexU 0 t.data.toList = none) :
    Calls Tryd.prog 47 #[.string t, .int .i64 16, .int .i64 8] w fun e w' => (∃ q p, e = .returned (.tuple #[.int .u64 0, .iface q (.pointer (some p))])) ∧ Below w.heap.size w w' := by
  have HP : Hid (Calls Tryd.prog 42 #[.string t, .int .i64 16, .int .i64 8] w fun e w' => e = .returned (.tuple #[.int .u64 0, .iface 68 (.int .i64 2)]) ∧ Below w.heap.size w w') :=
    (parseHex_in t h2 w).mono fun e w' ⟨he, hw⟩ => ⟨by rw [he, h]; rfl, by rw [hw]; exact Go.Joins.below_bytesWorld _ _ _ _ (Nat.le_refl _)⟩
  have HT : Hid (∀ W, Below w.heap.size w W → Calls Tryd.prog 40 #[.string ⟨#[80, 97, 114, 115, 101, 85, 105, 110, 116]⟩, .string t, .int .i64 16, .int .i64 8, .iface 68 (.int .i64 2)] W fun e w' => (∃ q p, e = .returned (.iface q (.pointer (some p)))) ∧ Below W.heap.size W w') := fun W hW => by
    obtain ⟨q, p, e⟩ := (hl.kept hW).syn
    exact (Any.strconv_toError_syntax Tryd.lays245 _ t 16 8 _ W (by omega) e (.inr ⟨_, _, rfl⟩)).mono fun e w' ⟨N, he, _, _, hb⟩ => ⟨⟨_, _, he⟩, hb⟩
  clear h hl
  go_enter Tryd.func47, Tryd.ntmps47
  go_wp2_with (first
    | (go_at_call 42; refine HP.out.mono ?_; rintro e w' ⟨rfl, hb⟩; have hb := hide hb)
    | (go_at_call 40; refine (HT.out _ hb.out).mono ?_; rintro e w'' ⟨⟨q, p, rfl⟩, hb2⟩; have hb2 := hide hb2))
  go_ret2
  exact ⟨⟨_, _, rfl⟩, hb.out.trans (hb2.out.mono hb.out.size)⟩

def hexX (r : ByteArray) : Int × Int :=
  if r.size < 4 then (0, 0) else match hexU 0 (r.extract 2 4).data.toList with | some v => ((v : Int), 4) | none => (0, 0)

theorem ret_ei {a b c d : Int} (h1 : a = b) (h2 : c = d) : Ending.returned (.tuple #[.int .u8 a, .int .i64 c]) = .returned (.tuple #[.int .u8 b, .int .i64 d]) := by rw [h1, h2]

set_option maxHeartbeats 1000000 in
theorem hexEscape_any (r : ByteArray) (w : World) (hs : r.size ≤ 140737488351232) (hl : LexLaid w) :
    Calls Tryd.prog 41 #[.string r] w fun e w' => e = .returned (.tuple #[.int .u8 (hexX r).1, .int .i64 (hexX r).2]) ∧ Below w.heap.size w w' := by
  by_cases h4 : r.size < 4
  · rw [show hexX r = (0, 0) from if_pos h4]
    have h4' : (r.size : Int) < 4 := by omega
    clear hl
    go_enter Tryd.func41, Tryd.ntmps41
    go_wp2
    go_ret2
    exact ⟨rfl, Below.refl _ _⟩
  have h4' : ¬ (r.size : Int) < 4 := by omega
  have h4'' : (4 : Int) ≤ (r.size : Int) := by omega
  have hz : (r.extract 2 4).size = 2 := by rw [ByteArray.size_extract]; omega
  have HX : Hid (hexX r = match hexU 0 (r.extract 2 4).data.toList with | some v => ((v : Int), 4) | none => (0, 0)) := if_neg h4
  rw [HX.out]
  clear HX
  cases hu : hexU 0 (r.extract 2 4).data.toList with
  | some v =>
    have hv : v ≤ 255 := by
      obtain ⟨a, b, hab⟩ : ∃ a b, (r.extract 2 4).data.toList = [a, b] := by
        match hl2 : (r.extract 2 4).data.toList with
        | [a, b] => exact ⟨a, b, rfl⟩
        | [] => have := congrArg List.length hl2; simp at this; omega
        | [_] => have := congrArg List.length hl2; simp at this; omega
        | _ :: _ :: _ :: _ => have := congrArg List.length hl2; simp at this; omega
      rw [hab] at hu
      exact hexU_le a b hu
    have hv' : (v : Int) ≤ 255 := by omega
    have HP := hide (parseHex_ok (r.extract 2 4) hz w hu)
    clear hl hu h4 hz hv
    go_enter Tryd.func41, Tryd.ntmps41
    go_wp2_with (go_at_call 47; refine HP.out.mono ?_; rintro e w' ⟨rfl, hb⟩; have hb := hide hb)
    go_ret2
    first | exact ⟨rfl, hb.out⟩ | exact ⟨ret_ei (by omega) rfl, hb.out⟩
  | none =>
    have HP := hide (parseHex_bad (r.extract 2 4) hz w hl hu)
    clear hl hu h4 hz
    go_enter Tryd.func41, Tryd.ntmps41
    go_wp2_with (go_at_call 47; refine HP.out.mono ?_; rintro e w' ⟨⟨q, p, rfl⟩, hb⟩; have hb := hide hb)
    go_ret2
    exact ⟨rfl, hb.out⟩

def escOf (r : ByteArray) (b : Int) : Int × Int :=
  if b = 34 then (34, 2) else if b = 92 then (92, 2) else if b = 110 then (10, 2) else if b = 116 then (9, 2) else if b = 114 then (13, 2) else if b = 120 then hexX r else (0, 0)
def escX (r : ByteArray) : Int × Int := if h : 1 < r.size then escOf r (r[1].toNat : Int) else (0, 0)

set_option maxHeartbeats 1000000 in
theorem escape_any (r : ByteArray) (w : World) (hs : r.size ≤ 140737488351232) (hl : LexLaid w) :
    Calls Tryd.prog 36 #[.string r] w fun e w' => e = .returned (.tuple #[.int .u8 (escX r).1, .int .i64 (escX r).2]) ∧ Below w.heap.size w w' := by
  by_cases h2 : ¬ 1 < r.size
  · rw [show escX r = (0, 0) from dif_neg h2]
    have h2' : (r.size : Int) < 2 := by omega
    clear hl
    go_enter Tryd.func36, Tryd.ntmps36
    go_wp2
    go_ret2
    exact ⟨rfl, Below.refl _ _⟩
  replace h2 : 1 < r.size := by omega
  have h2' : ¬ (r.size : Int) < 2 := by omega
  have h2'' : (1 : Int) < (r.size : Int) := by omega
  rw [show escX r = escOf r (r[1].toNat : Int) from dif_pos h2]
  have HX := hide (hexEscape_any r w hs hl)
  have hbb : (0 : Int) ≤ (r[1].toNat : Int) ∧ (r[1].toNat : Int) ≤ 255 := by have := r[1].toNat_lt; omega
  obtain ⟨b, hb⟩ : ∃ b : Int, b = (r[1].toNat : Int) := ⟨_, rfl⟩
  rw [← hb] at hbb ⊢
  replace hb := hb.symm
  by_cases h34 : b = 34
  · subst h34
    rw [show escOf r 34 = (34, 2) from rfl]
    clear hl
    go_enter Tryd.func36, Tryd.ntmps36
    go_wp2
    go_ret2
    exact ⟨rfl, Below.refl _ _⟩
  by_cases h92 : b = 92
  · subst h92
    rw [show escOf r 92 = (92, 2) from rfl]
    clear hl
    go_enter Tryd.func36, Tryd.ntmps36
    go_wp2
    go_ret2
    exact ⟨rfl, Below.refl _ _⟩
  by_cases h110 : b = 110
  · subst h110
    rw [show escOf r 110 = (10, 2) from rfl]
    clear hl
    go_enter Tryd.func36, Tryd.ntmps36
    go_wp2
    go_ret2
    exact ⟨rfl, Below.refl _ _⟩
  by_cases h116 : b = 116
  · subst h116
    rw [show escOf r 116 = (9, 2) from rfl]
    clear hl
    go_enter Tryd.func36, Tryd.ntmps36
    go_wp2
    go_ret2
    exact ⟨rfl, Below.refl _ _⟩
  by_cases h114 : b = 114
  · subst h114
    rw [show escOf r 114 = (13, 2) from rfl]
    clear hl
    go_enter Tryd.func36, Tryd.ntmps36
    go_wp2
    go_ret2
    exact ⟨rfl, Below.refl _ _⟩
  by_cases h120 : b = 120
  · subst h120
    rw [show escOf r 120 = hexX r from rfl]
    clear hl
    generalize hexX r = P at *
    obtain ⟨x, y⟩ := P
    go_enter Tryd.func36, Tryd.ntmps36
    go_wp2_with (go_at_call 41; refine HX.out.mono ?_; rintro e w' ⟨rfl, hb⟩; have hb := hide hb)
    go_ret2
    exact ⟨rfl, hb.out⟩
  rw [show escOf r b = (0, 0) from by unfold escOf; rw [if_neg h34, if_neg h92, if_neg h110, if_neg h116, if_neg h114, if_neg h120]]
  have e1 : (b == 34) = false := by simpa using h34
  have e2 : (b == 92) = false := by simpa using h92
  have e3 : (b == 110) = false := by simpa using h110
  have e4 : (b == 116) = false := by simpa using h116
  have e5 : (b == 114) = false := by simpa using h114
  have e6 : (b == 120) = false := by simpa using h120
  clear hl
  go_enter Tryd.func36, Tryd.ntmps36
  go_wp2
  go_ret2
  exact ⟨rfl, Below.refl _ _⟩

end Go.Proofs.YtplldgkdjainlaaDoor
