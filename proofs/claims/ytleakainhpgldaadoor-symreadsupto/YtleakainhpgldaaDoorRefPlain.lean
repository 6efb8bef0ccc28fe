/- The document's nibble and plain: escapes undone. -/
import Derived.Test.YtleakainhpgldaaDoorProg
import Derived.Test.YtleakainhpgldaaDoorReadPure
namespace Go.Proofs.YtleakainhpgldaaDoor
set_option linter.unusedSimpArgs false
set_option linter.unusedVariables false
open Go.RowKit

theorem hexS_at (k : Nat) (h : k < 16) : ((⟨#[48, 49, 50, 51, 52, 53, 54, 55, 56, 57, 97, 98, 99, 100, 101, 102]⟩ : ByteArray)[k]'h).toNat = (hexI k).toNat ∧ 0 ≤ hexI k := by
  have : ∀ k : Fin 16, ((⟨#[48, 49, 50, 51, 52, 53, 54, 55, 56, 57, 97, 98, 99, 100, 101, 102]⟩ : ByteArray)[k.val]'k.isLt).toNat = (hexI k.val).toNat ∧ 0 ≤ hexI k.val := by decide +kernel
  exact this ⟨k, h⟩
theorem hexI_inj {i j : Nat} (hi : i < 16) (hj : j < 16) (e : hexI i = hexI j) : i = j := by
  have h1 := hexV_hexI i hi
  rw [e, hexV_hexI j hj] at h1
  have := Option.some.inj h1
  omega

def NibR (b v : Int) : Prop := -1 ≤ v ∧ v ≤ 15 ∧ ∀ k, k < 16 → b = hexI k → v = (k : Int)

set_option maxHeartbeats 2000000 in
set_option maxRecDepth 100000 in
theorem nibble_any (b : Int) (w : World) (hb : 0 ≤ b ∧ b ≤ 255) :
    Calls Tryd.prog 29 #[.int .u8 b] w fun e w' => (∃ v, e = .returned (.int .i64 v) ∧ NibR b v) ∧ w' = w := by
  go_enter Tryd.func29, Tryd.ntmps29
  go_wp2
  go_loopw [3] (fun i wr => ∃ k : Nat, k ≤ 16 ∧ i = .int .i64 k ∧ Hid (∀ j, j < k → hexI j ≠ b) ∧ wr = w) (fun i _ => 16 - (intOf i).toNat)
  case atStart => exact ⟨0, Nat.zero_le _, rfl, fun j hj => absurd hj (Nat.not_lt_zero _), rfl⟩
  case round =>
    obtain ⟨k, hk, rfl, HN, rfl⟩ := hrel
    by_cases hlt : k < 16
    · have hi : (k : Int) < 16 := by omega
      obtain ⟨q1, q2⟩ := hexS_at k hlt
      have hy : (((⟨#[48, 49, 50, 51, 52, 53, 54, 55, 56, 57, 97, 98, 99, 100, 101, 102]⟩ : ByteArray)[k]'hlt).toNat : Int) = hexI k := by omega
      clear q1
      by_cases he : hexI k = b
      · have he' : (hexI k == b) = true := by simp [he]
        have HR : Hid (NibR b k) := ⟨by omega, by omega, fun j hj e => by rw [hexI_inj hj hlt (by rw [← e, he])]⟩
        generalize hexI k = y at *
        clear he
        go_wp2
        go_ret
        exact ⟨⟨_, rfl, HR.out⟩, rfl⟩
      · have he' : (hexI k == b) = false := by simp [he]
        have HN2 : Hid (∀ j, j < k + 1 → hexI j ≠ b) := fun j hj => by
          rcases Nat.lt_or_ge j k with h | h
          · exact HN.out j h
          · rw [show j = k by omega]; exact he
        generalize hexI k = y at *
        clear he
        go_wp2
        go_roundw
        case rel => exact ⟨k + 1, by omega, by go_num, HN2, trivial⟩
        case measure => simp [intOf]; omega
    · have hi : ¬ (k : Int) < 16 := by omega
      have HR : Hid (NibR b (-1)) := ⟨by omega, by omega, fun j hj e => absurd e.symm (HN.out j (by omega))⟩
      go_wp2
      go_ret
      exact ⟨⟨_, rfl, HR.out⟩, rfl⟩

/-- What plain answers. -/
def PInv (s : ByteArray) (k : Nat) (vs : List Int) : Prop := ∀ T, Byt T → intsOf s = T.flatMap escI → ∃ T2, T = vs ++ T2 ∧ (intsOf s).drop k = T2.flatMap escI
theorem PInv.start {s : ByteArray} : PInv s 0 [] := fun T _ h => ⟨T, rfl, h⟩
theorem PInv.done {s : ByteArray} {k : Nat} {vs : List Int} (h : PInv s k vs) (hk : s.size ≤ k) : ∀ T, Byt T → intsOf s = T.flatMap escI → intsOf (strOf vs) = T := by
  intro T hT e
  obtain ⟨T2, rfl, e2⟩ := h T hT e
  rw [List.drop_eq_nil_of_le (by rw [intsOf_len]; omega)] at e2
  cases T2 with
  | nil => rw [List.append_nil] at hT ⊢; exact intsOf_strOf hT
  | cons b r =>
    obtain ⟨x, m, hx, _⟩ := esc_head (hT b (by simp))
    rw [List.flatMap_cons, hx] at e2
    cases e2
/-- One byte's spelling more. -/
theorem PInv.step {s : ByteArray} {k n : Nat} {vs us : List Int} (h : PInv s k vs) (hk : k < s.size) (hs : ∀ b m l, 0 ≤ b ∧ b ≤ 255 → Spl b m → (intsOf s).drop k = m ++ l → us = [b] ∧ m.length = n) : PInv s (k + n) (vs ++ us) := by
  intro T hT e
  obtain ⟨T2, rfl, e2⟩ := h T hT e
  cases T2 with
  | nil =>
    have := congrArg List.length e2
    rw [List.length_drop, intsOf_len] at this
    simp at this; omega
  | cons b r =>
    have hb := hT b (by simp)
    rw [List.flatMap_cons] at e2
    obtain ⟨rfl, hn⟩ := hs b _ _ hb (spl_esc hb) e2
    refine ⟨r, by simp, ?_⟩
    rw [← List.drop_drop, e2, ← hn, List.drop_left']
    rfl
theorem drop_at {s : ByteArray} {k i : Nat} {l : List Int} {x : Int} (e : (intsOf s).drop k = l) (hx : l[i]? = some x) : ∃ h : k + i < s.size, (s[k + i].toNat : Int) = x := by
  subst e
  rw [List.getElem?_drop] at hx
  exact at_of rfl hx
end Go.Proofs.YtleakainhpgldaaDoor
