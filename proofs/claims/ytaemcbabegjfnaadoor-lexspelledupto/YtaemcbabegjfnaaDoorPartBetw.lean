/- LexSpelled's own between. -/
import Derived.Test.YtaemcbabegjfnaaDoorProg
import Derived.Test.YtaemcbabegjfnaaDoorPartWord
namespace Go.Proofs.YtaemcbabegjfnaaDoor
set_option linter.unusedSimpArgs false
set_option linter.unusedVariables false
open Go.RowKit

theorem getLastD_at {t : ByteArray} (h : 0 < t.size) : t.data.toList.getLastD 0 = t[t.size - 1] := by
  have hl : t.data.toList.length = t.size := rfl
  have h1 : t.data.toList[t.data.toList.length - 1]? = some t[t.size - 1] := by rw [hl, List.getElem?_eq_getElem (by omega)]; rfl
  rw [List.getLastD_eq_getLast?, List.getLast?_eq_getElem?, h1]
  rfl
theorem headD_at {t : ByteArray} (h : 0 < t.size) : t.data.toList.headD 0 = t[0] := by
  obtain ⟨⟨l⟩⟩ := t
  cases l with
  | nil => exact absurd h (by decide)
  | cons b r => rfl

set_option maxRecDepth 100000 in
set_option maxHeartbeats 8000000 in
theorem between_any (t s : ByteArray) (g : Int) (w : World) (ht : 0 < t.size) (hs : 0 < s.size) (htz : t.size ≤ 1000000) : Calls Tryd.prog 5 #[.string t, .string s, .int .i64 g] w fun e w' => e = .returned (.string ⟨(betwL (t.data.toList.getLastD 0) (s.data.toList.headD 0) g).toArray⟩) ∧ w' = w := by
  have h0 : (t.toList == []) = false := by
    rw [ByteArray.toList_eq]
    have : t.data.toList.length = t.size := rfl
    cases e : t.data.toList with
    | nil => rw [e] at this; simp at this; omega
    | cons a b => rfl
  rw [getLastD_at ht, headD_at hs]
  obtain ⟨B, hB⟩ : ∃ B, B = betwL t[t.size - 1] s[0] g := ⟨_, rfl⟩
  rw [← hB]
  by_cases e1 : g = 1
  · subst e1
    have HF : Hid (B = [32]) := by show _ = _; rw [hB]; rfl
    clear hB
    rw [HF.out]
    go_enter Tryd.func5, Tryd.ntmps5
    go_wp2
    go_ret
    exact ⟨rfl, rfl⟩
  by_cases e2 : g = 2
  · subst e2
    have HF : Hid (B = gap2) := by show _ = _; rw [hB]; rfl
    clear hB
    rw [HF.out]
    go_enter Tryd.func5, Tryd.ntmps5
    go_wp2
    go_ret
    exact ⟨rfl, rfl⟩
  by_cases e3 : g = 3
  · subst e3
    have HF : Hid (B = gap3) := by show _ = _; rw [hB]; rfl
    clear hB
    rw [HF.out]
    go_enter Tryd.func5, Tryd.ntmps5
    go_wp2
    go_ret
    exact ⟨rfl, rfl⟩
  by_cases e4 : g = 4
  · subst e4
    have HF : Hid (B = [10]) := by show _ = _; rw [hB]; rfl
    clear hB
    rw [HF.out]
    go_enter Tryd.func5, Tryd.ntmps5
    go_wp2
    go_ret
    exact ⟨rfl, rfl⟩
  have f1 : (g == 1) = false := by simpa using e1
  have f2 : (g == 2) = false := by simpa using e2
  have f3 : (g == 3) = false := by simpa using e3
  have f4 : (g == 4) = false := by simpa using e4
  unfold betwL at hB
  rw [if_neg e1, if_neg e2, if_neg e3, if_neg e4] at hB
  clear e1 e2 e3 e4
  have HB := hide hB
  clear hB
  have hlast : t.size - 1 < t.size := by omega
  have key : ∀ n m : Int, ∀ x y : UInt8, n = (x.toNat : Int) → m = (y.toNat : Int) → (x == 60) = (n == 60) ∧ (x == 62) = (n == 62) ∧ (y == 61) = (m == 61) := by
    intro n m x y hn hm
    have k1 : ∀ (z : UInt8) (v : Nat), v < 256 → (z == UInt8.ofNat v) = ((z.toNat : Int) == (v : Int)) := by
      intro z v hv
      by_cases e : z.toNat = v
      · have : z = UInt8.ofNat v := UInt8.toNat_inj.1 (by rw [e, UInt8.toNat_ofNat']; omega)
        rw [this]; simp [UInt8.toNat_ofNat', Nat.mod_eq_of_lt hv]
      · have : z ≠ UInt8.ofNat v := fun h => e (by rw [h, UInt8.toNat_ofNat']; omega)
        have h2 : ¬ (z.toNat : Int) = (v : Int) := by omega
        rw [beq_eq_false_iff_ne.2 this, beq_eq_false_iff_ne.2 h2]
    subst hn hm
    exact ⟨k1 x 60 (by decide), k1 x 62 (by decide), k1 y 61 (by decide)⟩
  obtain ⟨k60, k62, k61⟩ := key _ _ t[t.size - 1] s[0] rfl rfl
  have HB2 : Hid (B = if bWord ((t[t.size - 1].toNat : Nat) : Int) && bWord ((s[0].toNat : Nat) : Int) then [32] else if (((t[t.size - 1].toNat : Nat) : Int) == 60 || ((t[t.size - 1].toNat : Nat) : Int) == 62) && ((s[0].toNat : Nat) : Int) == 61 then [9] else []) := by
    show _ = _
    rw [← k60, ← k62, ← k61]
    exact HB.out
  clear k60 k62 k61 key HB
  have hsi : (0 : Int) < (s.size : Int) := by omega
  cases X1 : bWord ((t[t.size - 1].toNat : Nat) : Int) <;> cases X2 : bWord ((s[0].toNat : Nat) : Int) <;> cases Y1 : (((t[t.size - 1].toNat : Nat) : Int) == 60) <;> cases Y2 : (((t[t.size - 1].toNat : Nat) : Int) == 62) <;> cases Y3 : (((s[0].toNat : Nat) : Int) == 61) <;>
  · have HF := HB2.out
    rw [X1, X2, Y1, Y2, Y3] at HF
    have HFh := hide HF
    clear HF HB2
    go_enter Tryd.func5, Tryd.ntmps5
    go_wp2_with (go_at_call 12; refine (wordy_any _ _).mono ?_; rintro e w2 ⟨rfl, rfl⟩; first | rw [X1] | rw [X2])
    go_ret
    rw [HFh.out]
    exact ⟨rfl, rfl⟩
end Go.Proofs.YtaemcbabegjfnaaDoor
