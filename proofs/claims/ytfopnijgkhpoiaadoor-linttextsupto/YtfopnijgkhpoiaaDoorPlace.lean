/- lex.Place, at every text and every offset: it answers what the document's Place answers. -/
import Derived.Test.YtfopnijgkhpoiaaDoorProg
import Derived.Test.YtfopnijgkhpoiaaDoorPlacePure
import Derived.Test.YtfopnijgkhpoiaaDoorPlaceLay
namespace Go.Proofs.YtfopnijgkhpoiaaDoor
set_option linter.unusedSimpArgs false
set_option linter.unusedVariables false
open Go.RowKit

theorem count_place (l : List UInt8) : ∀ p : Nat × Nat, (l.foldl stepP p).1 = p.1 + l.count 10 := by
  induction l with
  | nil => intro p; rfl
  | cons b r ih =>
    intro p
    rw [List.foldl_cons, ih, List.count_cons]
    unfold stepP
    by_cases hb : b = 10
    · subst hb; simp; omega
    · have : ¬ b.toNat = 10 := fun h => hb (UInt8.toNat_inj.mp h)
      rw [if_neg this]; simp [hb]

theorem count_line (l : List UInt8) : (placeL l).1 = 1 + Lib.countByte l 10 := count_place l (1, 1)

theorem last_col (s : ByteArray) : ∀ k : Nat, k ≤ s.size → ((placeL (s.data.toList.take k)).2 : Int) = k - Lib.lastIdx s 10 k
  | 0, _ => rfl
  | k + 1, h => by
    have ih := last_col s k (by omega)
    rw [takeB_snoc s k (by omega), placeL_snoc]
    unfold stepP Lib.lastIdx
    have e : (s.data[k]!).toNat = s[k].toNat := by
      rw [getElem!_pos s.data k (by simpa using (show k < s.size by omega))]; rfl
    rw [e]
    by_cases hb : s[k].toNat = 10
    · rw [if_pos hb, if_pos (by omega)]; simp; omega
    · rw [if_neg hb, if_neg (by omega)]; simp; omega

theorem last_whole (s : ByteArray) : ((placeL s.data.toList).2 : Int) = s.size - Lib.lastIndexByte s 10 := by
  have := last_col s s.size (Nat.le_refl _)
  rw [List.take_of_length_le (by simp)] at this
  exact this

theorem extract_toList (s : ByteArray) (o : Nat) : (s.extract 0 o).data.toList = s.data.toList.take o := by
  simp [ByteArray.data_extract]

theorem count_call (s : ByteArray) (w : World) :
    Calls Tryd.prog 21 #[.string s, .string ⟨#[10]⟩] w fun e w' => e = .returned (.int .i64 (Lib.countByte s.data.toList 10)) ∧ w' = w :=
  Any.strings_Count_one Tryd.lays138 s 10 w

theorem last_call (s : ByteArray) (w : World) (hs : s.size < 4611686018427387904) :
    Calls Tryd.prog 22 #[.string s, .int .u8 10] w fun e w' => e = .returned (.int .i64 (Lib.lastIndexByte s 10)) ∧ w' = w :=
  Any.strings_LastIndexByte Tryd.lays149 s 10 hs w

set_option maxHeartbeats 400000 in
theorem place_any (s : ByteArray) (off : Int) (w : World) (hs : s.size ≤ 140737488351232) (ho : -9223372036854775808 ≤ off ∧ off ≤ 9223372036854775807) :
    Calls Tryd.prog 14 #[.string s, .int .i64 off] w fun e w' => e = .returned (.tuple #[.int .i64 (placeW s off).1, .int .i64 (placeW s off).2]) ∧ w' = w := by
  by_cases hn : off < 0
  · rw [show placeW s off = (0, 0) from if_neg (by omega)]
    go_enter Tryd.func14, Tryd.ntmps14
    go_wp2
    go_ret2
    exact ⟨rfl, rfl⟩
  by_cases hg : (s.size : Int) < off
  · rw [show placeW s off = (0, 0) from if_neg (by omega)]
    go_enter Tryd.func14, Tryd.ntmps14
    go_wp2
    go_ret2
    exact ⟨rfl, rfl⟩
  by_cases hl : (65536 : Int) < (s.size : Int)
  · rw [show placeW s off = (0, 0) from if_neg (by omega)]
    go_enter Tryd.func14, Tryd.ntmps14
    go_wp2
    go_ret2
    exact ⟨rfl, rfl⟩
  obtain ⟨o, rfl⟩ : ∃ o : Nat, off = o := ⟨off.toNat, by omega⟩
  have hR : Hid (placeW s (o : Int) = (((placeL (s.data.toList.take o)).1 : Int), ((placeL (s.data.toList.take o)).2 : Int))) := by
    show placeW s (o : Int) = _
    exact if_pos ⟨by omega, by omega, by omega⟩
  rw [hR.out]
  have hsz : (s.extract 0 o).size = o := by rw [ByteArray.size_extract]; omega
  obtain ⟨b1, b2, b3, b4⟩ := placeL_le s o (by omega)
  have hcl : 1 + Lib.countByte (s.extract 0 o).data.toList 10 = (placeL (s.data.toList.take o)).1 := by rw [← count_line, extract_toList]
  have hla : (o : Int) - Lib.lastIndexByte (s.extract 0 o) 10 = ((placeL (s.data.toList.take o)).2 : Int) := by
    rw [← extract_toList, last_whole, hsz]
  have HC := hide (count_call (s.extract 0 o) w)
  have HL := hide (last_call (s.extract 0 o) w (by omega))
  generalize Lib.countByte (s.extract 0 o).data.toList 10 = cn at *
  generalize Lib.lastIndexByte (s.extract 0 o) 10 = la at *
  generalize placeL (s.data.toList.take o) = P at *
  obtain ⟨x, y⟩ := P
  clear ho
  simp only at hcl hla b1 b2 b3 b4
  have hcl' := hide hcl
  have hla' := hide hla
  have hcb : (cn : Int) ≤ 65536 := by omega
  have hlb : -1 ≤ la ∧ la ≤ 65536 := by omega
  clear hcl hla
  go_enter Tryd.func14, Tryd.ntmps14
  go_wp2_with (first
    | (go_at_call 21; refine HC.out.mono ?_; rintro e w' ⟨rfl, hw'⟩; have hw' := hw'.symm; subst hw')
    | (go_at_call 22; refine HL.out.mono ?_; rintro e w' ⟨rfl, hw'⟩; have hw' := hw'.symm; subst hw'))
  go_ret2
  exact ⟨ret_two (by have := hcl'.out; omega) (by have := hla'.out; omega), rfl⟩

end Go.Proofs.YtfopnijgkhpoiaaDoor
