/- LexSpelled's own integer. -/
import Derived.Test.YtaemcbabegjfnaaDoorProg
import Derived.Test.YtaemcbabegjfnaaDoorPartPure
import Derived.Test.YtaemcbabegjfnaaDoorFmtLay
import Derived.Test.YtaemcbabegjfnaaDoorSmallCat
import Derived.Lib.SmallJoins
namespace Go.Proofs.YtaemcbabegjfnaaDoor
set_option linter.unusedSimpArgs false
set_option linter.unusedVariables false
open Go.RowKit
open Go.Lib (decDigits itoa)

theorem gPowL : Tryd.prog.globalNamed "internal/strconv.uint64pow10" = some 1 := by kernel_rfl
def TabLaidL (w : World) : Prop := Lib.TabIs Tryd.prog w "internal/strconv.uint64pow10" .u64 Lib.pow10Tab
theorem TabLaidL.kept {w w' : World} (h : TabLaidL w) (hb : Below w.heap.size w w') : TabLaidL w' := by
  unfold TabLaidL Lib.TabIs World.var? at h ⊢
  rw [gPowL] at h ⊢
  simp only [Option.bind_some] at h ⊢
  have hlt : 1 < w.heap.size := by
    rcases Nat.lt_or_ge 1 w.heap.size with h' | h'
    · exact h'
    · rw [Array.getElem?_eq_none h'] at h; cases h
  rw [hb.block _ hlt]; exact h
theorem below_growL (w : World) (k : Nat) (os : Array Obj) : Below w.heap.size w (Sort.grow (w.drewN k) os) :=
  ⟨rfl, rfl, rfl, by show w.heap.size ≤ (w.heap ++ os).size; simp, fun j hj => by show (w.heap ++ os)[j]? = w.heap[j]?; exact Array.getElem?_append_left hj⟩
theorem formatL (n : Int) (w : World) (hn : I64 n) (ht : TabLaidL w) :
    Calls Tryd.prog 15 #[.int .i64 n, .int .i64 10] w fun e w' => e = .returned (.string ⟨(itoa n).toArray⟩) ∧ Below w.heap.size w w' :=
  (Any.strconv_FormatInt_10 Tryd.lays173 n hn.1 hn.2 w ht).mono fun e w' ⟨he, k, os, hw⟩ => ⟨he, by rw [hw]; exact below_growL _ _ _⟩
theorem cat_arrL (l m : List UInt8) : (⟨l.toArray⟩ : ByteArray) ++ (⟨m.toArray⟩ : ByteArray) = ⟨(l ++ m).toArray⟩ := by
  have e : ((⟨l.toArray⟩ : ByteArray) ++ (⟨m.toArray⟩ : ByteArray)).data = (l ++ m).toArray := by rw [ByteArray.data_append]; simp
  exact congrArg ByteArray.mk e
theorem arr_sizeL (l : List UInt8) : (⟨l.toArray⟩ : ByteArray).size = l.length := by show l.toArray.size = _; simp
theorem zeros_len : ∀ z, (zeros z).length = z
  | 0 => rfl
  | z + 1 => by show (zeros z).length + 1 = _; rw [zeros_len z]
theorem dec_len64 (u : Nat) (h : u ≤ 9223372036854775808) : (decDigits u).length ≤ 20 := by
  rw [Go.Lib.decDigits_length]; exact Go.Lib.nDigits_le20 u (by omega)
theorem ext_tail (b : UInt8) (l : List UInt8) : ByteArray.extract ⟨(b :: l).toArray⟩ 1 (⟨(b :: l).toArray⟩ : ByteArray).size = ⟨l.toArray⟩ := by
  have e := ext_rest ⟨(b :: l).toArray⟩ 1 (by rw [arr_sizeL]; simp)
  have e2 := congrArg List.toArray e
  simp only [Array.toArray_toList] at e2
  exact congrArg ByteArray.mk e2

set_option maxRecDepth 100000 in
set_option maxHeartbeats 4000000 in
theorem intZ_any (v z : Int) (hv : I64 v) (w : World) (ht : TabLaidL w) : Calls Tryd.prog 10 #[.int .i64 v, .int .i64 z] w fun e w' => e = .returned (.string ⟨(intZ v z).toArray⟩) ∧ Below w.heap.size w w' := by
  have HF := hide (formatL v w hv ht)
  have hv' := hv
  unfold I64 at hv'
  obtain ⟨D, hD⟩ : ∃ D : List UInt8, D = (if v < 0 then decDigits v.natAbs else decDigits v.toNat) := ⟨_, rfl⟩
  obtain ⟨S, hS⟩ : ∃ S : List UInt8, S = (if v < 0 then [45] else []) := ⟨_, rfl⟩
  have hit : itoa v = S ++ D := by
    rw [hS, hD]
    unfold itoa
    split <;> rfl
  have hDl : D.length ≤ 20 := by rw [hD]; split <;> exact dec_len64 _ (by omega)
  have HRes : Hid (intZ v z = S ++ (zeros (zerosN z) ++ D)) := by
    show _ = _
    rw [hS, hD]
    unfold intZ
    split <;> rfl
  rw [HRes.out]
  rw [hit] at HF
  have HZn : Hid (zerosN z = min z.toNat 20) := rfl
  have hzc : ∀ (k : Nat) (W : World), k ≤ 20 → (Op.stringOp .add ⟨#[48]⟩ ⟨(zeros k ++ D).toArray⟩).run Tryd.prog W = .ok (.string ⟨(zeros (k + 1) ++ D).toArray⟩) W := fun k W hk => by
    rw [small_cat _ _ (by rw [arr_sizeL, arr_sizeL, List.length_append, zeros_len]; simp only [List.length_cons, List.length_nil]; omega), show (⟨#[48]⟩ : ByteArray) = ⟨([48] : List UInt8).toArray⟩ from rfl, cat_arrL]
    rfl
  have HZc := hide hzc
  have hsc : ∀ W : World, (Op.stringOp .add ⟨S.toArray⟩ ⟨(zeros (zerosN z) ++ D).toArray⟩).run Tryd.prog W = .ok (.string ⟨(S ++ (zeros (zerosN z) ++ D)).toArray⟩) W := fun W => by
    have hSl : S.length ≤ 1 := by rw [hS]; split <;> simp
    have hzl : zerosN z ≤ 20 := by rw [HZn.out]; omega
    rw [small_cat _ _ (by rw [arr_sizeL S, arr_sizeL (zeros (zerosN z) ++ D), List.length_append, zeros_len]; omega), cat_arrL]
  have HSc := hide hsc
  clear hzc hsc hit hv hv' ht HRes
  by_cases hneg : v < 0
  · have hS2 : S = [45] := by rw [hS, if_pos hneg]
    have hsl : ByteArray.extract ⟨(S ++ D).toArray⟩ 1 (⟨(S ++ D).toArray⟩ : ByteArray).size = ⟨D.toArray⟩ := by rw [hS2]; exact ext_tail 45 D
    have hs1 : (⟨(S ++ D).toArray⟩ : ByteArray).size = D.length + 1 := by rw [hS2, arr_sizeL]; simp
    obtain ⟨T, hT⟩ : ∃ T : ByteArray, T = ⟨(S ++ D).toArray⟩ := ⟨_, rfl⟩
    rw [← hT] at HF hsl hs1
    rw [hs1] at hsl
    have hone : (1 : Int) ≤ ((D.length + 1 : Nat) : Int) := by omega
    have hSb : (⟨#[45]⟩ : ByteArray) = ⟨S.toArray⟩ := by rw [hS2]
    have HSb := hide hSb
    have HDl := hide hDl
    clear hD hS hT hS2 hSb hDl
    go_enter Tryd.func10, Tryd.ntmps10
    go_wp2_with (go_at_call 15; refine HF.out.mono ?_; rintro e w2 ⟨rfl, hb2⟩; have HB2 := hide hb2; clear hb2)
    rw [HSb.out]
    go_loopw [5, 7] (fun sv i wl => ∃ k : Nat, k ≤ zerosN z ∧ i = .int .i64 k ∧ sv = .string ⟨(zeros k ++ D).toArray⟩ ∧ wl = w2) (fun _ i _ => 20 - (intOf i).toNat)
    case atStart => exact ⟨0, by omega, rfl, rfl, rfl⟩
    case round =>
      obtain ⟨k, hk, rfl, rfl, rfl⟩ := hrel
      have hz := HZn.out
      by_cases hlt : k < zerosN z
      · have hi : (k : Int) < z := by omega
        have hi2 : (k : Int) < 20 := by omega
        have hc := fun W => HZc.out k W (by omega)
        clear hz
        go_wp2
        go_roundw
        case rel => exact ⟨k + 1, by omega, by go_num, rfl, by trivial⟩
        case measure => simp [intOf]; omega
      · obtain rfl : k = zerosN z := by omega
        have hend : ¬ ((zerosN z : Nat) : Int) < z ∨ (((zerosN z : Nat) : Int) < z ∧ ¬ ((zerosN z : Nat) : Int) < 20) := by omega
        have hc := HSc.out
        clear hz
        rcases hend with hi | ⟨hi, hi2⟩ <;>
        · go_wp2
          go_ret
          exact ⟨rfl, HB2.out⟩
  · have hS2 : S = [] := by rw [hS, if_neg hneg]
    have hSb : (⟨#[]⟩ : ByteArray) = ⟨S.toArray⟩ := by rw [hS2]
    have HSb := hide hSb
    rw [show S ++ D = D from by rw [hS2]; rfl] at HF
    have HDl := hide hDl
    clear hD hS hS2 hSb hDl
    go_enter Tryd.func10, Tryd.ntmps10
    go_wp2_with (go_at_call 15; refine HF.out.mono ?_; rintro e w2 ⟨rfl, hb2⟩; have HB2 := hide hb2; clear hb2)
    rw [HSb.out]
    go_loopw [5, 7] (fun sv i wl => ∃ k : Nat, k ≤ zerosN z ∧ i = .int .i64 k ∧ sv = .string ⟨(zeros k ++ D).toArray⟩ ∧ wl = w2) (fun _ i _ => 20 - (intOf i).toNat)
    case atStart => exact ⟨0, by omega, rfl, rfl, rfl⟩
    case round =>
      obtain ⟨k, hk, rfl, rfl, rfl⟩ := hrel
      have hz := HZn.out
      by_cases hlt : k < zerosN z
      · have hi : (k : Int) < z := by omega
        have hi2 : (k : Int) < 20 := by omega
        have hc := fun W => HZc.out k W (by omega)
        clear hz
        go_wp2
        go_roundw
        case rel => exact ⟨k + 1, by omega, by go_num, rfl, by trivial⟩
        case measure => simp [intOf]; omega
      · obtain rfl : k = zerosN z := by omega
        have hend : ¬ ((zerosN z : Nat) : Int) < z ∨ (((zerosN z : Nat) : Int) < z ∧ ¬ ((zerosN z : Nat) : Int) < 20) := by omega
        have hc := HSc.out
        clear hz
        rcases hend with hi | ⟨hi, hi2⟩ <;>
        · go_wp2
          go_ret
          exact ⟨rfl, HB2.out⟩
end Go.Proofs.YtaemcbabegjfnaaDoor
