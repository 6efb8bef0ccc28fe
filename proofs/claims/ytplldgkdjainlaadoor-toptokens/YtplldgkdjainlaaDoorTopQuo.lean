/- What quoted of edicttop answers where a text stands. -/
import Derived.Test.YtplldgkdjainlaaDoorProg
import Derived.Test.YtplldgkdjainlaaDoorTopEsc
import Derived.Test.YtplldgkdjainlaaDoorLexText
namespace Go.Proofs.YtplldgkdjainlaaDoor
set_option linter.unusedSimpArgs false
set_option linter.unusedVariables false
open Go.RowKit

/-- From place i to its end a string spells these bytes. -/
inductive QSp (T : ByteArray) : Nat → List Int → Prop
  | done : QSp T T.size []
  | plain (i : Nat) (h : i < T.size) (vs : List Int) (h1 : (T[i].toNat : Int) ≠ 34) (h2 : 32 ≤ (T[i].toNat : Int)) (h3 : (T[i].toNat : Int) ≠ 92) (hr : QSp T (i + 1) vs) : QSp T i ((T[i].toNat : Int) :: vs)
  | esc (i n : Nat) (b : Int) (h : i < T.size) (vs : List Int) (h1 : (T[i].toNat : Int) = 92) (he : escX (T.extract i T.size) = (b, (n : Int))) (h0 : 0 < n) (h2 : i + n ≤ T.size) (hr : QSp T (i + n) vs) : QSp T i (b :: vs)
theorem strOf_at {V : List Int} {k : Nat} {b : Int} {vs : List Int} (h : V.drop k = b :: vs) (hb : 0 ≤ b ∧ b ≤ 255) : ∃ h1 : k < (strOf V).size, ((strOf V)[k].toNat : Int) = b ∧ V.drop (k + 1) = vs := by
  have hk : k < V.length := by
    rcases Nat.lt_or_ge k V.length with h1 | h1
    · exact h1
    · rw [List.drop_eq_nil_of_le h1] at h; cases h
  have hv : V[k]? = some b := by
    have := congrArg List.head? h
    rw [List.head?_drop] at this
    exact this
  have hs1 : k < (strOf V).size := by rw [strOf_size]; exact hk
  refine ⟨hs1, ?_, ?_⟩
  · have h2 : (strOf V).data.toList[k]? = some (strOf V)[k] := by
      rw [Array.getElem?_toList]
      exact Array.getElem?_eq_getElem hs1
    rw [strOf_data, List.getElem?_map, hv] at h2
    have h3 : (strOf V)[k] = byteOf b := (Option.some.inj h2).symm
    rw [h3]
    unfold byteOf
    rw [UInt8.toNat_ofNat']
    omega
  · have := congrArg List.tail h
    rw [List.tail_drop] at this
    exact this

set_option maxRecDepth 100000 in
set_option maxHeartbeats 4000000 in
theorem tquoted_any (q T : ByteArray) (V : List Int) (w : World) (hs : q.size ≤ 140737488351232) (h2 : 2 ≤ q.size) (hT : T = q.extract 0 (q.size - 1)) (h34 : (q[0].toNat : Int) = 34) (h34' : (q[q.size - 1].toNat : Int) = 34) (hV : ∀ b ∈ V, 0 ≤ b ∧ b ≤ 255) (hVl : V.length ≤ 140737488351232) (hq : QSp T 1 V) :
    Calls Tryd.prog 30 #[.string q, .string (strOf V)] w fun e w' => e = .returned (.bool true) ∧ Below w.heap.size w w' := by
  have h2' : ¬ (q.size : Int) < 2 := by omega
  have h0' : (0 : Int) < (q.size : Int) := by omega
  have hl : (q.size : Int) - 1 < (q.size : Int) := by omega
  have hl0 : (0 : Int) ≤ (q.size : Int) - 1 := by omega
  have e0 : ((q[0].toNat : Int) != 34) = false := by rw [h34]; rfl
  have e1 : ((q[q.size - 1].toNat : Int) != 34) = false := by rw [h34']; rfl
  have hTs : T.size = q.size - 1 := by rw [hT, ByteArray.size_extract]; omega
  have HTq : Hid (∀ (i : Nat) (h : i < T.size), ∃ h' : i < q.size, T[i] = q[i]) := fun i h => by
    refine ⟨by omega, ?_⟩
    subst hT
    have g1 : (q.extract 0 (q.size - 1)).data.toList[i]? = some (q.extract 0 (q.size - 1))[i] := by
      rw [Array.getElem?_toList]
      exact Array.getElem?_eq_getElem h
    rw [ByteArray.data_extract, Array.toList_extract, List.extract_eq_take_drop, List.drop_zero, List.getElem?_take_of_lt (by omega), Array.getElem?_toList, Array.getElem?_eq_getElem (by show i < q.size; omega)] at g1
    exact (Option.some.inj g1).symm
  have HV := hide hV
  have HQ := hide hq
  have hVs : (strOf V).size = V.length := strOf_size V
  have HSt := hide (fun (k : Nat) (b : Int) (vs : List Int) (h : V.drop k = b :: vs) (hb : 0 ≤ b ∧ b ≤ 255) => strOf_at h hb)
  have hTx : q.extract 0 (q.size - 1) = T := hT.symm
  clear h34 h34' hV hq hT
  generalize strOf V = v at *
  go_enter Tryd.func30, Tryd.ntmps30
  go_wp2
  go_loopw [5, 6] (fun kv i wl => ∃ (k i0 : Nat) (vs : List Int), i0 ≤ T.size ∧ 1 ≤ i0 ∧ kv = .int .i64 k ∧ i = .int .i64 i0 ∧ k + vs.length = V.length ∧ Hid (V.drop k = vs) ∧ Hid (QSp T i0 vs) ∧ Hid (Below w.heap.size w wl)) (fun _ i _ => T.size - (intOf i).toNat)
  case atStart => exact ⟨0, 1, V, by omega, by omega, rfl, rfl, by omega, rfl, HQ, Below.refl _ _⟩
  case round =>
    clear HQ
    obtain ⟨k, i, vs, hi, hi1, rfl, rfl, hk, HD, HQ, HB⟩ := hrel
    by_cases hlt : i < T.size
    · have hlt' : (i : Int) < (q.size : Int) - 1 := by omega
      have hltq : (i : Int) < (q.size : Int) := by omega
      have hltn : i < q.size := by omega
      have hi0 : (0 : Int) ≤ (i : Int) := by omega
      obtain ⟨_, hTi⟩ := HTq.out i hlt
      rcases hqc : HQ.out with _ | ⟨_, _, vs', a1, a2, a3, hr⟩ | ⟨_, n, b, _, vs', a1, he, hn0, hn2, hr⟩
      · omega
      · obtain ⟨b1, b2, b3⟩ := HSt.out k _ vs' HD.out (by have := T[i].toNat_lt; omega)
        have HD2 := hide b3
        have HQ2 := hide hr
        rw [hTi] at a1 a2 a3 b2
        have f1 : ((q[i].toNat : Int) == 34) = false := by simpa using a1
        have f2 : ¬ (q[i].toNat : Int) < 32 := by omega
        have f3 : ((q[i].toNat : Int) == 92) = false := by simpa using a3
        have f4 : ¬ (v.size : Int) ≤ (k : Int) := by omega
        have f5 : (k : Int) < (v.size : Int) := by omega
        have f6 : (0 : Int) ≤ (k : Int) := by omega
        have f7 : ((v[k].toNat : Int) != (q[i].toNat : Int)) = false := by rw [b2]; simp
        simp only [List.length_cons] at hk
        clear hqc a1 a2 a3 b3 HD HQ hTi b2
        go_wp2
        go_roundw
        case rel => exact ⟨k + 1, i + 1, vs', by omega, by omega, by go_num, by go_num, by omega, HD2, HQ2, HB⟩
        case measure => simp [intOf]; omega
      · have hTz : T.size ≤ 140737488351232 := by omega
        have hbb := (escX_bounds (T.extract i T.size)).2
        rw [he] at hbb
        simp only at hbb
        obtain ⟨b1, b2, b3⟩ := HSt.out k _ vs' HD.out hbb
        have HD2 := hide b3
        have HQ2 := hide hr
        have HE := hide (tesc_any T i wr hTz hlt)
        rw [escV_of he] at HE
        rw [hTi] at a1
        have f1 : ((q[i].toNat : Int) == 34) = false := by rw [a1]; rfl
        have f2 : ¬ (q[i].toNat : Int) < 32 := by omega
        have f3 : ((q[i].toNat : Int) == 92) = true := by rw [a1]; rfl
        have f4 : ¬ (v.size : Int) ≤ (k : Int) := by omega
        have f5 : (k : Int) < (v.size : Int) := by omega
        have f6 : (0 : Int) ≤ (k : Int) := by omega
        have f7 : ((v[k].toNat : Int) != b) = false := by rw [b2]; simp
        have f8 : ((n : Int) == 0) = false := by simp; omega
        have f9 : (q.size : Int) - 1 ≤ (q.size : Int) := by omega
        have f10 : ((q.size : Int) - 1).toNat = q.size - 1 := by omega
        simp only [List.length_cons] at hk
        clear hqc a1 b3 HD HQ hTi he b2
        go_wp2_with (go_at_call 31; refine HE.out.mono ?_; rintro e w3 ⟨rfl, hb3⟩; have HB3 := hide (HB.out.trans (hb3.mono HB.out.size)); clear hb3)
        go_roundw
        case rel => exact ⟨k + 1, i + n, vs', by omega, by omega, by go_num, by go_num, by omega, HD2, HQ2, HB3⟩
        case measure => simp [intOf]; omega
    · have hlt' : ¬ (i : Int) < (q.size : Int) - 1 := by omega
      have hv0 : vs = [] := by
        rcases hqc : HQ.out with _ | ⟨_, h, _⟩ | ⟨_, _, _, h, _⟩
        · rfl
        · omega
        · omega
      have hkv : ((k : Int) == (V.length : Int)) = true := by
        rw [hv0] at hk
        simp only [List.length_nil] at hk
        simp
        omega
      go_wp2
      go_ret
      exact ⟨rfl, HB.out⟩
end Go.Proofs.YtplldgkdjainlaaDoor
