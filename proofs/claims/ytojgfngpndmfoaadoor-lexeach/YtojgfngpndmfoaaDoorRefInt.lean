/- What the document's integer answers: as lex.integer. -/
import Derived.Test.YtojgfngpndmfoaaDoorProg
import Derived.Test.YtojgfngpndmfoaaDoorRefIntPure
import Derived.Test.YtojgfngpndmfoaaDoorRefWord
namespace Go.Proofs.YtojgfngpndmfoaaDoor
set_option linter.unusedSimpArgs false
set_option linter.unusedVariables false
open Go.RowKit
attribute [local go_sem] over_cellAt over_frozenAt over_setAt

theorem ext_at (s : ByteArray) (f q i : Nat) (h : f + i < q) (hq : q ≤ s.size) : (s.extract f q).data.toList[i]? = some (s[f + i]'(by omega)) := by
  rw [ByteArray.data_extract, Array.toList_extract, List.extract_eq_take_drop, List.getElem?_take_of_lt (by omega), List.getElem?_drop, Array.getElem?_toList]
  exact Array.getElem?_eq_getElem (by show f + i < s.size; omega)

theorem ext_len (s : ByteArray) (f q : Nat) (hq : q ≤ s.size) : (s.extract f q).data.toList.length = q - f := by
  rw [Array.length_toList]; show (s.extract f q).size = _; rw [ByteArray.size_extract]; omega

theorem bDig_iff (b : UInt8) : bDig (b.toNat : Int) = true ↔ 48 ≤ b.toNat ∧ b.toNat ≤ 57 := by
  unfold bDig
  simp only [Bool.and_eq_true, decide_eq_true_eq]
  omega

theorem all_bytes (s : ByteArray) (f q : Nat) (hq : q ≤ s.size) (h : ∀ j (hj : j < s.size), f ≤ j → j < q → bDig ((s[j]'hj).toNat : Int) = true) : AllD (s.extract f q).data.toList := by
  intro c hc
  obtain ⟨i, hi⟩ := List.mem_iff_getElem?.1 hc
  have hlt : i < q - f := by rw [← ext_len s f q hq]; exact (List.getElem?_eq_some_iff.1 hi).1
  rw [ext_at s f q i (by omega) hq] at hi
  have := Option.some.inj hi
  rw [← this]
  exact (bDig_iff _).1 (h (f + i) (by omega) (by omega) (by omega))

theorem not_all (s : ByteArray) (f q j : Nat) (hq : q ≤ s.size) (h1 : f ≤ j) (h2 : j < q) (h : bDig ((s[j]'(by omega)).toNat : Int) = false) : ¬ AllD (s.extract f q).data.toList := by
  intro ha
  have e := ext_at s f q (j - f) (by omega) hq
  have hm : s[f + (j - f)]'(by omega) ∈ (s.extract f q).data.toList := List.mem_iff_getElem?.2 ⟨_, e⟩
  have := (bDig_iff _).2 (ha _ hm)
  have e2 : s[f + (j - f)]'(by omega) = s[j]'(by omega) := by congr 1; omega
  rw [e2, h] at this
  cases this

theorem take_snoc8 (l : List UInt8) (k : Nat) (c : UInt8) (h : l[k]? = some c) : l.take (k + 1) = l.take k ++ [c] := by
  rw [List.take_add_one, h]; rfl


def bound_p : ByteArray := ⟨#[57, 50, 50, 51, 51, 55, 50, 48, 51, 54, 56, 53, 52, 55, 55, 53, 56, 48, 55]⟩
theorem bound_p_num : AllD bound_p.data.toList ∧ numA 0 bound_p.data.toList = 9223372036854775807 := by
  constructor
  · unfold AllD bound_p; decide
  · decide +kernel

set_option maxHeartbeats 2000000 in
set_option maxRecDepth 100000 in
theorem rint_pos (s : ByteArray) (o f q : Nat) (w : World) (X : Nx) (hs : s.size ≤ 140737488351232) (hno : ¬ (o : Int) < (f : Int)) (ho : o ≤ s.size) (hq : q = f + runC (rest s f)) (hfq : f < q) (hqs : q ≤ s.size)
    (h1 : ¬ AllD (s.extract f q).data.toList → X = .bad 13 o) (h2 : AllD (s.extract f q).data.toList → ¬ numA 0 (s.extract f q).data.toList ≤ 9223372036854775807 → X = .bad 13 o)
    (h3 : AllD (s.extract f q).data.toList → numA 0 (s.extract f q).data.toList ≤ 9223372036854775807 → X = .tok ⟨3, ⟨#[]⟩, (numA 0 (s.extract f q).data.toList : Int), 0, o, q⟩) :
    Calls Tryd.prog 34 #[.string s, .int .i64 o, .int .i64 f] w fun e w' => e = .returned X.val ∧ Below w.heap.size w w' := by
  have HR := hide (fun W => rrun_any s f W hs (by omega))
  rw [← hq] at HR
  replace hq := hide hq
  replace h1 := hide h1
  replace h2 := hide h2
  replace h3 := hide h3
  have hf1 : (f : Int) < (s.size : Int) := by omega
  have hq1 : (f : Int) ≤ (q : Int) := by omega
  have hq2 : (q : Int) ≤ (s.size : Int) := by omega
  go_enter Tryd.func34, Tryd.ntmps34
  go_wp2_with (first | (go_at_call 56; refine (HR.out _).mono ?_; rintro e w' ⟨rfl, hw'⟩; have hw' := hw'.symm; subst hw'))
  go_loop [9] (fun i => ∃ k : Nat, f ≤ k ∧ k ≤ q ∧ i = .int .i64 k ∧ Hid (∀ j (hj : j < s.size), f ≤ j → j < k → bDig ((s[j]'hj).toNat : Int) = true)) (fun i => q - (intOf i).toNat)
  case atStart => exact ⟨f, by omega, by omega, rfl, fun j hj ha hb => absurd hb (by omega)⟩
  case round =>
    obtain ⟨k, hk1, hk2, rfl, HK⟩ := hrel
    by_cases hlt : k < q
    · have hi : (k : Int) < (q : Int) := by omega
      have hi2 : (k : Int) < (s.size : Int) := by omega
      have hks : k < s.size := by omega
      have hbb : (0 : Int) ≤ (s[k].toNat : Int) ∧ (s[k].toNat : Int) ≤ 255 := by have := s[k].toNat_lt; omega
      have HD := hide (fun W => rdig_any (s[k].toNat : Int) W hbb)
      cases hd : bDig (s[k].toNat : Int) with
      | true =>
        rw [hd] at HD
        have HN : Hid (∀ j (hj : j < s.size), f ≤ j → j < k + 1 → bDig ((s[j]'hj).toNat : Int) = true) := fun j hj ha hb => by
          by_cases hjk : j = k
          · subst hjk; exact hd
          · exact HK.out j hj ha (by omega)
        clear HK hd
        go_wp2_with (first | (go_at_call 33; refine (HD.out _).mono ?_; rintro e w' ⟨rfl, hw'⟩; have hw' := hw'.symm; subst hw'))
        go_round
        case rel => exact ⟨k + 1, by omega, by omega, by go_num, HN⟩
        case measure => simp [intOf]; omega
      | false =>
        rw [hd] at HD
        have HX : Hid (X = .bad 13 o) := h1.out (not_all s f q k hqs hk1 hlt hd)
        clear HK hd
        go_wp2_with (first | (go_at_call 33; refine (HD.out _).mono ?_; rintro e w' ⟨rfl, hw'⟩; have hw' := hw'.symm; subst hw') | (go_at_call 17; refine (rfault_any _ _ _).mono ?_; rintro e w' ⟨rfl, hb'⟩; obtain ⟨x, rfl⟩ := over_of hb'; clear hb'))
        exact bodyPost_ret (v := (Nx.bad 13 o).val) (by simp [results, Tryd.results34, go_sem, Nx.val, tokZero, faultVal]) rfl ⟨by rw [HX.out], below2_over _ _ _ _⟩
    · obtain rfl : k = q := by omega
      have hall := all_bytes s f k hqs (fun j hj ha hb => HK.out j hj ha hb)
      have HA := hide (fun W => above_any (s.extract f k) bound_p W (by rw [ByteArray.size_extract]; omega) (by decide) (by decide))
      rw [above_num _ _ hall bound_p_num.1 57 _ rfl (by decide), bound_p_num.2] at HA
      clear HK
      by_cases hab : numA 0 (s.extract f k).data.toList ≤ 9223372036854775807
      · have HX : Hid (X = _) := h3.out hall hab
        rw [show decide (9223372036854775807 < numA 0 (s.extract f k).data.toList) = false from decide_eq_false (by omega)] at HA
        replace hab := hide hab
        replace hall := hide hall
        have hz : (s.extract f k).data.toList.length = k - f := ext_len s f k hqs
        have hz2 : (s.extract f k).size = k - f := by rw [ByteArray.size_extract]; omega
        replace hz := hide hz
        go_wp2_with (first | (go_at_call 57; refine (HA.out _).mono ?_; rintro e w' ⟨rfl, hw'⟩; have hw' := hw'.symm; subst hw'))
        clear HA HR h1 h2 h3
        generalize s.extract f k = D at HX hab hall hz hz2 ⊢
        go_loop [12, 13] (fun v i => ∃ m : Nat, m ≤ k - f ∧ i = .int .i64 m ∧ ∃ V : Int, v = .int .i64 V ∧ Hid (V = (numA 0 (D.data.toList.take m) : Int))) (fun _ i => (k - f) - (intOf i).toNat)
        case atStart => exact ⟨0, by omega, rfl, 0, rfl, by show _ = _; simp [numA_n]⟩
        case round =>
          obtain ⟨m, hm, rfl, V, rfl, HV⟩ := hrel
          by_cases hml : m < k - f
          · have hm1 : (m : Int) < (D.size : Int) := by omega
            have hmD : m < D.size := by omega
            have hd := hall.out (D[m]'hmD) (by rw [List.mem_iff_getElem?]; exact ⟨m, by rw [Array.getElem?_toList]; exact Array.getElem?_eq_getElem hmD⟩)
            have hsn := take_snoc8 D.data.toList m (D[m]'hmD) (by rw [Array.getElem?_toList]; exact Array.getElem?_eq_getElem hmD)
            have hn := numA_snoc (D.data.toList.take m) 0 (D[m]'hmD)
            rw [← hsn] at hn
            have hle := numA_take D.data.toList (m + 1)
            have hab' := hab.out
            have hV := HV.out
            obtain ⟨d, hdd⟩ : ∃ d : Int, d = ((D[m]'hmD).toNat : Int) := ⟨_, rfl⟩
            have d1 : 48 ≤ d := by omega
            have d2 : d ≤ 57 := by omega
            have r1 : -9223372036854775808 ≤ V * 10 := by omega
            have r2 : V * 10 ≤ 9223372036854775807 := by omega
            have r3 : -9223372036854775808 ≤ V * 10 + (d - 48) := by omega
            have r4 : V * 10 + (d - 48) ≤ 9223372036854775807 := by omega
            have HN : Hid (V * 10 + (d - 48) = (numA 0 (D.data.toList.take (m + 1)) : Int)) := by show _ = _; omega
            replace hdd := hdd.symm
            clear hd hsn hn hle hab' hV
            go_wp2
            go_round
            case rel => exact ⟨m + 1, by omega, by go_num, _, by first | rfl | go_num, HN⟩
            case measure => simp [intOf]; omega
          · obtain rfl : m = k - f := by omega
            have hm1 : ¬ ((k - f : Nat) : Int) < (D.size : Int) := by omega
            have HY : Hid (X = .tok ⟨3, ⟨#[]⟩, V, 0, o, k⟩) := by
              show X = _
              rw [HX.out, HV.out, ← hz.out, List.take_length]
            clear HX HV
            go_wp2
            exact bodyPost_ret (v := (Nx.tok ⟨3, ⟨#[]⟩, V, 0, o, k⟩).val) (by simp [results, Tryd.results34, go_sem, Nx.val, Tok.val, faultVal]) rfl ⟨by rw [HY.out], below2 _ _ _⟩
      · have HX : Hid (X = .bad 13 o) := h2.out hall hab
        rw [show decide (9223372036854775807 < numA 0 (s.extract f k).data.toList) = true from decide_eq_true (by omega)] at HA
        clear hab
        replace hall := hide hall
        go_wp2_with (first | (go_at_call 57; refine (HA.out _).mono ?_; rintro e w' ⟨rfl, hw'⟩; have hw' := hw'.symm; subst hw') | (go_at_call 17; refine (rfault_any _ _ _).mono ?_; rintro e w' ⟨rfl, hb'⟩; obtain ⟨x, rfl⟩ := over_of hb'; clear hb'))
        exact bodyPost_ret (v := (Nx.bad 13 o).val) (by simp [results, Tryd.results34, go_sem, Nx.val, tokZero, faultVal]) rfl ⟨by rw [HX.out], below2_over _ _ _ _⟩

def bound_n : ByteArray := ⟨#[57, 50, 50, 51, 51, 55, 50, 48, 51, 54, 56, 53, 52, 55, 55, 53, 56, 48, 56]⟩
theorem bound_n_num : AllD bound_n.data.toList ∧ numA 0 bound_n.data.toList = 9223372036854775808 := by
  constructor
  · unfold AllD bound_n; decide
  · decide +kernel

set_option maxHeartbeats 2000000 in
set_option maxRecDepth 100000 in
theorem rint_neg (s : ByteArray) (o f q : Nat) (w : World) (X : Nx) (hs : s.size ≤ 140737488351232) (hno : (o : Int) < (f : Int)) (ho : o ≤ s.size) (hq : q = f + runC (rest s f)) (hfq : f < q) (hqs : q ≤ s.size)
    (h1 : ¬ AllD (s.extract f q).data.toList → X = .bad 13 o) (h2 : AllD (s.extract f q).data.toList → ¬ numA 0 (s.extract f q).data.toList ≤ 9223372036854775808 → X = .bad 13 o)
    (h3 : AllD (s.extract f q).data.toList → numA 0 (s.extract f q).data.toList ≤ 9223372036854775808 → X = .tok ⟨3, ⟨#[]⟩, (-(numA 0 (s.extract f q).data.toList : Int)), 0, o, q⟩) :
    Calls Tryd.prog 34 #[.string s, .int .i64 o, .int .i64 f] w fun e w' => e = .returned X.val ∧ Below w.heap.size w w' := by
  have HR := hide (fun W => rrun_any s f W hs (by omega))
  rw [← hq] at HR
  replace hq := hide hq
  replace h1 := hide h1
  replace h2 := hide h2
  replace h3 := hide h3
  have hf1 : (f : Int) < (s.size : Int) := by omega
  have hq1 : (f : Int) ≤ (q : Int) := by omega
  have hq2 : (q : Int) ≤ (s.size : Int) := by omega
  go_enter Tryd.func34, Tryd.ntmps34
  go_wp2_with (first | (go_at_call 56; refine (HR.out _).mono ?_; rintro e w' ⟨rfl, hw'⟩; have hw' := hw'.symm; subst hw'))
  go_loop [9] (fun i => ∃ k : Nat, f ≤ k ∧ k ≤ q ∧ i = .int .i64 k ∧ Hid (∀ j (hj : j < s.size), f ≤ j → j < k → bDig ((s[j]'hj).toNat : Int) = true)) (fun i => q - (intOf i).toNat)
  case atStart => exact ⟨f, by omega, by omega, rfl, fun j hj ha hb => absurd hb (by omega)⟩
  case round =>
    obtain ⟨k, hk1, hk2, rfl, HK⟩ := hrel
    by_cases hlt : k < q
    · have hi : (k : Int) < (q : Int) := by omega
      have hi2 : (k : Int) < (s.size : Int) := by omega
      have hks : k < s.size := by omega
      have hbb : (0 : Int) ≤ (s[k].toNat : Int) ∧ (s[k].toNat : Int) ≤ 255 := by have := s[k].toNat_lt; omega
      have HD := hide (fun W => rdig_any (s[k].toNat : Int) W hbb)
      cases hd : bDig (s[k].toNat : Int) with
      | true =>
        rw [hd] at HD
        have HN : Hid (∀ j (hj : j < s.size), f ≤ j → j < k + 1 → bDig ((s[j]'hj).toNat : Int) = true) := fun j hj ha hb => by
          by_cases hjk : j = k
          · subst hjk; exact hd
          · exact HK.out j hj ha (by omega)
        clear HK hd
        go_wp2_with (first | (go_at_call 33; refine (HD.out _).mono ?_; rintro e w' ⟨rfl, hw'⟩; have hw' := hw'.symm; subst hw'))
        go_round
        case rel => exact ⟨k + 1, by omega, by omega, by go_num, HN⟩
        case measure => simp [intOf]; omega
      | false =>
        rw [hd] at HD
        have HX : Hid (X = .bad 13 o) := h1.out (not_all s f q k hqs hk1 hlt hd)
        clear HK hd
        go_wp2_with (first | (go_at_call 33; refine (HD.out _).mono ?_; rintro e w' ⟨rfl, hw'⟩; have hw' := hw'.symm; subst hw') | (go_at_call 17; refine (rfault_any _ _ _).mono ?_; rintro e w' ⟨rfl, hb'⟩; obtain ⟨x, rfl⟩ := over_of hb'; clear hb'))
        exact bodyPost_ret (v := (Nx.bad 13 o).val) (by simp [results, Tryd.results34, go_sem, Nx.val, tokZero, faultVal]) rfl ⟨by rw [HX.out], below2_over _ _ _ _⟩
    · obtain rfl : k = q := by omega
      have hall := all_bytes s f k hqs (fun j hj ha hb => HK.out j hj ha hb)
      have HA := hide (fun W => above_any (s.extract f k) bound_n W (by rw [ByteArray.size_extract]; omega) (by decide) (by decide))
      rw [above_num _ _ hall bound_n_num.1 57 _ rfl (by decide), bound_n_num.2] at HA
      clear HK
      by_cases hab : numA 0 (s.extract f k).data.toList ≤ 9223372036854775808
      · have HX : Hid (X = _) := h3.out hall hab
        rw [show decide (9223372036854775808 < numA 0 (s.extract f k).data.toList) = false from decide_eq_false (by omega)] at HA
        replace hab := hide hab
        replace hall := hide hall
        have hz : (s.extract f k).data.toList.length = k - f := ext_len s f k hqs
        have hz2 : (s.extract f k).size = k - f := by rw [ByteArray.size_extract]; omega
        replace hz := hide hz
        go_wp2_with (first | (go_at_call 57; refine (HA.out _).mono ?_; rintro e w' ⟨rfl, hw'⟩; have hw' := hw'.symm; subst hw'))
        clear HA HR h1 h2 h3
        generalize s.extract f k = D at HX hab hall hz hz2 ⊢
        go_loop [12, 13] (fun v i => ∃ m : Nat, m ≤ k - f ∧ i = .int .i64 m ∧ ∃ V : Int, v = .int .i64 V ∧ Hid (V = -(numA 0 (D.data.toList.take m) : Int))) (fun _ i => (k - f) - (intOf i).toNat)
        case atStart => exact ⟨0, by omega, rfl, 0, rfl, by show _ = _; simp [numA_n]⟩
        case round =>
          obtain ⟨m, hm, rfl, V, rfl, HV⟩ := hrel
          by_cases hml : m < k - f
          · have hm1 : (m : Int) < (D.size : Int) := by omega
            have hmD : m < D.size := by omega
            have hd := hall.out (D[m]'hmD) (by rw [List.mem_iff_getElem?]; exact ⟨m, by rw [Array.getElem?_toList]; exact Array.getElem?_eq_getElem hmD⟩)
            have hsn := take_snoc8 D.data.toList m (D[m]'hmD) (by rw [Array.getElem?_toList]; exact Array.getElem?_eq_getElem hmD)
            have hn := numA_snoc (D.data.toList.take m) 0 (D[m]'hmD)
            rw [← hsn] at hn
            have hle := numA_take D.data.toList (m + 1)
            have hab' := hab.out
            have hV := HV.out
            obtain ⟨d, hdd⟩ : ∃ d : Int, d = ((D[m]'hmD).toNat : Int) := ⟨_, rfl⟩
            have d1 : 48 ≤ d := by omega
            have d2 : d ≤ 57 := by omega
            have r1 : -9223372036854775808 ≤ V * 10 := by omega
            have r2 : V * 10 ≤ 9223372036854775807 := by omega
            have r3 : -9223372036854775808 ≤ V * 10 - (d - 48) := by omega
            have r4 : V * 10 - (d - 48) ≤ 9223372036854775807 := by omega
            have HN : Hid (V * 10 - (d - 48) = -(numA 0 (D.data.toList.take (m + 1)) : Int)) := by show _ = _; omega
            replace hdd := hdd.symm
            clear hd hsn hn hle hab' hV
            go_wp2
            go_round
            case rel => exact ⟨m + 1, by omega, by go_num, _, by first | rfl | go_num, HN⟩
            case measure => simp [intOf]; omega
          · obtain rfl : m = k - f := by omega
            have hm1 : ¬ ((k - f : Nat) : Int) < (D.size : Int) := by omega
            have HY : Hid (X = .tok ⟨3, ⟨#[]⟩, V, 0, o, k⟩) := by
              show X = _
              rw [HX.out, HV.out, ← hz.out, List.take_length]
            clear HX HV
            go_wp2
            exact bodyPost_ret (v := (Nx.tok ⟨3, ⟨#[]⟩, V, 0, o, k⟩).val) (by simp [results, Tryd.results34, go_sem, Nx.val, Tok.val, faultVal]) rfl ⟨by rw [HY.out], below2 _ _ _⟩
      · have HX : Hid (X = .bad 13 o) := h2.out hall hab
        rw [show decide (9223372036854775808 < numA 0 (s.extract f k).data.toList) = true from decide_eq_true (by omega)] at HA
        clear hab
        replace hall := hide hall
        go_wp2_with (first | (go_at_call 57; refine (HA.out _).mono ?_; rintro e w' ⟨rfl, hw'⟩; have hw' := hw'.symm; subst hw') | (go_at_call 17; refine (rfault_any _ _ _).mono ?_; rintro e w' ⟨rfl, hb'⟩; obtain ⟨x, rfl⟩ := over_of hb'; clear hb'))
        exact bodyPost_ret (v := (Nx.bad 13 o).val) (by simp [results, Tryd.results34, go_sem, Nx.val, tokZero, faultVal]) rfl ⟨by rw [HX.out], below2_over _ _ _ _⟩

theorem ext_list (s : ByteArray) (o q : Nat) : (s.extract o q).data.toList = (rest s o).take (q - o) := by
  rw [ByteArray.data_extract, Array.toList_extract, List.extract_eq_take_drop]; rfl

theorem ext_cons (s : ByteArray) (o q : Nat) (h : o < q) (hq : q ≤ s.size) : (s.extract o q).data.toList = s[o]'(by omega) :: (s.extract (o + 1) q).data.toList := by
  rw [ext_list, ext_list, rest_cons s o (by omega), show q - o = (q - (o + 1)) + 1 from by omega, List.take_succ_cons]

theorem dig_word (n : Int) (h : bDig n = true) : bWord n = true := by
  unfold bWord; rw [h]; simp

theorem intX_ok {s : ByteArray} {o q : Nat} {v : Int} (hq : q = o + 1 + runC (rest s (o + 1))) (h : Lib.parseIntB 64 (s.extract o q).data.toList = .ok v) : intX s o = .tok ⟨3, ⟨#[]⟩, v, 0, o, q⟩ := by
  unfold intX
  rw [← hq, h]

theorem intX_bad {s : ByteArray} {o q : Nat} (hq : q = o + 1 + runC (rest s (o + 1))) (h : ∀ v, Lib.parseIntB 64 (s.extract o q).data.toList ≠ .ok v) : intX s o = .bad 13 o := by
  unfold intX
  rw [← hq]
  split
  · next v hv => exact absurd hv (h v)
  · rfl

theorem rinteger_pos (s : ByteArray) (o : Nat) (w : World) (hs : s.size ≤ 140737488351232) (ho : o < s.size) (hd : bDig (s[o].toNat : Int) = true) :
    Calls Tryd.prog 34 #[.string s, .int .i64 o, .int .i64 o] w fun e w' => e = .returned (intX s o).val ∧ Below w.heap.size w w' := by
  have hr : runC (rest s o) = runC (rest s (o + 1)) + 1 := by
    rw [rest_cons s o ho]; conv => lhs; unfold runC
    exact if_pos (dig_word _ hd)
  have hle := runC_le (rest s o)
  rw [rest_len] at hle
  obtain ⟨q, hq⟩ : ∃ q, q = o + runC (rest s o) := ⟨_, rfl⟩
  have hq' : q = o + 1 + runC (rest s (o + 1)) := by omega
  have hl := ext_cons s o q (by omega) (by omega)
  obtain ⟨i1, i2⟩ := int_pos _ _ _ hl ((bDig_iff _).1 hd)
  exact rint_pos s o o q w (intX s o) hs (by omega) (by omega) hq (by omega) (by omega)
    (fun h => intX_bad hq' (i2 (fun h' => h h'.1))) (fun _ h => intX_bad hq' (i2 (fun h' => h h'.2))) (fun h h' => intX_ok hq' (i1 h h'))

theorem rinteger_neg (s : ByteArray) (o : Nat) (w : World) (hs : s.size ≤ 140737488351232) (ho : o + 1 < s.size) (hm : (s[o].toNat : Int) = 45) (hd : bDig (s[o + 1].toNat : Int) = true) :
    Calls Tryd.prog 34 #[.string s, .int .i64 o, .int .i64 ((o : Int) + 1)] w fun e w' => e = .returned (intX s o).val ∧ Below w.heap.size w w' := by
  have hr : runC (rest s (o + 1)) = runC (rest s (o + 1 + 1)) + 1 := by
    rw [rest_cons s (o + 1) ho]; conv => lhs; unfold runC
    exact if_pos (dig_word _ hd)
  have hle := runC_le (rest s (o + 1))
  rw [rest_len] at hle
  obtain ⟨q, hq⟩ : ∃ q, q = o + 1 + runC (rest s (o + 1)) := ⟨_, rfl⟩
  have hl := ext_cons s o q (by omega) (by omega)
  have hl2 := ext_cons s (o + 1) q (by omega) (by omega)
  obtain ⟨i1, i2⟩ := int_neg _ _ _ hl (by omega) (by rw [hl2]; simp)
  have := rint_neg s o (o + 1) q w (intX s o) hs (by omega) (by omega) hq (by omega) (by omega)
    (fun h => intX_bad hq (i2 (fun h' => h h'.1))) (fun _ h => intX_bad hq (i2 (fun h' => h h'.2))) (fun h h' => intX_ok hq (i1 h h'))
  rw [show ((o + 1 : Nat) : Int) = (o : Int) + 1 from by omega] at this
  exact this

end Go.Proofs.YtojgfngpndmfoaaDoor
