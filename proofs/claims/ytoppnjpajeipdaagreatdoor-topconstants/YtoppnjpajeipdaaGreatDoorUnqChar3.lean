/- strconv.UnquoteChar at a double quote: escapes of four and eight digits. -/
import Derived.Test.YtoppnjpajeipdaaGreatDoorProg
import Derived.Test.YtoppnjpajeipdaaGreatDoorUnqChar2
namespace Go.Proofs.YtoppnjpajeipdaaGreatDoor
set_option linter.unusedSimpArgs false
set_option linter.unusedVariables false
open Go.RowKit

set_option maxHeartbeats 4000000 in
set_option maxRecDepth 100000 in
theorem uchar_u_short (s : ByteArray) (w : World) (hs : s.size ≤ 140737488351232) (h0 : 1 < s.size) (h1 : s[0].toNat = 92) (h2 : s[1].toNat = 117) (h3 : s.size < 6) (hl : SynLaid w) :
    Calls Tryz.prog 75 #[.string s, .int .u8 34] w fun e w' => UAns s e ∧ Below w.heap.size w w' := by
  obtain ⟨ty, p, hc⟩ := hl
  have hz : (0 : Int) < (s.size : Int) := by omega
  have hz2 : (2 : Int) ≤ (s.size : Int) := by omega
  have hz3 : ¬ (s.size : Int) ≤ 1 := by omega
  have hx : (s[0].toNat : Int) = 92 := by omega
  have hy : (s[1].toNat : Int) = 117 := by omega
  have HB := hide (bad_two h0 h1 (by omega))
  have he : (s.extract 2 s.size).size = s.size - 2 := by rw [ByteArray.size_extract]; omega
  have hlt : ((s.extract 2 s.size).size : Int) < 4 := by omega
  clear h1 h2
  go_enter Tryz.func75, Tryz.ntmps75
  go_wp2
  exact bodyPost_ret (v := .tuple #[.int .i32 0, .bool false, .string ⟨#[]⟩, .iface ty p]) (by simp [results, Tryz.results75, go_sem]) rfl ⟨UAns.bad _ _ _ _ _ rfl HB.out, Below.refl _ _⟩

set_option maxHeartbeats 4000000 in
set_option maxRecDepth 100000 in
theorem uchar_u (s : ByteArray) (w : World) (hs : s.size ≤ 140737488351232) (h0 : 1 < s.size) (h1 : s[0].toNat = 92) (h2 : s[1].toNat = 117) (h3 : 6 ≤ s.size) (hl : SynLaid w) :
    Calls Tryz.prog 75 #[.string s, .int .u8 34] w fun e w' => UAns s e ∧ Below w.heap.size w w' := by
  have HL := hide hl
  clear hl
  have hz : (0 : Int) < (s.size : Int) := by omega
  have hz2 : (2 : Int) ≤ (s.size : Int) := by omega
  have hz3 : ¬ (s.size : Int) ≤ 1 := by omega
  have hx : (s[0].toNat : Int) = 92 := by omega
  have hy : (s[1].toNat : Int) = 117 := by omega
  have he : (s.extract 2 s.size).size = s.size - 2 := by rw [ByteArray.size_extract]; omega
  have hge : (4 : Int) ≤ ((s.extract 2 s.size).size : Int) := by omega
  have HG : Hid (∀ (k : Nat) (h : k < (s.extract 2 s.size).size), (s.extract 2 s.size)[k] = s[2 + k]'(by omega)) := fun k h => ByteArray.getElem_extract ..
  have H1 := hide h1
  have H2 := hide h2
  clear h1 h2
  go_enter Tryz.func75, Tryz.ntmps75
  go_wp2
  go_loopw [7, 13, 14] (fun er v j wr => ∃ (k : Nat) (u : Int), k ≤ 4 ∧ er = .nilIface ∧ j = .int .i64 k ∧ v = .int .i32 u ∧ Hid (UVal (s.extract 2 s.size) k u) ∧ Hid (Below w.heap.size w wr)) (fun _ _ j _ => 4 - (intOf j).toNat)
  case atStart => exact ⟨0, 0, Nat.zero_le _, rfl, rfl, rfl, UVal.zero _, Below.refl _ _⟩
  case round =>
    obtain ⟨k, u, hk, rfl, rfl, rfl, HV, HB⟩ := hrel
    by_cases hlt : k < 4
    · have hi : (k : Int) < 4 := by omega
      have hks : k < (s.extract 2 s.size).size := by omega
      have hki : (k : Int) < ((s.extract 2 s.size).size : Int) := by omega
      have hby : 0 ≤ ((s.extract 2 s.size)[k].toNat : Int) ∧ ((s.extract 2 s.size)[k].toNat : Int) ≤ 255 := by have := ((s.extract 2 s.size)[k]).toNat_lt; omega
      cases hd : hexV ((s.extract 2 s.size)[k].toNat : Int) with
      | some d =>
        have HU := hide (unhex_yes _ d wr hby hd)
        have HV2 := hide (HV.out.step hks hd)
        clear hd hby
        go_wp2_with (go_at_call 92; refine HU.out.mono ?_; rintro e w1 ⟨rfl, hb1⟩)
        go_roundw
        case rel => exact ⟨k + 1, _, by omega, rfl, by go_num, rfl, HV2, hide (HB.out.trans (hb1.mono HB.out.size))⟩
        case measure => simp [intOf]; omega
      | none =>
        have HU := hide (unhex_no _ wr hby hd)
        rw [HG.out k hks] at hd
        have HQ := hide (bad_two (s := s) h0 H1.out (by have := H2.out; omega))
        have HC : Hid (∀ w1, Below w.heap.size w w1 → SynLaid w1) := fun w1 h => HL.out.kept h
        clear hd hby
        go_wp2_with (go_at_call 92; refine HU.out.mono ?_; rintro e w1 ⟨rfl, hb1⟩; obtain ⟨ty, p, hc⟩ := HC.out w1 (HB.out.trans (hb1.mono HB.out.size)))
        exact bodyPost_ret (v := .tuple #[.int .i32 0, .bool false, .string ⟨#[]⟩, .iface ty p]) (by simp [results, Tryz.results75, go_sem]) rfl ⟨UAns.bad _ _ _ _ _ rfl HQ.out, HB.out.trans (hb1.mono HB.out.size)⟩
    · have hi : ¬ (k : Int) < 4 := by omega
      have hk2 : k = 4 := by omega
      subst hk2
      have HR := hide (fun W => validRune_any u W)
      cases hv : Lib.validRune u with
      | true =>
        have hu : -2147483648 ≤ u ∧ u ≤ 2147483647 := by
          unfold Lib.validRune at hv
          simp at hv
          omega
        have HQ := hide (ok_other (s := s) (t := (s.extract 2 s.size).extract 4 (s.extract 2 s.size).size) (v := u) (mb := true) (by rw [ByteArray.size_extract]; omega) (fun _ => hu) h0 H1.out (by have := H2.out; omega))
        rw [hv] at HR
        clear hv hu
        go_wp2_with (go_at_call 93; refine (HR.out _).mono ?_; rintro e w' ⟨rfl, hw'⟩; have hw' := hw'.symm; subst hw')
        exact bodyPost_ret (v := .tuple #[.int .i32 u, .bool true, .string ((s.extract 2 s.size).extract 4 (s.extract 2 s.size).size), .nilIface]) (by simp [results, Tryz.results75, go_sem]) rfl ⟨UAns.ok _ _ _ rfl HQ.out, HB.out⟩
      | false =>
        have HQ := hide (bad_two (s := s) h0 H1.out (by have := H2.out; omega))
        rw [hv] at HR
        clear hv
        obtain ⟨ty, p, hc⟩ := HL.out.kept HB.out
        go_wp2_with (go_at_call 93; refine (HR.out _).mono ?_; rintro e w' ⟨rfl, hw'⟩; have hw' := hw'.symm; subst hw')
        exact bodyPost_ret (v := .tuple #[.int .i32 0, .bool false, .string ⟨#[]⟩, .iface ty p]) (by simp [results, Tryz.results75, go_sem]) rfl ⟨UAns.bad _ _ _ _ _ rfl HQ.out, HB.out⟩

set_option maxHeartbeats 4000000 in
set_option maxRecDepth 100000 in
theorem uchar_U_short (s : ByteArray) (w : World) (hs : s.size ≤ 140737488351232) (h0 : 1 < s.size) (h1 : s[0].toNat = 92) (h2 : s[1].toNat = 85) (h3 : s.size < 10) (hl : SynLaid w) :
    Calls Tryz.prog 75 #[.string s, .int .u8 34] w fun e w' => UAns s e ∧ Below w.heap.size w w' := by
  obtain ⟨ty, p, hc⟩ := hl
  have hz : (0 : Int) < (s.size : Int) := by omega
  have hz2 : (2 : Int) ≤ (s.size : Int) := by omega
  have hz3 : ¬ (s.size : Int) ≤ 1 := by omega
  have hx : (s[0].toNat : Int) = 92 := by omega
  have hy : (s[1].toNat : Int) = 85 := by omega
  have HB := hide (bad_two h0 h1 (by omega))
  have he : (s.extract 2 s.size).size = s.size - 2 := by rw [ByteArray.size_extract]; omega
  have hlt : ((s.extract 2 s.size).size : Int) < 8 := by omega
  clear h1 h2
  go_enter Tryz.func75, Tryz.ntmps75
  go_wp2
  exact bodyPost_ret (v := .tuple #[.int .i32 0, .bool false, .string ⟨#[]⟩, .iface ty p]) (by simp [results, Tryz.results75, go_sem]) rfl ⟨UAns.bad _ _ _ _ _ rfl HB.out, Below.refl _ _⟩

set_option maxHeartbeats 4000000 in
set_option maxRecDepth 100000 in
theorem uchar_U (s : ByteArray) (w : World) (hs : s.size ≤ 140737488351232) (h0 : 1 < s.size) (h1 : s[0].toNat = 92) (h2 : s[1].toNat = 85) (h3 : 10 ≤ s.size) (hl : SynLaid w) :
    Calls Tryz.prog 75 #[.string s, .int .u8 34] w fun e w' => UAns s e ∧ Below w.heap.size w w' := by
  have HL := hide hl
  clear hl
  have hz : (0 : Int) < (s.size : Int) := by omega
  have hz2 : (2 : Int) ≤ (s.size : Int) := by omega
  have hz3 : ¬ (s.size : Int) ≤ 1 := by omega
  have hx : (s[0].toNat : Int) = 92 := by omega
  have hy : (s[1].toNat : Int) = 85 := by omega
  have he : (s.extract 2 s.size).size = s.size - 2 := by rw [ByteArray.size_extract]; omega
  have hge : (8 : Int) ≤ ((s.extract 2 s.size).size : Int) := by omega
  have HG : Hid (∀ (k : Nat) (h : k < (s.extract 2 s.size).size), (s.extract 2 s.size)[k] = s[2 + k]'(by omega)) := fun k h => ByteArray.getElem_extract ..
  have H1 := hide h1
  have H2 := hide h2
  clear h1 h2
  go_enter Tryz.func75, Tryz.ntmps75
  go_wp2
  go_loopw [7, 13, 14] (fun er v j wr => ∃ (k : Nat) (u : Int), k ≤ 8 ∧ er = .nilIface ∧ j = .int .i64 k ∧ v = .int .i32 u ∧ Hid (UVal (s.extract 2 s.size) k u) ∧ Hid (Below w.heap.size w wr)) (fun _ _ j _ => 8 - (intOf j).toNat)
  case atStart => exact ⟨0, 0, Nat.zero_le _, rfl, rfl, rfl, UVal.zero _, Below.refl _ _⟩
  case round =>
    obtain ⟨k, u, hk, rfl, rfl, rfl, HV, HB⟩ := hrel
    by_cases hlt : k < 8
    · have hi : (k : Int) < 8 := by omega
      have hks : k < (s.extract 2 s.size).size := by omega
      have hki : (k : Int) < ((s.extract 2 s.size).size : Int) := by omega
      have hby : 0 ≤ ((s.extract 2 s.size)[k].toNat : Int) ∧ ((s.extract 2 s.size)[k].toNat : Int) ≤ 255 := by have := ((s.extract 2 s.size)[k]).toNat_lt; omega
      cases hd : hexV ((s.extract 2 s.size)[k].toNat : Int) with
      | some d =>
        have HU := hide (unhex_yes _ d wr hby hd)
        have HV2 := hide (HV.out.step hks hd)
        clear hd hby
        go_wp2_with (go_at_call 92; refine HU.out.mono ?_; rintro e w1 ⟨rfl, hb1⟩)
        go_roundw
        case rel => exact ⟨k + 1, _, by omega, rfl, by go_num, rfl, HV2, hide (HB.out.trans (hb1.mono HB.out.size))⟩
        case measure => simp [intOf]; omega
      | none =>
        have HU := hide (unhex_no _ wr hby hd)
        rw [HG.out k hks] at hd
        have HQ := hide (bad_two (s := s) h0 H1.out (by have := H2.out; omega))
        have HC : Hid (∀ w1, Below w.heap.size w w1 → SynLaid w1) := fun w1 h => HL.out.kept h
        clear hd hby
        go_wp2_with (go_at_call 92; refine HU.out.mono ?_; rintro e w1 ⟨rfl, hb1⟩; obtain ⟨ty, p, hc⟩ := HC.out w1 (HB.out.trans (hb1.mono HB.out.size)))
        exact bodyPost_ret (v := .tuple #[.int .i32 0, .bool false, .string ⟨#[]⟩, .iface ty p]) (by simp [results, Tryz.results75, go_sem]) rfl ⟨UAns.bad _ _ _ _ _ rfl HQ.out, HB.out.trans (hb1.mono HB.out.size)⟩
    · have hi : ¬ (k : Int) < 8 := by omega
      have hk2 : k = 8 := by omega
      subst hk2
      have HR := hide (fun W => validRune_any u W)
      cases hv : Lib.validRune u with
      | true =>
        have hu : -2147483648 ≤ u ∧ u ≤ 2147483647 := by
          unfold Lib.validRune at hv
          simp at hv
          omega
        have HQ := hide (ok_other (s := s) (t := (s.extract 2 s.size).extract 8 (s.extract 2 s.size).size) (v := u) (mb := true) (by rw [ByteArray.size_extract]; omega) (fun _ => hu) h0 H1.out (by have := H2.out; omega))
        rw [hv] at HR
        clear hv hu
        go_wp2_with (go_at_call 93; refine (HR.out _).mono ?_; rintro e w' ⟨rfl, hw'⟩; have hw' := hw'.symm; subst hw')
        exact bodyPost_ret (v := .tuple #[.int .i32 u, .bool true, .string ((s.extract 2 s.size).extract 8 (s.extract 2 s.size).size), .nilIface]) (by simp [results, Tryz.results75, go_sem]) rfl ⟨UAns.ok _ _ _ rfl HQ.out, HB.out⟩
      | false =>
        have HQ := hide (bad_two (s := s) h0 H1.out (by have := H2.out; omega))
        rw [hv] at HR
        clear hv
        obtain ⟨ty, p, hc⟩ := HL.out.kept HB.out
        go_wp2_with (go_at_call 93; refine (HR.out _).mono ?_; rintro e w' ⟨rfl, hw'⟩; have hw' := hw'.symm; subst hw')
        exact bodyPost_ret (v := .tuple #[.int .i32 0, .bool false, .string ⟨#[]⟩, .iface ty p]) (by simp [results, Tryz.results75, go_sem]) rfl ⟨UAns.bad _ _ _ _ _ rfl HQ.out, HB.out⟩

end Go.Proofs.YtoppnjpajeipdaaGreatDoor
