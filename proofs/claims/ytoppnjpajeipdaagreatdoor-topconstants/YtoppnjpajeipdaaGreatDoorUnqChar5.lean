/- strconv.UnquoteChar at a double quote: escapes of three digits. -/
import Derived.Test.YtoppnjpajeipdaaGreatDoorProg
import Derived.Test.YtoppnjpajeipdaaGreatDoorUnqChar
namespace Go.Proofs.YtoppnjpajeipdaaGreatDoor
set_option linter.unusedSimpArgs false
set_option linter.unusedVariables false
open Go.RowKit

set_option maxHeartbeats 4000000 in
set_option maxRecDepth 100000 in
theorem uchar_o4 (s : ByteArray) (w : World) (hs : s.size ≤ 140737488351232) (h0 : 1 < s.size) (h1 : s[0].toNat = 92) (h2 : s[1].toNat = 52) (hl : SynLaid w) :
    Calls Tryz.prog 75 #[.string s, .int .u8 34] w fun e w' => UAns s e ∧ Below w.heap.size w w' := by
  have HL := hide hl
  clear hl
  have hz : (0 : Int) < (s.size : Int) := by omega
  have hz2 : (2 : Int) ≤ (s.size : Int) := by omega
  have hz3 : ¬ (s.size : Int) ≤ 1 := by omega
  have hx : (s[0].toNat : Int) = 92 := by omega
  have hy : (s[1].toNat : Int) = 52 := by omega
  have he : (s.extract 2 s.size).size = s.size - 2 := by rw [ByteArray.size_extract]; omega
  have H1 := hide h1
  have H2 := hide h2
  have HQ := hide (bad_two (s := s) h0 h1 (by omega))
  clear h1 h2
  by_cases hsh : s.size < 4
  · have hge : ((s.extract 2 s.size).size : Int) < 2 := by omega
    obtain ⟨ty, p, hc⟩ := HL.out
    go_enter Tryz.func75, Tryz.ntmps75
    go_wp2
    exact bodyPost_ret (v := .tuple #[.int .i32 0, .bool false, .string ⟨#[]⟩, .iface ty p]) (by simp [results, Tryz.results75, go_sem]) rfl ⟨UAns.bad _ _ _ _ _ rfl HQ.out, Below.refl _ _⟩
  · have hge : (2 : Int) ≤ ((s.extract 2 s.size).size : Int) := by omega
    have HO := hide (fun u => ok_other (s := s) (t := (s.extract 2 s.size).extract 2 (s.extract 2 s.size).size) (v := u) (mb := false) (by rw [ByteArray.size_extract]; omega) (fun h => by cases h) h0 H1.out (by have := H2.out; omega))
    go_enter Tryz.func75, Tryz.ntmps75
    go_wp2
    go_loopw [7, 17, 18] (fun er v j wr => ∃ (k : Nat) (u : Int), k ≤ 2 ∧ er = .nilIface ∧ j = .int .i64 k ∧ v = .int .i32 u ∧ wr = w) (fun _ _ j _ => 2 - (intOf j).toNat)
    case atStart => exact ⟨0, _, Nat.zero_le _, rfl, rfl, rfl, rfl⟩
    case round =>
      obtain ⟨k, u, hk, rfl, rfl, rfl, rfl⟩ := hrel
      obtain ⟨ty, p, hc⟩ := HL.out
      by_cases hlt : k < 2
      · have hi : (k : Int) < 2 := by omega
        have hki : (k : Int) < ((s.extract 2 s.size).size : Int) := by omega
        have hks : k < (s.extract 2 s.size).size := by omega
        obtain ⟨x, hx'⟩ : ∃ x : Int, ((s.extract 2 s.size)[k].toNat : Int) = x := ⟨_, rfl⟩
        have hb0 : 0 ≤ x := by omega
        have hb1 : x ≤ 255 := by have := ((s.extract 2 s.size)[k]).toNat_lt; omega
        by_cases b1 : (48 : Int) ≤ x
        · by_cases b2 : x ≤ 55
          · have b3 : ¬ x - 48 < 0 := by omega
            have b4 : ¬ 7 < x - 48 := by omega
            clear b1 b2
            go_wp2
            go_roundw
            case rel => exact ⟨k + 1, _, by omega, rfl, by go_num, rfl, trivial⟩
            case measure => simp [intOf]; omega
          · have b3 : ¬ x - 48 < 0 := by omega
            have b4 : 7 < x - 48 := by omega
            clear b1 b2
            go_wp2
            exact bodyPost_ret (v := .tuple #[.int .i32 0, .bool false, .string ⟨#[]⟩, .iface ty p]) (by simp [results, Tryz.results75, go_sem]) rfl ⟨UAns.bad _ _ _ _ _ rfl HQ.out, Below.refl _ _⟩
        · have b3 : x - 48 < 0 := by omega
          clear b1
          go_wp2
          exact bodyPost_ret (v := .tuple #[.int .i32 0, .bool false, .string ⟨#[]⟩, .iface ty p]) (by simp [results, Tryz.results75, go_sem]) rfl ⟨UAns.bad _ _ _ _ _ rfl HQ.out, Below.refl _ _⟩
      · have hi : ¬ (k : Int) < 2 := by omega
        by_cases hv : 255 < u
        · go_wp2
          exact bodyPost_ret (v := .tuple #[.int .i32 0, .bool false, .string ⟨#[]⟩, .iface ty p]) (by simp [results, Tryz.results75, go_sem]) rfl ⟨UAns.bad _ _ _ _ _ rfl HQ.out, Below.refl _ _⟩
        · go_wp2
          exact bodyPost_ret (v := .tuple #[.int .i32 u, .bool false, .string ((s.extract 2 s.size).extract 2 (s.extract 2 s.size).size), .nilIface]) (by simp [results, Tryz.results75, go_sem]) rfl ⟨UAns.ok _ _ _ rfl (HO.out u), Below.refl _ _⟩

set_option maxHeartbeats 4000000 in
set_option maxRecDepth 100000 in
theorem uchar_o5 (s : ByteArray) (w : World) (hs : s.size ≤ 140737488351232) (h0 : 1 < s.size) (h1 : s[0].toNat = 92) (h2 : s[1].toNat = 53) (hl : SynLaid w) :
    Calls Tryz.prog 75 #[.string s, .int .u8 34] w fun e w' => UAns s e ∧ Below w.heap.size w w' := by
  have HL := hide hl
  clear hl
  have hz : (0 : Int) < (s.size : Int) := by omega
  have hz2 : (2 : Int) ≤ (s.size : Int) := by omega
  have hz3 : ¬ (s.size : Int) ≤ 1 := by omega
  have hx : (s[0].toNat : Int) = 92 := by omega
  have hy : (s[1].toNat : Int) = 53 := by omega
  have he : (s.extract 2 s.size).size = s.size - 2 := by rw [ByteArray.size_extract]; omega
  have H1 := hide h1
  have H2 := hide h2
  have HQ := hide (bad_two (s := s) h0 h1 (by omega))
  clear h1 h2
  by_cases hsh : s.size < 4
  · have hge : ((s.extract 2 s.size).size : Int) < 2 := by omega
    obtain ⟨ty, p, hc⟩ := HL.out
    go_enter Tryz.func75, Tryz.ntmps75
    go_wp2
    exact bodyPost_ret (v := .tuple #[.int .i32 0, .bool false, .string ⟨#[]⟩, .iface ty p]) (by simp [results, Tryz.results75, go_sem]) rfl ⟨UAns.bad _ _ _ _ _ rfl HQ.out, Below.refl _ _⟩
  · have hge : (2 : Int) ≤ ((s.extract 2 s.size).size : Int) := by omega
    have HO := hide (fun u => ok_other (s := s) (t := (s.extract 2 s.size).extract 2 (s.extract 2 s.size).size) (v := u) (mb := false) (by rw [ByteArray.size_extract]; omega) (fun h => by cases h) h0 H1.out (by have := H2.out; omega))
    go_enter Tryz.func75, Tryz.ntmps75
    go_wp2
    go_loopw [7, 17, 18] (fun er v j wr => ∃ (k : Nat) (u : Int), k ≤ 2 ∧ er = .nilIface ∧ j = .int .i64 k ∧ v = .int .i32 u ∧ wr = w) (fun _ _ j _ => 2 - (intOf j).toNat)
    case atStart => exact ⟨0, _, Nat.zero_le _, rfl, rfl, rfl, rfl⟩
    case round =>
      obtain ⟨k, u, hk, rfl, rfl, rfl, rfl⟩ := hrel
      obtain ⟨ty, p, hc⟩ := HL.out
      by_cases hlt : k < 2
      · have hi : (k : Int) < 2 := by omega
        have hki : (k : Int) < ((s.extract 2 s.size).size : Int) := by omega
        have hks : k < (s.extract 2 s.size).size := by omega
        obtain ⟨x, hx'⟩ : ∃ x : Int, ((s.extract 2 s.size)[k].toNat : Int) = x := ⟨_, rfl⟩
        have hb0 : 0 ≤ x := by omega
        have hb1 : x ≤ 255 := by have := ((s.extract 2 s.size)[k]).toNat_lt; omega
        by_cases b1 : (48 : Int) ≤ x
        · by_cases b2 : x ≤ 55
          · have b3 : ¬ x - 48 < 0 := by omega
            have b4 : ¬ 7 < x - 48 := by omega
            clear b1 b2
            go_wp2
            go_roundw
            case rel => exact ⟨k + 1, _, by omega, rfl, by go_num, rfl, trivial⟩
            case measure => simp [intOf]; omega
          · have b3 : ¬ x - 48 < 0 := by omega
            have b4 : 7 < x - 48 := by omega
            clear b1 b2
            go_wp2
            exact bodyPost_ret (v := .tuple #[.int .i32 0, .bool false, .string ⟨#[]⟩, .iface ty p]) (by simp [results, Tryz.results75, go_sem]) rfl ⟨UAns.bad _ _ _ _ _ rfl HQ.out, Below.refl _ _⟩
        · have b3 : x - 48 < 0 := by omega
          clear b1
          go_wp2
          exact bodyPost_ret (v := .tuple #[.int .i32 0, .bool false, .string ⟨#[]⟩, .iface ty p]) (by simp [results, Tryz.results75, go_sem]) rfl ⟨UAns.bad _ _ _ _ _ rfl HQ.out, Below.refl _ _⟩
      · have hi : ¬ (k : Int) < 2 := by omega
        by_cases hv : 255 < u
        · go_wp2
          exact bodyPost_ret (v := .tuple #[.int .i32 0, .bool false, .string ⟨#[]⟩, .iface ty p]) (by simp [results, Tryz.results75, go_sem]) rfl ⟨UAns.bad _ _ _ _ _ rfl HQ.out, Below.refl _ _⟩
        · go_wp2
          exact bodyPost_ret (v := .tuple #[.int .i32 u, .bool false, .string ((s.extract 2 s.size).extract 2 (s.extract 2 s.size).size), .nilIface]) (by simp [results, Tryz.results75, go_sem]) rfl ⟨UAns.ok _ _ _ rfl (HO.out u), Below.refl _ _⟩

set_option maxHeartbeats 4000000 in
set_option maxRecDepth 100000 in
theorem uchar_o6 (s : ByteArray) (w : World) (hs : s.size ≤ 140737488351232) (h0 : 1 < s.size) (h1 : s[0].toNat = 92) (h2 : s[1].toNat = 54) (hl : SynLaid w) :
    Calls Tryz.prog 75 #[.string s, .int .u8 34] w fun e w' => UAns s e ∧ Below w.heap.size w w' := by
  have HL := hide hl
  clear hl
  have hz : (0 : Int) < (s.size : Int) := by omega
  have hz2 : (2 : Int) ≤ (s.size : Int) := by omega
  have hz3 : ¬ (s.size : Int) ≤ 1 := by omega
  have hx : (s[0].toNat : Int) = 92 := by omega
  have hy : (s[1].toNat : Int) = 54 := by omega
  have he : (s.extract 2 s.size).size = s.size - 2 := by rw [ByteArray.size_extract]; omega
  have H1 := hide h1
  have H2 := hide h2
  have HQ := hide (bad_two (s := s) h0 h1 (by omega))
  clear h1 h2
  by_cases hsh : s.size < 4
  · have hge : ((s.extract 2 s.size).size : Int) < 2 := by omega
    obtain ⟨ty, p, hc⟩ := HL.out
    go_enter Tryz.func75, Tryz.ntmps75
    go_wp2
    exact bodyPost_ret (v := .tuple #[.int .i32 0, .bool false, .string ⟨#[]⟩, .iface ty p]) (by simp [results, Tryz.results75, go_sem]) rfl ⟨UAns.bad _ _ _ _ _ rfl HQ.out, Below.refl _ _⟩
  · have hge : (2 : Int) ≤ ((s.extract 2 s.size).size : Int) := by omega
    have HO := hide (fun u => ok_other (s := s) (t := (s.extract 2 s.size).extract 2 (s.extract 2 s.size).size) (v := u) (mb := false) (by rw [ByteArray.size_extract]; omega) (fun h => by cases h) h0 H1.out (by have := H2.out; omega))
    go_enter Tryz.func75, Tryz.ntmps75
    go_wp2
    go_loopw [7, 17, 18] (fun er v j wr => ∃ (k : Nat) (u : Int), k ≤ 2 ∧ er = .nilIface ∧ j = .int .i64 k ∧ v = .int .i32 u ∧ wr = w) (fun _ _ j _ => 2 - (intOf j).toNat)
    case atStart => exact ⟨0, _, Nat.zero_le _, rfl, rfl, rfl, rfl⟩
    case round =>
      obtain ⟨k, u, hk, rfl, rfl, rfl, rfl⟩ := hrel
      obtain ⟨ty, p, hc⟩ := HL.out
      by_cases hlt : k < 2
      · have hi : (k : Int) < 2 := by omega
        have hki : (k : Int) < ((s.extract 2 s.size).size : Int) := by omega
        have hks : k < (s.extract 2 s.size).size := by omega
        obtain ⟨x, hx'⟩ : ∃ x : Int, ((s.extract 2 s.size)[k].toNat : Int) = x := ⟨_, rfl⟩
        have hb0 : 0 ≤ x := by omega
        have hb1 : x ≤ 255 := by have := ((s.extract 2 s.size)[k]).toNat_lt; omega
        by_cases b1 : (48 : Int) ≤ x
        · by_cases b2 : x ≤ 55
          · have b3 : ¬ x - 48 < 0 := by omega
            have b4 : ¬ 7 < x - 48 := by omega
            clear b1 b2
            go_wp2
            go_roundw
            case rel => exact ⟨k + 1, _, by omega, rfl, by go_num, rfl, trivial⟩
            case measure => simp [intOf]; omega
          · have b3 : ¬ x - 48 < 0 := by omega
            have b4 : 7 < x - 48 := by omega
            clear b1 b2
            go_wp2
            exact bodyPost_ret (v := .tuple #[.int .i32 0, .bool false, .string ⟨#[]⟩, .iface ty p]) (by simp [results, Tryz.results75, go_sem]) rfl ⟨UAns.bad _ _ _ _ _ rfl HQ.out, Below.refl _ _⟩
        · have b3 : x - 48 < 0 := by omega
          clear b1
          go_wp2
          exact bodyPost_ret (v := .tuple #[.int .i32 0, .bool false, .string ⟨#[]⟩, .iface ty p]) (by simp [results, Tryz.results75, go_sem]) rfl ⟨UAns.bad _ _ _ _ _ rfl HQ.out, Below.refl _ _⟩
      · have hi : ¬ (k : Int) < 2 := by omega
        by_cases hv : 255 < u
        · go_wp2
          exact bodyPost_ret (v := .tuple #[.int .i32 0, .bool false, .string ⟨#[]⟩, .iface ty p]) (by simp [results, Tryz.results75, go_sem]) rfl ⟨UAns.bad _ _ _ _ _ rfl HQ.out, Below.refl _ _⟩
        · go_wp2
          exact bodyPost_ret (v := .tuple #[.int .i32 u, .bool false, .string ((s.extract 2 s.size).extract 2 (s.extract 2 s.size).size), .nilIface]) (by simp [results, Tryz.results75, go_sem]) rfl ⟨UAns.ok _ _ _ rfl (HO.out u), Below.refl _ _⟩

set_option maxHeartbeats 4000000 in
set_option maxRecDepth 100000 in
theorem uchar_o7 (s : ByteArray) (w : World) (hs : s.size ≤ 140737488351232) (h0 : 1 < s.size) (h1 : s[0].toNat = 92) (h2 : s[1].toNat = 55) (hl : SynLaid w) :
    Calls Tryz.prog 75 #[.string s, .int .u8 34] w fun e w' => UAns s e ∧ Below w.heap.size w w' := by
  have HL := hide hl
  clear hl
  have hz : (0 : Int) < (s.size : Int) := by omega
  have hz2 : (2 : Int) ≤ (s.size : Int) := by omega
  have hz3 : ¬ (s.size : Int) ≤ 1 := by omega
  have hx : (s[0].toNat : Int) = 92 := by omega
  have hy : (s[1].toNat : Int) = 55 := by omega
  have he : (s.extract 2 s.size).size = s.size - 2 := by rw [ByteArray.size_extract]; omega
  have H1 := hide h1
  have H2 := hide h2
  have HQ := hide (bad_two (s := s) h0 h1 (by omega))
  clear h1 h2
  by_cases hsh : s.size < 4
  · have hge : ((s.extract 2 s.size).size : Int) < 2 := by omega
    obtain ⟨ty, p, hc⟩ := HL.out
    go_enter Tryz.func75, Tryz.ntmps75
    go_wp2
    exact bodyPost_ret (v := .tuple #[.int .i32 0, .bool false, .string ⟨#[]⟩, .iface ty p]) (by simp [results, Tryz.results75, go_sem]) rfl ⟨UAns.bad _ _ _ _ _ rfl HQ.out, Below.refl _ _⟩
  · have hge : (2 : Int) ≤ ((s.extract 2 s.size).size : Int) := by omega
    have HO := hide (fun u => ok_other (s := s) (t := (s.extract 2 s.size).extract 2 (s.extract 2 s.size).size) (v := u) (mb := false) (by rw [ByteArray.size_extract]; omega) (fun h => by cases h) h0 H1.out (by have := H2.out; omega))
    go_enter Tryz.func75, Tryz.ntmps75
    go_wp2
    go_loopw [7, 17, 18] (fun er v j wr => ∃ (k : Nat) (u : Int), k ≤ 2 ∧ er = .nilIface ∧ j = .int .i64 k ∧ v = .int .i32 u ∧ wr = w) (fun _ _ j _ => 2 - (intOf j).toNat)
    case atStart => exact ⟨0, _, Nat.zero_le _, rfl, rfl, rfl, rfl⟩
    case round =>
      obtain ⟨k, u, hk, rfl, rfl, rfl, rfl⟩ := hrel
      obtain ⟨ty, p, hc⟩ := HL.out
      by_cases hlt : k < 2
      · have hi : (k : Int) < 2 := by omega
        have hki : (k : Int) < ((s.extract 2 s.size).size : Int) := by omega
        have hks : k < (s.extract 2 s.size).size := by omega
        obtain ⟨x, hx'⟩ : ∃ x : Int, ((s.extract 2 s.size)[k].toNat : Int) = x := ⟨_, rfl⟩
        have hb0 : 0 ≤ x := by omega
        have hb1 : x ≤ 255 := by have := ((s.extract 2 s.size)[k]).toNat_lt; omega
        by_cases b1 : (48 : Int) ≤ x
        · by_cases b2 : x ≤ 55
          · have b3 : ¬ x - 48 < 0 := by omega
            have b4 : ¬ 7 < x - 48 := by omega
            clear b1 b2
            go_wp2
            go_roundw
            case rel => exact ⟨k + 1, _, by omega, rfl, by go_num, rfl, trivial⟩
            case measure => simp [intOf]; omega
          · have b3 : ¬ x - 48 < 0 := by omega
            have b4 : 7 < x - 48 := by omega
            clear b1 b2
            go_wp2
            exact bodyPost_ret (v := .tuple #[.int .i32 0, .bool false, .string ⟨#[]⟩, .iface ty p]) (by simp [results, Tryz.results75, go_sem]) rfl ⟨UAns.bad _ _ _ _ _ rfl HQ.out, Below.refl _ _⟩
        · have b3 : x - 48 < 0 := by omega
          clear b1
          go_wp2
          exact bodyPost_ret (v := .tuple #[.int .i32 0, .bool false, .string ⟨#[]⟩, .iface ty p]) (by simp [results, Tryz.results75, go_sem]) rfl ⟨UAns.bad _ _ _ _ _ rfl HQ.out, Below.refl _ _⟩
      · have hi : ¬ (k : Int) < 2 := by omega
        by_cases hv : 255 < u
        · go_wp2
          exact bodyPost_ret (v := .tuple #[.int .i32 0, .bool false, .string ⟨#[]⟩, .iface ty p]) (by simp [results, Tryz.results75, go_sem]) rfl ⟨UAns.bad _ _ _ _ _ rfl HQ.out, Below.refl _ _⟩
        · go_wp2
          exact bodyPost_ret (v := .tuple #[.int .i32 u, .bool false, .string ((s.extract 2 s.size).extract 2 (s.extract 2 s.size).size), .nilIface]) (by simp [results, Tryz.results75, go_sem]) rfl ⟨UAns.ok _ _ _ rfl (HO.out u), Below.refl _ _⟩

end Go.Proofs.YtoppnjpajeipdaaGreatDoor
