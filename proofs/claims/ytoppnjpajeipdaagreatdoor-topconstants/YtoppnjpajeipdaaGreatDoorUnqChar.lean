/- strconv.UnquoteChar at a double quote: one byte's spelling. -/
import Derived.Test.YtoppnjpajeipdaaGreatDoorProg
import Derived.Test.YtoppnjpajeipdaaGreatDoorUnqHex
import Derived.Test.YtoppnjpajeipdaaGreatDoorUtfLay
import Derived.Lib.TrimU
namespace Go.Proofs.YtoppnjpajeipdaaGreatDoor
set_option linter.unusedSimpArgs false
set_option linter.unusedVariables false
open Go.RowKit

/-- What start-up lays, as far as strconv's error is asked. -/
def SynLaid (w : World) : Prop := ∃ t p, w.cell? ⟨0, 0, none⟩ = some (.iface t p)
theorem SynLaid.kept {w w' : World} (h : SynLaid w) (hb : Below w.heap.size w w') : SynLaid w' := by
  obtain ⟨t, p, e⟩ := h; exact ⟨t, p, kept_cell hb e⟩
def UtfLaid (w : World) : Prop := Lib.Utf8Tabs 2 3 w

/-- What the call answers. -/
def UAns (s : ByteArray) (e : Ending) : Prop :=
  (∃ v mb t, e = .returned (.tuple #[.int .i32 v, .bool mb, .string t, .nilIface]) ∧ UOk s v mb t) ∨
  (∃ v mb t ty p, e = .returned (.tuple #[.int .i32 v, .bool mb, .string t, .iface ty p]) ∧ UBad s)

theorem UAns.ok {s : ByteArray} {e : Ending} (v : Int) (mb : Bool) (t : ByteArray) (he : e = .returned (.tuple #[.int .i32 v, .bool mb, .string t, .nilIface])) (h : UOk s v mb t) : UAns s e := .inl ⟨v, mb, t, he, h⟩
theorem UAns.bad {s : ByteArray} {e : Ending} (v : Int) (mb : Bool) (t : ByteArray) (ty : TypeId) (p : Value) (he : e = .returned (.tuple #[.int .i32 v, .bool mb, .string t, .iface ty p])) (h : UBad s) : UAns s e := .inr ⟨v, mb, t, ty, p, he, h⟩

theorem dec_le (n b0 b1 b2 b3 : Nat) (hn : 1 ≤ n) : (Lib.decodeN n b0 b1 b2 b3).2 ≤ n := by
  unfold Lib.decodeN
  repeat' split
  all_goals (simp only; omega)
theorem dec_facts (s : ByteArray) (h : 0 < s.size) : 1 ≤ (Lib.decodeGo s).2 ∧ (Lib.decodeGo s).2 ≤ s.size ∧ (Lib.decodeGo s).1 ≤ 1114111 := by
  unfold Lib.decodeGo
  rw [if_neg (by omega)]
  refine ⟨Lib.width_pos _ _, ?_, Lib.rune_le _ _⟩
  rw [Lib.decode_at]
  exact dec_le _ _ _ _ _ (by omega)

theorem decodeRune_any (s : ByteArray) (w : World) (ht : UtfLaid w) :
    Calls Tryz.prog 74 #[.string s] w fun e w' => e = .returned (.tuple #[.int .i32 (Lib.decodeGo s).1, .int .i64 (Lib.decodeGo s).2]) ∧ Below w.heap.size w w' :=
  Any.utf8_DecodeRuneInString Tryz.lays197 s w ht
theorem validRune_any (r : Int) (w : World) : Calls Tryz.prog 93 #[.int .i32 r] w fun e w' => e = .returned (.bool (Lib.validRune r)) ∧ w' = w :=
  Any.utf8_ValidRune Tryz.lays119 r w

set_option maxHeartbeats 2000000 in
set_option maxRecDepth 100000 in
theorem uchar_quote (s : ByteArray) (w : World) (hs : s.size ≤ 140737488351232) (h0 : 0 < s.size) (h1 : s[0].toNat = 34) (hl : SynLaid w) :
    Calls Tryz.prog 75 #[.string s, .int .u8 34] w fun e w' => UAns s e ∧ Below w.heap.size w w' := by
  obtain ⟨ty, p, hc⟩ := hl
  have hz : (0 : Int) < (s.size : Int) := by omega
  have hx : (s[0].toNat : Int) = 34 := by omega
  have HB := hide (bad_quote h0 h1)
  clear h1
  go_enter Tryz.func75, Tryz.ntmps75
  go_wp2
  exact bodyPost_ret (v := .tuple #[.int .i32 0, .bool false, .string ⟨#[]⟩, .iface ty p]) (by simp [results, Tryz.results75, go_sem]) rfl ⟨UAns.bad _ _ _ _ _ rfl HB.out, Below.refl _ _⟩

set_option maxHeartbeats 2000000 in
set_option maxRecDepth 100000 in
theorem uchar_plain (s : ByteArray) (w : World) (hs : s.size ≤ 140737488351232) (h0 : 0 < s.size) (h1 : s[0].toNat < 128) (h2 : s[0].toNat ≠ 34) (h3 : s[0].toNat ≠ 92) (hl : SynLaid w) :
    Calls Tryz.prog 75 #[.string s, .int .u8 34] w fun e w' => UAns s e ∧ Below w.heap.size w w' := by
  obtain ⟨ty, p, hc⟩ := hl
  have hz : (0 : Int) < (s.size : Int) := by omega
  have HB := hide (ok_plain h0 h3)
  obtain ⟨x, hx⟩ : ∃ x : Int, x = (s[0].toNat : Int) := ⟨_, rfl⟩
  have x1 : (x == 34) = false := by simp; omega
  have x2 : ¬ (128 ≤ x) := by omega
  have x3 : (x == 92) = false := by simp; omega
  rw [← hx] at HB
  have hx' : (s[0].toNat : Int) = x := hx.symm
  clear hx h1 h2 h3
  go_enter Tryz.func75, Tryz.ntmps75
  go_wp2
  go_region
  all_goals (try go_wp2)
  all_goals exact bodyPost_ret (v := .tuple #[.int .i32 x, .bool false, .string (s.extract 1 s.size), .nilIface]) (by simp [results, Tryz.results75, go_sem]) rfl ⟨UAns.ok _ _ _ rfl HB.out, (Below.refl _ _).drew⟩

set_option maxHeartbeats 2000000 in
set_option maxRecDepth 100000 in
theorem uchar_high (s : ByteArray) (w : World) (hs : s.size ≤ 140737488351232) (h0 : 0 < s.size) (h1 : 128 ≤ s[0].toNat) (hu : UtfLaid w) (hl : SynLaid w) :
    Calls Tryz.prog 75 #[.string s, .int .u8 34] w fun e w' => UAns s e ∧ Below w.heap.size w w' := by
  obtain ⟨ty, p, hc⟩ := hl
  have hz : (0 : Int) < (s.size : Int) := by omega
  have HD := hide (decodeRune_any s w hu)
  obtain ⟨n1, n2, n3⟩ := dec_facts s h0
  obtain ⟨r, hr⟩ : ∃ r : Int, r = ((Lib.decodeGo s).1 : Int) := ⟨_, rfl⟩
  have HB := hide (ok_high (s := s) (v := r) (n := (Lib.decodeGo s).2) h0 h1 (by omega) (by omega))
  rw [← hr] at HD
  generalize (Lib.decodeGo s).2 = n at *
  clear hr n3 hu
  obtain ⟨x, hx⟩ : ∃ x : Int, x = (s[0].toNat : Int) := ⟨_, rfl⟩
  have x1 : (x == 34) = false := by simp; omega
  have x2 : 128 ≤ x := by omega
  have hx' : (s[0].toNat : Int) = x := hx.symm
  have n2' : (n : Int) ≤ (s.size : Int) := by omega
  clear hx h1
  go_enter Tryz.func75, Tryz.ntmps75
  go_wp2_with (go_at_call 74; refine HD.out.mono ?_; rintro e w' ⟨rfl, hb⟩)
  go_region
  all_goals (try go_wp2)
  all_goals exact bodyPost_ret (v := .tuple #[.int .i32 r, .bool true, .string (s.extract n s.size), .nilIface]) (by simp [results, Tryz.results75, go_sem]) rfl ⟨UAns.ok _ _ _ rfl HB.out, hb.drew⟩

set_option maxHeartbeats 2000000 in
set_option maxRecDepth 100000 in
theorem uchar_short (s : ByteArray) (w : World) (hs : s.size ≤ 140737488351232) (h0 : 0 < s.size) (h1 : s[0].toNat = 92) (h2 : s.size ≤ 1) (hl : SynLaid w) :
    Calls Tryz.prog 75 #[.string s, .int .u8 34] w fun e w' => UAns s e ∧ Below w.heap.size w w' := by
  obtain ⟨ty, p, hc⟩ := hl
  have hz : (0 : Int) < (s.size : Int) := by omega
  have hz2 : (s.size : Int) ≤ 1 := by omega
  have hx : (s[0].toNat : Int) = 92 := by omega
  have HB := hide (bad_short h2 (fun _ => h1))
  clear h1
  go_enter Tryz.func75, Tryz.ntmps75
  go_wp2
  exact bodyPost_ret (v := .tuple #[.int .i32 0, .bool false, .string ⟨#[]⟩, .iface ty p]) (by simp [results, Tryz.results75, go_sem]) rfl ⟨UAns.bad _ _ _ _ _ rfl HB.out, Below.refl _ _⟩

set_option maxHeartbeats 2000000 in
set_option maxRecDepth 100000 in
theorem uchar_a (s : ByteArray) (w : World) (hs : s.size ≤ 140737488351232) (h0 : 1 < s.size) (h1 : s[0].toNat = 92) (h2 : s[1].toNat = 97) (hl : SynLaid w) :
    Calls Tryz.prog 75 #[.string s, .int .u8 34] w fun e w' => UAns s e ∧ Below w.heap.size w w' := by
  obtain ⟨ty, p, hc⟩ := hl
  have hz : (0 : Int) < (s.size : Int) := by omega
  have hz2 : (2 : Int) ≤ (s.size : Int) := by omega
  have hz3 : ¬ (s.size : Int) ≤ 1 := by omega
  have hx : (s[0].toNat : Int) = 92 := by omega
  have hy : (s[1].toNat : Int) = 97 := by omega
  have HB := hide (ok_two (v := 7) h0 h1 (by omega) (by omega))
  clear h1 h2
  go_enter Tryz.func75, Tryz.ntmps75
  go_wp2
  exact bodyPost_ret (v := .tuple #[.int .i32 7, .bool false, .string (s.extract 2 s.size), .nilIface]) (by simp [results, Tryz.results75, go_sem]) rfl ⟨UAns.ok _ _ _ rfl HB.out, Below.refl _ _⟩

set_option maxHeartbeats 2000000 in
set_option maxRecDepth 100000 in
theorem uchar_b (s : ByteArray) (w : World) (hs : s.size ≤ 140737488351232) (h0 : 1 < s.size) (h1 : s[0].toNat = 92) (h2 : s[1].toNat = 98) (hl : SynLaid w) :
    Calls Tryz.prog 75 #[.string s, .int .u8 34] w fun e w' => UAns s e ∧ Below w.heap.size w w' := by
  obtain ⟨ty, p, hc⟩ := hl
  have hz : (0 : Int) < (s.size : Int) := by omega
  have hz2 : (2 : Int) ≤ (s.size : Int) := by omega
  have hz3 : ¬ (s.size : Int) ≤ 1 := by omega
  have hx : (s[0].toNat : Int) = 92 := by omega
  have hy : (s[1].toNat : Int) = 98 := by omega
  have HB := hide (ok_two (v := 8) h0 h1 (by omega) (by omega))
  clear h1 h2
  go_enter Tryz.func75, Tryz.ntmps75
  go_wp2
  exact bodyPost_ret (v := .tuple #[.int .i32 8, .bool false, .string (s.extract 2 s.size), .nilIface]) (by simp [results, Tryz.results75, go_sem]) rfl ⟨UAns.ok _ _ _ rfl HB.out, Below.refl _ _⟩

set_option maxHeartbeats 2000000 in
set_option maxRecDepth 100000 in
theorem uchar_f (s : ByteArray) (w : World) (hs : s.size ≤ 140737488351232) (h0 : 1 < s.size) (h1 : s[0].toNat = 92) (h2 : s[1].toNat = 102) (hl : SynLaid w) :
    Calls Tryz.prog 75 #[.string s, .int .u8 34] w fun e w' => UAns s e ∧ Below w.heap.size w w' := by
  obtain ⟨ty, p, hc⟩ := hl
  have hz : (0 : Int) < (s.size : Int) := by omega
  have hz2 : (2 : Int) ≤ (s.size : Int) := by omega
  have hz3 : ¬ (s.size : Int) ≤ 1 := by omega
  have hx : (s[0].toNat : Int) = 92 := by omega
  have hy : (s[1].toNat : Int) = 102 := by omega
  have HB := hide (ok_two (v := 12) h0 h1 (by omega) (by omega))
  clear h1 h2
  go_enter Tryz.func75, Tryz.ntmps75
  go_wp2
  exact bodyPost_ret (v := .tuple #[.int .i32 12, .bool false, .string (s.extract 2 s.size), .nilIface]) (by simp [results, Tryz.results75, go_sem]) rfl ⟨UAns.ok _ _ _ rfl HB.out, Below.refl _ _⟩

set_option maxHeartbeats 2000000 in
set_option maxRecDepth 100000 in
theorem uchar_n (s : ByteArray) (w : World) (hs : s.size ≤ 140737488351232) (h0 : 1 < s.size) (h1 : s[0].toNat = 92) (h2 : s[1].toNat = 110) (hl : SynLaid w) :
    Calls Tryz.prog 75 #[.string s, .int .u8 34] w fun e w' => UAns s e ∧ Below w.heap.size w w' := by
  obtain ⟨ty, p, hc⟩ := hl
  have hz : (0 : Int) < (s.size : Int) := by omega
  have hz2 : (2 : Int) ≤ (s.size : Int) := by omega
  have hz3 : ¬ (s.size : Int) ≤ 1 := by omega
  have hx : (s[0].toNat : Int) = 92 := by omega
  have hy : (s[1].toNat : Int) = 110 := by omega
  have HB := hide (ok_two (v := 10) h0 h1 (by omega) (by omega))
  clear h1 h2
  go_enter Tryz.func75, Tryz.ntmps75
  go_wp2
  exact bodyPost_ret (v := .tuple #[.int .i32 10, .bool false, .string (s.extract 2 s.size), .nilIface]) (by simp [results, Tryz.results75, go_sem]) rfl ⟨UAns.ok _ _ _ rfl HB.out, Below.refl _ _⟩

set_option maxHeartbeats 2000000 in
set_option maxRecDepth 100000 in
theorem uchar_r (s : ByteArray) (w : World) (hs : s.size ≤ 140737488351232) (h0 : 1 < s.size) (h1 : s[0].toNat = 92) (h2 : s[1].toNat = 114) (hl : SynLaid w) :
    Calls Tryz.prog 75 #[.string s, .int .u8 34] w fun e w' => UAns s e ∧ Below w.heap.size w w' := by
  obtain ⟨ty, p, hc⟩ := hl
  have hz : (0 : Int) < (s.size : Int) := by omega
  have hz2 : (2 : Int) ≤ (s.size : Int) := by omega
  have hz3 : ¬ (s.size : Int) ≤ 1 := by omega
  have hx : (s[0].toNat : Int) = 92 := by omega
  have hy : (s[1].toNat : Int) = 114 := by omega
  have HB := hide (ok_two (v := 13) h0 h1 (by omega) (by omega))
  clear h1 h2
  go_enter Tryz.func75, Tryz.ntmps75
  go_wp2
  exact bodyPost_ret (v := .tuple #[.int .i32 13, .bool false, .string (s.extract 2 s.size), .nilIface]) (by simp [results, Tryz.results75, go_sem]) rfl ⟨UAns.ok _ _ _ rfl HB.out, Below.refl _ _⟩

set_option maxHeartbeats 2000000 in
set_option maxRecDepth 100000 in
theorem uchar_t (s : ByteArray) (w : World) (hs : s.size ≤ 140737488351232) (h0 : 1 < s.size) (h1 : s[0].toNat = 92) (h2 : s[1].toNat = 116) (hl : SynLaid w) :
    Calls Tryz.prog 75 #[.string s, .int .u8 34] w fun e w' => UAns s e ∧ Below w.heap.size w w' := by
  obtain ⟨ty, p, hc⟩ := hl
  have hz : (0 : Int) < (s.size : Int) := by omega
  have hz2 : (2 : Int) ≤ (s.size : Int) := by omega
  have hz3 : ¬ (s.size : Int) ≤ 1 := by omega
  have hx : (s[0].toNat : Int) = 92 := by omega
  have hy : (s[1].toNat : Int) = 116 := by omega
  have HB := hide (ok_two (v := 9) h0 h1 (by omega) (by omega))
  clear h1 h2
  go_enter Tryz.func75, Tryz.ntmps75
  go_wp2
  exact bodyPost_ret (v := .tuple #[.int .i32 9, .bool false, .string (s.extract 2 s.size), .nilIface]) (by simp [results, Tryz.results75, go_sem]) rfl ⟨UAns.ok _ _ _ rfl HB.out, Below.refl _ _⟩

set_option maxHeartbeats 2000000 in
set_option maxRecDepth 100000 in
theorem uchar_v (s : ByteArray) (w : World) (hs : s.size ≤ 140737488351232) (h0 : 1 < s.size) (h1 : s[0].toNat = 92) (h2 : s[1].toNat = 118) (hl : SynLaid w) :
    Calls Tryz.prog 75 #[.string s, .int .u8 34] w fun e w' => UAns s e ∧ Below w.heap.size w w' := by
  obtain ⟨ty, p, hc⟩ := hl
  have hz : (0 : Int) < (s.size : Int) := by omega
  have hz2 : (2 : Int) ≤ (s.size : Int) := by omega
  have hz3 : ¬ (s.size : Int) ≤ 1 := by omega
  have hx : (s[0].toNat : Int) = 92 := by omega
  have hy : (s[1].toNat : Int) = 118 := by omega
  have HB := hide (ok_two (v := 11) h0 h1 (by omega) (by omega))
  clear h1 h2
  go_enter Tryz.func75, Tryz.ntmps75
  go_wp2
  exact bodyPost_ret (v := .tuple #[.int .i32 11, .bool false, .string (s.extract 2 s.size), .nilIface]) (by simp [results, Tryz.results75, go_sem]) rfl ⟨UAns.ok _ _ _ rfl HB.out, Below.refl _ _⟩

set_option maxHeartbeats 2000000 in
set_option maxRecDepth 100000 in
theorem uchar_bs (s : ByteArray) (w : World) (hs : s.size ≤ 140737488351232) (h0 : 1 < s.size) (h1 : s[0].toNat = 92) (h2 : s[1].toNat = 92) (hl : SynLaid w) :
    Calls Tryz.prog 75 #[.string s, .int .u8 34] w fun e w' => UAns s e ∧ Below w.heap.size w w' := by
  obtain ⟨ty, p, hc⟩ := hl
  have hz : (0 : Int) < (s.size : Int) := by omega
  have hz2 : (2 : Int) ≤ (s.size : Int) := by omega
  have hz3 : ¬ (s.size : Int) ≤ 1 := by omega
  have hx : (s[0].toNat : Int) = 92 := by omega
  have hy : (s[1].toNat : Int) = 92 := by omega
  have HB := hide (ok_two (v := 92) h0 h1 (by omega) (by omega))
  clear h1 h2
  go_enter Tryz.func75, Tryz.ntmps75
  go_wp2
  exact bodyPost_ret (v := .tuple #[.int .i32 92, .bool false, .string (s.extract 2 s.size), .nilIface]) (by simp [results, Tryz.results75, go_sem]) rfl ⟨UAns.ok _ _ _ rfl HB.out, Below.refl _ _⟩

set_option maxHeartbeats 2000000 in
set_option maxRecDepth 100000 in
theorem uchar_dq (s : ByteArray) (w : World) (hs : s.size ≤ 140737488351232) (h0 : 1 < s.size) (h1 : s[0].toNat = 92) (h2 : s[1].toNat = 34) (hl : SynLaid w) :
    Calls Tryz.prog 75 #[.string s, .int .u8 34] w fun e w' => UAns s e ∧ Below w.heap.size w w' := by
  obtain ⟨ty, p, hc⟩ := hl
  have hz : (0 : Int) < (s.size : Int) := by omega
  have hz2 : (2 : Int) ≤ (s.size : Int) := by omega
  have hz3 : ¬ (s.size : Int) ≤ 1 := by omega
  have hx : (s[0].toNat : Int) = 92 := by omega
  have hy : (s[1].toNat : Int) = 34 := by omega
  have HB := hide (ok_two (v := 34) h0 h1 (by omega) (by omega))
  clear h1 h2
  go_enter Tryz.func75, Tryz.ntmps75
  go_wp2
  exact bodyPost_ret (v := .tuple #[.int .i32 34, .bool false, .string (s.extract 2 s.size), .nilIface]) (by simp [results, Tryz.results75, go_sem]) rfl ⟨UAns.ok _ _ _ rfl HB.out, Below.refl _ _⟩

set_option maxHeartbeats 2000000 in
set_option maxRecDepth 100000 in
theorem uchar_sq (s : ByteArray) (w : World) (hs : s.size ≤ 140737488351232) (h0 : 1 < s.size) (h1 : s[0].toNat = 92) (h2 : s[1].toNat = 39) (hl : SynLaid w) :
    Calls Tryz.prog 75 #[.string s, .int .u8 34] w fun e w' => UAns s e ∧ Below w.heap.size w w' := by
  obtain ⟨ty, p, hc⟩ := hl
  have hz : (0 : Int) < (s.size : Int) := by omega
  have hz2 : (2 : Int) ≤ (s.size : Int) := by omega
  have hz3 : ¬ (s.size : Int) ≤ 1 := by omega
  have hx : (s[0].toNat : Int) = 92 := by omega
  have hy : (s[1].toNat : Int) = 39 := by omega
  have HB := hide (bad_two h0 h1 (by omega))
  clear h1 h2
  go_enter Tryz.func75, Tryz.ntmps75
  go_wp2
  exact bodyPost_ret (v := .tuple #[.int .i32 0, .bool false, .string ⟨#[]⟩, .iface ty p]) (by simp [results, Tryz.results75, go_sem]) rfl ⟨UAns.bad _ _ _ _ _ rfl HB.out, Below.refl _ _⟩

set_option maxHeartbeats 2000000 in
set_option maxRecDepth 100000 in
theorem uchar_none (s : ByteArray) (w : World) (hs : s.size ≤ 140737488351232) (h0 : 1 < s.size) (h1 : s[0].toNat = 92) (h2 : s[1].toNat ≠ 97 ∧ s[1].toNat ≠ 98 ∧ s[1].toNat ≠ 102 ∧ s[1].toNat ≠ 110 ∧ s[1].toNat ≠ 114 ∧ s[1].toNat ≠ 116 ∧ s[1].toNat ≠ 118 ∧ s[1].toNat ≠ 120 ∧ s[1].toNat ≠ 117 ∧ s[1].toNat ≠ 85 ∧ (s[1].toNat < 48 ∨ 55 < s[1].toNat) ∧ s[1].toNat ≠ 92 ∧ s[1].toNat ≠ 39 ∧ s[1].toNat ≠ 34) (hl : SynLaid w) :
    Calls Tryz.prog 75 #[.string s, .int .u8 34] w fun e w' => UAns s e ∧ Below w.heap.size w w' := by
  obtain ⟨ty, p, hc⟩ := hl
  have hz : (0 : Int) < (s.size : Int) := by omega
  have hz2 : (2 : Int) ≤ (s.size : Int) := by omega
  have hz3 : ¬ (s.size : Int) ≤ 1 := by omega
  have hx : (s[0].toNat : Int) = 92 := by omega
  have HB := hide (bad_two h0 h1 (by omega))
  obtain ⟨y, hy⟩ : ∃ y : Int, y = (s[1].toNat : Int) := ⟨_, rfl⟩
  have y97 : (y == 97) = false := by simp; omega
  have y98 : (y == 98) = false := by simp; omega
  have y102 : (y == 102) = false := by simp; omega
  have y110 : (y == 110) = false := by simp; omega
  have y114 : (y == 114) = false := by simp; omega
  have y116 : (y == 116) = false := by simp; omega
  have y118 : (y == 118) = false := by simp; omega
  have y120 : (y == 120) = false := by simp; omega
  have y117 : (y == 117) = false := by simp; omega
  have y85 : (y == 85) = false := by simp; omega
  have y48 : (y == 48) = false := by simp; omega
  have y49 : (y == 49) = false := by simp; omega
  have y50 : (y == 50) = false := by simp; omega
  have y51 : (y == 51) = false := by simp; omega
  have y52 : (y == 52) = false := by simp; omega
  have y53 : (y == 53) = false := by simp; omega
  have y54 : (y == 54) = false := by simp; omega
  have y55 : (y == 55) = false := by simp; omega
  have y92 : (y == 92) = false := by simp; omega
  have y39 : (y == 39) = false := by simp; omega
  have y34 : (y == 34) = false := by simp; omega
  have hy' : (s[1].toNat : Int) = y := hy.symm
  clear hy h1 h2
  go_enter Tryz.func75, Tryz.ntmps75
  go_wp2
  exact bodyPost_ret (v := .tuple #[.int .i32 0, .bool false, .string ⟨#[]⟩, .iface ty p]) (by simp [results, Tryz.results75, go_sem]) rfl ⟨UAns.bad _ _ _ _ _ rfl HB.out, Below.refl _ _⟩

end Go.Proofs.YtoppnjpajeipdaaGreatDoor
