/- A constant laid in a new block of its own (a parameter by value). What sym.IsName, IsVar and Valid answer, at every argument: the document's sentence of P1, as a plain test on bytes. How sym writes a text's bytes: appendEscaped and quoted. sym.quoted: the text's bytes, each as it is written, between quotes. -/
import Derived.Test.YtchhophblejmeaaGreatDoorOpen
import Derived.Test.YtchhophblejmeaaGreatDoorProg
import Derived.WalkSpells
import Derived.WalkLawsBesides
import Derived.Test.YtchhophblejmeaaGreatDoorByteRow
import Derived.Deep.RegionLaw
import Derived.Deep.RegionHeld3

namespace Go.Proofs.YtchhophblejmeaaGreatDoor
set_option linter.unusedSimpArgs false
set_option linter.unusedVariables false
open Go.RowKit

theorem conAt_kept {w w' : World} {b off : Nat} {c : Con} (h : conAt w b off c) (hb : Below w.heap.size w w') : conAt w' b off c :=
  ⟨kept_cell hb h.1, kept_cell hb h.2.1, kept_cell hb h.2.2⟩

def boxOf (c : Con) (t : TypeId) : Obj := .cells #[.int .i64 c.k, .int .i64 c.n, .string c.s] t

theorem conAt_new (w : World) (c : Con) (t : TypeId) : conAt (w.alloc (boxOf c t)) w.heap.size 0 c := by
  unfold conAt boxOf
  refine ⟨?_, ?_, ?_⟩ <;> go_simp

theorem conAt_alloc {w : World} {b off : Nat} {c : Con} (h : conAt w b off c) (o : Obj) : conAt (w.alloc o) b off c :=
  conAt_kept h ((Below.refl _ _).alloc (Nat.le_refl _) _)

theorem size_alloc (w : World) (o : Obj) : (w.alloc o).heap.size = w.heap.size + 1 := by simp
end Go.Proofs.YtchhophblejmeaaGreatDoor

namespace Go.Proofs.YtchhophblejmeaaGreatDoor
set_option linter.unusedSimpArgs false
set_option linter.unusedVariables false
open Go.RowKit

def lowN (n : Int) : Bool := decide (97 ≤ n) && decide (n ≤ 122)
def upN (n : Int) : Bool := decide (65 ≤ n) && decide (n ≤ 90)
def digN (n : Int) : Bool := decide (48 ≤ n) && decide (n ≤ 57)
def wordN (n : Int) : Bool := lowN n || (upN n || (digN n || n == 95))
def wordB (b : UInt8) : Bool := wordN (b.toNat : Int)
def isWordL (l : List UInt8) : Bool := decide (1 ≤ l.length) && (decide (l.length ≤ 64) && l.all wordB)
def headN (l : List UInt8) : Int := match l with | b :: _ => (b.toNat : Int) | [] => 0
def isNameL (l : List UInt8) : Bool := isWordL l && (lowN (headN l) && !(l == [110, 111, 116]))
def isVarL (l : List UInt8) : Bool := isWordL l && (upN (headN l) || headN l == 95)
def validC (c : Con) : Bool :=
  if c.k = 1 then c.s.toList == [] else if c.k = 2 then c.n == 0 && isNameL c.s.toList else if c.k = 3 then c.n == 0 && decide (c.s.size ≤ 255) else false

theorem ret_bool {a b : Bool} (h : a = b) : Ending.returned (.bool a) = .returned (.bool b) := by rw [h]

theorem wordByte_any (n : Int) (w : World) (h : 0 ≤ n ∧ n ≤ 255) :
    Calls Tryz.prog 88 #[.int .u8 n] w fun e w' => e = .returned (.bool (wordN n)) ∧ w' = w := by
  have hw : ∀ b, wordN n = b → (Calls Tryz.prog 88 #[.int .u8 n] w fun e w' => e = .returned (.bool b) ∧ w' = w) → Calls Tryz.prog 88 #[.int .u8 n] w fun e w' => e = .returned (.bool (wordN n)) ∧ w' = w := fun b hb hc => by rw [hb]; exact hc
  have H := hide hw
  clear hw
  rcases (show n < 48 ∨ (48 ≤ n ∧ n ≤ 57) ∨ (57 < n ∧ n < 65) ∨ (65 ≤ n ∧ n ≤ 90) ∨ (90 < n ∧ n < 95) ∨ n = 95 ∨ n = 96 ∨ (97 ≤ n ∧ n ≤ 122) ∨ 122 < n from by omega) with h1 | ⟨h1, h2⟩ | ⟨h1, h2⟩ | ⟨h1, h2⟩ | ⟨h1, h2⟩ | rfl | rfl | ⟨h1, h2⟩ | h1
  · refine H.out false (by simp [wordN, lowN, upN, digN]; omega) ?_
    have e : (n == 95) = false := by simp; omega
    clear H
    go_enter Tryz.func88, Tryz.ntmps88
    go_wp2
    go_ret
    first | exact ⟨rfl, rfl⟩ | exact ⟨ret_bool (by simp; omega), rfl⟩
  · refine H.out true (by simp [wordN, lowN, upN, digN]; omega) ?_
    clear H
    go_enter Tryz.func88, Tryz.ntmps88
    go_wp2
    go_ret
    first | exact ⟨rfl, rfl⟩ | exact ⟨ret_bool (by simp; omega), rfl⟩
  · refine H.out false (by simp [wordN, lowN, upN, digN]; omega) ?_
    have e : (n == 95) = false := by simp; omega
    clear H
    go_enter Tryz.func88, Tryz.ntmps88
    go_wp2
    go_ret
    first | exact ⟨rfl, rfl⟩ | exact ⟨ret_bool (by simp; omega), rfl⟩
  · refine H.out true (by simp [wordN, lowN, upN, digN]; omega) ?_
    clear H
    go_enter Tryz.func88, Tryz.ntmps88
    go_wp2
    go_ret
    first | exact ⟨rfl, rfl⟩ | exact ⟨ret_bool (by simp; omega), rfl⟩
  · refine H.out false (by simp [wordN, lowN, upN, digN]; omega) ?_
    have e : (n == 95) = false := by simp; omega
    clear H
    go_enter Tryz.func88, Tryz.ntmps88
    go_wp2
    go_ret
    first | exact ⟨rfl, rfl⟩ | exact ⟨ret_bool (by simp; omega), rfl⟩
  · refine H.out true (by decide) ?_
    clear H
    go_enter Tryz.func88, Tryz.ntmps88
    go_wp2
    go_ret
    first | exact ⟨rfl, rfl⟩ | exact ⟨ret_bool (by simp; omega), rfl⟩
  · refine H.out false (by decide) ?_
    clear H
    go_enter Tryz.func88, Tryz.ntmps88
    go_wp2
    go_ret
    first | exact ⟨rfl, rfl⟩ | exact ⟨ret_bool (by simp; omega), rfl⟩
  · refine H.out true (by simp [wordN, lowN, upN, digN]; omega) ?_
    clear H
    go_enter Tryz.func88, Tryz.ntmps88
    go_wp2
    go_ret
    first | exact ⟨rfl, rfl⟩ | exact ⟨ret_bool (by simp; omega), rfl⟩
  · refine H.out false (by simp [wordN, lowN, upN, digN]; omega) ?_
    have e : (n == 95) = false := by simp; omega
    clear H
    go_enter Tryz.func88, Tryz.ntmps88
    go_wp2
    go_ret
    first | exact ⟨rfl, rfl⟩ | exact ⟨ret_bool (by simp; omega), rfl⟩

theorem take_snoc (s : ByteArray) (k : Nat) (h : k < s.size) : s.toList.take (k + 1) = s.toList.take k ++ [s[k]] := by
  rw [ByteArray.toList_eq]
  rw [List.take_succ_eq_append_getElem (by simpa using h)]
  rfl

theorem toListLen (a : ByteArray) : a.toList.length = a.size := by rw [ByteArray.toList_eq]; rfl

theorem mem_byte (s : ByteArray) (k : Nat) (h : k < s.size) : s[k] ∈ s.toList := by
  rw [ByteArray.toList_eq]
  exact List.getElem_mem (l := s.data.toList) (by simpa using h)

set_option maxHeartbeats 400000 in
theorem isWord_any (s : ByteArray) (w : World) (hs : s.size ≤ maxLen) :
    Calls Tryz.prog 79 #[.string s] w fun e w' => e = .returned (.bool (isWordL s.toList)) ∧ w' = w := by
  unfold maxLen at hs
  by_cases h0 : s.size = 0
  · have hf : isWordL s.toList = false := by unfold isWordL; rw [toListLen, h0]; rfl
    rw [hf]
    have h1 : (s.size : Int) < 1 := by omega
    clear hf
    go_enter Tryz.func79, Tryz.ntmps79
    go_wp2
    go_ret
    first | exact ⟨rfl, rfl⟩ | exact ⟨ret_bool (by simp; omega), rfl⟩
  · by_cases h64 : 64 < s.size
    · have hf : isWordL s.toList = false := by unfold isWordL; rw [toListLen]; simp; omega
      rw [hf]
      have h1 : ¬ (s.size : Int) < 1 := by omega
      have h2 : (64 : Int) < (s.size : Int) := by omega
      clear hf
      go_enter Tryz.func79, Tryz.ntmps79
      go_wp2
      go_ret
      first | exact ⟨rfl, rfl⟩ | exact ⟨ret_bool (by simp; omega), rfl⟩
    · have hw : Hid (isWordL s.toList = s.toList.all wordB) := by
        show isWordL s.toList = _
        unfold isWordL; rw [toListLen]
        rw [show decide (1 ≤ s.size) = true from by simp; omega, show decide (s.size ≤ 64) = true from by simp; omega]; rfl
      have h1 : ¬ (s.size : Int) < 1 := by omega
      have h2 : ¬ (64 : Int) < (s.size : Int) := by omega
      rw [hw.out]
      go_enter Tryz.func79, Tryz.ntmps79
      go_wp2
      go_loop [3, 14] (fun _ i => ∃ k : Nat, k ≤ s.size ∧ i = .int .i64 k ∧ Hid ((s.toList.take k).all wordB = true)) (fun _ i => s.size - (intOf i).toNat)
      case atStart => exact ⟨0, Nat.zero_le _, rfl, rfl⟩
      case round =>
        obtain ⟨k, hk, rfl, HA⟩ := hrel
        by_cases hlt : k < s.size
        · have hi : (k : Int) < (s.size : Int) := by omega
          have hb : (0 : Int) ≤ (s[k].toNat : Int) ∧ (s[k].toNat : Int) ≤ 255 := by have := s[k].toNat_lt; omega
          have HC := hide (wordByte_any (s[k].toNat : Int) w hb)
          by_cases hwb : wordN (s[k].toNat : Int) = true
          · have hwb' : Hid (wordB s[k] = true) := hwb
            go_wp2_with (go_at_call 88; refine HC.out.mono ?_; rintro e w' ⟨rfl, hw'⟩; have hw' := hw'.symm; subst hw')
            go_round
            case rel => exact ⟨k + 1, by omega, by go_num, by show (s.toList.take (k + 1)).all wordB = true; rw [take_snoc s k hlt, List.all_append, HA.out, List.all_cons, hwb'.out]; rfl⟩
            case measure => simp [intOf]; omega
          · have hwf : wordN (s[k].toNat : Int) = false := by simpa using hwb
            have hall : Hid (s.toList.all wordB = false) := by
              show s.toList.all wordB = false
              rw [List.all_eq_false]
              exact ⟨s[k], mem_byte s k hlt, by show ¬ wordB s[k] = true; exact hwb⟩
            clear hwb
            go_wp2_with (go_at_call 88; refine HC.out.mono ?_; rintro e w' ⟨rfl, hw'⟩; have hw' := hw'.symm; subst hw')
            go_ret
            exact ⟨by rw [hall.out]; rfl, rfl⟩
        · have hi : ¬ (k : Int) < (s.size : Int) := by omega
          go_wp2
          go_ret
          refine ⟨?_, rfl⟩
          have := HA.out
          rw [List.take_of_length_le (by rw [toListLen]; omega)] at this
          rw [this]; rfl

theorem toList_cons (s : ByteArray) (h : 0 < s.size) : ∃ r, s.toList = s[0] :: r := by
  rw [ByteArray.toList_eq]
  have h' : 0 < s.data.toList.length := by simpa using h
  refine ⟨s.data.toList.drop 1, ?_⟩
  have := List.drop_eq_getElem_cons h'
  rw [List.drop_zero] at this
  exact this

theorem isLower_any (n : Int) (w : World) (h : 0 ≤ n ∧ n ≤ 255) :
    Calls Tryz.prog 80 #[.int .u8 n] w fun e w' => e = .returned (.bool (lowN n)) ∧ w' = w := by
  have H : Hid (lowN n = (decide (97 ≤ n) && decide (n ≤ 122))) := rfl
  rw [H.out]
  go_enter Tryz.func80, Tryz.ntmps80
  go_wp2
  all_goals go_ret
  all_goals refine ⟨ret_bool ?_, rfl⟩
  all_goals first | rfl | (simp; done) | (simp; omega)

theorem head_of (s : ByteArray) (h : 0 < s.size) : headN s.toList = (s[0].toNat : Int) := by
  obtain ⟨r, hr⟩ := toList_cons s h
  rw [hr]; rfl

theorem word_pos {s : ByteArray} (hw : isWordL s.toList = true) : 0 < s.size := by
  unfold isWordL at hw
  simp only [Bool.and_eq_true, decide_eq_true_eq] at hw
  rw [toListLen] at hw
  omega

theorem isName_any (s : ByteArray) (w : World) (hs : s.size ≤ maxLen) :
    Calls Tryz.prog 62 #[.string s] w fun e w' => e = .returned (.bool (isNameL s.toList)) ∧ w' = w := by
  have HW := hide (isWord_any s w hs)
  have hd : Hid (isNameL s.toList = (isWordL s.toList && (lowN (headN s.toList) && !(s.toList == [110, 111, 116])))) := rfl
  rw [hd.out]
  clear hd
  cases hw : isWordL s.toList
  · go_enter Tryz.func62, Tryz.ntmps62
    go_wp2_with (go_at_call 79; refine HW.out.mono ?_; rintro e w' ⟨rfl, hw'⟩; have hw' := hw'.symm; subst hw')
    go_ret
    exact ⟨rfl, rfl⟩
  · have hpos := word_pos hw
    rw [head_of s hpos]
    have hi : (0 : Int) < (s.size : Int) := by omega
    have hb : (0 : Int) ≤ (s[0].toNat : Int) ∧ (s[0].toNat : Int) ≤ 255 := by have := s[0].toNat_lt; omega
    have HC := hide (isLower_any (s[0].toNat : Int) w hb)
    cases hl : lowN (s[0].toNat : Int)
    · go_enter Tryz.func62, Tryz.ntmps62
      go_wp2_with (first | (go_at_call 79; refine HW.out.mono ?_; rintro e w' ⟨rfl, hw'⟩; have hw' := hw'.symm; subst hw') | (go_at_call 80; refine HC.out.mono ?_; rintro e w' ⟨rfl, hw'⟩; have hw' := hw'.symm; subst hw'))
      go_ret
      exact ⟨rfl, rfl⟩
    · go_enter Tryz.func62, Tryz.ntmps62
      go_wp2_with (first | (go_at_call 79; refine HW.out.mono ?_; rintro e w' ⟨rfl, hw'⟩; have hw' := hw'.symm; subst hw') | (go_at_call 80; refine HC.out.mono ?_; rintro e w' ⟨rfl, hw'⟩; have hw' := hw'.symm; subst hw'))
      go_ret
      first | exact ⟨rfl, rfl⟩ | exact ⟨ret_bool (by simp), rfl⟩

theorem valid_any (c : Con) (w : World) (hc : c.ok) :
    Calls Tryz.prog 64 #[c.val] w fun e w' => e = .returned (.bool (validC c)) ∧ Below w.heap.size w w' := by
  obtain ⟨k, n, s⟩ := c
  have hs : s.size ≤ maxLen := by have := hc.2.2; unfold maxLen; simp only at this; omega
  have hs2 : s.size ≤ 140737488351232 := hc.2.2
  have hd : Hid (validC ⟨k, n, s⟩ = if k = 1 then s.toList == [] else if k = 2 then n == 0 && isNameL s.toList else if k = 3 then n == 0 && decide (s.size ≤ 255) else false) := rfl
  rw [hd.out]
  clear hd hc
  unfold Con.val
  by_cases h1 : k = 1
  · subst h1
    rw [if_pos rfl]
    go_enter Tryz.func64, Tryz.ntmps64
    go_wp2
    go_ret
    first | exact ⟨rfl, (Below.refl _ _).alloc (Nat.le_refl _) _⟩ | exact ⟨ret_bool (by simp), (Below.refl _ _).alloc (Nat.le_refl _) _⟩
  · have e1 : (k == 1) = false := by simp [h1]
    rw [if_neg h1]
    by_cases h2 : k = 2
    · subst h2
      rw [if_pos rfl]
      have HN := hide (fun w => isName_any s w hs)
      cases hn : (n == 0)
      · go_enter Tryz.func64, Tryz.ntmps64
        go_wp2
        go_ret
        exact ⟨rfl, (Below.refl _ _).alloc (Nat.le_refl _) _⟩
      · go_enter Tryz.func64, Tryz.ntmps64
        go_wp2_with (go_at_call 62; refine (HN.out _).mono ?_; rintro e w' ⟨rfl, hw'⟩; have hw' := hw'.symm; subst hw')
        go_ret
        first | exact ⟨rfl, (Below.refl _ _).alloc (Nat.le_refl _) _⟩ | exact ⟨ret_bool (by simp), (Below.refl _ _).alloc (Nat.le_refl _) _⟩
    · have e2 : (k == 2) = false := by simp [h2]
      rw [if_neg h2]
      by_cases h3 : k = 3
      · subst h3
        rw [if_pos rfl]
        cases hn : (n == 0)
        · go_enter Tryz.func64, Tryz.ntmps64
          go_wp2
          go_ret
          exact ⟨rfl, (Below.refl _ _).alloc (Nat.le_refl _) _⟩
        · go_enter Tryz.func64, Tryz.ntmps64
          go_wp2
          all_goals go_ret
          all_goals refine ⟨ret_bool ?_, (Below.refl _ _).alloc (Nat.le_refl _) _⟩
          all_goals first | rfl | (simp; done) | (simp; omega)
      · have e3 : (k == 3) = false := by simp [h3]
        rw [if_neg h3]
        go_enter Tryz.func64, Tryz.ntmps64
        go_wp2
        go_ret
        exact ⟨rfl, (Below.refl _ _).alloc (Nat.le_refl _) _⟩
end Go.Proofs.YtchhophblejmeaaGreatDoor

namespace Go.Proofs.YtchhophblejmeaaGreatDoor
set_option linter.unusedSimpArgs false
set_option linter.unusedVariables false
open Go.RowKit

def hexS : ByteArray := ⟨#[48, 49, 50, 51, 52, 53, 54, 55, 56, 57, 97, 98, 99, 100, 101, 102]⟩
def hexI (k : Nat) : Int := if h : k < hexS.size then (hexS[k].toNat : Int) else 0
/-- How one byte of a text is written. -/
def escI (b : Int) : List Int :=
  if b = 34 then [92, 34] else if b = 92 then [92, 92] else if b = 10 then [92, 110] else if b = 9 then [92, 116] else if b = 13 then [92, 114]
  else if 32 ≤ b ∧ b ≤ 126 then [b] else [92, 120, hexI (b / 16).toNat, hexI (b % 16).toNat]
theorem and15 {b : Int} (h : 0 ≤ b ∧ b ≤ 255) : bits BinOp.and IntKind.u8 b 15 = b % 16 := by
  have key : ∀ n : Fin 256, bits BinOp.and IntKind.u8 ((n.val : Nat) : Int) 15 = ((n.val : Nat) : Int) % 16 := by decide +kernel
  have := key ⟨b.toNat, by omega⟩
  rw [show ((b.toNat : Nat) : Int) = b from by omega] at this
  exact this
theorem hexI_at (k : Nat) (h : k < hexS.size) : hexI k = (hexS[k].toNat : Int) := by unfold hexI; rw [dif_pos h]
theorem escI_len (b : Int) : (escI b).length ≤ 4 := by
  unfold escI
  repeat' split
  all_goals simp
def intsOf (s : ByteArray) : List Int := s.data.toList.map fun b => (b.toNat : Int)

theorem news_bytes (wr : World) (us : List Int) : ∀ j u, (us.map (Value.int .u8))[j]? = some u → (wr.alloc (.cells (us.map (Value.int .u8)).toArray 5)).cell? ((⟨wr.heap.size, 0, none⟩ : Addr).add j) = some u :=
  World.news_of_block (cs := (us.map (Value.int .u8)).toArray) (t := 5) (fr := (0, 0)) (heap_alloc_new wr _)

set_option maxHeartbeats 2000000 in
theorem esc_any (ao : Option Addr) (cap base : Nat) (vs : List Int) (b : Int) (w : World) (h : w.ownsRow base 5 1 (.slice ao vs.length cap) vs.length (vs.map (Value.int .u8))) (hbase : base ≤ w.heap.size) (hn : vs.length ≤ 100000) (hb : 0 ≤ b ∧ b ≤ 255) :
    Calls Tryz.prog 175 #[.slice ao vs.length cap, .int .u8 b] w fun e w' => ∃ v', e = .returned v' ∧ w'.ownsRow base 5 1 v' (vs ++ escI b).length ((vs ++ escI b).map (Value.int .u8)) ∧ Below base w w' := by
  obtain ⟨i0, hi0, hz0, hz1, hz2⟩ := info_parts Tryz.infoByte
  have HO := hide h
  clear h
  by_cases e34 : b = 34
  · subst e34
    have HE : Hid (escI 34 = ([92, 34] : List Int)) := by show escI _ = _; unfold escI; rfl
    rw [HE.out]
    clear HE
    go_enter Tryz.func175, Tryz.ntmps175
    go_wp2_with (at_builtin; refine wpList_append_lies _ rfl _ _ 101 rfl base 5 i0 (.int .u8 0) 1 1 Tryz.underlying101 hi0 hz0 hz1 hz2 rfl (by decide) (.slice ao vs.length cap) vs.length (vs.map (Value.int .u8)) rfl (World.ownsRow.alloc HO.out _) ⟨w.heap.size, 0, none⟩ 2 2 (([92, 34] : List Int).map (Value.int .u8)) rfl rfl (news_bytes w ([92, 34] : List Int)) (by simp [Value.oneCell']) (by decide) (by unfold maxLen; omega) (by omega) (by simp; omega) (w.heap.size + 1) (by simp) ?_; intro gg cap' w1 hown1 hgrow hat hlt1)
    go_ret
    refine ⟨_, rfl, ?_, grown_below (Below.refl base w) hbase HO.out hgrow⟩
    rw [List.length_append, List.map_append]; exact hown1
  by_cases e92 : b = 92
  · subst e92
    have HE : Hid (escI 92 = ([92, 92] : List Int)) := by show escI _ = _; unfold escI; rfl
    rw [HE.out]
    clear HE
    go_enter Tryz.func175, Tryz.ntmps175
    go_wp2_with (at_builtin; refine wpList_append_lies _ rfl _ _ 101 rfl base 5 i0 (.int .u8 0) 1 1 Tryz.underlying101 hi0 hz0 hz1 hz2 rfl (by decide) (.slice ao vs.length cap) vs.length (vs.map (Value.int .u8)) rfl (World.ownsRow.alloc HO.out _) ⟨w.heap.size, 0, none⟩ 2 2 (([92, 92] : List Int).map (Value.int .u8)) rfl rfl (news_bytes w ([92, 92] : List Int)) (by simp [Value.oneCell']) (by decide) (by unfold maxLen; omega) (by omega) (by simp; omega) (w.heap.size + 1) (by simp) ?_; intro gg cap' w1 hown1 hgrow hat hlt1)
    go_ret
    refine ⟨_, rfl, ?_, grown_below (Below.refl base w) hbase HO.out hgrow⟩
    rw [List.length_append, List.map_append]; exact hown1
  by_cases e10 : b = 10
  · subst e10
    have HE : Hid (escI 10 = ([92, 110] : List Int)) := by show escI _ = _; unfold escI; rfl
    rw [HE.out]
    clear HE
    go_enter Tryz.func175, Tryz.ntmps175
    go_wp2_with (at_builtin; refine wpList_append_lies _ rfl _ _ 101 rfl base 5 i0 (.int .u8 0) 1 1 Tryz.underlying101 hi0 hz0 hz1 hz2 rfl (by decide) (.slice ao vs.length cap) vs.length (vs.map (Value.int .u8)) rfl (World.ownsRow.alloc HO.out _) ⟨w.heap.size, 0, none⟩ 2 2 (([92, 110] : List Int).map (Value.int .u8)) rfl rfl (news_bytes w ([92, 110] : List Int)) (by simp [Value.oneCell']) (by decide) (by unfold maxLen; omega) (by omega) (by simp; omega) (w.heap.size + 1) (by simp) ?_; intro gg cap' w1 hown1 hgrow hat hlt1)
    go_ret
    refine ⟨_, rfl, ?_, grown_below (Below.refl base w) hbase HO.out hgrow⟩
    rw [List.length_append, List.map_append]; exact hown1
  by_cases e9 : b = 9
  · subst e9
    have HE : Hid (escI 9 = ([92, 116] : List Int)) := by show escI _ = _; unfold escI; rfl
    rw [HE.out]
    clear HE
    go_enter Tryz.func175, Tryz.ntmps175
    go_wp2_with (at_builtin; refine wpList_append_lies _ rfl _ _ 101 rfl base 5 i0 (.int .u8 0) 1 1 Tryz.underlying101 hi0 hz0 hz1 hz2 rfl (by decide) (.slice ao vs.length cap) vs.length (vs.map (Value.int .u8)) rfl (World.ownsRow.alloc HO.out _) ⟨w.heap.size, 0, none⟩ 2 2 (([92, 116] : List Int).map (Value.int .u8)) rfl rfl (news_bytes w ([92, 116] : List Int)) (by simp [Value.oneCell']) (by decide) (by unfold maxLen; omega) (by omega) (by simp; omega) (w.heap.size + 1) (by simp) ?_; intro gg cap' w1 hown1 hgrow hat hlt1)
    go_ret
    refine ⟨_, rfl, ?_, grown_below (Below.refl base w) hbase HO.out hgrow⟩
    rw [List.length_append, List.map_append]; exact hown1
  by_cases e13 : b = 13
  · subst e13
    have HE : Hid (escI 13 = ([92, 114] : List Int)) := by show escI _ = _; unfold escI; rfl
    rw [HE.out]
    clear HE
    go_enter Tryz.func175, Tryz.ntmps175
    go_wp2_with (at_builtin; refine wpList_append_lies _ rfl _ _ 101 rfl base 5 i0 (.int .u8 0) 1 1 Tryz.underlying101 hi0 hz0 hz1 hz2 rfl (by decide) (.slice ao vs.length cap) vs.length (vs.map (Value.int .u8)) rfl (World.ownsRow.alloc HO.out _) ⟨w.heap.size, 0, none⟩ 2 2 (([92, 114] : List Int).map (Value.int .u8)) rfl rfl (news_bytes w ([92, 114] : List Int)) (by simp [Value.oneCell']) (by decide) (by unfold maxLen; omega) (by omega) (by simp; omega) (w.heap.size + 1) (by simp) ?_; intro gg cap' w1 hown1 hgrow hat hlt1)
    go_ret
    refine ⟨_, rfl, ?_, grown_below (Below.refl base w) hbase HO.out hgrow⟩
    rw [List.length_append, List.map_append]; exact hown1
  have f34 : (b == 34) = false := by simpa using e34
  have f92 : (b == 92) = false := by simpa using e92
  have f10 : (b == 10) = false := by simpa using e10
  have f9 : (b == 9) = false := by simpa using e9
  have f13 : (b == 13) = false := by simpa using e13
  by_cases h32 : 32 ≤ b
  · by_cases h126 : b ≤ 126

    · have HE : Hid (escI b = [b]) := by show escI _ = _; unfold escI; rw [if_neg e34, if_neg e92, if_neg e10, if_neg e9, if_neg e13, if_pos ⟨h32, h126⟩]
      rw [HE.out]
      clear HE e34 e92 e10 e9 e13
      go_enter Tryz.func175, Tryz.ntmps175
      go_wp2_with (at_builtin; refine wpList_append_lies _ rfl _ _ 101 rfl base 5 i0 (.int .u8 0) 1 1 Tryz.underlying101 hi0 hz0 hz1 hz2 rfl (by decide) (.slice ao vs.length cap) vs.length (vs.map (Value.int .u8)) rfl (World.ownsRow.alloc HO.out _) ⟨w.heap.size, 0, none⟩ 1 1 ([b].map (Value.int .u8)) rfl rfl (news_bytes w [b]) (by simp [Value.oneCell']) (by decide) (by unfold maxLen; omega) (by omega) (by simp; omega) (w.heap.size + 1) (by simp) ?_; intro gg cap' w1 hown1 hgrow hat hlt1)
      go_ret
      refine ⟨_, rfl, ?_, grown_below (Below.refl base w) hbase HO.out hgrow⟩
      rw [List.length_append, List.map_append]; exact hown1
    · have HE : Hid (escI b = [92, 120, hexI (b / 16).toNat, hexI (b % 16).toNat]) := by show escI _ = _; unfold escI; rw [if_neg e34, if_neg e92, if_neg e10, if_neg e9, if_neg e13, if_neg (by omega)]
      rw [HE.out]
      clear HE e34 e92 e10 e9 e13
      have q1 : 0 ≤ b / 16 ∧ b / 16 < 16 := by omega
      have q2 : 0 ≤ b % 16 ∧ b % 16 < 16 := by omega
      have ha := and15 hb
      rw [hexI_at (b / 16).toNat (by show _ < 16; omega), hexI_at (b % 16).toNat (by show _ < 16; omega)]
      unfold hexS
      go_enter Tryz.func175, Tryz.ntmps175
      go_wp2
      go_region_law (refine step_append_lies _ (by rfl) _ _ _ (by rfl) base 5 i0 _ 1 1 Tryz.underlying101 hi0 hz0 hz1 hz2 rfl (by decide) (.slice ao vs.length cap) vs.length (vs.map (Value.int .u8)) (by rfl) ((World.ownsRow.drew HO.out).alloc _) ⟨w.heap.size, 0, none⟩ 4 4 (List.map (Value.int .u8) [92, 120, _, _]) (by rfl) (by rfl) (news_bytes w.drew [92, 120, _, _]) (by simp [Value.oneCell']) (by decide) (by unfold maxLen; omega) (by omega) (by simp; omega) (w.heap.size + 1) (by simp) ?_; intro gg cap' w1 hown1 hgrow hat hlt1)
      all_goals (try go_wp2)
      all_goals go_ret
      all_goals refine ⟨_, rfl, ?_, grown_below (Below.refl base w).drew hbase (World.ownsRow.drew HO.out) hgrow⟩
      all_goals (rw [List.length_append, List.map_append]; exact hown1)
  · have HE : Hid (escI b = [92, 120, hexI (b / 16).toNat, hexI (b % 16).toNat]) := by show escI _ = _; unfold escI; rw [if_neg e34, if_neg e92, if_neg e10, if_neg e9, if_neg e13, if_neg (by omega)]
    rw [HE.out]
    clear HE e34 e92 e10 e9 e13
    have q1 : 0 ≤ b / 16 ∧ b / 16 < 16 := by omega
    have q2 : 0 ≤ b % 16 ∧ b % 16 < 16 := by omega
    have ha := and15 hb
    rw [hexI_at (b / 16).toNat (by show _ < 16; omega), hexI_at (b % 16).toNat (by show _ < 16; omega)]
    unfold hexS
    go_enter Tryz.func175, Tryz.ntmps175
    go_wp2
    go_region_law (refine step_append_lies _ (by rfl) _ _ _ (by rfl) base 5 i0 _ 1 1 Tryz.underlying101 hi0 hz0 hz1 hz2 rfl (by decide) (.slice ao vs.length cap) vs.length (vs.map (Value.int .u8)) (by rfl) ((World.ownsRow.drew HO.out).alloc _) ⟨w.heap.size, 0, none⟩ 4 4 (List.map (Value.int .u8) [92, 120, _, _]) (by rfl) (by rfl) (news_bytes w.drew [92, 120, _, _]) (by simp [Value.oneCell']) (by decide) (by unfold maxLen; omega) (by omega) (by simp; omega) (w.heap.size + 1) (by simp) ?_; intro gg cap' w1 hown1 hgrow hat hlt1)
    all_goals (try go_wp2)
    all_goals go_ret
    all_goals refine ⟨_, rfl, ?_, grown_below (Below.refl base w).drew hbase (World.ownsRow.drew HO.out) hgrow⟩
    all_goals (rw [List.length_append, List.map_append]; exact hown1)
end Go.Proofs.YtchhophblejmeaaGreatDoor

namespace Go.Proofs.YtchhophblejmeaaGreatDoor
set_option linter.unusedSimpArgs false
set_option linter.unusedVariables false
open Go.RowKit

def quotI (s : ByteArray) : List Int := (34 :: (intsOf s).flatMap escI) ++ [34]

theorem intsOf_len (s : ByteArray) : (intsOf s).length = s.size := by unfold intsOf; rw [List.length_map]; rfl
theorem intsOf_take (s : ByteArray) (k : Nat) (h : k < s.size) : (intsOf s).take (k + 1) = (intsOf s).take k ++ [(s[k].toNat : Int)] := by
  have : (intsOf s)[k]? = some (s[k].toNat : Int) := by
    unfold intsOf
    rw [List.getElem?_map, List.getElem?_eq_getElem (by simpa using h)]
    rfl
  rw [List.take_add_one, this]; rfl
theorem escs_len (l : List Int) : (l.flatMap escI).length ≤ 4 * l.length := by
  induction l with
  | nil => simp
  | cons a r ih => rw [List.flatMap_cons, List.length_append, List.length_cons]; have := escI_len a; omega

set_option maxHeartbeats 2000000 in
set_option maxRecDepth 100000 in
theorem quoted_any (s : ByteArray) (w : World) (hs : s.size ≤ 255) :
    Calls Tryz.prog 174 #[.string s] w fun e w' => e = .returned (.string (strOf (quotI s))) ∧ Below w.heap.size w w' := by
  obtain ⟨i0, hi0, hz0, hz1, hz2⟩ := info_parts Tryz.infoByte
  go_enter Tryz.func174, Tryz.ntmps174
  go_wp2_with (at_make; refine wpList_make_own _ rfl _ _ 101 rfl w.heap.size 5 i0 (.int .u8 0) 1 Tryz.underlying101 hi0 hz0 hz1 _ _ _ (s.size + 2) rfl rfl (by go_num) (by rw [hz2]; omega) (by unfold maxLen; omega) (Nat.le_refl _) ?_)
  intro w1 hown hgrow
  have hb1 : Below w.heap.size w w1 := (Below.refl _ _).grown hgrow (Nat.le_refl _) (by simp)
  have HO := hide hown
  have HB := hide hb1
  clear hown hgrow hb1
  go_wp2_with (at_builtin; refine wpList_append_lies _ rfl _ _ 101 rfl w.heap.size 5 i0 (.int .u8 0) 1 1 Tryz.underlying101 hi0 hz0 hz1 hz2 rfl (by decide) (.slice (some ⟨w.heap.size, 0, none⟩) 0 (s.size + 2)) 0 [] rfl (World.ownsRow.alloc HO.out _) ⟨w1.heap.size, 0, none⟩ 1 1 (([34] : List Int).map (Value.int .u8)) rfl rfl (news_bytes w1 [34]) (by simp [Value.oneCell']) (by decide) (by unfold maxLen; omega) (by omega) (by have := HB.out.size; simp; omega) (w1.heap.size + 1) (by simp) ?_; intro gg cap' w2 hown1 hgrow hat hlt1)
  have HB2 := hide (grown_below HB.out HB.out.size HO.out hgrow)
  have HO2 := hide hown1
  clear hown1 hgrow hat hlt1 HO HB
  go_loopw [3, 4, 14] (fun v _ i wr => ∃ (k : Nat) (vs : List Int), k ≤ s.size ∧ i = .int .i64 k ∧ Hid (vs = 34 :: ((intsOf s).take k).flatMap escI) ∧ Hid (wr.ownsRow w.heap.size 5 1 v vs.length (vs.map (Value.int .u8))) ∧ Hid (Below w.heap.size w wr)) (fun _ _ i _ => s.size - (intOf i).toNat)
  case atStart => exact ⟨0, [34], by omega, rfl, rfl, HO2.out, HB2.out⟩
  case round =>
    obtain ⟨k, vs, hk, rfl, HV, HO, HB⟩ := hrel
    have hvs : vs.length ≤ 1 + 4 * k := by
      have h1 := escs_len ((intsOf s).take k)
      have h2 : ((intsOf s).take k).length ≤ k := by rw [List.length_take]; omega
      rw [HV.out, List.length_cons]; omega
    obtain ⟨ao, cap, rfl⟩ := own_shape HO.out
    by_cases hlt : k < s.size
    · have hi : (k : Int) < (s.size : Int) := by omega
      have hb : (0 : Int) ≤ (s[k].toNat : Int) ∧ (s[k].toNat : Int) ≤ 255 := by have := s[k].toNat_lt; omega
      have HE := hide (esc_any ao cap w.heap.size vs (s[k].toNat : Int) wr HO.out HB.out.size (by omega) hb)
      have HV2 : Hid (vs ++ escI (s[k].toNat : Int) = 34 :: ((intsOf s).take (k + 1)).flatMap escI) := by
        show _ = _
        rw [intsOf_take s k hlt, List.flatMap_append, HV.out]; simp
      go_wp2_with (go_at_call 175; refine HE.out.mono ?_; rintro e w' ⟨v', rfl, hown', hbel'⟩)
      have HO' := hide hown'
      have HB' := hide (HB.out.trans hbel')
      clear hown' hbel' HE
      go_wp2
      go_roundw
      case rel => exact ⟨k + 1, _, by omega, by go_num, HV2, HO', HB'⟩
      case measure => simp [intOf]; omega
    · have hi : ¬ (k : Int) < (s.size : Int) := by omega
      have HQ : Hid (vs ++ [34] = quotI s) := by
        show _ = _
        unfold quotI
        rw [HV.out, List.take_of_length_le (by rw [intsOf_len]; omega)]
      go_wp2_with (at_builtin; refine wpList_append_lies _ rfl _ _ 101 rfl w.heap.size 5 i0 (.int .u8 0) 1 1 Tryz.underlying101 hi0 hz0 hz1 hz2 rfl (by decide) (.slice ao vs.length cap) vs.length (vs.map (Value.int .u8)) rfl (World.ownsRow.alloc HO.out _) ⟨wr.heap.size, 0, none⟩ 1 1 (([34] : List Int).map (Value.int .u8)) rfl rfl (news_bytes wr [34]) (by simp [Value.oneCell']) (by decide) (by unfold maxLen; omega) (by omega) (by have := HB.out.size; simp; omega) (wr.heap.size + 1) (by simp) ?_; intro gg cap' w2 hown1 hgrow hat hlt1)
      have HB2 := hide (grown_below HB.out HB.out.size HO.out hgrow)
      have hown2 : w2.ownsRow w.heap.size 5 1 (.slice (some ⟨gg, 0, none⟩) (vs.length + 1) cap') (vs ++ [34]).length ((vs ++ [34]).map (Value.int .u8)) := by rw [List.length_append, List.map_append]; exact hown1
      have hconv := text_string hown2
      rw [HQ.out] at hconv
      clear hown1 hown2 hgrow hat hlt1 HO HB HO2
      go_wp2
      rw [hconv]
      go_wp2
      go_ret
      exact ⟨rfl, HB2.out⟩
end Go.Proofs.YtchhophblejmeaaGreatDoor
