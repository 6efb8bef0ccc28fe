/- How sym writes a text's bytes: appendEscaped and quoted. -/
import Derived.Test.YtoppnjpajeipdaaGreatDoorProg
import Derived.Test.YtoppnjpajeipdaaGreatDoorByteRow
import Derived.Test.YtoppnjpajeipdaaGreatDoorValid
import Derived.Deep.RegionLaw
import Derived.Deep.RegionHeld3
namespace Go.Proofs.YtoppnjpajeipdaaGreatDoor
set_option linter.unusedSimpArgs false
set_option linter.unusedVariables false
open Go.RowKit

def hexS : ByteArray := ⟨#[48, 49, 50, 51, 52, 53, 54, 55, 56, 57, 97, 98, 99, 100, 101, 102]⟩
def hexI (k : Nat) : Int := if h : k < hexS.size then (hexS[k].toNat : Int) else 0
/-- How one byte of a text is written. -/
def escI (b : Int) : List Int :=
  if b = 34 then [92, 34] else if b = 92 then [92, 92] else if b = 10 then [92, 110] else if b = 9 then [92, 116] else if b = 13 then [92, 114]
  else if 32 ≤ b ∧ b ≤ 126 then [b] else [92, 120, hexI (b / 16).toNat, hexI (b % 16).toNat]
theorem and15 {b : Int} (h : 0 ≤ b ∧ b ≤ 255) : bits BinOp.and IntKind.u8 b 15 = b % 16 := by
  have key : ∀ n : Fin 256, bits BinOp.and IntKind.u8 ((n.val : Nat) : Int) 15 = ((n.val : Nat) : Int) % 16 := by decide +kernel
  have := key ⟨b.toNat, by omega⟩
  rw [show ((b.toNat : Nat) : Int) = b from by omega] at this
  exact this
theorem hexI_at (k : Nat) (h : k < hexS.size) : hexI k = (hexS[k].toNat : Int) := by unfold hexI; rw [dif_pos h]
theorem escI_len (b : Int) : (escI b).length ≤ 4 := by
  unfold escI
  repeat' split
  all_goals simp
def intsOf (s : ByteArray) : List Int := s.data.toList.map fun b => (b.toNat : Int)

theorem news_bytes (wr : World) (us : List Int) : ∀ j u, (us.map (Value.int .u8))[j]? = some u → (wr.alloc (.cells (us.map (Value.int .u8)).toArray 5)).cell? ((⟨wr.heap.size, 0, none⟩ : Addr).add j) = some u :=
  World.news_of_block (cs := (us.map (Value.int .u8)).toArray) (t := 5) (fr := (0, 0)) (heap_alloc_new wr _)

set_option maxHeartbeats 2000000 in
theorem esc_any (ao : Option Addr) (cap base : Nat) (vs : List Int) (b : Int) (w : World) (h : w.ownsRow base 5 1 (.slice ao vs.length cap) vs.length (vs.map (Value.int .u8))) (hbase : base ≤ w.heap.size) (hn : vs.length ≤ 100000) (hb : 0 ≤ b ∧ b ≤ 255) :
    Calls Tryz.prog 35 #[.slice ao vs.length cap, .int .u8 b] w fun e w' => ∃ v', e = .returned v' ∧ w'.ownsRow base 5 1 v' (vs ++ escI b).length ((vs ++ escI b).map (Value.int .u8)) ∧ Below base w w' := by
  obtain ⟨i0, hi0, hz0, hz1, hz2⟩ := info_parts Tryz.infoByte
  have HO := hide h
  clear h
  by_cases e34 : b = 34
  · subst e34
    have HE : Hid (escI 34 = ([92, 34] : List Int)) := by show escI _ = _; unfold escI; rfl
    rw [HE.out]
    clear HE
    go_enter Tryz.func35, Tryz.ntmps35
    go_wp2_with (at_builtin; refine wpList_append_lies _ rfl _ _ 56 rfl base 5 i0 (.int .u8 0) 1 1 Tryz.underlying56 hi0 hz0 hz1 hz2 rfl (by decide) (.slice ao vs.length cap) vs.length (vs.map (Value.int .u8)) rfl (World.ownsRow.alloc HO.out _) ⟨w.heap.size, 0, none⟩ 2 2 (([92, 34] : List Int).map (Value.int .u8)) rfl rfl (news_bytes w ([92, 34] : List Int)) (by simp [Value.oneCell']) (by decide) (by unfold maxLen; omega) (by omega) (by simp; omega) (w.heap.size + 1) (by simp) ?_; intro gg cap' w1 hown1 hgrow hat hlt1)
    go_ret
    refine ⟨_, rfl, ?_, grown_below (Below.refl base w) hbase HO.out hgrow⟩
    rw [List.length_append, List.map_append]; exact hown1
  by_cases e92 : b = 92
  · subst e92
    have HE : Hid (escI 92 = ([92, 92] : List Int)) := by show escI _ = _; unfold escI; rfl
    rw [HE.out]
    clear HE
    go_enter Tryz.func35, Tryz.ntmps35
    go_wp2_with (at_builtin; refine wpList_append_lies _ rfl _ _ 56 rfl base 5 i0 (.int .u8 0) 1 1 Tryz.underlying56 hi0 hz0 hz1 hz2 rfl (by decide) (.slice ao vs.length cap) vs.length (vs.map (Value.int .u8)) rfl (World.ownsRow.alloc HO.out _) ⟨w.heap.size, 0, none⟩ 2 2 (([92, 92] : List Int).map (Value.int .u8)) rfl rfl (news_bytes w ([92, 92] : List Int)) (by simp [Value.oneCell']) (by decide) (by unfold maxLen; omega) (by omega) (by simp; omega) (w.heap.size + 1) (by simp) ?_; intro gg cap' w1 hown1 hgrow hat hlt1)
    go_ret
    refine ⟨_, rfl, ?_, grown_below (Below.refl base w) hbase HO.out hgrow⟩
    rw [List.length_append, List.map_append]; exact hown1
  by_cases e10 : b = 10
  · subst e10
    have HE : Hid (escI 10 = ([92, 110] : List Int)) := by show escI _ = _; unfold escI; rfl
    rw [HE.out]
    clear HE
    go_enter Tryz.func35, Tryz.ntmps35
    go_wp2_with (at_builtin; refine wpList_append_lies _ rfl _ _ 56 rfl base 5 i0 (.int .u8 0) 1 1 Tryz.underlying56 hi0 hz0 hz1 hz2 rfl (by decide) (.slice ao vs.length cap) vs.length (vs.map (Value.int .u8)) rfl (World.ownsRow.alloc HO.out _) ⟨w.heap.size, 0, none⟩ 2 2 (([92, 110] : List Int).map (Value.int .u8)) rfl rfl (news_bytes w ([92, 110] : List Int)) (by simp [Value.oneCell']) (by decide) (by unfold maxLen; omega) (by omega) (by simp; omega) (w.heap.size + 1) (by simp) ?_; intro gg cap' w1 hown1 hgrow hat hlt1)
    go_ret
    refine ⟨_, rfl, ?_, grown_below (Below.refl base w) hbase HO.out hgrow⟩
    rw [List.length_append, List.map_append]; exact hown1
  by_cases e9 : b = 9
  · subst e9
    have HE : Hid (escI 9 = ([92, 116] : List Int)) := by show escI _ = _; unfold escI; rfl
    rw [HE.out]
    clear HE
    go_enter Tryz.func35, Tryz.ntmps35
    go_wp2_with (at_builtin; refine wpList_append_lies _ rfl _ _ 56 rfl base 5 i0 (.int .u8 0) 1 1 Tryz.underlying56 hi0 hz0 hz1 hz2 rfl (by decide) (.slice ao vs.length cap) vs.length (vs.map (Value.int .u8)) rfl (World.ownsRow.alloc HO.out _) ⟨w.heap.size, 0, none⟩ 2 2 (([92, 116] : List Int).map (Value.int .u8)) rfl rfl (news_bytes w ([92, 116] : List Int)) (by simp [Value.oneCell']) (by decide) (by unfold maxLen; omega) (by omega) (by simp; omega) (w.heap.size + 1) (by simp) ?_; intro gg cap' w1 hown1 hgrow hat hlt1)
    go_ret
    refine ⟨_, rfl, ?_, grown_below (Below.refl base w) hbase HO.out hgrow⟩
    rw [List.length_append, List.map_append]; exact hown1
  by_cases e13 : b = 13
  · subst e13
    have HE : Hid (escI 13 = ([92, 114] : List Int)) := by show escI _ = _; unfold escI; rfl
    rw [HE.out]
    clear HE
    go_enter Tryz.func35, Tryz.ntmps35
    go_wp2_with (at_builtin; refine wpList_append_lies _ rfl _ _ 56 rfl base 5 i0 (.int .u8 0) 1 1 Tryz.underlying56 hi0 hz0 hz1 hz2 rfl (by decide) (.slice ao vs.length cap) vs.length (vs.map (Value.int .u8)) rfl (World.ownsRow.alloc HO.out _) ⟨w.heap.size, 0, none⟩ 2 2 (([92, 114] : List Int).map (Value.int .u8)) rfl rfl (news_bytes w ([92, 114] : List Int)) (by simp [Value.oneCell']) (by decide) (by unfold maxLen; omega) (by omega) (by simp; omega) (w.heap.size + 1) (by simp) ?_; intro gg cap' w1 hown1 hgrow hat hlt1)
    go_ret
    refine ⟨_, rfl, ?_, grown_below (Below.refl base w) hbase HO.out hgrow⟩
    rw [List.length_append, List.map_append]; exact hown1
  have f34 : (b == 34) = false := by simpa using e34
  have f92 : (b == 92) = false := by simpa using e92
  have f10 : (b == 10) = false := by simpa using e10
  have f9 : (b == 9) = false := by simpa using e9
  have f13 : (b == 13) = false := by simpa using e13
  by_cases h32 : 32 ≤ b
  · by_cases h126 : b ≤ 126

    · have HE : Hid (escI b = [b]) := by show escI _ = _; unfold escI; rw [if_neg e34, if_neg e92, if_neg e10, if_neg e9, if_neg e13, if_pos ⟨h32, h126⟩]
      rw [HE.out]
      clear HE e34 e92 e10 e9 e13
      go_enter Tryz.func35, Tryz.ntmps35
      go_wp2_with (at_builtin; refine wpList_append_lies _ rfl _ _ 56 rfl base 5 i0 (.int .u8 0) 1 1 Tryz.underlying56 hi0 hz0 hz1 hz2 rfl (by decide) (.slice ao vs.length cap) vs.length (vs.map (Value.int .u8)) rfl (World.ownsRow.alloc HO.out _) ⟨w.heap.size, 0, none⟩ 1 1 ([b].map (Value.int .u8)) rfl rfl (news_bytes w [b]) (by simp [Value.oneCell']) (by decide) (by unfold maxLen; omega) (by omega) (by simp; omega) (w.heap.size + 1) (by simp) ?_; intro gg cap' w1 hown1 hgrow hat hlt1)
      go_ret
      refine ⟨_, rfl, ?_, grown_below (Below.refl base w) hbase HO.out hgrow⟩
      rw [List.length_append, List.map_append]; exact hown1
    · have HE : Hid (escI b = [92, 120, hexI (b / 16).toNat, hexI (b % 16).toNat]) := by show escI _ = _; unfold escI; rw [if_neg e34, if_neg e92, if_neg e10, if_neg e9, if_neg e13, if_neg (by omega)]
      rw [HE.out]
      clear HE e34 e92 e10 e9 e13
      have q1 : 0 ≤ b / 16 ∧ b / 16 < 16 := by omega
      have q2 : 0 ≤ b % 16 ∧ b % 16 < 16 := by omega
      have ha := and15 hb
      rw [hexI_at (b / 16).toNat (by show _ < 16; omega), hexI_at (b % 16).toNat (by show _ < 16; omega)]
      unfold hexS
      go_enter Tryz.func35, Tryz.ntmps35
      go_wp2
      go_region_law (refine step_append_lies _ (by rfl) _ _ _ (by rfl) base 5 i0 _ 1 1 Tryz.underlying56 hi0 hz0 hz1 hz2 rfl (by decide) (.slice ao vs.length cap) vs.length (vs.map (Value.int .u8)) (by rfl) ((World.ownsRow.drew HO.out).alloc _) ⟨w.heap.size, 0, none⟩ 4 4 (List.map (Value.int .u8) [92, 120, _, _]) (by rfl) (by rfl) (news_bytes w.drew [92, 120, _, _]) (by simp [Value.oneCell']) (by decide) (by unfold maxLen; omega) (by omega) (by simp; omega) (w.heap.size + 1) (by simp) ?_; intro gg cap' w1 hown1 hgrow hat hlt1)
      all_goals (try go_wp2)
      all_goals go_ret
      all_goals refine ⟨_, rfl, ?_, grown_below (Below.refl base w).drew hbase (World.ownsRow.drew HO.out) hgrow⟩
      all_goals (rw [List.length_append, List.map_append]; exact hown1)
  · have HE : Hid (escI b = [92, 120, hexI (b / 16).toNat, hexI (b % 16).toNat]) := by show escI _ = _; unfold escI; rw [if_neg e34, if_neg e92, if_neg e10, if_neg e9, if_neg e13, if_neg (by omega)]
    rw [HE.out]
    clear HE e34 e92 e10 e9 e13
    have q1 : 0 ≤ b / 16 ∧ b / 16 < 16 := by omega
    have q2 : 0 ≤ b % 16 ∧ b % 16 < 16 := by omega
    have ha := and15 hb
    rw [hexI_at (b / 16).toNat (by show _ < 16; omega), hexI_at (b % 16).toNat (by show _ < 16; omega)]
    unfold hexS
    go_enter Tryz.func35, Tryz.ntmps35
    go_wp2
    go_region_law (refine step_append_lies _ (by rfl) _ _ _ (by rfl) base 5 i0 _ 1 1 Tryz.underlying56 hi0 hz0 hz1 hz2 rfl (by decide) (.slice ao vs.length cap) vs.length (vs.map (Value.int .u8)) (by rfl) ((World.ownsRow.drew HO.out).alloc _) ⟨w.heap.size, 0, none⟩ 4 4 (List.map (Value.int .u8) [92, 120, _, _]) (by rfl) (by rfl) (news_bytes w.drew [92, 120, _, _]) (by simp [Value.oneCell']) (by decide) (by unfold maxLen; omega) (by omega) (by simp; omega) (w.heap.size + 1) (by simp) ?_; intro gg cap' w1 hown1 hgrow hat hlt1)
    all_goals (try go_wp2)
    all_goals go_ret
    all_goals refine ⟨_, rfl, ?_, grown_below (Below.refl base w).drew hbase (World.ownsRow.drew HO.out) hgrow⟩
    all_goals (rw [List.length_append, List.map_append]; exact hown1)
end Go.Proofs.YtoppnjpajeipdaaGreatDoor

