/- LexSpelled's own written: a text's bytes, each as it is written, between quotes. -/
import Derived.Test.YtaemcbabegjfnaaDoorProg
import Derived.Test.YtaemcbabegjfnaaDoorPartPure
import Derived.Test.YtaemcbabegjfnaaDoorLexText
import Derived.Deep.RegionLaw
import Derived.Deep.RegionHeld3
import Derived.Deep.AppendLies
import Derived.Laws.OwnMore
namespace Go.Proofs.YtaemcbabegjfnaaDoor
set_option linter.unusedSimpArgs false
set_option linter.unusedVariables false
open Go.RowKit

def toI (b : UInt8) : Int := (b.toNat : Int)
def hexSW : ByteArray := ⟨#[48, 49, 50, 51, 52, 53, 54, 55, 56, 57, 97, 98, 99, 100, 101, 102]⟩
def hexIW (k : Nat) : Int := if h : k < hexSW.size then (hexSW[k].toNat : Int) else 0
theorem hexIW_at (k : Nat) (h : k < hexSW.size) : hexIW k = (hexSW[k].toNat : Int) := by unfold hexIW; rw [dif_pos h]
theorem and15W {b : Int} (h : 0 ≤ b ∧ b ≤ 255) : bits BinOp.and IntKind.u8 b 15 = b % 16 := by
  have key : ∀ n : Fin 256, bits BinOp.and IntKind.u8 ((n.val : Nat) : Int) 15 = ((n.val : Nat) : Int) % 16 := by decide +kernel
  have := key ⟨b.toNat, by omega⟩
  rw [show ((b.toNat : Nat) : Int) = b from by omega] at this
  exact this
def letV (n : Int) : Int := if n = 34 then 34 else if n = 92 then 92 else if n = 10 then 110 else if n = 9 then 116 else if n = 13 then 114 else 0
def chunkI (st n : Int) : List Int :=
  if letV n ≠ 0 ∧ st ≠ 2 then [92, letV n] else if n < 32 ∨ st = 2 ∨ letV n ≠ 0 then [92, 120, hexIW (n / 16).toNat, hexIW (n % 16).toNat] else [n]
theorem let_all : ∀ n : Fin 256, letV (n.val : Int) = ((letterOf (UInt8.ofNat n.val)).toNat : Int) := by decide +kernel
theorem hexW_all : ∀ n : Fin 256, hexIW ((n.val : Int) / 16).toNat = ((hexL (n.val / 16)).toNat : Int) ∧ hexIW ((n.val : Int) % 16).toNat = ((hexL (n.val % 16)).toNat : Int) := by decide +kernel
theorem chunk_is (st : Int) (c : UInt8) : (chunkL st c).map toI = chunkI st (c.toNat : Int) := by
  have h1 := let_all ⟨c.toNat, c.toNat_lt⟩
  have h2 := hexW_all ⟨c.toNat, c.toNat_lt⟩
  simp only [UInt8.ofNat_toNat] at h1
  have h3 : letV (c.toNat : Int) ≠ 0 ↔ letterOf c ≠ 0 := by
    rw [h1]
    constructor
    · intro h e; rw [e] at h; exact h rfl
    · intro h e
      have : (letterOf c).toNat = 0 := by omega
      exact h (UInt8.toNat_inj.1 (by rw [this]; rfl))
  unfold chunkL chunkI
  by_cases a : letterOf c ≠ 0 ∧ st ≠ 2
  · rw [if_pos a, if_pos ⟨h3.2 a.1, a.2⟩, h1]; rfl
  · have a2 : ¬ (letV (c.toNat : Int) ≠ 0 ∧ st ≠ 2) := fun h => a ⟨h3.1 h.1, h.2⟩
    rw [if_neg a, if_neg a2]
    by_cases b : c.toNat < 32 ∨ st = 2 ∨ letterOf c ≠ 0
    · have b2 : (c.toNat : Int) < 32 ∨ st = 2 ∨ letV (c.toNat : Int) ≠ 0 := by
        rcases b with b | b | b
        · exact .inl (by omega)
        · exact .inr (.inl b)
        · exact .inr (.inr (h3.2 b))
      rw [if_pos b, if_pos b2]
      show [92, 120, _, _] = _
      rw [h2.1, h2.2]
      rfl
    · have b2 : ¬ ((c.toNat : Int) < 32 ∨ st = 2 ∨ letV (c.toNat : Int) ≠ 0) := by
        intro h
        rcases h with h | h | h
        · exact b (.inl (by omega))
        · exact b (.inr (.inl h))
        · exact b (.inr (.inr (h3.1 h)))
      rw [if_neg b, if_neg b2]
      rfl
theorem chunkI_len (st n : Int) : (chunkI st n).length ≤ 4 := by
  unfold chunkI
  repeat' split
  all_goals simp
theorem chunks_len (st : Int) (l : List UInt8) : (l.flatMap (chunkL st)).length ≤ 4 * l.length := by
  induction l with
  | nil => simp
  | cons a r ih =>
    have h : (chunkL st a).length ≤ 4 := by have := chunkI_len st (a.toNat : Int); rw [← chunk_is, List.length_map] at this; exact this
    rw [List.flatMap_cons, List.length_append, List.length_cons]; omega
theorem news_bytesW (wr : World) (us : List Int) : ∀ j u, (us.map (Value.int .u8))[j]? = some u → (wr.alloc (.cells (us.map (Value.int .u8)).toArray 5)).cell? ((⟨wr.heap.size, 0, none⟩ : Addr).add j) = some u :=
  World.news_of_block (cs := (us.map (Value.int .u8)).toArray) (t := 5) (fr := (0, 0)) (heap_alloc_new wr _)
theorem own_blockW {w : World} {base size n k : Nat} {e : TypeId} {v : Value} {xs : List Value} (h : w.ownsRow base e size v n xs) (hk : v.ownBlock = some k) : base ≤ k := by
  rcases h.2 with ⟨rfl, _⟩ | ⟨g, cap, cur, rfl, hbase, _⟩
  · cases hk
  · have : g = k := by simpa [Value.ownBlock] using hk
    omega
theorem grown_belowW {U V w1 : World} {v : Value} {e : TypeId} {B size n : Nat} {xs : List Value} {o : Obj} (hV : Below B U V) (hB : B ≤ V.heap.size) (hown : V.ownsRow B e size v n xs) (hg : (V.alloc o).grownBy w1 v.ownBlock) : Below B U w1 :=
  (hV.alloc hB o).grown hg (Nat.le_trans hB (by simp)) (fun k hk => own_blockW hown hk)

set_option maxRecDepth 100000 in
set_option maxHeartbeats 8000000 in
theorem written_any (s : ByteArray) (st : Int) (w : World) (hs : s.size ≤ 10000000) : Calls Tryd.prog 11 #[.string s, .int .i64 st] w fun e w' => e = .returned (.string ⟨(writL s.data.toList st).toArray⟩) ∧ Below w.heap.size w w' := by
  obtain ⟨i0, hi0, hz0, hz1, hz2⟩ := info_parts Tryd.infoByte
  have HRes : Hid (strOf ((writL s.data.toList st).map toI) = ⟨(writL s.data.toList st).toArray⟩) := strOf_bytesP _
  rw [← HRes.out]
  have HSz : Hid (s.data.toList.length = s.size) := rfl
  go_enter Tryd.func11, Tryd.ntmps11
  go_wp2
  have HO0 : Hid ((w.alloc (.cells #[.int .u8 34] 5)).ownsRow w.heap.size 5 1 (.slice (some ⟨w.heap.size, 0, none⟩) 1 1) ([(34 : Int)]).length (([(34 : Int)]).map (Value.int .u8))) := World.ownsRow_lit w #[.int .u8 34] 1 (Nat.le_refl _) (by decide) rfl
  go_loopw [5, 6] (fun v i wr => ∃ (k : Nat) (vs : List Int), k ≤ s.size ∧ i = .int .i64 k ∧ Hid (vs = (34 :: (s.data.toList.take k).flatMap (chunkL st)).map toI) ∧ Hid (wr.ownsRow w.heap.size 5 1 v vs.length (vs.map (Value.int .u8))) ∧ Hid (Below w.heap.size w wr)) (fun _ i _ => s.size - (intOf i).toNat)
  case atStart => exact ⟨0, [34], by omega, rfl, rfl, HO0.out, ((Below.refl w.heap.size w).alloc (Nat.le_refl _) _)⟩
  case round =>
    clear HO0
    obtain ⟨k, vs, hk, rfl, HV, HO, HB⟩ := hrel
    have hvs : vs.length ≤ 1 + 4 * k := by
      have h1 := chunks_len st (s.data.toList.take k)
      have h2 : (s.data.toList.take k).length ≤ k := by rw [List.length_take]; omega
      rw [HV.out, List.length_map, List.length_cons]; omega
    obtain ⟨ao, cap, rfl⟩ := own_shape HO.out
    by_cases hlt : k < s.size
    · have hi : (k : Int) < (s.size : Int) := by omega
      have hk0 : (0 : Int) ≤ (k : Int) := by omega
      have HV2 : Hid (vs ++ chunkI st ((s[k].toNat : Nat) : Int) = (34 :: (s.data.toList.take (k + 1)).flatMap (chunkL st)).map toI) := by
        show _ = _
        have e : s.data.toList.take (k + 1) = s.data.toList.take k ++ [s[k]] := by
          have h9 : s.data.toList[k]? = some s[k] := by rw [List.getElem?_eq_getElem hlt]; rfl
          rw [List.take_add_one, h9]; rfl
        rw [e, List.flatMap_append, HV.out, ← chunk_is]
        simp
      have hcb := s[k].toNat_lt
      obtain ⟨n, hn⟩ : ∃ n : Int, n = ((s[k].toNat : Nat) : Int) := ⟨_, rfl⟩
      have hnb : 0 ≤ n ∧ n ≤ 255 := by omega
      rw [← hn] at HV2
      have hidx : ((s[k]'hlt).toNat : Int) = n := hn.symm
      have hvs2 : vs.length + 4 ≤ 100000000 := by omega
      have hbs := HB.out.size
      clear hcb hn hvs
      by_cases e34 : n = 34
      · subst e34
        by_cases hst : st = 2
        · have est : (st != 2) = false := by simpa using hst
          have est2 : (st == 2) = true := by simpa using hst
          have HVn0 : Hid (vs ++ [92, 120, hexIW ((34 : Int) / 16).toNat, hexIW ((34 : Int) % 16).toNat] = (34 :: (s.data.toList.take (k + 1)).flatMap (chunkL st)).map toI) := by
            have h9 := HV2.out
            unfold chunkI at h9
            rw [if_neg (fun h => h.2 hst), if_pos (.inr (.inl hst))] at h9
            exact h9
          clear HV2
          have q1 : 0 ≤ (34 : Int) / 16 ∧ (34 : Int) / 16 < 16 := by omega
          have q2 : 0 ≤ (34 : Int) % 16 ∧ (34 : Int) % 16 < 16 := by omega
          have ha := and15W (b := (34 : Int)) (by omega)
          rw [hexIW_at ((34 : Int) / 16).toNat (by show _ < 16; omega), hexIW_at ((34 : Int) % 16).toNat (by show _ < 16; omega)] at HVn0
          unfold hexSW at HVn0
          clear hst q1 q2
          go_wp2
          go_region_law (refine step_append_lies _ (by rfl) _ _ _ (by rfl) w.heap.size 5 i0 _ 1 1 Tryd.underlying45 hi0 hz0 hz1 hz2 rfl (by decide) (.slice ao vs.length cap) vs.length (vs.map (Value.int .u8)) (by rfl) ((World.ownsRow.drew HO.out).alloc _) ⟨wr.heap.size, 0, none⟩ 4 4 (List.map (Value.int .u8) [92, 120, _, _]) (by rfl) (by rfl) (news_bytesW wr.drew [92, 120, _, _]) (by simp [Value.oneCell']) (by decide) (by unfold maxLen; omega) (by omega) (by simp; omega) (wr.heap.size + 1) (by simp) ?_; intro gg cap' w2 hown1 hgrow hat hlt1)
          all_goals
            have HB2 := hide (grown_belowW HB.out.drew hbs (World.ownsRow.drew HO.out) hgrow)
            have HOn := hide hown1
            clear hown1 hgrow hat hlt1 HO HB
            go_wp2
            go_roundw
            case rel => exact ⟨k + 1, _, by omega, by go_num, HVn0, (by have h9 := HOn.out; rw [List.length_append, List.map_append]; exact h9), HB2.out⟩
            case measure => simp [intOf]; omega
        · have est0 := hst
          have HVn : Hid (vs ++ [92, 34] = (34 :: (s.data.toList.take (k + 1)).flatMap (chunkL st)).map toI) := by
            have h9 := HV2.out
            unfold chunkI at h9
            rw [if_pos ⟨by decide, hst⟩] at h9
            exact h9
          have est : (st != 2) = true := by simpa using hst
          clear hst HV2
          go_wp2_with (at_builtin; refine wpList_append_lies _ rfl _ _ 45 rfl w.heap.size 5 i0 (.int .u8 0) 1 1 Tryd.underlying45 hi0 hz0 hz1 hz2 rfl (by decide) (.slice ao vs.length cap) vs.length (vs.map (Value.int .u8)) rfl (World.ownsRow.alloc HO.out _) ⟨wr.heap.size, 0, none⟩ 2 2 (([92, 34] : List Int).map (Value.int .u8)) rfl rfl (news_bytesW wr [92, 34]) (by simp [Value.oneCell']) (by decide) (by unfold maxLen; omega) (by omega) (by simp; omega) (wr.heap.size + 1) (by simp) ?_; intro gg cap' w2 hown1 hgrow hat hlt1)
          have HB2 := hide (grown_belowW HB.out hbs HO.out hgrow)
          have hown2 : w2.ownsRow w.heap.size 5 1 (.slice (some ⟨gg, 0, none⟩) (vs.length + 2) cap') (vs ++ [92, 34]).length ((vs ++ [92, 34]).map (Value.int .u8)) := by rw [List.length_append, List.map_append]; exact hown1
          have HOn := hide hown2
          clear hown1 hown2 hgrow hat hlt1 HO HB
          try go_wp2
          go_roundw
          case rel => exact ⟨k + 1, _, by omega, by go_num, HVn, HOn.out, HB2.out⟩
          case measure => simp [intOf]; omega
      by_cases e92 : n = 92
      · subst e92
        by_cases hst : st = 2
        · have est : (st != 2) = false := by simpa using hst
          have est2 : (st == 2) = true := by simpa using hst
          have HVn0 : Hid (vs ++ [92, 120, hexIW ((92 : Int) / 16).toNat, hexIW ((92 : Int) % 16).toNat] = (34 :: (s.data.toList.take (k + 1)).flatMap (chunkL st)).map toI) := by
            have h9 := HV2.out
            unfold chunkI at h9
            rw [if_neg (fun h => h.2 hst), if_pos (.inr (.inl hst))] at h9
            exact h9
          clear HV2
          have q1 : 0 ≤ (92 : Int) / 16 ∧ (92 : Int) / 16 < 16 := by omega
          have q2 : 0 ≤ (92 : Int) % 16 ∧ (92 : Int) % 16 < 16 := by omega
          have ha := and15W (b := (92 : Int)) (by omega)
          rw [hexIW_at ((92 : Int) / 16).toNat (by show _ < 16; omega), hexIW_at ((92 : Int) % 16).toNat (by show _ < 16; omega)] at HVn0
          unfold hexSW at HVn0
          clear hst q1 q2
          go_wp2
          go_region_law (refine step_append_lies _ (by rfl) _ _ _ (by rfl) w.heap.size 5 i0 _ 1 1 Tryd.underlying45 hi0 hz0 hz1 hz2 rfl (by decide) (.slice ao vs.length cap) vs.length (vs.map (Value.int .u8)) (by rfl) ((World.ownsRow.drew HO.out).alloc _) ⟨wr.heap.size, 0, none⟩ 4 4 (List.map (Value.int .u8) [92, 120, _, _]) (by rfl) (by rfl) (news_bytesW wr.drew [92, 120, _, _]) (by simp [Value.oneCell']) (by decide) (by unfold maxLen; omega) (by omega) (by simp; omega) (wr.heap.size + 1) (by simp) ?_; intro gg cap' w2 hown1 hgrow hat hlt1)
          all_goals
            have HB2 := hide (grown_belowW HB.out.drew hbs (World.ownsRow.drew HO.out) hgrow)
            have HOn := hide hown1
            clear hown1 hgrow hat hlt1 HO HB
            go_wp2
            go_roundw
            case rel => exact ⟨k + 1, _, by omega, by go_num, HVn0, (by have h9 := HOn.out; rw [List.length_append, List.map_append]; exact h9), HB2.out⟩
            case measure => simp [intOf]; omega
        · have est0 := hst
          have HVn : Hid (vs ++ [92, 92] = (34 :: (s.data.toList.take (k + 1)).flatMap (chunkL st)).map toI) := by
            have h9 := HV2.out
            unfold chunkI at h9
            rw [if_pos ⟨by decide, hst⟩] at h9
            exact h9
          have est : (st != 2) = true := by simpa using hst
          clear hst HV2
          go_wp2_with (at_builtin; refine wpList_append_lies _ rfl _ _ 45 rfl w.heap.size 5 i0 (.int .u8 0) 1 1 Tryd.underlying45 hi0 hz0 hz1 hz2 rfl (by decide) (.slice ao vs.length cap) vs.length (vs.map (Value.int .u8)) rfl (World.ownsRow.alloc HO.out _) ⟨wr.heap.size, 0, none⟩ 2 2 (([92, 92] : List Int).map (Value.int .u8)) rfl rfl (news_bytesW wr [92, 92]) (by simp [Value.oneCell']) (by decide) (by unfold maxLen; omega) (by omega) (by simp; omega) (wr.heap.size + 1) (by simp) ?_; intro gg cap' w2 hown1 hgrow hat hlt1)
          have HB2 := hide (grown_belowW HB.out hbs HO.out hgrow)
          have hown2 : w2.ownsRow w.heap.size 5 1 (.slice (some ⟨gg, 0, none⟩) (vs.length + 2) cap') (vs ++ [92, 92]).length ((vs ++ [92, 92]).map (Value.int .u8)) := by rw [List.length_append, List.map_append]; exact hown1
          have HOn := hide hown2
          clear hown1 hown2 hgrow hat hlt1 HO HB
          try go_wp2
          go_roundw
          case rel => exact ⟨k + 1, _, by omega, by go_num, HVn, HOn.out, HB2.out⟩
          case measure => simp [intOf]; omega
      by_cases e10 : n = 10
      · subst e10
        by_cases hst : st = 2
        · have est : (st != 2) = false := by simpa using hst
          have est2 : (st == 2) = true := by simpa using hst
          have HVn0 : Hid (vs ++ [92, 120, hexIW ((10 : Int) / 16).toNat, hexIW ((10 : Int) % 16).toNat] = (34 :: (s.data.toList.take (k + 1)).flatMap (chunkL st)).map toI) := by
            have h9 := HV2.out
            unfold chunkI at h9
            rw [if_neg (fun h => h.2 hst), if_pos (.inr (.inl hst))] at h9
            exact h9
          clear HV2
          have q1 : 0 ≤ (10 : Int) / 16 ∧ (10 : Int) / 16 < 16 := by omega
          have q2 : 0 ≤ (10 : Int) % 16 ∧ (10 : Int) % 16 < 16 := by omega
          have ha := and15W (b := (10 : Int)) (by omega)
          rw [hexIW_at ((10 : Int) / 16).toNat (by show _ < 16; omega), hexIW_at ((10 : Int) % 16).toNat (by show _ < 16; omega)] at HVn0
          unfold hexSW at HVn0
          clear hst q1 q2
          go_wp2
          go_region_law (refine step_append_lies _ (by rfl) _ _ _ (by rfl) w.heap.size 5 i0 _ 1 1 Tryd.underlying45 hi0 hz0 hz1 hz2 rfl (by decide) (.slice ao vs.length cap) vs.length (vs.map (Value.int .u8)) (by rfl) ((World.ownsRow.drew HO.out).alloc _) ⟨wr.heap.size, 0, none⟩ 4 4 (List.map (Value.int .u8) [92, 120, _, _]) (by rfl) (by rfl) (news_bytesW wr.drew [92, 120, _, _]) (by simp [Value.oneCell']) (by decide) (by unfold maxLen; omega) (by omega) (by simp; omega) (wr.heap.size + 1) (by simp) ?_; intro gg cap' w2 hown1 hgrow hat hlt1)
          all_goals
            have HB2 := hide (grown_belowW HB.out.drew hbs (World.ownsRow.drew HO.out) hgrow)
            have HOn := hide hown1
            clear hown1 hgrow hat hlt1 HO HB
            go_wp2
            go_roundw
            case rel => exact ⟨k + 1, _, by omega, by go_num, HVn0, (by have h9 := HOn.out; rw [List.length_append, List.map_append]; exact h9), HB2.out⟩
            case measure => simp [intOf]; omega
        · have est0 := hst
          have HVn : Hid (vs ++ [92, 110] = (34 :: (s.data.toList.take (k + 1)).flatMap (chunkL st)).map toI) := by
            have h9 := HV2.out
            unfold chunkI at h9
            rw [if_pos ⟨by decide, hst⟩] at h9
            exact h9
          have est : (st != 2) = true := by simpa using hst
          clear hst HV2
          go_wp2_with (at_builtin; refine wpList_append_lies _ rfl _ _ 45 rfl w.heap.size 5 i0 (.int .u8 0) 1 1 Tryd.underlying45 hi0 hz0 hz1 hz2 rfl (by decide) (.slice ao vs.length cap) vs.length (vs.map (Value.int .u8)) rfl (World.ownsRow.alloc HO.out _) ⟨wr.heap.size, 0, none⟩ 2 2 (([92, 110] : List Int).map (Value.int .u8)) rfl rfl (news_bytesW wr [92, 110]) (by simp [Value.oneCell']) (by decide) (by unfold maxLen; omega) (by omega) (by simp; omega) (wr.heap.size + 1) (by simp) ?_; intro gg cap' w2 hown1 hgrow hat hlt1)
          have HB2 := hide (grown_belowW HB.out hbs HO.out hgrow)
          have hown2 : w2.ownsRow w.heap.size 5 1 (.slice (some ⟨gg, 0, none⟩) (vs.length + 2) cap') (vs ++ [92, 110]).length ((vs ++ [92, 110]).map (Value.int .u8)) := by rw [List.length_append, List.map_append]; exact hown1
          have HOn := hide hown2
          clear hown1 hown2 hgrow hat hlt1 HO HB
          try go_wp2
          go_roundw
          case rel => exact ⟨k + 1, _, by omega, by go_num, HVn, HOn.out, HB2.out⟩
          case measure => simp [intOf]; omega
      by_cases e9 : n = 9
      · subst e9
        by_cases hst : st = 2
        · have est : (st != 2) = false := by simpa using hst
          have est2 : (st == 2) = true := by simpa using hst
          have HVn0 : Hid (vs ++ [92, 120, hexIW ((9 : Int) / 16).toNat, hexIW ((9 : Int) % 16).toNat] = (34 :: (s.data.toList.take (k + 1)).flatMap (chunkL st)).map toI) := by
            have h9 := HV2.out
            unfold chunkI at h9
            rw [if_neg (fun h => h.2 hst), if_pos (.inr (.inl hst))] at h9
            exact h9
          clear HV2
          have q1 : 0 ≤ (9 : Int) / 16 ∧ (9 : Int) / 16 < 16 := by omega
          have q2 : 0 ≤ (9 : Int) % 16 ∧ (9 : Int) % 16 < 16 := by omega
          have ha := and15W (b := (9 : Int)) (by omega)
          rw [hexIW_at ((9 : Int) / 16).toNat (by show _ < 16; omega), hexIW_at ((9 : Int) % 16).toNat (by show _ < 16; omega)] at HVn0
          unfold hexSW at HVn0
          clear hst q1 q2
          go_wp2
          go_region_law (refine step_append_lies _ (by rfl) _ _ _ (by rfl) w.heap.size 5 i0 _ 1 1 Tryd.underlying45 hi0 hz0 hz1 hz2 rfl (by decide) (.slice ao vs.length cap) vs.length (vs.map (Value.int .u8)) (by rfl) ((World.ownsRow.drew HO.out).alloc _) ⟨wr.heap.size, 0, none⟩ 4 4 (List.map (Value.int .u8) [92, 120, _, _]) (by rfl) (by rfl) (news_bytesW wr.drew [92, 120, _, _]) (by simp [Value.oneCell']) (by decide) (by unfold maxLen; omega) (by omega) (by simp; omega) (wr.heap.size + 1) (by simp) ?_; intro gg cap' w2 hown1 hgrow hat hlt1)
          all_goals
            have HB2 := hide (grown_belowW HB.out.drew hbs (World.ownsRow.drew HO.out) hgrow)
            have HOn := hide hown1
            clear hown1 hgrow hat hlt1 HO HB
            go_wp2
            go_roundw
            case rel => exact ⟨k + 1, _, by omega, by go_num, HVn0, (by have h9 := HOn.out; rw [List.length_append, List.map_append]; exact h9), HB2.out⟩
            case measure => simp [intOf]; omega
        · have est0 := hst
          have HVn : Hid (vs ++ [92, 116] = (34 :: (s.data.toList.take (k + 1)).flatMap (chunkL st)).map toI) := by
            have h9 := HV2.out
            unfold chunkI at h9
            rw [if_pos ⟨by decide, hst⟩] at h9
            exact h9
          have est : (st != 2) = true := by simpa using hst
          clear hst HV2
          go_wp2_with (at_builtin; refine wpList_append_lies _ rfl _ _ 45 rfl w.heap.size 5 i0 (.int .u8 0) 1 1 Tryd.underlying45 hi0 hz0 hz1 hz2 rfl (by decide) (.slice ao vs.length cap) vs.length (vs.map (Value.int .u8)) rfl (World.ownsRow.alloc HO.out _) ⟨wr.heap.size, 0, none⟩ 2 2 (([92, 116] : List Int).map (Value.int .u8)) rfl rfl (news_bytesW wr [92, 116]) (by simp [Value.oneCell']) (by decide) (by unfold maxLen; omega) (by omega) (by simp; omega) (wr.heap.size + 1) (by simp) ?_; intro gg cap' w2 hown1 hgrow hat hlt1)
          have HB2 := hide (grown_belowW HB.out hbs HO.out hgrow)
          have hown2 : w2.ownsRow w.heap.size 5 1 (.slice (some ⟨gg, 0, none⟩) (vs.length + 2) cap') (vs ++ [92, 116]).length ((vs ++ [92, 116]).map (Value.int .u8)) := by rw [List.length_append, List.map_append]; exact hown1
          have HOn := hide hown2
          clear hown1 hown2 hgrow hat hlt1 HO HB
          try go_wp2
          go_roundw
          case rel => exact ⟨k + 1, _, by omega, by go_num, HVn, HOn.out, HB2.out⟩
          case measure => simp [intOf]; omega
      by_cases e13 : n = 13
      · subst e13
        by_cases hst : st = 2
        · have est : (st != 2) = false := by simpa using hst
          have est2 : (st == 2) = true := by simpa using hst
          have HVn0 : Hid (vs ++ [92, 120, hexIW ((13 : Int) / 16).toNat, hexIW ((13 : Int) % 16).toNat] = (34 :: (s.data.toList.take (k + 1)).flatMap (chunkL st)).map toI) := by
            have h9 := HV2.out
            unfold chunkI at h9
            rw [if_neg (fun h => h.2 hst), if_pos (.inr (.inl hst))] at h9
            exact h9
          clear HV2
          have q1 : 0 ≤ (13 : Int) / 16 ∧ (13 : Int) / 16 < 16 := by omega
          have q2 : 0 ≤ (13 : Int) % 16 ∧ (13 : Int) % 16 < 16 := by omega
          have ha := and15W (b := (13 : Int)) (by omega)
          rw [hexIW_at ((13 : Int) / 16).toNat (by show _ < 16; omega), hexIW_at ((13 : Int) % 16).toNat (by show _ < 16; omega)] at HVn0
          unfold hexSW at HVn0
          clear hst q1 q2
          go_wp2
          go_region_law (refine step_append_lies _ (by rfl) _ _ _ (by rfl) w.heap.size 5 i0 _ 1 1 Tryd.underlying45 hi0 hz0 hz1 hz2 rfl (by decide) (.slice ao vs.length cap) vs.length (vs.map (Value.int .u8)) (by rfl) ((World.ownsRow.drew HO.out).alloc _) ⟨wr.heap.size, 0, none⟩ 4 4 (List.map (Value.int .u8) [92, 120, _, _]) (by rfl) (by rfl) (news_bytesW wr.drew [92, 120, _, _]) (by simp [Value.oneCell']) (by decide) (by unfold maxLen; omega) (by omega) (by simp; omega) (wr.heap.size + 1) (by simp) ?_; intro gg cap' w2 hown1 hgrow hat hlt1)
          all_goals
            have HB2 := hide (grown_belowW HB.out.drew hbs (World.ownsRow.drew HO.out) hgrow)
            have HOn := hide hown1
            clear hown1 hgrow hat hlt1 HO HB
            go_wp2
            go_roundw
            case rel => exact ⟨k + 1, _, by omega, by go_num, HVn0, (by have h9 := HOn.out; rw [List.length_append, List.map_append]; exact h9), HB2.out⟩
            case measure => simp [intOf]; omega
        · have est0 := hst
          have HVn : Hid (vs ++ [92, 114] = (34 :: (s.data.toList.take (k + 1)).flatMap (chunkL st)).map toI) := by
            have h9 := HV2.out
            unfold chunkI at h9
            rw [if_pos ⟨by decide, hst⟩] at h9
            exact h9
          have est : (st != 2) = true := by simpa using hst
          clear hst HV2
          go_wp2_with (at_builtin; refine wpList_append_lies _ rfl _ _ 45 rfl w.heap.size 5 i0 (.int .u8 0) 1 1 Tryd.underlying45 hi0 hz0 hz1 hz2 rfl (by decide) (.slice ao vs.length cap) vs.length (vs.map (Value.int .u8)) rfl (World.ownsRow.alloc HO.out _) ⟨wr.heap.size, 0, none⟩ 2 2 (([92, 114] : List Int).map (Value.int .u8)) rfl rfl (news_bytesW wr [92, 114]) (by simp [Value.oneCell']) (by decide) (by unfold maxLen; omega) (by omega) (by simp; omega) (wr.heap.size + 1) (by simp) ?_; intro gg cap' w2 hown1 hgrow hat hlt1)
          have HB2 := hide (grown_belowW HB.out hbs HO.out hgrow)
          have hown2 : w2.ownsRow w.heap.size 5 1 (.slice (some ⟨gg, 0, none⟩) (vs.length + 2) cap') (vs ++ [92, 114]).length ((vs ++ [92, 114]).map (Value.int .u8)) := by rw [List.length_append, List.map_append]; exact hown1
          have HOn := hide hown2
          clear hown1 hown2 hgrow hat hlt1 HO HB
          try go_wp2
          go_roundw
          case rel => exact ⟨k + 1, _, by omega, by go_num, HVn, HOn.out, HB2.out⟩
          case measure => simp [intOf]; omega
      have f34 : (n == 34) = false := by simpa using e34
      have f92 : (n == 92) = false := by simpa using e92
      have f10 : (n == 10) = false := by simpa using e10
      have f9 : (n == 9) = false := by simpa using e9
      have f13 : (n == 13) = false := by simpa using e13
      have hl0 : letV n = 0 := by unfold letV; rw [if_neg e34, if_neg e92, if_neg e10, if_neg e9, if_neg e13]
      clear e34 e92 e10 e9 e13
      by_cases h32 : n < 32
      · have HL0 := hide hl0
        clear hl0
        have HVn0 : Hid (vs ++ [92, 120, hexIW (n / 16).toNat, hexIW (n % 16).toNat] = (34 :: (s.data.toList.take (k + 1)).flatMap (chunkL st)).map toI) := by
          have h9 := HV2.out
          unfold chunkI at h9
          rw [if_neg (fun h => h.1 HL0.out), if_pos (.inl h32)] at h9
          exact h9
        clear HV2
        have q1 : 0 ≤ n / 16 ∧ n / 16 < 16 := by omega
        have q2 : 0 ≤ n % 16 ∧ n % 16 < 16 := by omega
        have ha := and15W (b := n) (by omega)
        rw [hexIW_at (n / 16).toNat (by show _ < 16; omega), hexIW_at (n % 16).toNat (by show _ < 16; omega)] at HVn0
        unfold hexSW at HVn0
        go_wp2
        go_region_law (refine step_append_lies _ (by rfl) _ _ _ (by rfl) w.heap.size 5 i0 _ 1 1 Tryd.underlying45 hi0 hz0 hz1 hz2 rfl (by decide) (.slice ao vs.length cap) vs.length (vs.map (Value.int .u8)) (by rfl) ((World.ownsRow.drew HO.out).alloc _) ⟨wr.heap.size, 0, none⟩ 4 4 (List.map (Value.int .u8) [92, 120, _, _]) (by rfl) (by rfl) (news_bytesW wr.drew [92, 120, _, _]) (by simp [Value.oneCell']) (by decide) (by unfold maxLen; omega) (by omega) (by simp; omega) (wr.heap.size + 1) (by simp) ?_; intro gg cap' w2 hown1 hgrow hat hlt1)
        all_goals
          have HB2 := hide (grown_belowW HB.out.drew hbs (World.ownsRow.drew HO.out) hgrow)
          have HOn := hide hown1
          clear hown1 hgrow hat hlt1 HO HB
          go_wp2
          go_roundw
          case rel => exact ⟨k + 1, _, by omega, by go_num, HVn0, (by have h9 := HOn.out; rw [List.length_append, List.map_append]; exact h9), HB2.out⟩
          case measure => simp [intOf]; omega
      by_cases hst : st = 2
      · have est2 : (st == 2) = true := by simpa using hst
        have HL0 := hide hl0
        clear hl0
        have HVn0 : Hid (vs ++ [92, 120, hexIW (n / 16).toNat, hexIW (n % 16).toNat] = (34 :: (s.data.toList.take (k + 1)).flatMap (chunkL st)).map toI) := by
          have h9 := HV2.out
          unfold chunkI at h9
          rw [if_neg (fun h => h.1 HL0.out), if_pos (.inr (.inl hst))] at h9
          exact h9
        clear HV2
        have q1 : 0 ≤ n / 16 ∧ n / 16 < 16 := by omega
        have q2 : 0 ≤ n % 16 ∧ n % 16 < 16 := by omega
        have ha := and15W (b := n) (by omega)
        rw [hexIW_at (n / 16).toNat (by show _ < 16; omega), hexIW_at (n % 16).toNat (by show _ < 16; omega)] at HVn0
        unfold hexSW at HVn0
        clear hst
        go_wp2
        go_region_law (refine step_append_lies _ (by rfl) _ _ _ (by rfl) w.heap.size 5 i0 _ 1 1 Tryd.underlying45 hi0 hz0 hz1 hz2 rfl (by decide) (.slice ao vs.length cap) vs.length (vs.map (Value.int .u8)) (by rfl) ((World.ownsRow.drew HO.out).alloc _) ⟨wr.heap.size, 0, none⟩ 4 4 (List.map (Value.int .u8) [92, 120, _, _]) (by rfl) (by rfl) (news_bytesW wr.drew [92, 120, _, _]) (by simp [Value.oneCell']) (by decide) (by unfold maxLen; omega) (by omega) (by simp; omega) (wr.heap.size + 1) (by simp) ?_; intro gg cap' w2 hown1 hgrow hat hlt1)
        all_goals
          have HB2 := hide (grown_belowW HB.out.drew hbs (World.ownsRow.drew HO.out) hgrow)
          have HOn := hide hown1
          clear hown1 hgrow hat hlt1 HO HB
          go_wp2
          go_roundw
          case rel => exact ⟨k + 1, _, by omega, by go_num, HVn0, (by have h9 := HOn.out; rw [List.length_append, List.map_append]; exact h9), HB2.out⟩
          case measure => simp [intOf]; omega
      have est2 : (st == 2) = false := by simpa using hst
      have HVn : Hid (vs ++ [n] = (34 :: (s.data.toList.take (k + 1)).flatMap (chunkL st)).map toI) := by
        have h9 := HV2.out
        unfold chunkI at h9
        rw [if_neg (fun h => h.1 hl0), if_neg (fun h => by rcases h with h | h | h; exact h32 h; exact hst h; exact h hl0)] at h9
        exact h9
      clear hst HV2 hl0
      go_wp2_with (at_builtin; refine wpList_append_lies _ rfl _ _ 45 rfl w.heap.size 5 i0 (.int .u8 0) 1 1 Tryd.underlying45 hi0 hz0 hz1 hz2 rfl (by decide) (.slice ao vs.length cap) vs.length (vs.map (Value.int .u8)) rfl (World.ownsRow.alloc HO.out _) ⟨wr.heap.size, 0, none⟩ 1 1 (([n] : List Int).map (Value.int .u8)) rfl rfl (news_bytesW wr [n]) (by simp [Value.oneCell']) (by decide) (by unfold maxLen; omega) (by omega) (by simp; omega) (wr.heap.size + 1) (by simp) ?_; intro gg cap' w2 hown1 hgrow hat hlt1)
      have HB2 := hide (grown_belowW HB.out hbs HO.out hgrow)
      have hown2 : w2.ownsRow w.heap.size 5 1 (.slice (some ⟨gg, 0, none⟩) (vs.length + 1) cap') (vs ++ [n]).length ((vs ++ [n]).map (Value.int .u8)) := by rw [List.length_append, List.map_append]; exact hown1
      have HOn := hide hown2
      clear hown1 hown2 hgrow hat hlt1 HO HB
      try go_wp2
      go_roundw
      case rel => exact ⟨k + 1, _, by omega, by go_num, HVn, HOn.out, HB2.out⟩
      case measure => simp [intOf]; omega
    · have hi : ¬ (k : Int) < (s.size : Int) := by omega
      have HQ : Hid (vs ++ [34] = (writL s.data.toList st).map toI) := by
        show _ = _
        unfold writL
        rw [HV.out, List.take_of_length_le (by rw [HSz.out]; omega)]
        simp [toI]
      have hbs := HB.out.size
      have hvs2 : vs.length + 4 ≤ 100000000 := by omega
      go_wp2_with (at_builtin; refine wpList_append_lies _ rfl _ _ 45 rfl w.heap.size 5 i0 (.int .u8 0) 1 1 Tryd.underlying45 hi0 hz0 hz1 hz2 rfl (by decide) (.slice ao vs.length cap) vs.length (vs.map (Value.int .u8)) rfl (World.ownsRow.alloc HO.out _) ⟨wr.heap.size, 0, none⟩ 1 1 (([34] : List Int).map (Value.int .u8)) rfl rfl (news_bytesW wr [34]) (by simp [Value.oneCell']) (by decide) (by unfold maxLen; omega) (by omega) (by simp; omega) (wr.heap.size + 1) (by simp) ?_; intro gg cap' w2 hown1 hgrow hat hlt1)
      have HB2 := hide (grown_belowW HB.out HB.out.size HO.out hgrow)
      have hown2 : w2.ownsRow w.heap.size 5 1 (.slice (some ⟨gg, 0, none⟩) (vs.length + 1) cap') (vs ++ [34]).length ((vs ++ [34]).map (Value.int .u8)) := by rw [List.length_append, List.map_append]; exact hown1
      have hconv := text_string hown2
      rw [HQ.out] at hconv
      clear hown1 hown2 hgrow hat hlt1 HO HB
      go_wp2
      rw [hconv]
      go_wp2
      go_ret
      exact ⟨rfl, HB2.out⟩
end Go.Proofs.YtaemcbabegjfnaaDoor
