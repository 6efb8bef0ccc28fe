/- The document's plain: escapes undone, at every string. -/
import Derived.Test.YtleakainhpgldaaDoorProg
import Derived.Test.YtleakainhpgldaaDoorRefPlain
namespace Go.Proofs.YtleakainhpgldaaDoor
set_option linter.unusedSimpArgs false
set_option linter.unusedVariables false
open Go.RowKit

/-- A byte's spelling, digits told. -/
inductive Spx (b : Int) : List Int → Prop
  | plain (h1 : 32 ≤ b) (h2 : b ≤ 126) (h3 : b ≠ 34) (h4 : b ≠ 92) : Spx b [b]
  | two (c : Int) (h : (b = 34 ∧ c = 34) ∨ (b = 92 ∧ c = 92) ∨ (b = 10 ∧ c = 110) ∨ (b = 9 ∧ c = 116) ∨ (b = 13 ∧ c = 114)) : Spx b [92, c]
  | hex : Spx b [92, 120, hexI (b / 16).toNat, hexI (b % 16).toNat]
theorem spx_esc (b : Int) : Spx b (escI b) := by
  unfold escI
  by_cases e34 : b = 34
  · rw [if_pos e34]; exact .two _ (.inl ⟨e34, rfl⟩)
  rw [if_neg e34]
  by_cases e92 : b = 92
  · rw [if_pos e92]; exact .two _ (.inr (.inl ⟨e92, rfl⟩))
  rw [if_neg e92]
  by_cases e10 : b = 10
  · rw [if_pos e10]; exact .two _ (.inr (.inr (.inl ⟨e10, rfl⟩)))
  rw [if_neg e10]
  by_cases e9 : b = 9
  · rw [if_pos e9]; exact .two _ (.inr (.inr (.inr (.inl ⟨e9, rfl⟩))))
  rw [if_neg e9]
  by_cases e13 : b = 13
  · rw [if_pos e13]; exact .two _ (.inr (.inr (.inr (.inr ⟨e13, rfl⟩))))
  rw [if_neg e13]
  by_cases h32 : 32 ≤ b ∧ b ≤ 126
  · rw [if_pos h32]; exact .plain h32.1 h32.2 e34 e92
  · rw [if_neg h32]; exact .hex
theorem PInv.stepx {s : ByteArray} {k n : Nat} {vs us : List Int} (h : PInv s k vs) (hk : k < s.size) (hs : ∀ b m l, 0 ≤ b ∧ b ≤ 255 → Spx b m → (intsOf s).drop k = m ++ l → us = [b] ∧ m.length = n) : PInv s (k + n) (vs ++ us) := by
  intro T hT e
  obtain ⟨T2, rfl, e2⟩ := h T hT e
  cases T2 with
  | nil =>
    have := congrArg List.length e2
    rw [List.length_drop, intsOf_len] at this
    simp at this; omega
  | cons b r =>
    have hb := hT b (by simp)
    rw [List.flatMap_cons] at e2
    obtain ⟨rfl, hn⟩ := hs b _ _ hb (spx_esc b) e2
    refine ⟨r, by simp, ?_⟩
    rw [← List.drop_drop, e2, ← hn, List.drop_left']
    rfl
theorem at0 {s : ByteArray} {k : Nat} {l : List Int} {x : Int} (e : (intsOf s).drop k = x :: l) : ∃ h : k < s.size, (s[k].toNat : Int) = x := drop_at (i := 0) e rfl

/-- The steps of the loop. -/
theorem st_plain {s : ByteArray} {k : Nat} {vs : List Int} (h : PInv s k vs) (hk : k < s.size) (hx : (s[k].toNat : Int) ≠ 92) : PInv s (k + 1) (vs ++ [(s[k].toNat : Int)]) :=
  h.stepx hk (fun b m l hb hs e => by
    cases hs with
    | plain g1 g2 g3 g4 => obtain ⟨_, hy⟩ := at0 (show _ = b :: l from e); exact ⟨by rw [hy], rfl⟩
    | two c hc => obtain ⟨_, hy⟩ := at0 (show _ = 92 :: (c :: l) from e); omega
    | hex => obtain ⟨_, hy⟩ := at0 (show _ = 92 :: (120 :: hexI (b / 16).toNat :: hexI (b % 16).toNat :: l) from e); omega)
theorem st_last {s : ByteArray} {k n : Nat} {vs us : List Int} (h : PInv s k vs) (hk : k < s.size) (hx : (s[k].toNat : Int) = 92) (hl : s.size ≤ k + 1) : PInv s (k + n) (vs ++ us) :=
  h.stepx hk (fun b m l hb hs e => by
    exfalso
    cases hs with
    | plain g1 g2 g3 g4 => obtain ⟨_, hy⟩ := at0 (show _ = b :: l from e); omega
    | two c hc => obtain ⟨h1, hy⟩ := drop_at (i := 1) (x := c) e rfl; omega
    | hex => obtain ⟨h1, hy⟩ := drop_at (i := 1) (x := 120) e rfl; omega)
theorem st_two {s : ByteArray} {k : Nat} {v : Int} {vs : List Int} (h : PInv s k vs) (hk : k < s.size) (hx : (s[k].toNat : Int) = 92) (h1 : k + 1 < s.size) (hn : (s[k + 1].toNat : Int) ≠ 120)
    (hv : ∀ b, ((b = 34 ∧ (s[k + 1].toNat : Int) = 34) ∨ (b = 92 ∧ (s[k + 1].toNat : Int) = 92) ∨ (b = 10 ∧ (s[k + 1].toNat : Int) = 110) ∨ (b = 9 ∧ (s[k + 1].toNat : Int) = 116) ∨ (b = 13 ∧ (s[k + 1].toNat : Int) = 114)) → v = b) : PInv s (k + 2) (vs ++ [v]) :=
  h.stepx hk (fun b m l hb hs e => by
    cases hs with
    | plain g1 g2 g3 g4 => obtain ⟨_, hy⟩ := at0 (show _ = b :: l from e); omega
    | two c hc =>
      obtain ⟨_, hy⟩ := drop_at (i := 1) (x := c) e rfl
      rw [← hy] at hc
      exact ⟨by rw [hv b hc], rfl⟩
    | hex => obtain ⟨_, hy⟩ := drop_at (i := 1) (x := 120) e rfl; omega)
theorem st_hex {s : ByteArray} {k : Nat} {v p q : Int} {vs : List Int} (h : PInv s k vs) (hk : k < s.size) (hx : (s[k].toNat : Int) = 92) (h3 : k + 3 < s.size) (hn : (s[k + 1].toNat : Int) = 120)
    (hp : NibR (s[k + 2].toNat : Int) p) (hq : NibR (s[k + 3].toNat : Int) q) (hv : 0 ≤ p → 0 ≤ q → v = 16 * p + q) : 0 ≤ p → 0 ≤ q → PInv s (k + 4) (vs ++ [v]) := fun p0 q0 =>
  h.stepx hk (fun b m l hb hs e => by
    cases hs with
    | plain g1 g2 g3 g4 => obtain ⟨_, hy⟩ := at0 (show _ = b :: l from e); omega
    | two c hc => obtain ⟨_, hy⟩ := drop_at (i := 1) (x := c) e rfl; omega
    | hex =>
      obtain ⟨_, hy⟩ := drop_at (i := 2) (x := hexI (b / 16).toNat) e rfl
      obtain ⟨_, hz⟩ := drop_at (i := 3) (x := hexI (b % 16).toNat) e rfl
      have e1 := hp.2.2 (b / 16).toNat (by omega) hy
      have e2 := hq.2.2 (b % 16).toNat (by omega) hz
      refine ⟨?_, rfl⟩
      rw [hv p0 q0, e1, e2]
      congr 1
      omega)
theorem st_nohex {s : ByteArray} {k : Nat} {p q : Int} {vs us : List Int} (h : PInv s k vs) (hk : k < s.size) (hx : (s[k].toNat : Int) = 92) (h3 : k + 3 < s.size) (hn : (s[k + 1].toNat : Int) = 120)
    (hp : NibR (s[k + 2].toNat : Int) p) (hq : NibR (s[k + 3].toNat : Int) q) (hno : p < 0 ∨ q < 0) : PInv s (k + 4) (vs ++ us) :=
  h.stepx hk (fun b m l hb hs e => by
    exfalso
    cases hs with
    | plain g1 g2 g3 g4 => obtain ⟨_, hy⟩ := at0 (show _ = b :: l from e); omega
    | two c hc => obtain ⟨_, hy⟩ := drop_at (i := 1) (x := c) e rfl; omega
    | hex =>
      obtain ⟨_, hy⟩ := drop_at (i := 2) (x := hexI (b / 16).toNat) e rfl
      obtain ⟨_, hz⟩ := drop_at (i := 3) (x := hexI (b % 16).toNat) e rfl
      have e1 := hp.2.2 (b / 16).toNat (by omega) hy
      have e2 := hq.2.2 (b % 16).toNat (by omega) hz
      omega)
theorem st_short {s : ByteArray} {k n : Nat} {vs us : List Int} (h : PInv s k vs) (hk : k < s.size) (hx : (s[k].toNat : Int) = 92) (h1 : k + 1 < s.size) (hn : (s[k + 1].toNat : Int) = 120) (h3 : s.size ≤ k + 3) : PInv s (k + n) (vs ++ us) :=
  h.stepx hk (fun b m l hb hs e => by
    exfalso
    cases hs with
    | plain g1 g2 g3 g4 => obtain ⟨_, hy⟩ := at0 (show _ = b :: l from e); omega
    | two c hc => obtain ⟨_, hy⟩ := drop_at (i := 1) (x := c) e rfl; omega
    | hex => obtain ⟨_, hy⟩ := drop_at (i := 3) (x := hexI (b % 16).toNat) e rfl; omega)

set_option maxHeartbeats 8000000 in
set_option maxRecDepth 100000 in
theorem plain_any (s : ByteArray) (w : World) (hs : s.size ≤ 2000000) :
    Calls Tryd.prog 18 #[.string s] w fun e w' => (∃ out, e = .returned (.string out) ∧ out.size ≤ s.size + 4 ∧ ∀ T, Byt T → intsOf s = T.flatMap escI → intsOf out = T) ∧ Below w.heap.size w w' := by
  obtain ⟨i0, hi0, hz0, hy1, hy2⟩ := info_parts Tryd.infoByte
  have HN := hide (World.ownsRow_nil w w.heap.size 5 1)
  go_enter Tryd.func18, Tryd.ntmps18
  go_wp2
  go_loopw [3, 4] (fun v i wr => ∃ (k : Nat) (vs : List Int), k ≤ s.size + 4 ∧ vs.length ≤ k ∧ i = .int .i64 k ∧ Hid (PInv s k vs) ∧ Hid (wr.ownsRow w.heap.size 5 1 v vs.length (vs.map (Value.int .u8))) ∧ Hid (Below w.heap.size w wr)) (fun _ i _ => s.size - (intOf i).toNat)
  case atStart => exact ⟨0, [], Nat.zero_le _, Nat.le_refl _, rfl, PInv.start, HN.out, Below.refl _ _⟩
  case round =>
    clear HN
    obtain ⟨k, vs, hk, hvs, rfl, HI, HO, HB⟩ := hrel
    obtain ⟨ao, cap, rfl⟩ := own_shape HO.out
    by_cases hlt : k < s.size
    · have hi : (k : Int) < (s.size : Int) := by omega
      have hxl : s[k].toNat < 256 := (s[k]).toNat_lt
      by_cases c1 : (s[k].toNat : Int) = 92
      · by_cases c2 : k + 1 < s.size
        · have hi1 : (k : Int) + 1 < (s.size : Int) := by omega
          have hyl : s[k + 1].toNat < 256 := (s[k + 1]).toNat_lt
          by_cases d1 : (s[k + 1].toNat : Int) = 110
          · have HI1 := hide (st_two (v := 10) HI.out hlt c1 c2 (by omega) (by omega))
            clear HI
            have HI2 := hide (HI1.out)
            go_wp2_with (at_builtin; refine wpList_append_lies _ rfl _ _ 37 rfl w.heap.size 5 i0 (.int .u8 0) 1 1 Tryd.underlying37 hi0 hz0 hy1 hy2 rfl (by decide) (.slice ao vs.length cap) vs.length (vs.map (Value.int .u8)) rfl (World.ownsRow.alloc HO.out _) ⟨wr.heap.size, 0, none⟩ 1 1 (([10] : List Int).map (Value.int .u8)) rfl rfl (news_bytes wr [10]) (by simp [Value.oneCell']) (by decide) (by unfold maxLen; omega) (by omega) (by have := HB.out.size; simp; omega) (wr.heap.size + 1) (by simp) ?_; intro gg cap' w3 hown1 hgrow hat hlt1)
            have HB3 := hide (grown_below HB.out HB.out.size HO.out hgrow)
            have HO3 : Hid (w3.ownsRow w.heap.size 5 1 (.slice (some ⟨gg, 0, none⟩) (vs.length + 1) cap') (vs ++ [10]).length ((vs ++ [10]).map (Value.int .u8))) := by show World.ownsRow _ _ _ _ _ _ _; rw [List.length_append, List.map_append]; exact hown1
            clear hown1 hgrow hat hlt1 HO HB
            go_wp2
            go_roundw
            case rel => exact ⟨k + 2, vs ++ [10], by omega, by rw [List.length_append, List.length_singleton]; omega, by go_num, HI2.out, HO3.out, HB3.out⟩
            case measure => simp [intOf]; omega
          by_cases d2 : (s[k + 1].toNat : Int) = 116
          · clear d1
            have HI1 := hide (st_two (v := 9) HI.out hlt c1 c2 (by omega) (by omega))
            clear HI
            have HI2 := hide (HI1.out)
            go_wp2_with (at_builtin; refine wpList_append_lies _ rfl _ _ 37 rfl w.heap.size 5 i0 (.int .u8 0) 1 1 Tryd.underlying37 hi0 hz0 hy1 hy2 rfl (by decide) (.slice ao vs.length cap) vs.length (vs.map (Value.int .u8)) rfl (World.ownsRow.alloc HO.out _) ⟨wr.heap.size, 0, none⟩ 1 1 (([9] : List Int).map (Value.int .u8)) rfl rfl (news_bytes wr [9]) (by simp [Value.oneCell']) (by decide) (by unfold maxLen; omega) (by omega) (by have := HB.out.size; simp; omega) (wr.heap.size + 1) (by simp) ?_; intro gg cap' w3 hown1 hgrow hat hlt1)
            have HB3 := hide (grown_below HB.out HB.out.size HO.out hgrow)
            have HO3 : Hid (w3.ownsRow w.heap.size 5 1 (.slice (some ⟨gg, 0, none⟩) (vs.length + 1) cap') (vs ++ [9]).length ((vs ++ [9]).map (Value.int .u8))) := by show World.ownsRow _ _ _ _ _ _ _; rw [List.length_append, List.map_append]; exact hown1
            clear hown1 hgrow hat hlt1 HO HB
            go_wp2
            go_roundw
            case rel => exact ⟨k + 2, vs ++ [9], by omega, by rw [List.length_append, List.length_singleton]; omega, by go_num, HI2.out, HO3.out, HB3.out⟩
            case measure => simp [intOf]; omega
          by_cases d3 : (s[k + 1].toNat : Int) = 114
          · clear d1 d2
            have HI1 := hide (st_two (v := 13) HI.out hlt c1 c2 (by omega) (by omega))
            clear HI
            have HI2 := hide (HI1.out)
            go_wp2_with (at_builtin; refine wpList_append_lies _ rfl _ _ 37 rfl w.heap.size 5 i0 (.int .u8 0) 1 1 Tryd.underlying37 hi0 hz0 hy1 hy2 rfl (by decide) (.slice ao vs.length cap) vs.length (vs.map (Value.int .u8)) rfl (World.ownsRow.alloc HO.out _) ⟨wr.heap.size, 0, none⟩ 1 1 (([13] : List Int).map (Value.int .u8)) rfl rfl (news_bytes wr [13]) (by simp [Value.oneCell']) (by decide) (by unfold maxLen; omega) (by omega) (by have := HB.out.size; simp; omega) (wr.heap.size + 1) (by simp) ?_; intro gg cap' w3 hown1 hgrow hat hlt1)
            have HB3 := hide (grown_below HB.out HB.out.size HO.out hgrow)
            have HO3 : Hid (w3.ownsRow w.heap.size 5 1 (.slice (some ⟨gg, 0, none⟩) (vs.length + 1) cap') (vs ++ [13]).length ((vs ++ [13]).map (Value.int .u8))) := by show World.ownsRow _ _ _ _ _ _ _; rw [List.length_append, List.map_append]; exact hown1
            clear hown1 hgrow hat hlt1 HO HB
            go_wp2
            go_roundw
            case rel => exact ⟨k + 2, vs ++ [13], by omega, by rw [List.length_append, List.length_singleton]; omega, by go_num, HI2.out, HO3.out, HB3.out⟩
            case measure => simp [intOf]; omega
          by_cases d4 : (s[k + 1].toNat : Int) = 120
          · by_cases c3 : k + 3 < s.size
            · have hi3 : (k : Int) + 1 + 2 < (s.size : Int) := by omega
              obtain ⟨z1, hz1⟩ : ∃ z1 : Int, ((s[k + 1 + 1]'(by omega)).toNat : Int) = z1 := ⟨_, rfl⟩
              obtain ⟨z2, hz2⟩ : ∃ z2 : Int, ((s[k + 1 + 2]'(by omega)).toNat : Int) = z2 := ⟨_, rfl⟩
              have zb1 : 0 ≤ z1 ∧ z1 ≤ 255 := by have := (s[k + 1 + 1]'(by omega)).toNat_lt; omega
              have zb2 : 0 ≤ z2 ∧ z2 ≤ 255 := by have := (s[k + 1 + 2]'(by omega)).toNat_lt; omega
              have HN1 := hide (nibble_any z1 wr zb1)
              have HN2 := hide (nibble_any z2 wr zb2)
              have HS := hide (fun p q v (hp : NibR z1 p) (hq : NibR z2 q) (hv : 0 ≤ p → 0 ≤ q → v = 16 * p + q) => st_hex (v := v) (p := p) (q := q) HI.out hlt c1 c3 d4 (hz1 ▸ hp) (hz2 ▸ hq) hv)
              have HM := hide (fun p q (hp : NibR z1 p) (hq : NibR z2 q) (hno : p < 0 ∨ q < 0) => st_nohex (us := []) (p := p) (q := q) HI.out hlt c1 c3 d4 (hz1 ▸ hp) (hz2 ▸ hq) hno)
              clear HI d1 d2 d3 zb1 zb2
              go_wp2_with fail
              refine HN1.out.mono ?_
              rintro e w1 ⟨⟨p, rfl, hp⟩, hw1⟩
              have hw1 := hw1.symm
              subst hw1
              go_wp2_with fail
              refine HN2.out.mono ?_
              rintro e w1 ⟨⟨q, rfl, hq⟩, hw1⟩
              have hw1 := hw1.symm
              subst hw1
              have hp1 := hp.1
              have hp2 := hp.2.1
              have hq1 := hq.1
              have hq2 := hq.2.1
              by_cases p0 : 0 ≤ p
              · by_cases q0 : 0 ≤ q
                · have HI1 := hide (HS.out p q (16 * p + q) hp hq (fun _ _ => rfl) p0 q0)
                  clear HS HM HN1 HN2 hp hq
                  have HI2 := hide (HI1.out)
                  go_wp2_with (at_builtin; refine wpList_append_lies _ rfl _ _ 37 rfl w.heap.size 5 i0 (.int .u8 0) 1 1 Tryd.underlying37 hi0 hz0 hy1 hy2 rfl (by decide) (.slice ao vs.length cap) vs.length (vs.map (Value.int .u8)) rfl (World.ownsRow.alloc HO.out _) ⟨wr.heap.size, 0, none⟩ 1 1 (([(16 * p + q)] : List Int).map (Value.int .u8)) rfl rfl (news_bytes wr [(16 * p + q)]) (by simp [Value.oneCell']) (by decide) (by unfold maxLen; omega) (by omega) (by have := HB.out.size; simp; omega) (wr.heap.size + 1) (by simp) ?_; intro gg cap' w3 hown1 hgrow hat hlt1)
                  have HB3 := hide (grown_below HB.out HB.out.size HO.out hgrow)
                  have HO3 : Hid (w3.ownsRow w.heap.size 5 1 (.slice (some ⟨gg, 0, none⟩) (vs.length + 1) cap') (vs ++ [(16 * p + q)]).length ((vs ++ [(16 * p + q)]).map (Value.int .u8))) := by show World.ownsRow _ _ _ _ _ _ _; rw [List.length_append, List.map_append]; exact hown1
                  clear hown1 hgrow hat hlt1 HO HB
                  go_wp2
                  go_roundw
                  case rel => exact ⟨k + 4, vs ++ [(16 * p + q)], by omega, by rw [List.length_append, List.length_singleton]; omega, by go_num, HI2.out, HO3.out, HB3.out⟩
                  case measure => simp [intOf]; omega
                · have HI1 := hide (HM.out p q hp hq (.inr (by omega)))
                  rw [List.append_nil] at HI1
                  have q0' : q < 0 := by omega
                  clear HS HM HN1 HN2 hp hq
                  go_wp2
                  go_roundw
                  case rel => exact ⟨k + 4, vs, by omega, by omega, by go_num, HI1.out, HO.out, HB.out⟩
                  case measure => simp [intOf]; omega
              · have HI1 := hide (HM.out p q hp hq (.inl (by omega)))
                rw [List.append_nil] at HI1
                have p0' : p < 0 := by omega
                clear HS HM HN1 HN2 hp hq
                go_wp2
                go_roundw
                case rel => exact ⟨k + 4, vs, by omega, by omega, by go_num, HI1.out, HO.out, HB.out⟩
                case measure => simp [intOf]; omega
            · have hi3 : ¬ (k : Int) + 1 + 2 < (s.size : Int) := by omega
              have HI1 := hide (st_short (n := 2) (us := []) HI.out hlt c1 c2 d4 (by omega))
              rw [List.append_nil] at HI1
              clear HI d1 d2 d3
              go_wp2
              go_roundw
              case rel => exact ⟨k + 2, vs, by omega, by omega, by go_num, HI1.out, HO.out, HB.out⟩
              case measure => simp [intOf]; omega
          · obtain ⟨y, hy⟩ : ∃ y : Int, (s[k + 1].toNat : Int) = y := ⟨_, rfl⟩
            have HI1 := hide (st_two (v := y) HI.out hlt c1 c2 (by omega) (by omega))
            have y1 : (y == 110) = false := by simp; omega
            have y2 : (y == 116) = false := by simp; omega
            have y3 : (y == 114) = false := by simp; omega
            have y4 : (y == 120) = false := by simp; omega
            clear HI d1 d2 d3 d4 hyl
            have HI2 := hide (HI1.out)
            go_wp2_with (at_builtin; refine wpList_append_lies _ rfl _ _ 37 rfl w.heap.size 5 i0 (.int .u8 0) 1 1 Tryd.underlying37 hi0 hz0 hy1 hy2 rfl (by decide) (.slice ao vs.length cap) vs.length (vs.map (Value.int .u8)) rfl (World.ownsRow.alloc HO.out _) ⟨wr.heap.size, 0, none⟩ 1 1 (([y] : List Int).map (Value.int .u8)) rfl rfl (news_bytes wr [y]) (by simp [Value.oneCell']) (by decide) (by unfold maxLen; omega) (by omega) (by have := HB.out.size; simp; omega) (wr.heap.size + 1) (by simp) ?_; intro gg cap' w3 hown1 hgrow hat hlt1)
            have HB3 := hide (grown_below HB.out HB.out.size HO.out hgrow)
            have HO3 : Hid (w3.ownsRow w.heap.size 5 1 (.slice (some ⟨gg, 0, none⟩) (vs.length + 1) cap') (vs ++ [y]).length ((vs ++ [y]).map (Value.int .u8))) := by show World.ownsRow _ _ _ _ _ _ _; rw [List.length_append, List.map_append]; exact hown1
            clear hown1 hgrow hat hlt1 HO HB
            go_wp2
            go_roundw
            case rel => exact ⟨k + 2, vs ++ [y], by omega, by rw [List.length_append, List.length_singleton]; omega, by go_num, HI2.out, HO3.out, HB3.out⟩
            case measure => simp [intOf]; omega
        · have hi1 : ¬ (k : Int) + 1 < (s.size : Int) := by omega
          have hi1' : (s.size : Int) ≤ (k : Int) + 1 := by omega
          have HI2 := hide (st_last (n := 1) (us := [92]) HI.out hlt c1 (by omega))
          go_wp2_with (at_builtin; refine wpList_append_lies _ rfl _ _ 37 rfl w.heap.size 5 i0 (.int .u8 0) 1 1 Tryd.underlying37 hi0 hz0 hy1 hy2 rfl (by decide) (.slice ao vs.length cap) vs.length (vs.map (Value.int .u8)) rfl (World.ownsRow.alloc HO.out _) ⟨wr.heap.size, 0, none⟩ 1 1 (([92] : List Int).map (Value.int .u8)) rfl rfl (news_bytes wr [92]) (by simp [Value.oneCell']) (by decide) (by unfold maxLen; omega) (by omega) (by have := HB.out.size; simp; omega) (wr.heap.size + 1) (by simp) ?_; intro gg cap' w3 hown1 hgrow hat hlt1)
          have HB3 := hide (grown_below HB.out HB.out.size HO.out hgrow)
          have HO3 : Hid (w3.ownsRow w.heap.size 5 1 (.slice (some ⟨gg, 0, none⟩) (vs.length + 1) cap') (vs ++ [92]).length ((vs ++ [92]).map (Value.int .u8))) := by show World.ownsRow _ _ _ _ _ _ _; rw [List.length_append, List.map_append]; exact hown1
          clear hown1 hgrow hat hlt1 HO HB
          go_wp2
          go_roundw
          case rel => exact ⟨k + 1, vs ++ [92], by omega, by rw [List.length_append, List.length_singleton]; omega, by go_num, HI2.out, HO3.out, HB3.out⟩
          case measure => simp [intOf]; omega
      · obtain ⟨x, hx⟩ : ∃ x : Int, (s[k].toNat : Int) = x := ⟨_, rfl⟩
        have x92 : (x == 92) = false := by simp; omega
        have x92' : (x != 92) = true := by simp; omega
        have HI1 := hide (st_plain HI.out hlt c1)
        rw [hx] at HI1
        clear c1 hxl HI
        have HI2 := hide (HI1.out)
        go_wp2_with (at_builtin; refine wpList_append_lies _ rfl _ _ 37 rfl w.heap.size 5 i0 (.int .u8 0) 1 1 Tryd.underlying37 hi0 hz0 hy1 hy2 rfl (by decide) (.slice ao vs.length cap) vs.length (vs.map (Value.int .u8)) rfl (World.ownsRow.alloc HO.out _) ⟨wr.heap.size, 0, none⟩ 1 1 (([x] : List Int).map (Value.int .u8)) rfl rfl (news_bytes wr [x]) (by simp [Value.oneCell']) (by decide) (by unfold maxLen; omega) (by omega) (by have := HB.out.size; simp; omega) (wr.heap.size + 1) (by simp) ?_; intro gg cap' w3 hown1 hgrow hat hlt1)
        have HB3 := hide (grown_below HB.out HB.out.size HO.out hgrow)
        have HO3 : Hid (w3.ownsRow w.heap.size 5 1 (.slice (some ⟨gg, 0, none⟩) (vs.length + 1) cap') (vs ++ [x]).length ((vs ++ [x]).map (Value.int .u8))) := by show World.ownsRow _ _ _ _ _ _ _; rw [List.length_append, List.map_append]; exact hown1
        clear hown1 hgrow hat hlt1 HO HB
        go_wp2
        go_roundw
        case rel => exact ⟨k + 1, vs ++ [x], by omega, by rw [List.length_append, List.length_singleton]; omega, by go_num, HI2.out, HO3.out, HB3.out⟩
        case measure => simp [intOf]; omega
    · have hi : ¬ (k : Int) < (s.size : Int) := by omega
      have HQ := hide (HI.out.done (by omega))
      have hconv := text_string HO.out
      clear HI
      go_wp2
      go_ret
      exact ⟨⟨_, rfl, by rw [strOf_size]; omega, HQ.out⟩, HB.out⟩
end Go.Proofs.YtleakainhpgldaaDoor
