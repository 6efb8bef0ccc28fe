/- edictlaw05.StoreOnce returns true at all arities and batches of rows that are of bulk at most 1048576. -/
import Derived.Test.YtbmefnpilgdejaaStoreLaw8
namespace Go.Proofs.Ytbmefnpilgdejaa
set_option linter.unusedSimpArgs false
set_option linter.unusedVariables false
open Go.RowKit Go.Maps

theorem sum_take_le (l : List Nat) (k : Nat) : (l.take k).sum ≤ l.sum := by
  induction l generalizing k with
  | nil => simp
  | cons a r ih =>
    cases k with
    | zero => simp
    | succ k => rw [List.take_succ_cons, List.sum_cons, List.sum_cons]; have := ih k; omega

theorem sum_take_succ (B : List (List Rw)) (k : Nat) {R : List Rw} (h : B[k]? = some R) : ((B.map List.length).take (k + 1)).sum = ((B.map List.length).take k).sum + R.length := by
  rw [List.take_add_one, List.getElem?_map, h]
  simp

/-- What is kept from batch to batch: the store, the list of rows that were wanted so far, the batches. -/
def OnceAt (wl : World) (p base : Nat) (ar : List Int) (ba : Option Addr) (bl : Nat) (B : List (List Rw)) (S : Nat) (a : Option Addr) (n : Nat) : Prop :=
  ∃ own W M, FreeRows wl own a n W ∧ Keeps wl p own (ar ++ [0]) W M ∧ TagsFrom own base ∧ IsBats wl own ba bl B ∧ M ≤ 8 + 8 * S ∧ n ≤ 1 + S

set_option maxRecDepth 100000 in
set_option maxHeartbeats 4000000 in
theorem storeOnce_walk (aa : Option Addr) (al ac : Nat) (ar : List Int) (ba : Option Addr) (bl bc : Nat) (B : List (List Rw)) (w : World) (ha : IsInts w aa al ar) (hb : IsBats w (fun _ => none) ba bl B) (hB : (B.map List.length).sum ≤ 1048576) :
    Calls Try.prog 3 #[.slice aa al ac, .slice ba bl bc] w fun e w' => e = .returned (.bool true) ∧ Below w.heap.size w w' := by
  have HA := hide ha
  have HBt := hide hb
  have HS := hide hB
  have HFt := hide (fits_any (cap := ac) ha)
  have hbl := hb.2.1
  have hl := ha.1
  clear ha hb hB
  cases hf : fitsP ar with
  | false =>
    rw [hf] at HFt
    go_enter Try.func3, Try.ntmps3
    go_wp2_with (go_at_call 7; refine HFt.out.mono ?_; rintro e w1 ⟨rfl, h1⟩; have HB1 := hide h1; clear h1)
    go_ret
    exact ⟨rfl, HB1.out⟩
  | true =>
    rw [hf] at HFt
    have HF := hide hf
    have h128 := (fits_bounds hf).1
    clear hf
    go_enter Try.func3, Try.ntmps3
    go_upto_region 2 with (go_at_call 7; refine HFt.out.mono ?_; rintro e w1 ⟨rfl, h1⟩; have HB1 := hide h1; clear h1)
    refine (made_any (HA.out.kept HB1.out) HF.out).mono ?_
    rintro e w2 ⟨p, own, rfl, s2, t2, b2⟩
    have hK2 : Keeps w2 p own (ar ++ [0]) [lastR ar] 8 := ⟨s2, mayR_iff.2 (by simp only [List.mem_singleton]; rintro r rfl; exact mayLast)⟩
    have hBt1 : IsBats w1 own ba bl B := (HBt.out.turn (A := fun _ => False) (own' := fun _ => none) (Turn.below HB1.out)).retag (fun k hk => by
      cases ho : own k with
      | none => rfl
      | some t => exact absurd (t2 k (by rw [ho]; simp)) (by omega))
    have hBt2 : IsBats w2 own ba bl B := hBt1.turn (A := fun _ => False) (Turn.below b2)
    have hBa : Below w2.heap.size w2 (w2.alloc (.cells #[.int .i64 (al : Int), .slice none 0 0] 28)) := (Below.refl _ _).alloc (Nat.le_refl _) _
    have hW2 := free_one w2 s2.lim (q := (al : Int)) ⟨by omega, by omega⟩ (l := []) (a := none) (c := 0) ⟨⟨rfl, by decide, by simp, fun h => absurd h (by decide)⟩, fun h => absurd h (by decide)⟩
    have HW := hide hW2
    have HK := hide (hK2.below hBa)
    have HT := hide (show TagsFrom own w1.heap.size from t2)
    have HBt2 := hide (hBt2.turn (A := fun _ => False) (Turn.below hBa))
    have HB2 : Hid (Below w1.heap.size w1 (w2.alloc (.cells #[.int .i64 (al : Int), .slice none 0 0] 28))) := b2.trans (hBa.mono b2.size)
    have hlast : lastR ar = ((al : Int), []) := by unfold lastR; rw [hl]
    rw [hlast] at HK
    clear s2 t2 b2 hK2 hBt1 hBt2 hBa hW2 hlast HBt HFt
    have HO : Hid (OnceAt (w2.alloc (.cells #[.int .i64 (al : Int), .slice none 0 0] 28)) p w1.heap.size ar ba bl B 0 (some ⟨w2.heap.size, 0, none⟩) 1) := ⟨own, _, 8, HW.out, HK.out, HT.out, HBt2.out, by omega, by omega⟩
    clear HW HK HT HBt2
    go_wp2
    generalize w2.alloc (.cells #[.int .i64 (al : Int), .slice none 0 0] 28) = w3 at *
    go_loopw [6, 7, 8, 9, 10, 11] (fun wt i _ _ _ _ wl => ∃ (k : Nat) (a : Option Addr) (n c : Nat), k ≤ bl ∧ i = .int .i64 k ∧ wt = .slice a n c ∧ Hid (OnceAt wl p w1.heap.size ar ba bl B ((B.map List.length).take k).sum a n) ∧ Hid (Below w1.heap.size w1 wl)) (fun _ i _ _ _ _ _ => bl - (intOf i).toNat)
    case atStart => exact ⟨0, _, 1, 1, by omega, rfl, rfl, HO.out, HB2.out⟩
    case round =>
      obtain ⟨k, a, n, c, hk, rfl, rfl, HOn, HBl⟩ := hrel
      have HBw := hide (HB1.out.trans (HBl.out.mono HB1.out.size))
      obtain ⟨own2, W, M, f1, f2, f3, f4, f5, f6⟩ := HOn.out
      have hSk : ((B.map List.length).take k).sum ≤ 1048576 := Nat.le_trans (sum_take_le _ _) HS.out
      have hb1s := HBl.out.size
      by_cases hlt : k < bl
      · have hi : (k : Int) < (bl : Int) := by omega
        have hi0 : (0 : Int) ≤ (k : Int) := by omega
        obtain ⟨b1, o1, rfl, -, hr1⟩ := f4.2.2 (by omega)
        obtain ⟨R, hR⟩ : ∃ R, B[k]? = some R := ⟨_, List.getElem?_eq_getElem (by rw [f4.1]; omega)⟩
        obtain ⟨ra, rc, x0, hfr⟩ := hr1 k R hR
        have hSk1 : ((B.map List.length).take (k + 1)).sum ≤ 1048576 := Nat.le_trans (sum_take_le _ _) HS.out
        have HSum := hide (sum_take_succ B k hR)
        rw [HSum.out] at hSk1
        have HSh := hide (shaped_any (ac := ac) (cap := rc) (HA.out.kept HBw.out) HF.out hfr f2.1.lim)
        have HF1 := hide f1
        have HF2 := hide f2
        have HF3 := hide f3
        have HF4 := hide f4
        have hTl : (shapeP ar R).length = R.length := by unfold shapeP; rw [List.length_map]
        have HMay := hide (shape_may HF.out R)
        have hWn := f1.1
        clear hr1 hR hfr f1 f2 f3 f4 HOn
        obtain ⟨T, hT⟩ : ∃ T, shapeP ar R = T := ⟨_, rfl⟩
        rw [hT] at HSh hTl HMay
        have hTle : T.length ≤ R.length := by omega
        clear hT hTl
        go_upto_region 11 with (go_at_call 9; refine HSh.out.mono ?_; rintro e w4 ⟨v4, rfl, m4, h4⟩; obtain ⟨ta, tc, rfl, -⟩ := m4.shape; have HM4 := hide m4; have HB4 := hide h4; clear m4 h4)
        go_wp2_with fail
        refine (joined_any (own := own2) (HF1.out.below HB4.out) (HM4.out.free (by omega)) (fun kk hkk => Nat.lt_of_lt_of_le (HF2.out.1.lim kk hkk) HB4.out.size) (by omega)).mono ?_
        rintro e w5 ⟨v5, rfl, m5, h5⟩
        obtain ⟨ja, jc, rfl, -⟩ := m5.shape
        have hB5 : Below wr.heap.size wr w5 := HB4.out.trans (h5.mono HB4.out.size)
        obtain ⟨hjoin, hjm⟩ := add_join (ar ++ [0]) W T HF2.out.2 HMay.out
        have hjl := joinP_len W T
        have HAd := hide (add_ok (cap := tc) (HF2.out.1.below hB5) ((HM4.out.below h5).free (by omega)) HMay.out (by omega))
        rw [hjoin, List.length_map, List.length_map] at HAd
        obtain ⟨N, hN⟩ : ∃ N, (joinP W T).length = N := ⟨_, rfl⟩
        have HN := hide hN
        rw [hN, hWn] at HAd hjl
        rw [hN] at m5 ⊢
        have hle : n ≤ N := hjl.1
        have hcmp : (((N - n : Nat) : Int) != (N : Int) - (n : Int)) = false := by simp; omega
        have HM5 := hide m5
        have HB5 := hide hB5
        have HJm := hide hjm
        have HJl := hide hjl
        clear m5 h5 hB5 hjoin hjm hjl hN
        go_wp2_with fail
        refine HAd.out.mono ?_
        rintro e w6 ⟨rfl, own6, s6, t6⟩
        have hT6 : Turn (fun _ => True) own2 own6 wr w6 := (Turn.below HB5.out).trans t6
        obtain ⟨g1, g2⟩ := hT6.from HF3.out hb1s
        have HO6 : Hid (OnceAt w6 p w1.heap.size ar (some ⟨b1, o1, none⟩) bl B ((B.map List.length).take (k + 1)).sum ja N) := by
          refine ⟨own6, joinP W T, _, ((HM5.out.turn t6).free (by rw [HN.out]; have := HJl.out; omega)), ⟨s6, HJm.out⟩, g1, HF4.out.turn hT6, ?_, ?_⟩
          · rw [HSum.out]; omega
          · rw [HSum.out]; have := HJl.out; omega
        have HB6 : Hid (Below w1.heap.size w1 w6) := HBl.out.trans g2
        clear s6 t6 hT6 g1 g2 HAd HM5 HM4 HSh
        have hle2 := HJl.out.2
        go_wp2
        go_roundw
        case rel => exact ⟨k + 1, _, N, jc, by omega, by go_num, rfl, HO6.out, HB6.out⟩
        case measure => simp [intOf]; omega
      · obtain rfl : k = bl := by omega
        have hi : ¬ (k : Int) < (k : Int) := by omega
        have hWn := f1.1
        have hself := join_self W W (fun r hr => hr)
        obtain ⟨hjoin, hjm⟩ := add_join (ar ++ [0]) W W f2.2 f2.2
        rw [hself] at hjoin
        have HAd := hide (add_ok (cap := c) f2.1 f1 f2.2 (by omega))
        rw [hjoin] at HAd
        simp only [Nat.sub_self] at HAd
        have HF1 := hide f1
        have HF2 := hide f2
        have HF3 := hide f3
        clear f1 f2 f3 f4 hself hjoin hjm HOn
        go_wp2_with fail
        refine HAd.out.mono ?_
        rintro e w6 ⟨rfl, own6, s6, t6⟩
        obtain ⟨g1, g2⟩ := t6.from HF3.out hb1s
        have HHo := hide (holds_st (wc := c) (pr := al + 1) ⟨s6, HF2.out.2⟩ (by omega) (HF1.out.turn t6) (by omega))
        have HB6 : Hid (Below w1.heap.size w1 w6) := HBl.out.trans g2
        clear s6 t6 g1 g2 HAd
        rw [show ((al + 1 : Nat) : Int) = (al : Int) + 1 from by omega] at HHo
        go_wp2_with (go_at_call 12; refine HHo.out.mono ?_; rintro e w7 ⟨rfl, h7⟩; have HB7 := hide (HB6.out.trans (h7.mono HB6.out.size)); clear h7)
        go_ret
        exact ⟨rfl, HB1.out.trans (HB7.out.mono HB1.out.size)⟩
end Go.Proofs.Ytbmefnpilgdejaa
