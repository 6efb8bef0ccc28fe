/- What skip of edicttop answers: where the gap ends, and the comment that is not closed. -/
import Derived.Test.YtplldgkdjainlaaDoorProg
import Derived.Test.YtplldgkdjainlaaDoorGapPure
import Derived.Test.YtplldgkdjainlaaDoorLexBytes
import Derived.Deep.LoopGhost
namespace Go.Proofs.YtplldgkdjainlaaDoor
set_option linter.unusedSimpArgs false
set_option linter.unusedVariables false
open Go.RowKit

theorem opens_get (s : ByteArray) (k : Nat) (h : k + 1 < s.size) : opens (rest s k) = ((s[k].toNat : Int) == 47 && (s[k + 1].toNat : Int) == 42) := by
  rw [rest_cons s k (by omega), rest_cons s (k + 1) h]
  show (s[k] == 47 && s[k + 1] == 42) = _
  have e : ∀ (b c : UInt8), (b == c) = ((b.toNat : Int) == (c.toNat : Int)) := fun b c => by
    rw [Bool.eq_iff_iff]
    simp only [beq_iff_eq]
    constructor
    · rintro rfl; rfl
    · intro h; exact UInt8.toNat_inj.1 (by omega)
  rw [e, e]
  rfl
theorem closes_get (s : ByteArray) (k : Nat) (h : k + 1 < s.size) : closes (rest s k) = ((s[k].toNat : Int) == 42 && (s[k + 1].toNat : Int) == 47) := by
  rw [rest_cons s k (by omega), rest_cons s (k + 1) h]
  show (s[k] == 42 && s[k + 1] == 47) = _
  have e : ∀ (b c : UInt8), (b == c) = ((b.toNat : Int) == (c.toNat : Int)) := fun b c => by
    rw [Bool.eq_iff_iff]
    simp only [beq_iff_eq]
    constructor
    · rintro rfl; rfl
    · intro h; exact UInt8.toNat_inj.1 (by omega)
  rw [e, e]
  rfl
theorem blank_four {n : Int} (h : blankN n = true) : n = 32 ∨ n = 9 ∨ n = 10 ∨ n = 13 := by
  unfold blankN at h
  simp only [Bool.or_eq_true, beq_iff_eq] at h
  exact h
theorem blank_none {n : Int} (h : blankN n = false) : (n == 32) = false ∧ (n == 9) = false ∧ (n == 10) = false ∧ (n == 13) = false := by
  unfold blankN at h
  simp only [Bool.or_eq_false_iff] at h
  exact h
/-- The two answers of skip. -/
def skipV (s : ByteArray) (o : Nat) : Value := .tuple #[.int .i64 ((gapW s o).1 : Nat), .int .i64 (if (gapW s o).2 then -1 else ((gapW s o).1 : Nat))]
theorem skip_true {s : ByteArray} {o g : Nat} (h : gapW s o = (g, true)) : skipV s o = .tuple #[.int .i64 (g : Nat), .int .i64 (-1)] := by unfold skipV; rw [h]; rfl
theorem skip_false {s : ByteArray} {o g : Nat} (h : gapW s o = (g, false)) : skipV s o = .tuple #[.int .i64 (g : Nat), .int .i64 (g : Nat)] := by unfold skipV; rw [h]; rfl

set_option maxRecDepth 100000 in
set_option maxHeartbeats 4000000 in
theorem skip_any (s : ByteArray) (o : Nat) (w : World) (hs : s.size ≤ 140737488351232) (ho : o ≤ s.size) :
    Calls Tryd.prog 13 #[.string s, .int .i64 o] w fun e w' => e = .returned (skipV s o) ∧ w' = w := by
  go_enter Tryd.func13, Tryd.ntmps13
  go_wp2
  go_loopg [1, 6, 7, 8] (s.size - o) (fun g i _ _ _ wx => ∃ k : Nat, k ≤ s.size ∧ g = s.size - k ∧ i = .int .i64 k ∧ Hid (gapW s o = gapW s k) ∧ wx = w)
  case atStart => exact ⟨o, ho, rfl, rfl, rfl, rfl⟩
  case round =>
    obtain ⟨k, hk, hgk, rfl, HE, rfl⟩ := hrel
    by_cases hlt : k < s.size
    · have hi : (k : Int) < (s.size : Int) := by omega
      have hb : (0 : Int) ≤ (s[k].toNat : Int) ∧ (s[k].toNat : Int) ≤ 255 := by have := s[k].toNat_lt; omega
      by_cases hbl : blankN (s[k].toNat : Int) = true
      · have HG := hide (gapW_blank s k hlt hbl)
        obtain ⟨b1, hb1⟩ : ∃ b1, b1 = ((s[k].toNat : Int) == 32) := ⟨_, rfl⟩
        obtain ⟨b2, hb2⟩ : ∃ b2, b2 = ((s[k].toNat : Int) == 9) := ⟨_, rfl⟩
        obtain ⟨b3, hb3⟩ : ∃ b3, b3 = ((s[k].toNat : Int) == 10) := ⟨_, rfl⟩
        obtain ⟨b4, hb4⟩ : ∃ b4, b4 = ((s[k].toNat : Int) == 13) := ⟨_, rfl⟩
        rcases blank_four hbl with e | e | e | e
        all_goals
          rw [e] at hb1 hb2 hb3 hb4
          have e1 : ((s[k].toNat : Int) == 32) = b1 := by rw [e, hb1]
          have e2 : ((s[k].toNat : Int) == 9) = b2 := by rw [e, hb2]
          have e3 : ((s[k].toNat : Int) == 10) = b3 := by rw [e, hb3]
          have e4 : ((s[k].toNat : Int) == 13) = b4 := by rw [e, hb4]
          simp only [show ((32 : Int) == 32) = true from rfl, show ((32 : Int) == 9) = false from rfl, show ((32 : Int) == 10) = false from rfl, show ((32 : Int) == 13) = false from rfl, show ((9 : Int) == 32) = false from rfl, show ((9 : Int) == 9) = true from rfl, show ((9 : Int) == 10) = false from rfl, show ((9 : Int) == 13) = false from rfl, show ((10 : Int) == 32) = false from rfl, show ((10 : Int) == 9) = false from rfl, show ((10 : Int) == 10) = true from rfl, show ((10 : Int) == 13) = false from rfl, show ((13 : Int) == 32) = false from rfl, show ((13 : Int) == 9) = false from rfl, show ((13 : Int) == 10) = false from rfl, show ((13 : Int) == 13) = true from rfl] at hb1 hb2 hb3 hb4
          subst hb1 hb2 hb3 hb4
          clear e hbl
          go_wp2
          go_roundg (s.size - (k + 1))
          case rel => exact ⟨k + 1, by omega, rfl, by go_num, HE.out.trans HG.out, rfl⟩
          case measure => omega
      have hbf : blankN (s[k].toNat : Int) = false := by simpa using hbl
      clear hbl
      obtain ⟨q1, q2, q3, q4⟩ := blank_none hbf
      by_cases h37 : (s[k].toNat : Int) = 37
      · have e1 : ((s[k].toNat : Int) == 37) = true := by simpa using h37
        have HG := hide (gapW_line s k hlt hbf h37)
        have hm := hide (line_bounds s k hlt h37)
        clear h37 hbf
        go_wp2
        obtain ⟨wo, hwo⟩ : ∃ wo : World, wo = wr := ⟨_, rfl⟩
        subst hwo
        go_loopg [1] (s.size - k) (fun g i wx => ∃ j : Nat, k ≤ j ∧ j ≤ s.size ∧ g = s.size - j ∧ i = .int .i64 j ∧ Hid (k + lineC (rest s k) = j + lineC (rest s j)) ∧ wx = wo)
        case atStart => exact ⟨k, Nat.le_refl _, hk, rfl, rfl, rfl, rfl⟩
        case round =>
          obtain ⟨j, hj0, hj, hgj, rfl, HF, rfl⟩ := hrel
          by_cases hjl : j < s.size
          · have hi2 : (j : Int) < (s.size : Int) := by omega
            by_cases hbj : (s[j].toNat : Int) = 10
            · have e2 : ((s[j].toNat : Int) == 10) = true := by simpa using hbj
              have e2' : ((s[j].toNat : Int) != 10) = false := by simpa using hbj
              have HF2 : Hid (lineC (rest s j) = 0) := by
                show lineC (rest s j) = 0
                rw [rest_cons s j hjl]; unfold lineC; exact if_pos (by omega)
              have HM : Hid (k + lineC (rest s k) = j) := HF.out.trans (by rw [HF2.out]; rfl)
              have hkj : k < j := by have h1 := HM.out; have h2 := hm.out; omega
              go_wp2
              go_roundg (s.size - j)
              case rel => exact ⟨j, hj, rfl, rfl, HE.out.trans (HG.out.trans (by rw [HM.out])), rfl⟩
              case measure => omega
            · have e2 : ((s[j].toNat : Int) == 10) = false := by simpa using hbj
              have e2' : ((s[j].toNat : Int) != 10) = true := by simpa using hbj
              have HF2 : Hid (lineC (rest s j) = lineC (rest s (j + 1)) + 1) := by
                show lineC (rest s j) = _
                rw [rest_cons s j hjl]; conv => lhs; unfold lineC
                exact if_neg (by omega)
              go_wp2
              go_roundg (s.size - (j + 1))
              case rel => exact ⟨j + 1, by omega, by omega, rfl, by go_num, by have h1 := HF.out; have h2 := HF2.out; show _ = _; omega, rfl⟩
              case measure => omega
          · have hi2 : ¬ (j : Int) < (s.size : Int) := by omega
            have HF2 : Hid (lineC (rest s j) = 0) := by
              show lineC (rest s j) = 0
              rw [rest_end s j (by omega)]; rfl
            have HM : Hid (k + lineC (rest s k) = j) := HF.out.trans (by rw [HF2.out]; rfl)
            have hkj : k < j := by have h1 := HM.out; have h2 := hm.out; omega
            go_wp2
            go_roundg (s.size - j)
            case rel => exact ⟨j, hj, rfl, rfl, HE.out.trans (HG.out.trans (by rw [HM.out])), rfl⟩
            case measure => omega
      have e1 : ((s[k].toNat : Int) == 37) = false := by simpa using h37
      by_cases hO : opens (rest s k) = true
      · have hbound := opens_len hO
        rw [rest_len] at hbound
        have hk1 : k + 1 < s.size := by omega
        have hk1' : (k : Int) + 1 < (s.size : Int) := by omega
        have hO2 := hO
        rw [opens_get s k hk1, Bool.and_eq_true, beq_iff_eq, beq_iff_eq] at hO2
        have e5 : ((s[k].toNat : Int) != 47) = false := by simpa using hO2.1
        have e6 : ((s[k + 1].toNat : Int) != 42) = false := by simpa using hO2.2
        have HGB := hide fun h => gapW_bad s k hlt hbf h37 hO h
        have HGS := hide fun j h => gapW_block s k j hlt hbf h37 hO h
        clear hO2 hO h37 hbf
        go_wp2
        obtain ⟨wo, hwo⟩ : ∃ wo : World, wo = wr := ⟨_, rfl⟩
        subst hwo
        go_loopg [1, 8] (s.size - (k + 2)) (fun g i dv wx => ∃ j d : Nat, k + 2 ≤ j ∧ j ≤ s.size ∧ d ≤ j ∧ g = s.size - j ∧ i = .int .i64 j ∧ dv = .int .i64 d ∧ Hid ((1 ≤ d ∧ blockR s 1 (k + 2) = blockR s d j) ∨ (d = 0 ∧ gapW s k = gapW s j)) ∧ wx = wo)
        case atStart => exact ⟨k + 2, 1, Nat.le_refl _, by omega, by omega, rfl, by go_num, rfl, .inl ⟨by omega, rfl⟩, rfl⟩
        case round =>
          obtain ⟨j, d, hj0, hj, hd, hgj, rfl, rfl, HF, rfl⟩ := hrel
          by_cases hd0 : d = 0
          · subst hd0
            have HJ : Hid (gapW s k = gapW s j) := by
              rcases HF.out with ⟨h, -⟩ | ⟨-, h⟩
              · omega
              · exact h
            clear HF
            go_wp2
            go_roundg (s.size - j)
            case rel => exact ⟨j, hj, rfl, rfl, HE.out.trans HJ.out, rfl⟩
            case measure => omega
          have hd1 : 1 ≤ d := by omega
          have hd1' : (0 : Int) < (d : Int) := by omega
          have HF1 : Hid (blockR s 1 (k + 2) = blockR s d j) := by
            rcases HF.out with ⟨-, h⟩ | ⟨h, -⟩
            · exact h
            · omega
          clear HF hd0
          by_cases hjl : j + 1 < s.size
          · have hi2 : ¬ (s.size : Int) ≤ (j : Int) + 1 := by omega
            have hi3 : (j : Int) < (s.size : Int) := by omega
            have hi4 : (j : Int) + 1 < (s.size : Int) := by omega
            have hog := opens_get s j hjl
            have hcg := closes_get s j hjl
            by_cases hOj : opens (rest s j) = true
            · have HN := hide (blockR_open (d := d) hOj)
              rw [hog, Bool.and_eq_true] at hOj
              obtain ⟨f1, f2⟩ := hOj
              clear hog hcg
              go_wp2
              go_roundg (s.size - (j + 2))
              case rel => exact ⟨j + 2, d + 1, by omega, by omega, by omega, rfl, by go_num, by go_num, .inl ⟨by omega, HF1.out.trans HN.out⟩, rfl⟩
              case measure => omega
            have hOj' : opens (rest s j) = false := by simpa using hOj
            clear hOj
            have hOs := hOj'
            rw [hog, Bool.and_eq_false_iff] at hOs
            by_cases hCj : closes (rest s j) = true
            · have HL := hide fun (h : d = 1) => (show blockR s d j = ((j + 2 : Nat) : Int) by rw [h]; exact blockR_last hCj)
              have HN := hide fun (h : ¬ d = 1) => blockR_close (d := d) hCj h
              have HJ : Hid ((1 ≤ d - 1 ∧ blockR s 1 (k + 2) = blockR s (d - 1) (j + 2)) ∨ (d - 1 = 0 ∧ gapW s k = gapW s (j + 2))) := by
                by_cases hd2 : d = 1
                · refine .inr ⟨by omega, ?_⟩
                  have h := HF1.out.trans (HL.out hd2)
                  unfold blockR at h
                  cases hbc : blockC 1 (rest s (k + 2)) with
                  | none => rw [hbc] at h; exfalso; revert h; simp only; omega
                  | some x =>
                    rw [hbc] at h
                    have := HGS.out x hbc
                    rw [show k + 2 + x = j + 2 from by simp only at h; omega] at this
                    exact this
                · exact .inl ⟨by omega, HF1.out.trans (HN.out hd2)⟩
              rw [hcg, Bool.and_eq_true] at hCj
              obtain ⟨f1, f2⟩ := hCj
              have g1 : ((s[j].toNat : Int) == 47) = false := by
                rw [beq_iff_eq] at f1
                rw [f1]; rfl
              clear hog hcg hOs hOj' HL HN
              go_wp2
              go_roundg (s.size - (j + 2))
              case rel => exact ⟨j + 2, d - 1, by omega, by omega, by omega, rfl, by go_num, by go_num, HJ.out, rfl⟩
              case measure => omega
            · have hCj' : closes (rest s j) = false := by simpa using hCj
              have HN := hide (blockR_else (d := d) hOj' hCj')
              rw [hcg, Bool.and_eq_false_iff] at hCj'
              clear hCj hog hcg hOj'
              rcases hOs with g1 | g1 <;> rcases hCj' with g2 | g2
              all_goals
                obtain ⟨x1, hx1⟩ : ∃ x1, x1 = ((s[j].toNat : Int) == 47) := ⟨_, rfl⟩
                obtain ⟨x2, hx2⟩ : ∃ x2, x2 = ((s[j].toNat : Int) == 42) := ⟨_, rfl⟩
                have y1 := hx1.symm
                have y2 := hx2.symm
                clear hx1 hx2
                cases x1 <;> cases x2
                all_goals first
                  | (exfalso; rw [y1] at g1; cases g1; done)
                  | (exfalso; rw [y2] at g2; cases g2; done)
                  | (go_wp2
                     go_roundg (s.size - (j + 1))
                     case rel => exact ⟨j + 1, d, by omega, by omega, by omega, rfl, by go_num, rfl, .inl ⟨hd1, HF1.out.trans HN.out⟩, rfl⟩
                     case measure => omega)
          · have hi2 : (s.size : Int) ≤ (j : Int) + 1 := by omega
            have hJs : blockR s d j = -1 := by
              unfold blockR
              have : blockC d (rest s j) = none := by
                cases hbc : blockC d (rest s j) with
                | none => rfl
                | some x =>
                  have := blockC_le _ _ _ hbc
                  rw [rest_len] at this
                  omega
              rw [this]
            have HJ : Hid (gapW s k = (k, false)) := by
              have h := HF1.out.trans hJs
              unfold blockR at h
              cases hbc : blockC 1 (rest s (k + 2)) with
              | none => exact HGB.out hbc
              | some x => rw [hbc] at h; exfalso; revert h; simp only; omega
            have HV := hide (skip_false (HE.out.trans HJ.out))
            clear hJs
            go_wp2
            try rw [Exit.noGoto_ret]
            go_ret2
            exact ⟨by rw [HV.out]; rfl, rfl⟩
      · have hO' : opens (rest s k) = false := by simpa using hO
        have HG := hide (gapW_stop s k hlt hbf h37 hO')
        have HV := hide (skip_true (HE.out.trans HG.out))
        clear hO
        by_cases hk1 : k + 1 < s.size
        · have hi2 : ¬ (s.size : Int) ≤ (k : Int) + 1 := by omega
          have hi4 : (k : Int) + 1 < (s.size : Int) := by omega
          rw [opens_get s k hk1, Bool.and_eq_false_iff] at hO'
          rcases hO' with g1 | g1
          · have e5 : ((s[k].toNat : Int) != 47) = true := by simpa using g1
            go_wp2
            try rw [Exit.noGoto_ret]
            go_ret2
            exact ⟨by rw [HV.out]; rfl, rfl⟩
          · have e6 : ((s[k + 1].toNat : Int) != 42) = true := by simpa using g1
            obtain ⟨x1, hx1⟩ : ∃ x1, x1 = ((s[k].toNat : Int) != 47) := ⟨_, rfl⟩
            have y1 := hx1.symm
            clear hx1
            cases x1
            all_goals
              go_wp2
              try rw [Exit.noGoto_ret]
              go_ret2
              exact ⟨by rw [HV.out]; rfl, rfl⟩
        · have hi2 : (s.size : Int) ≤ (k : Int) + 1 := by omega
          obtain ⟨x1, hx1⟩ : ∃ x1, x1 = ((s[k].toNat : Int) != 47) := ⟨_, rfl⟩
          have y1 := hx1.symm
          clear hx1
          cases x1
          all_goals
            go_wp2
            try rw [Exit.noGoto_ret]
            go_ret2
            exact ⟨by rw [HV.out]; rfl, rfl⟩
    · have hi : ¬ (k : Int) < (s.size : Int) := by omega
      have HG := hide (gapW_end s k (by omega))
      have HV := hide (skip_true (HE.out.trans HG.out))
      go_wp2
      try rw [Exit.noGoto_ret]
      go_ret2
      exact ⟨by rw [HV.out]; rfl, rfl⟩
end Go.Proofs.YtplldgkdjainlaaDoor
