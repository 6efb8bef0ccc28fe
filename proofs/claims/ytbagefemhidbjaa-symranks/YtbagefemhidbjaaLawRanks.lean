/- edictlaw01.SymRanks returns true at every list. -/
import Derived.Test.YtbagefemhidbjaaProg
import Derived.Test.YtbagefemhidbjaaFilled
import Derived.Test.YtbagefemhidbjaaMade
import Derived.Test.YtbagefemhidbjaaRanks
import Derived.Test.YtbagefemhidbjaaSortIds
import Derived.Test.YtbagefemhidbjaaTabConst
import Derived.Deep.RegionHeld3
namespace Go.Proofs.Ytbagefemhidbjaa
set_option linter.unusedSimpArgs false
set_option linter.unusedVariables false
open Go.RowKit Go.Maps

theorem two_new {w : World} {c d : Con} : ∀ j u, ([d, c].flatMap cells3)[j]? = some u → (w.alloc (.cells #[.int .i64 d.k, .int .i64 d.n, .string d.s, .int .i64 c.k, .int .i64 c.n, .string c.s] 34)).cell? ((⟨w.heap.size, 0, none⟩ : Addr).add j) = some u :=
  World.news_of_block (cs := #[.int .i64 d.k, .int .i64 d.n, .string d.s, .int .i64 c.k, .int .i64 c.n, .string c.s]) (t := 34) (fr := (0, 0)) (heap_alloc_new w _)

set_option maxRecDepth 100000 in
set_option maxHeartbeats 8000000 in
theorem symRanks_walk (ao : Option Addr) (len cap : Nat) (cs : List Con) (w : World) (h : IsCons w ao len cs) :
    Calls Try.prog 4 #[.slice ao len cap] w fun e w' => e = .returned (.bool true) ∧ Below w.heap.size w w' := by
  obtain ⟨i0, hi0, hz0, hz1, hz2⟩ := info_parts Try.infoC3
  obtain ⟨hlen, hrest⟩ := h
  have hlb := hrest.1
  have HR := hide hrest
  have HN := hide hlen
  clear hrest hlen
  go_enter Try.func4, Try.ntmps4
  go_wp2
  go_loopw [3, 4] (fun v i wr => ∃ (k : Nat) (a : Option Addr) (cp : Nat) (ls : List Con), k ≤ len ∧ k ≤ 30000 ∧ i = .int .i64 k ∧ v = .slice a (2 * k) cp ∧ Hid (ls.length = 2 * k) ∧ Hid (∀ c ∈ ls, c.ok) ∧ Hid (Holds3 w.heap.size wr v ls) ∧ Hid (Below w.heap.size w wr)) (fun _ i _ => 30000 - (intOf i).toNat)
  case atStart => exact ⟨0, none, 0, [], by omega, by omega, rfl, rfl, rfl, fun c hc => (by cases hc), World.ownsRow_nil _ _ _ _, Below.refl _ _⟩
  case round =>
    obtain ⟨k, a, cp, ls, hk, hk3, rfl, rfl, HLn, HOk, HH, HB⟩ := hrel
    by_cases hlt : k < len ∧ k < 30000
    · have hi : (k : Int) < (len : Int) := by omega
      have hi2 : (k : Int) < 30000 := by omega
      obtain ⟨b, off, rfl, hr⟩ := HR.out.2.2 (by omega)
      obtain ⟨c, hc⟩ : ∃ c, cs[k]? = some c := ⟨_, List.getElem?_eq_getElem (by have := HN.out; omega)⟩
      have HHok := hide (HR.out.2.1 c (List.mem_of_getElem? hc))
      have HCat := hide (fun W hb => conAt_kept (w' := W) (hr k c hc) hb)
      obtain ⟨x0, x1, x2⟩ := HCat.out wr HB.out
      have hM := fun W => made_any c HHok.out W
      unfold Con.val at hM
      have HM := hide hM
      have hbs := HB.out.size
      clear hr hc hM
      go_wp2
      go_region_held3 (fun w' => w'.cell? ⟨b, off + k * 3, none⟩ = some (.int .i64 c.k) ∧ w'.cell? ⟨b, off + k * 3 + 1, none⟩ = some (.int .i64 c.n) ∧ w'.cell? ⟨b, off + k * 3 + 2, none⟩ = some (.string c.s))
        (first
          | go_keep
          | exact ⟨kept_cell hb2 x0, kept_cell hb2 x1, kept_cell hb2 x2⟩
          | exact HC4.out)
        (first
          | (go_at_call 10; refine (HM.out _).mono ?_; rintro e w2 ⟨⟨d, rfl, hd⟩, hbm⟩; have hb2 : Below wr.heap.size wr w2 := (below_drewN _ wr 1).trans hbm; have HD := hide hd; clear hbm hd)
          | (refine step_append_lies _ (by rfl) _ _ _ (by rfl) w.heap.size 34 i0 _ 3 32 Try.underlying32 hi0 hz0 hz1 hz2 rfl (by decide) _ (2 * k) (ls.flatMap cells3) (by rfl) (by have := World.ownsRow.alloc (holds3_grow HH.out hb2) (.cells #[.int .i64 d.k, .int .i64 d.n, .string d.s, .int .i64 c.k, .int .i64 c.n, .string c.s] 34); rw [HLn.out] at this; exact this) ⟨w2.heap.size, 0, none⟩ 2 2 ([d, c].flatMap cells3) (by rfl) (by rfl) two_new (by simp [cells3, Value.oneCell']) (by decide) (by unfold maxLen; omega) (by omega) (by have := hb2.size; simp; omega) (w2.heap.size + 1) (by simp) ?_; intro g4 cap4 w4 hown4 hgrow4 hat4 hlt4; have hb3 := hb2.alloc hb2.size (.cells #[.int .i64 d.k, .int .i64 d.n, .string d.s, .int .i64 c.k, .int .i64 c.n, .string c.s] 34); have HB4 : Hid (Below w.heap.size w w4) := (HB.out.trans (hb3.mono hbs)).grown hgrow4 (Nat.le_trans hbs hb3.size) (fun q hq => (own_lt3 HH.out hq).1); have HC4 := hide (HCat.out w4 HB4.out)))
      have hH4 : Hid (Holds3 w.heap.size w4 (.slice (some ⟨g4, 0, none⟩) (2 * (k + 1)) cap4) (ls ++ [d, c])) := holds_append (n := 2 * k) (m := 2) (HLn.out.symm) rfl hown4
      have HOk4 : Hid (∀ x ∈ ls ++ [d, c], x.ok) := fun x hx => by
        rcases List.mem_append.1 hx with h | h
        · exact HOk.out x h
        · simp only [List.mem_cons, List.not_mem_nil, or_false] at h
          rcases h with rfl | rfl
          · exact HD.out
          · exact HHok.out
      have HL4 : Hid ((ls ++ [d, c]).length = 2 * (k + 1)) := by show _ = _; rw [List.length_append, HLn.out]; rfl
      clear hown4 hgrow4 hat4
      go_wp2
      go_roundw
      case rel => exact ⟨k + 1, _, cap4, _, by omega, by omega, by go_num, rfl, HL4, HOk4, hH4, HB4⟩
      case measure => simp [intOf]; omega
    · go_upto_region 3 with fail
      go_cut [23] (fun t wc => t = .bool false ∧ wr = wc)
      case first =>
        by_cases h1 : k < len
        · have hi : (k : Int) < (len : Int) := by omega
          have hi2 : ¬ (k : Int) < 30000 := by omega
          go_wp2
          all_goals go_meet
          all_goals exact ⟨rfl, rfl⟩
        · have hi : ¬ (k : Int) < (len : Int) := by omega
          go_wp2
          all_goals go_meet
          all_goals exact ⟨rfl, rfl⟩
      case rest =>
        obtain ⟨rfl, rfl⟩ := hcut
        obtain ⟨N, hN⟩ : ∃ N, N = 2 * k := ⟨_, rfl⟩
        rw [← hN] at HH HLn
        have hNs : N ≤ 60000 := by omega
        obtain ⟨a', cp', hv, -, hI⟩ := holds_cons HH.out HOk.out (by rw [HLn.out]; omega)
        simp only [Value.slice.injEq] at hv
        obtain ⟨rfl, -, -⟩ := hv
        rw [HLn.out] at hI
        have HFl := hide (filled_any a N cp ls _ hI.1 (by omega))
        clear hI
        rw [← hN]
        clear hN
        go_upto_region 7 with (go_at_call 11; refine HFl.out.mono ?_; rintro e W1 ⟨p, rfl, m, v1, hF⟩; have HF := hide hF; clear hF)
        obtain ⟨ks, hks⟩ : ∃ ks, ks = ddV ls := ⟨_, rfl⟩
        have hnd : ks.Nodup := by rw [hks]; exact ddV_nodup ls
        have HKok : Hid (∀ c ∈ ks, c.ok) := fun c hc => HOk.out c (ddV_mem (by rw [hks] at hc; exact hc))
        have hkl : ks.length ≤ 65536 := by
          have := ddV_len ls ls.length
          rw [List.take_of_length_le (Nat.le_refl _), ← hks, HLn.out] at this
          omega
        rw [← hks] at HF
        obtain ⟨n1, ao1, cap1, -, hT, -⟩ := HF.out.tab
        have HB1 : Hid (Below w.heap.size w W1) := HB.out.trans (HF.out.bel.mono HB.out.size)
        rw [← hks]
        clear hks HF HFl HOk HH HLn
        have HLn1 := lenCon_any hT
        have HSo := hide (sorted_any sortIds_is hT hnd hkl)
        have HRk : Hid (∀ W, Below W1.heap.size W1 W → Calls Try.prog 14 #[.pointer (some ⟨p, 0, none⟩)] W fun e w' => ∃ g, e = .returned (.slice (some ⟨g, 0, none⟩) ks.length ks.length) ∧ w'.rowIs g 3 ks.length (fun i => encI ((sortL ks).idxOf i)) ∧ W.heap.size ≤ g ∧ Below W.heap.size W w') := fun W hb => ranks_any sortIds_is (hT.grow hb) hnd hkl
        have HT := hide hT
        have HIS := hide (sortL_is hnd)
        obtain ⟨n, hn⟩ : ∃ n, n = ks.length := ⟨_, rfl⟩
        have HKN := hide hn
        rw [← hn] at HLn1 HSo HRk hkl ⊢
        replace HLn1 := hide HLn1
        have HND := hide hnd
        clear hn hT hnd
        go_wp2_with (first
          | (go_at_call 12; refine HLn1.out.mono ?_; rintro e w' ⟨rfl, hw'⟩; have hw' := hw'.symm; subst hw')
          | (go_at_call 13; refine HSo.out.mono ?_; rintro e W2 ⟨gs, rfl, hown, hb2⟩; obtain ⟨hr2, hg2⟩ := own_row hown; have HRs := hide hr2; have HB2 := hide hb2; clear hown hr2 hb2)
          | (go_at_call 14; refine (HRk.out _ HB2.out).mono ?_; rintro e W3 ⟨gr, rfl, hr3, hg3, hb3⟩; have HRr := hide hr3; have HB3 := hide hb3; clear hr3 hb3))
        have HGr : Hid (∀ V, Below W3.heap.size W3 V → ∀ x, x < n → V.cell? ⟨gr, x, none⟩ = some (.int .i64 ((sortL ks).idxOf x : Nat))) := fun V hb x hx => kept_cell hb (HRr.out.cell hx)
        have HGs : Hid (∀ V, Below W3.heap.size W3 V → ∀ x, x < n → V.cell? ⟨gs, x, none⟩ = some (.int .i64 ((sortL ks).getD x 0 : Nat))) := fun V hb x hx => kept_cell hb (kept_cell HB3.out (HRs.out.cell hx))
        have HGt : Hid (∀ V, Below W3.heap.size W3 V → TableAt wr.heap.size V p m n1 ao1 cap1 ks) := fun V hb => ((HT.out.grow HB2.out).grow HB3.out).grow hb
        have HBw : Hid (∀ V, Below W3.heap.size W3 V → Below w.heap.size w V) := fun V hb => HB1.out.trans (((HB2.out.trans (HB3.out.mono HB2.out.size)).trans (hb.mono (Nat.le_trans HB2.out.size HB3.out.size))).mono HB1.out.size)
        clear HRr HRs HT HB2 HB3 HLn1 HSo HRk HB HR HN hlt HB1
        go_loopw [10] (fun t V => ∃ i : Nat, i ≤ n ∧ t = .int .i64 i ∧ Hid (Below W3.heap.size W3 V)) (fun t _ => n - (intOf t).toNat)
        case atStart => exact ⟨0, by omega, rfl, Below.refl _ _⟩
        case round =>
          obtain ⟨i, hin, rfl, HV⟩ := hrel
          by_cases hlt : i < n
          · have hi : (i : Int) < (n : Int) := by omega
            obtain ⟨c, hc⟩ : ∃ c, ks[i]? = some c := ⟨_, List.getElem?_eq_getElem (by have := HKN.out; omega)⟩
            obtain ⟨hp1, hp2⟩ := HIS.out.at (i := i) (by have := HKN.out; omega)
            rw [HIS.out.len, ← HKN.out] at hp1
            have g1 := HGr.out _ HV.out i hlt
            have g2 := HGs.out _ HV.out _ hp1
            rw [List.getD_eq_getElem?_getD, hp2] at g2
            obtain ⟨R, hR⟩ : ∃ R, R = (sortL ks).idxOf i := ⟨_, rfl⟩
            have HRi := hide hR
            rw [← hR] at g1 g2 hp1
            simp only [Option.getD_some] at g2
            have q1 : ¬ (R : Int) < 0 := by omega
            have q2 : (R : Int) < (n : Int) := by omega
            have hC := tConst_in (HGt.out _ HV.out) (by have := HKN.out; omega) hc
            unfold Con.val at hC
            have HC := hide hC
            have HCi := hide hc
            have HCk := hide (HKok.out c (List.mem_of_getElem? hc))
            clear hp2 hR hC hc
            go_wp2_with (go_at_call 15; refine HC.out.mono ?_; rintro e V1 ⟨rfl, hb1⟩; have HV1 : Hid (Below W3.heap.size W3 V1) := HV.out.trans (hb1.mono HV.out.size); clear hb1 HC)
            have hcb := conAt_new V1 c 34
            have hB1 := (Below.refl _ V1).alloc (Nat.le_refl _) (boxOf c 34)
            unfold boxOf at hcb hB1
            obtain ⟨b1, hb1⟩ : ∃ b1, b1 = V1.heap.size := ⟨_, rfl⟩
            have HV2 : Hid (Below W3.heap.size W3 (V1.alloc (.cells #[.int .i64 c.k, .int .i64 c.n, .string c.s] 34))) := HV1.out.trans (hB1.mono HV1.out.size)
            rw [← hb1] at hcb ⊢
            clear hb1 hB1 HV1 HV g1 g2
            generalize V1.alloc (.cells #[.int .i64 c.k, .int .i64 c.n, .string c.s] 34) = V2 at *
            refine wp_region_over (fun W => V2 = W) (by kernel_rfl) (by kernel_rfl) rfl ?_
            rintro _ rfl
            obtain ⟨x0, x1, x2⟩ := hcb
            have x0' := over_cell x0
            have x1' := over_cell x1
            have x2' := over_cell x2
            have hplt := (HGt.out _ HV2.out).plt
            have G1 := hide (fun v => calls_over (findCon_some ((HGt.out _ HV2.out).grow (over_below V2 v)) HCk.out HCi.out))
            unfold Con.val at G1
            repeat (go_big_quiet_step ((go_at_call 16; exact G1.out _)))
            refine wpQuiet_nil ?_
            rintro _ ⟨y, rfl⟩
            have HV3 : Hid (Below W3.heap.size W3 (over V2 y)) := HV2.out.trans ((over_below V2 y).mono HV2.out.size)
            have HC3 : Hid (conAt (over V2 y) b1 0 c) := ⟨x0' y, x1' y, x2' y⟩
            clear x0 x1 x2 x0' x1' x2' G1 HV2 hplt
            generalize over V2 y = V3 at *
            go_wp2
            go_loopw [13] (fun t V => ∃ j : Nat, j ≤ n ∧ t = .int .i64 j ∧ Hid (Below V3.heap.size V3 V)) (fun t _ => n - (intOf t).toNat)
            case atStart => exact ⟨0, by omega, rfl, Below.refl _ _⟩
            case round =>
              obtain ⟨j, hjn, rfl, HU⟩ := hrel
              by_cases hlj : j < n
              · have hj : (j : Int) < (n : Int) := by omega
                obtain ⟨d, hd⟩ : ∃ d, ks[j]? = some d := ⟨_, List.getElem?_eq_getElem (by have := HKN.out; omega)⟩
                have HU3 : Hid (Below W3.heap.size W3 wr) := HV3.out.trans (HU.out.mono HV3.out.size)
                have hC := tConst_in (HGt.out _ HU3.out) (by have := HKN.out; omega) hd
                unfold Con.val at hC
                have HC := hide hC
                have HAh : Hid (decide ((sortL ks).idxOf j < R) = aheadB d c) := by
                  show _ = _
                  rw [aheadB_cmp, HRi.out]
                  exact decide_eq_decide.2 (HIS.out.ahead HCi.out hd)
                clear hC hd
                go_wp2_with (go_at_call 15; refine HC.out.mono ?_; rintro e U1 ⟨rfl, hb1⟩; have HU1 : Hid (Below V3.heap.size V3 U1) := HU.out.trans (hb1.mono HU.out.size); clear hb1 HC)
                have hdb := conAt_new U1 d 34
                have hB1 := (Below.refl _ U1).alloc (Nat.le_refl _) (boxOf d 34)
                unfold boxOf at hdb hB1
                obtain ⟨b2, hb2⟩ : ∃ b2, b2 = U1.heap.size := ⟨_, rfl⟩
                have HU2 : Hid (Below V3.heap.size V3 (U1.alloc (.cells #[.int .i64 d.k, .int .i64 d.n, .string d.s] 34))) := HU1.out.trans (hB1.mono HU1.out.size)
                rw [← hb2] at hdb ⊢
                clear hb2 hB1 HU1 HU HU3
                generalize U1.alloc (.cells #[.int .i64 d.k, .int .i64 d.n, .string d.s] 34) = U2 at *
                have HU4 : Hid (Below W3.heap.size W3 U2) := HV3.out.trans (HU2.out.mono HV3.out.size)
                have g1 := HGr.out _ HU4.out i hlt
                have g2 := HGr.out _ HU4.out j hlj
                rw [← HRi.out] at g1
                obtain ⟨x0, x1, x2⟩ := conAt_kept HC3.out HU2.out
                obtain ⟨y0, y1, y2⟩ := hdb
                obtain ⟨S, hS⟩ : ∃ S, S = (sortL ks).idxOf j := ⟨_, rfl⟩
                rw [← hS] at g2 HAh
                clear hS
                have hA := fun v => calls_over (ahead_any d c (over U2 v))
                cases hah : aheadB d c with
                | true =>
                  rw [hah] at hA HAh
                  unfold Con.val at hA
                  have G1 := hide hA
                  have q3 : (S : Int) < (R : Int) := by have := of_decide_eq_true HAh.out; omega
                  have q4 : decide ((S : Int) < (R : Int)) = true := decide_eq_true q3
                  clear hA hah
                  refine wp_region_over (fun W => U2 = W) (by kernel_rfl) (by kernel_rfl) rfl ?_
                  rintro _ rfl
                  have x0' := over_cell x0
                  have x1' := over_cell x1
                  have x2' := over_cell x2
                  have y0' := over_cell y0
                  have y1' := over_cell y1
                  have y2' := over_cell y2
                  have g1' := over_cell g1
                  have g2' := over_cell g2
                  clear x0 x1 x2 y0 y1 y2 g1 g2
                  repeat (go_big_quiet_step ((go_at_call 17; exact G1.out _)))
                  refine wpQuiet_nil ?_
                  rintro _ ⟨z, rfl⟩
                  have HU5 : Hid (Below V3.heap.size V3 (over U2 z)) := HU2.out.trans ((over_below U2 z).mono HU2.out.size)
                  clear x0' x1' x2' y0' y1' y2' g1' g2' G1
                  go_wp2
                  go_roundw
                  case rel => exact ⟨j + 1, by omega, by go_num, HU5⟩
                  case measure => simp [intOf]; omega
                | false =>
                  rw [hah] at hA HAh
                  unfold Con.val at hA
                  have G1 := hide hA
                  have q3 : ¬ (S : Int) < (R : Int) := by have := of_decide_eq_false HAh.out; omega
                  have q4 : decide ((S : Int) < (R : Int)) = false := decide_eq_false q3
                  clear hA hah
                  refine wp_region_over (fun W => U2 = W) (by kernel_rfl) (by kernel_rfl) rfl ?_
                  rintro _ rfl
                  have x0' := over_cell x0
                  have x1' := over_cell x1
                  have x2' := over_cell x2
                  have y0' := over_cell y0
                  have y1' := over_cell y1
                  have y2' := over_cell y2
                  have g1' := over_cell g1
                  have g2' := over_cell g2
                  clear x0 x1 x2 y0 y1 y2 g1 g2
                  repeat (go_big_quiet_step ((go_at_call 17; exact G1.out _)))
                  refine wpQuiet_nil ?_
                  rintro _ ⟨z, rfl⟩
                  have HU5 : Hid (Below V3.heap.size V3 (over U2 z)) := HU2.out.trans ((over_below U2 z).mono HU2.out.size)
                  clear x0' x1' x2' y0' y1' y2' g1' g2' G1
                  go_wp2
                  go_roundw
                  case rel => exact ⟨j + 1, by omega, by go_num, HU5⟩
                  case measure => simp [intOf]; omega
              · obtain rfl : j = n := by omega
                have hj : ¬ (j : Int) < (j : Int) := by omega
                go_wp2
                go_roundw
                case rel => exact ⟨i + 1, by omega, by go_num, HV3.out.trans (HU.out.mono HV3.out.size)⟩
                case measure => simp [intOf]; omega
          · obtain rfl : i = n := by omega
            have hi : ¬ (i : Int) < (i : Int) := by omega
            go_wp2
            go_ret
            exact ⟨rfl, HBw.out _ HV.out⟩
end Go.Proofs.Ytbagefemhidbjaa
