/- edictlaw01's ends: a ranging whose rounds cut, or intern, comes to its end. -/
import Derived.Test.YthhoiejjejdffaaEndsMem
import Derived.Test.YthhoiejjejdffaaCutShort
import Derived.Test.YthhoiejjejdffaaByteRow
import Derived.Laws.ResultCell
import Derived.Sort.CutIn
import Derived.Sort.QuietIn
namespace Go.Proofs.Ythhoiejjejdffaa
set_option linter.unusedSimpArgs false
set_option linter.unusedVariables false
open Go.RowKit Go.Maps Go.Shelf
attribute [local go_sem] Oper.semAt_some

set_option maxRecDepth 100000 in
set_option maxHeartbeats 8000000 in
theorem ends_any {w : World} {ao : Option Addr} {len cap : Nat} {ss : List ByteArray} (h : IsStrs w ao len ss) (h0 : 0 < len) (hl : len ≤ 2097152) :
    Calls Try.prog 20 #[.slice ao len cap] w fun e w' => e = .returned (.bool true) ∧ Below w.heap.size w w' := by
  have hfs := func_someS
  obtain ⟨ks, hks⟩ : ∃ ks, ks = ddS ss := ⟨_, rfl⟩
  have HN1 : Hid (∀ W, Below w.heap.size w W → Calls Try.prog 8 #[.slice ao len cap] W fun e w' => e = .returned (.pointer (some ⟨W.heap.size + 1, 0, none⟩)) ∧ Hid (∃ n ao' cap', StrIds W.heap.size w' (W.heap.size + 1) W.heap.size n ao' cap' ks ∧ n ≤ len ∧ Below W.heap.size W w' ∧ (∀ a, ao' = some a → W.heap.size ≤ a.block))) := fun W hb => by rw [hks]; exact newStr_any ao len cap ss W (Nat.le_refl _) (strs_kept0 h hb) (by omega)
  have HND : Hid ks.Nodup := by rw [hks]; exact ddS_nodup0 ss
  have HKK : Hid (∀ k ∈ ks, k.size ≤ maxLen) := fun k hk => by
    rw [hks] at hk
    have := h.2.2.1 k (ddS_mem0.1 hk)
    unfold maxLen
    omega
  obtain ⟨M, hM⟩ : ∃ M, M = ks.length := ⟨_, rfl⟩
  have hM0 : 0 < M := by
    rw [hM]
    obtain ⟨s, hs⟩ : ∃ s, s ∈ ss := ⟨ss[0]'(by rw [h.1]; exact h0), List.getElem_mem _⟩
    exact List.length_pos_of_mem (ddS_mem0.2 hs |> (hks ▸ ·))
  have hMl : M ≤ 2097152 := by
    have := ddS_len ss
    rw [← hks, h.1] at this
    omega
  have HM := hide hM
  clear hks hM h
  refine (callsIn_wide (n := 3)).1 ?_
  refine callsIn_of_wp_marks Try.func20 rfl trivial ?_ rfl
  simp only [Try.ntmps20, List.size_toArray, List.length_cons, List.length_nil, Nat.reduceAdd, Nat.reduceSub, Array.replicate_succ, Array.replicate_zero, List.push_toArray, List.append_toArray, List.nil_append, List.cons_append]
  gi_upto_region 1 with fail
  have HBA : Hid (Below w.heap.size w (w.alloc (.cells #[.bool false] 4))) := (Below.refl _ w).alloc (Nat.le_refl _) _
  gi_upto_region 2 with (refine ⟨trivial, ?_⟩; gi_at_call 8; refine (callsIn_wide.2 (HN1.out _ HBA.out)).mono ?_; rintro e w2 ⟨rfl, hc1⟩; have HC1 := hide hc1.out; clear hc1)
  obtain ⟨n1, ao1, cap1, hI1, hn1, hb1, ha1⟩ := HC1.out
  simp only [World.size_alloc] at hI1 hb1 ha1
  have hs1 := hb1.size
  simp only [World.size_alloc] at hs1
  have HB2 : Hid (Below w.heap.size w w2) := HBA.out.trans (hb1.mono (Nat.le_succ _))
  have bB2 : Boxed w2 w.heap.size 4 (.bool false) := (hb1.block _ (by omega)).trans (Boxed.new w _ _)
  have HI1 := hide hI1
  have HA1 := hide ha1
  have hf1 := fun q hq => hI1.foot_lt (by decide) (k := q) hq
  have HF1 := hide hf1
  clear HC1 hI1 hb1 ha1 HBA hf1
  have bX3 := Boxed.new w2 26 (.pointer (some ⟨w.heap.size + 1 + 1, 0, none⟩))
  have HB3 : Hid (Below w.heap.size w (w2.alloc (.cells #[.pointer (some ⟨w.heap.size + 1 + 1, 0, none⟩)] 26))) := HB2.out.alloc HB2.out.size _
  gi_upto_region 3 with (refine ⟨trivial, ?_⟩; gi_at_call 8; refine (callsIn_wide.2 (HN1.out _ HB3.out)).mono ?_; rintro e w4 ⟨rfl, hc1⟩; have HC1 := hide hc1.out; clear hc1)
  obtain ⟨n2, ao2, cap2, hI2, hn2, hb2, ha2⟩ := HC1.out
  simp only [World.size_alloc] at hI2 hb2 ha2
  have hs2 := hb2.size
  simp only [World.size_alloc] at hs2
  have h24 : Below w2.heap.size w2 w4 := ((Below.refl _ w2).alloc (Nat.le_refl _) _).trans (hb2.mono (Nat.le_succ _))
  have HI1' := hide (HI1.out.grow h24)
  have bB4 : Boxed w4 w.heap.size 4 (.bool false) := (h24.block _ (by omega)).trans bB2
  have bX4 : Boxed w4 w2.heap.size 26 (.pointer (some ⟨w.heap.size + 1 + 1, 0, none⟩)) := (hb2.block _ (by omega)).trans bX3
  have HB4 : Hid (Below w.heap.size w w4) := HB2.out.trans (h24.mono (by omega))
  have HI2 := hide hI2
  have HA2 := hide ha2
  have HF2 := hide (fun q hq => hI2.foot_lt (by decide) (k := q) hq)
  clear HC1 hI2 hb2 ha2 HB2 HB3 bX3 bB2 h24 HI1 HN1
  obtain ⟨W5, hW5⟩ : ∃ W5, W5 = w4.alloc (.cells #[.pointer (some ⟨w2.heap.size + 1 + 1, 0, none⟩)] 26) := ⟨_, rfl⟩
  have hs5 : W5.heap.size = w4.heap.size + 1 := by rw [hW5]; simp
  have hb5 : Below w4.heap.size w4 W5 := by rw [hW5]; exact (Below.refl _ _).alloc (Nat.le_refl _) _
  have bY5 : Boxed W5 w4.heap.size 26 (.pointer (some ⟨w2.heap.size + 1 + 1, 0, none⟩)) := by rw [hW5]; exact Boxed.new _ _ _
  have bX5 : Boxed W5 w2.heap.size 26 (.pointer (some ⟨w.heap.size + 1 + 1, 0, none⟩)) := (hb5.block _ bX4.lt).trans bX4
  have bB5 : Boxed W5 w.heap.size 4 (.bool false) := (hb5.block _ bB4.lt).trans bB4
  have HI15 := hide (HI1'.out.grow hb5)
  have HI25 := hide (HI2.out.grow hb5)
  have HB5 : Hid (Below w.heap.size w W5) := HB4.out.trans (hb5.mono HB4.out.size)
  rw [← hW5]
  clear hW5 bX4 bB4 hb5 HI1' HI2 HB4
  have hcX := bX5.cell
  have hcY := bY5.cell
  have HLn := lenStr_any HI15.out
  rw [← HM.out] at HLn
  replace HLn := hide HLn
  gi_upto_region 6 with (refine ⟨trivial, ?_⟩; gi_at_call 21; refine (callsIn_wide.2 HLn.out).mono ?_; rintro e w' ⟨rfl, hw'⟩; have hw' := hw'.symm; subst hw')
  gi_upto_region 7 with fail
  obtain ⟨W7, hW7⟩ : ∃ W7, W7 = (W5.alloc (.cells #[.int .i64 M] 3)).alloc (.cells #[.int .i64 0] 3) := ⟨_, rfl⟩
  have hs7 : W7.heap.size = w4.heap.size + 3 := by rw [hW7]; simp [hs5]
  have hb7 : Below W5.heap.size W5 W7 := by rw [hW7]; exact ((Below.refl _ _).alloc (Nat.le_refl _) _).alloc (by simp) _
  have bM7 : Boxed W7 (w4.heap.size + 1) 3 (.int .i64 M) := by rw [hW7, ← hs5]; exact (Boxed.new _ _ _).alloc _
  have bN7 : Boxed W7 (w4.heap.size + 1 + 1) 3 (.int .i64 0) := by
    have := Boxed.new (W5.alloc (.cells #[.int .i64 M] 3)) 3 (.int .i64 0)
    rw [World.size_alloc, hs5] at this
    rw [hW7]; exact this
  have bX7 := (hb7.block _ bX5.lt).trans bX5
  have bY7 := (hb7.block _ bY5.lt).trans bY5
  have bB7 := (hb7.block _ bB5.lt).trans bB5
  have HI17 := hide (HI15.out.grow hb7)
  have HI27 := hide (HI25.out.grow hb7)
  have HB7 : Hid (Below w.heap.size w W7) := HB5.out.trans (hb7.mono HB5.out.size)
  rw [← hW7]
  clear hW7 bX5 bY5 bB5 hb7 HI15 HI25 HB5 hs5 hcX hcY HLn
  have hcX := (show Boxed W7 _ _ _ from bX7).cell
  have hcY := (show Boxed W7 _ _ _ from bY7).cell
  have hlX := (show Boxed W7 _ _ _ from bX7).lt
  have hlY := (show Boxed W7 _ _ _ from bY7).lt
  gi_upto_region 9 with (refine ⟨trivial, ?_⟩; gi_at_call 48; refine (callsIn_wide.2 (allStr_any _ _)).mono ?_; rintro e w' ⟨rfl, rfl⟩)
  obtain ⟨W9, hW9⟩ : ∃ W9, W9 = (W7.alloc (.cells #[.pointer (some ⟨w.heap.size + 1 + 1, 0, none⟩)] 26)).alloc (.cells #[.pointer (some ⟨w2.heap.size + 1 + 1, 0, none⟩)] 26) := ⟨_, rfl⟩
  have hs9 : W9.heap.size = w4.heap.size + 5 := by rw [hW9]; simp [hs7]
  have hb9 : Below W7.heap.size W7 W9 := by rw [hW9]; exact ((Below.refl _ _).alloc (Nat.le_refl _) _).alloc (by simp) _
  rw [← hW9]
  have bX9 : Boxed W9 w2.heap.size 26 (.pointer (some ⟨w.heap.size + 1 + 1, 0, none⟩)) := (hb9.block _ hlX).trans bX7
  have hcX9 := bX9.cell
  clear hW9
  obtain ⟨W8, hW8⟩ : ∃ W8, W8 = W9.alloc (.cells #[.pointer (some ⟨w.heap.size + 1 + 1, 0, none⟩)] 26) := ⟨_, rfl⟩
  have hs8 : W8.heap.size = w4.heap.size + 6 := by rw [hW8]; simp [hs9]
  have hb8 : Below W7.heap.size W7 W8 := by rw [hW8]; exact hb9.alloc (by omega) _
  have bA8 : Boxed W8 (w4.heap.size + 5) 26 (.pointer (some ⟨w.heap.size + 1 + 1, 0, none⟩)) := by
    rw [hW8, ← hs9]; exact Boxed.new _ _ _
  have bX8 : Boxed W8 w2.heap.size 26 (.pointer (some ⟨w.heap.size + 1 + 1, 0, none⟩)) := (hb8.block _ hlX).trans bX7
  have bY8 : Boxed W8 w4.heap.size 26 (.pointer (some ⟨w2.heap.size + 1 + 1, 0, none⟩)) := (hb8.block _ hlY).trans bY7
  have bB8 : Boxed W8 w.heap.size 4 (.bool false) := (hb8.block _ (show Boxed W7 _ _ _ from bB7).lt).trans bB7
  have bM8 : Boxed W8 (w4.heap.size + 1) 3 (.int .i64 M) := (hb8.block _ bM7.lt).trans bM7
  have bN8 : Boxed W8 (w4.heap.size + 1 + 1) 3 (.int .i64 0) := (hb8.block _ bN7.lt).trans bN7
  have HW8 := hide hW8
  clear hW8
  have HI18 := hide (ids_base0 (HI17.out.grow hb8))
  have HI28 := hide (HI27.out.grow hb8)
  have HB8 : Hid (Below w.heap.size w W8) := HB7.out.trans (hb8.mono HB7.out.size)
  gi_wp2_with (refine ⟨trivial, ?_⟩; gi_at_call 48; refine (callsIn_wide.2 (allStr_any _ _)).mono ?_; rintro e w' ⟨rfl, rfl⟩)
  rw [← HW8.out]
  clear HW8 hb9 bX9 hcX9 hs9 bX7 bY7 bB7 bM7 bN7 hb8 HI17 HI27 HB7 hs7 hcX hcY hlX hlY
  have hm18 : w.heap.size + 1 < W8.heap.size := by omega
  have hm28 : w2.heap.size + 1 < W8.heap.size := by omega
  refine wpIn_rangeFunc_ownG rfl (by omega) (gf := 71) (lb := #[.pointer (some ⟨w4.heap.size + 5, 0, none⟩)]) rfl trivial (enters_of Try.func71 (by kernel_rfl) rfl)
    (allTurn_stops 2 (by omega) W8 HI18.out (by have := HM.out; omega) bA8) kpS_t (kpS_b hm18) (Below.refl _ _) (fun _ => rfl)
    (fun pre W => (∃ ks', StrIds 0 W (w.heap.size + 1 + 1) (w.heap.size + 1) n1 ao1 cap1 ks' ∧ ks'.Nodup ∧ (∀ k ∈ ks', k.size ≤ maxLen) ∧ ks'.length ≤ M ∧ (0 < pre.length → ks'.length ≤ 1)) ∧ (Boxed W (w4.heap.size + 1 + 1) 3 (.int .i64 pre.length) ∧ Only (fun q => foot (w.heap.size + 1 + 1) (w.heap.size + 1) ao1 q ∨ q = w4.heap.size + 1 + 1) W8 W))
    (fun _ _ _ => False)
    (OwnFrom.and (fun s W W' row hs hg hr => by obtain ⟨ks', h1, h2⟩ := hs; exact ⟨ks', ids_ownFrom hm18 h1 hg hr, h2⟩) (OwnFrom.and (Own.from (boxed_own (w4.heap.size + 1 + 1) 3 (fun pre : List (Nat × ByteArray) => .int .i64 pre.length)) _) only_own0))
    (fun _ _ _ _ _ hs _ _ => hs)
    ⟨⟨ks, HI18.out, HND.out, HKK.out, by have := HM.out; omega, fun h => absurd h (by simp)⟩, bN8, Only.refl _ _⟩
    ?a1 ?assign ?body ?done ?stop
  case assign =>
    intro l x W K hK
    dsimp only [encS2]
    gi_wp2
    exact hK
  case stop =>
    rintro D c pre W _ _ h _
    exact h.elim
  case body =>
    rintro l pre x W ⟨⟨ks', hI, hnd, hkk, hlM, hone⟩, hbN, hO⟩ hltp
    have hnN := ids_notfoot hI hbN (by decide) (by decide)
    have hnX : ¬ (foot (w.heap.size + 1 + 1) (w.heap.size + 1) ao1 w2.heap.size ∨ w2.heap.size = w4.heap.size + 1 + 1) := by
      rintro (h | h)
      · exact ids_notfoot HI18.out bX8 (by decide) (by decide) h
      · omega
    have hnM : ¬ (foot (w.heap.size + 1 + 1) (w.heap.size + 1) ao1 (w4.heap.size + 1) ∨ w4.heap.size + 1 = w4.heap.size + 1 + 1) := by
      rintro (h | h)
      · exact ids_notfoot HI18.out bM8 (by decide) (by decide) h
      · omega
    have hbX := boxed_only bX8 hO hnX
    have hbM := boxed_only bM8 hO hnM
    have hcN := hbN.cell
    have hfN := hbN.frozen
    have hO1 : Only (fun q => foot (w.heap.size + 1 + 1) (w.heap.size + 1) ao1 q ∨ q = w4.heap.size + 1 + 1) W (W.setCell ⟨w4.heap.size + 1 + 1, 0, none⟩ (.int .i64 ((pre.length : Int) + 1))) := (Only.refl _ W).setCell (p := ⟨w4.heap.size + 1 + 1, 0, none⟩) (.inr rfl) _
    have hI1 : StrIds 0 (W.setCell ⟨w4.heap.size + 1 + 1, 0, none⟩ (.int .i64 ((pre.length : Int) + 1))) (w.heap.size + 1 + 1) (w.heap.size + 1) n1 ao1 cap1 ks' :=
      hI.only ((Only.refl (fun q => q = w4.heap.size + 1 + 1) W).setCell (p := ⟨w4.heap.size + 1 + 1, 0, none⟩) rfl _) (fun e => hnN (.inl e.symm)) (fun e => hnN (.inr (.inl e.symm))) (fun a ha e => hnN (.inr (.inr ⟨a, ha, e.symm⟩)))
    have hbN1 := hbN.set (.int .i64 ((pre.length : Int) + 1))
    have hbX1 := hbX.other (B' := w4.heap.size + 1 + 1) (by omega) (.int .i64 ((pre.length : Int) + 1))
    have hbM1 := hbM.other (B' := w4.heap.size + 1 + 1) (by omega) (.int .i64 ((pre.length : Int) + 1))
    have HC := cutStr_any hI1 hnd hkk (by omega) ((pre.length + 1) % 2)
    rw [← tmod2] at HC
    replace HC := hide HC
    have HBN1 := hide hbN1
    have HBM1 := hide hbM1
    have HO1 := hide hO1
    have HI1 := hide hI1
    have HND' := hide hnd
    have HKK' := hide hkk
    have HBX := hide hbX
    have hcX1 := hbX1.cell
    have hcN1 := hbN1.cell
    have HO := hide hO
    have hle : ¬ (M : Int) < (pre.length : Int) + 1 := by have := HM.out; omega
    have hle2 : (pre.length : Int) + 1 ≤ (M : Int) := by omega
    obtain ⟨k, hk⟩ : ∃ k, k = pre.length := ⟨_, rfl⟩
    have HPL := hide hk
    clear hbX hbM hbN hO hI hnd hkk hI1 hO1 hbN1 hbX1 hbM1 hk
    gi_wp2_with (refine ⟨trivial, ?_⟩; gi_at_call 36; refine (callsIn_wide.2 HC.out).mono ?_; rintro e W2 ⟨rfl, hI2, hO2⟩; have hbN2 := boxed_only HBN1.out hO2 hnN; have hbM2 := boxed_only HBM1.out hO2 (fun h => hnM (.inl h)); have hcN2 := hbN2.cell; have hcM2 := hbM2.cell; have HI2 := hide hI2; have HO2 := hide hO2; have HBN2 := hide hbN2; clear hI2 hO2 hbN2 hbM2 hcN1 hcX1)
    have hOt := HO1.out.trans (HO2.out.mono (S' := fun q => foot (w.heap.size + 1 + 1) (w.heap.size + 1) ao1 q ∨ q = w4.heap.size + 1 + 1) (fun k _ h => .inl h))
    have hlt2 : (ks'.take ((pre.length + 1) % 2)).length ≤ 1 := by rw [List.length_take]; omega
    have hltM : (ks'.take ((pre.length + 1) % 2)).length ≤ M := by omega
    refine ⟨keepsFrom_only hOt ?_, fun hst => ⟨⟨_, _, _, _, HI2.out, by omega⟩, ?_⟩, ⟨_, HI2.out, HND'.out.sublist (List.take_sublist _ _), fun k hk => HKK'.out k (List.mem_of_mem_take hk), hltM, fun _ => hlt2⟩, ?_, HO.out.trans hOt⟩
    · rintro k hk (h | h)
      · have := (HF1.out k h).1; omega
      · omega
    · exact (hOt.block _ (Array.getElem?_eq_some_iff.1 hst.2).1 (by
        rintro (h | h)
        · exact ids_notfoot HI18.out bA8 (by decide) (by decide) h
        · omega)).trans hst.2
    · have e : ((pre ++ [x]).length : Int) = (pre.length : Int) + 1 := by simp
      rw [e]; exact HBN2.out
  case done =>
    rintro D1 ys WC hD1 ⟨hyl, hy0⟩ ⟨⟨ks', hI, -, -, -, hone⟩, hbN, hO⟩ hK1
    have hk1 : ks'.length ≤ 1 := hone (hy0 (by have := HM.out; omega))
    have hsC := hO.size
    have hnb : ∀ {q : Nat} {t : TypeId} {v : Value}, Boxed W8 q t v → t ≠ 9 → t ≠ 73 → q ≠ w4.heap.size + 1 + 1 → Boxed WC q t v := fun hb h1 h2 h3 => boxed_only hb hO (by
      rintro (h | h)
      · exact ids_notfoot HI18.out hb h1 h2 h
      · exact h3 h)
    have bX := hnb bX8 (by decide) (by decide) (by omega)
    have bY := hnb bY8 (by decide) (by decide) (by omega)
    have bB := hnb bB8 (by decide) (by decide) (by omega)
    have bM := hnb bM8 (by decide) (by decide) (by omega)
    have hI2 : StrIds (w2.heap.size + 1) WC (w2.heap.size + 1 + 1) (w2.heap.size + 1) n2 ao2 cap2 ks := HI28.out.only hO (by rintro (h | h); (have := (HF1.out _ h).1; omega); omega) (by rintro (h | h); (have := (HF1.out _ h).1; omega); omega) (fun a ha => by
      have h5 := HA2.out a ha
      have h6 := (HF2.out a.block (.inr (.inr ⟨a, ha, rfl⟩))).1
      rintro (h | h)
      · have := (HF1.out _ h).1; omega
      · omega)
    have hBC : Below w.heap.size w WC := HB8.out.trans (hO.below HB8.out.size (by
      rintro k hk (h | h)
      · have := (HF1.out _ h).2; omega
      · omega))
    clear hnb
    obtain ⟨WE, hWE⟩ : ∃ WE, WE = WC.setCell ⟨w4.heap.size + 1 + 1, 0, none⟩ (.int .i64 0) := ⟨_, rfl⟩
    have hOE : Only (fun q => q = w4.heap.size + 1 + 1) WC WE := by rw [hWE]; exact (Only.refl (fun q => q = w4.heap.size + 1 + 1) WC).setCell (p := ⟨w4.heap.size + 1 + 1, 0, none⟩) rfl _
    have bXE := boxed_only bX hOE (by omega)
    have bYE := boxed_only bY hOE (by omega)
    have bBE := boxed_only bB hOE (by omega)
    have bME := boxed_only bM hOE (by omega)
    have bNE : Boxed WE (w4.heap.size + 1 + 1) 3 (.int .i64 0) := by rw [hWE]; exact hbN.set _
    have hcN := hbN.cell
    have hfN := hbN.frozen
    have hcYE := bYE.cell
    have hsE : WE.heap.size = WC.heap.size := by rw [hWE]; simp [World.setCell]
    have hI1E : StrIds 0 WE (w.heap.size + 1 + 1) (w.heap.size + 1) n1 ao1 cap1 ks' := hI.only hOE (fun e => ids_notfoot hI hbN (by decide) (by decide) (.inl e.symm)) (fun e => ids_notfoot hI hbN (by decide) (by decide) (.inr (.inl e.symm))) (fun a ha e => ids_notfoot hI hbN (by decide) (by decide) (.inr (.inr ⟨a, ha, e.symm⟩)))
    have hI2E : StrIds (w2.heap.size + 1) WE (w2.heap.size + 1 + 1) (w2.heap.size + 1) n2 ao2 cap2 ks := hI2.only hOE (fun e => ids_notfoot hI2 hbN (by decide) (by decide) (.inl e.symm)) (fun e => ids_notfoot hI2 hbN (by decide) (by decide) (.inr (.inl e.symm))) (fun a ha e => ids_notfoot hI2 hbN (by decide) (by decide) (.inr (.inr ⟨a, ha, e.symm⟩)))
    have hBE : Below w.heap.size w WE := hBC.trans (hOE.below hBC.size (by omega))
    have hD1E : WE.heap[D1]? = some (.deferred (some [])) := (hOE.block D1 (Array.getElem?_eq_some_iff.1 hK1).1 (by omega)).trans hK1
    have HWE := hide hWE
    have HI1E := hide hI1E
    have HI2E := hide hI2E
    have HBE := hide hBE
    have HK1E := hide hD1E
    clear hWE hI1E hI2E hBE hD1E hI2 hBC hOE hI hK1 hO bX bY bB bM hbN hone hy0
    gi_upto_region 15 with fail
    rw [← HWE.out]
    have hW8E : W8.heap.size ≤ WE.heap.size := by omega
    have hD1l : D1 < WE.heap.size := (Array.getElem?_eq_some_iff.1 HK1E.out).1
    clear HWE hsE hcN hfN hsC bX8 bY8 bB8 bM8 bN8 bA8 HI18 HI28 HB8
    obtain ⟨WD, hWD⟩ : ∃ WD, WD = WE.alloc (.cells #[.pointer (some ⟨w2.heap.size + 1 + 1, 0, none⟩)] 26) := ⟨_, rfl⟩
    have hsD : WD.heap.size = WE.heap.size + 1 := by rw [hWD]; simp
    have hbD : Below WE.heap.size WE WD := by rw [hWD]; exact (Below.refl _ _).alloc (Nat.le_refl _) _
    have bAD : Boxed WD WE.heap.size 26 (.pointer (some ⟨w2.heap.size + 1 + 1, 0, none⟩)) := by rw [hWD]; exact Boxed.new _ _ _
    have bXD : Boxed WD w2.heap.size 26 (.pointer (some ⟨w.heap.size + 1 + 1, 0, none⟩)) := (hbD.block _ bXE.lt).trans bXE
    have bYD : Boxed WD w4.heap.size 26 (.pointer (some ⟨w2.heap.size + 1 + 1, 0, none⟩)) := (hbD.block _ bYE.lt).trans bYE
    have bBD : Boxed WD w.heap.size 4 (.bool false) := (hbD.block _ bBE.lt).trans bBE
    have bMD : Boxed WD (w4.heap.size + 1) 3 (.int .i64 M) := (hbD.block _ bME.lt).trans bME
    have bND : Boxed WD (w4.heap.size + 1 + 1) 3 (.int .i64 0) := (hbD.block _ bNE.lt).trans bNE
    have HI1D := hide (HI1E.out.grow hbD)
    have HI2D := hide (ids_base0 (HI2E.out.grow hbD))
    have HBD : Hid (Below w.heap.size w WD) := HBE.out.trans (hbD.mono HBE.out.size)
    have HK1D : Hid (WD.heap[D1]? = some (.deferred (some []))) := (hbD.block _ hD1l).trans HK1E.out
    have HWD := hide hWD
    clear hWD
    gi_wp2_with (refine ⟨trivial, ?_⟩; gi_at_call 48; refine (callsIn_wide.2 (allStr_any _ _)).mono ?_; rintro e w' ⟨rfl, rfl⟩)
    rw [← HWD.out]
    clear HWD hbD bXE bYE bBE bME bNE HI1E HI2E HBE HK1E hcYE
    have hm2D : w2.heap.size + 1 < WD.heap.size := by omega
    refine wpIn_rangeFunc_ownG rfl (by omega) (gf := 71) (lb := #[.pointer (some ⟨WE.heap.size, 0, none⟩)]) rfl trivial (enters_of Try.func71 (by kernel_rfl) rfl)
      (allTurn_stops 2 (by omega) WD HI2D.out (by have := HM.out; omega) bAD) kpS_t (kpS_b hm2D) (Below.refl _ _) (fun _ => rfl)
      (fun pre W => (∃ n' ao' cap' ks', StrIds 0 W (w2.heap.size + 1 + 1) (w2.heap.size + 1) n' ao' cap' ks' ∧ n' ≤ len + pre.length ∧ ks'.length ≤ M + pre.length ∧ (∀ a, ao' = some a → ao2 = some a ∨ WD.heap.size ≤ a.block)) ∧ (Boxed W (w4.heap.size + 1 + 1) 3 (.int .i64 pre.length) ∧ Only (fun q => foot (w2.heap.size + 1 + 1) (w2.heap.size + 1) ao2 q ∨ q = w4.heap.size + 1 + 1) WD W))
      (fun _ _ _ => False)
      (OwnFrom.and (fun s W W' row hs hg hr => by obtain ⟨n', ao', cap', ks', h1, h2⟩ := hs; exact ⟨n', ao', cap', ks', ids_ownFrom hm2D h1 hg hr, h2⟩) (OwnFrom.and (Own.from (boxed_own (w4.heap.size + 1 + 1) 3 (fun pre : List (Nat × ByteArray) => .int .i64 pre.length)) _) only_own0))
      (fun _ _ _ _ _ hs _ _ => hs)
      ⟨⟨n2, ao2, cap2, ks, HI2D.out, by omega, by have := HM.out; omega, fun a ha => .inl ha⟩, bND, Only.refl _ _⟩
      ?a2 ?assign2 ?body2 ?done2 ?stop2
    case assign2 =>
      intro l x W K hK
      dsimp only [encS2]
      gi_wp2
      exact hK
    case stop2 =>
      rintro D c pre W _ _ h _
      exact h.elim
    case body2 =>
      rintro l pre x W ⟨⟨n', ao', cap', ks2, hI, hn', hkl, hao⟩, hbN, hO⟩ hltp
      have hsW := hO.size
      have hnN := ids_notfoot hI hbN (by decide) (by decide)
      have hnb : ∀ {q : Nat} {t : TypeId} {v : Value}, Boxed WD q t v → t ≠ 9 → t ≠ 73 → q ≠ w4.heap.size + 1 + 1 → Boxed W q t v := fun hb h1 h2 h3 => boxed_only hb hO (by
        rintro (h | h)
        · exact ids_notfoot HI2D.out hb h1 h2 h
        · exact h3 h)
      have hbY := hnb bYD (by decide) (by decide) (by omega)
      have hbM := hnb bMD (by decide) (by decide) (by omega)
      have hbA := hnb bAD (by decide) (by decide) (by omega)
      have hnM := ids_notfoot hI hbM (by decide) (by decide)
      have hnA := ids_notfoot hI hbA (by decide) (by decide)
      have hcN := hbN.cell
      have hfN := hbN.frozen
      have hO1 : Only (fun q => q = w4.heap.size + 1 + 1) W (W.setCell ⟨w4.heap.size + 1 + 1, 0, none⟩ (.int .i64 ((pre.length : Int) + 1))) := (Only.refl (fun q => q = w4.heap.size + 1 + 1) W).setCell (p := ⟨w4.heap.size + 1 + 1, 0, none⟩) rfl _
      have hbN1 := hbN.set (.int .i64 ((pre.length : Int) + 1))
      have hI1 := hI.only hO1 (fun e => hnN (.inl e.symm)) (fun e => hnN (.inr (.inl e.symm))) (fun a ha e => hnN (.inr (.inr ⟨a, ha, e.symm⟩)))
      have hbY1 := boxed_only hbY hO1 (by omega)
      have hbM1 := boxed_only hbM hO1 (by omega)
      have hbA1 := boxed_only hbA hO1 (by omega)
      obtain ⟨W1, hW1⟩ : ∃ W1, W1 = W.setCell ⟨w4.heap.size + 1 + 1, 0, none⟩ (.int .i64 ((pre.length : Int) + 1)) := ⟨_, rfl⟩
      have hs1 : W1.heap.size = W.heap.size := by rw [hW1]; simp [World.setCell]
      rw [← hW1] at hO1 hbN1 hI1 hbY1 hbM1 hbA1
      have HW1 := hide hW1
      have HS1 := hide hs1
      clear hs1
      have hconv : ∀ x y z : Int, (convert 100 9 (.slice (some ⟨W1.heap.size, 0, none⟩) 3 3)).run Try.prog (W1.alloc (.cells #[.int .u8 x, .int .u8 y, .int .u8 z] 5)) = .ok (.string (strOf [x, y, z])) (W1.alloc (.cells #[.int .u8 x, .int .u8 y, .int .u8 z] 5)) := fun x y z => lit_string W1 [x, y, z] 3 rfl
      have hcY1 := hbY1.cell
      have hcN1 := hbN1.cell
      have hle2 : (pre.length : Int) + 1 ≤ (M : Int) := by have := HM.out; omega
      have HC : Hid (∀ V, Below W1.heap.size W1 V → ∀ k : ByteArray, k.size ≤ maxLen → Calls Try.prog 28 #[.pointer (some ⟨w2.heap.size + 1 + 1, 0, none⟩), .string k] V fun e w' => ∃ i, e = .returned (.int .i64 i) ∧ ∃ n'' ao'' cap'' ks'', StrIds 0 w' (w2.heap.size + 1 + 1) (w2.heap.size + 1) n'' ao'' cap'' ks'' ∧ n'' ≤ n' + 1 ∧ ks''.length ≤ ks2.length + 1 ∧ Only (foot (w2.heap.size + 1 + 1) (w2.heap.size + 1) ao') V w' ∧ (∀ a, ao'' = some a → ao' = some a ∨ V.heap.size ≤ a.block)) := fun V hV k hk => internStr_any (hI1.grow hV) (Nat.zero_le _) hk (by omega) (by omega)
      have HBN1 := hide hbN1
      have HBM1 := hide hbM1
      have HBA1 := hide hbA1
      have HO1 := hide hO1
      have HI1 := hide hI1
      have HO := hide hO
      have HAO := hide hao
      have HIW := hide hI
      clear hW1 hbY hbM hbN hbA hO hI hI1 hO1 hbN1 hbY1 hbM1 hbA1 hao hnb
      gi_upto_region 17 with fail
      rw [← HW1.out]
      clear HW1 hcN hfN
      gi_wp2_with (refine ⟨trivial, ?_⟩; gi_at_call 28; refine (callsIn_wide.2 (HC.out _ ((Below.refl _ _).alloc (Nat.le_refl _) _) _ (by rw [ByteArray.size_append, strOf_size]; exact (by decide : 4 + 3 ≤ maxLen)))).mono ?_; rintro e W2 ⟨i, rfl, n3, ao3, cap3, ks3, hI3, hn3, hk3, hO3, hA3⟩; have hOa := (Only.of_below ((Below.refl _ W1).alloc (Nat.le_refl _) _) (foot (w2.heap.size + 1 + 1) (w2.heap.size + 1) ao')).trans hO3; have hbN2 := boxed_only HBN1.out hOa hnN; have hbM2 := boxed_only HBM1.out hOa hnM; have hcN2 := hbN2.cell; have hcM2 := hbM2.cell; have HI3 := hide hI3; have HOA := hide hOa; have HA3 := hide hA3; have HBN2 := hide hbN2; clear hI3 hOa hO3 hA3 hbN2 hbM2 hcN1 hcY1)
      have hA4 : ∀ a, ao3 = some a → ao2 = some a ∨ WD.heap.size ≤ a.block := fun a ha => by
        rcases HA3.out a ha with h | h
        · exact HAO.out a h
        · rw [World.size_alloc] at h
          have := HS1.out
          exact .inr (by omega)
      have hOt : Only (fun q => foot (w2.heap.size + 1 + 1) (w2.heap.size + 1) ao' q ∨ q = w4.heap.size + 1 + 1) W W2 := (HO1.out.mono (fun k _ h => .inr h)).trans (HOA.out.mono (fun k _ h => .inl h))
      have e1 : (pre ++ [x]).length = pre.length + 1 := by simp
      have e2 : ((pre ++ [x]).length : Int) = (pre.length : Int) + 1 := by simp
      refine ⟨keepsFrom_only hOt ?_, fun hst => ⟨⟨_, _, _, _, HI3.out, by omega⟩, ?_⟩, ⟨n3, ao3, cap3, ks3, HI3.out, by omega, by omega, hA4⟩, by rw [e2]; exact HBN2.out, only_trans2 HO.out hOt ?_⟩
      · rintro k hk (h | h)
        · exact ids_cells HIW.out h (by omega)
        · omega
      · exact (hOt.block _ (Array.getElem?_eq_some_iff.1 hst.2).1 (by
          rintro (h | h)
          · exact hnA h
          · omega)).trans hst.2
      · rintro q hq ((h | h | ⟨a, ha, h⟩) | h)
        · exact .inl (.inl h)
        · exact .inl (.inr (.inl h))
        · rcases HAO.out a ha with h4 | h4
          · exact .inl (.inr (.inr ⟨a, h4, h⟩))
          · omega
        · exact .inr h
    case done2 =>
      rintro D ys2 W hD - ⟨-, hbN, hO⟩ hK
      have hnb : ∀ {q : Nat} {t : TypeId} {v : Value}, Boxed WD q t v → t ≠ 9 → t ≠ 73 → q ≠ w4.heap.size + 1 + 1 → Boxed W q t v := fun hb h1 h2 h3 => boxed_only hb hO (by
        rintro (h | h)
        · exact ids_notfoot HI2D.out hb h1 h2 h
        · exact h3 h)
      have bX := hnb bXD (by decide) (by decide) (by omega)
      have bB := hnb bBD (by decide) (by decide) (by omega)
      have hI : StrIds 0 W (w.heap.size + 1 + 1) (w.heap.size + 1) n1 ao1 cap1 ks' := HI1D.out.only hO (by
          rintro (h | h)
          · have := (HF2.out _ h).2; have := (HF1.out _ (.inl rfl)).1; omega
          · exact ids_notfoot HI1D.out bND (by decide) (by decide) (.inl h.symm)) (by
          rintro (h | h)
          · have := (HF2.out _ h).2; have := (HF1.out _ (.inr (.inl rfl))).1; omega
          · exact ids_notfoot HI1D.out bND (by decide) (by decide) (.inr (.inl h.symm))) (fun a ha => by
          rintro (h | h)
          · have := (HF2.out _ h).2; have := (HF1.out _ (.inr (.inr ⟨a, ha, rfl⟩))).1; omega
          · exact ids_notfoot HI1D.out bND (by decide) (by decide) (.inr (.inr ⟨a, ha, h.symm⟩)))
      have HBW : Hid (Below w.heap.size w W) := HBD.out.trans (hO.below HBD.out.size (by
        rintro k hk (h | h)
        · have := (HF2.out _ h).2; omega
        · omega))
      have hK1 : W.heap[D1]? = some (.deferred (some [])) := (hO.block D1 (by omega) (by
        rintro (h | h)
        · have := (HF2.out _ h).1; omega
        · omega)).trans HK1D.out
      have HLn := lenStr_any hI
      obtain ⟨L, hL⟩ : ∃ L, L = ks'.length := ⟨_, rfl⟩
      rw [← hL] at HLn hk1
      replace HLn := hide HLn
      have hL1 : (L : Int) ≤ 1 := by omega
      have hcX := bX.cell
      have hcB := bB.cell
      have hfB := bB.frozen
      have HBB := hide bB
      have HK := hide hK
      have HK1 := hide hK1
      clear hnb hI hK hK1 hO hL bX bB hbN
      gi_wp2_with (refine ⟨trivial, ?_⟩; gi_at_call 21; refine (callsIn_wide.2 HLn.out).mono ?_; rintro e w' ⟨rfl, hw'⟩; have hw' := hw'.symm; subst hw')
      have hB1 : Below w.heap.size w (W.setCell ⟨w.heap.size, 0, none⟩ (.bool true)) := HBW.out.trans ((Below.refl _ W).setCell (p := ⟨w.heap.size, 0, none⟩) (Nat.le_refl _) _)
      have hbb := HBB.out.set (.bool true)
      have hKs : (W.setCell ⟨w.heap.size, 0, none⟩ (.bool true)).heap[D]? = some (.deferred (some [])) := (Below.heap_setCell _ _ _ _ (by simp only; omega)).trans HK.out
      have hK1s : (W.setCell ⟨w.heap.size, 0, none⟩ (.bool true)).heap[D1]? = some (.deferred (some [])) := (Below.heap_setCell _ _ _ _ (by simp only; omega)).trans HK1.out
      generalize W.setCell ⟨w.heap.size, 0, none⟩ (.bool true) = WF at *
      have hK1p : (WF.putObj D (.deferred none)).heap[D1]? = some (.deferred (some [])) := by
        rw [World.putObj_heap_other (by omega)]; exact hK1s
      have hb2 : Boxed (WF.putObj D (.deferred none)) w.heap.size 4 (.bool true) := (World.putObj_heap_other (by omega)).trans hbb
      have hb3 : Boxed ((WF.putObj D (.deferred none)).putObj D1 (.deferred none)) w.heap.size 4 (.bool true) := (World.putObj_heap_other (by omega)).trans hb2
      have hc3 := hb3.cell
      have hBel : Below w.heap.size w ((WF.putObj D (.deferred none)).putObj D1 (.deferred none)) := (hB1.trans (belowK_b (w := w) (Nat.le_refl _) _ D _ _ (by omega) hKs rfl rfl)).trans (belowK_b (w := w) (Nat.le_refl _) _ D1 _ _ (by omega) hK1p rfl rfl)
      refine ⟨by simp, .inl ⟨_, _, rfl, run_takeDeferred hKs, ?_⟩⟩
      refine ⟨by simp, .inl ⟨_, _, rfl, run_takeDeferred hK1p, ?_⟩⟩
      exact ⟨.bool true, by simp [results, Try.results20, go_sem, hc3], rfl, hBel⟩
end Go.Proofs.Ythhoiejjejdffaa
