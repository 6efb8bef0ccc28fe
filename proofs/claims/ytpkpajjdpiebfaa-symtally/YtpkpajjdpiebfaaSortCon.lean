/- sym.Sort, at every list: a new list, in order, a permutation of what came; nothing that was there is changed. -/
import Derived.Test.YtpkpajjdpiebfaaProg
import Derived.Test.YtpkpajjdpiebfaaCmp
import Derived.Test.YtpkpajjdpiebfaaMergePure
import Derived.Test.YtpkpajjdpiebfaaBlocks
import Derived.Test.YtpkpajjdpiebfaaSortMem
import Derived.Test.YtpkpajjdpiebfaaSortLay
import Derived.Lib.SlBuf
namespace Go.Proofs.Ytpkpajjdpiebfaa
set_option linter.unusedSimpArgs false
set_option linter.unusedVariables false
open Go.RowKit Go.Sort Go.Proofs

instance : Inhabited Con := ⟨⟨0, 0, ByteArray.empty⟩⟩

theorem compare_laid (a b : Con) (w : World) :
    Calls Try.prog 11 #[a.val, b.val] w fun e w' => e = .returned (.int .i64 (cmpC a b)) ∧ ∃ q os', w' = grow (w.drewN q) os' := by
  obtain ⟨k, n, s⟩ := a
  obtain ⟨k', n', s'⟩ := b
  unfold Con.val
  by_cases h1 : (k == k') = true
  · have e1 : (k != k') = false := by simpa using h1
    by_cases h2 : (n == n') = true
    · have e2 : (n != n') = false := by simpa using h2
      go_enter Try.func11, Try.ntmps11
      go_wp2_with (go_at_call 21; refine (cmpStr_any _ _ _).mono ?_; rintro e w' ⟨rfl, rfl⟩)
      go_ret
      exact ⟨by simp only [cmpC, h1, h2]; rfl, 0, _, by rw [alloc_eq_grow, alloc_eq_grow, grow_grow]; rfl⟩
    · have h2' : (n == n') = false := by simpa using h2
      have e2 : (n != n') = true := by simpa using h2
      go_enter Try.func11, Try.ntmps11
      go_wp2_with (go_at_call 20; refine (cmpInt64_any _ _ _).mono ?_; rintro e w' ⟨rfl, rfl⟩)
      go_ret
      exact ⟨by simp only [cmpC, h1, h2']; rfl, 0, _, by rw [alloc_eq_grow, alloc_eq_grow, grow_grow]; rfl⟩
  · have h1' : (k == k') = false := by simpa using h1
    have e1 : (k != k') = true := by simpa using h1
    go_enter Try.func11, Try.ntmps11
    go_wp2_with (go_at_call 19; refine (cmpInt_any _ _ _).mono ?_; rintro e w' ⟨rfl, rfl⟩)
    go_ret
    exact ⟨by simp only [cmpC, h1']; rfl, 0, _, by rw [alloc_eq_grow, alloc_eq_grow, grow_grow]; rfl⟩

theorem compare_lays (blk off size : Nat) (w : World) : CmpLays Try.prog 11 #[] cells3 3 cmpC blk off size w :=
  fun _ _ _ _ x y => compare_laid x y _

theorem cmpC_swo : SWO (ltOf cmpC) where
  irrefl x := by unfold ltOf; rw [cmpC_refl]; rfl
  trans x y z h k := by
    unfold ltOf at *
    simp only [decide_eq_true_eq] at *
    have h1 := cmpC_trans x y z (by omega) (by omega)
    have h2 := cmpC_anti x z
    rcases Int.lt_or_le (cmpC x z) 0 with h3 | h3
    · exact h3
    · have h4 : cmpC z x ≤ 0 := by omega
      have h5 := cmpC_trans z x y h4 (by omega)
      have h6 := cmpC_anti y z
      omega
  ntrans x y z h k := by
    unfold ltOf at *
    simp only [decide_eq_false_iff_not] at *
    have h1 := cmpC_anti x y
    have h2 := cmpC_anti y z
    have h3 := cmpC_anti x z
    have := cmpC_trans z y x (by omega) (by omega)
    omega

theorem cmpC_total (x y : Con) (h : ltOf cmpC x y = false) (k : ltOf cmpC y x = false) : x = y := by
  unfold ltOf at *
  simp only [decide_eq_false_iff_not] at *
  have h1 := cmpC_anti x y
  obtain ⟨a, b, c⟩ := (cmpC_zero x y).1 (by omega)
  obtain ⟨k1, n1, s1⟩ := x
  obtain ⟨k2, n2, s2⟩ := y
  simp only at a b c
  rw [a, b, toList_inj c]

theorem mergeSort_srt (cs : List Con) : Srt (cs.mergeSort fun x y => !(ltOf cmpC) y x) := by
  have h := List.pairwise_mergeSort (le := fun x y => !(ltOf cmpC) y x) (fun a b c h k => by
    simp only [Bool.not_eq_true'] at *
    exact cmpC_swo.ntrans _ _ _ k h) (fun a b => by
    cases h : ltOf cmpC b a with
    | false => rfl
    | true =>
      simp only [Bool.not_true, Bool.false_or, Bool.not_eq_true']
      cases k : ltOf cmpC a b with
      | false => rfl
      | true => have := cmpC_swo.trans _ _ _ h k; rw [cmpC_swo.irrefl] at this; cases this) cs
  refine List.Pairwise.imp ?_ h
  intro a b hab
  unfold leC
  unfold ltOf at hab
  simp only [Bool.not_eq_true', decide_eq_false_iff_not] at hab
  simp only [decide_eq_true_eq]
  have := cmpC_anti a b
  omega

theorem sortFunc_any (blk cap : Nat) (cs : List Con) (w : World) (hH : HoldsK cells3 3 w blk 0 cs.toArray) (hblk : blk < w.heap.size) (hsz : cs.length < 4611686018427387904) :
    Calls Try.prog 10 #[.slice (some ⟨blk, 0, none⟩) cs.length cap, .func (.func 11) #[] #[]] w fun e w' =>
      e = .returned (.tuple #[]) ∧ ∃ n os, w' = sortWorldK cells3 3 w blk 0 n (cs.mergeSort fun x y => !(ltOf cmpC) y x).toArray os := by
  have eg : ∀ args w, (callFunc 11 args).run Try.prog w = .ok (.enter 11 args) w := enters_of Try.func11 (by kernel_rfl) rfl
  have := AnyQ.slices_SortFunc_total Try.sortCon 3 Try.isAgg24 Try.sizeOf24 cells3 (fun _ => rfl) (fun x v hv => by simp [cells3] at hv; rcases hv with rfl | rfl | rfl <;> rfl) cmpC cmpC_swo 11 #[] blk 0 cap cs.toArray w eg (compare_lays blk 0 _ w) hH hblk (by simpa using hsz) cmpC_total
  simp only [List.size_toArray, List.toList_toArray] at this
  exact this

theorem flat3_len (cs : List Con) : (cs.flatMap cells3).length = cs.length * 3 := by
  induction cs with
  | nil => rfl
  | cons c r ih => rw [List.flatMap_cons, List.length_append, ih]; show 3 + _ = _; simp; omega

theorem flat3_one (cs : List Con) : ∀ v ∈ cs.flatMap cells3, v.oneCell' = true := by
  intro v hv
  obtain ⟨c, _, hc⟩ := List.mem_flatMap.1 hv
  simp [cells3] at hc
  rcases hc with rfl | rfl | rfl <;> rfl

theorem flat3_src {w : World} {b off : Nat} {cs : List Con} (h : conRow w b off cs) : ∀ j v, (cs.flatMap cells3)[j]? = some v → w.cell? ((⟨b, off, none⟩ : Addr).add j) = some v := by
  intro j v hv
  rw [flat_get cells3 3 (fun _ => rfl) (by omega)] at hv
  obtain ⟨c, hc, hv⟩ := Option.bind_eq_some_iff.1 hv
  obtain ⟨h1, h2, h3⟩ := h _ c hc
  rw [addr_add]
  have hj := Nat.div_add_mod j 3
  have hm := Nat.mod_lt j (show 0 < 3 by omega)
  rcases (show j % 3 = 0 ∨ j % 3 = 1 ∨ j % 3 = 2 by omega) with e | e | e
  · rw [e] at hv hj; rw [show off + j = off + j / 3 * 3 by omega]
    have : v = .int .i64 c.k := by simpa [cells3] using hv.symm
    rw [this]; exact h1
  · rw [e] at hv hj; rw [show off + j = off + j / 3 * 3 + 1 by omega]
    have : v = .int .i64 c.n := by simpa [cells3] using hv.symm
    rw [this]; exact h2
  · rw [e] at hv hj; rw [show off + j = off + j / 3 * 3 + 2 by omega]
    have : v = .string c.s := by simpa [cells3] using hv.symm
    rw [this]; exact h3

theorem own_there {w : World} {base g n cap : Nat} {e : TypeId} {xs : List Value} (h : w.ownsRow base e 3 (.slice (some ⟨g, 0, none⟩) n cap) n xs) : ∀ j, j < n * 3 → (w.cell? ⟨g, 0 + j, none⟩).isSome = true ∧ w.frozen? ⟨g, 0 + j, none⟩ = false := by
  rcases h.2 with ⟨h', _⟩ | ⟨g', cap', cur, hs, hbase, hb, h1, h2, h3, h4⟩
  · cases h'
  cases hs
  intro j hj
  refine ⟨?_, by simp [World.frozen?, hb]⟩
  simp only [World.cell?, hb, Nat.zero_add]
  simp only [Option.isSome_none, Bool.false_eq_true, if_false]
  have : j < cur.size := by rw [h3]; exact Nat.lt_of_lt_of_le hj (Nat.mul_le_mul_right _ h1)
  rw [Array.getElem?_eq_getElem this]; rfl

/-- The copy of Sort: behind it the new row holds what came. -/
theorem copy_cons {w w1 : World} {ao : Option Addr} {len cap g : Nat} {cs : List Con} {xs : List Value} (h : IsCons w ao len cs) (hb : Below w.heap.size w w1)
    (hown : w1.ownsRow w.heap.size 24 3 (.slice (some ⟨g, 0, none⟩) len len) len xs) :
    ∃ w2, (Builtin.copy_ #[22, 22] 3 #[.slice (some ⟨g, 0, none⟩) len len, .slice ao len cap]).run Try.prog w1 = .ok (goInt len) w2 ∧
      Holds3 w.heap.size w2 (.slice (some ⟨g, 0, none⟩) len len) cs ∧ Below w.heap.size w w2 := by
  have hi : (Try.prog.info? 24).map (·.size) = some 3 := by
    obtain ⟨i0, hi0, hz0, hz1, hz2⟩ := info_parts Try.info3
    rw [hi0]; exact congrArg some hz1
  obtain ⟨h1, h2, h3, h4⟩ := h
  by_cases h0 : len = 0
  · subst h0
    obtain rfl : cs = [] := List.length_eq_zero_iff.1 h1
    refine ⟨w1, run_copy_zero w1 _ _ _ 24 3 _ _ _ _ _ _ Try.underlying22 hi rfl, ?_, hb⟩
    have hx : xs = [] := List.length_eq_zero_iff.1 (by rw [hown.1])
    rw [hx] at hown
    exact hown
  · obtain ⟨b, off, rfl, hrow⟩ := h4 (by omega)
    have hrow1 : conRow w1 b off cs := fun i c hc => conAt_kept (hrow i c hc) hb
    have hg : w.heap.size ≤ g := by
      rcases hown.2 with ⟨h', _⟩ | ⟨g', cap', cur, hs, hbase, hb, h1, h2, h3, h4⟩
      · cases h'
      · cases hs; exact hbase
    have ht := own_there hown
    refine ⟨w1.setCells g 0 (cs.flatMap cells3), ?_, ?_, ?_⟩
    · have := run_copy_many (P := Try.prog) w1 22 22 3 24 3 g 0 len len ⟨b, off, none⟩ len cap (cs.flatMap cells3) Try.underlying22 hi (by rw [flat3_len, h1]; simp) (flat3_src hrow1)
        (fun j hj => (ht j (by rw [flat3_len, h1] at hj; exact hj)).1) (fun j hj => (ht j (by rw [flat3_len, h1] at hj; exact hj)).2) (flat3_one cs)
      rw [show Nat.min len len = len from Nat.min_self len] at this
      exact this
    · show World.ownsRow _ _ _ _ _ cs.length _
      rw [h1]
      exact own_setCells hown (by rw [flat3_len, h1])
    · exact Lib.below_setCells g hg _ _ hb

set_option maxHeartbeats 1000000 in
theorem sort_at (ao : Option Addr) (len cap : Nat) (cs : List Con) (w : World) (h : IsCons w ao len cs) :
    Calls Try.prog 5 #[.slice ao len cap] w fun e w' => ∃ L, e = .returned (.slice (some ⟨w.heap.size, 0, none⟩) len len) ∧ Holds3 w.heap.size w' (.slice (some ⟨w.heap.size, 0, none⟩) len len) L ∧ Srt L ∧ L.Perm cs ∧ Below w.heap.size w w' := by
  obtain ⟨i0, hi0, hz0, hz1, hz2⟩ := info_parts Try.info3
  have hlen := h.2.1
  have HC := hide h
  have h1 := hide h.1
  clear h
  go_enter Try.func5, Try.ntmps5
  go_wp2_with (at_make; refine wpList_make_full _ rfl _ _ 22 rfl w.heap.size 24 i0 (.agg #[.int .i64 0, .int .i64 0, .string ⟨#[]⟩]) 3 Try.underlying22 hi0 hz0 hz1 _ _ _ _ len rfl rfl rfl rfl (by rw [hz2]; omega) (by unfold maxLen; omega) (Nat.le_refl _) ?_)
  intro w1 hown hgrow
  have hb1 : Below w.heap.size w w1 := (Below.refl _ _).grown hgrow (Nat.le_refl _) (by simp)
  obtain ⟨w2, hcopy, hH2, hb2⟩ := copy_cons (cap := cap) HC.out hb1 hown
  clear hown hgrow hb1
  unfold Holds3 at hH2
  rw [h1.out] at hH2
  obtain ⟨hK, hlt⟩ := own_holdsK cells3 3 (fun _ => rfl) (by omega) hH2 h1.out
  have HS := sortFunc_any w.heap.size len cs w2 hK hlt (by rw [h1.out]; omega)
  rw [h1.out] at HS
  replace HS := hide HS
  have HH := hide hH2
  have HB := hide hb2
  clear hH2 hb2 hK
  go_wp2_with (first
    | (go_at_call 10; refine HS.out.mono ?_; rintro e w3 ⟨rfl, m, os, hw3⟩))
  go_ret
  refine ⟨cs.mergeSort fun x y => !(ltOf cmpC) y x, rfl, ?_, mergeSort_srt cs, List.mergeSort_perm _ _, ?_⟩
  · have := own_sorted (m := m) (os := os) (l := cs.mergeSort fun x y => !(ltOf cmpC) y x) cells3 3 (fun _ => rfl) (by omega) HH.out (by rw [List.length_mergeSort, h1.out])
    show World.ownsRow _ _ _ _ _ (cs.mergeSort fun x y => !(ltOf cmpC) y x).length _
    rw [List.length_mergeSort, h1.out]
    exact this
  · exact below_sorted cells3 3 HB.out HB.out.size (Nat.le_refl _)

theorem sort_any (ao : Option Addr) (len cap : Nat) (cs : List Con) (w : World) (h : IsCons w ao len cs) :
    Calls Try.prog 5 #[.slice ao len cap] w fun e w' => ∃ v L, e = .returned v ∧ Holds3 w.heap.size w' v L ∧ Srt L ∧ L.Perm cs ∧ Below w.heap.size w w' :=
  (sort_at ao len cap cs w h).mono fun e w' ⟨L, he, h⟩ => ⟨_, L, he, h⟩

end Go.Proofs.Ytpkpajjdpiebfaa
