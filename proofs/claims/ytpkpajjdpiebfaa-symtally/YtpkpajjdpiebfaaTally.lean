/- edictlaw01's ahead and times. -/
import Derived.Test.YtpkpajjdpiebfaaProg
import Derived.Test.YtpkpajjdpiebfaaConEq
import Derived.Test.YtpkpajjdpiebfaaSortCon
namespace Go.Proofs.Ytpkpajjdpiebfaa
set_option linter.unusedSimpArgs false
set_option linter.unusedVariables false
open Go.RowKit

def aheadB (a b : Con) : Bool := if a.k = b.k then (if a.n = b.n then Op.bytesLess a.s.toList b.s.toList else decide (a.n < b.n)) else decide (a.k < b.k)

theorem ahead_any (a b : Con) (w : World) :
    Calls Try.prog 12 #[a.val, b.val] w fun e w' => e = .returned (.bool (aheadB a b)) ∧ Below w.heap.size w w' := by
  obtain ⟨k, n, s⟩ := a
  obtain ⟨k', n', s'⟩ := b
  unfold Con.val
  by_cases h1 : k = k'
  · have e1 : (k != k') = false := by simpa using h1
    by_cases h2 : n = n'
    · have e2 : (n != n') = false := by simpa using h2
      have HX : Hid (aheadB ⟨k, n, s⟩ ⟨k', n', s'⟩ = Op.bytesLess s.toList s'.toList) := by show aheadB _ _ = _; unfold aheadB; rw [if_pos h1, if_pos h2]
      rw [HX.out]
      clear h1 h2 HX
      go_enter Try.func12, Try.ntmps12
      go_wp2
      go_ret
      exact ⟨rfl, ((Below.refl _ _).alloc (Nat.le_refl _) _).alloc (by simp) _⟩
    · have e2 : (n != n') = true := by simpa using h2
      have HX : Hid (aheadB ⟨k, n, s⟩ ⟨k', n', s'⟩ = decide (n < n')) := by show aheadB _ _ = _; unfold aheadB; rw [if_pos h1, if_neg h2]
      rw [HX.out]
      clear h1 h2 HX
      go_enter Try.func12, Try.ntmps12
      go_wp2
      go_ret
      exact ⟨rfl, ((Below.refl _ _).alloc (Nat.le_refl _) _).alloc (by simp) _⟩
  · have e1 : (k != k') = true := by simpa using h1
    have HX : Hid (aheadB ⟨k, n, s⟩ ⟨k', n', s'⟩ = decide (k < k')) := by show aheadB _ _ = _; unfold aheadB; rw [if_neg h1]
    rw [HX.out]
    clear h1 HX
    go_enter Try.func12, Try.ntmps12
    go_wp2
    go_ret
    exact ⟨rfl, ((Below.refl _ _).alloc (Nat.le_refl _) _).alloc (by simp) _⟩

def timesC (c : Con) (cs : List Con) : Nat := cs.countP (fun x => conEq x c)

set_option maxHeartbeats 1000000 in
theorem times_any (ao : Option Addr) (len cap : Nat) (cs : List Con) (c : Con) (w : World) (h : IsCons w ao len cs) (hl : len ≤ 140737488351232) :
    Calls Try.prog 13 #[.slice ao len cap, c.val] w fun e w' => e = .returned (.int .i64 (timesC c cs : Int)) ∧ Below w.heap.size w w' := by
  obtain ⟨hlen, hrow⟩ := h
  have HR := hide hrow
  have HN := hide hlen
  clear hrow hlen
  unfold Con.val
  go_enter Try.func13, Try.ntmps13
  go_wp2
  go_loopw [5, 6] (fun n i wr => ∃ (k t : Nat), k ≤ len ∧ t ≤ k ∧ i = .int .i64 k ∧ n = .int .i64 t ∧ Hid (timesC c (cs.take k) = t) ∧ Hid (Below (w.alloc (.cells #[.int .i64 c.k, .int .i64 c.n, .string c.s] 24)).heap.size (w.alloc (.cells #[.int .i64 c.k, .int .i64 c.n, .string c.s] 24)) wr)) (fun _ i _ => len - (intOf i).toNat)
  case atStart => exact ⟨0, 0, by omega, by omega, rfl, rfl, rfl, Below.refl _ _⟩
  case round =>
    obtain ⟨k, t, hk, htk, rfl, rfl, HT, HB⟩ := hrel
    by_cases hlt : k < len
    · have hi : (k : Int) < (len : Int) := by omega
      obtain ⟨b, off, rfl, hr⟩ := HR.out.2.2 (by omega)
      obtain ⟨x, hx⟩ : ∃ x, cs[k]? = some x := ⟨_, List.getElem?_eq_getElem (by have := HN.out; omega)⟩
      have hb : Below w.heap.size w wr := ((Below.refl _ _).alloc (Nat.le_refl _) _).trans (HB.out.mono (by simp))
      obtain ⟨x0, x1, x2⟩ := conAt_kept (hr k x hx) hb
      obtain ⟨y0, y1, y2⟩ := conAt_kept (conAt_new w c 24) HB.out
      have hq := eqCon x c
      have HTk : Hid (timesC c (cs.take (k + 1)) = t + (if conEq x c then 1 else 0)) := by
        show timesC c _ = _
        rw [List.take_add_one, hx, ← HT.out]
        unfold timesC
        rw [Option.toList_some, List.countP_append, List.countP_singleton]
      have HBW := HB
      clear hr hx HT hb HB
      go_wp2
      refine wp_region_over (fun W => Below (w.alloc (.cells #[.int .i64 c.k, .int .i64 c.n, .string c.s] 24)).heap.size (w.alloc (.cells #[.int .i64 c.k, .int .i64 c.n, .string c.s] 24)) W ∧ W = wr) (by kernel_rfl) (by kernel_rfl) ⟨HBW.out, rfl⟩ ?_
      rintro W ⟨hW, rfl⟩
      have x0' := over_cell x0
      have x1' := over_cell x1
      have x2' := over_cell x2
      have y0' := over_cell y0
      have y1' := over_cell y1
      have y2' := over_cell y2
      clear x0 x1 x2 y0 y1 y2
      repeat (go_big_quiet_step (first | fail))
      refine wpQuiet_nil ?_
      rintro _ ⟨z, rfl⟩
      have HB3 := hide (hW.trans ((over_below W z).mono hW.size))
      clear x0' x1' x2' y0' y1' y2' hW
      cases hc : conEq x c with
      | true =>
        rw [hc] at HTk
        go_wp2
        go_roundw
        case rel => exact ⟨k + 1, t + 1, by omega, by omega, by go_num, by go_num, HTk, HB3⟩
        case measure => simp [intOf]; omega
      | false =>
        rw [hc] at HTk
        go_wp2
        go_roundw
        case rel => exact ⟨k + 1, t, by omega, by omega, by go_num, rfl, HTk, HB3⟩
        case measure => simp [intOf]; omega
    · obtain rfl : k = len := by omega
      have hi : ¬ (k : Int) < (k : Int) := by omega
      have HX : Hid (timesC c cs = t) := by
        show timesC c cs = t
        rw [← HT.out, List.take_of_length_le (by rw [HN.out]; exact Nat.le_refl _)]
      go_wp2
      go_ret
      exact ⟨by rw [HX.out]; rfl, ((Below.refl _ _).alloc (Nat.le_refl _) _).trans (HB.out.mono (by simp))⟩

set_option maxHeartbeats 2000000 in
set_option maxRecDepth 100000 in
theorem told_any (a1 a2 : Option Addr) (n c1 c2 : Nat) (ls cs : List Con) (w : World) (h1 : IsCons w a1 n ls) (h2 : IsCons w a2 n cs) (hs : ∀ i x y, ls[i]? = some x → ls[i + 1]? = some y → aheadB y x = false) (ht : ∀ x ∈ ls, timesC x ls = timesC x cs) :
    Calls Try.prog 6 #[.slice a1 n c1, .slice a2 n c2] w fun e w' => e = .returned (.bool true) ∧ Below w.heap.size w w' := by
  have H1 := hide h1
  have H2 := hide h2
  have HS := hide hs
  have HT := hide ht
  have hn : n ≤ 140737488351232 := by have := h1.2.1; omega
  clear h1 h2 hs ht
  go_enter Try.func6, Try.ntmps6
  go_wp2
  go_loopw [5] (fun i wr => ∃ k : Nat, k ≤ n ∧ i = .int .i64 k ∧ Hid (Below w.heap.size w wr)) (fun i _ => n - (intOf i).toNat)
  case atStart => exact ⟨0, Nat.zero_le _, rfl, Below.refl _ _⟩
  case round =>
    obtain ⟨k, hk, rfl, HB⟩ := hrel
    by_cases hlt : k < n
    · have hi : (k : Int) < (n : Int) := by omega
      obtain ⟨hlen, -, -, hrow⟩ := H1.out
      obtain ⟨b, off, rfl, hr⟩ := hrow (by omega)
      obtain ⟨x, hx⟩ : ∃ x, ls[k]? = some x := ⟨_, List.getElem?_eq_getElem (by omega)⟩
      obtain ⟨x0, x1, x2⟩ := conAt_kept (hr k x hx) HB.out
      have hT := HT.out x (List.mem_of_getElem? hx)
      have HT1 : Hid (∀ z, Calls Try.prog 13 #[.slice (some ⟨b, off, none⟩) n c1, .agg #[.int .i64 x.k, .int .i64 x.n, .string x.s]] (over wr z) fun e w' => e = .returned (.int .i64 (timesC x cs : Int)) ∧ Below (over wr z).heap.size (over wr z) w') := fun z => by
        rw [← hT]; exact times_any _ n c1 ls x _ ((H1.out.kept HB.out).kept (over_below _ z)) hn
      have HT2 : Hid (∀ z, Calls Try.prog 13 #[.slice a2 n c2, .agg #[.int .i64 x.k, .int .i64 x.n, .string x.s]] (over wr z) fun e w' => e = .returned (.int .i64 (timesC x cs : Int)) ∧ Below (over wr z).heap.size (over wr z) w') := fun z =>
        times_any _ n c2 cs x _ ((H2.out.kept HB.out).kept (over_below _ z)) hn
      have HTo : Hid (∀ v z, (v = .slice (some ⟨b, off, none⟩) n c1 ∨ v = .slice a2 n c2) → Calls Try.prog 13 #[v, .agg #[.int .i64 x.k, .int .i64 x.n, .string x.s]] (over wr z) fun e w' => e = .returned (.int .i64 (timesC x cs : Int)) ∧ Below (over wr z).heap.size (over wr z) w') := by
        rintro v z (rfl | rfl)
        · exact HT1.out z
        · exact HT2.out z
      clear HT1 HT2
      by_cases hk0 : k = 0
      · subst hk0
        rw [show off + 0 * 3 = off from by omega] at x0 x1 x2
        clear hr hx hT hlen hrow hi
        have hi : (0 : Int) < (n : Int) := by omega
        generalize timesC x cs = t at *
        go_wp2
        refine wp_region_over (fun W => W = wr) (by kernel_rfl) (by kernel_rfl) rfl ?_
        rintro W rfl
        have x0' := over_cell x0
        have x1' := over_cell x1
        have x2' := over_cell x2
        clear x0 x1 x2
        repeat (go_big_quiet_step (first | (go_at_call 13; exact calls_over (HTo.out _ _ (by first | exact .inl rfl | exact .inr rfl)))))
        refine wpQuiet_nil ?_
        rintro _ ⟨z, rfl⟩
        have HB3 := hide (HB.out.trans ((over_below W z).mono HB.out.size))
        clear x0' x1' x2'
        go_wp2
        go_roundw
        case rel => exact ⟨1, by omega, by go_num, HB3⟩
        case measure => simp [intOf]; omega
      · obtain ⟨m, hkm⟩ : ∃ m, k = m + 1 := ⟨k - 1, by omega⟩
        obtain ⟨y, hy⟩ : ∃ y, ls[m]? = some y := ⟨_, List.getElem?_eq_getElem (by omega)⟩
        obtain ⟨y0, y1, y2⟩ := conAt_kept (hr m y hy) HB.out
        have hah := HS.out m y x hy (by rw [← hkm]; exact hx)
        have HA : Hid (∀ z, Calls Try.prog 12 #[.agg #[.int .i64 x.k, .int .i64 x.n, .string x.s], .agg #[.int .i64 y.k, .int .i64 y.n, .string y.s]] (over wr z) fun e w' => e = .returned (.bool false) ∧ Below (over wr z).heap.size (over wr z) w') := fun z => by
          rw [← hah]; exact ahead_any x y _
        have hm : (k : Int) - 1 = (m : Int) := by omega
        have hm0 : 0 < k := by omega
        have hm1 : (m : Int) < (n : Int) := by omega
        replace hkm := hide hkm
        clear hr hx hy hT hlen hrow hah hk0
        generalize timesC x cs = t at *
        go_wp2
        refine wp_region_over (fun W => W = wr) (by kernel_rfl) (by kernel_rfl) rfl ?_
        rintro W rfl
        have x0' := over_cell x0
        have x1' := over_cell x1
        have x2' := over_cell x2
        have y0' := over_cell y0
        have y1' := over_cell y1
        have y2' := over_cell y2
        clear x0 x1 x2 y0 y1 y2
        repeat (go_big_quiet_step (first | (go_at_call 12; exact calls_over (HA.out _)) | (go_at_call 13; exact calls_over (HTo.out _ _ (by first | exact .inl rfl | exact .inr rfl)))))
        refine wpQuiet_nil ?_
        rintro _ ⟨z, rfl⟩
        have HB3 := hide (HB.out.trans ((over_below W z).mono HB.out.size))
        clear x0' x1' x2' y0' y1' y2'
        go_wp2
        go_roundw
        case rel => exact ⟨k + 1, by omega, by go_num, HB3⟩
        case measure => simp [intOf]; omega
    · have hi : ¬ (k : Int) < (n : Int) := by omega
      go_wp2
      go_ret
      exact ⟨rfl, HB.out⟩

theorem aheadB_cmp (a b : Con) : aheadB a b = decide (cmpC a b = -1) := by
  unfold aheadB
  rcases cmpC_cases a b with ⟨h, e⟩ | ⟨h, e⟩ | ⟨h, h', e⟩ | ⟨h, h', e⟩ | ⟨h, h', e⟩
  · rw [if_neg (by omega), e]; simp [h]
  · rw [if_neg (by omega), e]; simp; omega
  · rw [if_pos h, if_neg (by omega), e]; simp [h']
  · rw [if_pos h, if_neg (by omega), e]; simp; omega
  · rw [if_pos h, if_pos h', e, less_eq]

theorem srt_ahead {L : List Con} (h : Srt L) (i : Nat) (x y : Con) (hx : L[i]? = some x) (hy : L[i + 1]? = some y) : aheadB y x = false := by
  obtain ⟨h1, e1⟩ := List.getElem?_eq_some_iff.1 hx
  obtain ⟨h2, e2⟩ := List.getElem?_eq_some_iff.1 hy
  have hp := List.pairwise_iff_getElem.1 h i (i + 1) h1 h2 (Nat.lt_succ_self _)
  rw [e1, e2] at hp
  unfold leC at hp
  simp only [decide_eq_true_eq] at hp
  have := cmpC_anti x y
  rw [aheadB_cmp]
  exact decide_eq_false (by omega)

theorem perm_times {L cs : List Con} (h : L.Perm cs) (x : Con) (_ : x ∈ L) : timesC x L = timesC x cs := h.countP_eq _

/-- A sorted copy is told of the list. -/
theorem told_sorted (a1 a2 : Option Addr) (n c1 c2 : Nat) (L cs : List Con) (w : World) (h1 : IsCons w a1 n L) (h2 : IsCons w a2 n cs) (hs : Srt L) (hp : L.Perm cs) :
    Calls Try.prog 6 #[.slice a1 n c1, .slice a2 n c2] w fun e w' => e = .returned (.bool true) ∧ Below w.heap.size w w' :=
  told_any a1 a2 n c1 c2 L cs w h1 h2 (srt_ahead hs) (perm_times hp)

theorem mark_any (k : Int) (w : World) (hk : 0 ≤ k ∧ k ≤ 1000) :
    Calls Try.prog 14 #[.int .i64 k] w fun e w' => e = .returned (.agg #[.int .i64 (90 + k), .int .i64 (-k), .string ⟨#[]⟩]) ∧ Below w.heap.size w w' := by
  obtain ⟨h1, h2⟩ := hk
  go_enter Try.func14, Try.ntmps14
  go_wp2
  exact bodyPost_ret (v := .agg #[.int .i64 (90 + k), .int .i64 (-k), .string ⟨#[]⟩]) (by simp [results, Try.results14, go_sem]) rfl ⟨rfl, (Below.refl _ _).alloc (Nat.le_refl _) _⟩

end Go.Proofs.Ytpkpajjdpiebfaa
