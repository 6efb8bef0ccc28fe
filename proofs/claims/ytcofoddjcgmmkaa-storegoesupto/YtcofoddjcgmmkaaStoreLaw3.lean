/- edictlaw05.known, rows, joined. -/
import Derived.Test.YtcofoddjcgmmkaaStoreLaw2
import Derived.Test.YtcofoddjcgmmkaaOverAt
import Derived.Deep.RegionHeld3
import Derived.Deep.AppendLies
namespace Go.Proofs.Ytcofoddjcgmmkaa
set_option linter.unusedSimpArgs false
set_option linter.unusedVariables false
open Go.RowKit Go.Maps

def knownP (R : List Rw) (r : Rw) : Bool := R.any (fun x => eqRw x r)

set_option maxHeartbeats 1000000 in
theorem known_any {w : World} {own : Own} {ao : Option Addr} {len cap : Nat} {R : List Rw} (hr : FreeRows w own ao len R) {q : Int} {a : Option Addr} {n c : Nat} {l : List Int} (hl : IsInts w a n l) :
    Calls Try.prog 25 #[.slice ao len cap, .agg #[.int .i64 q, .slice a n c]] w fun e w' => e = .returned (.bool (knownP R (q, l))) ∧ Below w.heap.size w w' := by
  have HR := hide hr
  have HL := hide hl
  have hlen := hr.2.1
  have HB0 : Hid (Below w.heap.size w (w.alloc (.cells #[.int .i64 q, .slice a n c] 31))) := (Below.refl _ _).alloc (Nat.le_refl _) _
  clear hr hl
  go_enter Try.func25, Try.ntmps25
  go_wp2
  obtain ⟨Y, hY⟩ : ∃ Y, Y = (w.alloc (.cells #[.int .i64 q, .slice a n c] 31)) := ⟨_, rfl⟩
  have HP : Hid (Y.cell? ⟨w.heap.size, 0, none⟩ = some (.int .i64 q) ∧ Y.cell? ⟨w.heap.size, 1, none⟩ = some (.slice a n c)) := by
    show _ ∧ _
    rw [hY]; constructor <;> simp
  rw [← hY] at HB0 ⊢
  clear hY
  go_loopw [5] (fun i wl => ∃ k : Nat, k ≤ len ∧ i = .int .i64 k ∧ Hid (knownP (R.take k) (q, l) = false) ∧ Hid (Below Y.heap.size Y wl)) (fun i _ => len - (intOf i).toNat)
  case atStart => exact ⟨0, by omega, rfl, by show knownP (R.take 0) _ = false; simp [knownP], Below.refl _ _⟩
  case round =>
    obtain ⟨k, hk, rfl, HK, HB⟩ := hrel
    have HBw := hide (HB0.out.trans (HB.out.mono HB0.out.size))
    by_cases hlt : k < len
    · have hi : (k : Int) < (len : Int) := by omega
      have hi0 : (0 : Int) ≤ (k : Int) := by omega
      obtain ⟨b1, o1, rfl, hn1, hr1⟩ := HR.out.2.2.2 (by omega)
      obtain ⟨r, hr⟩ : ∃ r, R[k]? = some r := ⟨_, List.getElem?_eq_getElem (by rw [HR.out.1]; omega)⟩
      obtain ⟨x0, ra, rc, x1, hfi⟩ := hr1 k r hr
      have x0' := over_cell (kept_cell HBw.out x0)
      have x1' := over_cell (kept_cell HBw.out x1)
      have y0' := over_cell (kept_cell HB.out HP.out.1)
      have y1' := over_cell (kept_cell HB.out HP.out.2)
      have HEq : Hid (∀ x, Calls Try.prog 17 #[.agg #[.int .i64 r.1, .slice ra r.2.length rc], .agg #[.int .i64 q, .slice a n c]] (over wr x) fun e w' => e = .returned (.bool (eqRw r (q, l))) ∧ Below (over wr x).heap.size (over wr x) w') := fun x => equal_any (hfi.1.kept (over_bel HBw.out HBw.out.size)) (HL.out.kept (over_bel HBw.out HBw.out.size))
      have HTk : Hid (knownP (R.take (k + 1)) (q, l) = eqRw r (q, l)) := by
        show _ = _
        have hk0 := HK.out
        unfold knownP at hk0 ⊢
        rw [List.take_add_one, hr, List.any_append, hk0]
        simp
      have HAt : Hid (eqRw r (q, l) = true → knownP R (q, l) = true) := fun h => List.any_eq_true.2 ⟨r, List.mem_of_getElem? hr, h⟩
      clear hr1 hr x0 x1 hfi hn1
      cases he : eqRw r (q, l) with
      | true =>
        rw [he] at HEq HAt
        go_wp2
        refine wp_region_over (fun W => W = wr) (by kernel_rfl) (by kernel_rfl) rfl ?_
        rintro W rfl
        repeat (go_big_quiet_step ((go_at_call 17; exact calls_over (HEq.out _))))
        refine wpQuiet_nil ?_
        rintro _ ⟨z, rfl⟩
        clear x0' x1' y0' y1'
        go_wp2
        go_ret
        exact ⟨by rw [HAt.out (by first | rfl | trivial)]; rfl, over_bel HBw.out HBw.out.size⟩
      | false =>
        rw [he] at HEq HTk
        go_wp2
        refine wp_region_over (fun W => W = wr) (by kernel_rfl) (by kernel_rfl) rfl ?_
        rintro W rfl
        repeat (go_big_quiet_step ((go_at_call 17; exact calls_over (HEq.out _))))
        refine wpQuiet_nil ?_
        rintro _ ⟨z, rfl⟩
        have HB3 := hide (HB.out.trans ((over_below W z).mono HB.out.size))
        clear x0' x1' y0' y1'
        go_wp2
        go_roundw
        case rel => exact ⟨k + 1, by omega, by go_num, HTk, HB3⟩
        case measure => simp [intOf]; omega
    · obtain rfl : k = len := by omega
      have hi : ¬ (k : Int) < (k : Int) := by omega
      have HF : Hid (knownP R (q, l) = false) := by
        have := HK.out
        rw [List.take_of_length_le (by rw [HR.out.1]; exact Nat.le_refl _)] at this
        exact this
      go_wp2
      go_ret
      exact ⟨by rw [HF.out]; rfl, HBw.out⟩

set_option maxHeartbeats 1000000 in
theorem rows_any {w : World} {own : Own} {ao : Option Addr} {len cap : Nat} {R : List Rw} (hr : FreeRows w own ao len R) (hlim : own.lim w.heap.size) :
    Calls Try.prog 24 #[.slice ao len cap] w fun e w' => ∃ v, e = .returned v ∧ MyRows w' own w.heap.size v R ∧ Below w.heap.size w w' := by
  obtain ⟨i0, hi0, hz0, hz1, hz2⟩ := info_parts Try.infoRow5
  have HR := hide hr
  have HLim := hide hlim
  have hlen := hr.2.1
  clear hr hlim
  go_enter Try.func24, Try.ntmps24
  go_wp2
  go_loopw [3, 4] (fun m i wl => ∃ k : Nat, k ≤ len ∧ i = .int .i64 k ∧ Hid (MyRows wl own w.heap.size m (R.take k)) ∧ Hid (Below w.heap.size w wl)) (fun _ i _ => len - (intOf i).toNat)
  case atStart => exact ⟨0, by omega, rfl, MyRows.nil _ _ _, Below.refl _ _⟩
  case round =>
    obtain ⟨k, hk, rfl, HM, HB⟩ := hrel
    by_cases hlt : k < len
    · have hi : (k : Int) < (len : Int) := by omega
      have hi1 : (0 : Int) ≤ (k : Int) := by omega
      obtain ⟨b1, o1, rfl, hn1, hr1⟩ := HR.out.2.2.2 (by omega)
      obtain ⟨r, hr⟩ : ∃ r, R[k]? = some r := ⟨_, List.getElem?_eq_getElem (by rw [HR.out.1]; omega)⟩
      obtain ⟨y0, ra, rc, y1, hfi⟩ := hr1 k r hr
      have x0 := kept_cell HB.out y0
      have x1 := kept_cell HB.out y1
      have hkl : (R.take k).length = k := by rw [List.length_take, HR.out.1]; omega
      have HTk : Hid (R.take (k + 1) = R.take k ++ [r]) := by show _ = _; rw [List.take_add_one, hr]; rfl
      have HQ := hide (HR.out.2.2.1 r (List.mem_of_getElem? hr))
      obtain ⟨G, hG1, hG2, hG3, hG4⟩ := HM.out
      obtain ⟨ma, mc, rfl, -, -, -⟩ := own_shape6 hG2
      rw [hkl] at hG2 ⊢
      have HG1 := hide hG1
      have HG2 := hide hG2
      have HG3 := hide hG3
      have HG4 := hide hG4
      have HKl := hide hkl
      have HIn := hide (ints_any (cap := rc) (hfi.1.kept (HB.out.trans (below_drewN _ _ 1))))
      have HRl := hide (And.intro hfi.1.2.1 hfi.1.2.2.1)
      have hb1 : b1 < w.heap.size := lt_of_cell y0
      have hsz := HB.out.size
      clear hr1 hr y0 y1 hfi hn1 hG1 hG2 hG3 hG4 hkl HM
      rw [HKl.out] at HG3 HG4
      go_wp2
      go_region_held3 (fun w' => w'.cell? ⟨b1, o1 + k * 2, none⟩ = some (.int .i64 r.1) ∧ w'.cell? ⟨b1, o1 + k * 2 + 1, none⟩ = some (.slice ra r.2.length rc))
        (first
          | exact hS3
          | exact hS5
          | (go_keep; done))
        (first
          | (go_at_call 21; refine HIn.out.mono ?_; rintro e w3 ⟨v3, rfl, o3, h3⟩; obtain ⟨ia, ic, rfl, io1, io2, io3⟩ := own_shape6 o3; have hb4 : Below wr.heap.size wr w3 := (below_drewN _ wr 1).trans h3; have hS3 := And.intro (kept_cell hb4 x0) (kept_cell hb4 x1); have HO3 := hide o3; have HI3 := hide io3; have HB4 := hide hb4; clear o3 h3 hb4 io1 io2 io3)
          | (refine step_append_lies _ (by rfl) _ _ _ (by rfl) w.heap.size 31 i0 _ 2 32 Try.underlying23 hi0 hz0 hz1 hz2 rfl (by omega) _ k (G.flatMap RV.cells) (by rfl) (own_kept6 (own_kept6 HG2.out HB4.out) ((Below.refl _ _).alloc (Nat.le_refl _) (.cells #[.int .i64 r.1, .slice ia r.2.length ic] 31))) ⟨w3.heap.size, 0, none⟩ 1 1 [.int .i64 r.1, .slice ia r.2.length ic] (by rfl) (by rfl) (World.news_of_block (cs := #[.int .i64 r.1, .slice ia r.2.length ic]) (t := 31) (fr := (0, 0)) (heap_alloc_new w3 _)) (by simp [Value.oneCell']) (by omega) (by unfold maxLen; omega) (by omega) (by simp; have := HB4.out.size; omega) (w3.heap.size + 1) (by simp) ?_; intro gg cap2 w5 hown1 hgrow hat hlt1; have hb5 : Below w.heap.size (w3.alloc (.cells #[.int .i64 r.1, .slice ia r.2.length ic] 31)) w5 := below_grown (Below.refl _ _) (own_kept6 (own_kept6 HG2.out HB4.out) ((Below.refl _ _).alloc (Nat.le_refl _) (.cells #[.int .i64 r.1, .slice ia r.2.length ic] 31))) hgrow (by simp; have := HB4.out.size; omega); have hS5 := And.intro (below_cell hb5 (kept_cell ((Below.refl _ _).alloc (Nat.le_refl _) _) (kept_cell HB4.out x0)) hb1) (below_cell hb5 (kept_cell ((Below.refl _ _).alloc (Nat.le_refl _) _) (kept_cell HB4.out x1)) hb1); have HP5 := hide (And.intro hown1 (And.intro hgrow (And.intro hat hb5))); clear hown1 hgrow hat hb5))
      have HPush : Hid (MyRows w5 own w.heap.size (.slice (some ⟨gg, 0, none⟩) (k + 1) cap2) (R.take (k + 1))) := by
        show MyRows _ _ _ _ _
        rw [HTk.out]
        have hbA : Below w3.heap.size w3 (w3.alloc (.cells #[.int .i64 r.1, .slice ia r.2.length ic] 31)) := (Below.refl _ _).alloc (Nat.le_refl _) _
        have hOwn : ∀ kk, w.heap.size ≤ kk → own kk = none := fun kk h => by
          cases ho : own kk with
          | none => rfl
          | some t => exact absurd (HLim.out kk (by rw [ho]; simp)) (by omega)
        have hT : Turn (fun _ => False) own own wr (w3.alloc (.cells #[.int .i64 r.1, .slice ia r.2.length ic] 31)) := Turn.below (HB4.out.trans (hbA.mono HB4.out.size))
        have hii : IsInts w3 ia r.2.length r.2 := own_isInts HO3.out HRl.out.2 HRl.out.1
        refine MyRows.push (g := ⟨r.1, ia, ic, r.2⟩) (v := .slice ma k mc) HG1.out (fun g hg => (HG3.out g hg).turn hT) HG4.out ⟨HQ.out, hii.kept hbA, fun hp a ha => ?_⟩ (by simp) (fun kk h => hOwn kk (by have := HB4.out.size; omega)) HKl.out HP5.out.1 HP5.out.2.1 HP5.out.2.2.1
        obtain ⟨g', rfl, hg'⟩ := HI3.out a ha
        have hg2 : wr.heap.size ≤ g' := hg'
        exact ⟨hOwn g' (by omega), fun e => by have := own_lt6 HG2.out g' e; omega⟩
      have HB5 : Hid (Below w.heap.size w w5) := (HB.out.trans ((HB4.out.alloc HB4.out.size _).mono hsz)).trans HP5.out.2.2.2
      clear HP5 hS3 hS5
      go_wp2
      go_roundw
      case rel => exact ⟨k + 1, by omega, by go_num, HPush, HB5⟩
      case measure => simp [intOf]; omega
    · obtain rfl : k = len := by omega
      have hi : ¬ (k : Int) < (k : Int) := by omega
      have hfull : R.take k = R := List.take_of_length_le (by rw [HR.out.1]; exact Nat.le_refl _)
      rw [hfull] at HM
      go_wp2
      go_ret
      exact ⟨_, rfl, HM.out, HB.out⟩

/-- The rows of R, and those of T that are new, each once. -/
def joinOne (R : List Rw) (r : Rw) : List Rw := if knownP R r then R else R ++ [r]
def joinP (R T : List Rw) : List Rw := T.foldl joinOne R
theorem joinP_snoc (R T : List Rw) (r : Rw) : joinP R (T ++ [r]) = joinOne (joinP R T) r := by simp [joinP, List.foldl_append]
theorem joinP_len (R T : List Rw) : R.length ≤ (joinP R T).length ∧ (joinP R T).length ≤ R.length + T.length := by
  refine snoc_ind (P := fun T => R.length ≤ (joinP R T).length ∧ (joinP R T).length ≤ R.length + T.length) ⟨Nat.le_refl _, by simp [joinP]⟩ (fun T r ih => ?_) T
  rw [joinP_snoc]
  unfold joinOne
  split
  · simp only [List.length_append, List.length_singleton]; omega
  · simp only [List.length_append, List.length_singleton]; omega

set_option maxHeartbeats 1000000 in
theorem joined_any {w : World} {own : Own} {a1 a2 : Option Addr} {n1 n2 c1 c2 : Nat} {R T : List Rw} (h1 : FreeRows w own a1 n1 R) (h2 : FreeRows w own a2 n2 T) (hlim : own.lim w.heap.size) (hz : n1 + n2 < 1099511627776) :
    Calls Try.prog 7 #[.slice a1 n1 c1, .slice a2 n2 c2] w fun e w' => ∃ v, e = .returned v ∧ MyRows w' own w.heap.size v (joinP R T) ∧ Below w.heap.size w w' := by
  obtain ⟨i0, hi0, hz0, hz1, hz2⟩ := info_parts Try.infoRow5
  have HR := hide h1
  have HT := hide h2
  have HLim := hide hlim
  clear h1 h2 hlim
  have HRw := hide (rows_any (cap := c1) HR.out HLim.out)
  go_enter Try.func7, Try.ntmps7
  go_wp2_with (go_at_call 24; refine HRw.out.mono ?_; rintro e w1 ⟨v1, rfl, m1, h1⟩; obtain ⟨oa1, oc1, rfl, hon1⟩ := m1.shape; have HM1 := hide m1; have HB1 := hide h1; clear m1 h1)
  have hR1 := HR.out.1
  rw [hR1]
  rw [hR1] at HM1
  clear hon1 hR1
  go_loopw [5, 6] (fun o i wl => ∃ k : Nat, k ≤ n2 ∧ i = .int .i64 k ∧ Hid (MyRows wl own w.heap.size o (joinP R (T.take k))) ∧ Hid (Below w.heap.size w wl)) (fun _ i _ => n2 - (intOf i).toNat)
  case atStart => exact ⟨0, by omega, rfl, HM1.out, HB1.out⟩
  case round =>
    obtain ⟨k, hk, rfl, HM, HB⟩ := hrel
    by_cases hlt : k < n2
    · have hi : (k : Int) < (n2 : Int) := by omega
      have hi1 : (0 : Int) ≤ (k : Int) := by omega
      obtain ⟨b1, o1, rfl, hn1, hr1⟩ := HT.out.2.2.2 (by omega)
      obtain ⟨r, hr⟩ : ∃ r, T[k]? = some r := ⟨_, List.getElem?_eq_getElem (by rw [HT.out.1]; omega)⟩
      obtain ⟨y0, ra, rc, y1, hfi⟩ := hr1 k r hr
      have x0 := kept_cell HB.out y0
      have x1 := kept_cell HB.out y1
      have HTk : Hid (joinP R (T.take (k + 1)) = joinOne (joinP R (T.take k)) r) := by show _ = _; rw [List.take_add_one, hr]; exact joinP_snoc _ _ _
      have HQ := hide (HT.out.2.2.1 r (List.mem_of_getElem? hr))
      obtain ⟨ma, mc, rfl, hmn⟩ := HM.out.shape
      have hjl := joinP_len R (T.take k)
      have hjl2 : (joinP R (T.take k)).length ≤ n1 + k := by have := hjl.2; rw [HR.out.1, List.length_take, HT.out.1] at this; omega
      have HKn := hide (known_any (q := r.1) (cap := mc) (c := rc) (HM.out.free (by omega)) (hfi.1.kept HB.out))
      have HFi := hide hfi
      have hb1 : b1 < w.heap.size := lt_of_cell y0
      have hsz := HB.out.size
      clear hr1 hr y0 y1 hfi hn1 hmn hjl
      obtain ⟨N, hN⟩ : ∃ N, (joinP R (T.take k)).length = N := ⟨_, rfl⟩
      have HN := hide hN
      rw [hN] at HM HKn hjl2 ⊢
      clear hN
      cases hkn : knownP (joinP R (T.take k)) (r.1, r.2) with
      | true =>
        rw [hkn] at HKn
        have HJ : Hid (joinOne (joinP R (T.take k)) r = joinP R (T.take k)) := by show _ = _; unfold joinOne; rw [if_pos hkn]
        clear hkn
        go_wp2_with (go_at_call 25; refine HKn.out.mono ?_; rintro e w3 ⟨rfl, h3⟩; have HM3 := hide (HM.out.below h3); have HB3 := hide (HB.out.trans (h3.mono HB.out.size)); clear h3)
        go_roundw
        case rel => exact ⟨k + 1, by omega, by go_num, by show MyRows _ _ _ _ _; rw [HTk.out, HJ.out]; exact HM3.out, HB3.out⟩
        case measure => simp [intOf]; omega
      | false =>
        rw [hkn] at HKn
        have HJ : Hid (joinOne (joinP R (T.take k)) r = joinP R (T.take k) ++ [r]) := by show _ = _; unfold joinOne; rw [if_neg (by rw [hkn]; simp)]
        clear hkn
        go_upto_region 6 with (go_at_call 25; refine HKn.out.mono ?_; rintro e w3 ⟨rfl, h3⟩; have HM3 := hide (HM.out.below h3); have z0 := kept_cell h3 x0; have z1 := kept_cell h3 x1; have HB3 := hide (HB.out.trans (h3.mono HB.out.size)); clear h3)
        obtain ⟨G, hG1, hG2, hG3, hG4⟩ := HM3.out
        rw [HN.out] at hG2
        have HG1 := hide hG1
        have HG2 := hide hG2
        have HG3 := hide hG3
        have HG4 := hide hG4
        have hsz3 := HB3.out.size
        have HG2' := hide (own_kept6 HG2.out ((Below.refl _ _).alloc (Nat.le_refl _) (.cells #[.int .i64 r.1, .slice ra r.2.length rc] 31)))
        clear hG1 hG2 hG3 hG4
        go_wp2_with (first
          | (at_builtin; refine wpList_append_lies _ rfl _ _ 23 rfl w.heap.size 31 i0 _ 2 32 Try.underlying23 hi0 hz0 hz1 hz2 rfl (by decide) _ N (G.flatMap RV.cells) rfl HG2'.out ⟨w3.heap.size, 0, none⟩ 1 1 [.int .i64 r.1, .slice ra r.2.length rc] rfl rfl (World.news_of_block (cs := #[.int .i64 r.1, .slice ra r.2.length rc]) (t := 31) (fr := (0, 0)) (heap_alloc_new w3 _)) (by simp [Value.oneCell']) (by omega) (by unfold maxLen; omega) (by omega) (by simp; omega) (w3.heap.size + 1) (by simp) ?_))
        intro gg cap2 w5 hown1 hgrow hat hlt1
        have hb5 : Below w.heap.size w w5 := below_grown (HB3.out.alloc HB3.out.size _) HG2'.out hgrow (by simp; omega)
        have HPush : Hid (MyRows w5 own w.heap.size (.slice (some ⟨gg, 0, none⟩) (N + 1) cap2) (joinP R (T.take (k + 1)))) := by
          show MyRows _ _ _ _ _
          rw [HTk.out, HJ.out]
          have hbA : Below w3.heap.size w3 (w3.alloc (.cells #[.int .i64 r.1, .slice ra r.2.length rc] 31)) := (Below.refl _ _).alloc (Nat.le_refl _) _
          have hOwn : ∀ kk, w.heap.size ≤ kk → own kk = none := fun kk h => by
            cases ho : own kk with
            | none => rfl
            | some t => exact absurd (HLim.out kk (by rw [ho]; simp)) (by omega)
          refine MyRows.push (g := ⟨r.1, ra, rc, r.2⟩) (v := .slice ma N mc) HG1.out (fun g hg => (HG3.out g hg).turn (A := fun _ => False) (Turn.below hbA)) HG4.out ⟨HQ.out, HFi.out.1.kept (HB3.out.alloc HB3.out.size _), fun hp a ha => ⟨HFi.out.2 hp a ha, fun e => ?_⟩⟩ (by simp) (fun kk h => hOwn kk (by omega)) HN.out hown1 hgrow hat
          obtain ⟨b', off', e', hc'⟩ := HFi.out.1.2.2.2 hp
          have ha' : ra = some a := ha
          rw [ha'] at e'
          cases e'
          obtain ⟨x, hx⟩ : ∃ x, r.2[0]? = some x := ⟨_, List.getElem?_eq_getElem hp⟩
          have h1 := lt_of_cell (hc' 0 x hx)
          have h2 := own_new HG2.out _ e
          simp only at h1 h2
          omega
        have HB5 := hide hb5
        clear hown1 hgrow hat hlt1 hb5
        go_wp2
        go_roundw
        case rel => exact ⟨k + 1, by omega, by go_num, HPush, HB5⟩
        case measure => simp [intOf]; omega
    · obtain rfl : k = n2 := by omega
      have hi : ¬ (k : Int) < (k : Int) := by omega
      have hfull : T.take k = T := List.take_of_length_le (by rw [HT.out.1]; exact Nat.le_refl _)
      rw [hfull] at HM
      go_wp2
      go_ret
      exact ⟨_, rfl, HM.out, HB.out⟩
end Go.Proofs.Ytcofoddjcgmmkaa
