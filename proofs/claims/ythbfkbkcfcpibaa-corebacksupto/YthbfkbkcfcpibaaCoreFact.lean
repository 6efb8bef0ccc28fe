/- What core.wholeRow, factOf, Fact answer. -/
import Derived.Test.YthbfkbkcfcpibaaCoreRAtom
import Derived.Test.YthbfkbkcfcpibaaOverAt
namespace Go.Proofs.Ythbfkbkcfcpibaa
set_option linter.unusedSimpArgs false
set_option linter.unusedVariables false
open Go.RowKit

def inC (cs : List Con) (n : Int) : Bool := (idx cs n).isSome
theorem inC_eq (cs : List Con) (n : Int) : inC cs n = (decide (0 ≤ n) && decide (n < (cs.length : Int))) := idx_isSome cs n
def rowW (ps : List Prd) (cs : List Con) (r : Roe) : Bool := match idx ps r.q with
  | none => false
  | some p => ((r.l.length : Int) == p.n) && r.l.all (inC cs)
def noC : Con := ⟨0, 0, ⟨#[]⟩⟩
def cP (cs : List Con) (n : Int) : Con := (idx cs n).getD noC
theorem cP_ok {cs : List Con} (hc : ∀ c ∈ cs, c.ok) (n : Int) : (cP cs n).ok := by
  unfold cP
  cases hx : idx cs n with
  | none => exact ⟨I64_0, I64_0, by decide⟩
  | some x => obtain ⟨k, _, _, h⟩ := idx_some hx; exact hc x (List.mem_of_getElem? h)

set_option maxRecDepth 100000 in
set_option maxHeartbeats 1000000 in
theorem wholeRow_any {w : World} {pv cv rv fv : Value} {ps : List Prd} {cs : List Con} {r : Roe} (hp : Has elPrd w pv ps) (hc : Has elCon w cv cs) (hr : elRoe.ok w (fun _ => True) r) :
    Calls Try.prog 20 #[.agg #[pv, cv, rv, fv], .agg #[.int .i64 r.q, r.v]] w fun e w' => e = .returned (.bool (rowW ps cs r)) ∧ Below w.heap.size w w' := by
  obtain ⟨q, v, l⟩ := r
  have hl := (elRoe_ok hr).2
  clear hr
  dsimp only at hl ⊢
  obtain ⟨la, lc, rfl, -, -, hlen⟩ := hl.shape
  obtain ⟨pa, pc, rfl, -, -, -⟩ := hp.shape
  obtain ⟨ca, cc, rfl, -, -, -⟩ := hc.shape
  have HWn := hide (withinPred q pa ps.length pc)
  cases hx : idx ps q with
  | none =>
    have HR : Hid (rowW ps cs ⟨q, .slice la l.length lc, l⟩ = false) := by show _ = _; simp [rowW, hx]
    have hd := idx_isSome ps q
    rw [hx] at hd
    rw [← hd, Option.isSome_none] at HWn
    clear hc hx hp hl hd
    go_enter Try.func20, Try.ntmps20
    go_wp2
    obtain ⟨Y, hY⟩ : ∃ Y, Y = ((w.alloc (.cells #[.slice pa ps.length pc, .slice ca cs.length cc, rv, fv] 27)).alloc (.cells #[.int .i64 q, .slice la l.length lc] 44)) := ⟨_, rfl⟩
    have HB0 : Hid (Below w.heap.size w Y) := by rw [hY]; exact belo2 _ _ _
    have HX : Hid (coreAt Y w.heap.size (.slice pa ps.length pc) (.slice ca cs.length cc) rv fv ∧ twoAt Y (w.heap.size + 1) (.int .i64 q) (.slice la l.length lc)) := by
      show _ ∧ _
      rw [hY]
      exact ⟨(coreAt_new _ _ _ _ _ _).kept (belo1 _ _), twoAt_new _ _ _ _ (by simp)⟩
    rw [← hY]
    clear hY
    have p0 := over_cell HX.out.1.1
    have r0 := over_cell HX.out.2.1
    have r1 := over_cell HX.out.2.2
    refine wp_region_over (fun W => W = Y) (by kernel_rfl) (by kernel_rfl) rfl ?_
    rintro W rfl
    repeat (go_big_quiet_step ((go_at_call 30; exact calls_over_same (HWn.out _))))
    refine wpQuiet_nil ?_
    rintro _ ⟨z, rfl⟩
    clear p0 r0 r1
    go_wp2
    go_ret
    exact ⟨by rw [HR.out]; rfl, over_bel HB0.out HB0.out.size⟩
  | some x =>
    have hd := idx_isSome ps q
    rw [hx] at hd
    rw [← hd, Option.isSome_some] at HWn
    have HR : Hid (rowW ps cs ⟨q, .slice la l.length lc, l⟩ = (((l.length : Int) == x.n) && l.all (inC cs))) := by show _ = _; simp [rowW, hx]
    obtain ⟨k0, rfl, hk0, hx⟩ := idx_some hx
    obtain ⟨pb, po, rfl, -, -, hprow⟩ := hp.row (by omega)
    have hc1 := hprow k0 x hx 1 _ rfl
    simp only [elPrd] at hc1
    have hk0' : (k0 : Int) < (ps.length : Int) := by omega
    have hk00 : (0 : Int) ≤ (k0 : Int) := by omega
    have HL := hide hl
    clear hp hc hl hprow hx hd
    go_enter Try.func20, Try.ntmps20
    go_wp2
    obtain ⟨Y, hY⟩ : ∃ Y, Y = ((w.alloc (.cells #[.slice (some ⟨pb, po, none⟩) ps.length pc, .slice ca cs.length cc, rv, fv] 27)).alloc (.cells #[.int .i64 k0, .slice la l.length lc] 44)) := ⟨_, rfl⟩
    have HB0 : Hid (Below w.heap.size w Y) := by rw [hY]; exact belo2 _ _ _
    have HX : Hid (coreAt Y w.heap.size (.slice (some ⟨pb, po, none⟩) ps.length pc) (.slice ca cs.length cc) rv fv ∧ twoAt Y (w.heap.size + 1) (.int .i64 k0) (.slice la l.length lc)) := by
      show _ ∧ _
      rw [hY]
      exact ⟨(coreAt_new _ _ _ _ _ _).kept (belo1 _ _), twoAt_new _ _ _ _ (by simp)⟩
    rw [← hY]
    clear hY
    have p0 := over_cell HX.out.1.1
    have r0 := over_cell HX.out.2.1
    have r1 := over_cell HX.out.2.2
    have c1 := over_cell (kept_cell HB0.out hc1)
    clear hc1
    cases hn : ((l.length : Int) == x.n) with
    | false =>
      have hn' : ((l.length : Int) != x.n) = true := by simpa using hn
      rw [hn] at HR
      clear hn
      refine wp_region_over (fun W => W = Y) (by kernel_rfl) (by kernel_rfl) rfl ?_
      rintro W rfl
      repeat (go_big_quiet_step ((go_at_call 30; exact calls_over_same (HWn.out _))))
      refine wpQuiet_nil ?_
      rintro _ ⟨z, rfl⟩
      clear p0 r0 r1 c1
      go_wp2
      go_ret
      exact ⟨by rw [HR.out]; rfl, over_bel HB0.out HB0.out.size⟩
    | true =>
      have hn' : ((l.length : Int) != x.n) = false := by simpa using hn
      rw [hn, Bool.true_and] at HR
      clear hn
      refine wp_region_over (fun W => W = Y) (by kernel_rfl) (by kernel_rfl) rfl ?_
      rintro W rfl
      repeat (go_big_quiet_step ((go_at_call 30; exact calls_over_same (HWn.out _))))
      refine wpQuiet_nil ?_
      rintro _ ⟨z, rfl⟩
      have HBz := hide (over_bel (x := z) HB0.out HB0.out.size)
      have HXz := hide (And.intro (HX.out.1.kept (over_below W z)) (HX.out.2.kept (over_below W z)))
      clear p0 r0 r1 c1 HX HB0
      generalize over W z = V at *
      have r1 := HXz.out.2.2
      go_wp2
      clear r1
      go_loopw [6, 29] (fun _ i wl => ∃ k : Nat, k ≤ l.length ∧ i = .int .i64 k ∧ Hid ((l.take k).all (inC cs) = true) ∧ wl = V) (fun _ i _ => l.length - (intOf i).toNat)
      case atStart => exact ⟨0, by omega, rfl, by show (l.take 0).all _ = true; simp, rfl⟩
      case round =>
        obtain ⟨k, hk, rfl, HK, hwl⟩ := hrel
        subst hwl
        have y1 := HXz.out.1.2.1
        by_cases hlt : k < l.length
        · have hi : (k : Int) < (l.length : Int) := by omega
          have hi0 : (0 : Int) ≤ (k : Int) := by omega
          obtain ⟨b, off, rfl, -, -, hrow⟩ := HL.out.row (by omega)
          obtain ⟨n, hn⟩ : ∃ s, l[k]? = some s := ⟨_, List.getElem?_eq_getElem hlt⟩
          have x0 := kept_cell HBz.out (hrow k n hn 0 _ rfl)
          simp only [elInt, Nat.add_zero, Nat.mul_one] at x0
          have HTk : Hid ((l.take (k + 1)).all (inC cs) = inC cs n) := by
            show _ = _
            rw [List.take_add_one, hn, List.all_append, HK.out]
            simp
          have HAt : Hid (inC cs n = false → l.all (inC cs) = false) := fun h => by
            rw [List.all_eq_false]
            exact ⟨n, List.mem_of_getElem? hn, by rw [h]; simp⟩
          have HWc := hide (withinCon n ca cs.length cc)
          rw [← inC_eq] at HWc
          clear hrow hn
          cases he : inC cs n with
          | true =>
            rw [he] at HWc HTk
            go_wp2_with (go_at_call 31; refine (HWc.out _).mono ?_; rintro e w' ⟨rfl, hw'⟩; have hw' := hw'.symm; subst hw')
            go_roundw
            case rel => exact ⟨k + 1, by omega, by go_num, HTk, by first | rfl | trivial⟩
            case measure => simp [intOf]; omega
          | false =>
            rw [he] at HWc
            go_wp2_with (go_at_call 31; refine (HWc.out _).mono ?_; rintro e w' ⟨rfl, hw'⟩; have hw' := hw'.symm; subst hw')
            go_ret
            exact ⟨by rw [HR.out, HAt.out he]; rfl, HBz.out⟩
        · obtain rfl : k = l.length := by omega
          have hi : ¬ (l.length : Int) < (l.length : Int) := by omega
          have HF : Hid (l.all (inC cs) = true) := by
            have := HK.out
            rw [List.take_of_length_le (Nat.le_refl _)] at this
            exact this
          go_wp2
          go_ret
          exact ⟨by rw [HR.out, HF.out]; rfl, HBz.out⟩
end Go.Proofs.Ythbfkbkcfcpibaa
