/- bound's Firings: the sum of the powers. -/
import Derived.Test.YtihkhnljjegopaaBoundPow
import Derived.Test.YtihkhnljjegopaaBoundSum
import Derived.Test.YtihkhnljjegopaaForms
namespace Go.Proofs.Ytihkhnljjegopaa
set_option linter.unusedSimpArgs false
set_option linter.unusedVariables false
open Go.RowKit

theorem max_cases (n : Int) : (n < 0 ∧ max n 0 = 0) ∨ (¬ n < 0 ∧ max n 0 = n) := by omega

set_option maxHeartbeats 1000000 in
theorem subs_any {d n : Int} (hd : I64 d) (hn : I64 n) (w : World) :
    Calls Try.prog 15 #[.int .i64 d, .int .i64 n] w fun e w' => e = .returned (.int .u64 ((cutN (d.toNat ^ n.toNat) : Nat) : Int)) ∧ w' = w := by
  by_cases d0 : d < 0
  · by_cases n0 : n < 0
    · have e1 : d.toNat = 0 := by omega
      have e2 : n.toNat = 0 := by omega
      rw [e1, e2]
      have HP := hide (bpow_any (a := 0) (n := 0) (by decide) (by decide) w)
      clear e1 e2 hd hn
      go_enter Try.func15, Try.ntmps15
      go_wp2_with (go_at_call 12; refine HP.out.mono ?_; rintro e w2 ⟨rfl, hw⟩; have hw := hw.symm; subst hw)
      go_ret
      exact ⟨rfl, rfl⟩
    · have e1 : d.toNat = 0 := by omega
      obtain ⟨b, rfl⟩ : ∃ b : Nat, n = b := ⟨n.toNat, by omega⟩
      have w2 : IntKind.u64.wrap (b : Int) = (b : Int) := by rw [IntKind.wrap_u64]; have := hn.2; omega
      have e2 : ((b : Int)).toNat = b := Int.toNat_natCast b
      rw [e1, e2]
      have HP := hide (bpow_any (a := 0) (n := b) (by decide) (by have := hn.2; omega) w)
      clear e1 e2 hd hn
      go_enter Try.func15, Try.ntmps15
      go_wp2_with (go_at_call 12; refine HP.out.mono ?_; rintro e w2 ⟨rfl, hw⟩; have hw := hw.symm; subst hw)
      go_ret
      exact ⟨rfl, rfl⟩
  · by_cases n0 : n < 0
    · obtain ⟨a, rfl⟩ : ∃ a : Nat, d = a := ⟨d.toNat, by omega⟩
      have w1 : IntKind.u64.wrap (a : Int) = (a : Int) := by rw [IntKind.wrap_u64]; have := hd.2; omega
      have e1 : ((a : Int)).toNat = a := Int.toNat_natCast a
      have e2 : n.toNat = 0 := by omega
      rw [e1, e2]
      have HP := hide (bpow_any (a := a) (n := 0) (by have := hd.2; omega) (by decide) w)
      clear e1 e2 hd hn
      go_enter Try.func15, Try.ntmps15
      go_wp2_with (go_at_call 12; refine HP.out.mono ?_; rintro e w2 ⟨rfl, hw⟩; have hw := hw.symm; subst hw)
      go_ret
      exact ⟨rfl, rfl⟩
    · obtain ⟨a, rfl⟩ : ∃ a : Nat, d = a := ⟨d.toNat, by omega⟩
      have w1 : IntKind.u64.wrap (a : Int) = (a : Int) := by rw [IntKind.wrap_u64]; have := hd.2; omega
      have e1 : ((a : Int)).toNat = a := Int.toNat_natCast a
      obtain ⟨b, rfl⟩ : ∃ b : Nat, n = b := ⟨n.toNat, by omega⟩
      have w2 : IntKind.u64.wrap (b : Int) = (b : Int) := by rw [IntKind.wrap_u64]; have := hn.2; omega
      have e2 : ((b : Int)).toNat = b := Int.toNat_natCast b
      rw [e1, e2]
      have HP := hide (bpow_any (a := a) (n := b) (by have := hd.2; omega) (by have := hn.2; omega) w)
      clear e1 e2 hd hn
      go_enter Try.func15, Try.ntmps15
      go_wp2_with (go_at_call 12; refine HP.out.mono ?_; rintro e w2 ⟨rfl, hw⟩; have hw := hw.symm; subst hw)
      go_ret
      exact ⟨rfl, rfl⟩
theorem makeU (w : World) (n : Nat) (hn : n < 1073741824) : ∃ o, (Instr.makeSlice 55 (.int .i64 0) (.int .i64 (n : Int))).run Try.prog w = .ok (.slice (some ⟨w.heap.size, 0, none⟩) 0 n) (w.alloc o) ∧ ∀ base, base ≤ w.heap.size → Grow elU 27 base (w.alloc o) (.slice (some ⟨w.heap.size, 0, none⟩) 0 n) [] := by
  obtain ⟨i0, hi0, hz0, hz1, hz2⟩ := info_parts Try.infoU
  have := run_make (P := Try.prog) w 55 27 i0 _ Try.underlying55 hi0 hz0 .i64 .i64 (0 : Int) (n : Int) (by omega) (by omega) (by rw [hz2]; omega) (by omega)
  rw [hz1] at this
  refine ⟨_, by simpa only [Int.toNat_natCast, Int.toNat_zero, Nat.mul_one] using this, fun base hb => ⟨⟨rfl, .inr ⟨_, _, _, rfl, hb, heap_alloc_new _ _, Nat.zero_le _, by unfold maxLen; omega, ?_, rfl⟩⟩, by simp⟩⟩
  show (madeCells (Value.int .u64 0).cells n).size = n * 1
  have e : (madeCells (Value.int .u64 0).cells n).size = (madeCells #[Value.int .u64 0] n).toList.length := by rw [Array.length_toList]; rfl
  rw [e, toList_madeCells_one]
  simp

/-- How many acts the rules may have. -/
def fires (d : Int) (l : List Rul) : Nat := (l.map fun r => d.toNat ^ r.vs.length).sum
theorem fires_snoc (d : Int) {l : List Rul} {k : Nat} {r : Rul} (hx : l[k]? = some r) : fires d (l.take (k + 1)) = fires d (l.take k) + d.toNat ^ r.vs.length := by
  unfold fires
  rw [List.take_add_one, hx]
  simp [List.sum_append]
/-- A list of numbers, each cut, has the sum's cut. -/
theorem sum_cut (l : List Nat) : cutN (l.map cutN).sum = cutN l.sum := by
  induction l with
  | nil => rfl
  | cons a r ih => rw [List.map_cons, List.sum_cons, List.sum_cons, cutN_add, ← cutN_add', ih, cutN_add']
def powsP (d : Int) (l : List Rul) : List Nat := l.map fun r => cutN (d.toNat ^ r.vs.length)
theorem powsP_snoc (d : Int) {l : List Rul} {k : Nat} {r : Rul} (hx : l[k]? = some r) : powsP d (l.take (k + 1)) = powsP d (l.take k) ++ [cutN (d.toNat ^ r.vs.length)] := by
  unfold powsP
  rw [List.take_add_one, hx]
  simp
theorem powsP_sum (d : Int) (l : List Rul) : cutN (powsP d l).sum = cutN (fires d l) := by
  unfold powsP fires
  rw [← sum_cut (l.map fun r => d.toNat ^ r.vs.length), List.map_map]
  rfl

set_option maxHeartbeats 1000000 in
theorem firings_any {w : World} {v : Value} {l : List Rul} (h : Has elRul w v l) {d : Int} (hd : I64 d) :
    Calls Try.prog 8 #[.int .i64 d, v] w fun e w' => e = .returned (.int .u64 ((cutN (fires d l) : Nat) : Int)) ∧ Below w.heap.size w w' := by
  obtain ⟨i0, hi0, hz0, hz1, hz2⟩ := info_parts Try.infoU
  obtain ⟨va, vc, rfl, -, -, hlen⟩ := h.shape
  obtain ⟨o, hmk, hgo⟩ := makeU w l.length hlen
  have HL := hide h
  have HD := hide hd
  have HG0 := hide (hgo w.heap.size (Nat.le_refl _))
  have HB0 := hide (belo1 w o)
  clear h hd hgo
  go_enter Try.func8, Try.ntmps8
  go_wp2
  go_loopw [5, 12] (fun v y wl => ∃ k : Nat, k ≤ l.length ∧ y = .int .i64 k ∧ Hid (Grow elU 27 w.heap.size wl v (powsP d (l.take k))) ∧ Hid (Below w.heap.size w wl)) (fun _ y _ => l.length - (intOf y).toNat)
  case atStart => exact ⟨0, by omega, rfl, HG0, HB0⟩
  case round =>
    clear HG0 HB0 hmk
    obtain ⟨k, hk, rfl, HG, HB⟩ := hrel
    obtain ⟨pa, pc, rfl, -, -⟩ := HG.out.shape
    have HLn : Hid ((powsP d (l.take k)).length = k) := by show _ = _; unfold powsP; simp; omega
    rw [HLn.out] at HG ⊢
    by_cases hlt : k < l.length
    · have hi : (k : Int) < (l.length : Int) := by omega
      have hi0' : (0 : Int) ≤ (k : Int) := by omega
      obtain ⟨b, off, rfl, -, -, hrow⟩ := HL.out.row (by omega)
      obtain ⟨r, hx⟩ : ∃ r, l[k]? = some r := ⟨_, List.getElem?_eq_getElem hlt⟩
      have y0 := kept_cell HB.out (hrow k r hx 5 _ rfl)
      simp only [elRul] at y0
      obtain ⟨ra, rc, hrv, -, -, hrl⟩ := (elRul_ok (HL.out.ok (List.mem_of_getElem? hx))).2.2.2.2.1.shape
      rw [hrv] at y0
      have HP := hide (subs_any HD.out (n := (r.vs.length : Int)) ⟨by omega, by omega⟩ wr)
      rw [Int.toNat_natCast] at HP
      obtain ⟨z, hz⟩ : ∃ z, cutN (d.toNat ^ r.vs.length) = z := ⟨_, rfl⟩
      have HZ : Hid (z < 18446744073709551616) := by rw [← hz]; exact cutN_lt _
      have HTk := hide (powsP_snoc d hx)
      rw [hz] at HP HTk
      have HG2 := hide (HG.out.kept (belo1 wr (.cells #[.int .u64 (z : Int)] 27)))
      have HB2 := hide (HB.out.alloc HB.out.size (.cells #[.int .u64 (z : Int)] 27))
      have HS := hide HB.out.size
      obtain ⟨L, hL⟩ : ∃ L, powsP d (l.take k) = L := ⟨_, rfl⟩
      rw [hL] at HG2 HTk HLn
      clear hrow hx HG hL hz hrv
      go_wp2_with (first
        | (go_at_call 15; refine HP.out.mono ?_; rintro e w2 ⟨rfl, hw⟩; have hw := hw.symm; subst hw)
        | (at_builtin; refine wpList_push (w0 := w) elU rfl _ _ 55 rfl w.heap.size 27 i0 _ 8 Try.underlying55 hi0 hz0 hz1 hz2 rfl (by decide) _ L k HLn.out rfl HG2.out z wr.heap.size 1 rfl (fun j u hu => new_cells j u hu) HZ.out (by omega) HB2.out (by simp; have := HS.out; omega) ?_))
      intro g cap' w1 HG1 HB1 HGr
      clear HGr
      go_wp2
      go_roundw
      case rel => exact ⟨k + 1, by omega, by go_num, by rw [HTk.out]; exact HG1, HB1⟩
      case measure => simp [intOf]; omega
    · obtain rfl : k = l.length := by omega
      have hi : ¬ (l.length : Int) < (l.length : Int) := by omega
      rw [List.take_of_length_le (Nat.le_refl _)] at HG HLn
      have HS := hide (bsum_any (HG.out.list (by rw [HLn.out]; exact hlen)))
      have HE := hide (powsP_sum d l)
      go_wp2_with (go_at_call 16; refine HS.out.mono ?_; rintro e w2 ⟨rfl, hw⟩; have hw := hw.symm; subst hw)
      go_ret
      exact ⟨by rw [← HE.out]; rfl, HB.out⟩
end Go.Proofs.Ytihkhnljjegopaa
