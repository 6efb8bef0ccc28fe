/- The document's whole numbers: times. -/
import Derived.Test.YtihkhnljjegopaaRefPlus
namespace Go.Proofs.Ytihkhnljjegopaa
set_option linter.unusedSimpArgs false
set_option linter.unusedVariables false
open Go.RowKit

/-- What holds ahead of round j of a row: o is what has been told, c is carried, x is b's digit number i. -/
structure RowAt (a : List Nat) (x i : Nat) (o : List Nat) (c j : Nat) : Prop where
  len : o.length = i + j
  dig : Dig o
  sum : val o + 65536 ^ (i + j) * (c + x * val (a.drop j)) = 65536 ^ i * (x * val a)
  car : c ≤ 65535
  lim : j ≤ a.length ∨ (j ≤ a.length + 1 ∧ c = 0)
theorem RowAt.start {a : List Nat} {x i : Nat} : RowAt a x i (List.replicate i 0) 0 0 :=
  ⟨by simp, fun d hd => by rw [(List.mem_replicate.1 hd).2]; decide, by rw [val_zeros]; simp, by omega, .inl (by omega)⟩
theorem RowAt.next {a o : List Nat} {x i c j : Nat} (h : RowAt a x i o c j) (ha : Dig a) (hx : x < 65536) (hj : j < a.length ∨ 0 < c) {d : Nat} (hd : d = c + dg a j * x) : RowAt a x i (o ++ [d % 65536]) (d / 65536) (j + 1) := by
  have ba := dg_lt ha j
  have hc := h.car
  have hm : dg a j * x ≤ 65535 * 65535 := Nat.mul_le_mul (by omega) (by omega)
  refine ⟨by rw [List.length_append, h.len]; rfl, h.dig.snoc (Nat.mod_lt _ (by decide)), ?_, by omega, ?_⟩
  · rw [← h.sum, val_snoc, h.len, val_dg a j, ← Nat.add_assoc i j 1, Nat.pow_succ, Nat.mul_assoc, Nat.add_assoc, ← Nat.mul_add]
    congr 2
    have := Nat.mod_add_div d 65536
    rw [Nat.mul_add, Nat.mul_add, ← Nat.mul_assoc x 65536, Nat.mul_comm x 65536, Nat.mul_assoc 65536, Nat.mul_comm x (dg a j)]
    omega
  · rcases Nat.lt_or_ge j a.length with h1 | h1
    · exact .inl h1
    · have ea := dg_end (l := a) (i := j) h1
      rw [ea, Nat.zero_mul, Nat.add_zero] at hd
      rcases h.lim with h2 | h2
      · exact .inr ⟨by omega, by omega⟩
      · omega
theorem RowAt.done {a o : List Nat} {x i j : Nat} (h : RowAt a x i o 0 j) (h1 : a.length ≤ j) : val o = 65536 ^ i * (x * val a) ∧ o.length ≤ i + a.length + 1 := by
  have := h.sum
  rw [val_end h1] at this
  simp only [Nat.add_zero, Nat.mul_zero] at this
  exact ⟨this, by have := h.len; have := h.lim; omega⟩
theorem row_mu (M c j d : Nat) (hd : d / 65536 ≤ 65535) (h : j < M ∨ (0 < c ∧ d / 65536 = 0)) : 65536 * (M - (j + 1)) + d / 65536 < 65536 * (M - j) + c := by omega
theorem times_step {a b : List Nat} {i x : Nat} (h : b[i]? = some x) : val a * val (b.take i) + 65536 ^ i * (x * val a) = val a * val (b.take (i + 1)) := by
  rw [val_take_snoc h, Nat.mul_add, Nat.mul_comm x (val a), ← Nat.mul_assoc, ← Nat.mul_assoc, Nat.mul_comm (val a) (65536 ^ i)]

set_option maxHeartbeats 4000000 in
theorem times_any {w : World} {u v : Value} {a b : List Nat} (hu : Has elU w u a) (hv : Has elU w v b) (da : Dig a) (db : Dig b) (hm : a.length + 2 * b.length < 100000000) :
    Calls Try.prog 25 #[u, v] w fun e w' => ∃ v, e = .returned v ∧ ∃ l, Grow elU 27 w.heap.size w' v l ∧ Dig l ∧ val l = val a * val b ∧ l.length ≤ a.length + 2 * b.length + 1 ∧ Below w.heap.size w w' := by
  obtain ⟨i0, hi0, hz0, hz1, hz2⟩ := info_parts Try.infoU
  obtain ⟨va, vc, rfl, -, -, hlen⟩ := hu.shape
  obtain ⟨ua, uc, rfl, -, -, hlen2⟩ := hv.shape
  have HU := hide hu
  have HV := hide hv
  have HD : Hid (Dig a ∧ Dig b) := ⟨da, db⟩
  have HM := hide hm
  clear hu hv da db hm
  go_enter Try.func25, Try.ntmps25
  go_wp2
  go_loopw [5, 13] (fun v y wl => ∃ (i : Nat) (o : List Nat), i ≤ b.length ∧ y = .int .i64 i ∧ Hid (Dig o ∧ val o = val a * val (b.take i) ∧ o.length ≤ a.length + 2 * i + 1) ∧ Hid (Grow elU 27 w.heap.size wl v o) ∧ Hid (Below w.heap.size w wl)) (fun _ y _ => b.length - (intOf y).toNat)
  case atStart => exact ⟨0, [], by omega, rfl, ⟨Dig.nil, by simp [val], by simp⟩, Grow.nil _ _ _ _, Below.refl _ _⟩
  case round =>
    obtain ⟨i, o, hi, rfl, HP, HG, HB⟩ := hrel
    obtain ⟨oa, oc, rfl, -, -⟩ := HG.out.shape
    by_cases hlt : i < b.length
    · have hi1 : (i : Int) < (b.length : Int) := by omega
      have hi0' : (0 : Int) ≤ (i : Int) := by omega
      obtain ⟨bb, bo, rfl, -, -, brow⟩ := HV.out.row (by omega)
      obtain ⟨x, hx⟩ : ∃ x, b[i]? = some x := ⟨_, List.getElem?_eq_getElem hlt⟩
      have HY0 := hide (kept_cell HB.out (brow i x hx 0 _ rfl))
      simp only [elU, Nat.add_zero, Nat.mul_one] at HY0
      have HX := hide hx
      have HXl := hide (HD.out.2 x (List.mem_of_getElem? hx))
      obtain ⟨ol, hol⟩ : ∃ ol, o.length = ol := ⟨_, rfl⟩
      have HOl : Hid (o.length = ol ∧ ol < 1000000000) := ⟨hol, by have := HP.out.2.2; have := HM.out; omega⟩
      rw [hol] at HG ⊢
      have HU2 := hide (HU.out.kept HB.out)
      clear brow hx hol
      generalize wr = wo at *
      go_wp2
      go_loopw [7, 17] (fun v y wl => ∃ k : Nat, k ≤ i ∧ y = .int .i64 k ∧ Hid (Grow elU 27 wo.heap.size wl v (List.replicate k 0)) ∧ Hid (Below wo.heap.size wo wl)) (fun _ y _ => i - (intOf y).toNat)
      case atStart => exact ⟨0, by omega, rfl, Grow.nil _ _ _ _, Below.refl _ _⟩
      case round =>
        obtain ⟨k, hk, rfl, HK, HBk⟩ := hrel
        obtain ⟨ka, kc, rfl, -, -⟩ := HK.out.shape
        have HKl : Hid ((List.replicate k 0 : List Nat).length = k) := by show _ = _; simp
        rw [HKl.out] at HK ⊢
        by_cases hkl : k < i
        · have hk1 : (k : Int) < (i : Int) := by omega
          have HG2 := hide (HK.out.kept (belo1 wr (.cells #[.int .u64 0] 27)))
          have HB2 := hide (HBk.out.alloc HBk.out.size (.cells #[.int .u64 0] 27))
          have HS := hide HBk.out.size
          have HRp : Hid ((List.replicate (k + 1) 0 : List Nat) = List.replicate k 0 ++ [0]) := List.replicate_succ'
          obtain ⟨z, hz⟩ : ∃ z, List.replicate k (0 : Nat) = z := ⟨_, rfl⟩
          rw [hz] at HG2 HKl HRp
          clear HK HBk hz
          go_wp2_with (at_builtin; refine wpList_push (w0 := wo) elU rfl _ _ 60 rfl wo.heap.size 27 i0 _ 8 Try.underlying60 hi0 hz0 hz1 hz2 rfl (by decide) _ z k HKl.out rfl HG2.out 0 wr.heap.size 1 rfl (fun j u hu => new_cells j u hu) (by show _ < _; omega) (by have := HM.out; omega) HB2.out (by simp; have := HS.out; omega) ?_)
          intro g cap' w1 HG1 HB1 HGr
          clear HGr
          go_wp2
          go_roundw
          case rel => exact ⟨k + 1, by omega, by go_num, by rw [HRp.out]; exact HG1, HB1⟩
          case measure => simp [intOf]; omega
        · obtain rfl : k = i := by omega
          have hk1 : ¬ (k : Int) < (k : Int) := by omega
          go_wp2
          go_loopw [7, 8, 9] (fun v y z wl => ∃ (c j : Nat) (r : List Nat), y = .int .u64 c ∧ z = .int .i64 j ∧ Hid (RowAt a x k r c j) ∧ Hid (Grow elU 27 wo.heap.size wl v r) ∧ Hid (Below wo.heap.size wo wl)) (fun _ y z _ => 65536 * (a.length - (intOf z).toNat) + (intOf y).toNat)
          case atStart => exact ⟨0, 0, _, rfl, rfl, RowAt.start, HK, HBk⟩
          case round =>
            clear HK HBk HKl
            obtain ⟨c, j, r, rfl, rfl, HR, HK, HBk⟩ := hrel
            obtain ⟨ra, rc, rfl, -, -⟩ := HK.out.shape
            have HLn := hide HR.out.len
            have HLim : Hid (j ≤ a.length + 1) := by show _ ≤ _; have := HR.out.lim; omega
            have hj0 : (0 : Int) ≤ (j : Int) := by omega
            have HS := hide HBk.out.size
            by_cases h1 : j < a.length
            · have hja : (j : Int) < (a.length : Int) := by omega
              obtain ⟨ab, ao, rfl, -, -, arow⟩ := HU.out.row (by omega)
              obtain ⟨y, hy⟩ : ∃ y, a[j]? = some y := ⟨_, List.getElem?_eq_getElem h1⟩
              have y0 := kept_cell HBk.out (kept_cell HB.out (arow j y hy 0 _ rfl))
              simp only [elU, Nat.add_zero, Nat.mul_one] at y0
              have y1 := kept_cell HBk.out HY0.out
              obtain ⟨m, hm⟩ : ∃ m, y * x = m := ⟨_, rfl⟩
              have hml : m ≤ 4294836225 := by
                have h3 := HD.out.1 y (List.mem_of_getElem? hy)
                have h4 := HXl.out
                have : y * x ≤ 65535 * 65535 := Nat.mul_le_mul (by omega) (by omega)
                omega
              have hmI : (y : Int) * (x : Int) = (m : Int) := by rw [← hm]; exact (Int.natCast_mul y x).symm
              have hcl := HR.out.car
              have e1 : IntKind.u64.wrap ((y : Int) * (x : Int)) = (m : Int) := by rw [hmI, IntKind.wrap_u64]; omega
              have e2 : IntKind.u64.wrap ((c : Int) + (m : Int)) = (c : Int) + m := by rw [IntKind.wrap_u64]; omega
              have HN := hide (HR.out.next HD.out.1 HXl.out (.inl h1) (d := c + m) (by rw [dg_at hy, hm]))
              have HWq : Hid (IntKind.u64.wrap (((c : Int) + m) / 65536) = (((c + m) / 65536 : Nat) : Int)) := by show _ = _; rw [IntKind.wrap_u64]; omega
              have HWt : Hid (IntKind.u64.wrap (((c : Int) + m).tdiv 65536) = (((c + m) / 65536 : Nat) : Int)) := by show _ = _; rw [Int.tdiv_eq_ediv_of_nonneg (by omega)]; exact HWq.out
              have HMu := hide (row_mu a.length c j (c + m) HN.out.car (.inl h1))
              have HO : Hid ((c + m) % 65536 < 65536) := Nat.mod_lt _ (by decide)
              clear hm hml hmI hy hcl
              go_wp2
              go_region_held3 (fun w' => w'.cell? ⟨ab, ao + j, none⟩ = some (.int .u64 (y : Int)) ∧ w'.cell? ⟨bb, bo + k, none⟩ = some (.int .u64 (x : Int))) (exact ⟨y0, y1⟩) (fail)
              rw [HLn.out] at HK ⊢
              have HG2 := hide ((HK.out.kept (Below.refl _ _).drew).kept (belo1 wr.drew (.cells #[.int .u64 (((c : Int) + m) % 65536)] 27)))
              have HB2 := hide (HBk.out.drew.alloc HBk.out.size (.cells #[.int .u64 (((c : Int) + m) % 65536)] 27))
              go_wp2_with (at_builtin; refine wpList_push (w0 := wo) elU rfl _ _ 60 rfl wo.heap.size 27 i0 _ 8 Try.underlying60 hi0 hz0 hz1 hz2 rfl (by decide) _ r (k + j) HLn.out rfl HG2.out ((c + m) % 65536) wr.drew.heap.size 1 rfl (fun j u hu => new_cells j u hu) (by show _ < _; have := HO.out; omega) (by have := HLim.out; have := HM.out; omega) HB2.out (by simp; have := HS.out; omega) ?_)
              intro g cap' w1 HG1 HB1 HGr
              clear HGr
              go_wp2
              go_roundw
              case rel => exact ⟨_, j + 1, _, by first | rw [HWq.out] | rw [HWt.out], by go_num, HN, HG1, HB1⟩
              case measure => (simp only [intOf]; (first | rw [HWq.out] | rw [HWt.out]); have := HMu.out; simp only [Int.toNat_natCast]; omega)
            · have hja : ¬ (j : Int) < (a.length : Int) := by omega
              by_cases h3 : c = 0
              · subst h3
                have HE := hide (HR.out.done (by omega))
                have HBw := hide (HB.out.trans (HBk.out.mono HB.out.size))
                have HOk := hide ((HG.out.list (by have := HOl.out; omega)).kept HBk.out)
                have HRk := hide (HK.out.list (by have := HLn.out; have := HLim.out; have := HM.out; omega))
                have HPl := hide (plus_any HOk.out HRk.out HP.out.1 HR.out.dig (by have := HOl.out; have := HLn.out; have := HLim.out; have := HM.out; omega))
                have HSt := hide (times_step (a := a) HX.out)
                clear HY0 HK HOk HRk
                go_wp2_with (go_at_call 19; refine HPl.out.mono ?_; rintro e w2 ⟨pv, rfl, l2, hg2, hd2, hv2, hl2, hb2⟩; obtain ⟨pa, pc, rfl, -, -⟩ := hg2.shape; have HGn := hide (hg2.mono HBw.out.size); have HBn := hide (HBw.out.trans (hb2.mono HBw.out.size)); have HPn : Hid (Dig l2 ∧ val l2 = val a * val (b.take (k + 1)) ∧ l2.length ≤ a.length + 2 * (k + 1) + 1) := ⟨hd2, hv2.trans (by rw [HE.out.1, HP.out.2.1]; exact HSt.out), by have := HE.out.2; have := HP.out.2.2; omega⟩; clear hg2 hd2 hv2 hl2 hb2)
                go_roundw
                case rel => exact ⟨k + 1, l2, by omega, by go_num, HPn, HGn, HBn⟩
                case measure => simp [intOf]; omega
              · have hc0 : decide ((0 : Int) < (c : Int)) = true := by simp; omega
                have hjl : (j : Int) ≤ 1000000001 := by have := HLim.out; have := HM.out; omega
                have hcl := HR.out.car
                have HN := hide (HR.out.next HD.out.1 HXl.out (.inr (by omega)) (d := c) (by rw [dg_end (by omega)]; simp))
                have HWq : Hid (IntKind.u64.wrap ((c : Int) / 65536) = ((c / 65536 : Nat) : Int)) := by show _ = _; rw [IntKind.wrap_u64]; omega
                have HWt : Hid (IntKind.u64.wrap ((c : Int).tdiv 65536) = ((c / 65536 : Nat) : Int)) := by show _ = _; rw [Int.tdiv_eq_ediv_of_nonneg (by omega)]; exact HWq.out
                have HMu := hide (row_mu a.length c j c HN.out.car (by omega))
                have HO : Hid (c % 65536 < 65536) := Nat.mod_lt _ (by decide)
                rw [HLn.out] at HK ⊢
                have HG2 := hide (HK.out.kept (belo1 wr (.cells #[.int .u64 ((c : Int) % 65536)] 27)))
                have HB2 := hide (HBk.out.alloc HBk.out.size (.cells #[.int .u64 ((c : Int) % 65536)] 27))
                clear hcl
                go_wp2_with (at_builtin; refine wpList_push (w0 := wo) elU rfl _ _ 60 rfl wo.heap.size 27 i0 _ 8 Try.underlying60 hi0 hz0 hz1 hz2 rfl (by decide) _ r (k + j) HLn.out rfl HG2.out ((c) % 65536) wr.heap.size 1 rfl (fun j u hu => new_cells j u hu) (by show _ < _; have := HO.out; omega) (by have := HLim.out; have := HM.out; omega) HB2.out (by simp; have := HS.out; omega) ?_)
                intro g cap' w1 HG1 HB1 HGr
                clear HGr
                go_wp2
                go_roundw
                case rel => exact ⟨_, j + 1, _, by first | rw [HWq.out] | rw [HWt.out], by go_num, HN, HG1, HB1⟩
                case measure => (simp only [intOf]; (first | rw [HWq.out] | rw [HWt.out]); have := HMu.out; simp only [Int.toNat_natCast]; omega)
    · obtain rfl : i = b.length := by omega
      have hi1 : ¬ (b.length : Int) < (b.length : Int) := by omega
      have HE : Hid (val o = val a * val b) := by show _ = _; rw [HP.out.2.1, List.take_of_length_le (Nat.le_refl _)]
      go_wp2
      go_ret
      exact ⟨_, rfl, _, HG.out, HP.out.1, HE.out, HP.out.2.2, HB.out⟩
end Go.Proofs.Ytihkhnljjegopaa
