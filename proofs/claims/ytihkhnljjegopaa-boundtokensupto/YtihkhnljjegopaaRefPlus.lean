/- The document's whole numbers: plus. -/
import Derived.Test.YtihkhnljjegopaaBigMem
namespace Go.Proofs.Ytihkhnljjegopaa
set_option linter.unusedSimpArgs false
set_option linter.unusedVariables false
open Go.RowKit

def dg (l : List Nat) (i : Nat) : Nat := (l[i]?).getD 0
theorem val_dg (l : List Nat) (i : Nat) : val (l.drop i) = dg l i + 65536 * val (l.drop (i + 1)) := by
  unfold dg
  rcases Nat.lt_or_ge i l.length with h | h
  · rw [List.getElem?_eq_getElem h]
    exact val_drop (List.getElem?_eq_getElem h)
  · rw [List.getElem?_eq_none h, val_end h, val_end (by omega)]
    rfl
theorem dg_lt {l : List Nat} (h : Dig l) (i : Nat) : dg l i < 65536 := by
  unfold dg
  rcases Nat.lt_or_ge i l.length with h1 | h1
  · rw [List.getElem?_eq_getElem h1]; exact h _ (List.getElem_mem h1)
  · rw [List.getElem?_eq_none h1]; decide
theorem dg_end {l : List Nat} {i : Nat} (h : l.length ≤ i) : dg l i = 0 := by unfold dg; rw [List.getElem?_eq_none h]; rfl
theorem dg_at {l : List Nat} {i x : Nat} (h : l[i]? = some x) : dg l i = x := by unfold dg; rw [h]; rfl

/-- What holds ahead of round i: o is what has been told, c is carried. -/
structure PlusAt (a b o : List Nat) (c i : Nat) : Prop where
  len : o.length = i
  dig : Dig o
  sum : val o + 65536 ^ i * (c + (val (a.drop i) + val (b.drop i))) = val a + val b
  car : c ≤ 1
  lim : i ≤ max a.length b.length ∨ (i ≤ max a.length b.length + 1 ∧ c = 0)
theorem PlusAt.start (a b : List Nat) : PlusAt a b [] 0 0 := ⟨rfl, Dig.nil, by simp [val], by omega, .inl (by omega)⟩
theorem PlusAt.next {a b o : List Nat} {c i : Nat} (h : PlusAt a b o c i) (ha : Dig a) (hb : Dig b) (hi : i < a.length ∨ i < b.length ∨ 0 < c) {d : Nat} (hd : d = c + dg a i + dg b i) : PlusAt a b (o ++ [d % 65536]) (d / 65536) (i + 1) := by
  have ba := dg_lt ha i
  have bb := dg_lt hb i
  have hc := h.car
  refine ⟨by rw [List.length_append, h.len]; rfl, h.dig.snoc (Nat.mod_lt _ (by decide)), ?_, by omega, ?_⟩
  · rw [← h.sum, val_snoc, h.len, val_dg a i, val_dg b i, Nat.pow_succ, Nat.mul_assoc, Nat.add_assoc, ← Nat.mul_add]
    congr 2
    have := Nat.mod_add_div d 65536
    omega
  · rcases Nat.lt_or_ge i (max a.length b.length) with h1 | h1
    · exact .inl h1
    · have ea := dg_end (l := a) (i := i) (by omega)
      have eb := dg_end (l := b) (i := i) (by omega)
      rcases h.lim with h2 | h2
      · exact .inr ⟨by omega, by omega⟩
      · omega
theorem PlusAt.done {a b o : List Nat} {i : Nat} (h : PlusAt a b o 0 i) (h1 : a.length ≤ i) (h2 : b.length ≤ i) : val o = val a + val b ∧ o.length ≤ max a.length b.length + 1 := by
  have := h.sum
  rw [val_end h1, val_end h2] at this
  simp only [Nat.add_zero, Nat.mul_zero] at this
  exact ⟨this, by have := h.len; have := h.lim; omega⟩
theorem plus_mu (M c i d : Nat) (hc : c ≤ 1) (hd : d / 65536 ≤ 1) (h : i < M ∨ (0 < c ∧ d / 65536 = 0)) : 2 * (M - (i + 1)) + d / 65536 < 2 * (M - i) + c := by omega

set_option maxHeartbeats 2000000 in
theorem plus_any {w : World} {u v : Value} {a b : List Nat} (hu : Has elU w u a) (hv : Has elU w v b) (da : Dig a) (db : Dig b) (hm : max a.length b.length < 1000000000) :
    Calls Try.prog 19 #[u, v] w fun e w' => ∃ v, e = .returned v ∧ ∃ l, Grow elU 27 w.heap.size w' v l ∧ Dig l ∧ val l = val a + val b ∧ l.length ≤ max a.length b.length + 1 ∧ Below w.heap.size w w' := by
  obtain ⟨i0, hi0, hz0, hz1, hz2⟩ := info_parts Try.infoU
  obtain ⟨va, vc, rfl, -, -, hlen⟩ := hu.shape
  obtain ⟨ua, uc, rfl, -, -, hlen2⟩ := hv.shape
  have HU := hide hu
  have HV := hide hv
  have HD : Hid (Dig a ∧ Dig b) := ⟨da, db⟩
  clear hu hv da db
  go_enter Try.func19, Try.ntmps19
  go_wp2
  go_loopw [5, 6, 7] (fun v x y wl => ∃ (c i : Nat) (o : List Nat), x = .int .u64 c ∧ y = .int .i64 i ∧ Hid (PlusAt a b o c i) ∧ Hid (Grow elU 27 w.heap.size wl v o) ∧ Hid (Below w.heap.size w wl)) (fun _ x y _ => 2 * (max a.length b.length - (intOf y).toNat) + (intOf x).toNat)
  case atStart => exact ⟨0, 0, [], rfl, rfl, PlusAt.start a b, Grow.nil _ _ _ _, Below.refl _ _⟩
  case round =>
    obtain ⟨c, i, o, rfl, rfl, HP, HG, HB⟩ := hrel
    obtain ⟨oa, oc, rfl, -, -⟩ := HG.out.shape
    have HLn := hide HP.out.len
    rw [HLn.out] at HG ⊢
    have HLim : Hid (i ≤ 1000000001) := by show _ ≤ _; have := HP.out.lim; omega
    have hi0' : (0 : Int) ≤ (i : Int) := by omega
    have HS := hide HB.out.size
    by_cases h1 : i < a.length
    · by_cases h2 : i < b.length
      · have hia : (i : Int) < (a.length : Int) := by omega
        obtain ⟨ab, ao, rfl, -, -, arow⟩ := HU.out.row (by omega)
        obtain ⟨x, hx⟩ : ∃ x, a[i]? = some x := ⟨_, List.getElem?_eq_getElem h1⟩
        have y0 := kept_cell HB.out (arow i x hx 0 _ rfl)
        simp only [elU, Nat.add_zero, Nat.mul_one] at y0
        have HXa : Hid (dg a i = x ∧ x < 65536) := by show _ ∧ _; have := dg_lt HD.out.1 i; rw [dg_at hx] at *; exact ⟨rfl, this⟩
        clear arow hx
        have hib : (i : Int) < (b.length : Int) := by omega
        obtain ⟨bb, bo, rfl, -, -, brow⟩ := HV.out.row (by omega)
        obtain ⟨y, hy⟩ : ∃ y, b[i]? = some y := ⟨_, List.getElem?_eq_getElem h2⟩
        have y1 := kept_cell HB.out (brow i y hy 0 _ rfl)
        simp only [elU, Nat.add_zero, Nat.mul_one] at y1
        have HXb : Hid (dg b i = y ∧ y < 65536) := by show _ ∧ _; have := dg_lt HD.out.2 i; rw [dg_at hy] at *; exact ⟨rfl, this⟩
        clear brow hy
        have e1 : IntKind.u64.wrap ((c : Int) + x) = (c : Int) + x := by rw [IntKind.wrap_u64]; have := HP.out.car; have := HXa.out.2; have := HXb.out.2; omega
        have e2 : IntKind.u64.wrap ((c : Int) + x + y) = (c : Int) + x + y := by rw [IntKind.wrap_u64]; have := HP.out.car; have := HXa.out.2; have := HXb.out.2; omega
        have HN := hide (HP.out.next HD.out.1 HD.out.2 (by omega) (d := c + x + y) (by have := HXa.out.1; have := HXb.out.1; omega))
        have HWq : Hid (IntKind.u64.wrap (((c : Int) + x + y) / 65536) = (((c + x + y) / 65536 : Nat) : Int)) := by show _ = _; rw [IntKind.wrap_u64]; have := HP.out.car; have := HXa.out.2; have := HXb.out.2; omega
        have HWt : Hid (IntKind.u64.wrap (((c : Int) + x + y).tdiv 65536) = (((c + x + y) / 65536 : Nat) : Int)) := by show _ = _; rw [Int.tdiv_eq_ediv_of_nonneg (by omega)]; exact HWq.out
        have HMu := hide (plus_mu (max a.length b.length) c i (c + x + y) HP.out.car HN.out.car (by have := HP.out.car; have := HXa.out.2; have := HXb.out.2; omega))
        have HG2 := hide (HG.out.kept (belo1 wr (.cells #[.int .u64 (((c : Int) + x + y) % 65536)] 27)))
        have HB2 := hide (HB.out.alloc HB.out.size (.cells #[.int .u64 (((c : Int) + x + y) % 65536)] 27))
        have HO : Hid ((c + x + y) % 65536 < 65536) := Nat.mod_lt _ (by decide)
        clear HG HB HXa HXb HP
        go_wp2_with (at_builtin; refine wpList_push (w0 := w) elU rfl _ _ 60 rfl w.heap.size 27 i0 _ 8 Try.underlying60 hi0 hz0 hz1 hz2 rfl (by decide) _ o i HLn.out rfl HG2.out ((c + x + y) % 65536) wr.heap.size 1 rfl (fun j u hu => new_cells j u hu) (by show _ < _; have := HO.out; omega) (by have := HLim.out; omega) HB2.out (by simp; have := HS.out; omega) ?_)
        intro g cap' w1 HG1 HB1 HGr
        clear HGr
        go_wp2
        go_roundw
        case rel => exact ⟨_, i + 1, _, by first | rw [HWq.out] | rw [HWt.out], by go_num, HN, HG1, HB1⟩
        case measure => (simp only [intOf]; (first | rw [HWq.out] | rw [HWt.out]); have := HMu.out; simp only [Int.toNat_natCast]; omega)
      · have hia : (i : Int) < (a.length : Int) := by omega
        obtain ⟨ab, ao, rfl, -, -, arow⟩ := HU.out.row (by omega)
        obtain ⟨x, hx⟩ : ∃ x, a[i]? = some x := ⟨_, List.getElem?_eq_getElem h1⟩
        have y0 := kept_cell HB.out (arow i x hx 0 _ rfl)
        simp only [elU, Nat.add_zero, Nat.mul_one] at y0
        have HXa : Hid (dg a i = x ∧ x < 65536) := by show _ ∧ _; have := dg_lt HD.out.1 i; rw [dg_at hx] at *; exact ⟨rfl, this⟩
        clear arow hx
        have hib : ¬ (i : Int) < (b.length : Int) := by omega
        have HXb : Hid (dg b i = 0) := dg_end (by omega)
        have e1 : IntKind.u64.wrap ((c : Int) + x) = (c : Int) + x := by rw [IntKind.wrap_u64]; have := HP.out.car; have := HXa.out.2; omega
        have HN := hide (HP.out.next HD.out.1 HD.out.2 (by omega) (d := c + x) (by have := HXa.out.1; have := HXb.out; omega))
        have HWq : Hid (IntKind.u64.wrap (((c : Int) + x) / 65536) = (((c + x) / 65536 : Nat) : Int)) := by show _ = _; rw [IntKind.wrap_u64]; have := HP.out.car; have := HXa.out.2; omega
        have HWt : Hid (IntKind.u64.wrap (((c : Int) + x).tdiv 65536) = (((c + x) / 65536 : Nat) : Int)) := by show _ = _; rw [Int.tdiv_eq_ediv_of_nonneg (by omega)]; exact HWq.out
        have HMu := hide (plus_mu (max a.length b.length) c i (c + x) HP.out.car HN.out.car (by have := HP.out.car; have := HXa.out.2; omega))
        have HG2 := hide (HG.out.kept (belo1 wr (.cells #[.int .u64 (((c : Int) + x) % 65536)] 27)))
        have HB2 := hide (HB.out.alloc HB.out.size (.cells #[.int .u64 (((c : Int) + x) % 65536)] 27))
        have HO : Hid ((c + x) % 65536 < 65536) := Nat.mod_lt _ (by decide)
        clear HG HB HXa HXb HP
        go_wp2_with (at_builtin; refine wpList_push (w0 := w) elU rfl _ _ 60 rfl w.heap.size 27 i0 _ 8 Try.underlying60 hi0 hz0 hz1 hz2 rfl (by decide) _ o i HLn.out rfl HG2.out ((c + x) % 65536) wr.heap.size 1 rfl (fun j u hu => new_cells j u hu) (by show _ < _; have := HO.out; omega) (by have := HLim.out; omega) HB2.out (by simp; have := HS.out; omega) ?_)
        intro g cap' w1 HG1 HB1 HGr
        clear HGr
        go_wp2
        go_roundw
        case rel => exact ⟨_, i + 1, _, by first | rw [HWq.out] | rw [HWt.out], by go_num, HN, HG1, HB1⟩
        case measure => (simp only [intOf]; (first | rw [HWq.out] | rw [HWt.out]); have := HMu.out; simp only [Int.toNat_natCast]; omega)
    · by_cases h2 : i < b.length
      · have hia : ¬ (i : Int) < (a.length : Int) := by omega
        have HXa : Hid (dg a i = 0) := dg_end (by omega)
        have hib : (i : Int) < (b.length : Int) := by omega
        obtain ⟨bb, bo, rfl, -, -, brow⟩ := HV.out.row (by omega)
        obtain ⟨y, hy⟩ : ∃ y, b[i]? = some y := ⟨_, List.getElem?_eq_getElem h2⟩
        have y1 := kept_cell HB.out (brow i y hy 0 _ rfl)
        simp only [elU, Nat.add_zero, Nat.mul_one] at y1
        have HXb : Hid (dg b i = y ∧ y < 65536) := by show _ ∧ _; have := dg_lt HD.out.2 i; rw [dg_at hy] at *; exact ⟨rfl, this⟩
        clear brow hy
        have e2 : IntKind.u64.wrap ((c : Int) + y) = (c : Int) + y := by rw [IntKind.wrap_u64]; have := HP.out.car; have := HXb.out.2; omega
        have HN := hide (HP.out.next HD.out.1 HD.out.2 (by omega) (d := c + y) (by have := HXa.out; have := HXb.out.1; omega))
        have HWq : Hid (IntKind.u64.wrap (((c : Int) + y) / 65536) = (((c + y) / 65536 : Nat) : Int)) := by show _ = _; rw [IntKind.wrap_u64]; have := HP.out.car; have := HXb.out.2; omega
        have HWt : Hid (IntKind.u64.wrap (((c : Int) + y).tdiv 65536) = (((c + y) / 65536 : Nat) : Int)) := by show _ = _; rw [Int.tdiv_eq_ediv_of_nonneg (by omega)]; exact HWq.out
        have HMu := hide (plus_mu (max a.length b.length) c i (c + y) HP.out.car HN.out.car (by have := HP.out.car; have := HXb.out.2; omega))
        have HG2 := hide (HG.out.kept (belo1 wr (.cells #[.int .u64 (((c : Int) + y) % 65536)] 27)))
        have HB2 := hide (HB.out.alloc HB.out.size (.cells #[.int .u64 (((c : Int) + y) % 65536)] 27))
        have HO : Hid ((c + y) % 65536 < 65536) := Nat.mod_lt _ (by decide)
        clear HG HB HXa HXb HP
        go_wp2_with (at_builtin; refine wpList_push (w0 := w) elU rfl _ _ 60 rfl w.heap.size 27 i0 _ 8 Try.underlying60 hi0 hz0 hz1 hz2 rfl (by decide) _ o i HLn.out rfl HG2.out ((c + y) % 65536) wr.heap.size 1 rfl (fun j u hu => new_cells j u hu) (by show _ < _; have := HO.out; omega) (by have := HLim.out; omega) HB2.out (by simp; have := HS.out; omega) ?_)
        intro g cap' w1 HG1 HB1 HGr
        clear HGr
        go_wp2
        go_roundw
        case rel => exact ⟨_, i + 1, _, by first | rw [HWq.out] | rw [HWt.out], by go_num, HN, HG1, HB1⟩
        case measure => (simp only [intOf]; (first | rw [HWq.out] | rw [HWt.out]); have := HMu.out; simp only [Int.toNat_natCast]; omega)
      · by_cases h3 : c = 0
        · subst h3
          have hia : ¬ (i : Int) < (a.length : Int) := by omega
          have hib : ¬ (i : Int) < (b.length : Int) := by omega
          have HE := hide (HP.out.done (by omega) (by omega))
          go_wp2
          go_ret
          exact ⟨_, rfl, _, HG.out, HP.out.dig, HE.out.1, HE.out.2, HB.out⟩
        · have hia : ¬ (i : Int) < (a.length : Int) := by omega
          have HXa : Hid (dg a i = 0) := dg_end (by omega)
          have hib : ¬ (i : Int) < (b.length : Int) := by omega
          have HXb : Hid (dg b i = 0) := dg_end (by omega)
          have hil : (i : Int) ≤ 1000000001 := by have := HLim.out; omega
          have hc0 : decide ((0 : Int) < (c : Int)) = true := by simp; omega
          have HN := hide (HP.out.next HD.out.1 HD.out.2 (by omega) (d := c) (by have := HXa.out; have := HXb.out; omega))
          have HWq : Hid (IntKind.u64.wrap (((c : Int)) / 65536) = (((c) / 65536 : Nat) : Int)) := by show _ = _; rw [IntKind.wrap_u64]; have := HP.out.car; omega
          have HWt : Hid (IntKind.u64.wrap (((c : Int)).tdiv 65536) = (((c) / 65536 : Nat) : Int)) := by show _ = _; rw [Int.tdiv_eq_ediv_of_nonneg (by omega)]; exact HWq.out
          have HMu := hide (plus_mu (max a.length b.length) c i (c) HP.out.car HN.out.car (by have := HP.out.car; omega))
          have HG2 := hide (HG.out.kept (belo1 wr (.cells #[.int .u64 (((c : Int)) % 65536)] 27)))
          have HB2 := hide (HB.out.alloc HB.out.size (.cells #[.int .u64 (((c : Int)) % 65536)] 27))
          have HO : Hid ((c) % 65536 < 65536) := Nat.mod_lt _ (by decide)
          clear HG HB HXa HXb HP
          go_wp2_with (at_builtin; refine wpList_push (w0 := w) elU rfl _ _ 60 rfl w.heap.size 27 i0 _ 8 Try.underlying60 hi0 hz0 hz1 hz2 rfl (by decide) _ o i HLn.out rfl HG2.out ((c) % 65536) wr.heap.size 1 rfl (fun j u hu => new_cells j u hu) (by show _ < _; have := HO.out; omega) (by have := HLim.out; omega) HB2.out (by simp; have := HS.out; omega) ?_)
          intro g cap' w1 HG1 HB1 HGr
          clear HGr
          go_wp2
          go_roundw
          case rel => exact ⟨_, i + 1, _, by first | rw [HWq.out] | rw [HWt.out], by go_num, HN, HG1, HB1⟩
          case measure => (simp only [intOf]; (first | rw [HWq.out] | rw [HWt.out]); have := HMu.out; simp only [Int.toNat_natCast]; omega)
end Go.Proofs.Ytihkhnljjegopaa
