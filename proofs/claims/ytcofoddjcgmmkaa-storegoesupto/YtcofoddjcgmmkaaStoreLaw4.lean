/- edictlaw05.fits, shaped. -/
import Derived.Test.YtcofoddjcgmmkaaStoreLaw3
namespace Go.Proofs.Ytcofoddjcgmmkaa
set_option linter.unusedSimpArgs false
set_option linter.unusedVariables false
open Go.RowKit Go.Maps

def fitsP (ar : List Int) : Bool := decide (ar.length < 128) && !(ar.any badAr)

theorem fits_any {w : World} {ao : Option Addr} {len cap : Nat} {l : List Int} (h : IsInts w ao len l) :
    Calls Try.prog 5 #[.slice ao len cap] w fun e w' => e = .returned (.bool (fitsP l)) ∧ Below w.heap.size w w' := by
  obtain ⟨hl, hlen, hI, hrow⟩ := h
  have HL := hide hl
  have HI := hide hI
  have HR := hide hrow
  clear hl hI hrow
  by_cases h128 : 128 ≤ len
  · have HF : Hid (fitsP l = false) := by show _ = _; unfold fitsP; rw [HL.out]; simp; omega
    have h1 : (128 : Int) ≤ (len : Int) := by omega
    go_enter Try.func5, Try.ntmps5
    go_wp2
    go_ret
    exact ⟨by rw [HF.out]; rfl, Below.refl _ _⟩
  · have h1 : ¬ (128 : Int) ≤ (len : Int) := by omega
    go_enter Try.func5, Try.ntmps5
    go_wp2
    go_loopw [3] (fun i wl => ∃ k : Nat, k ≤ len ∧ i = .int .i64 k ∧ wl = w ∧ Hid ((l.take k).any badAr = false)) (fun i _ => len - (intOf i).toNat)
    case atStart => exact ⟨0, by omega, rfl, rfl, by show (l.take 0).any badAr = false; simp⟩
    case round =>
      obtain ⟨k, hk, rfl, rfl, HA⟩ := hrel
      by_cases hlt : k < len
      · have hi : (k : Int) < (len : Int) := by omega
        have hi0 : (0 : Int) ≤ (k : Int) := by omega
        obtain ⟨b, off, rfl, hc⟩ := HR.out (by omega)
        obtain ⟨x, hx⟩ : ∃ x, l[k]? = some x := ⟨_, List.getElem?_eq_getElem (by rw [HL.out]; omega)⟩
        have ck := hc k x hx
        have HX := hide hx
        clear hc hx
        by_cases hx0 : x < 0
        · have HF : Hid (fitsP l = false) := by show _ = _; unfold fitsP; rw [any_of_at HX.out (by simp [badAr, hx0])]; simp
          go_wp2
          go_ret
          exact ⟨by rw [HF.out]; rfl, Below.refl _ _⟩
        · by_cases hx8 : 8 < x
          · have HF : Hid (fitsP l = false) := by show _ = _; unfold fitsP; rw [any_of_at HX.out (by simp [badAr, hx8])]; simp
            go_wp2
            go_ret
            exact ⟨by rw [HF.out]; rfl, Below.refl _ _⟩
          · have HN : Hid ((l.take (k + 1)).any badAr = false) := by show _ = _; rw [any_take_succ HX.out, HA.out]; simp [badAr]; omega
            go_wp2
            go_roundw
            case rel => exact ⟨k + 1, by omega, by go_num, trivial, HN⟩
            case measure => simp [intOf]; omega
      · obtain rfl : k = len := by omega
        have hi : ¬ (k : Int) < (k : Int) := by omega
        have HF : Hid (fitsP l = true) := by
          show _ = _
          unfold fitsP
          have ha := HA.out
          rw [← HL.out, List.take_length] at ha
          rw [ha, HL.out]
          simp; omega
        go_wp2
        go_ret
        exact ⟨by rw [HF.out]; rfl, Below.refl _ _⟩

/-- A row made such that it may be in a store of these arities and one more predicate without args. -/
def argP (v : Int) : Int := if v < 0 then -(v + 1) else v
def shapeOne (ar : List Int) (r : Rw) : Rw :=
  let p := r.1.emod (ar.length + 1)
  (p, (List.range (ar.getD p.toNat 0).toNat).map (fun j => argP (r.2.getD j 0)))
def shapeP (ar : List Int) (R : List Rw) : List Rw := R.map (shapeOne ar)

theorem argP_I64 {l : List Int} (h : ∀ x ∈ l, I64 x) (j : Nat) : I64 (argP (l.getD j 0)) := by
  have h1 : I64 (l.getD j 0) := by
    cases hj : l[j]? with
    | none => simp only [List.getD, hj, Option.getD_none]; exact ⟨by omega, by omega⟩
    | some x => simp only [List.getD, hj, Option.getD_some]; exact h x (List.mem_of_getElem? hj)
  obtain ⟨h2, h3⟩ := h1
  unfold argP
  split
  · exact ⟨by omega, by omega⟩
  · exact ⟨h2, h3⟩

theorem shaped_push {w wo wr w5 : World} {own : Own} {G : List RV} {ar : List Int} {R : List Rw} {r : Rw} {ma ga : Option Addr} {mc gc k j pn gg cap2 : Nat} {f : Nat → Int} (h1 : G.map RV.rw = shapeP ar (R.take k)) (h2 : wo.ownsRow w.heap.size 31 2 (.slice ma k mc) k (G.flatMap RV.cells))
    (h3 : ∀ g ∈ G, g.ok wo own (Value.slice ma k mc).ownBlock) (h4 : ∀ kk, (Value.slice ma k mc).ownBlock = some kk → own kk = none) (hlim : own.lim w.heap.size) (hsz : w.heap.size ≤ wo.heap.size) (hb : Below wo.heap.size wo wr)
    (ho : wr.ownsRow wo.heap.size 3 1 (.slice ga j gc) j (ints ((List.range j).map f))) (hk : (shapeP ar (R.take k)).length = k) (ht : shapeP ar (R.take (k + 1)) = shapeP ar (R.take k) ++ [shapeOne ar r]) (hs : shapeOne ar r = ((pn : Int), (List.range j).map f))
    (hf : ∀ x, I64 (f x)) (hj : j < 1099511627776) (hp : pn < 1099511627776) (hown : w5.ownsRow w.heap.size 31 2 (.slice (some ⟨gg, 0, none⟩) (k + 1) cap2) (k + 1) (G.flatMap RV.cells ++ [.int .i64 (pn : Int), .slice ga j gc]))
    (hgrow : (wr.alloc (.cells #[.int .i64 (pn : Int), .slice ga j gc] 31)).grownBy w5 (Value.slice ma k mc).ownBlock) (hat : (Value.slice ma k mc).ownBlock = some gg ∨ gg = wr.heap.size + 1) :
    MyRows w5 own w.heap.size (.slice (some ⟨gg, 0, none⟩) (k + 1) cap2) (shapeP ar (R.take (k + 1))) := by
  rw [ht, hs]
  have hbA : Below wr.heap.size wr (wr.alloc (.cells #[.int .i64 (pn : Int), .slice ga j gc] 31)) := (Below.refl _ _).alloc (Nat.le_refl _) _
  have hOwn : ∀ kk, w.heap.size ≤ kk → own kk = none := fun kk h => by
    cases ho : own kk with
    | none => rfl
    | some t => exact absurd (hlim kk (by rw [ho]; simp)) (by omega)
  have hT : Turn (fun _ => False) own own wo (wr.alloc (.cells #[.int .i64 (pn : Int), .slice ga j gc] 31)) := Turn.below (hb.trans (hbA.mono hb.size))
  have hl : ((List.range j).map f).length = j := by simp
  have hI : ∀ x ∈ (List.range j).map f, I64 x := fun x hx => by obtain ⟨i, _, rfl⟩ := List.mem_map.1 hx; exact hf i
  have hii : IsInts wr ga j ((List.range j).map f) := own_isInts ho hI hj
  have hbs := hb.size
  refine MyRows.push (g := ⟨(pn : Int), ga, gc, (List.range j).map f⟩) (v := .slice ma k mc) h1 (fun g hg => (h3 g hg).turn hT) h4 ⟨show I64 (pn : Int) from ⟨by omega, by omega⟩, by simp only [hl]; exact hii.kept hbA, fun hp a ha => ?_⟩ (by simp) (fun kk h => hOwn kk (by omega)) hk (by simp only [RV.cells, hl]; exact hown) hgrow hat
  obtain ⟨ao', cap', e', _, _, hg'⟩ := own_shape6 ho
  cases e'
  obtain ⟨g', rfl, hg2⟩ := hg' a ha
  exact ⟨hOwn g' (by omega), fun e => by have := own_lt6 h2 g' e; omega⟩

set_option maxRecDepth 100000 in
set_option maxHeartbeats 4000000 in
theorem shaped_any {w : World} {own : Own} {aa : Option Addr} {al ac : Nat} {ar : List Int} (ha : IsInts w aa al ar) (hf : fitsP ar = true) {ao : Option Addr} {len cap : Nat} {R : List Rw} (hr : FreeRows w own ao len R) (hlim : own.lim w.heap.size) :
    Calls Try.prog 8 #[.slice aa al ac, .slice ao len cap] w fun e w' => ∃ v, e = .returned v ∧ MyRows w' own w.heap.size v (shapeP ar R) ∧ Below w.heap.size w w' := by
  obtain ⟨i0, hi0, hz0, hz1, hz2⟩ := info_parts Try.infoRow5
  obtain ⟨j0, hj0, hy0, hy1, hy2⟩ := info_parts Try.infoInt5
  have HR := hide hr
  have HA := hide ha
  have HLim := hide hlim
  have HF := hide hf
  have hlen := hr.2.1
  have hal := ha.2.1
  clear hr ha hlim hf
  go_enter Try.func8, Try.ntmps8
  go_wp2
  -- L
  go_loopw [5, 6, 7, 8, 9, 10] (fun m i _ _ _ _ wl => ∃ k : Nat, k ≤ len ∧ i = .int .i64 k ∧ Hid (MyRows wl own w.heap.size m (shapeP ar (R.take k))) ∧ Hid (Below w.heap.size w wl)) (fun _ i _ _ _ _ _ => len - (intOf i).toNat)
  case atStart => exact ⟨0, by omega, rfl, MyRows.nil _ _ _, Below.refl _ _⟩
  case round =>
    obtain ⟨k, hk, rfl, HM, HBo⟩ := hrel
    generalize wr = wo at *
    by_cases hlt : k < len
    · have hi : (k : Int) < (len : Int) := by omega
      have hi1 : (0 : Int) ≤ (k : Int) := by omega
      obtain ⟨b1, o1, rfl, hn1, hr1⟩ := HR.out.2.2.2 (by omega)
      obtain ⟨r, hr⟩ : ∃ r, R[k]? = some r := ⟨_, List.getElem?_eq_getElem (by rw [HR.out.1]; omega)⟩
      obtain ⟨y0, ra, rc, y1, hfi⟩ := hr1 k r hr
      have x0 := kept_cell HBo.out y0
      have x1 := kept_cell HBo.out y1
      have hkl : (shapeP ar (R.take k)).length = k := by unfold shapeP; rw [List.length_map, List.length_take, HR.out.1]; omega
      have HTk : Hid (shapeP ar (R.take (k + 1)) = shapeP ar (R.take k) ++ [shapeOne ar r]) := by show _ = _; unfold shapeP; rw [List.take_add_one, hr, List.map_append]; rfl
      have HFi := hide hfi
      obtain ⟨hq1, hq2⟩ := HR.out.2.2.1 r (List.mem_of_getElem? hr)
      obtain ⟨ma, mc, rfl, -⟩ := HM.out.shape
      rw [hkl] at HM ⊢
      have HKl := hide hkl
      have hal2 : al < 128 := by have := HF.out; unfold fitsP at this; rw [HA.out.1] at this; simp at this; exact this.1
      obtain ⟨pn, hpn⟩ : ∃ pn : Nat, r.1.emod ((al : Int) + 1) = pn := ⟨(r.1.emod ((al : Int) + 1)).toNat, by have := Int.emod_nonneg r.1 (show (al : Int) + 1 ≠ 0 by omega); exact (Int.toNat_of_nonneg this).symm⟩
      have hpl : pn ≤ al := by have := Int.emod_lt_of_pos r.1 (show (0 : Int) < (al : Int) + 1 by omega); have e : r.1 % ((al : Int) + 1) = pn := hpn; omega
      obtain ⟨f, HFd⟩ : ∃ f : Nat → Int, Hid ((fun j => argP (r.2.getD j 0)) = f) := ⟨_, rfl⟩
      obtain ⟨na, hna⟩ : ∃ na, (ar.getD pn 0).toNat = na := ⟨_, rfl⟩
      have HSh : Hid (shapeOne ar r = ((pn : Int), (List.range na).map f)) := by
        show _ = _
        unfold shapeOne
        rw [HA.out.1, ← HFd.out, hpn, ← hna]
        rfl
      have HNa : Hid (0 < na → pn < al ∧ ∃ a : Int, a = na ∧ ar[pn]? = some a) := fun h0 => by
        cases hp : ar[pn]? with
        | none => rw [← hna] at h0; simp [List.getD, hp] at h0
        | some a =>
          have hlt := (List.getElem?_eq_some_iff.1 hp).1
          refine ⟨by rw [← HA.out.1]; exact hlt, a, ?_, rfl⟩
          have h0' : 0 < (ar.getD pn 0).toNat := by rw [hna]; exact h0
          have e : ar.getD pn 0 = a := by simp [List.getD, hp]
          rw [← hna, e]
          rw [e] at h0'
          omega
      have HNz : Hid (na ≤ 8 ∧ (pn < al → ∃ a : Int, a = na ∧ ar[pn]? = some a)) := by
        have hfa := HF.out
        unfold fitsP at hfa
        simp only [Bool.and_eq_true, Bool.not_eq_true', List.any_eq_false] at hfa
        constructor
        · rw [← hna]
          cases hp : ar[pn]? with
          | none => simp [List.getD, hp]
          | some a =>
            have := hfa.2 a (List.mem_of_getElem? hp)
            simp [badAr] at this
            simp [List.getD, hp]
            omega
        · intro hlt
          cases hp : ar[pn]? with
          | none => have := List.getElem?_eq_none_iff.1 hp; rw [HA.out.1] at this; omega
          | some a =>
            have := hfa.2 a (List.mem_of_getElem? hp)
            simp [badAr] at this
            refine ⟨a, ?_, rfl⟩
            rw [← hna]
            simp [List.getD, hp]
            omega
      have hna8 := HNz.out.1
      have hb1 : b1 < w.heap.size := lt_of_cell y0
      have hsz := HBo.out.size
      clear hr1 hr y0 y1 hfi hn1 hkl hna
      obtain ⟨t, ht⟩ : ∃ t, r.1.tmod ((al : Int) + 1) = t := ⟨_, rfl⟩
      have hte : t = if t < 0 then (pn : Int) - ((al : Int) + 1) else pn := by
        have h := @Int.tmod_eq_emod r.1 ((al : Int) + 1)
        have e : r.1 % ((al : Int) + 1) = pn := hpn
        have h3 : ((((al : Int) + 1).natAbs : Nat) : Int) = (al : Int) + 1 := by omega
        rw [ht, e] at h
        split at h <;> split <;> omega
      have hn0 : ¬ (al : Int) + 1 = 0 := by omega
      by_cases ht0 : t < 0
      · rw [if_pos ht0] at hte
        have hdt : decide ((pn : Int) - ((al : Int) + 1) < 0) = true := by simp; omega
        go_upto_region 8 with fail
        have e7 : (pn : Int) - ((al : Int) + 1) + (al : Int) + 1 = pn := by omega
        rw [e7]
        clear e7 ht hte ht0
        go_wp2
        go_loopw [8, 9, 10] (fun o c _ wl => ∃ j : Nat, j ≤ na ∧ c = .int .i64 j ∧ Hid (wl.ownsRow wo.heap.size 3 1 o j (ints ((List.range j).map f))) ∧ Hid (Below wo.heap.size wo wl)) (fun _ c _ _ => na - (intOf c).toNat)
        case atStart => exact ⟨0, by omega, rfl, World.ownsRow_nil _ _ _ _, Below.refl _ _⟩
        case round =>
          obtain ⟨j, hj, rfl, HO, HBj⟩ := hrel
          obtain ⟨ga, gc, rfl, -, -, -⟩ := own_shape6 HO.out
          have HBw := hide (HBo.out.trans (HBj.out.mono HBo.out.size))
          by_cases hlt2 : j < na
          · obtain ⟨hpl, a, han, hac⟩ := HNa.out (by omega)
            have hj1 : (j : Int) < a := by omega
            have hj0' : (0 : Int) ≤ (j : Int) := by omega
            have hpl1 : (pn : Int) < (al : Int) := by omega
            obtain ⟨ba, oa, rfl, hca⟩ := HA.out.2.2.2 (by omega)
            have a0 := kept_cell HBw.out (hca pn a hac)
            have z1 := kept_cell HBj.out x1
            obtain ⟨xs, hxs⟩ : ∃ xs, ints ((List.range j).map f) = xs := ⟨_, rfl⟩
            have HFk : Hid (ints ((List.range (j + 1)).map f) = ints ((List.range j).map f) ++ [.int .i64 (f j)]) := by show _ = _; rw [List.range_succ, List.map_append]; simp [ints]
            rw [hxs] at HO HFk
            clear hca hac hxs
            by_cases hjl : j < r.2.length
            · obtain ⟨br, orr, rfl, hcr⟩ := HFi.out.1.2.2.2 (by omega)
              obtain ⟨v, hv⟩ : ∃ v, r.2[j]? = some v := ⟨_, List.getElem?_eq_getElem hjl⟩
              have r0 := kept_cell HBw.out (hcr j v hv)
              have hjl1 : (j : Int) < (r.2.length : Int) := by omega
              obtain ⟨hv1, hv2⟩ := HFi.out.1.2.2.1 v (List.mem_of_getElem? hv)
              have HFv : Hid (f j = argP v) := by show _ = _; rw [← HFd.out]; simp only [List.getD, hv, Option.getD_some]
              clear hcr hv
              by_cases hv0 : v < 0
              · have HFv2 : Hid (f j = -(v + 1)) := by show _ = _; rw [HFv.out]; unfold argP; rw [if_pos hv0]
                rw [HFv2.out] at HFk
                go_wp2_with (first
                  | (at_builtin; refine wpList_append_any rfl _ _ 22 rfl wo.heap.size 3 j0 (.int .i64 0) 1 8 Try.underlying22 hj0 hy0 hy1 hy2 rfl (by decide) _ j xs rfl (own_kept6 HO.out ((Below.refl _ _).alloc (Nat.le_refl _) _)) (some ⟨wr.heap.size, 0, none⟩) 1 1 [.int .i64 (-(v + 1))] rfl (fun h => by cases h) rfl (fun ad h => by cases h; exact World.news_of_block (cs := #[.int .i64 (-(v + 1))]) (t := 3) (fr := (0, 0)) (heap_alloc_new wr _)) (by simp [Value.oneCell']) (by unfold maxLen; omega) (by omega) (by simp; have := HBj.out.size; omega) ?_))
                intro v3 w3 hown3 hgrow
                have hB3 : Below wo.heap.size wo w3 := below_grown (HBj.out.alloc HBj.out.size _) (own_kept6 HO.out ((Below.refl _ _).alloc (Nat.le_refl _) (.cells #[.int .i64 (-(v + 1))] 3))) hgrow (by simp; have := HBj.out.size; omega)
                have HO3 := hide hown3
                have HB3 := hide hB3
                clear hown3 hgrow hB3
                go_wp2
                go_roundw
                case rel => exact ⟨j + 1, by omega, by go_num, by show World.ownsRow _ _ _ _ _ _ _; rw [HFk.out]; exact HO3.out, HB3.out⟩
                case measure => simp [intOf]; omega
              · have HFv2 : Hid (f j = v) := by show _ = _; rw [HFv.out]; unfold argP; rw [if_neg hv0]
                rw [HFv2.out] at HFk
                go_wp2_with (first
                  | (at_builtin; refine wpList_append_any rfl _ _ 22 rfl wo.heap.size 3 j0 (.int .i64 0) 1 8 Try.underlying22 hj0 hy0 hy1 hy2 rfl (by decide) _ j xs rfl (own_kept6 HO.out ((Below.refl _ _).alloc (Nat.le_refl _) _)) (some ⟨wr.heap.size, 0, none⟩) 1 1 [.int .i64 (v)] rfl (fun h => by cases h) rfl (fun ad h => by cases h; exact World.news_of_block (cs := #[.int .i64 (v)]) (t := 3) (fr := (0, 0)) (heap_alloc_new wr _)) (by simp [Value.oneCell']) (by unfold maxLen; omega) (by omega) (by simp; have := HBj.out.size; omega) ?_))
                intro v3 w3 hown3 hgrow
                have hB3 : Below wo.heap.size wo w3 := below_grown (HBj.out.alloc HBj.out.size _) (own_kept6 HO.out ((Below.refl _ _).alloc (Nat.le_refl _) (.cells #[.int .i64 (v)] 3))) hgrow (by simp; have := HBj.out.size; omega)
                have HO3 := hide hown3
                have HB3 := hide hB3
                clear hown3 hgrow hB3
                go_wp2
                go_roundw
                case rel => exact ⟨j + 1, by omega, by go_num, by show World.ownsRow _ _ _ _ _ _ _; rw [HFk.out]; exact HO3.out, HB3.out⟩
                case measure => simp [intOf]; omega
            · have hjl1 : ¬ (j : Int) < (r.2.length : Int) := by omega
              have HFv2 : Hid (f j = 0) := by
                show _ = _
                rw [← HFd.out]
                simp only [List.getD, List.getElem?_eq_none (show r.2.length ≤ j by omega), Option.getD_none]
                rfl
              rw [HFv2.out] at HFk
              go_wp2_with (first
                | (at_builtin; refine wpList_append_any rfl _ _ 22 rfl wo.heap.size 3 j0 (.int .i64 0) 1 8 Try.underlying22 hj0 hy0 hy1 hy2 rfl (by decide) _ j xs rfl (own_kept6 HO.out ((Below.refl _ _).alloc (Nat.le_refl _) _)) (some ⟨wr.heap.size, 0, none⟩) 1 1 [.int .i64 (0)] rfl (fun h => by cases h) rfl (fun ad h => by cases h; exact World.news_of_block (cs := #[.int .i64 (0)]) (t := 3) (fr := (0, 0)) (heap_alloc_new wr _)) (by simp [Value.oneCell']) (by unfold maxLen; omega) (by omega) (by simp; have := HBj.out.size; omega) ?_))
              intro v3 w3 hown3 hgrow
              have hB3 : Below wo.heap.size wo w3 := below_grown (HBj.out.alloc HBj.out.size _) (own_kept6 HO.out ((Below.refl _ _).alloc (Nat.le_refl _) (.cells #[.int .i64 (0)] 3))) hgrow (by simp; have := HBj.out.size; omega)
              have HO3 := hide hown3
              have HB3 := hide hB3
              clear hown3 hgrow hB3
              go_wp2
              go_roundw
              case rel => exact ⟨j + 1, by omega, by go_num, by show World.ownsRow _ _ _ _ _ _ _; rw [HFk.out]; exact HO3.out, HB3.out⟩
              case measure => simp [intOf]; omega
          · obtain rfl : j = na := by omega
            have hcond : (pn < al ∧ ∃ a : Int, a = j ∧ ar[pn]? = some a) ∨ pn = al := by
              rcases Nat.lt_or_ge pn al with h | h
              · exact .inl ⟨h, HNz.out.2 h⟩
              · exact .inr (by omega)
            obtain ⟨G, hG1, hG2, hG3, hG4⟩ := HM.out
            rw [HKl.out] at hG2
            have HG1 := hide hG1
            have HG2 := hide hG2
            have HG3 := hide hG3
            have HG4 := hide hG4
            have hszj := HBj.out.size
            have HG2' := hide (own_kept6 (own_kept6 HG2.out HBj.out) ((Below.refl _ _).alloc (Nat.le_refl _) (.cells #[.int .i64 (pn : Int), .slice ga j gc] 31)))
            clear hG1 hG2 hG3 hG4
            rcases hcond with ⟨hpa, a, haj, hac⟩ | hpa
            · have hpl1 : (pn : Int) < (al : Int) := by omega
              have hpl0 : (0 : Int) ≤ (pn : Int) := by omega
              obtain ⟨ba, oa, rfl, hca⟩ := HA.out.2.2.2 (by omega)
              have a0 := kept_cell HBw.out (hca pn a hac)
              have hja : ¬ (j : Int) < a := by omega
              clear hca hac
              go_wp2_with (first
                | (at_builtin; refine wpList_append_lies _ rfl _ _ 23 rfl w.heap.size 31 i0 _ 2 32 Try.underlying23 hi0 hz0 hz1 hz2 rfl (by decide) _ k (G.flatMap RV.cells) rfl HG2'.out ⟨wr.heap.size, 0, none⟩ 1 1 [.int .i64 (pn : Int), .slice ga j gc] rfl rfl (World.news_of_block (cs := #[.int .i64 (pn : Int), .slice ga j gc]) (t := 31) (fr := (0, 0)) (heap_alloc_new wr _)) (by simp [Value.oneCell']) (by omega) (by unfold maxLen; omega) (by omega) (by simp; omega) (wr.heap.size + 1) (by simp) ?_))
              intro gg cap2 w5 hown1 hgrow hat hlt1
              have hb5 : Below w.heap.size w w5 := below_grown (HBw.out.alloc HBw.out.size _) HG2'.out hgrow (by simp; omega)
              have HPush : Hid (MyRows w5 own w.heap.size (.slice (some ⟨gg, 0, none⟩) (k + 1) cap2) (shapeP ar (R.take (k + 1)))) := shaped_push HG1.out HG2.out HG3.out HG4.out HLim.out hsz HBj.out HO.out HKl.out HTk.out HSh.out (fun x => by rw [← HFd.out]; exact argP_I64 HFi.out.1.2.2.1 x) (by omega) (by omega) hown1 hgrow hat
              have HB5 := hide hb5
              clear hown1 hgrow hat hlt1 hb5
              go_wp2
              go_roundw
              case rel => exact ⟨k + 1, by omega, by go_num, HPush, HB5⟩
              case measure => simp [intOf]; omega
            · have hpl1 : ¬ (pn : Int) < (al : Int) := by omega
              clear hpa
              go_wp2_with (first
                | (at_builtin; refine wpList_append_lies _ rfl _ _ 23 rfl w.heap.size 31 i0 _ 2 32 Try.underlying23 hi0 hz0 hz1 hz2 rfl (by decide) _ k (G.flatMap RV.cells) rfl HG2'.out ⟨wr.heap.size, 0, none⟩ 1 1 [.int .i64 (pn : Int), .slice ga j gc] rfl rfl (World.news_of_block (cs := #[.int .i64 (pn : Int), .slice ga j gc]) (t := 31) (fr := (0, 0)) (heap_alloc_new wr _)) (by simp [Value.oneCell']) (by omega) (by unfold maxLen; omega) (by omega) (by simp; omega) (wr.heap.size + 1) (by simp) ?_))
              intro gg cap2 w5 hown1 hgrow hat hlt1
              have hb5 : Below w.heap.size w w5 := below_grown (HBw.out.alloc HBw.out.size _) HG2'.out hgrow (by simp; omega)
              have HPush : Hid (MyRows w5 own w.heap.size (.slice (some ⟨gg, 0, none⟩) (k + 1) cap2) (shapeP ar (R.take (k + 1)))) := shaped_push HG1.out HG2.out HG3.out HG4.out HLim.out hsz HBj.out HO.out HKl.out HTk.out HSh.out (fun x => by rw [← HFd.out]; exact argP_I64 HFi.out.1.2.2.1 x) (by omega) (by omega) hown1 hgrow hat
              have HB5 := hide hb5
              clear hown1 hgrow hat hlt1 hb5
              go_wp2
              go_roundw
              case rel => exact ⟨k + 1, by omega, by go_num, HPush, HB5⟩
              case measure => simp [intOf]; omega
      · rw [if_neg ht0] at hte
        subst hte
        clear ht0
        go_wp2
        go_loopw [8, 9, 10] (fun o c _ wl => ∃ j : Nat, j ≤ na ∧ c = .int .i64 j ∧ Hid (wl.ownsRow wo.heap.size 3 1 o j (ints ((List.range j).map f))) ∧ Hid (Below wo.heap.size wo wl)) (fun _ c _ _ => na - (intOf c).toNat)
        case atStart => exact ⟨0, by omega, rfl, World.ownsRow_nil _ _ _ _, Below.refl _ _⟩
        case round =>
          obtain ⟨j, hj, rfl, HO, HBj⟩ := hrel
          obtain ⟨ga, gc, rfl, -, -, -⟩ := own_shape6 HO.out
          have HBw := hide (HBo.out.trans (HBj.out.mono HBo.out.size))
          by_cases hlt2 : j < na
          · obtain ⟨hpl, a, han, hac⟩ := HNa.out (by omega)
            have hj1 : (j : Int) < a := by omega
            have hj0' : (0 : Int) ≤ (j : Int) := by omega
            have hpl1 : (pn : Int) < (al : Int) := by omega
            obtain ⟨ba, oa, rfl, hca⟩ := HA.out.2.2.2 (by omega)
            have a0 := kept_cell HBw.out (hca pn a hac)
            have z1 := kept_cell HBj.out x1
            obtain ⟨xs, hxs⟩ : ∃ xs, ints ((List.range j).map f) = xs := ⟨_, rfl⟩
            have HFk : Hid (ints ((List.range (j + 1)).map f) = ints ((List.range j).map f) ++ [.int .i64 (f j)]) := by show _ = _; rw [List.range_succ, List.map_append]; simp [ints]
            rw [hxs] at HO HFk
            clear hca hac hxs
            by_cases hjl : j < r.2.length
            · obtain ⟨br, orr, rfl, hcr⟩ := HFi.out.1.2.2.2 (by omega)
              obtain ⟨v, hv⟩ : ∃ v, r.2[j]? = some v := ⟨_, List.getElem?_eq_getElem hjl⟩
              have r0 := kept_cell HBw.out (hcr j v hv)
              have hjl1 : (j : Int) < (r.2.length : Int) := by omega
              obtain ⟨hv1, hv2⟩ := HFi.out.1.2.2.1 v (List.mem_of_getElem? hv)
              have HFv : Hid (f j = argP v) := by show _ = _; rw [← HFd.out]; simp only [List.getD, hv, Option.getD_some]
              clear hcr hv
              by_cases hv0 : v < 0
              · have HFv2 : Hid (f j = -(v + 1)) := by show _ = _; rw [HFv.out]; unfold argP; rw [if_pos hv0]
                rw [HFv2.out] at HFk
                go_wp2_with (first
                  | (at_builtin; refine wpList_append_any rfl _ _ 22 rfl wo.heap.size 3 j0 (.int .i64 0) 1 8 Try.underlying22 hj0 hy0 hy1 hy2 rfl (by decide) _ j xs rfl (own_kept6 HO.out ((Below.refl _ _).alloc (Nat.le_refl _) _)) (some ⟨wr.heap.size, 0, none⟩) 1 1 [.int .i64 (-(v + 1))] rfl (fun h => by cases h) rfl (fun ad h => by cases h; exact World.news_of_block (cs := #[.int .i64 (-(v + 1))]) (t := 3) (fr := (0, 0)) (heap_alloc_new wr _)) (by simp [Value.oneCell']) (by unfold maxLen; omega) (by omega) (by simp; have := HBj.out.size; omega) ?_))
                intro v3 w3 hown3 hgrow
                have hB3 : Below wo.heap.size wo w3 := below_grown (HBj.out.alloc HBj.out.size _) (own_kept6 HO.out ((Below.refl _ _).alloc (Nat.le_refl _) (.cells #[.int .i64 (-(v + 1))] 3))) hgrow (by simp; have := HBj.out.size; omega)
                have HO3 := hide hown3
                have HB3 := hide hB3
                clear hown3 hgrow hB3
                go_wp2
                go_roundw
                case rel => exact ⟨j + 1, by omega, by go_num, by show World.ownsRow _ _ _ _ _ _ _; rw [HFk.out]; exact HO3.out, HB3.out⟩
                case measure => simp [intOf]; omega
              · have HFv2 : Hid (f j = v) := by show _ = _; rw [HFv.out]; unfold argP; rw [if_neg hv0]
                rw [HFv2.out] at HFk
                go_wp2_with (first
                  | (at_builtin; refine wpList_append_any rfl _ _ 22 rfl wo.heap.size 3 j0 (.int .i64 0) 1 8 Try.underlying22 hj0 hy0 hy1 hy2 rfl (by decide) _ j xs rfl (own_kept6 HO.out ((Below.refl _ _).alloc (Nat.le_refl _) _)) (some ⟨wr.heap.size, 0, none⟩) 1 1 [.int .i64 (v)] rfl (fun h => by cases h) rfl (fun ad h => by cases h; exact World.news_of_block (cs := #[.int .i64 (v)]) (t := 3) (fr := (0, 0)) (heap_alloc_new wr _)) (by simp [Value.oneCell']) (by unfold maxLen; omega) (by omega) (by simp; have := HBj.out.size; omega) ?_))
                intro v3 w3 hown3 hgrow
                have hB3 : Below wo.heap.size wo w3 := below_grown (HBj.out.alloc HBj.out.size _) (own_kept6 HO.out ((Below.refl _ _).alloc (Nat.le_refl _) (.cells #[.int .i64 (v)] 3))) hgrow (by simp; have := HBj.out.size; omega)
                have HO3 := hide hown3
                have HB3 := hide hB3
                clear hown3 hgrow hB3
                go_wp2
                go_roundw
                case rel => exact ⟨j + 1, by omega, by go_num, by show World.ownsRow _ _ _ _ _ _ _; rw [HFk.out]; exact HO3.out, HB3.out⟩
                case measure => simp [intOf]; omega
            · have hjl1 : ¬ (j : Int) < (r.2.length : Int) := by omega
              have HFv2 : Hid (f j = 0) := by
                show _ = _
                rw [← HFd.out]
                simp only [List.getD, List.getElem?_eq_none (show r.2.length ≤ j by omega), Option.getD_none]
                rfl
              rw [HFv2.out] at HFk
              go_wp2_with (first
                | (at_builtin; refine wpList_append_any rfl _ _ 22 rfl wo.heap.size 3 j0 (.int .i64 0) 1 8 Try.underlying22 hj0 hy0 hy1 hy2 rfl (by decide) _ j xs rfl (own_kept6 HO.out ((Below.refl _ _).alloc (Nat.le_refl _) _)) (some ⟨wr.heap.size, 0, none⟩) 1 1 [.int .i64 (0)] rfl (fun h => by cases h) rfl (fun ad h => by cases h; exact World.news_of_block (cs := #[.int .i64 (0)]) (t := 3) (fr := (0, 0)) (heap_alloc_new wr _)) (by simp [Value.oneCell']) (by unfold maxLen; omega) (by omega) (by simp; have := HBj.out.size; omega) ?_))
              intro v3 w3 hown3 hgrow
              have hB3 : Below wo.heap.size wo w3 := below_grown (HBj.out.alloc HBj.out.size _) (own_kept6 HO.out ((Below.refl _ _).alloc (Nat.le_refl _) (.cells #[.int .i64 (0)] 3))) hgrow (by simp; have := HBj.out.size; omega)
              have HO3 := hide hown3
              have HB3 := hide hB3
              clear hown3 hgrow hB3
              go_wp2
              go_roundw
              case rel => exact ⟨j + 1, by omega, by go_num, by show World.ownsRow _ _ _ _ _ _ _; rw [HFk.out]; exact HO3.out, HB3.out⟩
              case measure => simp [intOf]; omega
          · obtain rfl : j = na := by omega
            have hcond : (pn < al ∧ ∃ a : Int, a = j ∧ ar[pn]? = some a) ∨ pn = al := by
              rcases Nat.lt_or_ge pn al with h | h
              · exact .inl ⟨h, HNz.out.2 h⟩
              · exact .inr (by omega)
            obtain ⟨G, hG1, hG2, hG3, hG4⟩ := HM.out
            rw [HKl.out] at hG2
            have HG1 := hide hG1
            have HG2 := hide hG2
            have HG3 := hide hG3
            have HG4 := hide hG4
            have hszj := HBj.out.size
            have HG2' := hide (own_kept6 (own_kept6 HG2.out HBj.out) ((Below.refl _ _).alloc (Nat.le_refl _) (.cells #[.int .i64 (pn : Int), .slice ga j gc] 31)))
            clear hG1 hG2 hG3 hG4
            rcases hcond with ⟨hpa, a, haj, hac⟩ | hpa
            · have hpl1 : (pn : Int) < (al : Int) := by omega
              have hpl0 : (0 : Int) ≤ (pn : Int) := by omega
              obtain ⟨ba, oa, rfl, hca⟩ := HA.out.2.2.2 (by omega)
              have a0 := kept_cell HBw.out (hca pn a hac)
              have hja : ¬ (j : Int) < a := by omega
              clear hca hac
              go_wp2_with (first
                | (at_builtin; refine wpList_append_lies _ rfl _ _ 23 rfl w.heap.size 31 i0 _ 2 32 Try.underlying23 hi0 hz0 hz1 hz2 rfl (by decide) _ k (G.flatMap RV.cells) rfl HG2'.out ⟨wr.heap.size, 0, none⟩ 1 1 [.int .i64 (pn : Int), .slice ga j gc] rfl rfl (World.news_of_block (cs := #[.int .i64 (pn : Int), .slice ga j gc]) (t := 31) (fr := (0, 0)) (heap_alloc_new wr _)) (by simp [Value.oneCell']) (by omega) (by unfold maxLen; omega) (by omega) (by simp; omega) (wr.heap.size + 1) (by simp) ?_))
              intro gg cap2 w5 hown1 hgrow hat hlt1
              have hb5 : Below w.heap.size w w5 := below_grown (HBw.out.alloc HBw.out.size _) HG2'.out hgrow (by simp; omega)
              have HPush : Hid (MyRows w5 own w.heap.size (.slice (some ⟨gg, 0, none⟩) (k + 1) cap2) (shapeP ar (R.take (k + 1)))) := shaped_push HG1.out HG2.out HG3.out HG4.out HLim.out hsz HBj.out HO.out HKl.out HTk.out HSh.out (fun x => by rw [← HFd.out]; exact argP_I64 HFi.out.1.2.2.1 x) (by omega) (by omega) hown1 hgrow hat
              have HB5 := hide hb5
              clear hown1 hgrow hat hlt1 hb5
              go_wp2
              go_roundw
              case rel => exact ⟨k + 1, by omega, by go_num, HPush, HB5⟩
              case measure => simp [intOf]; omega
            · have hpl1 : ¬ (pn : Int) < (al : Int) := by omega
              clear hpa
              go_wp2_with (first
                | (at_builtin; refine wpList_append_lies _ rfl _ _ 23 rfl w.heap.size 31 i0 _ 2 32 Try.underlying23 hi0 hz0 hz1 hz2 rfl (by decide) _ k (G.flatMap RV.cells) rfl HG2'.out ⟨wr.heap.size, 0, none⟩ 1 1 [.int .i64 (pn : Int), .slice ga j gc] rfl rfl (World.news_of_block (cs := #[.int .i64 (pn : Int), .slice ga j gc]) (t := 31) (fr := (0, 0)) (heap_alloc_new wr _)) (by simp [Value.oneCell']) (by omega) (by unfold maxLen; omega) (by omega) (by simp; omega) (wr.heap.size + 1) (by simp) ?_))
              intro gg cap2 w5 hown1 hgrow hat hlt1
              have hb5 : Below w.heap.size w w5 := below_grown (HBw.out.alloc HBw.out.size _) HG2'.out hgrow (by simp; omega)
              have HPush : Hid (MyRows w5 own w.heap.size (.slice (some ⟨gg, 0, none⟩) (k + 1) cap2) (shapeP ar (R.take (k + 1)))) := shaped_push HG1.out HG2.out HG3.out HG4.out HLim.out hsz HBj.out HO.out HKl.out HTk.out HSh.out (fun x => by rw [← HFd.out]; exact argP_I64 HFi.out.1.2.2.1 x) (by omega) (by omega) hown1 hgrow hat
              have HB5 := hide hb5
              clear hown1 hgrow hat hlt1 hb5
              go_wp2
              go_roundw
              case rel => exact ⟨k + 1, by omega, by go_num, HPush, HB5⟩
              case measure => simp [intOf]; omega
    · obtain rfl : k = len := by omega
      have hi : ¬ (k : Int) < (k : Int) := by omega
      have hfull : R.take k = R := List.take_of_length_le (by rw [HR.out.1]; exact Nat.le_refl _)
      rw [hfull] at HM
      go_wp2
      go_ret
      exact ⟨_, rfl, HM.out, HBo.out⟩
end Go.Proofs.Ytcofoddjcgmmkaa
