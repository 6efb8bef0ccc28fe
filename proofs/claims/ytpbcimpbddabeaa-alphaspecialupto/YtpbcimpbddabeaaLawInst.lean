/- The law's instance: some numbers in place of the variables make the pattern the row. -/
import Derived.Test.YtpbcimpbddabeaaAlphaSame
import Derived.Test.YtpbcimpbddabeaaPatPure
import Derived.Test.YtpbcimpbddabeaaShapesOf
namespace Go.Proofs.Ytpbcimpbddabeaa
set_option linter.unusedSimpArgs false
set_option linter.unusedVariables false
open Go.RowKit

def elBnd : El (Int × Int) where
  cells c := [.int .i64 c.1, .int .i64 c.2]
  size := 2
  pos := by decide
  len _ := rfl
  ok _ _ c := I64 c.1 ∧ I64 c.2
  one _ u hu := by simp only [List.mem_cons, List.not_mem_nil, or_false] at hu; rcases hu with rfl | rfl <;> rfl
  move h _ := h

/-- What is bound behind the first k places. -/
structure BindK (ss : List Slo) (rs : List Int) (k : Nat) (B : List (Int × Int)) : Prop where
  con : ∀ (i : Nat) (s : Slo) (r : Int), i < k → ss[i]? = some s → rs[i]? = some r → s.v = false → r = s.n
  has : ∀ (i : Nat) (s : Slo) (r : Int), i < k → ss[i]? = some s → rs[i]? = some r → s.v = true → (s.n, r) ∈ B
  from_ : ∀ x d, (x, d) ∈ B → ∃ i s, i < k ∧ ss[i]? = some s ∧ rs[i]? = some d ∧ s.v = true ∧ s.n = x
  one : ∀ x d d', (x, d) ∈ B → (x, d') ∈ B → d = d'
  len : B.length ≤ k

theorem BindK.start (ss : List Slo) (rs : List Int) : BindK ss rs 0 [] := ⟨fun i s r h => by omega, fun i s r h => by omega, by simp, by simp, by simp⟩
section
variable {ss : List Slo} {rs : List Int} {k : Nat} {B : List (Int × Int)} {s : Slo} {r : Int}
theorem BindK.const (h : BindK ss rs k B) (hs : ss[k]? = some s) (hr : rs[k]? = some r) (hv : s.v = false) (he : s.n = r) : BindK ss rs (k + 1) B := by
  refine ⟨fun i t u hi ht hu hv' => ?_, fun i t u hi ht hu hv' => ?_, fun x d hx => ?_, h.one, by have := h.len; omega⟩
  · rcases Nat.lt_or_ge i k with h1 | h1
    · exact h.con i t u h1 ht hu hv'
    · obtain rfl : i = k := by omega
      rw [hs] at ht; rw [hr] at hu; cases ht; cases hu; exact he.symm
  · rcases Nat.lt_or_ge i k with h1 | h1
    · exact h.has i t u h1 ht hu hv'
    · obtain rfl : i = k := by omega
      rw [hs] at ht; cases ht; rw [hv] at hv'; cases hv'
  · obtain ⟨i, t, h1, h2⟩ := h.from_ x d hx
    exact ⟨i, t, by omega, h2⟩
theorem BindK.old (h : BindK ss rs k B) (hs : ss[k]? = some s) (hr : rs[k]? = some r) (hv : s.v = true) (hm : (s.n, r) ∈ B) : BindK ss rs (k + 1) B := by
  refine ⟨fun i t u hi ht hu hv' => ?_, fun i t u hi ht hu hv' => ?_, fun x d hx => ?_, h.one, by have := h.len; omega⟩
  · rcases Nat.lt_or_ge i k with h1 | h1
    · exact h.con i t u h1 ht hu hv'
    · obtain rfl : i = k := by omega
      rw [hs] at ht; cases ht; rw [hv] at hv'; cases hv'
  · rcases Nat.lt_or_ge i k with h1 | h1
    · exact h.has i t u h1 ht hu hv'
    · obtain rfl : i = k := by omega
      rw [hs] at ht; rw [hr] at hu; cases ht; cases hu; exact hm
  · obtain ⟨i, t, h1, h2⟩ := h.from_ x d hx
    exact ⟨i, t, by omega, h2⟩
theorem BindK.new (h : BindK ss rs k B) (hs : ss[k]? = some s) (hr : rs[k]? = some r) (hv : s.v = true) (hm : ∀ x d, (x, d) ∈ B → x ≠ s.n) : BindK ss rs (k + 1) (B ++ [(s.n, r)]) := by
  have hin : ∀ x d, (x, d) ∈ B ++ [(s.n, r)] → (x, d) ∈ B ∨ (x = s.n ∧ d = r) := fun x d hx => by
    rcases List.mem_append.1 hx with h1 | h1
    · exact .inl h1
    · simp only [List.mem_singleton, Prod.mk.injEq] at h1; exact .inr h1
  refine ⟨fun i t u hi ht hu hv' => ?_, fun i t u hi ht hu hv' => ?_, fun x d hx => ?_, fun x d d' h1 h2 => ?_, by rw [List.length_append]; have := h.len; simp; omega⟩
  · rcases Nat.lt_or_ge i k with h1 | h1
    · exact h.con i t u h1 ht hu hv'
    · obtain rfl : i = k := by omega
      rw [hs] at ht; cases ht; rw [hv] at hv'; cases hv'
  · rcases Nat.lt_or_ge i k with h1 | h1
    · exact List.mem_append.2 (.inl (h.has i t u h1 ht hu hv'))
    · obtain rfl : i = k := by omega
      rw [hs] at ht; rw [hr] at hu; cases ht; cases hu; exact List.mem_append.2 (.inr (by simp))
  · rcases hin x d hx with h1 | ⟨h1, h2⟩
    · obtain ⟨i, t, h1, h2⟩ := h.from_ x d h1
      exact ⟨i, t, by omega, h2⟩
    · subst h1 h2
      exact ⟨k, s, by omega, hs, hr, hv, rfl⟩
  · rcases hin _ _ h1 with g1 | ⟨g1, g2⟩
    · rcases hin _ _ h2 with g3 | ⟨g3, g4⟩
      · exact h.one x d d' g1 g3
      · exact absurd g3 (hm _ _ g1)
    · rcases hin _ _ h2 with g3 | ⟨g3, g4⟩
      · exact absurd g1 (hm _ _ g3)
      · rw [g2, g4]
theorem Inst.same {x : Int} (h : Inst ss rs) {i j : Nat} {s t : Slo} {r d : Int} (hi : ss[i]? = some s) (hj : ss[j]? = some t) (hr : rs[i]? = some r) (hd : rs[j]? = some d) (h1 : s.v = true) (h2 : t.v = true) (h3 : s.n = x) (h4 : t.n = x) : r = d := by
  obtain ⟨f, rfl⟩ := h
  rw [List.getElem?_map, hi] at hr
  rw [List.getElem?_map, hj] at hd
  simp only [Option.map_some, Option.some.injEq] at hr hd
  rw [valS_var h1, h3] at hr
  rw [valS_var h2, h4] at hd
  rw [← hr, ← hd]
theorem Inst.con (h : Inst ss rs) {i : Nat} {s : Slo} {r : Int} (hi : ss[i]? = some s) (hr : rs[i]? = some r) (h1 : s.v = false) : r = s.n := by
  obtain ⟨f, rfl⟩ := h
  rw [List.getElem?_map, hi] at hr
  simp only [Option.map_some, Option.some.injEq] at hr
  rw [valS_con h1] at hr
  exact hr.symm
open Classical in
theorem BindK.inst (h : BindK ss rs ss.length B) (hl : ss.length = rs.length) : Inst ss rs := by
  refine ⟨fun x => if hx : ∃ d, (x, d) ∈ B then hx.choose else 0, ?_⟩
  apply List.ext_getElem?
  intro i
  rw [List.getElem?_map]
  cases hs : ss[i]? with
  | none => rw [List.getElem?_eq_none (by have := List.getElem?_eq_none_iff.1 hs; omega)]; rfl
  | some s =>
    have hi := (List.getElem?_eq_some_iff.1 hs).1
    obtain ⟨r, hr⟩ : ∃ r, rs[i]? = some r := ⟨_, List.getElem?_eq_getElem (by omega)⟩
    rw [hr]
    simp only [Option.map_some, Option.some.injEq]
    cases hv : s.v with
    | false => rw [valS_con hv]; exact h.con i s r hi hs hr hv
    | true =>
      rw [valS_var hv]
      have hm := h.has i s r hi hs hr hv
      have hx : ∃ d, (s.n, d) ∈ B := ⟨r, hm⟩
      rw [dif_pos hx]
      exact h.one _ _ _ hm hx.choose_spec
end
noncomputable def instB (q : Int) (ss : List Slo) (p : Int) (rs : List Int) : Bool := @decide (q = p ∧ Inst ss rs) (Classical.propDecidable _)
theorem instB_iff {q : Int} {ss : List Slo} {p : Int} {rs : List Int} : instB q ss p rs = true ↔ q = p ∧ Inst ss rs := by exact @decide_eq_true_iff _ (Classical.propDecidable _)
theorem instB_yes {q : Int} {ss : List Slo} {p : Int} {rs : List Int} (h : q = p ∧ Inst ss rs) : instB q ss p rs = true := instB_iff.2 h
theorem instB_no {q : Int} {ss : List Slo} {p : Int} {rs : List Int} (h : ¬ (q = p ∧ Inst ss rs)) : instB q ss p rs = false := by
  cases hb : instB q ss p rs with
  | false => rfl
  | true => exact absurd (instB_iff.1 hb) h

theorem Try.infoBnd : (Try.prog.info? 57).map (fun i => (i.zero, i.size, i.bytes)) = some (some (.agg #[.int .i64 0, .int .i64 0]), 2, 16) := by kernel_rfl

set_option maxRecDepth 100000 in
set_option maxHeartbeats 4000000 in
theorem instance_any {w : World} {q p : Int} {u v : Value} {ss : List Slo} {rs : List Int} (h1 : Has elSlo w u ss) (h2 : Has elInt w v rs) :
    Calls Try.prog 11 #[.agg #[.int .i64 q, u], .int .i64 p, v] w fun e w' => e = .returned (.bool (instB q ss p rs)) ∧ Below w.heap.size w w' := by
  obtain ⟨i0, hi0', hz0, hz1, hz2⟩ := info_parts Try.infoBnd
  obtain ⟨va, vc, rfl, -, -, hlen⟩ := h1.shape
  obtain ⟨ra, rc, rfl, -, -, hlen2⟩ := h2.shape
  obtain ⟨res, hres⟩ : ∃ res, instB q ss p rs = res := ⟨_, rfl⟩
  rw [hres]
  have HB0 := hide (belo1 w (.cells #[.int .i64 q, .slice va ss.length vc] 24))
  by_cases hqp : q = p
  · subst hqp
    by_cases hl : ss.length = rs.length
    · have hb1 : (w.alloc (.cells #[.int .i64 q, .slice va ss.length vc] 24)).cell? ⟨w.heap.size, 1, none⟩ = some (.slice va ss.length vc) := new_cells (cs := #[.int .i64 q, .slice va ss.length vc]) 1 _ rfl
      have HL := hide (h1.kept HB0.out)
      have HR := hide (h2.kept HB0.out)
      have HE := hide hl
      have HRes := hide hres
      clear h1 h2 hres hlen2
      rw [← hl] at HR ⊢
      clear hl
      obtain ⟨W, hW⟩ : ∃ W, W = w.alloc (.cells #[.int .i64 q, .slice va ss.length vc] 24) := ⟨_, rfl⟩
      have HWd := hide hW
      clear hW
      go_enter Try.func11, Try.ntmps11
      go_wp2
      rw [← HWd.out] at HB0 HL HR hb1 ⊢
      clear HWd
      go_loopw [7, 8] (fun m i wl => ∃ (k : Nat) (B : List (Int × Int)), k ≤ ss.length ∧ i = .int .i64 k ∧ Hid (BindK ss rs k B) ∧ Hid (Grow elBnd 57 W.heap.size wl m B) ∧ Hid (Below W.heap.size W wl)) (fun _ i _ => ss.length - (intOf i).toNat)
      case atStart => exact ⟨0, [], by omega, rfl, BindK.start _ _, Grow.nil _ _ _ _, Below.refl _ _⟩
      case round =>
        obtain ⟨k, B, hk, rfl, HK, HG, HB⟩ := hrel
        have yb := kept_cell HB.out hb1
        have HBl := HK.out.len
        obtain ⟨oa, oc, hsh, -, -⟩ := HG.out.shape
        subst hsh
        by_cases hlt : k < ss.length
        · have hi : (k : Int) < (ss.length : Int) := by omega
          have hi0 : (0 : Int) ≤ (k : Int) := by omega
          obtain ⟨b, off, rfl, -, -, hrow⟩ := HL.out.row (by omega)
          obtain ⟨c, co, rfl, hcW, -, krow⟩ := HR.out.row (by have := HE.out; omega)
          obtain ⟨s, hs⟩ : ∃ s, ss[k]? = some s := ⟨_, List.getElem?_eq_getElem hlt⟩
          obtain ⟨r, hr⟩ : ∃ r, rs[k]? = some r := ⟨_, List.getElem?_eq_getElem (by have := HE.out; omega)⟩
          have y0 := kept_cell HB.out (hrow k s hs 0 _ rfl)
          have y1 := kept_cell HB.out (hrow k s hs 1 _ rfl)
          have z0 := kept_cell HB.out (krow k r hr 0 _ rfl)
          simp only [elSlo, elInt, Nat.add_zero, Nat.mul_one] at y0 y1 z0
          have hsn : I64 s.n := HL.out.ok (List.mem_of_getElem? hs)
          have hrn : I64 r := HR.out.ok (List.mem_of_getElem? hr)
          have HS := hide hs
          have HRk := hide hr
          clear hrow krow hs hr
          go_upto_region 8 with fail
          obtain ⟨V1, hV1⟩ : ∃ V1, V1 = wr.alloc (.cells #[.bool s.v, .int .i64 s.n] 50) := ⟨_, rfl⟩
          have HB1 : Hid (Below wr.heap.size wr V1) := by rw [hV1]; exact belo1 _ _
          have e0 : V1.cell? ⟨wr.heap.size, 0, none⟩ = some (.bool s.v) := by rw [hV1]; exact new_cells (cs := #[.bool s.v, .int .i64 s.n]) 0 _ rfl
          have e1 : V1.cell? ⟨wr.heap.size, 1, none⟩ = some (.int .i64 s.n) := by rw [hV1]; exact new_cells (cs := #[.bool s.v, .int .i64 s.n]) 1 _ rfl
          have z1 := kept_cell HB1.out z0
          have HBV : Hid (Below W.heap.size W V1) := HB.out.trans (HB1.out.mono HB.out.size)
          have HGV := hide (HG.out.kept HB1.out)
          rw [← hV1]
          have HOb : Hid (∀ j, (Value.slice oa B.length oc).ownBlock = some j → W.heap.size ≤ j ∧ j < wr.heap.size) := fun j hj => ⟨own_new HG.out.1 j hj, own_lt6 HG.out.1 j hj⟩
          clear hV1 y0 y1 yb z0 HG HB HB1
          cases hv : s.v with
          | false =>
            rw [hv] at e0
            by_cases he : s.n = r
            · have he1 : (s.n != r) = false := by simp [he]
              have HN := hide (HK.out.const HS.out HRk.out hv he)
              have e1' := over_cell e1
              have z1' := over_cell z1
              go_upto_region 9 with fail
              refine wp_region_over (fun W => V1 = W) (by kernel_rfl) (by kernel_rfl) rfl ?_
              rintro _ rfl
              repeat (go_big_quiet_step (first | fail))
              refine wpQuiet_nil ?_
              rintro _ ⟨z, rfl⟩
              have HBz : Hid (Below W.heap.size W (over V1 z)) := HBV.out.trans ((over_below V1 z).mono HBV.out.size)
              have HGz := hide (HGV.out.kept (over_below V1 z))
              generalize over V1 z = V2 at HBz HGz ⊢
              clear e1' z1'
              go_wp2
              go_roundw
              case rel => exact ⟨k + 1, B, by omega, by go_num, HN, HGz, HBz⟩
              case measure => simp [intOf]; omega
            · have he1 : (s.n != r) = true := by simp [he]
              have HN : Hid (res = false) := by show _ = _; rw [← HRes.out]; exact instB_no fun h => he ((h.2.con HS.out HRk.out hv).symm)
              have e1' := over_cell e1
              have z1' := over_cell z1
              go_upto_region 9 with fail
              refine wp_region_over (fun W => V1 = W) (by kernel_rfl) (by kernel_rfl) rfl ?_
              rintro _ rfl
              repeat (go_big_quiet_step (first | fail))
              refine wpQuiet_nil ?_
              rintro _ ⟨z, rfl⟩
              have HBz : Hid (Below W.heap.size W (over V1 z)) := HBV.out.trans ((over_below V1 z).mono HBV.out.size)
              generalize over V1 z = V2 at HBz ⊢
              clear e1' z1'
              go_wp2
              go_ret
              exact ⟨by rw [HN.out]; rfl, belot HB0.out HBz.out⟩
          | true =>
            rw [hv] at e0
            have HBw := hide (HGV.out.list (by omega))
            obtain ⟨SB, hSB⟩ : ∃ SB, wr.heap.size = SB := ⟨_, rfl⟩
            rw [hSB] at e0 e1 HOb ⊢
            clear hSB
            go_wp2
            go_loopw [10, 11] (fun o j wl => ∃ i : Nat, i ≤ B.length ∧ j = .int .i64 i ∧ o = .bool ((B.take i).any fun x => x.1 == s.n) ∧ Hid (∀ x d, (x, d) ∈ B.take i → x = s.n → d = r) ∧ Hid (Below V1.heap.size V1 wl)) (fun _ j _ => B.length - (intOf j).toNat)
            case atStart => exact ⟨0, by omega, rfl, rfl, fun x d h => by simp at h, Below.refl _ _⟩
            case round =>
              obtain ⟨i, hil, rfl, rfl, HI, HBi⟩ := hrel
              have f0 := kept_cell HBi.out e0
              have f1 := kept_cell HBi.out e1
              have f2 := kept_cell HBi.out z1
              have f1' := over_cell f1
              have f2' := over_cell f2
              by_cases hlt2 : i < B.length
              · have hi1 : (i : Int) < (B.length : Int) := by omega
                have hi10 : (0 : Int) ≤ (i : Int) := by omega
                obtain ⟨x, hx⟩ : ∃ x, B[i]? = some x := ⟨_, List.getElem?_eq_getElem hlt2⟩
                obtain ⟨bb, bo, hbe, -, -, brow⟩ := HBw.out.row (by omega)
                cases hbe
                have g0 := kept_cell HBi.out (brow i x hx 0 _ rfl)
                have g1 := kept_cell HBi.out (brow i x hx 1 _ rfl)
                simp only [elBnd, Nat.add_zero] at g0 g1
                have HTk : Hid (B.take (i + 1) = B.take i ++ [x]) := by show _ = _; rw [List.take_add_one, hx]; rfl
                have HXm := hide (List.mem_of_getElem? hx)
                obtain ⟨x1, x2⟩ := x
                dsimp only at g0 g1
                have g0' := over_cell g0
                clear brow hx
                by_cases hxn : x1 = s.n
                · have hx1 : (x1 == s.n) = true := by simp [hxn]
                  go_upto_region 15 with fail
                  refine wp_region_over (fun W => wr = W) (by kernel_rfl) (by kernel_rfl) rfl ?_
                  rintro _ rfl
                  repeat (go_big_quiet_step (first | fail))
                  refine wpQuiet_nil ?_
                  rintro _ ⟨z, rfl⟩
                  have HBz : Hid (Below V1.heap.size V1 (over wr z)) := HBi.out.trans ((over_below wr z).mono HBi.out.size)
                  have g1z := kept_cell (over_below wr z) g1
                  have f2z := kept_cell (over_below wr z) f2
                  generalize over wr z = V2 at HBz g1z f2z ⊢
                  clear g0 g0' g1 f0 f1 f2 f1' f2'
                  have g1z' := over_cell g1z
                  have f2z' := over_cell f2z
                  by_cases hxr : x2 = r
                  · have hx2 : (x2 != r) = false := by simp [hxr]
                    have HAn : Hid (((B.take (i + 1)).any fun x => x.1 == s.n) = true) := by show _ = _; rw [HTk.out, List.any_append]; simp [hxn]
                    have HIn : Hid (∀ x d, (x, d) ∈ B.take (i + 1) → x = s.n → d = r) := by
                      show ∀ x d, (x, d) ∈ B.take (i + 1) → x = s.n → d = r
                      rw [HTk.out]
                      intro x d hm hx
                      rcases List.mem_append.1 hm with h | h
                      · exact HI.out x d h hx
                      · simp only [List.mem_singleton, Prod.mk.injEq] at h; rw [h.2]; exact hxr
                    go_upto_region 17 with fail
                    refine wp_region_over (fun W => V2 = W) (by kernel_rfl) (by kernel_rfl) rfl ?_
                    rintro _ rfl
                    repeat (go_big_quiet_step (first | fail))
                    refine wpQuiet_nil ?_
                    rintro _ ⟨z, rfl⟩
                    have HBy : Hid (Below V1.heap.size V1 (over V2 z)) := HBz.out.trans ((over_below V2 z).mono HBz.out.size)
                    generalize over V2 z = V3 at HBy ⊢
                    clear g1z' f2z'
                    go_wp2
                    go_roundw
                    case rel => exact ⟨i + 1, by omega, by go_num, by rw [HAn.out], HIn, HBy⟩
                    case measure => simp [intOf]; omega
                  · have hx2 : (x2 != r) = true := by simp [hxr]
                    have HN : Hid (res = false) := by
                      show _ = _
                      rw [← HRes.out]
                      refine instB_no fun h => ?_
                      obtain ⟨i', t, _, g2, g3, g4, g5⟩ := HK.out.from_ x1 x2 HXm.out
                      exact hxr (h.2.same (x := x1) g2 HS.out g3 HRk.out g4 hv g5 hxn.symm)
                    go_upto_region 17 with fail
                    refine wp_region_over (fun W => V2 = W) (by kernel_rfl) (by kernel_rfl) rfl ?_
                    rintro _ rfl
                    repeat (go_big_quiet_step (first | fail))
                    refine wpQuiet_nil ?_
                    rintro _ ⟨z, rfl⟩
                    have HBy : Hid (Below V1.heap.size V1 (over V2 z)) := HBz.out.trans ((over_below V2 z).mono HBz.out.size)
                    generalize over V2 z = V3 at HBy ⊢
                    clear g1z' f2z'
                    go_wp2
                    go_ret
                    exact ⟨by rw [HN.out]; rfl, belot HB0.out (belot HBV.out HBy.out)⟩
                · have hx1 : (x1 == s.n) = false := by simp [hxn]
                  have HAn : Hid (((B.take (i + 1)).any fun x => x.1 == s.n) = ((B.take i).any fun x => x.1 == s.n)) := by show _ = _; rw [HTk.out, List.any_append]; simp [hxn]
                  have HIn : Hid (∀ x d, (x, d) ∈ B.take (i + 1) → x = s.n → d = r) := by
                    show ∀ x d, (x, d) ∈ B.take (i + 1) → x = s.n → d = r
                    rw [HTk.out]
                    intro x d hm hx
                    rcases List.mem_append.1 hm with h | h
                    · exact HI.out x d h hx
                    · simp only [List.mem_singleton, Prod.mk.injEq] at h; exact absurd (h.1.symm.trans hx) hxn
                  obtain ⟨an, han⟩ : ∃ an, ((B.take i).any fun x => x.1 == s.n) = an := ⟨_, rfl⟩
                  rw [han] at HAn ⊢
                  clear han
                  go_upto_region 15 with fail
                  refine wp_region_over (fun W => wr = W) (by kernel_rfl) (by kernel_rfl) rfl ?_
                  rintro _ rfl
                  repeat (go_big_quiet_step (first | fail))
                  refine wpQuiet_nil ?_
                  rintro _ ⟨z, rfl⟩
                  have HBz : Hid (Below V1.heap.size V1 (over wr z)) := HBi.out.trans ((over_below wr z).mono HBi.out.size)
                  generalize over wr z = V2 at HBz ⊢
                  clear g0 g0' g1 f0 f1 f2 f1' f2'
                  go_wp2
                  go_roundw
                  case rel => exact ⟨i + 1, by omega, by go_num, by rw [HAn.out], HIn, HBz⟩
                  case measure => simp [intOf]; omega
              · obtain rfl : i = B.length := by omega
                have hi1 : ¬ (B.length : Int) < (B.length : Int) := by omega
                rw [List.take_of_length_le (Nat.le_refl _)] at HI ⊢
                have HGi := hide (HGV.out.kept HBi.out)
                have HBi2 : Hid (Below W.heap.size W wr) := HBV.out.trans (HBi.out.mono HBV.out.size)
                obtain ⟨an, han⟩ : ∃ an, (B.any fun x => x.1 == s.n) = an := ⟨_, rfl⟩
                rw [han]
                have HAn := hide han
                clear han f1' f2'
                cases an with
                | true =>
                  have HN : Hid (BindK ss rs (k + 1) B) := by
                    obtain ⟨⟨x1, x2⟩, h1, h2⟩ := List.any_eq_true.1 HAn.out
                    have h3 : x1 = s.n := by simpa using h2
                    have h4 := HI.out x1 x2 h1 h3
                    rw [h3, h4] at h1
                    exact HK.out.old HS.out HRk.out hv h1
                  clear HAn
                  go_wp2
                  go_roundw
                  case rel => exact ⟨k + 1, B, by omega, by go_num, HN, HGi, HBi2⟩
                  case measure => simp [intOf]; omega
                | false =>
                  have HN : Hid (BindK ss rs (k + 1) (B ++ [(s.n, r)])) := by
                    refine HK.out.new HS.out HRk.out hv fun x d hm hx => ?_
                    have := List.any_eq_false.1 HAn.out (x, d) hm
                    simp only [beq_iff_eq] at this
                    exact this hx
                  clear HAn
                  have HSc : Hid (∀ V : World, Below wr.heap.size wr V → V.cell? ⟨SB, 1, none⟩ = some (.int .i64 s.n) ∧ V.cell? ⟨c, co + k, none⟩ = some (.int .i64 r)) := fun V hV => ⟨kept_cell hV f1, kept_cell hV f2⟩
                  have HBa : Hid (Below W.heap.size W (wr.drew.alloc (.cells #[.int .i64 s.n, .int .i64 r] 57))) := HBi2.out.drew.alloc HBi2.out.size _
                  have HBb : Hid (Below wr.heap.size wr (wr.drew.alloc (.cells #[.int .i64 s.n, .int .i64 r] 57))) := ((Below.refl _ wr).drew).alloc (Nat.le_refl _) _
                  have HGa := hide (HGi.out.kept HBb.out)
                  have f1d := f1
                  go_upto_region 20 with fail
                  go_region_held3 (fun V => V.cell? ⟨SB, 1, none⟩ = some (.int .i64 s.n) ∧ V.cell? ⟨c, co + k, none⟩ = some (.int .i64 r))
                    (first
                      | exact HSc.out _ (Below.refl _ _)
                      | exact HSc.out _ ((Below.refl _ wr).drew)
                      | exact HSc.out _ HBb.out
                      | exact HS4.out)
                    (first
                      | (refine step_push (w0 := W) elBnd (by rfl) _ _ 55 (by rfl) W.heap.size 57 i0 _ 16 Try.underlying55 hi0' hz0 hz1 hz2 rfl (by decide) _ B B.length rfl (by rfl) HGa.out (s.n, r) wr.heap.size 1 (by rfl) (fun j u hu => new_cells (w := wr.drew) (cs := #[.int .i64 s.n, .int .i64 r]) j u hu) ⟨hsn, hrn⟩ (by omega) HBa.out HBa.out.size ?_; intro g cap' w4 HG4 HB4 HGr4; have HS4 : Hid (w4.cell? ⟨SB, 1, none⟩ = some (.int .i64 s.n) ∧ w4.cell? ⟨c, co + k, none⟩ = some (.int .i64 r))   := (by
                        have k1 := HSc.out _ HBb.out
                        refine ⟨?_, ?_⟩
                        · rw [World.cell?_of_block (HGr4.out.block SB (lt_of_cell k1.1) (fun e => by have := HOb.out SB e.symm; omega))]; exact k1.1
                        · rw [World.cell?_of_block (HGr4.out.block c (lt_of_cell k1.2) (fun e => by have := HOb.out c e.symm; omega))]; exact k1.2); clear HGr4))
                  go_wp2
                  go_roundw
                  case rel => exact ⟨k + 1, _, by omega, by go_num, HN, HG4, HB4⟩
                  case measure => simp [intOf]; omega
        · obtain rfl : k = ss.length := by omega
          have hi : ¬ (ss.length : Int) < (ss.length : Int) := by omega
          have HN : Hid (res = true) := by show _ = _; rw [← HRes.out]; exact instB_yes ⟨rfl, HK.out.inst HE.out⟩
          go_wp2
          go_ret
          exact ⟨by rw [HN.out]; rfl, belot HB0.out HB.out⟩
    · have HN : Hid (res = false) := by
        show _ = _
        rw [← hres]
        refine instB_no fun h => ?_
        obtain ⟨f, hf⟩ := h.2
        rw [hf, List.length_map] at hl
        exact hl rfl
      clear hres h1 h2
      have hl1 : ((ss.length : Int) != (rs.length : Int)) = true := by simp; omega
      have hl2 : ¬ (ss.length : Int) = (rs.length : Int) := by omega
      obtain ⟨x, hx⟩ : ∃ x, ss.length = x := ⟨_, rfl⟩
      obtain ⟨y, hy⟩ : ∃ y, rs.length = y := ⟨_, rfl⟩
      rw [hx] at hl hl1 hl2 HB0 ⊢
      rw [hy] at hl hl1 hl2 ⊢
      go_enter Try.func11, Try.ntmps11
      go_wp2
      go_ret
      exact ⟨by rw [HN.out]; rfl, HB0.out⟩
  · have HN : Hid (res = false) := by show _ = _; rw [← hres]; exact instB_no fun h => hqp h.1
    clear hres h1 h2
    have hq1 : (q != p) = true := by simp [hqp]
    go_enter Try.func11, Try.ntmps11
    go_wp2
    go_ret
    exact ⟨by rw [HN.out]; rfl, HB0.out⟩
end Go.Proofs.Ytpbcimpbddabeaa
