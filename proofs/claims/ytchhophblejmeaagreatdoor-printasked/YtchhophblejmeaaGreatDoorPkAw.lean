/- PrintAsked: a query that is made well formed comes back from its text. What arguments hold that are a literal by value, and lists of literals. -/
import Derived.Test.YtchhophblejmeaaGreatDoorProg
import Derived.Test.YtchhophblejmeaaGreatDoorPkBm
import Derived.Test.YtchhophblejmeaaGreatDoorPkAa
import Derived.Test.YtchhophblejmeaaGreatDoorPkAb
import Derived.Test.YtchhophblejmeaaGreatDoorPkAc
import Derived.Test.YtchhophblejmeaaGreatDoorPkBd
import Derived.Test.YtchhophblejmeaaGreatDoorPkBe

namespace Go.Proofs.YtchhophblejmeaaGreatDoor
set_option linter.unusedSimpArgs false
set_option linter.unusedVariables false
open Go.RowKit

def strQ (l : List UInt8) : ByteArray := ⟨l.toArray⟩
def elLtr : El Ltr where
  cells x := [.int .i64 x.k, .string x.a.p, .slice x.a.ao x.a.len x.a.cap, .int .i64 x.a.off, .int .i64 x.op, .int .i64 x.l.k, .int .i64 x.l.n, .string x.l.s, .int .i64 x.l.off, .int .i64 x.r.k, .int .i64 x.r.n, .string x.r.s, .int .i64 x.r.off, .int .i64 x.off]
  size := 14
  pos := by decide
  len _ := rfl
  ok _ _ _ := True
  one _ u hu := by
    simp only [List.mem_cons, List.not_mem_nil, or_false] at hu
    rcases hu with rfl | rfl | rfl | rfl | rfl | rfl | rfl | rfl | rfl | rfl | rfl | rfl | rfl | rfl <;> rfl
  move h _ := h
theorem ltr_flat {w : World} {b off : Nat} {x : Ltr} (h : ∀ j u, (elLtr.cells x)[j]? = some u → w.cell? ⟨b, off + j, none⟩ = some u) : ltrAt w b off x :=
  ⟨h 0 _ rfl, h 1 _ rfl, h 2 _ rfl, h 3 _ rfl, h 4 _ rfl, ⟨h 5 _ rfl, h 6 _ rfl, h 7 _ rfl, h 8 _ rfl⟩, ⟨h 9 _ rfl, h 10 _ rfl, h 11 _ rfl, h 12 _ rfl⟩, h 13 _ rfl⟩
theorem flat_ltr {w : World} {b off : Nat} {x : Ltr} (h : ltrAt w b off x) : ∀ j u, (elLtr.cells x)[j]? = some u → w.cell? ⟨b, off + j, none⟩ = some u := by
  obtain ⟨h0, h1, h2, h3, h4, ⟨h5, h6, h7, h8⟩, ⟨h9, h10, h11, h12⟩, h13⟩ := h
  intro j u hu
  have hj : j < 14 := (List.getElem?_eq_some_iff.1 hu).1
  match j, hj with
  | 0, _ => cases hu; exact h0
  | 1, _ => cases hu; exact h1
  | 2, _ => cases hu; exact h2
  | 3, _ => cases hu; exact h3
  | 4, _ => cases hu; exact h4
  | 5, _ => cases hu; exact h5
  | 6, _ => cases hu; exact h6
  | 7, _ => cases hu; exact h7
  | 8, _ => cases hu; exact h8
  | 9, _ => cases hu; exact h9
  | 10, _ => cases hu; exact h10
  | 11, _ => cases hu; exact h11
  | 12, _ => cases hu; exact h12
  | 13, _ => cases hu; exact h13
/-- The literals of a row, cell by cell. -/
theorem flat_row {w : World} {ao : Option Addr} {len : Nat} {ls : List Ltr} (h : IsLtrs w ao len ls) (ad : Addr) (ha : ao = some ad) (j : Nat) (u : Value) (hu : (ls.flatMap elLtr.cells)[j]? = some u) : w.cell? (ad.add j) = some u := by
  have hj : j < ls.length * 14 := by
    have h1 := (List.getElem?_eq_some_iff.1 hu).1
    have h2 : (ls.flatMap elLtr.cells).length = ls.length * 14 := flatE_len elLtr ls
    omega
  have hl : ls.length = len := h.1
  have hi : j / 14 < ls.length := by omega
  obtain ⟨x, hx⟩ : ∃ x, ls[j / 14]? = some x := ⟨_, List.getElem?_eq_getElem hi⟩
  have hm : j % 14 < 14 := Nat.mod_lt _ (by decide)
  have he := flatE_at elLtr ls (j / 14) (j % 14) x hx hm
  have hs : j / 14 * elLtr.size + j % 14 = j := by show j / 14 * 14 + j % 14 = j; omega
  rw [hs, hu] at he
  obtain ⟨b, off, e, hr⟩ := h.2.2.2 (by omega)
  rw [ha] at e
  cases e
  have := flat_ltr (hr (j / 14) x hx) (j % 14) u he.symm
  rw [addr_add]
  rw [show off + j = off + j / 14 * 14 + j % 14 by omega]
  exact this
/-- A literal and a row behind it, in a row of one's own. -/
theorem row_ask {w W : World} {base g cap : Nat} {e : TypeId} {ao : Option Addr} {len : Nat} {x : Ltr} {ls : List Ltr} (hx : x.at w) (h : IsLtrs w ao len ls) (h152 : len * 152 ≤ 140737488351232) (hB : Below w.heap.size w W)
    (ho : W.ownsRow base e 14 (.slice (some ⟨g, 0, none⟩) (1 + len) cap) (1 + len) (elLtr.cells x ++ ls.flatMap elLtr.cells)) : IsLtrs W (some ⟨g, 0, none⟩) (1 + len) (x :: ls) := by
  refine ⟨by rw [List.length_cons, h.1]; omega, by omega, fun y hy => ?_, fun _ => ⟨g, 0, rfl, fun i y hy => ltr_flat fun j u hu => ?_⟩⟩
  · rcases List.mem_cons.1 hy with rfl | hy
    · exact hx.kept hB
    · exact (h.2.2.1 y hy).kept hB
  · have hj : j < 14 := (List.getElem?_eq_some_iff.1 hu).1
    have he := flatE_at elLtr (x :: ls) i j y hy hj
    rw [hu] at he
    have := own_at ho (j := i * 14 + j) (u := u) (by rw [← List.flatMap_cons]; exact he)
    rw [show 0 + i * 14 + j = i * 14 + j by omega]
    exact this
theorem body_zero {ls : List Lix} (h : ∀ l ∈ ls.map Lix.pur, okL l) (hn : ls.length ≤ 16) : bodyE (ls.map ltrOf) = 0 := by
  unfold bodyE
  rw [if_neg (by simp; omega)]
  refine firstE_zero fun y hy => ?_
  obtain ⟨x, hx, rfl⟩ := List.mem_map.1 hy
  exact lit_zero (h x.pur (List.mem_map.2 ⟨x, hx, rfl⟩))
theorem last_dot (l : List UInt8) (h : l.length ≤ 100000000000000) : 0 < (strQ (l ++ [46])).size ∧ (strQ (l ++ [46])).size ≤ 100000000000001 ∧ ((strQ (l ++ [46])).toList == []) = false ∧ ∀ hi : (strQ (l ++ [46])).size - 1 < (strQ (l ++ [46])).size, (strQ (l ++ [46]))[(strQ (l ++ [46])).size - 1] = 46 := by
  have hs : (strQ (l ++ [46])).size = l.length + 1 := by show (l ++ [46]).toArray.size = _; rw [List.size_toArray, List.length_append]; rfl
  refine ⟨by omega, by omega, ?_, fun hi => ?_⟩
  · have h2 : (strQ (l ++ [46])).toList = l ++ [46] := by rw [ByteArray.toList_eq]; simp [strQ]
    rw [h2]
    cases l <;> rfl
  · have e : (strQ (l ++ [46]))[(strQ (l ++ [46])).size - 1] = (strQ (l ++ [46])).data.toList[(strQ (l ++ [46])).size - 1]'hi := rfl
    rw [e]
    have h2 : (strQ (l ++ [46])).data.toList = l ++ [46] := by simp [strQ]
    have h5 := List.getElem?_eq_getElem (l := (strQ (l ++ [46])).data.toList) (i := (strQ (l ++ [46])).size - 1) hi
    have h6 : (strQ (l ++ [46])).data.toList[(strQ (l ++ [46])).size - 1]? = some 46 := by rw [h2, hs, Nat.add_sub_cancel]; simp
    exact (Option.some.inj (h6.symm.trans h5)).symm

set_option maxRecDepth 100000 in
set_option maxHeartbeats 8000000 in
theorem printAsked_walk (x : Ltr) (ao : Option Addr) (len cap : Nat) (ls : List Ltr) (w : World) (hx : x.at w) (h : IsLtrs w ao len ls ∧ len * 152 ≤ 140737488351232 ∧ (ao = none → len = 0 ∧ cap = 0)) (hl : LexLaid w) (ht : TabLaid w) :
    Calls Tryz.prog 5 #[x.val, .slice ao len cap] w fun e w' => e = .returned (.bool true) ∧ Below w.heap.size w w' := by
  have HL := hide hl
  have HTb := hide ht
  have HLen := hide h.1.1
  have HH := hide h
  have HX := hide hx
  clear hl ht h hx
  have HCx : Hid (elLtr.cells x = [.int .i64 x.k, .string x.a.p, .slice x.a.ao x.a.len x.a.cap, .int .i64 x.a.off, .int .i64 x.op, .int .i64 x.l.k, .int .i64 x.l.n, .string x.l.s, .int .i64 x.l.off, .int .i64 x.r.k, .int .i64 x.r.n, .string x.r.s, .int .i64 x.r.off, .int .i64 x.off]) := rfl
  obtain ⟨hw16, hok16⟩ := bod4_ok (w := w) (ls := x :: ls) (fun y hy => by
    rcases List.mem_cons.1 hy with rfl | hy
    · exact HX.out
    · exact HH.out.1.2.2.1 y hy)
  have hne : bod4 (x :: ls) ≠ [] := by unfold bod4; simp
  have HOk := hide hok16
  have HN16 := hide hw16
  have HNe := hide hne
  clear hw16 hok16 hne
  unfold Ltr.val
  obtain ⟨W0, hW0⟩ : ∃ W0, W0 = (w.alloc (.cells #[.int .i64 x.k, .string x.a.p, .slice x.a.ao x.a.len x.a.cap, .int .i64 x.a.off, .int .i64 x.op, .int .i64 x.l.k, .int .i64 x.l.n, .string x.l.s, .int .i64 x.l.off, .int .i64 x.r.k, .int .i64 x.r.n, .string x.r.s, .int .i64 x.r.off, .int .i64 x.off] 56)).alloc (.cells #[.int .i64 x.k, .string x.a.p, .slice x.a.ao x.a.len x.a.cap, .int .i64 x.a.off, .int .i64 x.op, .int .i64 x.l.k, .int .i64 x.l.n, .string x.l.s, .int .i64 x.l.off, .int .i64 x.r.k, .int .i64 x.r.n, .string x.r.s, .int .i64 x.r.off, .int .i64 x.off] 56) := ⟨_, rfl⟩
  have HT2 := hide (Two4.start w (.cells #[.int .i64 x.k, .string x.a.p, .slice x.a.ao x.a.len x.a.cap, .int .i64 x.a.off, .int .i64 x.op, .int .i64 x.l.k, .int .i64 x.l.n, .string x.l.s, .int .i64 x.l.off, .int .i64 x.r.k, .int .i64 x.r.n, .string x.r.s, .int .i64 x.r.off, .int .i64 x.off] 56) (.cells #[.int .i64 x.k, .string x.a.p, .slice x.a.ao x.a.len x.a.cap, .int .i64 x.a.off, .int .i64 x.op, .int .i64 x.l.k, .int .i64 x.l.n, .string x.l.s, .int .i64 x.l.off, .int .i64 x.r.k, .int .i64 x.r.n, .string x.r.s, .int .i64 x.r.off, .int .i64 x.off] 56))
  rw [← hW0] at HT2
  have HOwn : Hid (W0.ownsRow (w.heap.size + 1) 56 14 (.slice (some ⟨w.heap.size + 1, 0, none⟩) 1 1) 1 (elLtr.cells x)) := ⟨rfl, .inr ⟨_, _, _, rfl, Nat.le_refl _, HT2.out.b1, Nat.le_refl _, by decide, rfl, rfl⟩⟩
  have HHW := hide (HH.out.1.kept HT2.out.on)
  go_enter Tryz.func5, Tryz.ntmps5
  go_wp2_with (at_builtin; rw [← hW0]; obtain ⟨i0, hi0', hz0, hz1, hz2⟩ := info_parts Tryz.infoLit; refine wpList_append_any rfl _ _ 57 rfl (w.heap.size + 1) 56 i0 _ 14 152 Tryz.underlying57 hi0' hz0 hz1 hz2 rfl (by decide) (.slice (some ⟨w.heap.size + 1, 0, none⟩) 1 1) 1 (elLtr.cells x) rfl HOwn.out ao len cap (ls.flatMap elLtr.cells) rfl HH.out.2.2 (by rw [flatE_len, HLen.out]; rfl) (fun ad ha j u hu => flat_row HHW.out ad ha j u hu) (fun u hu => by obtain ⟨y, -, hy⟩ := List.mem_flatMap.1 hu; exact elLtr.one (x := y) (w := w) (F := fun _ => True) trivial u hy) (by have := HH.out.2.1; unfold maxLen; omega) (by have := HH.out.2.1; omega) (by have := HT2.out.lt; omega) ?_; intro v1 w1 ho1 hg1)
  have HB1 : Hid (Below w.heap.size w w1) := ((Only.of_below HT2.out.on (fun k => w.heap.size ≤ k)).grown hg1 (fun k hk _ => by simp only [Value.ownBlock, Option.some.injEq] at hk; omega)).below (Nat.le_refl _) (fun k hk e => by omega)
  obtain ⟨va, vc, rfl, -, hnn, hgg⟩ := own_shape6 ho1
  have hva : ∃ g, va = some ⟨g, 0, none⟩ := by
    cases va with
    | none => exact absurd (hnn rfl).1 (by omega)
    | some ad => obtain ⟨g, rfl, -⟩ := hgg ad rfl; exact ⟨g, rfl⟩
  obtain ⟨g, rfl⟩ := hva
  have hrow := row_ask HX.out HH.out.1 HH.out.2.1 HB1.out ho1
  refine (body4 (x :: ls) vc hrow).mono ?_
  intro e w4 hq
  obtain ⟨v, rfl, xs, hpu, hxl, hgr, hb4⟩ := hq
  have HB4 := hide (HB1.out.trans (hb4.mono HB1.out.size))
  have hls := hgr.list (by omega)
  clear hnn hgg hrow ho1 hg1 hb4 hgr HT2 HOwn HHW HCx hW0
  clear W0
  generalize bod4 (x :: ls) = P2 at *
  have hq0 : qryT xs = bodyT xs ++ [46] := rfl
  have hbt : bodyT xs = pbodyT P2 := by rw [bodyT_pur, hpu]
  have hbl : (bodyT xs).length ≤ 400000 := by rw [hbt]; exact (body_prn HOk.out HN16.out).2
  have hxn : 0 < xs.length := by
    rcases Nat.eq_zero_or_pos xs.length with h0 | h0
    · exfalso
      have : xs = [] := List.eq_nil_of_length_eq_zero h0
      rw [this] at hpu
      exact HNe.out hpu.symm
    · exact h0
  have HT4 := hide (HTb.out.kept HB4.out)
  have HPr := hide (fun V (hb : Below w4.heap.size w4 V) => printQuery hls HT4.out hb hxn (body_zero (by rw [hpu]; exact HOk.out) hxl) (by rw [hq0, List.length_append]; simp only [List.length_cons, List.length_nil]; omega))
  obtain ⟨hsz0, hsz1, hemp, hdot⟩ := last_dot (bodyT xs) (by omega)
  obtain ⟨va2, vc2, hv, -, -, -⟩ := hls.shape
  obtain ⟨T2, hT2⟩ : ∃ T2, T2 = strQ (bodyT xs ++ [46]) := ⟨_, rfl⟩
  have hT : Hid (T2.data.toList = pbodyT P2 ++ [46]) := by show _ = _; rw [hT2, hbt]; simp [strQ]
  have e1 : (⟨(qryT xs).toArray⟩ : ByteArray) = T2 := by rw [hT2, hq0]; rfl
  rw [e1] at HPr
  rw [← hT2] at hsz0 hsz1 hemp hdot
  have HLs := hide hls
  have HPu := hide hpu
  rw [hv] at HPr ⊢
  subst hv
  clear hls hpu hq0 hbt hbl hxn e1 hT2
  go_wp2_with fail
  refine (HPr.out w4 (Below.refl _ _)).mono ?_
  rintro e w6 ⟨rfl, hb6⟩
  have HB6 := hide (HB4.out.trans (hb6.mono HB4.out.size))
  have HLs6 := hide (HLs.out.kept hb6)
  clear hb6 HPr HLs
  have hi0 : (0 : Int) ≤ (T2.size : Int) - 1 := by omega
  have hi1 : (T2.size : Int) - 1 < (T2.size : Int) := by omega
  have hidx : ((T2.size : Int) - 1).toNat = T2.size - 1 := by omega
  by_cases hlong : 65536 < T2.size
  · have hi : (65536 : Int) < (T2.size : Int) := by omega
    go_wp2
    go_ret
    exact ⟨rfl, HB6.out⟩
  · have hi : ¬ (65536 : Int) < (T2.size : Int) := by omega
    obtain ⟨P3, hP3, hst⟩ := prt_query hT.out HNe.out HOk.out HN16.out (by omega)
    have HL6 := hide (HL.out.kept HB6.out)
    go_wp2_with fail
    refine (parseQuery_any T2 w6 HL6.out (by omega)).mono ?_
    intro e w9 hq
    obtain ⟨v3, cs3, he, hpu3, hcl3, hls3, hb9⟩ := readQuery_ok hq hP3
    unfold faultV at he
    subst he
    have HB9 := hide (HB6.out.trans (hb9.mono HB6.out.size))
    have hsame : xs.map (fun x => x.pur.st) = cs3.map (fun x => x.pur.st) := by
      have e1 : xs.map (fun x => x.pur.st) = P2.map PLit.st := by rw [← HPu.out, List.map_map]; rfl
      have e2 : cs3.map (fun x => x.pur.st) = P3.map PLit.st := by rw [← hpu3, List.map_map]; rfl
      rw [e1, e2, hst]
    have HLs9 := hide (HLs6.out.kept hb9)
    have HLs3 := hide hls3.all
    have HSm := hide (fun V (hb : Below w9.heap.size w9 V) => sameBody4 (HLs9.out.kept hb) (HLs3.out.kept hb) hsame)
    obtain ⟨va3, vc3, hv, -, -, -⟩ := hls3.shape
    subst hv
    clear hq hP3 hst hpu3 hcl3 hls3 hb9 hsame hdot hemp
    generalize cs3.length = n3 at *
    generalize xs.length = n2 at *
    have hz := fq_zero
    have HBa := hide (belowA w9 (.cells #[.int .i64 0, .int .i64 0, .int .i64 0] 31))
    go_wp2_with fail
    refine (HSm.out _ HBa.out).mono ?_
    rintro e wa ⟨rfl, hba⟩
    have HBb := hide (HBa.out.trans (hba.mono HBa.out.size))
    clear hba
    go_wp2
    go_ret
    exact ⟨rfl, HB9.out.trans (HBb.out.mono HB9.out.size)⟩
end Go.Proofs.YtchhophblejmeaaGreatDoor

namespace Go.Proofs.YtchhophblejmeaaGreatDoor
set_option linter.unusedSimpArgs false
set_option linter.unusedVariables false
open Go.RowKit Go.Deep Go.ChangeShapes Go.WideShapes Go.ChangeAt Go.Joins

section
variable {H : Type} {enc : TypeId × Value → H} {w : World}

set_option maxRecDepth 100000 in
theorem open_lit4 {r : Reach} {b0 : Nat} {v : Value} {d : DataW H} {ps : List MemPlace} {ts : List TypeId} {ds : List (DataW H)} {j : Nat}
    (hv : Value.okWide Tryz.prog w r b0 56 v) (h : DataW.Trod enc Tryz.prog w 0 (fun _ => true) true 56 v d ps)
    (hsz : (DataW.weightsEach Tryz.prog ts ds).all (· ≤ reachBytes) = true) (hts : ts[j]? = some 56) (hds : ds[j]? = some d) :
    ∃ x : Ltr, v = x.val ∧ x.at w := by
  obtain ⟨cs, rfl, hs⟩ := okWide_struct Tryz.underlying56 hv
  rw [cellsLit] at hs
  obtain ⟨l⟩ := cs
  have hw : ∀ n ∈ d.weights Tryz.prog 56, n ≤ 140737488351232 := fun n hn => of_decide_eq_true (List.all_eq_true.1 hsz n (DataW.weights_mem_each hts hds n hn))
  obtain ⟨fuel, hf⟩ := h
  simp only [Value.cells] at hf
  obtain ⟨x, hx, rfl⟩ := ltr_vals hf hw
  exact ⟨x, rfl, hx⟩

set_option maxRecDepth 100000 in
theorem open_lits4 {r : Reach} {b0 : Nat} {v : Value} {d : DataW H} {ps : List MemPlace} {ts : List TypeId} {ds : List (DataW H)} {j : Nat}
    (hv : Value.okWide Tryz.prog w r b0 57 v) (h : DataW.Trod enc Tryz.prog w 0 (fun _ => true) true 57 v d ps)
    (hsz : (DataW.weightsEach Tryz.prog ts ds).all (· ≤ reachBytes) = true) (hts : ts[j]? = some 57) (hds : ds[j]? = some d) :
    ∃ ao len cap xs, v = .slice ao len cap ∧ IsLtrs w ao len xs ∧ len * 152 ≤ 140737488351232 ∧ (ao = none → len = 0 ∧ cap = 0) := by
  obtain ⟨ao, len, cap, rfl⟩ := okWide_slice Tryz.underlying57 hv
  have hc := open_cap Tryz.underlying57 h
  have hw : ∀ n ∈ d.weights Tryz.prog 57, n ≤ 140737488351232 := fun n hn => of_decide_eq_true (List.all_eq_true.1 hsz n (DataW.weights_mem_each hts hds n hn))
  obtain ⟨fuel, hf⟩ := h
  simp only [Value.cells] at hf
  obtain ⟨ao1, len1, cap1, e1, hr, -⟩ := rows_in Tryz.underlying57 cellsLit (by omega) hf hw
  rw [show Tryz.prog.bytesOf 56 = 152 from by kernel_rfl] at hr
  obtain ⟨ao2, len2, cap2, xs, e2, hx⟩ := ltrs_val hf hw
  cases e1
  cases e2
  exact ⟨ao, len, cap, xs, rfl, hx, hr, hc.2⟩
end
end Go.Proofs.YtchhophblejmeaaGreatDoor
