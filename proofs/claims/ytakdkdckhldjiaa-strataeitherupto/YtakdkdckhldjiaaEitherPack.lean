/- strata.Cycle and Bad, where the edges fit. Is it a level mapping? The document's Holds and strata.Holds. strata.Holds. Closed walks over a negated edge, said over lists; strata's noEdge and ContainsFunc with it. (By mk_cyc.py.) The document's Cyclic. strata.Cyclic. Level mappings and closed walks exclude each other; what Levels and Cycle answer is such a one. The law of the edges' order: its walk. The law that either levels hold or a walk is cyclic: its walk where a negated edge lies inside a component. (By mk_either.py.) The law that either levels hold or a walk is cyclic: its walk where none does. (By mk_either.py.) The law that either levels hold or a walk is cyclic: its walk. -/
import Derived.Test.YtakdkdckhldjiaaGraphShort
import Derived.Test.YtakdkdckhldjiaaEdgeRFit
import Derived.Laws.Cover3
import Derived.Test.YtakdkdckhldjiaaOrderPure

namespace Go.Proofs.Ytakdkdckhldjiaa
set_option linter.unusedSimpArgs false
set_option linter.unusedVariables false
open Go.RowKit Go.Maps
set_option maxRecDepth 100000

theorem bad_uniq {n : Nat} {es : List Edg} {H H' : Nat → Int} (hin : ∀ x ∈ es, 0 ≤ x.f ∧ x.f < n ∧ 0 ≤ x.t ∧ x.t < n) (he : ∀ v, v < n → H v = H' v) : findI (badE H) es = findI (badE H') es := by
  have h : es.findIdx? (badE H) = es.findIdx? (badE H') := by
    induction es with
    | nil => rfl
    | cons x l ih =>
      obtain ⟨q1, q2, q3, q4⟩ := hin x (by simp)
      have hx : badE H x = badE H' x := by unfold badE; rw [he _ (by omega), he _ (by omega)]
      rw [List.findIdx?_cons, List.findIdx?_cons, hx, ih (fun y hy => hin y (by simp [hy]))]
  unfold findI
  rw [h]
theorem bad_at {es : List Edg} {H : Nat → Int} (h : 0 ≤ findI (badE H) es) : ∃ (m : Nat) (x : Edg), findI (badE H) es = m ∧ es[m]? = some x ∧ badE H x = true := by
  unfold findI at h ⊢
  cases hf : es.findIdx? (badE H) with
  | none => rw [hf] at h; simp at h
  | some m =>
    obtain ⟨hm, hp, -⟩ := List.findIdx?_eq_some_iff_getElem.1 hf
    exact ⟨m, es[m], rfl, List.getElem?_eq_getElem hm, hp⟩


theorem own_one {w : World} {base B : Nat} {e : TypeId} {v : Value} (h : w.heap[B]? = some (.cells #[v] e (0, 0))) (hb : base ≤ B) : w.ownsRow base e 1 (.slice (some ⟨B, 0, none⟩) 1 1) 1 [v] :=
  ⟨rfl, .inr ⟨B, 1, #[v], rfl, hb, h, Nat.le_refl _, by decide, rfl, rfl⟩⟩
theorem own_news {w : World} {base n : Nat} {e : TypeId} {v : Value} {xs : List Value} (h : w.ownsRow base e 1 v n xs) : ∃ ao cap, v = .slice ao n cap ∧ (ao = none → n = 0 ∧ cap = 0) ∧ ∀ ad, ao = some ad → ∀ (j : Nat) (u : Value), xs[j]? = some u → w.cell? (ad.add j) = some u := by
  rcases h.2 with ⟨h1, h2⟩ | ⟨g, cap, cur, h1, h2, h3, h4, h5, h6, h7⟩
  · exact ⟨none, 0, by rw [h1, h2], fun _ => ⟨h2, rfl⟩, fun ad e => by cases e⟩
  · refine ⟨_, cap, h1, (fun e => by cases e), fun ad e j u hu => ?_⟩
    cases e
    rw [addr_add, Nat.zero_add]
    rw [← h7, List.getElem?_take] at hu
    split at hu
    · simp only [World.cell?, h3]
      simpa using hu
    · cases hu
theorem grow_join {w w' : World} {base : Nat} {v : Value} {m : Nat} {W : List Int} (hm : I64 (m : Int)) (hW : ∀ x ∈ W, I64 x) (h : w'.ownsRow base 3 1 v (1 + W.length) ([.int .i64 (m : Int)] ++ W.flatMap elInt.cells)) : Grow elInt 3 base w' v ((m : Int) :: W) := by
  refine ⟨?_, fun x hx => ?_⟩
  · have : ((m : Int) :: W).length = 1 + W.length := by simp; omega
    rw [this]
    exact h
  · rcases List.mem_cons.1 hx with rfl | hx
    · exact hm
    · exact hW x hx

theorem ints_len (W : List Int) : (W.flatMap elInt.cells).length = W.length * 1 := by
  induction W with
  | nil => rfl
  | cons x l ih => rw [List.flatMap_cons, List.length_append, ih]; simp [elInt]; omega
theorem ints_one (W : List Int) : ∀ u ∈ W.flatMap elInt.cells, u.oneCell' = true := fun u hu => by
  obtain ⟨x, -, hx⟩ := List.mem_flatMap.1 hu
  simp only [elInt, List.mem_singleton] at hx
  subst hx
  rfl

set_option maxHeartbeats 1000000 in
theorem cycle_bad {w : World} {v : Value} {es : List Edg} {n : Nat} (h : Has elEdg w v es) (hfit : fitP n es = true) (hb : HasBad n es) :
    Calls Try.prog 7 #[.int .i64 (n : Int), v] w fun e w' => ∃ (H : Nat → Int) (wv : Value) (m : Nat) (x : Edg) (W : List Int), (∀ v, v < n → LeastOf (Ed n (lnkT es)) v (H v)) ∧ e = .returned (.tuple #[wv, .int .i64 0]) ∧ Grow elInt 3 w.heap.size w' wv ((m : Int) :: W) ∧ (findI (badE H) es = m ∧ es[m]? = some x ∧ badE H x = true ∧ PathL es x.t.toNat W x.f.toNat ∧ W.length ≤ n) ∧ Below w.heap.size w w' := by
  have hn : n ≤ 128 := by have := (fit_in8 hfit).1; omega
  obtain ⟨va, vc, rfl, -, -, hlen⟩ := h.shape
  have HIn := hide (fit_in8 hfit).2
  have HF := hide (fit_any h n)
  rw [hfit] at HF
  have HL := hide h
  have HFt := hide hfit
  have HBd := hide hb
  clear h hfit hb
  go_enter Try.func7, Try.ntmps7
  go_wp2_with (first
    | (go_at_call 11; refine HF.out.mono ?_; rintro e w1 ⟨rfl, h1⟩; have HB1 := hide h1; clear h1)
    | (go_at_call 12; refine (newGraph_any (HL.out.kept HB1.out) HFt.out).mono ?_; rintro e w2 ⟨gl, rfl, h1, h2, h3⟩; have hbx := belo1 w2 (.cells #[.int .i64 (n : Int), .slice (some ⟨gl, 0, none⟩) (n * n) (n * n)] 38); have HG2 := hide (h2.kept hbx); have hB2 := HB1.out.trans (h3.mono HB1.out.size); have HB2 := hide (hB2.trans (hbx.mono hB2.size)); have HL2 := hide (((HL.out.kept HB1.out).kept h3).kept hbx); have HX0 : Hid ((w2.alloc (.cells #[.int .i64 (n : Int), .slice (some ⟨gl, 0, none⟩) (n * n) (n * n)] 38)).cell? ⟨w2.heap.size, 0, none⟩ = some (.int .i64 (n : Int)) ∧ (w2.alloc (.cells #[.int .i64 (n : Int), .slice (some ⟨gl, 0, none⟩) (n * n) (n * n)] 38)).cell? ⟨w2.heap.size, 1, none⟩ = some (.slice (some ⟨gl, 0, none⟩) (n * n) (n * n))) := (by show _ ∧ _; constructor <;> simp); clear h1 h2 h3 hbx hB2)
    | (go_at_call 13; refine (bad_any HG2.out hn HL2.out HIn.out).mono ?_; rintro e w3 ⟨H, h1, rfl, h5⟩; have x0 := kept_cell h5 HX0.out.1; have x1 := kept_cell h5 HX0.out.2; have HG3 := hide (HG2.out.kept h5); have HB3 := hide (HB2.out.trans (h5.mono HB2.out.size)); have HLe := hide h1; obtain ⟨m, x, hm, hx, hbx⟩ := bad_at ((bad_iff HIn.out h1).2 HBd.out); have HL3 := hide (HL2.out.kept h5); have HM := hide (And.intro hm (And.intro hx hbx)); have hm0 : (0 : Int) ≤ (m : Int) := (by omega); have hm1 : ¬ (m : Int) < 0 := (by omega); rw [hm]; clear h1 h5 hm hx hbx HG2 HB2 HL2 HX0))
  obtain ⟨hx0, hx1, hx2, hx3⟩ := HIn.out x (List.mem_of_getElem? HM.out.2.1)
  have hml : m < es.length := (List.getElem?_eq_some_iff.1 HM.out.2.1).1
  have hmi : (m : Int) < (es.length : Int) := by omega
  obtain ⟨kf, hkf⟩ : ∃ kf : Nat, x.f = kf := ⟨x.f.toNat, by omega⟩
  obtain ⟨kt, hkt⟩ : ∃ kt : Nat, x.t = kt := ⟨x.t.toNat, by omega⟩
  obtain ⟨eb, off, rfl, -, -, hrow⟩ := HL3.out.row (by omega)
  have y0 := hrow m x HM.out.2.1 0 _ rfl
  have y1 := hrow m x HM.out.2.1 1 _ rfl
  simp only [elEdg, Nat.add_zero] at y0 y1
  rw [hkf] at y0
  rw [hkt] at y1
  have hmut : Mut (Ed n (lnkT es)) kf kt := by
    have hb := HM.out.2.2
    unfold badE at hb
    simp only [Bool.and_eq_true, beq_iff_eq] at hb
    have h1 := hb.2
    rw [hkf, hkt, Int.toNat_natCast, Int.toNat_natCast] at h1
    exact (least_eq (HLe.out kf (by omega)) (HLe.out kt (by omega))).1 h1
  have HSh : Hid (∀ V : World, Below w3.heap.size w3 V → Calls Try.prog 15 #[.agg #[.int .i64 (n : Int), .slice (some ⟨gl, 0, none⟩) (n * n) (n * n)], .slice (some ⟨eb, off, none⟩) es.length vc, .int .i64 (kt : Int), .int .i64 (kf : Int)] V fun e w' => ∃ (wv : Value) (W : List Int), e = .returned wv ∧ Grow elInt 3 V.heap.size w' wv W ∧ (PathL es kt W kf ∧ W.length ≤ n) ∧ Below V.heap.size V w') := fun V hV => shortest_any (HG3.out.kept hV) hn (by omega) (by omega) (HL3.out.kept hV) HIn.out hmut.2
  have HPp := hide (And.intro hkf hkt)
  clear hrow hmut hx0 hx1 hx2 hx3
  obtain ⟨i0, hi0, hz0, hz1, hz2⟩ := info_parts Try.infoInt8
  have hbA : Below w3.heap.size w3 w3.drew := (Below.refl _ w3).drew
  have hbB : Below w3.heap.size w3 (w3.drew.alloc (.cells #[.int .i64 (m : Int)] 3)) := ((Below.refl _ w3).drew).alloc (Nat.le_refl _) _
  go_cut [4, 5] (fun t4 t5 wx => ∃ W : List Int, t5 = .int .i64 0 ∧ Hid (Grow elInt 3 w.heap.size wx t4 ((m : Int) :: W)) ∧ Hid (PathL es kt W kf ∧ W.length ≤ n) ∧ Hid (Below w.heap.size w wx))
  case first =>
    go_region_held3 (fun w' => w'.cell? ⟨w2.heap.size, 0, none⟩ = some (.int .i64 (n : Int)) ∧ w'.cell? ⟨w2.heap.size, 1, none⟩ = some (.slice (some ⟨gl, 0, none⟩) (n * n) (n * n)) ∧ w'.cell? ⟨eb, off + m * 4, none⟩ = some (.int .i64 (kf : Int)) ∧ w'.cell? ⟨eb, off + m * 4 + 1, none⟩ = some (.int .i64 (kt : Int)))
      (first | exact ⟨x0, x1, y0, y1⟩ | exact ⟨kept_cell hbB x0, kept_cell hbB x1, kept_cell hbB y0, kept_cell hbB y1⟩ | exact HSk.out | exact HSk2.out | exact HSk4.out)
      (first
        | (go_at_call 15; refine (HSh.out _ (by first | exact hbA | exact hbB)).mono ?_; rintro e V2 ⟨wv, W, rfl, g1, p1, b1⟩
           have HPa := hide p1
           have HWo : Hid (∀ x ∈ W, I64 x) := g1.2
           obtain ⟨ao, cap, rfl, hno, hnw⟩ := own_news g1.1
           have HNo := hide hno
           first
             | (have hk := b1.block w3.heap.size (by show w3.heap.size < (w3.drew.alloc (.cells #[.int .i64 (m : Int)] 3)).heap.size; show _ < (w3.heap.push _).size; rw [Array.size_push]; exact Nat.lt_succ_self _)
                have HOw : Hid (V2.ownsRow w3.heap.size 3 1 (.slice (some ⟨w3.heap.size, 0, none⟩) 1 1) 1 [.int .i64 (m : Int)]) := own_one (hk.trans (heap_alloc_new w3.drew (.cells #[.int .i64 (m : Int)] 3))) (Nat.le_refl _)
                have HNw := hide hnw
                have hbz : Below w3.heap.size w3 V2 := hbB.trans (b1.mono hbB.size)
                have HBz := hide hbz
                have HSk := hide (And.intro (kept_cell hbz x0) (And.intro (kept_cell hbz x1) (And.intro (kept_cell hbz y0) (kept_cell hbz y1))))
                clear hk hbz)
             | (have hb2 : Below w3.heap.size w3 V2 := hbA.trans (b1.mono hbA.size)
                have hbz := hb2.alloc hb2.size (.cells #[.int .i64 (m : Int)] 3)
                have HOw : Hid ((V2.alloc (.cells #[.int .i64 (m : Int)] 3)).ownsRow w3.heap.size 3 1 (.slice (some ⟨V2.heap.size, 0, none⟩) 1 1) 1 [.int .i64 (m : Int)]) := own_one (heap_alloc_new V2 (.cells #[.int .i64 (m : Int)] 3)) hb2.size
                have HNw := hide (fun ad e j u hu => kept_cell (belo1 V2 (.cells #[.int .i64 (m : Int)] 3)) (hnw ad e j u hu))
                have HBz := hide hbz
                have HSk := hide (And.intro (kept_cell hb2 x0) (And.intro (kept_cell hb2 x1) (And.intro (kept_cell hb2 y0) (kept_cell hb2 y1))))
                have HSk2 := hide (And.intro (kept_cell hbz x0) (And.intro (kept_cell hbz x1) (And.intro (kept_cell hbz y0) (kept_cell hbz y1))))
                clear hbz hb2)
           clear g1 p1 b1 hno hnw)
        | (refine step_append_any (by rfl) _ _ 23 (by rfl) w3.heap.size 3 i0 _ 1 8 Try.underlying23 hi0 hz0 hz1 hz2 rfl (by decide) _ 1 [.int .i64 (m : Int)] (by rfl) HOw.out ao W.length cap (W.flatMap elInt.cells) (by rfl) HNo.out (ints_len W) HNw.out (ints_one W) (by have := HPa.out.2; unfold maxLen; omega) (by have := HPa.out.2; omega) HBz.out.size ?_
           intro v4 w4 hown4 hgrow4
           have hbe := below_grown HBz.out HOw.out hgrow4 HBz.out.size
           have HGr := hide ((grow_join (w := w) ⟨by omega, by omega⟩ HWo.out hown4).mono HB3.out.size)
           have HBe := hide (HB3.out.trans (hbe.mono HB3.out.size))
           have HSk4 := hide (And.intro (kept_cell hbe x0) (And.intro (kept_cell hbe x1) (And.intro (kept_cell hbe y0) (kept_cell hbe y1))))
           clear hown4 hgrow4 hbe))
    all_goals (go_wp2; go_meet)
    all_goals exact ⟨W, rfl, HGr, HPa, HBe⟩
  case rest =>
    obtain ⟨W, rfl, HGr, HPa, HBe⟩ := hcut
    go_wp2
    exact bodyPost_ret (v := .tuple #[u4, .int .i64 0]) (by simp [results, Try.results7, go_sem]) rfl ⟨H, u4, m, x, W, HLe.out, rfl, HGr.out, ⟨HM.out.1, HM.out.2.1, HM.out.2.2, by rw [HPp.out.1, HPp.out.2]; simpa using HPa.out.1, HPa.out.2⟩, HBe.out⟩

set_option maxHeartbeats 1000000 in
theorem cycle_good {w : World} {v : Value} {es : List Edg} {n : Nat} (h : Has elEdg w v es) (hfit : fitP n es = true) (hb : ¬ HasBad n es) :
    Calls Try.prog 7 #[.int .i64 (n : Int), v] w fun e w' => e = .returned (.tuple #[.slice none 0 0, .int .i64 0]) ∧ Below w.heap.size w w' := by
  have hn : n ≤ 128 := by have := (fit_in8 hfit).1; omega
  obtain ⟨va, vc, rfl, -, -, hlen⟩ := h.shape
  have HIn := hide (fit_in8 hfit).2
  have HF := hide (fit_any h n)
  rw [hfit] at HF
  have HL := hide h
  have HFt := hide hfit
  have HBd := hide hb
  clear h hfit hb
  go_enter Try.func7, Try.ntmps7
  go_wp2_with (first
    | (go_at_call 11; refine HF.out.mono ?_; rintro e w1 ⟨rfl, h1⟩; have HB1 := hide h1; clear h1)
    | (go_at_call 12; refine (newGraph_any (HL.out.kept HB1.out) HFt.out).mono ?_; rintro e w2 ⟨gl, rfl, h1, h2, h3⟩; have hbx := belo1 w2 (.cells #[.int .i64 (n : Int), .slice (some ⟨gl, 0, none⟩) (n * n) (n * n)] 38); have HG2 := hide (h2.kept hbx); have hB2 := HB1.out.trans (h3.mono HB1.out.size); have HB2 := hide (hB2.trans (hbx.mono hB2.size)); have HL2 := hide (((HL.out.kept HB1.out).kept h3).kept hbx); clear h1 h2 h3 hbx hB2)
    | (go_at_call 13; refine (bad_any HG2.out hn HL2.out HIn.out).mono ?_; rintro e w3 ⟨H, h1, rfl, h5⟩; have HB3 := hide (HB2.out.trans (h5.mono HB2.out.size)); have hge : ¬ 0 ≤ findI (badE H) es := (fun hc => HBd.out ((bad_iff HIn.out h1).1 hc)); obtain ⟨bd, hbd⟩ : ∃ bd, findI (badE H) es = bd := ⟨_, rfl⟩; rw [hbd] at hge ⊢; have hge2 : bd < 0 := (by omega); clear h1 h5 hbd))
  exact bodyPost_ret (v := .tuple #[.slice none 0 0, .int .i64 0]) (by simp [results, Try.results7, go_sem]) rfl ⟨rfl, HB3.out⟩
end Go.Proofs.Ytakdkdckhldjiaa

namespace Go.Proofs.Ytakdkdckhldjiaa
set_option linter.unusedSimpArgs false
set_option linter.unusedVariables false
open Go.RowKit

def lv (ls : List Int) (x : Int) : Int := (ls[x.toNat]?).getD 0
def eBad (ls : List Int) (e : Edg) : Bool := decide (lv ls e.t < lv ls e.f) || (e.neg && (lv ls e.t == lv ls e.f))
def neg0 (x : Int) : Bool := decide (x < 0)
def holdsP (n : Int) (es : List Edg) (ls : List Int) : Bool := fitP n es && ((ls.length : Int) == n && (!ls.any neg0 && !es.any (eBad ls)))

theorem fit_in {n : Int} {es : List Edg} (h : fitP n es = true) : (0 ≤ n ∧ n ≤ 128) ∧ ∀ x ∈ es, 0 ≤ x.f ∧ x.f < n ∧ 0 ≤ x.t ∧ x.t < n := by
  unfold fitP at h
  simp only [Bool.and_eq_true, decide_eq_true_eq, Bool.not_eq_true', List.any_eq_false] at h
  refine ⟨⟨h.1, h.2.1⟩, fun x hx => eOut_false ?_⟩
  have := h.2.2 x hx
  simpa using this

end Go.Proofs.Ytakdkdckhldjiaa

namespace Go.Proofs.Ytakdkdckhldjiaa
set_option linter.unusedSimpArgs false
set_option linter.unusedVariables false
open Go.RowKit
set_option maxRecDepth 100000

set_option maxHeartbeats 1000000 in
theorem holds_any {w : World} {v u : Value} {es : List Edg} {ls : List Int} (h : Has elEdg w v es) (hu : Has elInt w u ls) (n : Int) :
    Calls Try.prog 8 #[.int .i64 n, v, u] w fun e w' => e = .returned (.bool (holdsP n es ls)) ∧ Below w.heap.size w w' := by
  have HF := hide (fit_any h n)
  obtain ⟨va, vc, rfl, -, -, hlen⟩ := h.shape
  obtain ⟨ua, uc, rfl, -, -, hlen2⟩ := hu.shape
  have HL := hide h
  have HU := hide hu
  clear h hu
  unfold holdsP
  cases hfit : fitP n es with
  | false =>
    rw [hfit] at HF
    go_enter Try.func8, Try.ntmps8
    go_wp2_with (go_at_call 11; refine HF.out.mono ?_; rintro e w2 ⟨rfl, h2⟩; have HB2 := hide h2; clear h2)
    go_ret
    exact ⟨rfl, HB2.out⟩
  | true =>
    rw [hfit] at HF
    obtain ⟨⟨hn0, hn1⟩, hin⟩ := fit_in hfit
    have HI := hide hin
    clear hin hfit hn0 hn1
    by_cases hq : (ls.length : Int) = n
    · subst hq
      have hq' : ((ls.length : Int) != (ls.length : Int)) = false := by simp
      have HE : Hid ((true && (((ls.length : Int) == (ls.length : Int)) && (!ls.any neg0 && !es.any (eBad ls)))) = (!ls.any neg0 && !es.any (eBad ls))) := by show _ = _; simp
      rw [HE.out]
      obtain ⟨a, ha⟩ : ∃ a, ls.any neg0 = a := ⟨_, rfl⟩
      obtain ⟨c, hc⟩ : ∃ c, es.any (eBad ls) = c := ⟨_, rfl⟩
      rw [ha, hc]
      have HA := hide ha
      have HC := hide hc
      clear ha hc HE
      go_enter Try.func8, Try.ntmps8
      go_wp2_with (go_at_call 11; refine HF.out.mono ?_; rintro e w2 ⟨rfl, h2⟩; have HB2 := hide h2; clear h2)
      go_loopw [7, 21] (fun _ i wl => ∃ k : Nat, k ≤ ls.length ∧ i = .int .i64 k ∧ Hid (∀ x ∈ ls.take k, neg0 x = false) ∧ Hid (Below w.heap.size w wl)) (fun _ i _ => ls.length - (intOf i).toNat)
      case atStart => exact ⟨0, by omega, rfl, by show ∀ x ∈ ls.take 0, neg0 x = false; simp, HB2⟩
      case round =>
        obtain ⟨k, hk, rfl, HK, HB⟩ := hrel
        clear HB2
        by_cases hlt : k < ls.length
        · have hi : (k : Int) < (ls.length : Int) := by omega
          have hi0 : (0 : Int) ≤ (k : Int) := by omega
          obtain ⟨b, off, rfl, -, -, hrow⟩ := HU.out.row (by omega)
          obtain ⟨x, hx⟩ : ∃ x, ls[k]? = some x := ⟨_, List.getElem?_eq_getElem hlt⟩
          have y0 := kept_cell HB.out (hrow k x hx 0 _ rfl)
          simp only [elInt, Nat.add_zero, Nat.mul_one] at y0
          have HX := hide hx
          clear hrow hx
          cases he : neg0 x with
          | true =>
            have HE : Hid (a = true) := by show _ = _; rw [← HA.out]; exact any_at HX.out he
            unfold neg0 at he
            go_wp2
            go_ret
            exact ⟨by rw [HE.out]; rfl, HB.out⟩
          | false =>
            have HF2 := hide (all_snoc HX.out HK.out he)
            unfold neg0 at he
            go_wp2
            go_roundw
            case rel => exact ⟨k + 1, by omega, by go_num, HF2, HB⟩
            case measure => simp [intOf]; omega
        · obtain rfl : k = ls.length := by omega
          have hi : ¬ (ls.length : Int) < (ls.length : Int) := by omega
          have HEa : Hid (a = false) := by show _ = _; rw [← HA.out]; exact any_no HK.out
          clear HA HK
          go_wp2
          go_loopw [9, 32] (fun _ i wl => ∃ k : Nat, k ≤ es.length ∧ i = .int .i64 k ∧ Hid (∀ x ∈ es.take k, eBad ls x = false) ∧ Hid (Below w.heap.size w wl)) (fun _ i _ => es.length - (intOf i).toNat)
          case atStart => exact ⟨0, by omega, rfl, by show ∀ x ∈ es.take 0, eBad ls x = false; simp, HB⟩
          case round =>
            clear HB
            obtain ⟨k, hk, rfl, HK, HB⟩ := hrel
            by_cases hlt : k < es.length
            · have hi : (k : Int) < (es.length : Int) := by omega
              have hi0 : (0 : Int) ≤ (k : Int) := by omega
              obtain ⟨b, off, rfl, -, -, hrow⟩ := HL.out.row (by omega)
              obtain ⟨x, hx⟩ : ∃ x, es[k]? = some x := ⟨_, List.getElem?_eq_getElem hlt⟩
              have y0 := kept_cell HB.out (hrow k x hx 0 _ rfl)
              have y1 := kept_cell HB.out (hrow k x hx 1 _ rfl)
              have y2 := kept_cell HB.out (hrow k x hx 2 _ rfl)
              have y3 := kept_cell HB.out (hrow k x hx 3 _ rfl)
              simp only [elEdg, Nat.add_zero] at y0 y1 y2 y3
              obtain ⟨g1, g2, g3, g4⟩ := HI.out x (List.mem_of_getElem? hx)
              have HX := hide hx
              clear hrow hx
              obtain ⟨f, t, g, r⟩ := x
              obtain ⟨kf, rfl⟩ : ∃ kf : Nat, f = kf := ⟨f.toNat, by dsimp only at g1; omega⟩
              obtain ⟨kt, rfl⟩ : ∃ kt : Nat, t = kt := ⟨t.toNat, by dsimp only at g3; omega⟩
              dsimp only at g1 g2 g3 g4 y0 y1 y2 y3
              obtain ⟨ub, uo, rfl, -, -, urow⟩ := HU.out.row (by omega)
              obtain ⟨lf, hlf⟩ : ∃ x, ls[kf]? = some x := ⟨_, List.getElem?_eq_getElem (by omega)⟩
              obtain ⟨lt, hlt'⟩ : ∃ x, ls[kt]? = some x := ⟨_, List.getElem?_eq_getElem (by omega)⟩
              have z0 := kept_cell HB.out (urow kf lf hlf 0 _ rfl)
              have z1 := kept_cell HB.out (urow kt lt hlt' 0 _ rfl)
              simp only [elInt, Nat.add_zero, Nat.mul_one] at z0 z1
              have HD : Hid (eBad ls ⟨kf, kt, g, r⟩ = (decide (lt < lf) || (g && (lt == lf)))) := by
                show _ = _
                unfold eBad lv
                simp [hlf, hlt']
              clear urow hlf hlt'
              have hb1 := belo1 wr (.cells #[.int .i64 kf, .int .i64 kt, .bool g, .int .i64 r] 35)
              obtain ⟨Y, hY⟩ : ∃ Y, Y = wr.alloc (.cells #[.int .i64 kf, .int .i64 kt, .bool g, .int .i64 r] 35) := ⟨_, rfl⟩
              rw [← hY] at hb1
              have HBa := hide (HB.out.trans (hb1.mono HB.out.size))
              have c0 := over_cell (kept_cell hb1 z0)
              have c1 := over_cell (kept_cell hb1 z1)
              have e0 : ∀ x, (over Y x).cell? ⟨wr.heap.size, 0, none⟩ = some (.int .i64 kf) := over_cell (by rw [hY]; simp)
              have e1 : ∀ x, (over Y x).cell? ⟨wr.heap.size, 1, none⟩ = some (.int .i64 kt) := over_cell (by rw [hY]; simp)
              have e2 : ∀ x, (over Y x).cell? ⟨wr.heap.size, 2, none⟩ = some (.bool g) := over_cell (by rw [hY]; simp)
              clear hb1 z0 z1
              go_wp2
              rw [← hY]
              clear hY y0 y1 y2 y3
              cases he : eBad ls ⟨kf, kt, g, r⟩ with
              | true =>
                have HE : Hid (c = true) := by show _ = _; rw [← HC.out]; exact any_at HX.out he
                have hd := HD.out
                rw [he] at hd
                clear he HD
                cases h1 : decide (lt < lf) with
                | true =>
                  clear hd
                  refine wp_region_over (fun W => W = Y) (by kernel_rfl) (by kernel_rfl) rfl ?_
                  rintro W rfl
                  repeat (go_big_quiet_step (first | fail))
                  refine wpQuiet_nil ?_
                  rintro _ ⟨z, rfl⟩
                  have HBz := hide (HBa.out.trans ((over_below W z).mono HBa.out.size))
                  go_wp2
                  go_ret
                  exact ⟨by rw [HEa.out, HE.out]; rfl, HBz.out⟩
                | false =>
                  rw [h1] at hd
                  simp only [Bool.false_or] at hd
                  replace hd := hd.symm
                  rw [Bool.and_eq_true] at hd
                  obtain ⟨rfl, h2⟩ := hd
                  refine wp_region_over (fun W => W = Y) (by kernel_rfl) (by kernel_rfl) rfl ?_
                  rintro W rfl
                  repeat (go_big_quiet_step (first | fail))
                  refine wpQuiet_nil ?_
                  rintro _ ⟨z, rfl⟩
                  have HBz := hide (HBa.out.trans ((over_below W z).mono HBa.out.size))
                  go_wp2
                  go_ret
                  exact ⟨by rw [HEa.out, HE.out]; rfl, HBz.out⟩
              | false =>
                have HF2 := hide (all_snoc HX.out HK.out he)
                have hd := HD.out
                rw [he] at hd
                replace hd := hd.symm
                rw [Bool.or_eq_false_iff] at hd
                obtain ⟨h1, h2⟩ := hd
                clear he HD
                cases g
                · clear h2
                  refine wp_region_over (fun W => W = Y) (by kernel_rfl) (by kernel_rfl) rfl ?_
                  rintro W rfl
                  repeat (go_big_quiet_step (first | fail))
                  refine wpQuiet_nil ?_
                  rintro _ ⟨z, rfl⟩
                  have HBz := hide (HBa.out.trans ((over_below W z).mono HBa.out.size))
                  go_wp2
                  go_roundw
                  case rel => exact ⟨k + 1, by omega, by go_num, HF2, HBz⟩
                  case measure => simp [intOf]; omega
                · simp only [Bool.true_and] at h2
                  refine wp_region_over (fun W => W = Y) (by kernel_rfl) (by kernel_rfl) rfl ?_
                  rintro W rfl
                  repeat (go_big_quiet_step (first | fail))
                  refine wpQuiet_nil ?_
                  rintro _ ⟨z, rfl⟩
                  have HBz := hide (HBa.out.trans ((over_below W z).mono HBa.out.size))
                  go_wp2
                  go_roundw
                  case rel => exact ⟨k + 1, by omega, by go_num, HF2, HBz⟩
                  case measure => simp [intOf]; omega
            · obtain rfl : k = es.length := by omega
              have hi : ¬ (es.length : Int) < (es.length : Int) := by omega
              have HE : Hid (c = false) := by show _ = _; rw [← HC.out]; exact any_no HK.out
              go_wp2
              go_ret
              exact ⟨by rw [HEa.out, HE.out]; rfl, HB.out⟩
    · have hq' : ((ls.length : Int) != n) = true := by simpa using hq
      have hq2 : ((ls.length : Int) == n) = false := by simpa using hq
      rw [hq2]
      clear hq
      go_enter Try.func8, Try.ntmps8
      go_wp2_with (go_at_call 11; refine HF.out.mono ?_; rintro e w2 ⟨rfl, h2⟩; have HB2 := hide h2; clear h2)
      go_ret
      exact ⟨rfl, HB2.out⟩
end Go.Proofs.Ytakdkdckhldjiaa

namespace Go.Proofs.Ytakdkdckhldjiaa
set_option linter.unusedSimpArgs false
set_option linter.unusedVariables false
open Go.RowKit

def ed (es : List Edg) (x : Int) : Edg := (es[x.toNat]?).getD ⟨0, 0, false, 0⟩
def wk (l : List Int) (i : Nat) : Int := (l[i]?).getD 0
def outN (m : Nat) (x : Int) : Bool := !inB x m
def negW (es : List Edg) (x : Int) : Bool := (ed es x).neg
def prv (m i : Nat) : Nat := if i = 0 then m - 1 else i - 1
def nxt (m i : Nat) : Nat := if i + 1 = m then 0 else i + 1
def prevOk (es : List Edg) (l : List Int) (i : Nat) : Bool := (ed es (wk l i)).f == (ed es (wk l (prv l.length i))).t
def nextOk (es : List Edg) (l : List Int) (i : Nat) : Bool := (ed es (wk l i)).t == (ed es (wk l (nxt l.length i))).f
def cycB (es : List Edg) (l : List Int) : Bool := (List.range l.length).all (prevOk es l)
def cyclicP (n : Int) (es : List Edg) (l : List Int) : Bool := fitP n es && (!(l.length == 0) && (!l.any (outN es.length) && (cycB es l && l.any (negW es))))

theorem cyc_next (es : List Edg) (l : List Int) : cycB es l = (List.range l.length).all (nextOk es l) := by
  unfold cycB
  rw [Bool.eq_iff_iff, List.all_eq_true, List.all_eq_true]
  simp only [List.mem_range]
  constructor
  · intro h i hi
    have hj : nxt l.length i < l.length := by unfold nxt; split <;> omega
    have := h _ hj
    unfold prevOk at this
    unfold nextOk
    have e : prv l.length (nxt l.length i) = i := by unfold prv nxt; split <;> (split <;> omega)
    rw [e] at this
    rw [beq_iff_eq] at this ⊢
    exact this.symm
  · intro h i hi
    have hj : prv l.length i < l.length := by unfold prv; split <;> omega
    have := h _ hj
    unfold nextOk at this
    unfold prevOk
    have e : nxt l.length (prv l.length i) = i := by unfold prv nxt; split <;> (split <;> omega)
    rw [e] at this
    rw [beq_iff_eq] at this ⊢
    exact this.symm

theorem cyc_no {es : List Edg} {l : List Int} {i : Nat} (hi : i < l.length) (h : prevOk es l i = false) : cycB es l = false := by
  unfold cycB
  rw [List.all_eq_false]
  exact ⟨i, List.mem_range.2 hi, by simp [h]⟩
theorem cyc_no' {es : List Edg} {l : List Int} {i : Nat} (hi : i < l.length) (h : nextOk es l i = false) : cycB es l = false := by
  rw [cyc_next, List.all_eq_false]
  exact ⟨i, List.mem_range.2 hi, by simp [h]⟩
theorem cyc_yes {es : List Edg} {l : List Int} (h : ∀ i, i < l.length → prevOk es l i = true) : cycB es l = true := by
  unfold cycB
  rw [List.all_eq_true]
  exact fun i hi => h i (List.mem_range.1 hi)
theorem cyc_yes' {es : List Edg} {l : List Int} (h : ∀ i, i < l.length → nextOk es l i = true) : cycB es l = true := by
  rw [cyc_next, List.all_eq_true]
  exact fun i hi => h i (List.mem_range.1 hi)
theorem outN_false {m : Nat} {x : Int} (h : outN m x = false) : ∃ k : Nat, x = k ∧ k < m := by
  unfold outN inB at h
  simp at h
  exact ⟨x.toNat, by omega, by omega⟩
theorem outN_true {m : Nat} {x : Int} (h : outN m x = true) : x < 0 ∨ (0 ≤ x ∧ (m : Int) ≤ x) := by
  unfold outN inB at h
  simp at h
  omega

set_option maxHeartbeats 1000000 in
theorem noEdge_any {w : World} {be : Nat} {ea : Option Addr} {m c : Nat} (hn : w.cell? ⟨be, 0, none⟩ = some (.slice ea m c)) (x : Int) :
    Calls Try.prog 16 #[.int .i64 x, .pointer (some ⟨be, 0, none⟩)] w fun e w' => e = .returned (.bool (outN m x)) ∧ Below w.heap.size w w' := by
  have w1 := fun V : World => within_any x m V
  unfold outN
  obtain ⟨p, hp⟩ : ∃ p, inB x m = p := ⟨_, rfl⟩
  rw [hp] at w1 ⊢
  clear hp
  go_enter Try.func16, Try.ntmps16
  go_wp2_with (go_at_call 17; refine (w1 _).mono ?_; clear w1; rintro e v2 ⟨rfl, hw⟩; have hw := hw.symm; subst hw)
  go_ret
  exact ⟨rfl, Below.refl _ _⟩

set_option maxHeartbeats 1000000 in
theorem idx_noEdge {w : World} {v : Value} {es : List Int} {be : Nat} {m : Nat} (h : Has elInt w v es)
    (hf : ∀ V : World, Below w.heap.size w V → ∀ x ∈ es, Calls Try.prog 16 #[.int .i64 x, .pointer (some ⟨be, 0, none⟩)] V fun e w' => e = .returned (.bool (outN m x)) ∧ Below V.heap.size V w') :
    Calls Try.prog 29 #[v, .func (.func 16) #[] #[.pointer (some ⟨be, 0, none⟩)]] w fun e w' => e = .returned (.int .i64 (findI (outN m) es)) ∧ Below w.heap.size w w' := by
  obtain ⟨va, vc, rfl, -, -, hlen⟩ := h.shape
  have HL := hide h
  have HF := hide hf
  clear h hf
  go_enter Try.func29, Try.ntmps29
  go_wp2
  go_loopw [5, 8] (fun _ i wl => ∃ k : Nat, k ≤ es.length ∧ i = .int .i64 k ∧ Hid (∀ x ∈ es.take k, outN m x = false) ∧ Hid (Below w.heap.size w wl)) (fun _ i _ => es.length - (intOf i).toNat)
  case atStart => exact ⟨0, by omega, rfl, by show ∀ x ∈ es.take 0, outN m x = false; simp, Below.refl _ _⟩
  case round =>
    obtain ⟨k, hk, rfl, HK, HB⟩ := hrel
    by_cases hlt : k < es.length
    · have hi : (k : Int) < (es.length : Int) := by omega
      have hi0 : (0 : Int) ≤ (k : Int) := by omega
      obtain ⟨b, off, rfl, -, -, hrow⟩ := HL.out.row (by omega)
      obtain ⟨x, hx⟩ : ∃ x, es[k]? = some x := ⟨_, List.getElem?_eq_getElem hlt⟩
      have y0 := kept_cell HB.out (hrow k x hx 0 _ rfl)
      simp only [elInt, Nat.add_zero, Nat.mul_one] at y0
      have HX := hide hx
      have HC := hide (HF.out wr HB.out x (List.mem_of_getElem? hx))
      clear hrow hx
      cases he : outN m x with
      | true =>
        rw [he] at HC
        have HR := hide (findI_at HX.out HK.out he)
        go_wp2_with (go_at_call 16; refine HC.out.mono ?_; rintro e w2 ⟨rfl, h2⟩; have HB2 := hide (HB.out.trans (h2.mono HB.out.size)); clear h2)
        go_ret
        exact ⟨by rw [HR.out]; rfl, HB2.out⟩
      | false =>
        rw [he] at HC
        have HF2 := hide (all_snoc HX.out HK.out he)
        go_wp2_with (go_at_call 16; refine HC.out.mono ?_; rintro e w2 ⟨rfl, h2⟩; have HB2 := hide (HB.out.trans (h2.mono HB.out.size)); clear h2)
        go_roundw
        case rel => exact ⟨k + 1, by omega, by go_num, HF2, HB2⟩
        case measure => simp [intOf]; omega
    · obtain rfl : k = es.length := by omega
      have hi : ¬ (es.length : Int) < (es.length : Int) := by omega
      have HR := hide (findI_no HK.out)
      go_wp2
      go_ret
      exact ⟨by rw [HR.out]; rfl, HB.out⟩

theorem contains_noEdge {w : World} {v : Value} {es : List Int} {be : Nat} {m : Nat} (h : Has elInt w v es)
    (hf : ∀ V : World, Below w.heap.size w V → ∀ x ∈ es, Calls Try.prog 16 #[.int .i64 x, .pointer (some ⟨be, 0, none⟩)] V fun e w' => e = .returned (.bool (outN m x)) ∧ Below V.heap.size V w') :
    Calls Try.prog 18 #[v, .func (.func 16) #[] #[.pointer (some ⟨be, 0, none⟩)]] w fun e w' => e = .returned (.bool (es.any (outN m))) ∧ Below w.heap.size w w' := by
  have HI := hide (idx_noEdge h hf)
  clear h hf
  have HR := hide (findI_any (outN m) es)
  obtain ⟨r, hr⟩ : ∃ r, findI (outN m) es = r := ⟨_, rfl⟩
  rw [hr] at HI HR
  clear hr
  go_enter Try.func18, Try.ntmps18
  by_cases h0 : 0 ≤ r
  · go_wp2_with (go_at_call 29; refine HI.out.mono ?_; rintro e w2 ⟨rfl, h2⟩; have HB2 := hide h2; clear h2)
    go_ret
    exact ⟨by rw [← HR.out]; simp [h0], HB2.out⟩
  · go_wp2_with (go_at_call 29; refine HI.out.mono ?_; rintro e w2 ⟨rfl, h2⟩; have HB2 := hide h2; clear h2)
    go_ret
    exact ⟨by rw [← HR.out]; simp [h0], HB2.out⟩
end Go.Proofs.Ytakdkdckhldjiaa

namespace Go.Proofs.Ytakdkdckhldjiaa
set_option linter.unusedSimpArgs false
set_option linter.unusedVariables false
open Go.RowKit

theorem ed_at {es : List Edg} {k : Nat} {x : Edg} (h : es[k]? = some x) : ed es (k : Int) = x := by unfold ed; simp [h]
theorem wk_at {l : List Int} {k : Nat} {x : Int} (h : l[k]? = some x) : wk l k = x := by unfold wk; simp [h]

end Go.Proofs.Ytakdkdckhldjiaa

namespace Go.Proofs.Ytakdkdckhldjiaa
set_option linter.unusedSimpArgs false
set_option linter.unusedVariables false
open Go.RowKit
set_option maxRecDepth 100000

set_option maxHeartbeats 1000000 in
theorem cyclic_any {w : World} {v u : Value} {es : List Edg} {ls : List Int} (h : Has elEdg w v es) (hu : Has elInt w u ls) (n : Int) :
    Calls Try.prog 10 #[.int .i64 n, v, u] w fun e w' => e = .returned (.bool (cyclicP n es ls)) ∧ Below w.heap.size w w' := by
  obtain ⟨va, vc, rfl, -, -, hlen⟩ := h.shape
  obtain ⟨ua, uc, rfl, -, -, hlen2⟩ := hu.shape
  have hb := belo1 w (.cells #[.slice va es.length vc] 22)
  have hbox : (w.alloc (.cells #[.slice va es.length vc] 22)).cell? ⟨w.heap.size, 0, none⟩ = some (.slice va es.length vc) := by simp
  have HBY := hide hb
  have HBox := hide hbox
  have HF := hide (fit_any (h.kept hb) n)
  have HL := hide (h.kept hb)
  have HU := hide (hu.kept hb)
  clear h hu hb hbox
  unfold cyclicP
  cases hfit : fitP n es with
  | false =>
    rw [hfit] at HF
    go_enter Try.func10, Try.ntmps10
    go_wp2_with (go_at_call 11; refine HF.out.mono ?_; rintro e w2 ⟨rfl, h2⟩; have HB2 := hide (HBY.out.trans (h2.mono HBY.out.size)); clear h2)
    go_ret
    exact ⟨rfl, HB2.out⟩
  | true =>
    rw [hfit] at HF
    clear hfit
    go_enter Try.func10, Try.ntmps10
    by_cases hq : ls.length = 0
    · have hq' : ((ls.length : Int) == 0) = true := by simpa using hq
      have hq2 : (ls.length == 0) = true := by simpa using hq
      rw [hq2]
      clear hq
      go_wp2_with (go_at_call 11; refine HF.out.mono ?_; rintro e w2 ⟨rfl, h2⟩; have HB2 := hide (HBY.out.trans (h2.mono HBY.out.size)); clear h2)
      go_ret
      exact ⟨rfl, HB2.out⟩
    · have hq' : ((ls.length : Int) == 0) = false := by rw [beq_eq_false_iff_ne]; omega
      have hq2 : (ls.length == 0) = false := by simpa using hq
      rw [hq2]
      have hpos : 0 < ls.length := by omega
      clear hq hq2
      obtain ⟨a, ha⟩ : ∃ a, ls.any (outN es.length) = a := ⟨_, rfl⟩
      obtain ⟨c, hc⟩ : ∃ c, cycB es ls = c := ⟨_, rfl⟩
      obtain ⟨d, hd⟩ : ∃ d, ls.any (negW es) = d := ⟨_, rfl⟩
      rw [ha, hc, hd]
      have HA := hide ha
      have HC := hide hc
      have HD := hide hd
      clear ha hc hd
      have HCt : Hid (∀ V : World, Below (w.alloc (.cells #[.slice va es.length vc] 22)).heap.size (w.alloc (.cells #[.slice va es.length vc] 22)) V → Calls Try.prog 18 #[.slice ua ls.length uc, .func (.func 16) #[] #[.pointer (some ⟨w.heap.size, 0, none⟩)]] V fun e w' => e = .returned (.bool a) ∧ Below V.heap.size V w') := fun V hV => by
        rw [← HA.out]
        exact contains_noEdge (HU.out.kept hV) (fun V2 h2 x _ => noEdge_any (kept_cell h2 (kept_cell hV HBox.out)) x)
      cases a with
      | true =>
        go_wp2_with (first
          | (go_at_call 11; refine HF.out.mono ?_; rintro e w2 ⟨rfl, h2⟩; have HV2 := hide h2; clear h2)
          | (go_at_call 18; refine (HCt.out _ HV2.out).mono ?_; rintro e w3 ⟨rfl, h3⟩; have HB3 := hide (HBY.out.trans ((HV2.out.trans (h3.mono HV2.out.size)).mono HBY.out.size)); clear h3))
        go_ret
        exact ⟨rfl, HB3.out⟩
      | false =>
        go_wp2_with (first
          | (go_at_call 11; refine HF.out.mono ?_; rintro e w2 ⟨rfl, h2⟩; have HV2 := hide h2; clear h2)
          | (go_at_call 18; refine (HCt.out _ HV2.out).mono ?_; rintro e w3 ⟨rfl, h3⟩; have HV3 := hide (HV2.out.trans (h3.mono HV2.out.size)); clear h3))
        have HIn : Hid (∀ x ∈ ls, ∃ k : Nat, x = k ∧ k < es.length) := by
          have h1 := HA.out
          rw [List.any_eq_false] at h1
          exact fun x hx => outN_false (by simpa using h1 x hx)
        have HL3 := hide (HL.out.kept HV3.out)
        have HU3 := hide (HU.out.kept HV3.out)
        have hbx := over_cell (kept_cell HV3.out HBox.out)
        have HB3 := hide (HBY.out.trans (HV3.out.mono HBY.out.size))
        have HBox3 := hide (kept_cell HV3.out HBox.out)
        clear HV3 HV2 HF HCt HA HL HU HBox HBY
        obtain ⟨ub, uo, rfl, -, -, urow⟩ := HU3.out.row hpos
        obtain ⟨x, hx⟩ : ∃ x, ls[ls.length - 1]? = some x := ⟨_, List.getElem?_eq_getElem (by omega)⟩
        obtain ⟨mx, rfl, hmx⟩ := HIn.out x (List.mem_of_getElem? hx)
        obtain ⟨eb, eo, rfl, -, -, erow⟩ := HL3.out.row (by omega)
        obtain ⟨ex, hex⟩ : ∃ x, es[mx]? = some x := ⟨_, List.getElem?_eq_getElem hmx⟩
        have u0 := over_cell (urow (ls.length - 1) _ hx 0 _ rfl)
        have v0 := over_cell (erow mx _ hex 1 _ rfl)
        simp only [elInt, elEdg, Nat.add_zero, Nat.mul_one] at u0 v0
        have hmx' : (mx : Int) < (es.length : Int) := by omega
        have hmx0 : (0 : Int) ≤ (mx : Int) := by omega
        have hl1 : ((ls.length : Int) - 1) < (ls.length : Int) := by omega
        have hl0 : (0 : Int) ≤ (ls.length : Int) - 1 := by omega
        have HAt : Hid (ex.t = (ed es (wk ls (prv ls.length 0))).t) := by
          show _ = _
          rw [show prv ls.length 0 = ls.length - 1 from rfl, wk_at hx, ed_at hex]
        clear hx hex urow erow
        refine wp_region_over (fun W => W = w3) (by kernel_rfl) (by kernel_rfl) rfl ?_
        rintro W rfl
        repeat (go_big_quiet_step (first | fail))
        refine wpQuiet_nil ?_
        rintro _ ⟨z, rfl⟩
        have HBz := hide (HB3.out.trans ((over_below W z).mono HB3.out.size))
        have HLz := hide (HL3.out.kept (over_below W z))
        have HUz := hide (HU3.out.kept (over_below W z))
        have HBoxz := hide (hbx z)
        clear hbx u0 v0 HB3 HL3 HU3 HBox3
        go_wp2
        go_loopw [8, 9, 11, 39] (fun g t _ i wl => ∃ (k : Nat) (b : Bool) (y : Int), k ≤ ls.length ∧ i = .int .i64 k ∧ g = .bool b ∧ t = .int .i64 y ∧ Hid (b = (ls.take k).any (negW es)) ∧ Hid (y = (ed es (wk ls (prv ls.length k))).t) ∧ Hid (∀ i, i < k → prevOk es ls i = true) ∧ wl = over W z) (fun _ _ _ i _ => ls.length - (intOf i).toNat)
        case atStart => exact ⟨0, false, ex.t, by omega, rfl, rfl, rfl, by show _ = _; simp, HAt, (by show ∀ i, i < 0 → _; intro i h; omega), rfl⟩
        case round =>
          obtain ⟨k, bb, y, hk, rfl, rfl, rfl, HN, HY, HK, hwr⟩ := hrel
          have c0 := HBoxz.out
          have HLr := HLz
          have HUr := HUz
          rw [← hwr] at c0 HLr HUr
          by_cases hlt : k < ls.length
          · have hi : (k : Int) < (ls.length : Int) := by omega
            have hi0 : (0 : Int) ≤ (k : Int) := by omega
            obtain ⟨ub', uo', e1, -, -, urow⟩ := HUr.out.row (by omega)
            obtain ⟨x, hx⟩ : ∃ x, ls[k]? = some x := ⟨_, List.getElem?_eq_getElem hlt⟩
            obtain ⟨kx, rfl, hkx⟩ := HIn.out x (List.mem_of_getElem? hx)
            obtain ⟨eb', eo', e2, -, -, erow⟩ := HLr.out.row (by omega)
            obtain ⟨ek, hek⟩ : ∃ x, es[kx]? = some x := ⟨_, List.getElem?_eq_getElem hkx⟩
            cases e1
            cases e2
            have u0 := urow k _ hx 0 _ rfl
            have v0 := erow kx _ hek 0 _ rfl
            have v1 := erow kx _ hek 1 _ rfl
            have v2 := erow kx _ hek 2 _ rfl
            simp only [elInt, elEdg, Nat.add_zero, Nat.mul_one] at u0 v0 v1 v2
            have hkx' : (kx : Int) < (es.length : Int) := by omega
            have hkx0 : (0 : Int) ≤ (kx : Int) := by omega
            have HQ : Hid (prevOk es ls k = (ek.f == y)) := by
              show _ = _
              unfold prevOk
              rw [HY.out, wk_at hx, ed_at hek]
            have HN2 : Hid ((ls.take (k + 1)).any (negW es) = (bb || ek.neg)) := by
              show _ = _
              rw [take_snoc8 hx, List.any_append, ← HN.out]
              unfold negW
              simp [ed_at hek]
            have HY2 : Hid (ek.t = (ed es (wk ls (prv ls.length (k + 1)))).t) := by
              show _ = _
              rw [show prv ls.length (k + 1) = k by unfold prv; simp, wk_at hx, ed_at hek]
            have HW := hide hwr
            clear hx hek urow erow hkx hwr
            cases he : (ek.f == y) with
            | true =>
              rw [he] at HQ
              have hne : (ek.f != y) = false := by unfold bne; rw [he]; rfl
              have HK2 : Hid (∀ i, i < k + 1 → prevOk es ls i = true) := by
                show ∀ i, i < k + 1 → prevOk es ls i = true
                intro i hi
                rcases Nat.lt_succ_iff_lt_or_eq.1 hi with h | h
                · exact HK.out i h
                · rw [h]; exact HQ.out
              clear he
              cases bb
              · go_wp2
                go_roundw
                case rel => exact ⟨k + 1, ek.neg, ek.t, by omega, by go_num, rfl, rfl, by show _ = _; rw [HN2.out]; rfl, HY2, HK2, HW.out⟩
                case measure => simp [intOf]; omega
              · go_wp2
                go_roundw
                case rel => exact ⟨k + 1, true, ek.t, by omega, by go_num, rfl, rfl, by show _ = _; rw [HN2.out]; rfl, HY2, HK2, HW.out⟩
                case measure => simp [intOf]; omega
            | false =>
              rw [he] at HQ
              have hne : (ek.f != y) = true := by unfold bne; rw [he]; rfl
              have HE : Hid (c = false) := by show _ = _; rw [← HC.out]; exact cyc_no hlt HQ.out
              clear he
              go_wp2
              go_ret
              exact ⟨by rw [HE.out]; rfl, by rw [HW.out]; exact HBz.out⟩
          · obtain rfl : k = ls.length := by omega
            have hi : ¬ (ls.length : Int) < (ls.length : Int) := by omega
            have HE : Hid (c = true) := by show _ = _; rw [← HC.out]; exact cyc_yes HK.out
            have HEd : Hid (bb = d) := by show _ = _; rw [HN.out, List.take_of_length_le (Nat.le_refl _)]; exact HD.out
            have HW := hide hwr
            clear hwr
            go_wp2
            go_ret
            exact ⟨by rw [HE.out, ← HEd.out]; rfl, by rw [HW.out]; exact HBz.out⟩
end Go.Proofs.Ytakdkdckhldjiaa

namespace Go.Proofs.Ytakdkdckhldjiaa
set_option linter.unusedSimpArgs false
set_option linter.unusedVariables false
open Go.RowKit Go.Maps

theorem PathL.nil_eq {es : List Edg} {a b : Nat} {W : List Int} (h : PathL es a W b) (hW : W = []) : b = a := by
  cases h with
  | nil => rfl
  | snoc _ _ _ _ => simp at hW

theorem PathL.next {es : List Edg} {a b : Nat} {L : List Int} (h : PathL es a L b) : ∀ i, i < L.length → ∃ (m : Nat) (x : Edg), L[i]? = some (m : Int) ∧ es[m]? = some x ∧ (i = 0 → x.f = a) ∧ (i + 1 = L.length → x.t = b) ∧ ∀ (m' : Nat) (x' : Edg), L[i + 1]? = some (m' : Int) → es[m']? = some x' → x.t = x'.f := by
  induction h with
  | nil => intro i hi; simp at hi
  | @snoc W b m x t h hm hf ht ih =>
    intro i hi
    simp only [List.length_append, List.length_singleton] at hi ⊢
    by_cases hl : i < W.length
    · obtain ⟨m1, x1, h1, h2, h3, h4, h5⟩ := ih i hl
      refine ⟨m1, x1, by rw [List.getElem?_append_left hl]; exact h1, h2, h3, fun e => by omega, fun m' x' e1 e2 => ?_⟩
      by_cases hl2 : i + 1 < W.length
      · rw [List.getElem?_append_left hl2] at e1
        exact h5 m' x' e1 e2
      · have e0 : i + 1 = W.length := by omega
        rw [e0, List.getElem?_append_right (Nat.le_refl _), Nat.sub_self] at e1
        simp only [List.getElem?_cons_zero, Option.some.injEq] at e1
        have : m = m' := by omega
        subst this
        rw [hm] at e2
        cases e2
        rw [h4 e0, hf]
    · have e0 : i = W.length := by omega
      subst e0
      refine ⟨m, x, by simp, hm, fun e => ?_, fun _ => ht, fun m' x' e1 _ => ?_⟩
      · have hb := h.nil_eq (List.eq_nil_of_length_eq_zero e)
        rw [hf, hb]
      · rw [List.getElem?_append_right (by omega)] at e1
        simp at e1

/-- A closed walk with a negated edge is one. -/
theorem cyclic_yes {n : Nat} {es : List Edg} {a : Nat} {L : List Int} (hfit : fitP n es = true) (h : PathL es a L a) (hl : L ≠ []) (hneg : ∃ m : Nat, (m : Int) ∈ L ∧ (ed es m).neg = true) : cyclicP n es L = true := by
  have hpos : 0 < L.length := List.length_pos_iff.2 hl
  have hnx := h.next
  have h1 : (L.length == 0) = false := by simpa using hl
  have h2 : L.any (outN es.length) = false := by
    rw [List.any_eq_false]
    intro x hx
    obtain ⟨i, hi, e⟩ := List.getElem_of_mem hx
    obtain ⟨m, y, h1, h2, -⟩ := hnx i hi
    rw [List.getElem?_eq_getElem hi, Option.some.injEq, e] at h1
    have hm : m < es.length := (List.getElem?_eq_some_iff.1 h2).1
    rw [h1]
    unfold outN inB
    simp
    omega
  have h3 : cycB es L = true := cyc_yes' fun i hi => by
    obtain ⟨m, x, a1, a2, -, a4, a5⟩ := hnx i hi
    unfold nextOk
    rw [wk_at a1, ed_at a2]
    unfold nxt
    split
    · rename_i e
      obtain ⟨m0, x0, b1, b2, b3, -⟩ := hnx 0 hpos
      rw [wk_at b1, ed_at b2, a4 e, b3 rfl]
      simp
    · obtain ⟨m0, x0, b1, b2, -⟩ := hnx (i + 1) (by omega)
      rw [wk_at b1, ed_at b2, a5 m0 x0 b1 b2]
      simp
  have h4 : L.any (negW es) = true := by
    obtain ⟨m, hm, hn⟩ := hneg
    exact List.any_eq_true.2 ⟨m, hm, hn⟩
  unfold cyclicP
  rw [hfit, h1, h2, h3, h4]
  rfl

theorem edge_lnkN {es : List Edg} {u v : Nat} {e : Edg} (he : e ∈ es) (h1 : e.f = u) (h2 : e.t = v) (hn : e.neg = true) : lnkN es u v = true := by
  unfold lnkN
  refine List.any_eq_true.2 ⟨e, he, ?_⟩
  unfold isE
  simp [h1, h2, hn]
theorem lv_map {n : Nat} {X : Nat → Int} {u : Nat} (hu : u < n) : lv ((List.range n).map X) (u : Int) = X u := by
  unfold lv
  rw [Int.toNat_natCast, List.getElem?_map, List.getElem?_range hu]
  rfl
/-- What obeys all links is a level mapping. -/
theorem holds_yes {n : Nat} {es : List Edg} {X : Nat → Int} (hfit : fitP n es = true) (hX : Sol n (lnkT es) (lnkN es) X) : holdsP n es ((List.range n).map X) = true := by
  have hin := (fit_in8 hfit).2
  have h2 : ((List.range n).map X).any neg0 = false := by
    rw [List.any_eq_false]
    intro x hx
    obtain ⟨u, hu, rfl⟩ := List.mem_map.1 hx
    have := hX.nn u (List.mem_range.1 hu)
    unfold neg0
    simp
    omega
  have h3 : es.any (eBad ((List.range n).map X)) = false := by
    rw [List.any_eq_false]
    intro e he
    obtain ⟨q1, q2, q3, q4⟩ := hin e he
    obtain ⟨kf, hkf⟩ : ∃ kf : Nat, e.f = kf := ⟨e.f.toNat, by omega⟩
    obtain ⟨kt, hkt⟩ : ∃ kt : Nat, e.t = kt := ⟨e.t.toNat, by omega⟩
    unfold eBad
    rw [hkf, hkt, lv_map (show kf < n by omega), lv_map (show kt < n by omega)]
    have h4 := hX.le kf kt (by omega) (by omega) (edge_lnk he hkf hkt)
    cases hn : e.neg with
    | false => simp; omega
    | true =>
      have h5 := hX.lt kf kt (by omega) (by omega) (edge_lnkN he hkf hkt hn)
      simp
      omega
  unfold holdsP
  rw [hfit, h2, h3]
  simp
/-- A level mapping obeys all links. -/
theorem holds_sol {n : Nat} {es : List Edg} {ls : List Int} (h : holdsP n es ls = true) : fitP n es = true ∧ ls.length = n ∧ Sol n (lnkT es) (lnkN es) (fun u => lv ls (u : Int)) := by
  unfold holdsP at h
  simp only [Bool.and_eq_true, Bool.not_eq_true', beq_iff_eq] at h
  obtain ⟨h1, h2, h3, h4⟩ := h
  have hl : ls.length = n := by omega
  rw [List.any_eq_false] at h3 h4
  refine ⟨h1, hl, fun u hu => ?_, fun u v hu hv ht => ?_, fun u v hu hv ht => ?_⟩
  · have hm : ls[u]? = some ls[u] := List.getElem?_eq_getElem (by omega)
    have := h3 _ (List.mem_of_getElem? hm)
    show 0 ≤ lv ls (u : Int)
    unfold lv
    rw [Int.toNat_natCast, hm]
    unfold neg0 at this
    simp at this
    exact this
  · obtain ⟨e, he, e1, e2⟩ := lnk_edge ht
    have := h4 e he
    unfold eBad at this
    rw [e1, e2] at this
    simp at this
    exact this.1
  · unfold lnkN at ht
    obtain ⟨e, he, hi⟩ := List.any_eq_true.1 ht
    unfold isE at hi
    simp at hi
    obtain ⟨⟨e1, e2⟩, en⟩ := hi
    have := h4 e he
    unfold eBad at this
    rw [e1, e2, en] at this
    simp at this
    show lv ls (u : Int) + 1 ≤ lv ls (v : Int)
    omega
/-- Where a negated edge lies inside a component, no mapping obeys. -/
theorem bad_nosol {n : Nat} {es : List Edg} {X : Nat → Int} (hin : ∀ x ∈ es, 0 ≤ x.f ∧ x.f < n ∧ 0 ≤ x.t ∧ x.t < n) (hb : HasBad n es) (hX : Sol n (lnkT es) (lnkN es) X) : False := by
  obtain ⟨x, hx, hn, hm⟩ := hb
  obtain ⟨q1, q2, q3, q4⟩ := hin x hx
  have h1 := hX.lt x.f.toNat x.t.toNat (by omega) (by omega) (edge_lnkN hx (by omega) (by omega) hn)
  have h2 := hX.reach hm.2
  omega
theorem holds_no {n : Nat} {es : List Edg} {ls : List Int} (hb : HasBad n es) : holdsP n es ls = false := by
  cases h : holdsP n es ls with
  | false => rfl
  | true =>
    obtain ⟨h1, -, h2⟩ := holds_sol h
    exact (bad_nosol (fit_in8 h1).2 hb h2).elim
/-- Where a mapping obeys all links, no closed walk has a negated edge. -/
theorem cyclic_nosol {n : Nat} {es : List Edg} {L : List Int} {X : Nat → Int} (h : cyclicP n es L = true) (hX : Sol n (lnkT es) (lnkN es) X) : False := by
  unfold cyclicP at h
  simp only [Bool.and_eq_true, Bool.not_eq_true'] at h
  obtain ⟨hf, hl, ho, hc, hn⟩ := h
  have hin := (fit_in8 hf).2
  have hpos : 0 < L.length := by
    rcases Nat.eq_zero_or_pos L.length with e | e
    · rw [e] at hl; simp at hl
    · exact e
  rw [cyc_next] at hc
  rw [List.all_eq_true] at hc
  rw [List.any_eq_false] at ho
  have hel : ∀ i, i < L.length → ∃ m : Nat, wk L i = m ∧ ∃ e, es[m]? = some e ∧ ed es (wk L i) = e := fun i hi => by
    have hm : L[i]? = some L[i] := List.getElem?_eq_getElem hi
    have h1 := ho _ (List.mem_of_getElem? hm)
    obtain ⟨m, e, hm2⟩ := outN_false (by simpa using h1)
    have he : es[m]? = some es[m] := List.getElem?_eq_getElem hm2
    have hw : wk L i = m := by rw [wk_at hm]; exact e
    exact ⟨m, hw, es[m], he, by rw [hw]; exact ed_at he⟩
  have step : ∀ i, i < L.length → X (ed es (wk L i)).f.toNat ≤ X (ed es (wk L (nxt L.length i))).f.toNat ∧ (negW es (wk L i) = true → X (ed es (wk L i)).f.toNat + 1 ≤ X (ed es (wk L (nxt L.length i))).f.toNat) := fun i hi => by
    obtain ⟨m, hw, e, he, hee⟩ := hel i hi
    have h1 := hc i (List.mem_range.2 hi)
    unfold nextOk at h1
    simp only [beq_iff_eq] at h1
    rw [← h1]
    have hem := List.mem_of_getElem? he
    obtain ⟨q1, q2, q3, q4⟩ := hin e hem
    unfold negW
    rw [hee]
    exact ⟨hX.le _ _ (by omega) (by omega) (edge_lnk hem (by omega) (by omega)), fun hn => hX.lt _ _ (by omega) (by omega) (edge_lnkN hem (by omega) (by omega) hn)⟩
  have mono : ∀ j, j < L.length → ∀ i, i ≤ j → X (ed es (wk L i)).f.toNat ≤ X (ed es (wk L j)).f.toNat := by
    intro j
    induction j with
    | zero =>
      intro _ i hi
      obtain rfl : i = 0 := by omega
      exact Int.le_refl _
    | succ j ih =>
      intro hj i hi
      rcases Nat.lt_or_ge i (j + 1) with hl2 | hl2
      · have h1 := ih (by omega) i (by omega)
        have h2 := (step j (by omega)).1
        have : nxt L.length j = j + 1 := by unfold nxt; rw [if_neg (by omega)]
        rw [this] at h2
        omega
      · obtain rfl : i = j + 1 := by omega
        exact Int.le_refl _
  obtain ⟨x, hx, hxn⟩ := List.any_eq_true.1 hn
  obtain ⟨i, hi, e⟩ := List.getElem_of_mem hx
  have hwi : wk L i = x := by rw [wk_at (List.getElem?_eq_getElem hi)]; exact e
  have h1 := (step i hi).2 (by rw [hwi]; exact hxn)
  have hlast := (step (L.length - 1) (by omega)).1
  have hnl : nxt L.length (L.length - 1) = 0 := by unfold nxt; rw [if_pos (by omega)]
  rw [hnl] at hlast
  have h0 := mono i hi 0 (Nat.zero_le _)
  by_cases hil : i + 1 = L.length
  · have : nxt L.length i = 0 := by unfold nxt; rw [if_pos hil]
    rw [this] at h1
    omega
  · have hn1 : nxt L.length i = i + 1 := by unfold nxt; rw [if_neg hil]
    rw [hn1] at h1
    have h2 := mono (L.length - 1) (by omega) (i + 1) (by omega)
    omega

/-- What Cycle answers is a closed walk with a negated edge. -/
theorem cycle_is {n : Nat} {es : List Edg} {H : Nat → Int} {m : Nat} {x : Edg} {W : List Int} (hfit : fitP n es = true) (hm : es[m]? = some x) (hb : badE H x = true) (hp : PathL es x.t.toNat W x.f.toNat) : cyclicP n es ((m : Int) :: W) = true := by
  obtain ⟨q1, q2, q3, q4⟩ := (fit_in8 hfit).2 x (List.mem_of_getElem? hm)
  refine cyclic_yes (a := x.f.toNat) hfit (hp.cons hm (by omega) (by omega)) (by simp) ⟨m, by simp, ?_⟩
  rw [ed_at hm]
  unfold badE at hb
  simp only [Bool.and_eq_true] at hb
  exact hb.1
end Go.Proofs.Ytakdkdckhldjiaa

namespace Go.Proofs.Ytakdkdckhldjiaa
set_option linter.unusedSimpArgs false
set_option linter.unusedVariables false
open Go.RowKit Go.Maps

theorem CompsAt.has_ {base : Nat} {w : World} {n : Nat} {es : List Edg} {H : Nat → Int} {reps : List Nat} {M : Nat → Value} {ta : Option Addr} {tc i : Nat} (h : CompsAt base w n (lnkT es) H reps M (.slice ta reps.length tc)) (hi : i < reps.length) (hn : n ≤ 128) : ∃ (gt : Nat) (va : Value), ta = some ⟨gt, 0, none⟩ ∧ w.cell? ⟨gt, i, none⟩ = some va ∧ Has elInt w va ((memL H n reps[i]).map fun (u : Nat) => (u : Int)) := by
  have hr : reps[i]? = some reps[i] := List.getElem?_eq_getElem hi
  obtain ⟨r1, r2⟩ := h.greedy.rep _ (List.mem_of_getElem? hr)
  have ho : w.ownsRow base 23 1 (.slice ta reps.length tc) (reps.map M).length (reps.map M) := by rw [List.length_map]; exact h.told.own
  obtain ⟨gt, cap, e, -, hc⟩ := own_cells ho (by rw [List.length_map]; omega)
  have hlen : (memL H n reps[i]).length ≤ n := nd_len (nd_memL _ _ _) (fun p hp => (mem_memL.1 hp).1)
  exact ⟨gt, M reps[i], by injection e, hc i _ (by rw [List.getElem?_map, hr]; rfl), own_has (h.told.lst _ r1) (by omega) (fun x hx => by have := (mem_memL.1 hx).1; omega)⟩

theorem fitP_same {n : Int} {es es' : List Edg} (h : ∀ x, x ∈ es' ↔ x ∈ es) : fitP n es' = fitP n es := by
  have h1 : es'.any (eOut n) = es.any (eOut n) := by
    rw [Bool.eq_iff_iff]
    simp only [List.any_eq_true, h]
  unfold fitP
  rw [h1]

theorem levels_bad {w : World} {v : Value} {es : List Edg} {n : Nat} (h : Has elEdg w v es) (hfit : fitP n es = true) (hb : HasBad n es) :
    Calls Try.prog 5 #[.int .i64 (n : Int), v] w fun e w' => e = .returned (.tuple #[.slice none 0 0, .int .i64 40]) ∧ Below w.heap.size w w' :=
  (levels_fit h hfit).mono fun e w' ⟨h1, h2⟩ => ⟨h1.elim (fun h => h.2) (fun h => absurd hb h.1), h2⟩
theorem levels_good {w : World} {v : Value} {es : List Edg} {n : Nat} (h : Has elEdg w v es) (hfit : fitP n es = true) (hb : ¬ HasBad n es) :
    Calls Try.prog 5 #[.int .i64 (n : Int), v] w fun e w' => ∃ (g : Nat) (X : Nat → Int), e = .returned (.tuple #[.slice (some ⟨g, 0, none⟩) n n, .int .i64 0]) ∧ w'.rowIs g 3 n (fun i => .int .i64 (X i)) ∧ (Least n (lnkT es) (lnkN es) X ∧ ∀ p, p < n → X p ≤ n) ∧ Below w.heap.size w w' :=
  (levels_fit h hfit).mono fun e w' ⟨h1, h2⟩ => h1.elim (fun h => absurd h.1 hb) (fun ⟨_, g, X, a, b, c⟩ => ⟨g, X, a, b, c, h2⟩)

theorem comps_same {base base' : Nat} {w : World} {n : Nat} {es : List Edg} {H H' : Nat → Int} {reps reps' : List Nat} {M M' : Nat → Value} {ta ta' : Option Addr} {tc tc' : Nat} (hn : n ≤ 128) (h : CompsAt base w n (lnkT es) H reps M (.slice ta reps.length tc)) (h' : CompsAt base' w n (lnkT es) H' reps' M' (.slice ta' reps'.length tc')) :
    ∀ i, i < reps.length → ∃ (ga gb : Nat) (L : List Int) (va vb : Value), ta = some ⟨ga, 0, none⟩ ∧ ta' = some ⟨gb, 0, none⟩ ∧ w.cell? ⟨ga, i, none⟩ = some va ∧ w.cell? ⟨gb, i, none⟩ = some vb ∧ Has elInt w va L ∧ Has elInt w vb L := fun i hi => by
  have he := home_uniq h.least h'.least
  have hr := greedy_uniq he h.greedy h'.greedy h.all h'.all
  subst hr
  obtain ⟨ga, va, a1, a2, a3⟩ := h.has_ hi hn
  obtain ⟨gb, vb, b1, b2, b3⟩ := h'.has_ hi hn
  rw [← memL_congr he] at b3
  exact ⟨ga, gb, _, va, vb, a1, b1, a2, b2, a3, b3⟩

end Go.Proofs.Ytakdkdckhldjiaa

namespace Go.Proofs.Ytakdkdckhldjiaa
set_option linter.unusedSimpArgs false
set_option linter.unusedVariables false
open Go.RowKit Go.Maps

theorem cyc_nil (n : Int) (es : List Edg) : cyclicP n es [] = false := by unfold cyclicP; simp

theorem cyc_no_sol {n : Nat} {es : List Edg} {X : Nat → Int} (hX : Sol n (lnkT es) (lnkN es) X) (L : List Int) : cyclicP n es L = false := by
  cases h : cyclicP n es L with
  | false => rfl
  | true => exact (cyclic_nosol h hX).elim

set_option maxRecDepth 100000 in
set_option maxHeartbeats 4000000 in
theorem strataEither_A (k : Nat) (v : Value) (es : List Edg) (u : Value) (ls : List Int) (q : Value) (ws : List Int) (w : World) (h : Has elEdg w v es) (hu : Has elInt w u ls) (hq : Has elInt w q ws) (hf : fitP k es = true) (hb : HasBad k es) :
    Calls Try.prog 3 #[.agg #[.int .i64 (k : Int), v, u, q]] w fun e w' => e = .returned (.bool true) ∧ Below w.heap.size w w' := by
  obtain ⟨va, vc, rfl, -, -, hlen⟩ := h.shape
  obtain ⟨ua, uc, rfl, -, -, hlen2⟩ := hu.shape
  obtain ⟨qa, qc, rfl, -, -, hlen3⟩ := hq.shape
  obtain ⟨Y, hY⟩ : ∃ Y, Y = w.alloc (.cells #[.int .i64 (k : Int), .slice va es.length vc, .slice ua ls.length uc, .slice qa ws.length qc] 25) := ⟨_, rfl⟩
  have hb0 : Below w.heap.size w Y := by rw [hY]; exact belo1 w _
  have HL := hide (h.kept hb0)
  have HU := hide (hu.kept hb0)
  have HQ := hide (hq.kept hb0)
  have x0 : Y.cell? ⟨w.heap.size, 0, none⟩ = some (.int .i64 (k : Int)) := by rw [hY]; simp
  have x1 : Y.cell? ⟨w.heap.size, 1, none⟩ = some (.slice va es.length vc) := by rw [hY]; simp
  have x2 : Y.cell? ⟨w.heap.size, 2, none⟩ = some (.slice ua ls.length uc) := by rw [hY]; simp
  have x3 : Y.cell? ⟨w.heap.size, 3, none⟩ = some (.slice qa ws.length qc) := by rw [hY]; simp
  have HB0 := hide hb0
  have HX : Hid (∀ V : World, Below Y.heap.size Y V → V.cell? ⟨w.heap.size, 0, none⟩ = some (.int .i64 (k : Int)) ∧ V.cell? ⟨w.heap.size, 1, none⟩ = some (.slice va es.length vc) ∧ V.cell? ⟨w.heap.size, 2, none⟩ = some (.slice ua ls.length uc) ∧ V.cell? ⟨w.heap.size, 3, none⟩ = some (.slice qa ws.length qc)) := fun V hV => ⟨kept_cell hV x0, kept_cell hV x1, kept_cell hV x2, kept_cell hV x3⟩
  have HF := hide (lfit_any HL.out (k : Int))
  clear h hu hq hb0
  rw [hf] at HF
  obtain ⟨⟨hk0, hk1⟩, hin⟩ := fit_in8 hf
  have HFt := hide hf
  clear hin hf hk0
  have hk : k ≤ 128 := by omega
  clear hk1
  have HEd : Hid (∀ V : World, Below Y.heap.size Y V → Calls Try.prog 6 #[.slice va es.length vc] V fun e w' => ∃ v', e = .returned v' ∧ Grow elEdg 35 V.heap.size w' v' es ∧ Below V.heap.size V w') := fun V hV => edges_any (HL.out.kept hV)
  have HBd := hide hb
  clear hb
  go_enter Try.func3, Try.ntmps3
  go_upto_region 1 with fail
  rw [← hY]
  clear hY
  go_wp2_with (go_at_call 4; refine HF.out.mono ?_; rintro e w1 ⟨rfl, b1⟩; have HBw := hide b1; clear b1 HF)
  go_region_held3 (fun w' => w'.cell? ⟨w.heap.size, 0, none⟩ = some (.int .i64 (k : Int)) ∧ w'.cell? ⟨w.heap.size, 1, none⟩ = some (.slice va es.length vc) ∧ w'.cell? ⟨w.heap.size, 2, none⟩ = some (.slice ua ls.length uc) ∧ w'.cell? ⟨w.heap.size, 3, none⟩ = some (.slice qa ws.length qc))
    (first | with_reducible exact HX.out _ HBw.out | with_reducible exact HX.out _ HBw.out.drew | with_reducible exact HX.out _ HBa1.out | with_reducible exact HX.out _ HBb1.out | with_reducible exact HX.out _ HBc1.out)
    (first
      | (go_at_call 6; refine (HEd.out _ HBw.out.drew).mono ?_; rintro e Va1 ⟨g1, rfl, hg1, b1⟩; obtain ⟨ga1, gc1, rfl, -, -⟩ := hg1.shape; have HGa1 := hide (hg1.list hlen); have HBa1 := hide (HBw.out.drew.trans (b1.mono HBw.out.size)); clear hg1 b1)
      | (go_at_call 5; refine (levels_bad HGa1.out HFt.out HBd.out).mono ?_; rintro e Vc1 ⟨rfl, b3⟩; have HBc1 := hide (HBa1.out.trans (b3.mono HBa1.out.size)); clear b3))
  go_wp2
  go_region_held3 (fun w' => w'.cell? ⟨w.heap.size, 0, none⟩ = some (.int .i64 (k : Int)) ∧ w'.cell? ⟨w.heap.size, 1, none⟩ = some (.slice va es.length vc) ∧ w'.cell? ⟨w.heap.size, 2, none⟩ = some (.slice ua ls.length uc) ∧ w'.cell? ⟨w.heap.size, 3, none⟩ = some (.slice qa ws.length qc))
    (first | with_reducible exact HX.out _ HBc1.out | with_reducible exact HX.out _ HBc1.out.drew | with_reducible exact HX.out _ HBa2.out | with_reducible exact HX.out _ HBb2.out | with_reducible exact HX.out _ HBc2.out)
    (first
      | (go_at_call 6; refine (HEd.out _ HBc1.out.drew).mono ?_; rintro e Va2 ⟨g1, rfl, hg1, b1⟩; obtain ⟨ga2, gc2, rfl, -, -⟩ := hg1.shape; have HGa2 := hide (hg1.list hlen); have HBa2 := hide (HBc1.out.drew.trans (b1.mono HBc1.out.size)); clear hg1 b1)
      | (go_at_call 7; refine (cycle_bad HGa2.out HFt.out HBd.out).mono ?_; rintro e Vc2 ⟨H, wv, m, x, W, hH, rfl, hgw, ⟨hm1, hm2, hm3, hm4, hm5⟩, b3⟩; have HBc2 := hide (HBa2.out.trans (b3.mono HBa2.out.size)); have HCy := hide (cycle_is HFt.out hm2 hm3 hm4); have hwl : ((m : Int) :: W).length < 1073741824 := (by simp; omega); have HRg := hide (hgw.list hwl); obtain ⟨ra, rc, rfl, -, -⟩ := hgw.shape; clear hH hgw hm1 hm2 hm3 hm4 hm5; clear b3))
  go_wp2
  go_region_held3 (fun w' => w'.cell? ⟨w.heap.size, 0, none⟩ = some (.int .i64 (k : Int)) ∧ w'.cell? ⟨w.heap.size, 1, none⟩ = some (.slice va es.length vc) ∧ w'.cell? ⟨w.heap.size, 2, none⟩ = some (.slice ua ls.length uc) ∧ w'.cell? ⟨w.heap.size, 3, none⟩ = some (.slice qa ws.length qc))
    (first | with_reducible exact HX.out _ HBc2.out | with_reducible exact HX.out _ HBc2.out.drew | with_reducible exact HX.out _ HBa3.out | with_reducible exact HX.out _ HBb3.out | with_reducible exact HX.out _ HBc3.out)
    (first
      | (go_at_call 6; refine (HEd.out _ HBc2.out.drew).mono ?_; rintro e Va3 ⟨g1, rfl, hg1, b1⟩; obtain ⟨ga3, gc3, rfl, -, -⟩ := hg1.shape; have HGa3 := hide (hg1.list hlen); have HBa3 := hide (HBc2.out.drew.trans (b1.mono HBc2.out.size)); have HRa := hide (HRg.out.kept (((Below.refl _ Vc2).drew).trans b1)); clear hg1 b1)
      | (go_at_call 9; refine (ints_any (Lst.nil elInt _ _)).mono ?_; rintro e Vb3 ⟨g2, rfl, hg2, b2⟩; obtain ⟨gi3, gj3, rfl, -, -⟩ := hg2.shape; have HGi3 := hide (hg2.list (by simp)); have HGb3 := hide (HGa3.out.kept b2); have HBb3 := hide (HBa3.out.trans (b2.mono HBa3.out.size)); have HRb := hide (HRa.out.kept b2); clear hg2 b2)
      | (go_at_call 8; refine (holds_any HGb3.out HGi3.out (k : Int)).mono ?_; rintro e Vc3 ⟨rfl, b3⟩; rw [holds_no HBd.out]; have HBc3 := hide (HBb3.out.trans (b3.mono HBb3.out.size)); have HRc := hide (HRb.out.kept b3); clear b3))
  go_wp2
  go_region_held3 (fun w' => w'.cell? ⟨w.heap.size, 0, none⟩ = some (.int .i64 (k : Int)) ∧ w'.cell? ⟨w.heap.size, 1, none⟩ = some (.slice va es.length vc) ∧ w'.cell? ⟨w.heap.size, 2, none⟩ = some (.slice ua ls.length uc) ∧ w'.cell? ⟨w.heap.size, 3, none⟩ = some (.slice qa ws.length qc))
    (first | with_reducible exact HX.out _ HBc3.out | with_reducible exact HX.out _ HBc3.out.drew | with_reducible exact HX.out _ HBa4.out | with_reducible exact HX.out _ HBb4.out | with_reducible exact HX.out _ HBc4.out)
    (first
      | (go_at_call 6; refine (HEd.out _ HBc3.out.drew).mono ?_; rintro e Va4 ⟨g1, rfl, hg1, b1⟩; obtain ⟨ga4, gc4, rfl, -, -⟩ := hg1.shape; have HGa4 := hide (hg1.list hlen); have HBa4 := hide (HBc3.out.drew.trans (b1.mono HBc3.out.size)); have HRd := hide (HRc.out.kept (((Below.refl _ Vc3).drew).trans b1)); clear hg1 b1)
      | (go_at_call 9; refine (ints_any (HRd.out)).mono ?_; rintro e Vb4 ⟨g2, rfl, hg2, b2⟩; obtain ⟨gi4, gj4, rfl, -, -⟩ := hg2.shape; have HGi4 := hide (hg2.list hwl); have HGb4 := hide (HGa4.out.kept b2); have HBb4 := hide (HBa4.out.trans (b2.mono HBa4.out.size)); clear hg2 b2)
      | (go_at_call 10; refine (cyclic_any HGb4.out HGi4.out (k : Int)).mono ?_; rintro e Vc4 ⟨rfl, b3⟩; rw [HCy.out]; have HBc4 := hide (HBb4.out.trans (b3.mono HBb4.out.size)); clear b3))
  go_wp2
  go_region_held3 (fun w' => w'.cell? ⟨w.heap.size, 0, none⟩ = some (.int .i64 (k : Int)) ∧ w'.cell? ⟨w.heap.size, 1, none⟩ = some (.slice va es.length vc) ∧ w'.cell? ⟨w.heap.size, 2, none⟩ = some (.slice ua ls.length uc) ∧ w'.cell? ⟨w.heap.size, 3, none⟩ = some (.slice qa ws.length qc))
    (first | with_reducible exact HX.out _ HBc4.out | with_reducible exact HX.out _ HBc4.out.drew | with_reducible exact HX.out _ HBa5.out | with_reducible exact HX.out _ HBb5.out | with_reducible exact HX.out _ HBc5.out)
    (first
      | (go_at_call 6; refine (HEd.out _ HBc4.out.drew).mono ?_; rintro e Va5 ⟨g1, rfl, hg1, b1⟩; obtain ⟨ga5, gc5, rfl, -, -⟩ := hg1.shape; have HGa5 := hide (hg1.list hlen); have HBa5 := hide (HBc4.out.drew.trans (b1.mono HBc4.out.size)); clear hg1 b1)
      | (go_at_call 9; refine (ints_any (HU.out.kept HBa5.out)).mono ?_; rintro e Vb5 ⟨g2, rfl, hg2, b2⟩; obtain ⟨gi5, gj5, rfl, -, -⟩ := hg2.shape; have HGi5 := hide (hg2.list hlen2); have HGb5 := hide (HGa5.out.kept b2); have HBb5 := hide (HBa5.out.trans (b2.mono HBa5.out.size)); clear hg2 b2)
      | (go_at_call 8; refine (holds_any HGb5.out HGi5.out (k : Int)).mono ?_; rintro e Vc5 ⟨rfl, b3⟩; rw [holds_no HBd.out]; have HBc5 := hide (HBb5.out.trans (b3.mono HBb5.out.size)); clear b3))
  go_wp2
  go_ret
  exact ⟨rfl, HB0.out.trans (HBc5.out.mono HB0.out.size)⟩
end Go.Proofs.Ytakdkdckhldjiaa

namespace Go.Proofs.Ytakdkdckhldjiaa
set_option linter.unusedSimpArgs false
set_option linter.unusedVariables false
open Go.RowKit Go.Maps

theorem cyc_nilB (n : Int) (es : List Edg) : cyclicP n es [] = false := by unfold cyclicP; simp

theorem cyc_no_solB {n : Nat} {es : List Edg} {X : Nat → Int} (hX : Sol n (lnkT es) (lnkN es) X) (L : List Int) : cyclicP n es L = false := by
  cases h : cyclicP n es L with
  | false => rfl
  | true => exact (cyclic_nosol h hX).elim

set_option maxRecDepth 100000 in
set_option maxHeartbeats 4000000 in
theorem strataEither_B (k : Nat) (v : Value) (es : List Edg) (u : Value) (ls : List Int) (q : Value) (ws : List Int) (w : World) (h : Has elEdg w v es) (hu : Has elInt w u ls) (hq : Has elInt w q ws) (hf : fitP k es = true) (hb : ¬ HasBad k es) :
    Calls Try.prog 3 #[.agg #[.int .i64 (k : Int), v, u, q]] w fun e w' => e = .returned (.bool true) ∧ Below w.heap.size w w' := by
  obtain ⟨va, vc, rfl, -, -, hlen⟩ := h.shape
  obtain ⟨ua, uc, rfl, -, -, hlen2⟩ := hu.shape
  obtain ⟨qa, qc, rfl, -, -, hlen3⟩ := hq.shape
  obtain ⟨Y, hY⟩ : ∃ Y, Y = w.alloc (.cells #[.int .i64 (k : Int), .slice va es.length vc, .slice ua ls.length uc, .slice qa ws.length qc] 25) := ⟨_, rfl⟩
  have hb0 : Below w.heap.size w Y := by rw [hY]; exact belo1 w _
  have HL := hide (h.kept hb0)
  have HU := hide (hu.kept hb0)
  have HQ := hide (hq.kept hb0)
  have x0 : Y.cell? ⟨w.heap.size, 0, none⟩ = some (.int .i64 (k : Int)) := by rw [hY]; simp
  have x1 : Y.cell? ⟨w.heap.size, 1, none⟩ = some (.slice va es.length vc) := by rw [hY]; simp
  have x2 : Y.cell? ⟨w.heap.size, 2, none⟩ = some (.slice ua ls.length uc) := by rw [hY]; simp
  have x3 : Y.cell? ⟨w.heap.size, 3, none⟩ = some (.slice qa ws.length qc) := by rw [hY]; simp
  have HB0 := hide hb0
  have HX : Hid (∀ V : World, Below Y.heap.size Y V → V.cell? ⟨w.heap.size, 0, none⟩ = some (.int .i64 (k : Int)) ∧ V.cell? ⟨w.heap.size, 1, none⟩ = some (.slice va es.length vc) ∧ V.cell? ⟨w.heap.size, 2, none⟩ = some (.slice ua ls.length uc) ∧ V.cell? ⟨w.heap.size, 3, none⟩ = some (.slice qa ws.length qc)) := fun V hV => ⟨kept_cell hV x0, kept_cell hV x1, kept_cell hV x2, kept_cell hV x3⟩
  have HF := hide (lfit_any HL.out (k : Int))
  clear h hu hq hb0
  rw [hf] at HF
  obtain ⟨⟨hk0, hk1⟩, hin⟩ := fit_in8 hf
  have HFt := hide hf
  clear hin hf hk0
  have hk : k ≤ 128 := by omega
  clear hk1
  have HEd : Hid (∀ V : World, Below Y.heap.size Y V → Calls Try.prog 6 #[.slice va es.length vc] V fun e w' => ∃ v', e = .returned v' ∧ Grow elEdg 35 V.heap.size w' v' es ∧ Below V.heap.size V w') := fun V hV => edges_any (HL.out.kept hV)
  have HBd := hide hb
  clear hb
  go_enter Try.func3, Try.ntmps3
  go_upto_region 1 with fail
  rw [← hY]
  clear hY
  go_wp2_with (go_at_call 4; refine HF.out.mono ?_; rintro e w1 ⟨rfl, b1⟩; have HBw := hide b1; clear b1 HF)
  go_region_held3 (fun w' => w'.cell? ⟨w.heap.size, 0, none⟩ = some (.int .i64 (k : Int)) ∧ w'.cell? ⟨w.heap.size, 1, none⟩ = some (.slice va es.length vc) ∧ w'.cell? ⟨w.heap.size, 2, none⟩ = some (.slice ua ls.length uc) ∧ w'.cell? ⟨w.heap.size, 3, none⟩ = some (.slice qa ws.length qc))
    (first | with_reducible exact HX.out _ HBw.out | with_reducible exact HX.out _ HBw.out.drew | with_reducible exact HX.out _ HBa1.out | with_reducible exact HX.out _ HBb1.out | with_reducible exact HX.out _ HBc1.out)
    (first
      | (go_at_call 6; refine (HEd.out _ HBw.out.drew).mono ?_; rintro e Va1 ⟨g1, rfl, hg1, b1⟩; obtain ⟨ga1, gc1, rfl, -, -⟩ := hg1.shape; have HGa1 := hide (hg1.list hlen); have HBa1 := hide (HBw.out.drew.trans (b1.mono HBw.out.size)); clear hg1 b1)
      | (go_at_call 5; refine (levels_good HGa1.out HFt.out HBd.out).mono ?_; rintro e Vc1 ⟨gx, X, rfl, hr1, hx1, b3⟩; have HBc1 := hide (HBa1.out.trans (b3.mono HBa1.out.size)); have HSo := hide hx1.1.toSol; have HOw := hide (row_has hr1 (fun i hi => ⟨by have := hx1.1.nn i hi; omega, by have := hx1.2 i hi; omega⟩) hk); clear hr1 hx1; clear b3))
  go_wp2
  go_region_held3 (fun w' => w'.cell? ⟨w.heap.size, 0, none⟩ = some (.int .i64 (k : Int)) ∧ w'.cell? ⟨w.heap.size, 1, none⟩ = some (.slice va es.length vc) ∧ w'.cell? ⟨w.heap.size, 2, none⟩ = some (.slice ua ls.length uc) ∧ w'.cell? ⟨w.heap.size, 3, none⟩ = some (.slice qa ws.length qc))
    (first | with_reducible exact HX.out _ HBc1.out | with_reducible exact HX.out _ HBc1.out.drew | with_reducible exact HX.out _ HBa2.out | with_reducible exact HX.out _ HBb2.out | with_reducible exact HX.out _ HBc2.out)
    (first
      | (go_at_call 6; refine (HEd.out _ HBc1.out.drew).mono ?_; rintro e Va2 ⟨g1, rfl, hg1, b1⟩; obtain ⟨ga2, gc2, rfl, -, -⟩ := hg1.shape; have HGa2 := hide (hg1.list hlen); have HBa2 := hide (HBc1.out.drew.trans (b1.mono HBc1.out.size)); have HOa := hide (HOw.out.kept (((Below.refl _ Vc1).drew).trans b1)); clear hg1 b1)
      | (go_at_call 7; refine (cycle_good HGa2.out HFt.out HBd.out).mono ?_; rintro e Vc2 ⟨rfl, b3⟩; have HBc2 := hide (HBa2.out.trans (b3.mono HBa2.out.size)); have HOc := hide (HOa.out.kept b3); clear b3))
  go_wp2
  go_region_held3 (fun w' => w'.cell? ⟨w.heap.size, 0, none⟩ = some (.int .i64 (k : Int)) ∧ w'.cell? ⟨w.heap.size, 1, none⟩ = some (.slice va es.length vc) ∧ w'.cell? ⟨w.heap.size, 2, none⟩ = some (.slice ua ls.length uc) ∧ w'.cell? ⟨w.heap.size, 3, none⟩ = some (.slice qa ws.length qc))
    (first | with_reducible exact HX.out _ HBc2.out | with_reducible exact HX.out _ HBc2.out.drew | with_reducible exact HX.out _ HBa3.out | with_reducible exact HX.out _ HBb3.out | with_reducible exact HX.out _ HBc3.out)
    (first
      | (go_at_call 6; refine (HEd.out _ HBc2.out.drew).mono ?_; rintro e Va3 ⟨g1, rfl, hg1, b1⟩; obtain ⟨ga3, gc3, rfl, -, -⟩ := hg1.shape; have HGa3 := hide (hg1.list hlen); have HBa3 := hide (HBc2.out.drew.trans (b1.mono HBc2.out.size)); have HOd := hide (HOc.out.kept (((Below.refl _ Vc2).drew).trans b1)); clear hg1 b1)
      | (go_at_call 9; refine (ints_any (HOd.out)).mono ?_; rintro e Vb3 ⟨g2, rfl, hg2, b2⟩; obtain ⟨gi3, gj3, hgs, -, -⟩ := hg2.shape; rw [List.length_map, List.length_range] at hgs; subst hgs; have HGi3 := hide (hg2.list (by simp; omega)); have HGb3 := hide (HGa3.out.kept b2); have HBb3 := hide (HBa3.out.trans (b2.mono HBa3.out.size)); clear hg2 b2)
      | (go_at_call 8; refine (holds_any HGb3.out HGi3.out (k : Int)).mono ?_; rintro e Vc3 ⟨rfl, b3⟩; rw [holds_yes HFt.out HSo.out]; have HBc3 := hide (HBb3.out.trans (b3.mono HBb3.out.size)); clear b3))
  go_wp2
  go_region_held3 (fun w' => w'.cell? ⟨w.heap.size, 0, none⟩ = some (.int .i64 (k : Int)) ∧ w'.cell? ⟨w.heap.size, 1, none⟩ = some (.slice va es.length vc) ∧ w'.cell? ⟨w.heap.size, 2, none⟩ = some (.slice ua ls.length uc) ∧ w'.cell? ⟨w.heap.size, 3, none⟩ = some (.slice qa ws.length qc))
    (first | with_reducible exact HX.out _ HBc3.out | with_reducible exact HX.out _ HBc3.out.drew | with_reducible exact HX.out _ HBa4.out | with_reducible exact HX.out _ HBb4.out | with_reducible exact HX.out _ HBc4.out)
    (first
      | (go_at_call 6; refine (HEd.out _ HBc3.out.drew).mono ?_; rintro e Va4 ⟨g1, rfl, hg1, b1⟩; obtain ⟨ga4, gc4, rfl, -, -⟩ := hg1.shape; have HGa4 := hide (hg1.list hlen); have HBa4 := hide (HBc3.out.drew.trans (b1.mono HBc3.out.size)); clear hg1 b1)
      | (go_at_call 9; refine (ints_any (Lst.nil elInt _ _)).mono ?_; rintro e Vb4 ⟨g2, rfl, hg2, b2⟩; obtain ⟨gi4, gj4, rfl, -, -⟩ := hg2.shape; have HGi4 := hide (hg2.list (by simp)); have HGb4 := hide (HGa4.out.kept b2); have HBb4 := hide (HBa4.out.trans (b2.mono HBa4.out.size)); clear hg2 b2)
      | (go_at_call 10; refine (cyclic_any HGb4.out HGi4.out (k : Int)).mono ?_; rintro e Vc4 ⟨rfl, b3⟩; rw [cyc_nilB]; have HBc4 := hide (HBb4.out.trans (b3.mono HBb4.out.size)); clear b3))
  go_wp2
  go_region_held3 (fun w' => w'.cell? ⟨w.heap.size, 0, none⟩ = some (.int .i64 (k : Int)) ∧ w'.cell? ⟨w.heap.size, 1, none⟩ = some (.slice va es.length vc) ∧ w'.cell? ⟨w.heap.size, 2, none⟩ = some (.slice ua ls.length uc) ∧ w'.cell? ⟨w.heap.size, 3, none⟩ = some (.slice qa ws.length qc))
    (first | with_reducible exact HX.out _ HBc4.out | with_reducible exact HX.out _ HBc4.out.drew | with_reducible exact HX.out _ HBa5.out | with_reducible exact HX.out _ HBb5.out | with_reducible exact HX.out _ HBc5.out)
    (first
      | (go_at_call 6; refine (HEd.out _ HBc4.out.drew).mono ?_; rintro e Va5 ⟨g1, rfl, hg1, b1⟩; obtain ⟨ga5, gc5, rfl, -, -⟩ := hg1.shape; have HGa5 := hide (hg1.list hlen); have HBa5 := hide (HBc4.out.drew.trans (b1.mono HBc4.out.size)); clear hg1 b1)
      | (go_at_call 9; refine (ints_any (HQ.out.kept HBa5.out)).mono ?_; rintro e Vb5 ⟨g2, rfl, hg2, b2⟩; obtain ⟨gi5, gj5, rfl, -, -⟩ := hg2.shape; have HGi5 := hide (hg2.list hlen3); have HGb5 := hide (HGa5.out.kept b2); have HBb5 := hide (HBa5.out.trans (b2.mono HBa5.out.size)); clear hg2 b2)
      | (go_at_call 10; refine (cyclic_any HGb5.out HGi5.out (k : Int)).mono ?_; rintro e Vc5 ⟨rfl, b3⟩; rw [cyc_no_solB HSo.out ws]; have HBc5 := hide (HBb5.out.trans (b3.mono HBb5.out.size)); clear b3))
  go_wp2
  go_ret
  exact ⟨rfl, HB0.out.trans (HBc5.out.mono HB0.out.size)⟩
end Go.Proofs.Ytakdkdckhldjiaa

namespace Go.Proofs.Ytakdkdckhldjiaa
set_option linter.unusedSimpArgs false
set_option linter.unusedVariables false
open Go.RowKit Go.Maps

set_option maxRecDepth 100000 in
set_option maxHeartbeats 2000000 in
theorem strataEither_walk (n : Int) (v : Value) (es : List Edg) (u : Value) (ls : List Int) (q : Value) (ws : List Int) (w : World) (h : Has elEdg w v es) (hu : Has elInt w u ls) (hq : Has elInt w q ws) :
    Calls Try.prog 3 #[.agg #[.int .i64 n, v, u, q]] w fun e w' => e = .returned (.bool true) ∧ Below w.heap.size w w' := by
  have hfc : fitP n es = false ∨ fitP n es = true := by cases fitP n es <;> simp
  rcases hfc with hf | hf
  · obtain ⟨va, vc, rfl, -, -, hlen⟩ := h.shape
    obtain ⟨ua, uc, rfl, -, -, hlen2⟩ := hu.shape
    obtain ⟨qa, qc, rfl, -, -, hlen3⟩ := hq.shape
    obtain ⟨Y, hY⟩ : ∃ Y, Y = w.alloc (.cells #[.int .i64 n, .slice va es.length vc, .slice ua ls.length uc, .slice qa ws.length qc] 25) := ⟨_, rfl⟩
    have hb0 : Below w.heap.size w Y := by rw [hY]; exact belo1 w _
    have HL := hide (h.kept hb0)
    have HU := hide (hu.kept hb0)
    have HQ := hide (hq.kept hb0)
    have x0 : Y.cell? ⟨w.heap.size, 0, none⟩ = some (.int .i64 n) := by rw [hY]; simp
    have x1 : Y.cell? ⟨w.heap.size, 1, none⟩ = some (.slice va es.length vc) := by rw [hY]; simp
    have x2 : Y.cell? ⟨w.heap.size, 2, none⟩ = some (.slice ua ls.length uc) := by rw [hY]; simp
    have x3 : Y.cell? ⟨w.heap.size, 3, none⟩ = some (.slice qa ws.length qc) := by rw [hY]; simp
    have HB0 := hide hb0
    have HX : Hid (∀ V : World, Below Y.heap.size Y V → V.cell? ⟨w.heap.size, 0, none⟩ = some (.int .i64 n) ∧ V.cell? ⟨w.heap.size, 1, none⟩ = some (.slice va es.length vc) ∧ V.cell? ⟨w.heap.size, 2, none⟩ = some (.slice ua ls.length uc) ∧ V.cell? ⟨w.heap.size, 3, none⟩ = some (.slice qa ws.length qc)) := fun V hV => ⟨kept_cell hV x0, kept_cell hV x1, kept_cell hV x2, kept_cell hV x3⟩
    have HF := hide (lfit_any HL.out n)
    clear h hu hq hb0
    rw [hf] at HF
    go_enter Try.func3, Try.ntmps3
    go_upto_region 1 with fail
    rw [← hY]
    clear hY
    go_wp2_with (go_at_call 4; refine HF.out.mono ?_; rintro e w1 ⟨rfl, b1⟩; have HB1 := hide (HB0.out.trans (b1.mono HB0.out.size)); clear b1)
    go_ret
    exact ⟨rfl, HB1.out⟩
  · obtain ⟨⟨hk0, hk1⟩, -⟩ := fit_in8 hf
    obtain ⟨k, rfl⟩ : ∃ k : Nat, n = k := ⟨n.toNat, by omega⟩
    rcases Classical.em (HasBad k es) with hb | hb
    · exact strataEither_A k v es u ls q ws w h hu hq hf hb
    · exact strataEither_B k v es u ls q ws w h hu hq hf hb
end Go.Proofs.Ytakdkdckhldjiaa
