/- strata.Cycle and Bad, where the edges fit. Is it a level mapping? The document's Holds and strata.Holds. strata.Holds. Closed walks over a negated edge, said over lists; strata's noEdge and ContainsFunc with it. (By mk_cyc.py.) The document's Cyclic. strata.Cyclic. Level mappings and closed walks exclude each other; what Levels and Cycle answer is such a one. One edge more: what it changes, said over lists. The law of the edges' order: its walk. The law of one edge more: its walk. The law's asked: at the least levels each predicate has a reason that leads back to level 0. The law's mapping: at levels that keep every edge it answers true. The law of the least levels: its walk. (By mk_least.py.) -/
import Derived.Test.YtmbkjgfnnpopgaaGraphShort
import Derived.Test.YtmbkjgfnnpopgaaEdgeRFit
import Derived.Laws.Cover3
import Derived.Test.YtmbkjgfnnpopgaaOrderPure

namespace Go.Proofs.Ytmbkjgfnnpopgaa
set_option linter.unusedSimpArgs false
set_option linter.unusedVariables false
open Go.RowKit Go.Maps
set_option maxRecDepth 100000

theorem bad_uniq {n : Nat} {es : List Edg} {H H' : Nat → Int} (hin : ∀ x ∈ es, 0 ≤ x.f ∧ x.f < n ∧ 0 ≤ x.t ∧ x.t < n) (he : ∀ v, v < n → H v = H' v) : findI (badE H) es = findI (badE H') es := by
  have h : es.findIdx? (badE H) = es.findIdx? (badE H') := by
    induction es with
    | nil => rfl
    | cons x l ih =>
      obtain ⟨q1, q2, q3, q4⟩ := hin x (by simp)
      have hx : badE H x = badE H' x := by unfold badE; rw [he _ (by omega), he _ (by omega)]
      rw [List.findIdx?_cons, List.findIdx?_cons, hx, ih (fun y hy => hin y (by simp [hy]))]
  unfold findI
  rw [h]
theorem bad_at {es : List Edg} {H : Nat → Int} (h : 0 ≤ findI (badE H) es) : ∃ (m : Nat) (x : Edg), findI (badE H) es = m ∧ es[m]? = some x ∧ badE H x = true := by
  unfold findI at h ⊢
  cases hf : es.findIdx? (badE H) with
  | none => rw [hf] at h; simp at h
  | some m =>
    obtain ⟨hm, hp, -⟩ := List.findIdx?_eq_some_iff_getElem.1 hf
    exact ⟨m, es[m], rfl, List.getElem?_eq_getElem hm, hp⟩

set_option maxHeartbeats 1000000 in
theorem bad_fit {w : World} {v : Value} {es : List Edg} {n : Nat} (h : Has elEdg w v es) (hfit : fitP n es = true) :
    Calls Try.prog 29 #[.int .i64 (n : Int), v] w fun e w' => ∃ H : Nat → Int, (∀ v, v < n → LeastOf (Ed n (lnkT es)) v (H v)) ∧ e = .returned (.tuple #[.int .i64 (findI (badE H) es), .int .i64 0]) ∧ Below w.heap.size w w' := by
  have hn : n ≤ 128 := by have := (fit_in8 hfit).1; omega
  obtain ⟨va, vc, rfl, -, -, hlen⟩ := h.shape
  have HIn := hide (fit_in8 hfit).2
  have HF := hide (fit_any h n)
  rw [hfit] at HF
  have HL := hide h
  have HFt := hide hfit
  clear h hfit
  go_enter Try.func29, Try.ntmps29
  go_wp2_with (first
    | (go_at_call 39; refine HF.out.mono ?_; rintro e w1 ⟨rfl, h1⟩; have HB1 := hide h1; clear h1)
    | (go_at_call 40; refine (newGraph_any (HL.out.kept HB1.out) HFt.out).mono ?_; rintro e w2 ⟨gl, rfl, h1, h2, h3⟩; have HG2 := hide h2; have HB2 := hide (HB1.out.trans (h3.mono HB1.out.size)); have HL2 := hide ((HL.out.kept HB1.out).kept h3); clear h1 h2 h3)
    | (go_at_call 42; refine (bad_any HG2.out hn HL2.out HIn.out).mono ?_; rintro e w3 ⟨H, h1, rfl, h5⟩; have HB3 := hide (HB2.out.trans (h5.mono HB2.out.size)); have HLe := hide h1; clear h1 h5))
  exact bodyPost_ret (v := .tuple #[.int .i64 (findI (badE H) es), .int .i64 0]) (by simp [results, Try.results29, go_sem]) rfl ⟨H, HLe.out, rfl, HB3.out⟩

theorem own_one {w : World} {base B : Nat} {e : TypeId} {v : Value} (h : w.heap[B]? = some (.cells #[v] e (0, 0))) (hb : base ≤ B) : w.ownsRow base e 1 (.slice (some ⟨B, 0, none⟩) 1 1) 1 [v] :=
  ⟨rfl, .inr ⟨B, 1, #[v], rfl, hb, h, Nat.le_refl _, by decide, rfl, rfl⟩⟩
theorem own_news {w : World} {base n : Nat} {e : TypeId} {v : Value} {xs : List Value} (h : w.ownsRow base e 1 v n xs) : ∃ ao cap, v = .slice ao n cap ∧ (ao = none → n = 0 ∧ cap = 0) ∧ ∀ ad, ao = some ad → ∀ (j : Nat) (u : Value), xs[j]? = some u → w.cell? (ad.add j) = some u := by
  rcases h.2 with ⟨h1, h2⟩ | ⟨g, cap, cur, h1, h2, h3, h4, h5, h6, h7⟩
  · exact ⟨none, 0, by rw [h1, h2], fun _ => ⟨h2, rfl⟩, fun ad e => by cases e⟩
  · refine ⟨_, cap, h1, (fun e => by cases e), fun ad e j u hu => ?_⟩
    cases e
    rw [addr_add, Nat.zero_add]
    rw [← h7, List.getElem?_take] at hu
    split at hu
    · simp only [World.cell?, h3]
      simpa using hu
    · cases hu
theorem grow_join {w w' : World} {base : Nat} {v : Value} {m : Nat} {W : List Int} (hm : I64 (m : Int)) (hW : ∀ x ∈ W, I64 x) (h : w'.ownsRow base 3 1 v (1 + W.length) ([.int .i64 (m : Int)] ++ W.flatMap elInt.cells)) : Grow elInt 3 base w' v ((m : Int) :: W) := by
  refine ⟨?_, fun x hx => ?_⟩
  · have : ((m : Int) :: W).length = 1 + W.length := by simp; omega
    rw [this]
    exact h
  · rcases List.mem_cons.1 hx with rfl | hx
    · exact hm
    · exact hW x hx

theorem ints_len (W : List Int) : (W.flatMap elInt.cells).length = W.length * 1 := by
  induction W with
  | nil => rfl
  | cons x l ih => rw [List.flatMap_cons, List.length_append, ih]; simp [elInt]; omega
theorem ints_one (W : List Int) : ∀ u ∈ W.flatMap elInt.cells, u.oneCell' = true := fun u hu => by
  obtain ⟨x, -, hx⟩ := List.mem_flatMap.1 hu
  simp only [elInt, List.mem_singleton] at hx
  subst hx
  rfl

set_option maxHeartbeats 1000000 in
theorem cycle_bad {w : World} {v : Value} {es : List Edg} {n : Nat} (h : Has elEdg w v es) (hfit : fitP n es = true) (hb : HasBad n es) :
    Calls Try.prog 30 #[.int .i64 (n : Int), v] w fun e w' => ∃ (H : Nat → Int) (wv : Value) (m : Nat) (x : Edg) (W : List Int), (∀ v, v < n → LeastOf (Ed n (lnkT es)) v (H v)) ∧ e = .returned (.tuple #[wv, .int .i64 0]) ∧ Grow elInt 3 w.heap.size w' wv ((m : Int) :: W) ∧ (findI (badE H) es = m ∧ es[m]? = some x ∧ badE H x = true ∧ PathL es x.t.toNat W x.f.toNat ∧ W.length ≤ n) ∧ Below w.heap.size w w' := by
  have hn : n ≤ 128 := by have := (fit_in8 hfit).1; omega
  obtain ⟨va, vc, rfl, -, -, hlen⟩ := h.shape
  have HIn := hide (fit_in8 hfit).2
  have HF := hide (fit_any h n)
  rw [hfit] at HF
  have HL := hide h
  have HFt := hide hfit
  have HBd := hide hb
  clear h hfit hb
  go_enter Try.func30, Try.ntmps30
  go_wp2_with (first
    | (go_at_call 39; refine HF.out.mono ?_; rintro e w1 ⟨rfl, h1⟩; have HB1 := hide h1; clear h1)
    | (go_at_call 40; refine (newGraph_any (HL.out.kept HB1.out) HFt.out).mono ?_; rintro e w2 ⟨gl, rfl, h1, h2, h3⟩; have hbx := belo1 w2 (.cells #[.int .i64 (n : Int), .slice (some ⟨gl, 0, none⟩) (n * n) (n * n)] 66); have HG2 := hide (h2.kept hbx); have hB2 := HB1.out.trans (h3.mono HB1.out.size); have HB2 := hide (hB2.trans (hbx.mono hB2.size)); have HL2 := hide (((HL.out.kept HB1.out).kept h3).kept hbx); have HX0 : Hid ((w2.alloc (.cells #[.int .i64 (n : Int), .slice (some ⟨gl, 0, none⟩) (n * n) (n * n)] 66)).cell? ⟨w2.heap.size, 0, none⟩ = some (.int .i64 (n : Int)) ∧ (w2.alloc (.cells #[.int .i64 (n : Int), .slice (some ⟨gl, 0, none⟩) (n * n) (n * n)] 66)).cell? ⟨w2.heap.size, 1, none⟩ = some (.slice (some ⟨gl, 0, none⟩) (n * n) (n * n))) := (by show _ ∧ _; constructor <;> simp); clear h1 h2 h3 hbx hB2)
    | (go_at_call 42; refine (bad_any HG2.out hn HL2.out HIn.out).mono ?_; rintro e w3 ⟨H, h1, rfl, h5⟩; have x0 := kept_cell h5 HX0.out.1; have x1 := kept_cell h5 HX0.out.2; have HG3 := hide (HG2.out.kept h5); have HB3 := hide (HB2.out.trans (h5.mono HB2.out.size)); have HLe := hide h1; obtain ⟨m, x, hm, hx, hbx⟩ := bad_at ((bad_iff HIn.out h1).2 HBd.out); have HL3 := hide (HL2.out.kept h5); have HM := hide (And.intro hm (And.intro hx hbx)); have hm0 : (0 : Int) ≤ (m : Int) := (by omega); have hm1 : ¬ (m : Int) < 0 := (by omega); rw [hm]; clear h1 h5 hm hx hbx HG2 HB2 HL2 HX0))
  obtain ⟨hx0, hx1, hx2, hx3⟩ := HIn.out x (List.mem_of_getElem? HM.out.2.1)
  have hml : m < es.length := (List.getElem?_eq_some_iff.1 HM.out.2.1).1
  have hmi : (m : Int) < (es.length : Int) := by omega
  obtain ⟨kf, hkf⟩ : ∃ kf : Nat, x.f = kf := ⟨x.f.toNat, by omega⟩
  obtain ⟨kt, hkt⟩ : ∃ kt : Nat, x.t = kt := ⟨x.t.toNat, by omega⟩
  obtain ⟨eb, off, rfl, -, -, hrow⟩ := HL3.out.row (by omega)
  have y0 := hrow m x HM.out.2.1 0 _ rfl
  have y1 := hrow m x HM.out.2.1 1 _ rfl
  simp only [elEdg, Nat.add_zero] at y0 y1
  rw [hkf] at y0
  rw [hkt] at y1
  have hmut : Mut (Ed n (lnkT es)) kf kt := by
    have hb := HM.out.2.2
    unfold badE at hb
    simp only [Bool.and_eq_true, beq_iff_eq] at hb
    have h1 := hb.2
    rw [hkf, hkt, Int.toNat_natCast, Int.toNat_natCast] at h1
    exact (least_eq (HLe.out kf (by omega)) (HLe.out kt (by omega))).1 h1
  have HSh : Hid (∀ V : World, Below w3.heap.size w3 V → Calls Try.prog 47 #[.agg #[.int .i64 (n : Int), .slice (some ⟨gl, 0, none⟩) (n * n) (n * n)], .slice (some ⟨eb, off, none⟩) es.length vc, .int .i64 (kt : Int), .int .i64 (kf : Int)] V fun e w' => ∃ (wv : Value) (W : List Int), e = .returned wv ∧ Grow elInt 3 V.heap.size w' wv W ∧ (PathL es kt W kf ∧ W.length ≤ n) ∧ Below V.heap.size V w') := fun V hV => shortest_any (HG3.out.kept hV) hn (by omega) (by omega) (HL3.out.kept hV) HIn.out hmut.2
  have HPp := hide (And.intro hkf hkt)
  clear hrow hmut hx0 hx1 hx2 hx3
  obtain ⟨i0, hi0, hz0, hz1, hz2⟩ := info_parts Try.infoInt8
  have hbA : Below w3.heap.size w3 w3.drew := (Below.refl _ w3).drew
  have hbB : Below w3.heap.size w3 (w3.drew.alloc (.cells #[.int .i64 (m : Int)] 3)) := ((Below.refl _ w3).drew).alloc (Nat.le_refl _) _
  go_cut [4, 5] (fun t4 t5 wx => ∃ W : List Int, t5 = .int .i64 0 ∧ Hid (Grow elInt 3 w.heap.size wx t4 ((m : Int) :: W)) ∧ Hid (PathL es kt W kf ∧ W.length ≤ n) ∧ Hid (Below w.heap.size w wx))
  case first =>
    go_region_held3 (fun w' => w'.cell? ⟨w2.heap.size, 0, none⟩ = some (.int .i64 (n : Int)) ∧ w'.cell? ⟨w2.heap.size, 1, none⟩ = some (.slice (some ⟨gl, 0, none⟩) (n * n) (n * n)) ∧ w'.cell? ⟨eb, off + m * 4, none⟩ = some (.int .i64 (kf : Int)) ∧ w'.cell? ⟨eb, off + m * 4 + 1, none⟩ = some (.int .i64 (kt : Int)))
      (first | exact ⟨x0, x1, y0, y1⟩ | exact ⟨kept_cell hbB x0, kept_cell hbB x1, kept_cell hbB y0, kept_cell hbB y1⟩ | exact HSk.out | exact HSk2.out | exact HSk4.out)
      (first
        | (go_at_call 47; refine (HSh.out _ (by first | exact hbA | exact hbB)).mono ?_; rintro e V2 ⟨wv, W, rfl, g1, p1, b1⟩
           have HPa := hide p1
           have HWo : Hid (∀ x ∈ W, I64 x) := g1.2
           obtain ⟨ao, cap, rfl, hno, hnw⟩ := own_news g1.1
           have HNo := hide hno
           first
             | (have hk := b1.block w3.heap.size (by show w3.heap.size < (w3.drew.alloc (.cells #[.int .i64 (m : Int)] 3)).heap.size; show _ < (w3.heap.push _).size; rw [Array.size_push]; exact Nat.lt_succ_self _)
                have HOw : Hid (V2.ownsRow w3.heap.size 3 1 (.slice (some ⟨w3.heap.size, 0, none⟩) 1 1) 1 [.int .i64 (m : Int)]) := own_one (hk.trans (heap_alloc_new w3.drew (.cells #[.int .i64 (m : Int)] 3))) (Nat.le_refl _)
                have HNw := hide hnw
                have hbz : Below w3.heap.size w3 V2 := hbB.trans (b1.mono hbB.size)
                have HBz := hide hbz
                have HSk := hide (And.intro (kept_cell hbz x0) (And.intro (kept_cell hbz x1) (And.intro (kept_cell hbz y0) (kept_cell hbz y1))))
                clear hk hbz)
             | (have hb2 : Below w3.heap.size w3 V2 := hbA.trans (b1.mono hbA.size)
                have hbz := hb2.alloc hb2.size (.cells #[.int .i64 (m : Int)] 3)
                have HOw : Hid ((V2.alloc (.cells #[.int .i64 (m : Int)] 3)).ownsRow w3.heap.size 3 1 (.slice (some ⟨V2.heap.size, 0, none⟩) 1 1) 1 [.int .i64 (m : Int)]) := own_one (heap_alloc_new V2 (.cells #[.int .i64 (m : Int)] 3)) hb2.size
                have HNw := hide (fun ad e j u hu => kept_cell (belo1 V2 (.cells #[.int .i64 (m : Int)] 3)) (hnw ad e j u hu))
                have HBz := hide hbz
                have HSk := hide (And.intro (kept_cell hb2 x0) (And.intro (kept_cell hb2 x1) (And.intro (kept_cell hb2 y0) (kept_cell hb2 y1))))
                have HSk2 := hide (And.intro (kept_cell hbz x0) (And.intro (kept_cell hbz x1) (And.intro (kept_cell hbz y0) (kept_cell hbz y1))))
                clear hbz hb2)
           clear g1 p1 b1 hno hnw)
        | (refine step_append_any (by rfl) _ _ 46 (by rfl) w3.heap.size 3 i0 _ 1 8 Try.underlying46 hi0 hz0 hz1 hz2 rfl (by decide) _ 1 [.int .i64 (m : Int)] (by rfl) HOw.out ao W.length cap (W.flatMap elInt.cells) (by rfl) HNo.out (ints_len W) HNw.out (ints_one W) (by have := HPa.out.2; unfold maxLen; omega) (by have := HPa.out.2; omega) HBz.out.size ?_
           intro v4 w4 hown4 hgrow4
           have hbe := below_grown HBz.out HOw.out hgrow4 HBz.out.size
           have HGr := hide ((grow_join (w := w) ⟨by omega, by omega⟩ HWo.out hown4).mono HB3.out.size)
           have HBe := hide (HB3.out.trans (hbe.mono HB3.out.size))
           have HSk4 := hide (And.intro (kept_cell hbe x0) (And.intro (kept_cell hbe x1) (And.intro (kept_cell hbe y0) (kept_cell hbe y1))))
           clear hown4 hgrow4 hbe))
    all_goals (go_wp2; go_meet)
    all_goals exact ⟨W, rfl, HGr, HPa, HBe⟩
  case rest =>
    obtain ⟨W, rfl, HGr, HPa, HBe⟩ := hcut
    go_wp2
    exact bodyPost_ret (v := .tuple #[u4, .int .i64 0]) (by simp [results, Try.results30, go_sem]) rfl ⟨H, u4, m, x, W, HLe.out, rfl, HGr.out, ⟨HM.out.1, HM.out.2.1, HM.out.2.2, by rw [HPp.out.1, HPp.out.2]; simpa using HPa.out.1, HPa.out.2⟩, HBe.out⟩

set_option maxHeartbeats 1000000 in
theorem cycle_good {w : World} {v : Value} {es : List Edg} {n : Nat} (h : Has elEdg w v es) (hfit : fitP n es = true) (hb : ¬ HasBad n es) :
    Calls Try.prog 30 #[.int .i64 (n : Int), v] w fun e w' => e = .returned (.tuple #[.slice none 0 0, .int .i64 0]) ∧ Below w.heap.size w w' := by
  have hn : n ≤ 128 := by have := (fit_in8 hfit).1; omega
  obtain ⟨va, vc, rfl, -, -, hlen⟩ := h.shape
  have HIn := hide (fit_in8 hfit).2
  have HF := hide (fit_any h n)
  rw [hfit] at HF
  have HL := hide h
  have HFt := hide hfit
  have HBd := hide hb
  clear h hfit hb
  go_enter Try.func30, Try.ntmps30
  go_wp2_with (first
    | (go_at_call 39; refine HF.out.mono ?_; rintro e w1 ⟨rfl, h1⟩; have HB1 := hide h1; clear h1)
    | (go_at_call 40; refine (newGraph_any (HL.out.kept HB1.out) HFt.out).mono ?_; rintro e w2 ⟨gl, rfl, h1, h2, h3⟩; have hbx := belo1 w2 (.cells #[.int .i64 (n : Int), .slice (some ⟨gl, 0, none⟩) (n * n) (n * n)] 66); have HG2 := hide (h2.kept hbx); have hB2 := HB1.out.trans (h3.mono HB1.out.size); have HB2 := hide (hB2.trans (hbx.mono hB2.size)); have HL2 := hide (((HL.out.kept HB1.out).kept h3).kept hbx); clear h1 h2 h3 hbx hB2)
    | (go_at_call 42; refine (bad_any HG2.out hn HL2.out HIn.out).mono ?_; rintro e w3 ⟨H, h1, rfl, h5⟩; have HB3 := hide (HB2.out.trans (h5.mono HB2.out.size)); have hge : ¬ 0 ≤ findI (badE H) es := (fun hc => HBd.out ((bad_iff HIn.out h1).1 hc)); obtain ⟨bd, hbd⟩ : ∃ bd, findI (badE H) es = bd := ⟨_, rfl⟩; rw [hbd] at hge ⊢; have hge2 : bd < 0 := (by omega); clear h1 h5 hbd))
  exact bodyPost_ret (v := .tuple #[.slice none 0 0, .int .i64 0]) (by simp [results, Try.results30, go_sem]) rfl ⟨rfl, HB3.out⟩
end Go.Proofs.Ytmbkjgfnnpopgaa

namespace Go.Proofs.Ytmbkjgfnnpopgaa
set_option linter.unusedSimpArgs false
set_option linter.unusedVariables false
open Go.RowKit

def lv (ls : List Int) (x : Int) : Int := (ls[x.toNat]?).getD 0
def eBad (ls : List Int) (e : Edg) : Bool := decide (lv ls e.t < lv ls e.f) || (e.neg && (lv ls e.t == lv ls e.f))
def neg0 (x : Int) : Bool := decide (x < 0)
def holdsP (n : Int) (es : List Edg) (ls : List Int) : Bool := fitP n es && ((ls.length : Int) == n && (!ls.any neg0 && !es.any (eBad ls)))

theorem fit_in {n : Int} {es : List Edg} (h : fitP n es = true) : (0 ≤ n ∧ n ≤ 128) ∧ ∀ x ∈ es, 0 ≤ x.f ∧ x.f < n ∧ 0 ≤ x.t ∧ x.t < n := by
  unfold fitP at h
  simp only [Bool.and_eq_true, decide_eq_true_eq, Bool.not_eq_true', List.any_eq_false] at h
  refine ⟨⟨h.1, h.2.1⟩, fun x hx => eOut_false ?_⟩
  have := h.2.2 x hx
  simpa using this

end Go.Proofs.Ytmbkjgfnnpopgaa

namespace Go.Proofs.Ytmbkjgfnnpopgaa
set_option linter.unusedSimpArgs false
set_option linter.unusedVariables false
open Go.RowKit
set_option maxRecDepth 100000

set_option maxHeartbeats 1000000 in
theorem holds_any {w : World} {v u : Value} {es : List Edg} {ls : List Int} (h : Has elEdg w v es) (hu : Has elInt w u ls) (n : Int) :
    Calls Try.prog 27 #[.int .i64 n, v, u] w fun e w' => e = .returned (.bool (holdsP n es ls)) ∧ Below w.heap.size w w' := by
  have HF := hide (fit_any h n)
  obtain ⟨va, vc, rfl, -, -, hlen⟩ := h.shape
  obtain ⟨ua, uc, rfl, -, -, hlen2⟩ := hu.shape
  have HL := hide h
  have HU := hide hu
  clear h hu
  unfold holdsP
  cases hfit : fitP n es with
  | false =>
    rw [hfit] at HF
    go_enter Try.func27, Try.ntmps27
    go_wp2_with (go_at_call 39; refine HF.out.mono ?_; rintro e w2 ⟨rfl, h2⟩; have HB2 := hide h2; clear h2)
    go_ret
    exact ⟨rfl, HB2.out⟩
  | true =>
    rw [hfit] at HF
    obtain ⟨⟨hn0, hn1⟩, hin⟩ := fit_in hfit
    have HI := hide hin
    clear hin hfit hn0 hn1
    by_cases hq : (ls.length : Int) = n
    · subst hq
      have hq' : ((ls.length : Int) != (ls.length : Int)) = false := by simp
      have HE : Hid ((true && (((ls.length : Int) == (ls.length : Int)) && (!ls.any neg0 && !es.any (eBad ls)))) = (!ls.any neg0 && !es.any (eBad ls))) := by show _ = _; simp
      rw [HE.out]
      obtain ⟨a, ha⟩ : ∃ a, ls.any neg0 = a := ⟨_, rfl⟩
      obtain ⟨c, hc⟩ : ∃ c, es.any (eBad ls) = c := ⟨_, rfl⟩
      rw [ha, hc]
      have HA := hide ha
      have HC := hide hc
      clear ha hc HE
      go_enter Try.func27, Try.ntmps27
      go_wp2_with (go_at_call 39; refine HF.out.mono ?_; rintro e w2 ⟨rfl, h2⟩; have HB2 := hide h2; clear h2)
      go_loopw [7, 21] (fun _ i wl => ∃ k : Nat, k ≤ ls.length ∧ i = .int .i64 k ∧ Hid (∀ x ∈ ls.take k, neg0 x = false) ∧ Hid (Below w.heap.size w wl)) (fun _ i _ => ls.length - (intOf i).toNat)
      case atStart => exact ⟨0, by omega, rfl, by show ∀ x ∈ ls.take 0, neg0 x = false; simp, HB2⟩
      case round =>
        obtain ⟨k, hk, rfl, HK, HB⟩ := hrel
        clear HB2
        by_cases hlt : k < ls.length
        · have hi : (k : Int) < (ls.length : Int) := by omega
          have hi0 : (0 : Int) ≤ (k : Int) := by omega
          obtain ⟨b, off, rfl, -, -, hrow⟩ := HU.out.row (by omega)
          obtain ⟨x, hx⟩ : ∃ x, ls[k]? = some x := ⟨_, List.getElem?_eq_getElem hlt⟩
          have y0 := kept_cell HB.out (hrow k x hx 0 _ rfl)
          simp only [elInt, Nat.add_zero, Nat.mul_one] at y0
          have HX := hide hx
          clear hrow hx
          cases he : neg0 x with
          | true =>
            have HE : Hid (a = true) := by show _ = _; rw [← HA.out]; exact any_at HX.out he
            unfold neg0 at he
            go_wp2
            go_ret
            exact ⟨by rw [HE.out]; rfl, HB.out⟩
          | false =>
            have HF2 := hide (all_snoc HX.out HK.out he)
            unfold neg0 at he
            go_wp2
            go_roundw
            case rel => exact ⟨k + 1, by omega, by go_num, HF2, HB⟩
            case measure => simp [intOf]; omega
        · obtain rfl : k = ls.length := by omega
          have hi : ¬ (ls.length : Int) < (ls.length : Int) := by omega
          have HEa : Hid (a = false) := by show _ = _; rw [← HA.out]; exact any_no HK.out
          clear HA HK
          go_wp2
          go_loopw [9, 32] (fun _ i wl => ∃ k : Nat, k ≤ es.length ∧ i = .int .i64 k ∧ Hid (∀ x ∈ es.take k, eBad ls x = false) ∧ Hid (Below w.heap.size w wl)) (fun _ i _ => es.length - (intOf i).toNat)
          case atStart => exact ⟨0, by omega, rfl, by show ∀ x ∈ es.take 0, eBad ls x = false; simp, HB⟩
          case round =>
            clear HB
            obtain ⟨k, hk, rfl, HK, HB⟩ := hrel
            by_cases hlt : k < es.length
            · have hi : (k : Int) < (es.length : Int) := by omega
              have hi0 : (0 : Int) ≤ (k : Int) := by omega
              obtain ⟨b, off, rfl, -, -, hrow⟩ := HL.out.row (by omega)
              obtain ⟨x, hx⟩ : ∃ x, es[k]? = some x := ⟨_, List.getElem?_eq_getElem hlt⟩
              have y0 := kept_cell HB.out (hrow k x hx 0 _ rfl)
              have y1 := kept_cell HB.out (hrow k x hx 1 _ rfl)
              have y2 := kept_cell HB.out (hrow k x hx 2 _ rfl)
              have y3 := kept_cell HB.out (hrow k x hx 3 _ rfl)
              simp only [elEdg, Nat.add_zero] at y0 y1 y2 y3
              obtain ⟨g1, g2, g3, g4⟩ := HI.out x (List.mem_of_getElem? hx)
              have HX := hide hx
              clear hrow hx
              obtain ⟨f, t, g, r⟩ := x
              obtain ⟨kf, rfl⟩ : ∃ kf : Nat, f = kf := ⟨f.toNat, by dsimp only at g1; omega⟩
              obtain ⟨kt, rfl⟩ : ∃ kt : Nat, t = kt := ⟨t.toNat, by dsimp only at g3; omega⟩
              dsimp only at g1 g2 g3 g4 y0 y1 y2 y3
              obtain ⟨ub, uo, rfl, -, -, urow⟩ := HU.out.row (by omega)
              obtain ⟨lf, hlf⟩ : ∃ x, ls[kf]? = some x := ⟨_, List.getElem?_eq_getElem (by omega)⟩
              obtain ⟨lt, hlt'⟩ : ∃ x, ls[kt]? = some x := ⟨_, List.getElem?_eq_getElem (by omega)⟩
              have z0 := kept_cell HB.out (urow kf lf hlf 0 _ rfl)
              have z1 := kept_cell HB.out (urow kt lt hlt' 0 _ rfl)
              simp only [elInt, Nat.add_zero, Nat.mul_one] at z0 z1
              have HD : Hid (eBad ls ⟨kf, kt, g, r⟩ = (decide (lt < lf) || (g && (lt == lf)))) := by
                show _ = _
                unfold eBad lv
                simp [hlf, hlt']
              clear urow hlf hlt'
              have hb1 := belo1 wr (.cells #[.int .i64 kf, .int .i64 kt, .bool g, .int .i64 r] 39)
              obtain ⟨Y, hY⟩ : ∃ Y, Y = wr.alloc (.cells #[.int .i64 kf, .int .i64 kt, .bool g, .int .i64 r] 39) := ⟨_, rfl⟩
              rw [← hY] at hb1
              have HBa := hide (HB.out.trans (hb1.mono HB.out.size))
              have c0 := over_cell (kept_cell hb1 z0)
              have c1 := over_cell (kept_cell hb1 z1)
              have e0 : ∀ x, (over Y x).cell? ⟨wr.heap.size, 0, none⟩ = some (.int .i64 kf) := over_cell (by rw [hY]; simp)
              have e1 : ∀ x, (over Y x).cell? ⟨wr.heap.size, 1, none⟩ = some (.int .i64 kt) := over_cell (by rw [hY]; simp)
              have e2 : ∀ x, (over Y x).cell? ⟨wr.heap.size, 2, none⟩ = some (.bool g) := over_cell (by rw [hY]; simp)
              clear hb1 z0 z1
              go_wp2
              rw [← hY]
              clear hY y0 y1 y2 y3
              cases he : eBad ls ⟨kf, kt, g, r⟩ with
              | true =>
                have HE : Hid (c = true) := by show _ = _; rw [← HC.out]; exact any_at HX.out he
                have hd := HD.out
                rw [he] at hd
                clear he HD
                cases h1 : decide (lt < lf) with
                | true =>
                  clear hd
                  refine wp_region_over (fun W => W = Y) (by kernel_rfl) (by kernel_rfl) rfl ?_
                  rintro W rfl
                  repeat (go_big_quiet_step (first | fail))
                  refine wpQuiet_nil ?_
                  rintro _ ⟨z, rfl⟩
                  have HBz := hide (HBa.out.trans ((over_below W z).mono HBa.out.size))
                  go_wp2
                  go_ret
                  exact ⟨by rw [HEa.out, HE.out]; rfl, HBz.out⟩
                | false =>
                  rw [h1] at hd
                  simp only [Bool.false_or] at hd
                  replace hd := hd.symm
                  rw [Bool.and_eq_true] at hd
                  obtain ⟨rfl, h2⟩ := hd
                  refine wp_region_over (fun W => W = Y) (by kernel_rfl) (by kernel_rfl) rfl ?_
                  rintro W rfl
                  repeat (go_big_quiet_step (first | fail))
                  refine wpQuiet_nil ?_
                  rintro _ ⟨z, rfl⟩
                  have HBz := hide (HBa.out.trans ((over_below W z).mono HBa.out.size))
                  go_wp2
                  go_ret
                  exact ⟨by rw [HEa.out, HE.out]; rfl, HBz.out⟩
              | false =>
                have HF2 := hide (all_snoc HX.out HK.out he)
                have hd := HD.out
                rw [he] at hd
                replace hd := hd.symm
                rw [Bool.or_eq_false_iff] at hd
                obtain ⟨h1, h2⟩ := hd
                clear he HD
                cases g
                · clear h2
                  refine wp_region_over (fun W => W = Y) (by kernel_rfl) (by kernel_rfl) rfl ?_
                  rintro W rfl
                  repeat (go_big_quiet_step (first | fail))
                  refine wpQuiet_nil ?_
                  rintro _ ⟨z, rfl⟩
                  have HBz := hide (HBa.out.trans ((over_below W z).mono HBa.out.size))
                  go_wp2
                  go_roundw
                  case rel => exact ⟨k + 1, by omega, by go_num, HF2, HBz⟩
                  case measure => simp [intOf]; omega
                · simp only [Bool.true_and] at h2
                  refine wp_region_over (fun W => W = Y) (by kernel_rfl) (by kernel_rfl) rfl ?_
                  rintro W rfl
                  repeat (go_big_quiet_step (first | fail))
                  refine wpQuiet_nil ?_
                  rintro _ ⟨z, rfl⟩
                  have HBz := hide (HBa.out.trans ((over_below W z).mono HBa.out.size))
                  go_wp2
                  go_roundw
                  case rel => exact ⟨k + 1, by omega, by go_num, HF2, HBz⟩
                  case measure => simp [intOf]; omega
            · obtain rfl : k = es.length := by omega
              have hi : ¬ (es.length : Int) < (es.length : Int) := by omega
              have HE : Hid (c = false) := by show _ = _; rw [← HC.out]; exact any_no HK.out
              go_wp2
              go_ret
              exact ⟨by rw [HEa.out, HE.out]; rfl, HB.out⟩
    · have hq' : ((ls.length : Int) != n) = true := by simpa using hq
      have hq2 : ((ls.length : Int) == n) = false := by simpa using hq
      rw [hq2]
      clear hq
      go_enter Try.func27, Try.ntmps27
      go_wp2_with (go_at_call 39; refine HF.out.mono ?_; rintro e w2 ⟨rfl, h2⟩; have HB2 := hide h2; clear h2)
      go_ret
      exact ⟨rfl, HB2.out⟩
end Go.Proofs.Ytmbkjgfnnpopgaa

namespace Go.Proofs.Ytmbkjgfnnpopgaa
set_option linter.unusedSimpArgs false
set_option linter.unusedVariables false
open Go.RowKit

def ed (es : List Edg) (x : Int) : Edg := (es[x.toNat]?).getD ⟨0, 0, false, 0⟩
def wk (l : List Int) (i : Nat) : Int := (l[i]?).getD 0
def outN (m : Nat) (x : Int) : Bool := !inB x m
def negW (es : List Edg) (x : Int) : Bool := (ed es x).neg
def prv (m i : Nat) : Nat := if i = 0 then m - 1 else i - 1
def nxt (m i : Nat) : Nat := if i + 1 = m then 0 else i + 1
def prevOk (es : List Edg) (l : List Int) (i : Nat) : Bool := (ed es (wk l i)).f == (ed es (wk l (prv l.length i))).t
def nextOk (es : List Edg) (l : List Int) (i : Nat) : Bool := (ed es (wk l i)).t == (ed es (wk l (nxt l.length i))).f
def cycB (es : List Edg) (l : List Int) : Bool := (List.range l.length).all (prevOk es l)
def cyclicP (n : Int) (es : List Edg) (l : List Int) : Bool := fitP n es && (!(l.length == 0) && (!l.any (outN es.length) && (cycB es l && l.any (negW es))))

theorem cyc_next (es : List Edg) (l : List Int) : cycB es l = (List.range l.length).all (nextOk es l) := by
  unfold cycB
  rw [Bool.eq_iff_iff, List.all_eq_true, List.all_eq_true]
  simp only [List.mem_range]
  constructor
  · intro h i hi
    have hj : nxt l.length i < l.length := by unfold nxt; split <;> omega
    have := h _ hj
    unfold prevOk at this
    unfold nextOk
    have e : prv l.length (nxt l.length i) = i := by unfold prv nxt; split <;> (split <;> omega)
    rw [e] at this
    rw [beq_iff_eq] at this ⊢
    exact this.symm
  · intro h i hi
    have hj : prv l.length i < l.length := by unfold prv; split <;> omega
    have := h _ hj
    unfold nextOk at this
    unfold prevOk
    have e : nxt l.length (prv l.length i) = i := by unfold prv nxt; split <;> (split <;> omega)
    rw [e] at this
    rw [beq_iff_eq] at this ⊢
    exact this.symm

theorem cyc_no {es : List Edg} {l : List Int} {i : Nat} (hi : i < l.length) (h : prevOk es l i = false) : cycB es l = false := by
  unfold cycB
  rw [List.all_eq_false]
  exact ⟨i, List.mem_range.2 hi, by simp [h]⟩
theorem cyc_no' {es : List Edg} {l : List Int} {i : Nat} (hi : i < l.length) (h : nextOk es l i = false) : cycB es l = false := by
  rw [cyc_next, List.all_eq_false]
  exact ⟨i, List.mem_range.2 hi, by simp [h]⟩
theorem cyc_yes {es : List Edg} {l : List Int} (h : ∀ i, i < l.length → prevOk es l i = true) : cycB es l = true := by
  unfold cycB
  rw [List.all_eq_true]
  exact fun i hi => h i (List.mem_range.1 hi)
theorem cyc_yes' {es : List Edg} {l : List Int} (h : ∀ i, i < l.length → nextOk es l i = true) : cycB es l = true := by
  rw [cyc_next, List.all_eq_true]
  exact fun i hi => h i (List.mem_range.1 hi)
theorem outN_false {m : Nat} {x : Int} (h : outN m x = false) : ∃ k : Nat, x = k ∧ k < m := by
  unfold outN inB at h
  simp at h
  exact ⟨x.toNat, by omega, by omega⟩
theorem outN_true {m : Nat} {x : Int} (h : outN m x = true) : x < 0 ∨ (0 ≤ x ∧ (m : Int) ≤ x) := by
  unfold outN inB at h
  simp at h
  omega

set_option maxHeartbeats 1000000 in
theorem noEdge_any {w : World} {be : Nat} {ea : Option Addr} {m c : Nat} (hn : w.cell? ⟨be, 0, none⟩ = some (.slice ea m c)) (x : Int) :
    Calls Try.prog 44 #[.int .i64 x, .pointer (some ⟨be, 0, none⟩)] w fun e w' => e = .returned (.bool (outN m x)) ∧ Below w.heap.size w w' := by
  have w1 := fun V : World => within_any x m V
  unfold outN
  obtain ⟨p, hp⟩ : ∃ p, inB x m = p := ⟨_, rfl⟩
  rw [hp] at w1 ⊢
  clear hp
  go_enter Try.func44, Try.ntmps44
  go_wp2_with (go_at_call 45; refine (w1 _).mono ?_; clear w1; rintro e v2 ⟨rfl, hw⟩; have hw := hw.symm; subst hw)
  go_ret
  exact ⟨rfl, Below.refl _ _⟩

set_option maxHeartbeats 1000000 in
theorem idx_noEdge {w : World} {v : Value} {es : List Int} {be : Nat} {m : Nat} (h : Has elInt w v es)
    (hf : ∀ V : World, Below w.heap.size w V → ∀ x ∈ es, Calls Try.prog 44 #[.int .i64 x, .pointer (some ⟨be, 0, none⟩)] V fun e w' => e = .returned (.bool (outN m x)) ∧ Below V.heap.size V w') :
    Calls Try.prog 58 #[v, .func (.func 44) #[] #[.pointer (some ⟨be, 0, none⟩)]] w fun e w' => e = .returned (.int .i64 (findI (outN m) es)) ∧ Below w.heap.size w w' := by
  obtain ⟨va, vc, rfl, -, -, hlen⟩ := h.shape
  have HL := hide h
  have HF := hide hf
  clear h hf
  go_enter Try.func58, Try.ntmps58
  go_wp2
  go_loopw [5, 8] (fun _ i wl => ∃ k : Nat, k ≤ es.length ∧ i = .int .i64 k ∧ Hid (∀ x ∈ es.take k, outN m x = false) ∧ Hid (Below w.heap.size w wl)) (fun _ i _ => es.length - (intOf i).toNat)
  case atStart => exact ⟨0, by omega, rfl, by show ∀ x ∈ es.take 0, outN m x = false; simp, Below.refl _ _⟩
  case round =>
    obtain ⟨k, hk, rfl, HK, HB⟩ := hrel
    by_cases hlt : k < es.length
    · have hi : (k : Int) < (es.length : Int) := by omega
      have hi0 : (0 : Int) ≤ (k : Int) := by omega
      obtain ⟨b, off, rfl, -, -, hrow⟩ := HL.out.row (by omega)
      obtain ⟨x, hx⟩ : ∃ x, es[k]? = some x := ⟨_, List.getElem?_eq_getElem hlt⟩
      have y0 := kept_cell HB.out (hrow k x hx 0 _ rfl)
      simp only [elInt, Nat.add_zero, Nat.mul_one] at y0
      have HX := hide hx
      have HC := hide (HF.out wr HB.out x (List.mem_of_getElem? hx))
      clear hrow hx
      cases he : outN m x with
      | true =>
        rw [he] at HC
        have HR := hide (findI_at HX.out HK.out he)
        go_wp2_with (go_at_call 44; refine HC.out.mono ?_; rintro e w2 ⟨rfl, h2⟩; have HB2 := hide (HB.out.trans (h2.mono HB.out.size)); clear h2)
        go_ret
        exact ⟨by rw [HR.out]; rfl, HB2.out⟩
      | false =>
        rw [he] at HC
        have HF2 := hide (all_snoc HX.out HK.out he)
        go_wp2_with (go_at_call 44; refine HC.out.mono ?_; rintro e w2 ⟨rfl, h2⟩; have HB2 := hide (HB.out.trans (h2.mono HB.out.size)); clear h2)
        go_roundw
        case rel => exact ⟨k + 1, by omega, by go_num, HF2, HB2⟩
        case measure => simp [intOf]; omega
    · obtain rfl : k = es.length := by omega
      have hi : ¬ (es.length : Int) < (es.length : Int) := by omega
      have HR := hide (findI_no HK.out)
      go_wp2
      go_ret
      exact ⟨by rw [HR.out]; rfl, HB.out⟩

theorem contains_noEdge {w : World} {v : Value} {es : List Int} {be : Nat} {m : Nat} (h : Has elInt w v es)
    (hf : ∀ V : World, Below w.heap.size w V → ∀ x ∈ es, Calls Try.prog 44 #[.int .i64 x, .pointer (some ⟨be, 0, none⟩)] V fun e w' => e = .returned (.bool (outN m x)) ∧ Below V.heap.size V w') :
    Calls Try.prog 46 #[v, .func (.func 44) #[] #[.pointer (some ⟨be, 0, none⟩)]] w fun e w' => e = .returned (.bool (es.any (outN m))) ∧ Below w.heap.size w w' := by
  have HI := hide (idx_noEdge h hf)
  clear h hf
  have HR := hide (findI_any (outN m) es)
  obtain ⟨r, hr⟩ : ∃ r, findI (outN m) es = r := ⟨_, rfl⟩
  rw [hr] at HI HR
  clear hr
  go_enter Try.func46, Try.ntmps46
  by_cases h0 : 0 ≤ r
  · go_wp2_with (go_at_call 58; refine HI.out.mono ?_; rintro e w2 ⟨rfl, h2⟩; have HB2 := hide h2; clear h2)
    go_ret
    exact ⟨by rw [← HR.out]; simp [h0], HB2.out⟩
  · go_wp2_with (go_at_call 58; refine HI.out.mono ?_; rintro e w2 ⟨rfl, h2⟩; have HB2 := hide h2; clear h2)
    go_ret
    exact ⟨by rw [← HR.out]; simp [h0], HB2.out⟩
end Go.Proofs.Ytmbkjgfnnpopgaa

namespace Go.Proofs.Ytmbkjgfnnpopgaa
set_option linter.unusedSimpArgs false
set_option linter.unusedVariables false
open Go.RowKit

theorem ed_at {es : List Edg} {k : Nat} {x : Edg} (h : es[k]? = some x) : ed es (k : Int) = x := by unfold ed; simp [h]
theorem wk_at {l : List Int} {k : Nat} {x : Int} (h : l[k]? = some x) : wk l k = x := by unfold wk; simp [h]

end Go.Proofs.Ytmbkjgfnnpopgaa

namespace Go.Proofs.Ytmbkjgfnnpopgaa
set_option linter.unusedSimpArgs false
set_option linter.unusedVariables false
open Go.RowKit
set_option maxRecDepth 100000

set_option maxHeartbeats 1000000 in
theorem cyclic_any {w : World} {v u : Value} {es : List Edg} {ls : List Int} (h : Has elEdg w v es) (hu : Has elInt w u ls) (n : Int) :
    Calls Try.prog 25 #[.int .i64 n, v, u] w fun e w' => e = .returned (.bool (cyclicP n es ls)) ∧ Below w.heap.size w w' := by
  obtain ⟨va, vc, rfl, -, -, hlen⟩ := h.shape
  obtain ⟨ua, uc, rfl, -, -, hlen2⟩ := hu.shape
  have hb := belo1 w (.cells #[.slice va es.length vc] 23)
  have hbox : (w.alloc (.cells #[.slice va es.length vc] 23)).cell? ⟨w.heap.size, 0, none⟩ = some (.slice va es.length vc) := by simp
  have HBY := hide hb
  have HBox := hide hbox
  have HF := hide (fit_any (h.kept hb) n)
  have HL := hide (h.kept hb)
  have HU := hide (hu.kept hb)
  clear h hu hb hbox
  unfold cyclicP
  cases hfit : fitP n es with
  | false =>
    rw [hfit] at HF
    go_enter Try.func25, Try.ntmps25
    go_wp2_with (go_at_call 39; refine HF.out.mono ?_; rintro e w2 ⟨rfl, h2⟩; have HB2 := hide (HBY.out.trans (h2.mono HBY.out.size)); clear h2)
    go_ret
    exact ⟨rfl, HB2.out⟩
  | true =>
    rw [hfit] at HF
    clear hfit
    go_enter Try.func25, Try.ntmps25
    by_cases hq : ls.length = 0
    · have hq' : ((ls.length : Int) == 0) = true := by simpa using hq
      have hq2 : (ls.length == 0) = true := by simpa using hq
      rw [hq2]
      clear hq
      go_wp2_with (go_at_call 39; refine HF.out.mono ?_; rintro e w2 ⟨rfl, h2⟩; have HB2 := hide (HBY.out.trans (h2.mono HBY.out.size)); clear h2)
      go_ret
      exact ⟨rfl, HB2.out⟩
    · have hq' : ((ls.length : Int) == 0) = false := by rw [beq_eq_false_iff_ne]; omega
      have hq2 : (ls.length == 0) = false := by simpa using hq
      rw [hq2]
      have hpos : 0 < ls.length := by omega
      clear hq hq2
      obtain ⟨a, ha⟩ : ∃ a, ls.any (outN es.length) = a := ⟨_, rfl⟩
      obtain ⟨c, hc⟩ : ∃ c, cycB es ls = c := ⟨_, rfl⟩
      obtain ⟨d, hd⟩ : ∃ d, ls.any (negW es) = d := ⟨_, rfl⟩
      rw [ha, hc, hd]
      have HA := hide ha
      have HC := hide hc
      have HD := hide hd
      clear ha hc hd
      have HCt : Hid (∀ V : World, Below (w.alloc (.cells #[.slice va es.length vc] 23)).heap.size (w.alloc (.cells #[.slice va es.length vc] 23)) V → Calls Try.prog 46 #[.slice ua ls.length uc, .func (.func 44) #[] #[.pointer (some ⟨w.heap.size, 0, none⟩)]] V fun e w' => e = .returned (.bool a) ∧ Below V.heap.size V w') := fun V hV => by
        rw [← HA.out]
        exact contains_noEdge (HU.out.kept hV) (fun V2 h2 x _ => noEdge_any (kept_cell h2 (kept_cell hV HBox.out)) x)
      cases a with
      | true =>
        go_wp2_with (first
          | (go_at_call 39; refine HF.out.mono ?_; rintro e w2 ⟨rfl, h2⟩; have HV2 := hide h2; clear h2)
          | (go_at_call 46; refine (HCt.out _ HV2.out).mono ?_; rintro e w3 ⟨rfl, h3⟩; have HB3 := hide (HBY.out.trans ((HV2.out.trans (h3.mono HV2.out.size)).mono HBY.out.size)); clear h3))
        go_ret
        exact ⟨rfl, HB3.out⟩
      | false =>
        go_wp2_with (first
          | (go_at_call 39; refine HF.out.mono ?_; rintro e w2 ⟨rfl, h2⟩; have HV2 := hide h2; clear h2)
          | (go_at_call 46; refine (HCt.out _ HV2.out).mono ?_; rintro e w3 ⟨rfl, h3⟩; have HV3 := hide (HV2.out.trans (h3.mono HV2.out.size)); clear h3))
        have HIn : Hid (∀ x ∈ ls, ∃ k : Nat, x = k ∧ k < es.length) := by
          have h1 := HA.out
          rw [List.any_eq_false] at h1
          exact fun x hx => outN_false (by simpa using h1 x hx)
        have HL3 := hide (HL.out.kept HV3.out)
        have HU3 := hide (HU.out.kept HV3.out)
        have hbx := over_cell (kept_cell HV3.out HBox.out)
        have HB3 := hide (HBY.out.trans (HV3.out.mono HBY.out.size))
        have HBox3 := hide (kept_cell HV3.out HBox.out)
        clear HV3 HV2 HF HCt HA HL HU HBox HBY
        obtain ⟨ub, uo, rfl, -, -, urow⟩ := HU3.out.row hpos
        obtain ⟨x, hx⟩ : ∃ x, ls[ls.length - 1]? = some x := ⟨_, List.getElem?_eq_getElem (by omega)⟩
        obtain ⟨mx, rfl, hmx⟩ := HIn.out x (List.mem_of_getElem? hx)
        obtain ⟨eb, eo, rfl, -, -, erow⟩ := HL3.out.row (by omega)
        obtain ⟨ex, hex⟩ : ∃ x, es[mx]? = some x := ⟨_, List.getElem?_eq_getElem hmx⟩
        have u0 := over_cell (urow (ls.length - 1) _ hx 0 _ rfl)
        have v0 := over_cell (erow mx _ hex 1 _ rfl)
        simp only [elInt, elEdg, Nat.add_zero, Nat.mul_one] at u0 v0
        have hmx' : (mx : Int) < (es.length : Int) := by omega
        have hmx0 : (0 : Int) ≤ (mx : Int) := by omega
        have hl1 : ((ls.length : Int) - 1) < (ls.length : Int) := by omega
        have hl0 : (0 : Int) ≤ (ls.length : Int) - 1 := by omega
        have HAt : Hid (ex.t = (ed es (wk ls (prv ls.length 0))).t) := by
          show _ = _
          rw [show prv ls.length 0 = ls.length - 1 from rfl, wk_at hx, ed_at hex]
        clear hx hex urow erow
        refine wp_region_over (fun W => W = w3) (by kernel_rfl) (by kernel_rfl) rfl ?_
        rintro W rfl
        repeat (go_big_quiet_step (first | fail))
        refine wpQuiet_nil ?_
        rintro _ ⟨z, rfl⟩
        have HBz := hide (HB3.out.trans ((over_below W z).mono HB3.out.size))
        have HLz := hide (HL3.out.kept (over_below W z))
        have HUz := hide (HU3.out.kept (over_below W z))
        have HBoxz := hide (hbx z)
        clear hbx u0 v0 HB3 HL3 HU3 HBox3
        go_wp2
        go_loopw [8, 9, 11, 39] (fun g t _ i wl => ∃ (k : Nat) (b : Bool) (y : Int), k ≤ ls.length ∧ i = .int .i64 k ∧ g = .bool b ∧ t = .int .i64 y ∧ Hid (b = (ls.take k).any (negW es)) ∧ Hid (y = (ed es (wk ls (prv ls.length k))).t) ∧ Hid (∀ i, i < k → prevOk es ls i = true) ∧ wl = over W z) (fun _ _ _ i _ => ls.length - (intOf i).toNat)
        case atStart => exact ⟨0, false, ex.t, by omega, rfl, rfl, rfl, by show _ = _; simp, HAt, (by show ∀ i, i < 0 → _; intro i h; omega), rfl⟩
        case round =>
          obtain ⟨k, bb, y, hk, rfl, rfl, rfl, HN, HY, HK, hwr⟩ := hrel
          have c0 := HBoxz.out
          have HLr := HLz
          have HUr := HUz
          rw [← hwr] at c0 HLr HUr
          by_cases hlt : k < ls.length
          · have hi : (k : Int) < (ls.length : Int) := by omega
            have hi0 : (0 : Int) ≤ (k : Int) := by omega
            obtain ⟨ub', uo', e1, -, -, urow⟩ := HUr.out.row (by omega)
            obtain ⟨x, hx⟩ : ∃ x, ls[k]? = some x := ⟨_, List.getElem?_eq_getElem hlt⟩
            obtain ⟨kx, rfl, hkx⟩ := HIn.out x (List.mem_of_getElem? hx)
            obtain ⟨eb', eo', e2, -, -, erow⟩ := HLr.out.row (by omega)
            obtain ⟨ek, hek⟩ : ∃ x, es[kx]? = some x := ⟨_, List.getElem?_eq_getElem hkx⟩
            cases e1
            cases e2
            have u0 := urow k _ hx 0 _ rfl
            have v0 := erow kx _ hek 0 _ rfl
            have v1 := erow kx _ hek 1 _ rfl
            have v2 := erow kx _ hek 2 _ rfl
            simp only [elInt, elEdg, Nat.add_zero, Nat.mul_one] at u0 v0 v1 v2
            have hkx' : (kx : Int) < (es.length : Int) := by omega
            have hkx0 : (0 : Int) ≤ (kx : Int) := by omega
            have HQ : Hid (prevOk es ls k = (ek.f == y)) := by
              show _ = _
              unfold prevOk
              rw [HY.out, wk_at hx, ed_at hek]
            have HN2 : Hid ((ls.take (k + 1)).any (negW es) = (bb || ek.neg)) := by
              show _ = _
              rw [take_snoc8 hx, List.any_append, ← HN.out]
              unfold negW
              simp [ed_at hek]
            have HY2 : Hid (ek.t = (ed es (wk ls (prv ls.length (k + 1)))).t) := by
              show _ = _
              rw [show prv ls.length (k + 1) = k by unfold prv; simp, wk_at hx, ed_at hek]
            have HW := hide hwr
            clear hx hek urow erow hkx hwr
            cases he : (ek.f == y) with
            | true =>
              rw [he] at HQ
              have hne : (ek.f != y) = false := by unfold bne; rw [he]; rfl
              have HK2 : Hid (∀ i, i < k + 1 → prevOk es ls i = true) := by
                show ∀ i, i < k + 1 → prevOk es ls i = true
                intro i hi
                rcases Nat.lt_succ_iff_lt_or_eq.1 hi with h | h
                · exact HK.out i h
                · rw [h]; exact HQ.out
              clear he
              cases bb
              · go_wp2
                go_roundw
                case rel => exact ⟨k + 1, ek.neg, ek.t, by omega, by go_num, rfl, rfl, by show _ = _; rw [HN2.out]; rfl, HY2, HK2, HW.out⟩
                case measure => simp [intOf]; omega
              · go_wp2
                go_roundw
                case rel => exact ⟨k + 1, true, ek.t, by omega, by go_num, rfl, rfl, by show _ = _; rw [HN2.out]; rfl, HY2, HK2, HW.out⟩
                case measure => simp [intOf]; omega
            | false =>
              rw [he] at HQ
              have hne : (ek.f != y) = true := by unfold bne; rw [he]; rfl
              have HE : Hid (c = false) := by show _ = _; rw [← HC.out]; exact cyc_no hlt HQ.out
              clear he
              go_wp2
              go_ret
              exact ⟨by rw [HE.out]; rfl, by rw [HW.out]; exact HBz.out⟩
          · obtain rfl : k = ls.length := by omega
            have hi : ¬ (ls.length : Int) < (ls.length : Int) := by omega
            have HE : Hid (c = true) := by show _ = _; rw [← HC.out]; exact cyc_yes HK.out
            have HEd : Hid (bb = d) := by show _ = _; rw [HN.out, List.take_of_length_le (Nat.le_refl _)]; exact HD.out
            have HW := hide hwr
            clear hwr
            go_wp2
            go_ret
            exact ⟨by rw [HE.out, ← HEd.out]; rfl, by rw [HW.out]; exact HBz.out⟩
end Go.Proofs.Ytmbkjgfnnpopgaa

namespace Go.Proofs.Ytmbkjgfnnpopgaa
set_option linter.unusedSimpArgs false
set_option linter.unusedVariables false
open Go.RowKit Go.Maps

theorem PathL.nil_eq {es : List Edg} {a b : Nat} {W : List Int} (h : PathL es a W b) (hW : W = []) : b = a := by
  cases h with
  | nil => rfl
  | snoc _ _ _ _ => simp at hW

theorem PathL.next {es : List Edg} {a b : Nat} {L : List Int} (h : PathL es a L b) : ∀ i, i < L.length → ∃ (m : Nat) (x : Edg), L[i]? = some (m : Int) ∧ es[m]? = some x ∧ (i = 0 → x.f = a) ∧ (i + 1 = L.length → x.t = b) ∧ ∀ (m' : Nat) (x' : Edg), L[i + 1]? = some (m' : Int) → es[m']? = some x' → x.t = x'.f := by
  induction h with
  | nil => intro i hi; simp at hi
  | @snoc W b m x t h hm hf ht ih =>
    intro i hi
    simp only [List.length_append, List.length_singleton] at hi ⊢
    by_cases hl : i < W.length
    · obtain ⟨m1, x1, h1, h2, h3, h4, h5⟩ := ih i hl
      refine ⟨m1, x1, by rw [List.getElem?_append_left hl]; exact h1, h2, h3, fun e => by omega, fun m' x' e1 e2 => ?_⟩
      by_cases hl2 : i + 1 < W.length
      · rw [List.getElem?_append_left hl2] at e1
        exact h5 m' x' e1 e2
      · have e0 : i + 1 = W.length := by omega
        rw [e0, List.getElem?_append_right (Nat.le_refl _), Nat.sub_self] at e1
        simp only [List.getElem?_cons_zero, Option.some.injEq] at e1
        have : m = m' := by omega
        subst this
        rw [hm] at e2
        cases e2
        rw [h4 e0, hf]
    · have e0 : i = W.length := by omega
      subst e0
      refine ⟨m, x, by simp, hm, fun e => ?_, fun _ => ht, fun m' x' e1 _ => ?_⟩
      · have hb := h.nil_eq (List.eq_nil_of_length_eq_zero e)
        rw [hf, hb]
      · rw [List.getElem?_append_right (by omega)] at e1
        simp at e1

/-- A closed walk with a negated edge is one. -/
theorem cyclic_yes {n : Nat} {es : List Edg} {a : Nat} {L : List Int} (hfit : fitP n es = true) (h : PathL es a L a) (hl : L ≠ []) (hneg : ∃ m : Nat, (m : Int) ∈ L ∧ (ed es m).neg = true) : cyclicP n es L = true := by
  have hpos : 0 < L.length := List.length_pos_iff.2 hl
  have hnx := h.next
  have h1 : (L.length == 0) = false := by simpa using hl
  have h2 : L.any (outN es.length) = false := by
    rw [List.any_eq_false]
    intro x hx
    obtain ⟨i, hi, e⟩ := List.getElem_of_mem hx
    obtain ⟨m, y, h1, h2, -⟩ := hnx i hi
    rw [List.getElem?_eq_getElem hi, Option.some.injEq, e] at h1
    have hm : m < es.length := (List.getElem?_eq_some_iff.1 h2).1
    rw [h1]
    unfold outN inB
    simp
    omega
  have h3 : cycB es L = true := cyc_yes' fun i hi => by
    obtain ⟨m, x, a1, a2, -, a4, a5⟩ := hnx i hi
    unfold nextOk
    rw [wk_at a1, ed_at a2]
    unfold nxt
    split
    · rename_i e
      obtain ⟨m0, x0, b1, b2, b3, -⟩ := hnx 0 hpos
      rw [wk_at b1, ed_at b2, a4 e, b3 rfl]
      simp
    · obtain ⟨m0, x0, b1, b2, -⟩ := hnx (i + 1) (by omega)
      rw [wk_at b1, ed_at b2, a5 m0 x0 b1 b2]
      simp
  have h4 : L.any (negW es) = true := by
    obtain ⟨m, hm, hn⟩ := hneg
    exact List.any_eq_true.2 ⟨m, hm, hn⟩
  unfold cyclicP
  rw [hfit, h1, h2, h3, h4]
  rfl

theorem edge_lnkN {es : List Edg} {u v : Nat} {e : Edg} (he : e ∈ es) (h1 : e.f = u) (h2 : e.t = v) (hn : e.neg = true) : lnkN es u v = true := by
  unfold lnkN
  refine List.any_eq_true.2 ⟨e, he, ?_⟩
  unfold isE
  simp [h1, h2, hn]
theorem lv_map {n : Nat} {X : Nat → Int} {u : Nat} (hu : u < n) : lv ((List.range n).map X) (u : Int) = X u := by
  unfold lv
  rw [Int.toNat_natCast, List.getElem?_map, List.getElem?_range hu]
  rfl
/-- What obeys all links is a level mapping. -/
theorem holds_yes {n : Nat} {es : List Edg} {X : Nat → Int} (hfit : fitP n es = true) (hX : Sol n (lnkT es) (lnkN es) X) : holdsP n es ((List.range n).map X) = true := by
  have hin := (fit_in8 hfit).2
  have h2 : ((List.range n).map X).any neg0 = false := by
    rw [List.any_eq_false]
    intro x hx
    obtain ⟨u, hu, rfl⟩ := List.mem_map.1 hx
    have := hX.nn u (List.mem_range.1 hu)
    unfold neg0
    simp
    omega
  have h3 : es.any (eBad ((List.range n).map X)) = false := by
    rw [List.any_eq_false]
    intro e he
    obtain ⟨q1, q2, q3, q4⟩ := hin e he
    obtain ⟨kf, hkf⟩ : ∃ kf : Nat, e.f = kf := ⟨e.f.toNat, by omega⟩
    obtain ⟨kt, hkt⟩ : ∃ kt : Nat, e.t = kt := ⟨e.t.toNat, by omega⟩
    unfold eBad
    rw [hkf, hkt, lv_map (show kf < n by omega), lv_map (show kt < n by omega)]
    have h4 := hX.le kf kt (by omega) (by omega) (edge_lnk he hkf hkt)
    cases hn : e.neg with
    | false => simp; omega
    | true =>
      have h5 := hX.lt kf kt (by omega) (by omega) (edge_lnkN he hkf hkt hn)
      simp
      omega
  unfold holdsP
  rw [hfit, h2, h3]
  simp
/-- A level mapping obeys all links. -/
theorem holds_sol {n : Nat} {es : List Edg} {ls : List Int} (h : holdsP n es ls = true) : fitP n es = true ∧ ls.length = n ∧ Sol n (lnkT es) (lnkN es) (fun u => lv ls (u : Int)) := by
  unfold holdsP at h
  simp only [Bool.and_eq_true, Bool.not_eq_true', beq_iff_eq] at h
  obtain ⟨h1, h2, h3, h4⟩ := h
  have hl : ls.length = n := by omega
  rw [List.any_eq_false] at h3 h4
  refine ⟨h1, hl, fun u hu => ?_, fun u v hu hv ht => ?_, fun u v hu hv ht => ?_⟩
  · have hm : ls[u]? = some ls[u] := List.getElem?_eq_getElem (by omega)
    have := h3 _ (List.mem_of_getElem? hm)
    show 0 ≤ lv ls (u : Int)
    unfold lv
    rw [Int.toNat_natCast, hm]
    unfold neg0 at this
    simp at this
    exact this
  · obtain ⟨e, he, e1, e2⟩ := lnk_edge ht
    have := h4 e he
    unfold eBad at this
    rw [e1, e2] at this
    simp at this
    exact this.1
  · unfold lnkN at ht
    obtain ⟨e, he, hi⟩ := List.any_eq_true.1 ht
    unfold isE at hi
    simp at hi
    obtain ⟨⟨e1, e2⟩, en⟩ := hi
    have := h4 e he
    unfold eBad at this
    rw [e1, e2, en] at this
    simp at this
    show lv ls (u : Int) + 1 ≤ lv ls (v : Int)
    omega
/-- Where a negated edge lies inside a component, no mapping obeys. -/
theorem bad_nosol {n : Nat} {es : List Edg} {X : Nat → Int} (hin : ∀ x ∈ es, 0 ≤ x.f ∧ x.f < n ∧ 0 ≤ x.t ∧ x.t < n) (hb : HasBad n es) (hX : Sol n (lnkT es) (lnkN es) X) : False := by
  obtain ⟨x, hx, hn, hm⟩ := hb
  obtain ⟨q1, q2, q3, q4⟩ := hin x hx
  have h1 := hX.lt x.f.toNat x.t.toNat (by omega) (by omega) (edge_lnkN hx (by omega) (by omega) hn)
  have h2 := hX.reach hm.2
  omega
theorem holds_no {n : Nat} {es : List Edg} {ls : List Int} (hb : HasBad n es) : holdsP n es ls = false := by
  cases h : holdsP n es ls with
  | false => rfl
  | true =>
    obtain ⟨h1, -, h2⟩ := holds_sol h
    exact (bad_nosol (fit_in8 h1).2 hb h2).elim
/-- Where a mapping obeys all links, no closed walk has a negated edge. -/
theorem cyclic_nosol {n : Nat} {es : List Edg} {L : List Int} {X : Nat → Int} (h : cyclicP n es L = true) (hX : Sol n (lnkT es) (lnkN es) X) : False := by
  unfold cyclicP at h
  simp only [Bool.and_eq_true, Bool.not_eq_true'] at h
  obtain ⟨hf, hl, ho, hc, hn⟩ := h
  have hin := (fit_in8 hf).2
  have hpos : 0 < L.length := by
    rcases Nat.eq_zero_or_pos L.length with e | e
    · rw [e] at hl; simp at hl
    · exact e
  rw [cyc_next] at hc
  rw [List.all_eq_true] at hc
  rw [List.any_eq_false] at ho
  have hel : ∀ i, i < L.length → ∃ m : Nat, wk L i = m ∧ ∃ e, es[m]? = some e ∧ ed es (wk L i) = e := fun i hi => by
    have hm : L[i]? = some L[i] := List.getElem?_eq_getElem hi
    have h1 := ho _ (List.mem_of_getElem? hm)
    obtain ⟨m, e, hm2⟩ := outN_false (by simpa using h1)
    have he : es[m]? = some es[m] := List.getElem?_eq_getElem hm2
    have hw : wk L i = m := by rw [wk_at hm]; exact e
    exact ⟨m, hw, es[m], he, by rw [hw]; exact ed_at he⟩
  have step : ∀ i, i < L.length → X (ed es (wk L i)).f.toNat ≤ X (ed es (wk L (nxt L.length i))).f.toNat ∧ (negW es (wk L i) = true → X (ed es (wk L i)).f.toNat + 1 ≤ X (ed es (wk L (nxt L.length i))).f.toNat) := fun i hi => by
    obtain ⟨m, hw, e, he, hee⟩ := hel i hi
    have h1 := hc i (List.mem_range.2 hi)
    unfold nextOk at h1
    simp only [beq_iff_eq] at h1
    rw [← h1]
    have hem := List.mem_of_getElem? he
    obtain ⟨q1, q2, q3, q4⟩ := hin e hem
    unfold negW
    rw [hee]
    exact ⟨hX.le _ _ (by omega) (by omega) (edge_lnk hem (by omega) (by omega)), fun hn => hX.lt _ _ (by omega) (by omega) (edge_lnkN hem (by omega) (by omega) hn)⟩
  have mono : ∀ j, j < L.length → ∀ i, i ≤ j → X (ed es (wk L i)).f.toNat ≤ X (ed es (wk L j)).f.toNat := by
    intro j
    induction j with
    | zero =>
      intro _ i hi
      obtain rfl : i = 0 := by omega
      exact Int.le_refl _
    | succ j ih =>
      intro hj i hi
      rcases Nat.lt_or_ge i (j + 1) with hl2 | hl2
      · have h1 := ih (by omega) i (by omega)
        have h2 := (step j (by omega)).1
        have : nxt L.length j = j + 1 := by unfold nxt; rw [if_neg (by omega)]
        rw [this] at h2
        omega
      · obtain rfl : i = j + 1 := by omega
        exact Int.le_refl _
  obtain ⟨x, hx, hxn⟩ := List.any_eq_true.1 hn
  obtain ⟨i, hi, e⟩ := List.getElem_of_mem hx
  have hwi : wk L i = x := by rw [wk_at (List.getElem?_eq_getElem hi)]; exact e
  have h1 := (step i hi).2 (by rw [hwi]; exact hxn)
  have hlast := (step (L.length - 1) (by omega)).1
  have hnl : nxt L.length (L.length - 1) = 0 := by unfold nxt; rw [if_pos (by omega)]
  rw [hnl] at hlast
  have h0 := mono i hi 0 (Nat.zero_le _)
  by_cases hil : i + 1 = L.length
  · have : nxt L.length i = 0 := by unfold nxt; rw [if_pos hil]
    rw [this] at h1
    omega
  · have hn1 : nxt L.length i = i + 1 := by unfold nxt; rw [if_neg hil]
    rw [hn1] at h1
    have h2 := mono (L.length - 1) (by omega) (i + 1) (by omega)
    omega

/-- What Cycle answers is a closed walk with a negated edge. -/
theorem cycle_is {n : Nat} {es : List Edg} {H : Nat → Int} {m : Nat} {x : Edg} {W : List Int} (hfit : fitP n es = true) (hm : es[m]? = some x) (hb : badE H x = true) (hp : PathL es x.t.toNat W x.f.toNat) : cyclicP n es ((m : Int) :: W) = true := by
  obtain ⟨q1, q2, q3, q4⟩ := (fit_in8 hfit).2 x (List.mem_of_getElem? hm)
  refine cyclic_yes (a := x.f.toNat) hfit (hp.cons hm (by omega) (by omega)) (by simp) ⟨m, by simp, ?_⟩
  rw [ed_at hm]
  unfold badE at hb
  simp only [Bool.and_eq_true] at hb
  exact hb.1
end Go.Proofs.Ytmbkjgfnnpopgaa

namespace Go.Proofs.Ytmbkjgfnnpopgaa
set_option linter.unusedSimpArgs false
set_option linter.unusedVariables false
open Go.RowKit

theorem lnkT_more {es : List Edg} {m : Edg} {u v : Nat} (h : lnkT es u v = true) : lnkT (es ++ [m]) u v = true := by
  unfold lnkT at h ⊢
  rw [List.any_append, h]; rfl
theorem lnkN_more {es : List Edg} {m : Edg} {u v : Nat} (h : lnkN es u v = true) : lnkN (es ++ [m]) u v = true := by
  unfold lnkN at h ⊢
  rw [List.any_append, h]; rfl
theorem reach_more {n : Nat} {es : List Edg} {m : Edg} {a b : Nat} (h : Reach (Ed n (lnkT es)) a b) : Reach (Ed n (lnkT (es ++ [m]))) a b := by
  induction h with
  | refl => exact .refl _
  | tail _ e ih => exact .tail ih ⟨e.1, e.2.1, lnkT_more e.2.2⟩
theorem bad_more {n : Nat} {es : List Edg} (m : Edg) (h : HasBad n es) : HasBad n (es ++ [m]) := by
  obtain ⟨x, hx, h1, h2⟩ := h
  exact ⟨x, List.mem_append_left _ hx, h1, reach_more h2.1, reach_more h2.2⟩
theorem sol_less {n : Nat} {es : List Edg} {m : Edg} {X : Nat → Int} (h : Sol n (lnkT (es ++ [m])) (lnkN (es ++ [m])) X) : Sol n (lnkT es) (lnkN es) X :=
  ⟨h.nn, fun u v hu hv e => h.le u v hu hv (lnkT_more e), fun u v hu hv e => h.lt u v hu hv (lnkN_more e)⟩
theorem fit_less {n : Int} {es : List Edg} {m : Edg} (h : fitP n (es ++ [m]) = true) : fitP n es = true := by
  unfold fitP at h ⊢
  rw [List.any_append] at h
  simp only [Bool.and_eq_true, decide_eq_true_eq, Bool.not_eq_true', Bool.or_eq_false_iff] at h ⊢
  exact ⟨h.1, h.2.1, h.2.2.1⟩
end Go.Proofs.Ytmbkjgfnnpopgaa

namespace Go.Proofs.Ytmbkjgfnnpopgaa
set_option linter.unusedSimpArgs false
set_option linter.unusedVariables false
open Go.RowKit Go.Maps

theorem CompsAt.has_ {base : Nat} {w : World} {n : Nat} {es : List Edg} {H : Nat → Int} {reps : List Nat} {M : Nat → Value} {ta : Option Addr} {tc i : Nat} (h : CompsAt base w n (lnkT es) H reps M (.slice ta reps.length tc)) (hi : i < reps.length) (hn : n ≤ 128) : ∃ (gt : Nat) (va : Value), ta = some ⟨gt, 0, none⟩ ∧ w.cell? ⟨gt, i, none⟩ = some va ∧ Has elInt w va ((memL H n reps[i]).map fun (u : Nat) => (u : Int)) := by
  have hr : reps[i]? = some reps[i] := List.getElem?_eq_getElem hi
  obtain ⟨r1, r2⟩ := h.greedy.rep _ (List.mem_of_getElem? hr)
  have ho : w.ownsRow base 46 1 (.slice ta reps.length tc) (reps.map M).length (reps.map M) := by rw [List.length_map]; exact h.told.own
  obtain ⟨gt, cap, e, -, hc⟩ := own_cells ho (by rw [List.length_map]; omega)
  have hlen : (memL H n reps[i]).length ≤ n := nd_len (nd_memL _ _ _) (fun p hp => (mem_memL.1 hp).1)
  exact ⟨gt, M reps[i], by injection e, hc i _ (by rw [List.getElem?_map, hr]; rfl), own_has (h.told.lst _ r1) (by omega) (fun x hx => by have := (mem_memL.1 hx).1; omega)⟩

theorem fitP_same {n : Int} {es es' : List Edg} (h : ∀ x, x ∈ es' ↔ x ∈ es) : fitP n es' = fitP n es := by
  have h1 : es'.any (eOut n) = es.any (eOut n) := by
    rw [Bool.eq_iff_iff]
    simp only [List.any_eq_true, h]
  unfold fitP
  rw [h1]

theorem levels_bad {w : World} {v : Value} {es : List Edg} {n : Nat} (h : Has elEdg w v es) (hfit : fitP n es = true) (hb : HasBad n es) :
    Calls Try.prog 22 #[.int .i64 (n : Int), v] w fun e w' => e = .returned (.tuple #[.slice none 0 0, .int .i64 40]) ∧ Below w.heap.size w w' :=
  (levels_fit h hfit).mono fun e w' ⟨h1, h2⟩ => ⟨h1.elim (fun h => h.2) (fun h => absurd hb h.1), h2⟩
theorem levels_good {w : World} {v : Value} {es : List Edg} {n : Nat} (h : Has elEdg w v es) (hfit : fitP n es = true) (hb : ¬ HasBad n es) :
    Calls Try.prog 22 #[.int .i64 (n : Int), v] w fun e w' => ∃ (g : Nat) (X : Nat → Int), e = .returned (.tuple #[.slice (some ⟨g, 0, none⟩) n n, .int .i64 0]) ∧ w'.rowIs g 3 n (fun i => .int .i64 (X i)) ∧ (Least n (lnkT es) (lnkN es) X ∧ ∀ p, p < n → X p ≤ n) ∧ Below w.heap.size w w' :=
  (levels_fit h hfit).mono fun e w' ⟨h1, h2⟩ => h1.elim (fun h => absurd h.1 hb) (fun ⟨_, g, X, a, b, c⟩ => ⟨g, X, a, b, c, h2⟩)

theorem comps_same {base base' : Nat} {w : World} {n : Nat} {es : List Edg} {H H' : Nat → Int} {reps reps' : List Nat} {M M' : Nat → Value} {ta ta' : Option Addr} {tc tc' : Nat} (hn : n ≤ 128) (h : CompsAt base w n (lnkT es) H reps M (.slice ta reps.length tc)) (h' : CompsAt base' w n (lnkT es) H' reps' M' (.slice ta' reps'.length tc')) :
    ∀ i, i < reps.length → ∃ (ga gb : Nat) (L : List Int) (va vb : Value), ta = some ⟨ga, 0, none⟩ ∧ ta' = some ⟨gb, 0, none⟩ ∧ w.cell? ⟨ga, i, none⟩ = some va ∧ w.cell? ⟨gb, i, none⟩ = some vb ∧ Has elInt w va L ∧ Has elInt w vb L := fun i hi => by
  have he := home_uniq h.least h'.least
  have hr := greedy_uniq he h.greedy h'.greedy h.all h'.all
  subst hr
  obtain ⟨ga, va, a1, a2, a3⟩ := h.has_ hi hn
  obtain ⟨gb, vb, b1, b2, b3⟩ := h'.has_ hi hn
  rw [← memL_congr he] at b3
  exact ⟨ga, gb, _, va, vb, a1, b1, a2, b2, a3, b3⟩

end Go.Proofs.Ytmbkjgfnnpopgaa

namespace Go.Proofs.Ytmbkjgfnnpopgaa
set_option linter.unusedSimpArgs false
set_option linter.unusedVariables false
open Go.RowKit Go.Maps

/-- The law's firstCycle, where a negated edge lies inside a component. -/
theorem firstCycle_bad {w : World} {v : Value} {es : List Edg} {n : Nat} (h : Has elEdg w v es) (hfit : fitP n es = true) (hb : HasBad n es) :
    Calls Try.prog 26 #[.int .i64 (n : Int), v] w fun e w' => ∃ wv, e = .returned wv ∧ ∃ W, Has elInt w' wv W ∧ cyclicP n es W = true ∧ Below w.heap.size w w' := by
  obtain ⟨va, vc, rfl, -, -, hlen⟩ := h.shape
  have hk : n ≤ 128 := by have := (fit_in8 hfit).1; omega
  have HL := hide h
  have HFt := hide hfit
  have HBd := hide hb
  clear h hfit hb
  go_enter Try.func26, Try.ntmps26
  go_wp2_with (first
    | (go_at_call 15; refine (edges_any HL.out).mono ?_; rintro e V1 ⟨g1, rfl, hg1, b1⟩; obtain ⟨ga1, gc1, rfl, -, -⟩ := hg1.shape; have HG1 := hide (hg1.list hlen); have HB1 := hide b1; clear hg1 b1)
    | (go_at_call 30; refine (cycle_bad HG1.out HFt.out HBd.out).mono ?_; rintro e V2 ⟨H, wv, m, x, W, hH, rfl, hgw, ⟨hm1, hm2, hm3, hm4, hm5⟩, b3⟩; have HB2 := hide (HB1.out.trans (b3.mono HB1.out.size)); have HCy := hide (cycle_is HFt.out hm2 hm3 hm4); have hwl : ((m : Int) :: W).length < 1073741824 := (by simp; omega); have HRg := hide (hgw.list hwl); obtain ⟨ra, rc, rfl, -, -⟩ := hgw.shape; clear hH hgw hm1 hm2 hm3 hm4 hm5; clear b3))
  go_ret
  exact ⟨_, rfl, _, HRg.out, HCy.out, HB2.out⟩

set_option maxRecDepth 100000 in
set_option maxHeartbeats 4000000 in
theorem strataMore_walk (n : Int) (v : Value) (es : List Edg) (m : Edg) (w : World) (hn : I64 n) (h : Has elEdg w v es) (hes : es.length ≤ 1048576) (hm : elEdg.ok w (fun _ => True) m) :
    Calls Try.prog 6 #[.int .i64 n, v, .agg #[.int .i64 m.f, .int .i64 m.t, .bool m.neg, .int .i64 m.r]] w fun e w' => e = .returned (.bool true) ∧ Below w.heap.size w w' := by
  obtain ⟨i0, hi0, hz0, hz1, hz2⟩ := info_parts Try.infoEdg
  obtain ⟨va, vc, rfl, -, -, hlen⟩ := h.shape
  obtain ⟨Y, hY⟩ : ∃ Y, w.alloc (.cells #[.int .i64 m.f, .int .i64 m.t, .bool m.neg, .int .i64 m.r] 39) = Y := ⟨_, rfl⟩
  have hb0 : Below w.heap.size w Y := by rw [← hY]; exact belo1 w _
  have HB0 := hide hb0
  have HL := hide (h.kept hb0)
  have HX : Hid (∀ V : World, Below Y.heap.size Y V → V.cell? ⟨w.heap.size, 0, none⟩ = some (.int .i64 m.f) ∧ V.cell? ⟨w.heap.size, 1, none⟩ = some (.int .i64 m.t) ∧ V.cell? ⟨w.heap.size, 2, none⟩ = some (.bool m.neg) ∧ V.cell? ⟨w.heap.size, 3, none⟩ = some (.int .i64 m.r)) := fun V hV => by
    refine ⟨kept_cell hV ?_, kept_cell hV ?_, kept_cell hV ?_, kept_cell hV ?_⟩ <;> rw [← hY]
    · exact new_cells 0 _ rfl
    · exact new_cells 1 _ rfl
    · exact new_cells 2 _ rfl
    · exact new_cells 3 _ rfl
  have HM := hide hm
  have HEd : Hid (∀ V : World, Below Y.heap.size Y V → Calls Try.prog 15 #[.slice va es.length vc] V fun e w' => ∃ v', e = .returned v' ∧ Grow elEdg 39 V.heap.size w' v' es ∧ Below V.heap.size V w') := fun V hV => edges_any (HL.out.kept hV)
  have HbA : Hid (Below Y.heap.size Y Y.drew) := (Below.refl _ _).drew
  have HbA1 : Hid (Below Y.heap.size Y (Y.drewN 1)) := below_drewN _ Y 1
  have HbB : Hid (Below Y.heap.size Y (Y.drew.alloc (.cells #[.int .i64 m.f, .int .i64 m.t, .bool m.neg, .int .i64 m.r] 39))) := HbA.out.alloc (Nat.le_refl _) _
  have HnB : Hid (∀ (j : Nat) (u : Value), (elEdg.cells m)[j]? = some u → (Y.drew.alloc (.cells #[.int .i64 m.f, .int .i64 m.t, .bool m.neg, .int .i64 m.r] 39)).cell? ⟨Y.heap.size, j, none⟩ = some u) := fun j u hu => new_cells (w := Y.drew) j u hu
  have HbC : Hid (Below Y.heap.size Y (Y.alloc (.cells #[.int .i64 m.f, .int .i64 m.t, .bool m.neg, .int .i64 m.r] 39)).drew) := HbB
  have HbD : Hid (Below Y.heap.size Y ((Y.drewN 1).alloc (.cells #[.int .i64 m.f, .int .i64 m.t, .bool m.neg, .int .i64 m.r] 39))) := HbB
  have HbE : Hid (Below Y.heap.size Y ((Y.alloc (.cells #[.int .i64 m.f, .int .i64 m.t, .bool m.neg, .int .i64 m.r] 39)).drewN 1)) := HbB
  have HW := hide hY
  have h32 : (32 : Nat) ≤ 4096 := by decide
  have hle1 : es.length + 1 < 1073741824 := by omega
  clear h hb0 hm hY hn
  go_enter Try.func6, Try.ntmps6
  go_wp2_with (fail)
  rw [HW.out]
  go_cut [7] (fun v wx => ∃ g cap, v = .slice (some ⟨g, 0, none⟩) (es.length + 1) cap ∧ Hid (Grow elEdg 39 Y.heap.size wx (.slice (some ⟨g, 0, none⟩) (es.length + 1) cap) (es ++ [m])) ∧ Hid (Below Y.heap.size Y wx))
  case first =>
    go_region_held3 (fun w' => w'.cell? ⟨w.heap.size, 0, none⟩ = some (.int .i64 m.f) ∧ w'.cell? ⟨w.heap.size, 1, none⟩ = some (.int .i64 m.t) ∧ w'.cell? ⟨w.heap.size, 2, none⟩ = some (.bool m.neg) ∧ w'.cell? ⟨w.heap.size, 3, none⟩ = some (.int .i64 m.r))
      (first
        | with_reducible exact HX.out _ HbA.out
        | with_reducible exact HX.out _ HbA1.out
        | with_reducible exact HX.out _ HbB.out
        | with_reducible exact HX.out _ HbC.out
        | with_reducible exact HX.out _ HbD.out
        | with_reducible exact HX.out _ HbE.out
        | with_reducible exact HX.out _ HB1.out
        | with_reducible exact HX.out _ HBc.out
        | with_reducible exact HX.out _ HB3.out)
      (first
        | (go_at_call 15; (with_reducible refine (HEd.out _ HbA.out).mono ?_); rintro e V1 ⟨g1, rfl, hg1, b1⟩; obtain ⟨ga1, gc1, rfl, -, -⟩ := hg1.shape; have HB1 : Hid (Below Y.heap.size Y V1) := HbA.out.trans (b1.mono HbA.out.size); have HG1 : Hid (Grow elEdg 39 Y.heap.size V1 (.slice ga1 es.length gc1) es) := hg1.mono HbA.out.size; have HBc : Hid (Below Y.heap.size Y (V1.alloc (.cells #[.int .i64 m.f, .int .i64 m.t, .bool m.neg, .int .i64 m.r] 39))) := HB1.out.alloc HB1.out.size _; have HSz : Hid (Y.heap.size ≤ (V1.alloc (.cells #[.int .i64 m.f, .int .i64 m.t, .bool m.neg, .int .i64 m.r] 39)).heap.size) := HBc.out.size; have HGc := hide (HG1.out.kept (belo1 V1 (.cells #[.int .i64 m.f, .int .i64 m.t, .bool m.neg, .int .i64 m.r] 39))); clear hg1 b1)
        | (go_at_call 15; (with_reducible refine (HEd.out _ HbA1.out).mono ?_); rintro e V1 ⟨g1, rfl, hg1, b1⟩; obtain ⟨ga1, gc1, rfl, -, -⟩ := hg1.shape; have HB1 : Hid (Below Y.heap.size Y V1) := HbA1.out.trans (b1.mono HbA1.out.size); have HG1 : Hid (Grow elEdg 39 Y.heap.size V1 (.slice ga1 es.length gc1) es) := hg1.mono HbA1.out.size; have HBc : Hid (Below Y.heap.size Y (V1.alloc (.cells #[.int .i64 m.f, .int .i64 m.t, .bool m.neg, .int .i64 m.r] 39))) := HB1.out.alloc HB1.out.size _; have HSz : Hid (Y.heap.size ≤ (V1.alloc (.cells #[.int .i64 m.f, .int .i64 m.t, .bool m.neg, .int .i64 m.r] 39)).heap.size) := HBc.out.size; have HGc := hide (HG1.out.kept (belo1 V1 (.cells #[.int .i64 m.f, .int .i64 m.t, .bool m.neg, .int .i64 m.r] 39))); clear hg1 b1)
        | (go_at_call 15; (with_reducible refine (HEd.out _ HbB.out).mono ?_); rintro e V1 ⟨g1, rfl, hg1, b1⟩; obtain ⟨ga1, gc1, rfl, -, -⟩ := hg1.shape; have HB1 : Hid (Below Y.heap.size Y V1) := HbB.out.trans (b1.mono HbB.out.size); have HG1 : Hid (Grow elEdg 39 Y.heap.size V1 (.slice ga1 es.length gc1) es) := hg1.mono HbB.out.size; have HnV : Hid (∀ (j : Nat) (u : Value), (elEdg.cells m)[j]? = some u → V1.cell? ⟨Y.heap.size, j, none⟩ = some u) := fun j u hu => kept_cell b1 (HnB.out j u hu); clear hg1 b1)
        | (go_at_call 15; (with_reducible refine (HEd.out _ HbC.out).mono ?_); rintro e V1 ⟨g1, rfl, hg1, b1⟩; obtain ⟨ga1, gc1, rfl, -, -⟩ := hg1.shape; have HB1 : Hid (Below Y.heap.size Y V1) := HbC.out.trans (b1.mono HbC.out.size); have HG1 : Hid (Grow elEdg 39 Y.heap.size V1 (.slice ga1 es.length gc1) es) := hg1.mono HbC.out.size; have HnV : Hid (∀ (j : Nat) (u : Value), (elEdg.cells m)[j]? = some u → V1.cell? ⟨Y.heap.size, j, none⟩ = some u) := fun j u hu => kept_cell b1 (HnB.out j u hu); clear hg1 b1)
        | (go_at_call 15; (with_reducible refine (HEd.out _ HbD.out).mono ?_); rintro e V1 ⟨g1, rfl, hg1, b1⟩; obtain ⟨ga1, gc1, rfl, -, -⟩ := hg1.shape; have HB1 : Hid (Below Y.heap.size Y V1) := HbD.out.trans (b1.mono HbD.out.size); have HG1 : Hid (Grow elEdg 39 Y.heap.size V1 (.slice ga1 es.length gc1) es) := hg1.mono HbD.out.size; have HnV : Hid (∀ (j : Nat) (u : Value), (elEdg.cells m)[j]? = some u → V1.cell? ⟨Y.heap.size, j, none⟩ = some u) := fun j u hu => kept_cell b1 (HnB.out j u hu); clear hg1 b1)
        | (go_at_call 15; (with_reducible refine (HEd.out _ HbE.out).mono ?_); rintro e V1 ⟨g1, rfl, hg1, b1⟩; obtain ⟨ga1, gc1, rfl, -, -⟩ := hg1.shape; have HB1 : Hid (Below Y.heap.size Y V1) := HbE.out.trans (b1.mono HbE.out.size); have HG1 : Hid (Grow elEdg 39 Y.heap.size V1 (.slice ga1 es.length gc1) es) := hg1.mono HbE.out.size; have HnV : Hid (∀ (j : Nat) (u : Value), (elEdg.cells m)[j]? = some u → V1.cell? ⟨Y.heap.size, j, none⟩ = some u) := fun j u hu => kept_cell b1 (HnB.out j u hu); clear hg1 b1)
        | (refine step_push (w0 := Y) elEdg (by rfl) _ _ 23 (by rfl) Y.heap.size 39 i0 _ 32 Try.underlying23 hi0 hz0 hz1 hz2 rfl h32 _ es es.length rfl (by rfl) HGc.out m V1.heap.size 1 (by rfl) (fun j u hu => new_cells j u hu) HM.out hle1 HBc.out HSz.out ?_; intro g cap w3 HG3 HB3 HGr; clear HGr)
        | (refine step_push (w0 := Y) elEdg (by rfl) _ _ 23 (by rfl) Y.heap.size 39 i0 _ 32 Try.underlying23 hi0 hz0 hz1 hz2 rfl h32 _ es es.length rfl (by rfl) HG1.out m Y.heap.size 1 (by rfl) HnV.out HM.out hle1 HB1.out HB1.out.size ?_; intro g cap w3 HG3 HB3 HGr; clear HGr))
    all_goals (go_wp2; go_meet; exact ⟨_, _, rfl, HG3, HB3⟩)
  case rest =>
    obtain ⟨g, cap, rfl, HG, HBc⟩ := hcut
    clear HX HbA HbA1 HbB HbC HbD HbE HnB HEd HW
    have hlen2 : (es ++ [m]).length < 1073741824 := by rw [List.length_append]; simp; omega
    have HLl := hide (HG.out.list hlen2)
    have HL2 : Hid ((es ++ [m]).length = es.length + 1) := by show _ = _; rw [List.length_append]; rfl
    have HE1 : Hid (∀ V : World, Below wc.heap.size wc V → Calls Try.prog 15 #[.slice va es.length vc] V fun e w' => ∃ v', e = .returned v' ∧ Grow elEdg 39 V.heap.size w' v' es ∧ Below V.heap.size V w') := fun V hV => edges_any ((HL.out.kept HBc.out).kept hV)
    have HE2 : Hid (∀ V : World, Below wc.heap.size wc V → Calls Try.prog 15 #[.slice (some ⟨g, 0, none⟩) (es.length + 1) cap] V fun e w' => ∃ v', e = .returned v' ∧ Grow elEdg 39 V.heap.size w' v' (es ++ [m]) ∧ Below V.heap.size V w') := fun V hV => edges_any (HLl.out.kept hV)
    have HFt := hide (lfit_any HLl.out n)
    have HLs : Hid (∀ V : World, Below wc.heap.size wc V → Has elEdg V (.slice va es.length vc) es) := fun V hV => (HL.out.kept HBc.out).kept hV
    have HLm : Hid (∀ V : World, Below wc.heap.size wc V → Has elEdg V (.slice (some ⟨g, 0, none⟩) (es.length + 1) cap) (es ++ [m])) := fun V hV => HLl.out.kept hV
    clear HG HL HLl
    cases hf : fitP n (es ++ [m]) with
    | false =>
      rw [hf] at HFt
      go_wp2_with (first
        | (go_at_call 24; refine HFt.out.mono ?_; rintro e V ⟨rfl, b1⟩; have HBx := hide b1; clear b1 HFt))
      go_ret
      exact ⟨rfl, HB0.out.trans ((HBc.out.trans (HBx.out.mono HBc.out.size)).mono HB0.out.size)⟩
    | true =>
      rw [hf] at HFt
      obtain ⟨⟨hk0, hk1⟩, -⟩ := fit_in8 hf
      obtain ⟨k, rfl⟩ : ∃ k : Nat, n = k := ⟨n.toNat, by omega⟩
      have hk : k ≤ 128 := by omega
      have HfL := hide hf
      have HfE := hide (fit_less hf)
      clear hf hk0 hk1
      rcases Classical.em (HasBad k es) with hb | hb
      · have HbE := hide hb
        have HbL := hide (bad_more m hb)
        clear hb
        go_wp2_with (first
          | (go_at_call 24; refine HFt.out.mono ?_; rintro e V ⟨rfl, b1⟩; have HBx := hide b1; clear b1 HFt)
          | (go_at_call 15; (with_reducible refine (HE1.out _ HBx.out).mono ?_); rintro e V ⟨g1, rfl, hg1, b1⟩; obtain ⟨ga1, gc1, rfl, -, -⟩ := hg1.shape; have HGe := hide (hg1.list hlen); replace HBx := hide (HBx.out.trans (b1.mono HBx.out.size)); clear hg1 b1)
          | (go_at_call 15; (with_reducible refine (HE2.out _ HBx.out).mono ?_); rintro e V ⟨g1, rfl, hg1, b1⟩; obtain ⟨ga2, gc2, e2, -, -⟩ := hg1.shape; rw [HL2.out] at e2; subst e2; have HGl := hide (hg1.list hlen2); replace HBx := hide (HBx.out.trans (b1.mono HBx.out.size)); clear hg1 b1)
          | (go_at_call 22; (with_reducible refine (levels_bad HGe.out HfE.out HbE.out).mono ?_); rintro e V ⟨rfl, b3⟩; replace HBx := hide (HBx.out.trans (b3.mono HBx.out.size)); clear b3 HGe)
          | (go_at_call 22; (with_reducible refine (levels_bad HGl.out HfL.out HbL.out).mono ?_); rintro e V ⟨rfl, b3⟩; replace HBx := hide (HBx.out.trans (b3.mono HBx.out.size)); clear b3 HGl)
          | (go_at_call 26; (with_reducible refine (firstCycle_bad (HLs.out _ HBx.out) HfE.out HbE.out).mono ?_); rintro e V ⟨wv, rfl, W, hW, hc, b3⟩; obtain ⟨wa, wb, rfl, -, -, -⟩ := hW.shape; have HWl := hide hW; have HCy := hide hc; have HGk := hide (HGe.out.kept b3); replace HBx := hide (HBx.out.trans (b3.mono HBx.out.size)); clear hW hc b3)
          | (go_at_call 25; (with_reducible refine (cyclic_any HGk.out HWl.out (k : Int)).mono ?_); rw [HCy.out]; rintro e V ⟨rfl, b3⟩; replace HBx := hide (HBx.out.trans (b3.mono HBx.out.size)); clear b3))
        go_ret
        exact ⟨rfl, HB0.out.trans ((HBc.out.trans (HBx.out.mono HBc.out.size)).mono HB0.out.size)⟩
      · have HbE := hide hb
        clear hb
        rcases Classical.em (HasBad k (es ++ [m])) with hb | hb
        · have HbL := hide hb
          clear hb
          go_wp2_with (first
            | (go_at_call 24; refine HFt.out.mono ?_; rintro e V ⟨rfl, b1⟩; have HBx := hide b1; clear b1 HFt)
            | (go_at_call 15; (with_reducible refine (HE1.out _ HBx.out).mono ?_); rintro e V ⟨g1, rfl, hg1, b1⟩; obtain ⟨ga1, gc1, rfl, -, -⟩ := hg1.shape; have HGe := hide (hg1.list hlen); replace HBx := hide (HBx.out.trans (b1.mono HBx.out.size)); clear hg1 b1)
            | (go_at_call 15; (with_reducible refine (HE2.out _ HBx.out).mono ?_); rintro e V ⟨g1, rfl, hg1, b1⟩; obtain ⟨ga2, gc2, e2, -, -⟩ := hg1.shape; rw [HL2.out] at e2; subst e2; have HGl := hide (hg1.list hlen2); replace HBx := hide (HBx.out.trans (b1.mono HBx.out.size)); clear hg1 b1)
            | (go_at_call 22; (with_reducible refine (levels_good HGe.out HfE.out HbE.out).mono ?_); rintro e V1 ⟨r1, X, rfl, hr, hl, b3⟩; have HR1 := hide hr; have HX1 := hide hl; replace HBx := hide (HBx.out.trans (b3.mono HBx.out.size)); clear b3 hr hl HGe)
            | (go_at_call 22; (with_reducible refine (levels_bad HGl.out HfL.out HbL.out).mono ?_); rintro e V ⟨rfl, b3⟩; replace HBx := hide (HBx.out.trans (b3.mono HBx.out.size)); clear b3 HGl)
            | (go_at_call 26; (with_reducible refine (firstCycle_bad (HLm.out _ HBx.out) HfL.out HbL.out).mono ?_); rintro e V ⟨wv, rfl, W, hW, hc, b3⟩; obtain ⟨wa, wb, rfl, -, -, -⟩ := hW.shape; have HWl := hide hW; have HCy := hide hc; have HGk := hide (HGl.out.kept b3); replace HBx := hide (HBx.out.trans (b3.mono HBx.out.size)); clear hW hc b3)
            | (go_at_call 25; (with_reducible refine (cyclic_any HGk.out HWl.out (k : Int)).mono ?_); rw [HCy.out]; rintro e V ⟨rfl, b3⟩; replace HBx := hide (HBx.out.trans (b3.mono HBx.out.size)); clear b3))
          go_ret
          exact ⟨rfl, HB0.out.trans ((HBc.out.trans (HBx.out.mono HBc.out.size)).mono HB0.out.size)⟩
        · have HbL := hide hb
          clear hb
          go_wp2_with (first
            | (go_at_call 24; refine HFt.out.mono ?_; rintro e V ⟨rfl, b1⟩; have HBx := hide b1; clear b1 HFt)
            | (go_at_call 15; (with_reducible refine (HE1.out _ HBx.out).mono ?_); rintro e V ⟨g1, rfl, hg1, b1⟩; obtain ⟨ga1, gc1, rfl, -, -⟩ := hg1.shape; have HGe := hide (hg1.list hlen); replace HBx := hide (HBx.out.trans (b1.mono HBx.out.size)); (try replace HBz := hide (HBz.out.trans (b1.mono HBz.out.size))); clear hg1 b1)
            | (go_at_call 15; (with_reducible refine (HE2.out _ HBx.out).mono ?_); rintro e V ⟨g1, rfl, hg1, b1⟩; obtain ⟨ga2, gc2, e2, -, -⟩ := hg1.shape; rw [HL2.out] at e2; subst e2; have HGl := hide (hg1.list hlen2); replace HBv := hide (HBv.out.trans (b1.mono HBv.out.size)); replace HBx := hide (HBx.out.trans (b1.mono HBx.out.size)); clear hg1 b1)
            | (go_at_call 22; (with_reducible refine (levels_good HGe.out HfE.out HbE.out).mono ?_); rintro e V1 ⟨r1, X, rfl, hr, hl, b3⟩; have HR1 := hide hr; have HX1 := hide hl; have HBv := hide (Below.refl V1.heap.size V1); replace HBx := hide (HBx.out.trans (b3.mono HBx.out.size)); clear b3 hr hl HGe)
            | (go_at_call 22; (with_reducible refine (levels_good HGl.out HfL.out HbL.out).mono ?_); rintro e V2 ⟨r2, Z, rfl, hr, hl, b3⟩; have HR2 := hide hr; have HX2 := hide hl; have HRa := hide (HR1.out.of_block ((HBv.out.trans (b3.mono HBv.out.size)).block _ HR1.out.lt)); have HBz := hide (Below.refl V2.heap.size V2); have HIv : Hid (∀ V : World, Below V2.heap.size V2 V → Has elInt V (.slice (some ⟨r2, 0, none⟩) k k) ((List.range k).map Z)) := (fun V hV => (row_has hr (fun i hi => ⟨by have := hl.1.nn i hi; omega, by have := hl.2 i hi; omega⟩) hk).kept hV); have HHo := hide (holds_yes HfE.out (sol_less hl.1.toSol)); replace HBx := hide (HBx.out.trans (b3.mono HBx.out.size)); clear b3 hr hl HGl HR1 HBv)
            | (go_at_call 28; (with_reducible refine (ints_any (HIv.out _ HBz.out)).mono ?_); rintro e V ⟨g2, rfl, hg2, b2⟩; obtain ⟨gi, gj, e3, -, -⟩ := hg2.shape; simp only [List.length_map, List.length_range] at e3; subst e3; have HGi := hide (hg2.list (by simp; omega)); have HGk := hide (HGe.out.kept b2); replace HBz := hide (HBz.out.trans (b2.mono HBz.out.size)); replace HBx := hide (HBx.out.trans (b2.mono HBx.out.size)); clear hg2 b2)
            | (go_at_call 27; (with_reducible refine (holds_any HGk.out HGi.out (k : Int)).mono ?_); rw [HHo.out]; rintro e V ⟨rfl, b3⟩; replace HBz := hide (HBz.out.trans (b3.mono HBz.out.size)); replace HBx := hide (HBx.out.trans (b3.mono HBx.out.size)); clear b3))
          have HLe : Hid (∀ i, i < k → X i ≤ Z i) := fun i hi => HX1.out.1.least Z (sol_less HX2.out.1.toSol) i hi
          have HBw : Hid (Below wc.heap.size wc V2 → Below w.heap.size w V2) := fun h => HB0.out.trans ((HBc.out.trans (h.mono HBc.out.size)).mono HB0.out.size)
          have HBy : Hid (Below w.heap.size w V) := HB0.out.trans ((HBc.out.trans (HBx.out.mono HBc.out.size)).mono HB0.out.size)
          clear HGe HGi HGk HE1 HE2 HLs HLm HIv HHo HX1 HX2 HBx
          go_loopw [12] (fun y wl => ∃ i : Nat, i ≤ k ∧ y = .int .i64 (i : Int) ∧ Hid (Below V2.heap.size V2 wl) ∧ Hid (Below w.heap.size w wl)) (fun y _ => k - (intOf y).toNat)
          case atStart => exact ⟨0, by omega, rfl, HBz, HBy⟩
          case round =>
            clear HBz HBy
            obtain ⟨i, hi, rfl, HBz, HBy⟩ := hrel
            by_cases hlt : i < k
            · have hi1 : (i : Int) < (k : Int) := by omega
              have hi0' : (0 : Int) ≤ (i : Int) := by omega
              have y1 := (HRa.out.of_block (HBz.out.block _ HRa.out.lt)).cell hlt
              have y2 := (HR2.out.of_block (HBz.out.block _ HR2.out.lt)).cell hlt
              have hle := HLe.out i hlt
              obtain ⟨x1, hx1⟩ : ∃ x, X i = x := ⟨_, rfl⟩
              obtain ⟨x2, hx2⟩ : ∃ x, Z i = x := ⟨_, rfl⟩
              rw [hx1] at y1 hle
              rw [hx2] at y2 hle
              clear hx1 hx2
              have hle2 : ¬ x2 < x1 := by omega
              clear hle
              go_wp2
              go_region_held3 (fun w' => w'.cell? ⟨r1, i, none⟩ = some (.int .i64 x1) ∧ w'.cell? ⟨r2, i, none⟩ = some (.int .i64 x2)) (exact ⟨y1, y2⟩) (fail)
              go_wp2
              go_roundw
              case rel => exact ⟨i + 1, by omega, by go_num, HBz.out.drew, HBy.out.drew⟩
              case measure => simp [intOf]; omega
            · obtain rfl : i = k := by omega
              have hi1 : ¬ (i : Int) < (i : Int) := by omega
              go_wp2
              go_ret
              exact ⟨rfl, HBy.out⟩
end Go.Proofs.Ytmbkjgfnnpopgaa

namespace Go.Proofs.Ytmbkjgfnnpopgaa
set_option linter.unusedSimpArgs false
set_option linter.unusedVariables false
open Go.RowKit Go.Maps

/-- What an edge asks of its end. -/
def leastE (X : Nat → Int) (x : Edg) : Int := if x.neg then X x.f.toNat + 1 else X x.f.toNat
def askOk (X : Nat → Int) (S : Nat → Bool) (x : Edg) : Prop := S x.f.toNat = true → leastE X x = X x.t.toNat → S x.t.toNat = true
theorem all_good {n : Nat} {es : List Edg} {X : Nat → Int} {S : Nat → Bool} (hin : ∀ x ∈ es, 0 ≤ x.f ∧ x.f < n ∧ 0 ≤ x.t ∧ x.t < n) (hX : Least n (lnkT es) (lnkN es) X) (h0 : ∀ i, i < n → X i = 0 → S i = true) (hc : ∀ x ∈ es, askOk X S x) : ∀ i, i < n → S i = true := by
  intro i hi
  cases hS : S i with
  | true => rfl
  | false =>
    have hf : Sol n (lnkT es) (lnkN es) (fun u => if S u then X u else X u - 1) := by
      refine ⟨fun u hu => ?_, fun u v hu hv e => ?_, fun u v hu hv e => ?_⟩
      · have h1 := hX.nn u hu
        cases hs : S u with
        | true => simpa using h1
        | false =>
          have : X u ≠ 0 := fun h => by rw [h0 u hu h] at hs; cases hs
          simp
          omega
      · have h1 := hX.le u v hu hv e
        cases hs : S u with
        | false => cases S v <;> simp <;> omega
        | true =>
          cases ht : S v with
          | true => simpa using h1
          | false =>
            obtain ⟨x, hx, e1, e2⟩ := lnk_edge e
            have hk := hc x hx
            unfold askOk leastE at hk
            rw [e1, e2] at hk
            simp only [Int.toNat_natCast] at hk
            have hne : X u ≠ X v := fun h => by
              cases hg : x.neg with
              | true =>
                have := hX.lt u v hu hv (edge_lnkN hx e1 e2 hg)
                omega
              | false =>
                rw [hg] at hk
                have := hk hs (by simpa using h)
                rw [ht] at this
                cases this
            simp
            omega
      · have h1 := hX.lt u v hu hv e
        cases hs : S u with
        | false => cases S v <;> simp <;> omega
        | true =>
          cases ht : S v with
          | true => simpa using h1
          | false =>
            unfold lnkN at e
            obtain ⟨x, hx, e3⟩ := List.any_eq_true.1 e
            simp only [Bool.and_eq_true] at e3
            unfold isE at e3
            simp only [Bool.and_eq_true, beq_iff_eq] at e3
            have hk := hc x hx
            unfold askOk leastE at hk
            rw [e3.1.1, e3.1.2, e3.2] at hk
            simp only [Int.toNat_natCast, if_true] at hk
            have hne : X u + 1 ≠ X v := fun h => by
              have := hk hs h
              rw [ht] at this
              cases this
            simp
            omega
    have := hX.least _ hf i hi
    rw [hS] at this
    simp at this
    omega

theorem muF_true {g n : Nat} {w : World} {S : Nat → Bool} (h : w.rowIs g 4 n (fun i => .bool (S i))) (b : Bool) : muF g n (.bool b) w = 2 * unsS n S + (if b then 1 else 0) := by
  unfold muF
  rw [unsW_eq h]
  rfl

set_option maxRecDepth 100000 in
set_option maxHeartbeats 4000000 in
theorem ask8_any {w : World} {v : Value} {es : List Edg} {n g : Nat} {X : Nat → Int} (h : Has elEdg w v es) (hin : ∀ x ∈ es, 0 ≤ x.f ∧ x.f < n ∧ 0 ≤ x.t ∧ x.t < n) (hr : w.rowIs g 3 n (fun i => .int .i64 (X i))) (hX : Least n (lnkT es) (lnkN es) X) (hb : ∀ p, p < n → X p ≤ n) (hn : n ≤ 128) :
    Calls Try.prog 32 #[.int .i64 (n : Int), v, .slice (some ⟨g, 0, none⟩) n n] w fun e w' => e = .returned (.bool true) ∧ Below w.heap.size w w' := by
  have hmk := fun W : World => run_make_row' (P := Try.prog) 61 4 (.bool false) 1 Try.underlying61 Try.infoBool rfl .i64 .i64 n (by omega) (by omega) W
  obtain ⟨va, vc, rfl, -, -, hlen⟩ := h.shape
  have HL := hide h
  have HN := hide hin
  have HX : Hid (Least n (lnkT es) (lnkN es) X ∧ ∀ p, p < n → X p ≤ n) := ⟨hX, hb⟩
  have HG := hide hr
  have HR0 : Hid ((w.alloc (.cells (madeCells #[.bool false] n) 4)).rowIs w.heap.size 4 n (fun i => .bool ((fun _ => false : Nat → Bool) i))) := World.rowIs_made w (.bool false) n 4
  have HB0 := hide (belo1 w (.cells (madeCells #[.bool false] n) 4))
  clear h hin hr hX hb
  go_enter Try.func32, Try.ntmps32
  go_wp2
  go_loopw [8] (fun y wl => ∃ (k : Nat) (S : Nat → Bool), k ≤ n ∧ y = .int .i64 (k : Int) ∧ Hid (wl.rowIs w.heap.size 4 n (fun i => .bool (S i))) ∧ Hid (∀ i, i < k → S i = (X i == 0)) ∧ Hid (Below w.heap.size w wl)) (fun y _ => n - (intOf y).toNat)
  case atStart => exact ⟨0, fun _ => false, by omega, rfl, HR0, fun i hi => by omega, HB0⟩
  case round =>
    clear HR0 HB0 hmk
    obtain ⟨k, S, hk, rfl, HR, HS, HB⟩ := hrel
    by_cases hlt : k < n
    · have hi : (k : Int) < (n : Int) := by omega
      have hi0 : (0 : Int) ≤ (k : Int) := by omega
      have y0 := (HG.out.of_block (HB.out.block _ HG.out.lt)).cell hlt
      have y1 := HR.out.cell hlt
      have f1 := HR.out.frozen k
      have HRn : Hid ((wr.setCell ⟨w.heap.size, k, none⟩ (.bool (X k == 0))).rowIs w.heap.size 4 n (fun i => .bool (if i = k then (X k == 0) else S i))) := by
        refine (HR.out.set k _).congr fun i _ => ?_
        split <;> rfl
      have HBn : Hid (Below w.heap.size w (wr.setCell ⟨w.heap.size, k, none⟩ (.bool (X k == 0)))) := HB.out.setCell (Nat.le_refl _) _
      have HSn : Hid (∀ i, i < k + 1 → (if i = k then (X k == 0) else S i) = (X i == 0)) := fun i hi => by
        split
        · rename_i e; rw [e]
        · exact HS.out i (by omega)
      go_wp2
      go_roundw
      case rel => exact ⟨k + 1, _, by omega, by go_num, HRn, HSn, HBn⟩
      case measure => simp [intOf]; omega
    · obtain rfl : k = n := by omega
      have hi : ¬ (k : Int) < (k : Int) := by omega
      have HZ : Hid (∀ i, i < k → X i = 0 → S i = true) := fun i hi h => by rw [HS.out i hi, h]; rfl
      clear HS
      go_wp2
      go_loopw [9] (fun ag wl => ∃ (S : Nat → Bool) (b : Bool), ag = .bool b ∧ Hid (wl.rowIs w.heap.size 4 k (fun i => .bool (S i))) ∧ Hid ((∀ i, i < k → X i = 0 → S i = true) ∧ (b = false → ∀ x ∈ es, askOk X S x)) ∧ Hid (Below w.heap.size w wl)) (fun ag wl => muF w.heap.size k ag wl)
      case atStart => exact ⟨S, true, rfl, HR, ⟨HZ.out, fun h => by cases h⟩, HB⟩
      case round =>
        clear HR HB HZ
        obtain ⟨S0, b0, rfl, HR0, HI0, HB0⟩ := hrel
        cases b0 with
        | false =>
          have HA := hide (all_good HN.out HX.out.1 HI0.out.1 (HI0.out.2 rfl))
          go_wp2
          go_loopw [12] (fun y wl => ∃ j : Nat, j ≤ k ∧ y = .int .i64 (j : Int) ∧ Hid (wl = wr)) (fun y _ => k - (intOf y).toNat)
          case atStart => exact ⟨0, by omega, rfl, rfl⟩
          case round =>
            obtain ⟨j, hj, rfl, HW⟩ := hrel
            have hw := HW.out.symm
            subst hw
            clear HW
            by_cases hjl : j < k
            · have hj1 : (j : Int) < (k : Int) := by omega
              have hj0 : (0 : Int) ≤ (j : Int) := by omega
              have y1 := HR0.out.cell hjl
              rw [HA.out j hjl] at y1
              go_wp2
              go_roundw
              case rel => exact ⟨j + 1, by omega, by go_num, trivial⟩
              case measure => simp [intOf]; omega
            · obtain rfl : j = k := by omega
              have hj1 : ¬ (j : Int) < (j : Int) := by omega
              go_wp2
              go_ret
              exact ⟨rfl, HB0.out⟩
        | true =>
          obtain ⟨N0, hN0⟩ : ∃ N0, unsS k S0 = N0 := ⟨_, rfl⟩
          go_wp2
          have HMu : Hid (muF w.heap.size k (.bool true) wr = 2 * N0 + 1) := by show _ = _; rw [muF_true HR0.out, hN0]; rfl
          have HInv0 : Hid ((∀ i, i < k → X i = 0 → S0 i = true) ∧ (false = false → ∀ x ∈ es.take 0, askOk X S0 x) ∧ (false = true → unsS k S0 < N0) ∧ (false = false → unsS k S0 ≤ N0)) := ⟨HI0.out.1, (fun _ x hx => by simp at hx), (fun h => by cases h), fun _ => by omega⟩
          clear hN0
          go_loopw [9, 10, 11] (fun ag y _ wl => ∃ (i : Nat) (S : Nat → Bool) (b : Bool), i ≤ es.length ∧ y = .int .i64 (i : Int) ∧ ag = .bool b ∧ Hid (wl.rowIs w.heap.size 4 k (fun i => .bool (S i))) ∧ Hid ((∀ i, i < k → X i = 0 → S i = true) ∧ (b = false → ∀ x ∈ es.take i, askOk X S x) ∧ (b = true → unsS k S < N0) ∧ (b = false → unsS k S ≤ N0)) ∧ Hid (Below w.heap.size w wl)) (fun _ y _ _ => es.length - (intOf y).toNat)
          case atStart => exact ⟨0, S0, false, by omega, rfl, rfl, HR0, HInv0, HB0⟩
          case round =>
            clear HR0 HI0 HB0 HInv0
            obtain ⟨i, S, ag, hil, rfl, rfl, HR, HInv, HB⟩ := hrel
            by_cases hlt2 : i < es.length
            · have hi1 : (i : Int) < (es.length : Int) := by omega
              have hi0 : (0 : Int) ≤ (i : Int) := by omega
              obtain ⟨b, off, rfl, -, -, hrow⟩ := HL.out.row (by omega)
              obtain ⟨x, hx⟩ : ∃ x, es[i]? = some x := ⟨_, List.getElem?_eq_getElem hlt2⟩
              have y0 := kept_cell HB.out (hrow i x hx 0 _ rfl)
              have y1 := kept_cell HB.out (hrow i x hx 1 _ rfl)
              have y2 := kept_cell HB.out (hrow i x hx 2 _ rfl)
              simp only [elEdg, Nat.add_zero] at y0 y1 y2
              obtain ⟨q1, q2, q3, q4⟩ := HN.out x (List.mem_of_getElem? hx)
              have HXm := hide hx
              clear hrow hx
              obtain ⟨f, t, neg, r⟩ := x
              obtain ⟨kf, rfl⟩ : ∃ kf : Nat, f = kf := ⟨f.toNat, by dsimp only at q1; omega⟩
              obtain ⟨kt, rfl⟩ : ∃ kt : Nat, t = kt := ⟨t.toNat, by dsimp only at q3; omega⟩
              dsimp only at q1 q2 q3 q4 y0 y1 y2
              have hfk : kf < k := by omega
              have htk : kt < k := by omega
              have l0 := (HG.out.of_block (HB.out.block _ HG.out.lt)).cell hfk
              have l1 := (HG.out.of_block (HB.out.block _ HG.out.lt)).cell htk
              have s0 := HR.out.cell hfk
              have s1 := HR.out.cell htk
              have s1f := HR.out.frozen kt
              have hbf : 0 ≤ X kf ∧ X kf ≤ 128 := ⟨HX.out.1.nn kf hfk, by have := HX.out.2 kf hfk; omega⟩
              have HSnoc := hide (take_snoc8 HXm.out)
              obtain ⟨xf, hxf⟩ : ∃ x, X kf = x := ⟨_, rfl⟩
              obtain ⟨xt, hxt⟩ : ∃ x, X kt = x := ⟨_, rfl⟩
              obtain ⟨cu, hcu⟩ : ∃ x, S kf = x := ⟨_, rfl⟩
              obtain ⟨cv, hcv⟩ : ∃ x, S kt = x := ⟨_, rfl⟩
              rw [hxf] at l0 hbf
              rw [hxt] at l1
              rw [hcu] at s0
              rw [hcv] at s1
              have hbf1 := hbf.1
              have hbf2 := hbf.2
              have HVals : Hid (S kf = cu ∧ S kt = cv ∧ leastE X ⟨kf, kt, neg, r⟩ = (if neg then xf + 1 else xf) ∧ X kt = xt) := ⟨hcu, hcv, by unfold leastE; simp only [Int.toNat_natCast]; rw [hxf], hxt⟩
              clear hcu hcv hxf hxt hbf q1 q2 q3 q4
              have HOk : Hid (((cu && !cv) && ((if neg then xf + 1 else xf) == xt)) = false → (∀ x ∈ es.take i, askOk X S x) → ∀ x ∈ es.take (i + 1), askOk X S x) := fun hb hall x hx => by
                rw [HSnoc.out] at hx
                rcases List.mem_append.1 hx with h4 | h4
                · exact hall x h4
                · simp only [List.mem_singleton] at h4
                  subst h4
                  intro h1 h2
                  simp only [Int.toNat_natCast] at h1 h2 ⊢
                  rw [HVals.out.2.2.1, HVals.out.2.2.2] at h2
                  rw [HVals.out.1] at h1
                  rw [HVals.out.2.1]
                  rw [h1, h2] at hb
                  simpa using hb
              cases neg with
              | true =>
                cases cu with
                | false =>
                  have HInv2 := hide (And.intro HInv.out.1 (And.intro (fun hag => HOk.out (by simp) (HInv.out.2.1 hag)) HInv.out.2.2))
                  go_wp2
                  go_roundw
                  case rel => exact ⟨i + 1, S, ag, by omega, by go_num, rfl, HR, HInv2, HB⟩
                  case measure => simp [intOf]; omega
                | true =>
                  cases cv with
                  | true =>
                    have HInv2 := hide (And.intro HInv.out.1 (And.intro (fun hag => HOk.out (by simp) (HInv.out.2.1 hag)) HInv.out.2.2))
                    go_wp2
                    go_roundw
                    case rel => exact ⟨i + 1, S, ag, by omega, by go_num, rfl, HR, HInv2, HB⟩
                    case measure => simp [intOf]; omega
                  | false =>
                    by_cases hq : xf + 1 = xt
                    · have hq' : ((xf + 1) == xt) = true := by simpa using hq
                      have HRn : Hid ((wr.setCell ⟨w.heap.size, kt, none⟩ (.bool true)).rowIs w.heap.size 4 k (fun i => .bool (updB S kt i))) := by
                        refine (HR.out.set kt _).congr fun i _ => ?_
                        unfold updB
                        split <;> simp_all
                      have HBn : Hid (Below w.heap.size w (wr.setCell ⟨w.heap.size, kt, none⟩ (.bool true))) := HB.out.setCell (Nat.le_refl _) _
                      have HInv2 : Hid ((∀ i, i < k → X i = 0 → updB S kt i = true) ∧ (true = false → ∀ x ∈ es.take (i + 1), askOk X (updB S kt) x) ∧ (true = true → unsS k (updB S kt) < N0) ∧ (true = false → unsS k (updB S kt) ≤ N0)) := by
                        have h1 := unsS_upd htk HVals.out.2.1
                        refine ⟨fun j hj h0 => ?_, (fun h => by cases h), fun _ => ?_, (fun h => by cases h)⟩
                        · unfold updB; split
                          · rfl
                          · exact HInv.out.1 j hj h0
                        · cases hag : ag with
                          | true => have := HInv.out.2.2.1 hag; omega
                          | false => have := HInv.out.2.2.2 hag; omega
                      clear hq
                      go_wp2
                      go_roundw
                      case rel => exact ⟨i + 1, updB S kt, true, by omega, by go_num, rfl, HRn, HInv2, HBn⟩
                      case measure => simp [intOf]; omega
                    · have hq' : ((xf + 1) == xt) = false := by simpa using hq
                      have HInv2 := hide (And.intro HInv.out.1 (And.intro (fun hag => HOk.out (by simpa using hq) (HInv.out.2.1 hag)) HInv.out.2.2))
                      clear hq
                      go_wp2
                      go_roundw
                      case rel => exact ⟨i + 1, S, ag, by omega, by go_num, rfl, HR, HInv2, HB⟩
                      case measure => simp [intOf]; omega
              | false =>
                cases cu with
                | false =>
                  have HInv2 := hide (And.intro HInv.out.1 (And.intro (fun hag => HOk.out (by simp) (HInv.out.2.1 hag)) HInv.out.2.2))
                  go_wp2
                  go_roundw
                  case rel => exact ⟨i + 1, S, ag, by omega, by go_num, rfl, HR, HInv2, HB⟩
                  case measure => simp [intOf]; omega
                | true =>
                  cases cv with
                  | true =>
                    have HInv2 := hide (And.intro HInv.out.1 (And.intro (fun hag => HOk.out (by simp) (HInv.out.2.1 hag)) HInv.out.2.2))
                    go_wp2
                    go_roundw
                    case rel => exact ⟨i + 1, S, ag, by omega, by go_num, rfl, HR, HInv2, HB⟩
                    case measure => simp [intOf]; omega
                  | false =>
                    by_cases hq : xf = xt
                    · have hq' : ((xf) == xt) = true := by simpa using hq
                      have HRn : Hid ((wr.setCell ⟨w.heap.size, kt, none⟩ (.bool true)).rowIs w.heap.size 4 k (fun i => .bool (updB S kt i))) := by
                        refine (HR.out.set kt _).congr fun i _ => ?_
                        unfold updB
                        split <;> simp_all
                      have HBn : Hid (Below w.heap.size w (wr.setCell ⟨w.heap.size, kt, none⟩ (.bool true))) := HB.out.setCell (Nat.le_refl _) _
                      have HInv2 : Hid ((∀ i, i < k → X i = 0 → updB S kt i = true) ∧ (true = false → ∀ x ∈ es.take (i + 1), askOk X (updB S kt) x) ∧ (true = true → unsS k (updB S kt) < N0) ∧ (true = false → unsS k (updB S kt) ≤ N0)) := by
                        have h1 := unsS_upd htk HVals.out.2.1
                        refine ⟨fun j hj h0 => ?_, (fun h => by cases h), fun _ => ?_, (fun h => by cases h)⟩
                        · unfold updB; split
                          · rfl
                          · exact HInv.out.1 j hj h0
                        · cases hag : ag with
                          | true => have := HInv.out.2.2.1 hag; omega
                          | false => have := HInv.out.2.2.2 hag; omega
                      clear hq
                      go_wp2
                      go_roundw
                      case rel => exact ⟨i + 1, updB S kt, true, by omega, by go_num, rfl, HRn, HInv2, HBn⟩
                      case measure => simp [intOf]; omega
                    · have hq' : ((xf) == xt) = false := by simpa using hq
                      have HInv2 := hide (And.intro HInv.out.1 (And.intro (fun hag => HOk.out (by simpa using hq) (HInv.out.2.1 hag)) HInv.out.2.2))
                      clear hq
                      go_wp2
                      go_roundw
                      case rel => exact ⟨i + 1, S, ag, by omega, by go_num, rfl, HR, HInv2, HB⟩
                      case measure => simp [intOf]; omega
            · obtain rfl : i = es.length := by omega
              have hi1 : ¬ (es.length : Int) < (es.length : Int) := by omega
              rw [List.take_of_length_le (Nat.le_refl _)] at HInv
              go_wp2
              refine ⟨⟨S, ag, rfl, HR, ⟨HInv.out.1, HInv.out.2.1⟩, HB⟩, ?_⟩
              rw [HMu.out, muF_true HR.out]
              cases ag with
              | true => have := HInv.out.2.2.1 rfl; simp; omega
              | false => have := HInv.out.2.2.2 rfl; simp; omega
end Go.Proofs.Ytmbkjgfnnpopgaa

namespace Go.Proofs.Ytmbkjgfnnpopgaa
set_option linter.unusedSimpArgs false
set_option linter.unusedVariables false
open Go.RowKit Go.Maps

set_option maxRecDepth 100000 in
set_option maxHeartbeats 4000000 in
theorem map8_any {w : World} {v : Value} {es : List Edg} {n g : Nat} {X : Nat → Int} (h : Has elEdg w v es) (hin : ∀ x ∈ es, 0 ≤ x.f ∧ x.f < n ∧ 0 ≤ x.t ∧ x.t < n) (hr : w.rowIs g 3 n (fun i => .int .i64 (X i))) (hX : Sol n (lnkT es) (lnkN es) X) (hn : n ≤ 128) :
    Calls Try.prog 31 #[v, .slice (some ⟨g, 0, none⟩) n n] w fun e w' => e = .returned (.bool true) ∧ Below w.heap.size w w' := by
  obtain ⟨va, vc, rfl, -, -, hlen⟩ := h.shape
  have HL := hide h
  have HN := hide hin
  have HX := hide hX
  have HG := hide hr
  clear h hin hr hX
  go_enter Try.func31, Try.ntmps31
  go_wp2
  go_loopw [5] (fun y wl => ∃ k : Nat, k ≤ n ∧ y = .int .i64 (k : Int) ∧ Hid (Below w.heap.size w wl)) (fun y _ => n - (intOf y).toNat)
  case atStart => exact ⟨0, by omega, rfl, Below.refl _ _⟩
  case round =>
    obtain ⟨k, hk, rfl, HB⟩ := hrel
    by_cases hlt : k < n
    · have hi : (k : Int) < (n : Int) := by omega
      have hi0 : (0 : Int) ≤ (k : Int) := by omega
      have y0 := (HG.out.of_block (HB.out.block _ HG.out.lt)).cell hlt
      have hx0 : ¬ X k < 0 := by have := HX.out.nn k hlt; omega
      go_wp2
      go_roundw
      case rel => exact ⟨k + 1, by omega, by go_num, HB⟩
      case measure => simp [intOf]; omega
    · obtain rfl : k = n := by omega
      have hi : ¬ (k : Int) < (k : Int) := by omega
      go_wp2
      go_loopw [6] (fun y wl => ∃ i : Nat, i ≤ es.length ∧ y = .int .i64 (i : Int) ∧ Hid (Below w.heap.size w wl)) (fun y _ => es.length - (intOf y).toNat)
      case atStart => exact ⟨0, by omega, rfl, HB⟩
      case round =>
        clear HB
        obtain ⟨i, hil, rfl, HB⟩ := hrel
        by_cases hlt2 : i < es.length
        · have hi1 : (i : Int) < (es.length : Int) := by omega
          have hi0 : (0 : Int) ≤ (i : Int) := by omega
          obtain ⟨b, off, rfl, -, -, hrow⟩ := HL.out.row (by omega)
          obtain ⟨x, hx⟩ : ∃ x, es[i]? = some x := ⟨_, List.getElem?_eq_getElem hlt2⟩
          have y0 := kept_cell HB.out (hrow i x hx 0 _ rfl)
          have y1 := kept_cell HB.out (hrow i x hx 1 _ rfl)
          have y2 := kept_cell HB.out (hrow i x hx 2 _ rfl)
          simp only [elEdg, Nat.add_zero] at y0 y1 y2
          obtain ⟨q1, q2, q3, q4⟩ := HN.out x (List.mem_of_getElem? hx)
          have HXm := hide (List.mem_of_getElem? hx)
          clear hrow hx
          obtain ⟨f, t, neg, r⟩ := x
          obtain ⟨kf, rfl⟩ : ∃ kf : Nat, f = kf := ⟨f.toNat, by dsimp only at q1; omega⟩
          obtain ⟨kt, rfl⟩ : ∃ kt : Nat, t = kt := ⟨t.toNat, by dsimp only at q3; omega⟩
          dsimp only at q1 q2 q3 q4 y0 y1 y2
          have hfk : kf < k := by omega
          have htk : kt < k := by omega
          have l0 := (HG.out.of_block (HB.out.block _ HG.out.lt)).cell hfk
          have l1 := (HG.out.of_block (HB.out.block _ HG.out.lt)).cell htk
          have hle := HX.out.le kf kt hfk htk (edge_lnk HXm.out rfl rfl)
          have hlt3 : neg = true → X kf < X kt := fun hg => HX.out.lt kf kt hfk htk (edge_lnkN HXm.out rfl rfl hg)
          obtain ⟨xf, hxf⟩ : ∃ x, X kf = x := ⟨_, rfl⟩
          obtain ⟨xt, hxt⟩ : ∃ x, X kt = x := ⟨_, rfl⟩
          rw [hxf] at l0 hle hlt3
          rw [hxt] at l1 hle hlt3
          clear hxf hxt
          have hn1 : decide (xt < xf) = false := by simpa using hle
          cases neg with
          | true =>
            have hn2 : (xt == xf) = false := by have := hlt3 rfl; simp; omega
            clear hlt3 hle
            go_wp2
            go_quiet (fail)
            go_wp2
            go_roundw
            case rel => exact ⟨i + 1, by omega, by go_num, ⟨HB.out.os, HB.out.tape, HB.out.output, HB.out.size, HB.out.block⟩⟩
            case measure => simp [intOf]; omega
          | false =>
            clear hlt3 hle
            go_wp2
            go_quiet (fail)
            go_wp2
            go_roundw
            case rel => exact ⟨i + 1, by omega, by go_num, ⟨HB.out.os, HB.out.tape, HB.out.output, HB.out.size, HB.out.block⟩⟩
            case measure => simp [intOf]; omega
        · obtain rfl : i = es.length := by omega
          have hi1 : ¬ (es.length : Int) < (es.length : Int) := by omega
          go_wp2
          go_ret
          exact ⟨rfl, HB.out⟩
end Go.Proofs.Ytmbkjgfnnpopgaa

namespace Go.Proofs.Ytmbkjgfnnpopgaa
set_option linter.unusedSimpArgs false
set_option linter.unusedVariables false
open Go.RowKit Go.Maps

theorem cyc_in {n : Int} {es : List Edg} {L : List Int} (h : cyclicP n es L = true) : (∀ x ∈ L, ∃ k : Nat, x = k ∧ k < es.length) ∧ ∀ i, i < L.length → nextOk es L i = true := by
  unfold cyclicP at h
  simp only [Bool.and_eq_true, Bool.not_eq_true'] at h
  obtain ⟨hf, hl, ho, hc, hn⟩ := h
  rw [cyc_next] at hc
  rw [List.all_eq_true] at hc
  rw [List.any_eq_false] at ho
  exact ⟨fun x hx => outN_false (by simpa using ho x hx), fun i hi => hc i (List.mem_range.2 hi)⟩

theorem neg_find {α : Type} {p : α → Bool} {l : List α} (h : ¬ 0 ≤ findI p l) : findI p l = -1 := by
  unfold findI at h ⊢
  cases hh : l.findIdx? p with
  | none => rfl
  | some k => rw [hh] at h; exact absurd (Int.natCast_nonneg k) h

set_option maxRecDepth 100000 in
set_option maxHeartbeats 4000000 in
theorem strataLeast_walk (n : Int) (v : Value) (es : List Edg) (w : World) (hn : I64 n) (h : Has elEdg w v es) (hes : es.length ≤ 1048576) :
    Calls Try.prog 7 #[.int .i64 n, v] w fun e w' => e = .returned (.bool true) ∧ Below w.heap.size w w' := by
  obtain ⟨va, vc, rfl, -, -, hlen⟩ := h.shape
  have HF := hide (lfit_any h n)
  have HL : Hid (∀ V : World, Below w.heap.size w V → Has elEdg V (.slice va es.length vc) es) := fun V hV => h.kept hV
  have HE1 : Hid (∀ V : World, Below w.heap.size w V → Calls Try.prog 15 #[.slice va es.length vc] V fun e w' => ∃ v', e = .returned v' ∧ Grow elEdg 39 V.heap.size w' v' es ∧ Below V.heap.size V w') := fun V hV => edges_any (h.kept hV)
  clear h
  cases hf : fitP n es with
  | false =>
    rw [hf] at HF
    go_enter Try.func7, Try.ntmps7
    go_wp2_with (go_at_call 24; refine HF.out.mono ?_; rintro e w1 ⟨rfl, b1⟩; have HB1 := hide b1; clear b1)
    go_ret
    exact ⟨rfl, HB1.out⟩
  | true =>
    rw [hf] at HF
    obtain ⟨⟨hk0, hk1⟩, hin⟩ := fit_in8 hf
    obtain ⟨k, rfl⟩ : ∃ k : Nat, n = k := ⟨n.toNat, by omega⟩
    have hk : k ≤ 128 := by omega
    have HFt := hide hf
    have HIn := hide hin
    clear hf hk0 hk1 hn hin
    rcases Classical.em (HasBad k es) with hb | hb
    · have HBd := hide hb
      clear hb
      go_enter Try.func7, Try.ntmps7
      go_wp2_with (first
        | (go_at_call 24; refine HF.out.mono ?_; rintro e V ⟨rfl, b1⟩; have HBx := hide b1; clear b1 HF)
        | (go_at_call 15; (with_reducible refine (HE1.out _ HBx.out).mono ?_); rintro e V ⟨g1, rfl, hg1, b1⟩; obtain ⟨ga1, gc1, rfl, -, -⟩ := hg1.shape; have HGe := hide (hg1.list hlen); replace HBx := hide (HBx.out.trans (b1.mono HBx.out.size)); (try replace HBv := hide (HBv.out.trans (b1.mono HBv.out.size))); clear hg1 b1)
        | (go_at_call 22; (with_reducible refine (levels_bad HGe.out HFt.out HBd.out).mono ?_); rintro e V ⟨rfl, b3⟩; replace HBx := hide (HBx.out.trans (b3.mono HBx.out.size)); clear b3 HGe)
        | (go_at_call 29; (with_reducible refine (bad_fit HGe.out HFt.out).mono ?_); rintro e V ⟨H, h1, rfl, b3⟩; obtain ⟨bd, hbd⟩ : ∃ bd, findI (badE H) es = bd := ⟨_, rfl⟩; have HFi := hide (And.intro h1 hbd); rw [hbd]; replace HBx := hide (HBx.out.trans (b3.mono HBx.out.size)); clear b3 HGe h1 hbd)
        | (go_at_call 30; (with_reducible refine (cycle_bad HGe.out HFt.out HBd.out).mono ?_); rintro e V2 ⟨H2, wv, m, x, W, hH, rfl, hgw, ⟨hm1, hm2, hm3, hm4, hm5⟩, b3⟩; have hbm : bd = (m : Int) := (by rw [← HFi.out.2, bad_uniq HIn.out (home_uniq HFi.out.1 hH), hm1]); subst hbm; have hcy := cycle_is HFt.out hm2 hm3 hm4; obtain ⟨L, hL⟩ : ∃ L, L = (m : Int) :: W := ⟨_, rfl⟩; have HLk := hide (show L[0]? = some (m : Int) by rw [hL]; rfl); rw [← hL] at hgw hcy; have hlp : 0 < L.length := (by rw [hL]; simp); have hll : L.length < 1073741824 := (by rw [hL]; simp; omega); have HCy := hide hcy; have HWl := hide (hgw.list hll); have HMx := hide (And.intro hm2 hm3); have hmes := (List.getElem?_eq_some_iff.1 hm2).1; obtain ⟨ra, rc, rfl, -, -⟩ := hgw.shape; replace HBx := hide (HBx.out.trans (b3.mono HBx.out.size)); have HBv := hide (Below.refl V2.heap.size V2); obtain ⟨wb, wo, rfl, -, -, wrow⟩ := HWl.out.row hlp; have y0 := wrow 0 _ HLk.out 0 _ rfl; simp only [elInt, Nat.add_zero, Nat.mul_one] at y0; have hl0 : ¬ L.length = 0 := (by omega); have hl1 : ((L.length : Int) == 0) = false := beq_eq_false_iff_ne.2 (by omega); have hl2 : (0 : Int) < (L.length : Int) := (by omega); have hl3 : (L.length == 0) = false := beq_eq_false_iff_ne.2 (by omega); have hcm : ((m : Int) != (m : Int)) = false := (by simp); clear wrow; clear hH hgw hm1 hm2 hm3 hm4 hm5 hcy hL b3 HGe HFi))
      go_wp2
      have HUs : Hid (∀ V : World, Below V2.heap.size V2 V → Has elInt V (.slice (some ⟨wb, wo, none⟩) L.length rc) L) := fun V hV => HWl.out.kept hV
      have HId := hide (cyc_in HCy.out)
      clear y0 HWl hcm hl1 hl3
      go_loopw [11] (fun y wl => ∃ i : Nat, i ≤ L.length ∧ y = .int .i64 (i : Int) ∧ Hid (Below V2.heap.size V2 wl) ∧ Hid (Below w.heap.size w wl)) (fun y _ => L.length - (intOf y).toNat)
      case atStart => exact ⟨0, by omega, rfl, HBv, HBx⟩
      case round =>
        clear HBv HBx
        obtain ⟨i, hi, rfl, HBv, HBx⟩ := hrel
        by_cases hlt : i < L.length
        · have hi1 : (i : Int) < (L.length : Int) := by omega
          have hi0 : (0 : Int) ≤ (i : Int) := by omega
          obtain ⟨x1, hx1⟩ : ∃ x, L[i]? = some x := ⟨_, List.getElem?_eq_getElem hlt⟩
          obtain ⟨j, rfl, hj⟩ := HId.out.1 x1 (List.mem_of_getElem? hx1)
          obtain ⟨b9, o9, e9, -, -, urow⟩ := (HUs.out _ HBv.out).row hlp
          cases e9
          have y0 := urow i _ hx1 0 _ rfl
          simp only [elInt, Nat.add_zero, Nat.mul_one] at y0
          have q1 : decide ((j : Int) < 0) = false := by simp
          have q2 : decide ((es.length : Int) ≤ (j : Int)) = false := by simpa using hj
          have q3 : decide (es.length ≤ j) = false := by simpa using hj
          clear urow hx1 hj
          go_wp2
          go_roundw
          case rel => exact ⟨i + 1, by omega, by go_num, HBv, HBx⟩
          case measure => simp [intOf]; omega
        · obtain rfl : i = L.length := by omega
          have hi1 : ¬ (L.length : Int) < (L.length : Int) := by omega
          go_wp2
          go_loopw [12] (fun y wl => ∃ i : Nat, i ≤ L.length ∧ y = .int .i64 (i : Int) ∧ Hid (Below V2.heap.size V2 wl) ∧ Hid (Below w.heap.size w wl)) (fun y _ => L.length - (intOf y).toNat)
          case atStart => exact ⟨0, by omega, rfl, HBv, HBx⟩
          case round =>
            clear HBv HBx
            obtain ⟨i, hi, rfl, HBv, HBx⟩ := hrel
            by_cases hlt2 : i < L.length
            · have hi2 : (i : Int) < (L.length : Int) := by omega
              have hi0 : (0 : Int) ≤ (i : Int) := by omega
              have HNx : Hid (nxt L.length i = (i + 1) % L.length) := by
                show _ = _
                unfold nxt
                split
                · rename_i hh
                  rw [hh, Nat.mod_self]
                · rw [Nat.mod_eq_of_lt (by omega)]
              have hnx : (i + 1) % L.length < L.length := Nat.mod_lt _ hlp
              have hr1 : ((i : Int) + 1) % (L.length : Int) < (L.length : Int) := Int.emod_lt_of_pos _ (by omega)
              have hr0 : 0 ≤ ((i : Int) + 1) % (L.length : Int) := Int.emod_nonneg _ (by omega)
              obtain ⟨b9, o9, e9, -, -, urow⟩ := (HUs.out _ HBv.out).row hlp
              cases e9
              obtain ⟨x1, hx⟩ : ∃ x, L[i]? = some x := ⟨_, List.getElem?_eq_getElem hlt2⟩
              obtain ⟨y1, hy⟩ : ∃ x, L[(i + 1) % L.length]? = some x := ⟨_, List.getElem?_eq_getElem hnx⟩
              obtain ⟨mx, rfl, hmx⟩ := HId.out.1 x1 (List.mem_of_getElem? hx)
              obtain ⟨my, rfl, hmy⟩ := HId.out.1 y1 (List.mem_of_getElem? hy)
              obtain ⟨eb, eo, rfl, -, -, erow⟩ := (HL.out _ HBx.out).row (by omega)
              obtain ⟨ex, hex⟩ : ∃ x, es[mx]? = some x := ⟨_, List.getElem?_eq_getElem hmx⟩
              obtain ⟨ey, hey⟩ : ∃ x, es[my]? = some x := ⟨_, List.getElem?_eq_getElem hmy⟩
              have u0 := over_cell (urow i _ hx 0 _ rfl)
              have u1 := over_cell (urow ((i + 1) % L.length) _ hy 0 _ rfl)
              have v0 := over_cell (erow mx _ hex 1 _ rfl)
              have v1 := over_cell (erow my _ hey 0 _ rfl)
              simp only [elInt, elEdg, Nat.add_zero, Nat.mul_one] at u0 u1 v0 v1
              have hmx' : (mx : Int) < (es.length : Int) := by omega
              have hmy' : (my : Int) < (es.length : Int) := by omega
              have hmx0 : (0 : Int) ≤ (mx : Int) := by omega
              have hmy0 : (0 : Int) ≤ (my : Int) := by omega
              have hq := HId.out.2 i hlt2
              unfold nextOk at hq
              rw [HNx.out, wk_at hx, wk_at hy, ed_at hex, ed_at hey] at hq
              have hne : (ex.t != ey.f) = false := by unfold bne; rw [hq]; rfl
              clear urow erow hx hy hex hey hmx hmy hnx hq
              go_wp2
              refine wp_region_over (fun W => W = wr) (by kernel_rfl) (by kernel_rfl) rfl ?_
              rintro W rfl
              repeat (go_big_quiet_step (first | fail))
              refine wpQuiet_nil ?_
              rintro _ ⟨z, rfl⟩
              have HBz := hide (HBx.out.trans ((over_below W z).mono HBx.out.size))
              have HBu := hide (HBv.out.trans ((over_below W z).mono HBv.out.size))
              go_wp2
              go_roundw
              case rel => exact ⟨i + 1, by omega, by go_num, HBu, HBz⟩
              case measure => simp [intOf]; omega
            · obtain rfl : i = L.length := by omega
              have hi2 : ¬ (L.length : Int) < (L.length : Int) := by omega
              obtain ⟨eb, eo, rfl, -, -, erow⟩ := (HL.out _ HBx.out).row (by omega)
              have z2 := erow m _ HMx.out.1 2 _ rfl
              simp only [elEdg] at z2
              have hxn : x.neg = true := by have hb := HMx.out.2; unfold badE at hb; simp only [Bool.and_eq_true] at hb; exact hb.1
              rw [hxn] at z2
              have hme : (m : Int) < (es.length : Int) := by omega
              have hme0 : (0 : Int) ≤ (m : Int) := by omega
              clear erow hxn
              go_wp2_with (first
                | (go_at_call 15; (with_reducible refine (HE1.out _ HBx.out).mono ?_); rintro e V ⟨g1, rfl, hg1, b1⟩; obtain ⟨ga1, gc1, rfl, -, -⟩ := hg1.shape; have HGe := hide (hg1.list hlen); replace HBx := hide (HBx.out.trans (b1.mono HBx.out.size)); (try replace HBv := hide (HBv.out.trans (b1.mono HBv.out.size))); clear hg1 b1)
                | (go_at_call 28; (with_reducible refine (ints_any (HUs.out _ HBv.out)).mono ?_); rintro e V ⟨g2, rfl, hg2, b2⟩; obtain ⟨gi, gj, rfl, -, -⟩ := hg2.shape; have HGi := hide (hg2.list hll); have HGk := hide (HGe.out.kept b2); replace HBx := hide (HBx.out.trans (b2.mono HBx.out.size)); clear hg2 b2)
                | (go_at_call 25; (with_reducible refine (cyclic_any HGk.out HGi.out (k : Int)).mono ?_); rw [HCy.out]; rintro e V ⟨rfl, b3⟩; replace HBx := hide (HBx.out.trans (b3.mono HBx.out.size)); clear b3))
              go_ret
              exact ⟨rfl, HBx.out⟩
    · have HBd := hide hb
      clear hb
      go_enter Try.func7, Try.ntmps7
      go_wp2_with (first
        | (go_at_call 24; refine HF.out.mono ?_; rintro e V ⟨rfl, b1⟩; have HBx := hide b1; clear b1 HF)
        | (go_at_call 15; (with_reducible refine (HE1.out _ HBx.out).mono ?_); rintro e V ⟨g1, rfl, hg1, b1⟩; obtain ⟨ga1, gc1, rfl, -, -⟩ := hg1.shape; have HGe := hide (hg1.list hlen); replace HBx := hide (HBx.out.trans (b1.mono HBx.out.size)); (try replace HBv := hide (HBv.out.trans (b1.mono HBv.out.size))); clear hg1 b1)
        | (go_at_call 22; (with_reducible refine (levels_good HGe.out HFt.out HBd.out).mono ?_); rintro e V1 ⟨r1, X, rfl, hr, hl, b3⟩; have HR1 := hide hr; have HX1 := hide hl; have HBv := hide (Below.refl V1.heap.size V1); replace HBx := hide (HBx.out.trans (b3.mono HBx.out.size)); have HIv : Hid (∀ V : World, Below V1.heap.size V1 V → Has elInt V (.slice (some ⟨r1, 0, none⟩) k k) ((List.range k).map X)) := (fun V hV => (row_has hr (fun i hi => ⟨by have := hl.1.nn i hi; omega, by have := hl.2 i hi; omega⟩) hk).kept hV); have HHo := hide (holds_yes HFt.out hl.1.toSol); clear b3 hr hl HGe)
        | (go_at_call 29; (with_reducible refine (bad_fit HGe.out HFt.out).mono ?_); rintro e V ⟨H, h1, rfl, b3⟩; have hbd : findI (badE H) es = -1 := neg_find (fun hc => HBd.out ((bad_iff HIn.out h1).1 hc)); rw [hbd]; replace HBx := hide (HBx.out.trans (b3.mono HBx.out.size)); (try replace HBv := hide (HBv.out.trans (b3.mono HBv.out.size))); clear b3 HGe h1 hbd)
        | (go_at_call 30; (with_reducible refine (cycle_good HGe.out HFt.out HBd.out).mono ?_); rintro e V ⟨rfl, b3⟩; replace HBx := hide (HBx.out.trans (b3.mono HBx.out.size)); (try replace HBv := hide (HBv.out.trans (b3.mono HBv.out.size))); clear b3 HGe)
        | (go_at_call 31; (with_reducible refine (map8_any (HL.out _ HBx.out) HIn.out (HR1.out.of_block (HBv.out.block _ HR1.out.lt)) HX1.out.1.toSol hk).mono ?_); rintro e V ⟨rfl, b3⟩; replace HBx := hide (HBx.out.trans (b3.mono HBx.out.size)); (try replace HBv := hide (HBv.out.trans (b3.mono HBv.out.size))); clear b3)
        | (go_at_call 32; (with_reducible refine (ask8_any (HL.out _ HBx.out) HIn.out (HR1.out.of_block (HBv.out.block _ HR1.out.lt)) HX1.out.1 HX1.out.2 hk).mono ?_); rintro e V ⟨rfl, b3⟩; replace HBx := hide (HBx.out.trans (b3.mono HBx.out.size)); (try replace HBv := hide (HBv.out.trans (b3.mono HBv.out.size))); clear b3)
        | (go_at_call 28; (with_reducible refine (ints_any (HIv.out _ HBv.out)).mono ?_); rintro e V ⟨g2, rfl, hg2, b2⟩; obtain ⟨gi, gj, e3, -, -⟩ := hg2.shape; simp only [List.length_map, List.length_range] at e3; subst e3; have HGi := hide (hg2.list (by simp; omega)); have HGk := hide (HGe.out.kept b2); replace HBx := hide (HBx.out.trans (b2.mono HBx.out.size)); (try replace HBv := hide (HBv.out.trans (b2.mono HBv.out.size))); clear hg2 b2)
        | (go_at_call 27; (with_reducible refine (holds_any HGk.out HGi.out (k : Int)).mono ?_); rw [HHo.out]; rintro e V ⟨rfl, b3⟩; replace HBx := hide (HBx.out.trans (b3.mono HBx.out.size)); (try replace HBv := hide (HBv.out.trans (b3.mono HBv.out.size))); clear b3))
      go_ret
      exact ⟨rfl, HBx.out⟩
end Go.Proofs.Ytmbkjgfnnpopgaa
