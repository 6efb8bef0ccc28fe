/- What core's lacks, termsOf, copyOf answer, and slices.IndexFunc of terms with lacks. -/
import Derived.Test.YthbfkbkcfcpibaaRefVars
import Derived.Test.YthbfkbkcfcpibaaCopyWide
import Derived.Laws.MakeOwn
namespace Go.Proofs.Ythbfkbkcfcpibaa
set_option linter.unusedSimpArgs false
set_option linter.unusedVariables false
open Go.RowKit Go.Maps

theorem Lst.src {α : Type} {E : El α} {w : World} {F : Nat → Prop} {ao : Option Addr} {n cap : Nat} {l : List α} (h : Lst E w F (.slice ao n cap) l) : ∀ ad, ao = some ad → ∀ j u, (l.flatMap E.cells)[j]? = some u → w.cell? (ad.add j) = some u := by
  intro ad had j u hu
  have hj := (List.getElem?_eq_some_iff.1 hu).1
  rw [flatE_len] at hj
  have hpos := E.pos
  have hi : j / E.size < l.length := Nat.div_lt_of_lt_mul (by rw [Nat.mul_comm]; exact hj)
  obtain ⟨b, off, e, _, _, hrow⟩ := h.row (Nat.lt_of_le_of_lt (Nat.zero_le _) hi)
  rw [had] at e
  cases e
  obtain ⟨x, hx⟩ : ∃ x, l[j / E.size]? = some x := ⟨_, List.getElem?_eq_getElem hi⟩
  have hr : j % E.size < E.size := Nat.mod_lt _ hpos
  have hsplit : j / E.size * E.size + j % E.size = j := by rw [Nat.mul_comm]; exact Nat.div_add_mod j E.size
  have h2 := flatE_at E l (j / E.size) (j % E.size) x hx hr
  rw [hsplit, hu] at h2
  have h3 := hrow (j / E.size) x hx (j % E.size) u h2.symm
  rw [addr_add]
  rw [show off + j / E.size * E.size + j % E.size = off + j by omega] at h3
  exact h3

set_option maxHeartbeats 1000000 in
theorem lacks_any {B : Nat} {w : World} {p m n : Nat} {v : Value} {L : List ByteArray} (h : VarsAt B w p m n v L) {t : Trm} (ht : t.ok) :
    Calls Try.prog 38 #[.pointer (some ⟨p, 0, none⟩), t.val] w fun e w' => e = .returned (.bool (looseP L t)) ∧ Below w.heap.size w w' := by
  obtain ⟨tk, tn, ts, tq⟩ := t
  unfold Trm.val
  have hs : ts.size ≤ 140737488351232 := ht.1.2.2
  have hb := belo1 w (.cells #[.int .i64 tk, .int .i64 tn, .string ts, .int .i64 tq] 66)
  obtain ⟨Y, hY⟩ : ∃ Y, Y = w.alloc (.cells #[.int .i64 tk, .int .i64 tn, .string ts, .int .i64 tq] 66) := ⟨_, rfl⟩
  rw [← hY] at hb
  have hk := h.kept hb
  have c1 := over_cell hk.c1
  have t2 : ∀ x, (over Y x).cell? ⟨w.heap.size, 2, none⟩ = some (.string ts) := over_cell (by rw [hY]; simp)
  have t0 : ∀ x, (over Y x).cell? ⟨w.heap.size, 0, none⟩ = some (.int .i64 tk) := over_cell (by rw [hY]; simp)
  obtain ⟨V, hV, hkk⟩ := hk.map
  have hrun : ∀ x, (Instr.lookup 82 (.map (some m)) (.string ts) true).run Try.prog (over Y x) = .ok (.tuple #[(V (strL ts)).getD (.int .i64 0), .bool (V (strL ts)).isSome]) (over Y x) := fun x =>
    (hV.same ((over_below Y x).block _ hV.lt)).look_ok (t := 82) lawStr7 Try.underlying82 (zeroInt7 _) (keyOf_str7 hs)
  have hh := (hkk ts).1
  have HE : Hid (looseP L ⟨tk, tn, ts, tq⟩ = (tk == 4 && !(V (strL ts)).isSome)) := by
    show _ = _
    rw [hh]
    unfold looseP
    dsimp only
    cases isB ts <;> cases inL L ts <;> rfl
  generalize (V (strL ts)).isSome = is at *
  generalize (V (strL ts)).getD (.int .i64 0) = u at *
  have HB := hide hb
  clear h hb ht hs hk hV hkk hh
  go_enter Try.func38, Try.ntmps38
  go_wp2
  rw [← hY]
  clear hY
  refine wp_region_over (fun W => W = Y) (by kernel_rfl) (by kernel_rfl) rfl ?_
  rintro W rfl
  repeat (go_big_quiet_step (first | fail))
  refine wpQuiet_nil ?_
  rintro _ ⟨z, rfl⟩
  cases hk4 : (tk == 4) with
  | false =>
    rw [hk4] at HE
    go_wp2
    go_ret
    exact ⟨by rw [HE.out]; rfl, HB.out.trans ((over_below W z).mono HB.out.size)⟩
  | true =>
    rw [hk4] at HE
    go_wp2
    go_ret
    exact ⟨by rw [HE.out]; rfl, HB.out.trans ((over_below W z).mono HB.out.size)⟩

def findP (L : List ByteArray) (ts : List Trm) : Option Trm := ts.find? (looseP L)

set_option maxHeartbeats 1000000 in
theorem index_any {B : Nat} {w : World} {p m n : Nat} {v : Value} {L : List ByteArray} (h : VarsAt B w p m n v L) {tv : Value} {ts : List Trm} (ht : Has elTrm w tv ts) :
    Calls Try.prog 37 #[tv, .func (.func 38) #[.pointer (some ⟨p, 0, none⟩)] #[]] w fun e w' => (∃ r : Int, e = .returned (.int .i64 r) ∧ ((r = -1 ∧ findP L ts = none) ∨ ∃ (k : Nat) (t : Trm), r = k ∧ ts[k]? = some t ∧ findP L ts = some t)) ∧ Below w.heap.size w w' := by
  obtain ⟨ta, tc, rfl, -, -, hlen⟩ := ht.shape
  have HV := hide h
  have HT := hide ht
  clear h ht
  go_enter Try.func37, Try.ntmps37
  go_wp2
  go_loopw [5, 8] (fun _ i wl => ∃ k : Nat, k ≤ ts.length ∧ i = .int .i64 k ∧ Hid (findP L (ts.take k) = none) ∧ Hid (Below w.heap.size w wl)) (fun _ i _ => ts.length - (intOf i).toNat)
  case atStart => exact ⟨0, by omega, rfl, by show findP L (ts.take 0) = none; simp [findP], Below.refl _ _⟩
  case round =>
    obtain ⟨k, hk, rfl, HK, HB⟩ := hrel
    by_cases hlt : k < ts.length
    · have hi : (k : Int) < (ts.length : Int) := by omega
      have hi0 : (0 : Int) ≤ (k : Int) := by omega
      obtain ⟨b, off, rfl, -, -, hrow⟩ := HT.out.row (by omega)
      obtain ⟨t, hx⟩ : ∃ t, ts[k]? = some t := ⟨_, List.getElem?_eq_getElem hlt⟩
      have y0 := kept_cell HB.out (hrow k t hx 0 _ rfl)
      have y1 := kept_cell HB.out (hrow k t hx 1 _ rfl)
      have y2 := kept_cell HB.out (hrow k t hx 2 _ rfl)
      have y3 := kept_cell HB.out (hrow k t hx 3 _ rfl)
      simp only [elTrm, Nat.add_zero] at y0 y1 y2 y3
      have HX := hide hx
      have HLk := hide (lacks_any (HV.out.kept HB.out) (HT.out.ok (List.mem_of_getElem? hx)))
      have HTk := hide (take_snoc hx)
      clear hrow hx
      cases he : looseP L t with
      | true =>
        rw [he] at HLk
        have HF : Hid (findP L ts = some t) := by
          show _ = _
          have h1 : ts = (ts.take k ++ [t]) ++ ts.drop (k + 1) := by rw [← HTk.out, List.take_append_drop]
          have hk0 := HK.out
          unfold findP at hk0 ⊢
          rw [h1, List.find?_append, List.find?_append, hk0]
          simp [he]
        obtain ⟨tk, tn, tx, tq⟩ := t
        unfold Trm.val at HLk
        go_wp2_with (go_at_call 38; refine HLk.out.mono ?_; rintro e w2 ⟨rfl, h2⟩; have HB2 := hide (HB.out.trans (h2.mono HB.out.size)); clear h2)
        go_ret
        exact ⟨⟨k, rfl, .inr ⟨k, _, rfl, HX.out, HF.out⟩⟩, HB2.out⟩
      | false =>
        rw [he] at HLk
        have HF : Hid (findP L (ts.take (k + 1)) = none) := by
          show _ = _
          have hk0 := HK.out
          unfold findP at hk0 ⊢
          rw [HTk.out, List.find?_append, hk0]
          simp [he]
        obtain ⟨tk, tn, tx, tq⟩ := t
        unfold Trm.val at HLk
        go_wp2_with (go_at_call 38; refine HLk.out.mono ?_; rintro e w2 ⟨rfl, h2⟩; have HB2 := hide (HB.out.trans (h2.mono HB.out.size)); clear h2)
        go_roundw
        case rel => exact ⟨k + 1, by omega, by go_num, HF, HB2⟩
        case measure => simp [intOf]; omega
    · obtain rfl : k = ts.length := by omega
      have hi : ¬ (ts.length : Int) < (ts.length : Int) := by omega
      have HF : Hid (findP L ts = none) := by have := HK.out; rw [List.take_of_length_le (Nat.le_refl _)] at this; exact this
      go_wp2
      go_ret
      exact ⟨⟨-1, rfl, .inl ⟨rfl, HF.out⟩⟩, HB.out⟩

/-- The terms of a literal. -/
def termsL (x : Lix) : List Trm := if x.k = 1 ∨ x.k = 2 then x.a.ts else if x.k = 3 then [x.l, x.r] else []

set_option maxHeartbeats 1000000 in
theorem termsOf_any {w : World} {x : Lix} (h : elLix.ok w (fun _ => True) x) :
    Calls Try.prog 36 #[.agg #[.int .i64 x.k, .string x.a.p, x.a.v, .int .i64 x.a.off, .int .i64 x.op, .int .i64 x.l.k, .int .i64 x.l.n, .string x.l.s, .int .i64 x.l.off, .int .i64 x.r.k, .int .i64 x.r.n, .string x.r.s, .int .i64 x.r.off, .int .i64 x.off]] w fun e w' => (∃ v, e = .returned v ∧ Has elTrm w' v (termsL x)) ∧ Below w.heap.size w w' := by
  obtain ⟨lk, ⟨lp, v1, lo, lt⟩, op, ⟨t1k, t1n, t1s, t1o⟩, ⟨t2k, t2n, t2s, t2o⟩, lf⟩ := x
  obtain ⟨-, ha, -, hl, hr, -⟩ := elLix_ok h
  have hts := (elAtx_ok ha).2.2
  dsimp only at hts hl hr
  obtain ⟨fa, fc, hv1, -, -, hl1⟩ := hts.shape
  subst hv1
  obtain ⟨T, hT⟩ : ∃ T, termsL ⟨lk, ⟨lp, .slice fa lt.length fc, lo, lt⟩, op, ⟨t1k, t1n, t1s, t1o⟩, ⟨t2k, t2n, t2s, t2o⟩, lf⟩ = T := ⟨_, rfl⟩
  rw [hT]
  unfold termsL at hT
  dsimp only at hT ⊢
  have hb := belo1 w (.cells #[.int .i64 lk, .string lp, .slice fa lt.length fc, .int .i64 lo, .int .i64 op, .int .i64 t1k, .int .i64 t1n, .string t1s, .int .i64 t1o, .int .i64 t2k, .int .i64 t2n, .string t2s, .int .i64 t2o, .int .i64 lf] 68)
  have HT := hide (hts.kept hb)
  have HB := hide hb
  have HO := hide (And.intro hl hr)
  clear h ha hl hr hts hb
  by_cases h1 : lk = 1
  · subst h1
    have HE : Hid (T = lt) := by show _ = _; rw [← hT]; simp
    clear hT
    go_enter Try.func36, Try.ntmps36
    go_wp2
    go_ret
    exact ⟨⟨_, rfl, by rw [HE.out]; exact HT.out⟩, HB.out⟩
  · by_cases h2 : lk = 2
    · subst h2
      have HE : Hid (T = lt) := by show _ = _; rw [← hT]; simp
      clear hT h1
      go_enter Try.func36, Try.ntmps36
      go_wp2
      go_ret
      exact ⟨⟨_, rfl, by rw [HE.out]; exact HT.out⟩, HB.out⟩
    · by_cases h3 : lk = 3
      · subst h3
        have HE : Hid (T = [⟨t1k, t1n, t1s, t1o⟩, ⟨t2k, t2n, t2s, t2o⟩]) := by show _ = _; rw [← hT]; simp
        have hnew := has_new elTrm (w.alloc (.cells #[.int .i64 3, .string lp, .slice fa lt.length fc, .int .i64 lo, .int .i64 op, .int .i64 t1k, .int .i64 t1n, .string t1s, .int .i64 t1o, .int .i64 t2k, .int .i64 t2n, .string t2s, .int .i64 t2o, .int .i64 lf] 68)) 66 [⟨t1k, t1n, t1s, t1o⟩, ⟨t2k, t2n, t2s, t2o⟩] #[.int .i64 t1k, .int .i64 t1n, .string t1s, .int .i64 t1o, .int .i64 t2k, .int .i64 t2n, .string t2s, .int .i64 t2o] rfl (F := fun _ => True) trivial (by
          intro x hx
          simp only [List.mem_cons, List.not_mem_nil, or_false] at hx
          rcases hx with rfl | rfl
          · exact HO.out.1
          · exact HO.out.2) (by simp)
        have HN := hide hnew
        rw [size_alloc1'] at HN
        clear hnew h1 h2 hT
        go_enter Try.func36, Try.ntmps36
        go_wp2
        go_ret
        exact ⟨⟨_, rfl, by rw [HE.out]; exact HN.out⟩, HB.out.alloc HB.out.size _⟩
      · have e1 : (lk == 1) = false := by simpa using h1
        have e2 : (lk == 2) = false := by simpa using h2
        have e3 : (lk == 3) = false := by simpa using h3
        have HE : Hid (T = []) := by show _ = _; rw [← hT]; simp [h1, h2, h3]
        clear h1 h2 h3 hT
        go_enter Try.func36, Try.ntmps36
        go_wp2
        go_ret
        exact ⟨⟨_, rfl, by rw [HE.out]; exact Lst.nil _ _ _⟩, HB.out⟩

theorem Try.infoTrm8 : (Try.prog.info? 66).map (fun i => (i.zero, i.size, i.bytes)) = some (some (.agg #[.int .i64 0, .int .i64 0, .string ⟨#[]⟩, .int .i64 0]), 4, 40) := by kernel_rfl

set_option maxRecDepth 100000 in
set_option maxHeartbeats 1000000 in
theorem copyOf_any {w : World} {tv : Value} {ts : List Trm} (h : Has elTrm w tv ts) :
    Calls Try.prog 35 #[tv] w fun e w' => (∃ a c, e = .returned (.slice a ts.length c) ∧ Grow elTrm 66 w.heap.size w' (.slice a ts.length c) ts) ∧ Below w.heap.size w w' := by
  obtain ⟨ta, tc, rfl, -, hnone, hlen⟩ := h.shape
  obtain ⟨i0, hi0, hz0, hz1, hz2⟩ := info_parts Try.infoTrm8
  have hrm := run_make (P := Try.prog) w 28 66 i0 _ Try.underlying28 hi0 hz0 .i64 .i64 (ts.length : Int) (ts.length : Int) (by omega) (by omega) (by rw [hz2]; omega) (by omega)
  rw [hz1] at hrm
  simp only [Int.toNat_natCast] at hrm
  obtain ⟨cur, hcur⟩ : ∃ cur, cur = madeCells (Value.cells (.agg #[.int .i64 0, .int .i64 0, .string ⟨#[]⟩, .int .i64 0])) (ts.length * 4) := ⟨_, rfl⟩
  have hcs : cur.size = ts.length * 4 := by rw [hcur, size_madeCells]
  rw [← hcur] at hrm
  clear hcur
  have hb := belo1 w (.cells cur 66)
  have HS := hide (h.kept hb).src
  have HB := hide hb
  have HO := hide (fun t (ht : t ∈ ts) => h.ok ht)
  have hgr : (w.alloc (.cells cur 66)).heap[w.heap.size]? = some (.cells cur 66 (0, 0)) := heap_alloc_new _ _
  obtain ⟨w2, hcp, hg2, hon⟩ := run_copy_all (P := Try.prog) _ 28 28 3 66 4 Try.underlying28 (by rw [hi0]; simp [hz1]) w.heap.size ts.length ts.length tc ta cur 66 hgr hcs (ts.flatMap elTrm.cells) (by rw [flatE_len]; rfl) (fun e => (hnone e).1) HS.out (fun u hu => by obtain ⟨t, ht, hm⟩ := List.mem_flatMap.1 hu; exact elTrm.one (w := w) (F := fun _ => True) (HO.out t ht) u hm)
  have HB2 := hide (HB.out.trans (hon.below (B := w.heap.size) (by simp) (fun k hk e => by omega)))
  have HG2 : Hid (Grow elTrm 66 w.heap.size w2 (.slice (some ⟨w.heap.size, 0, none⟩) ts.length ts.length) ts) := by
    refine ⟨⟨by rw [flatE_len], .inr ⟨w.heap.size, ts.length, (ts.flatMap elTrm.cells).toArray, rfl, Nat.le_refl _, hg2, Nat.le_refl _, by unfold maxLen; omega, by simp only [List.size_toArray]; rw [flatE_len], ?_⟩⟩, fun t ht => HO.out t ht⟩
    rw [List.take_of_length_le (by rw [flatE_len]; exact Nat.le_refl _)]
  clear h hb hgr hnone hcs hg2 hon
  go_enter Try.func35, Try.ntmps35
  go_wp2
  go_ret
  exact ⟨⟨_, ts.length, rfl, HG2.out⟩, HB2.out⟩
end Go.Proofs.Ythbfkbkcfcpibaa
