/- Each, with the law's own function. -/
import Derived.Test.YtcofoddjcgmmkaaStoreGoFn
namespace Go.Proofs.Ytcofoddjcgmmkaa
set_option linter.unusedSimpArgs false
set_option linter.unusedVariables false
open Go.RowKit Go.Maps
variable {mk : Mk}

def cutP (st : Int) (N : List Int) : List Int := if 0 ≤ st ∧ st < N.length then N.take (st.toNat + 1) else N

theorem Keeps.mark {w : World} {p : Nat} {own : Own} {ar : List Int} {W : List Rw} {M : Nat} (h : Keeps mk w p own ar W M) : ∃ b : Int, w.cell? ⟨p, 4, none⟩ = some (.int .i64 b) ∧ Keeps ⟨W.length, b⟩ w p own ar W M := by
  obtain ⟨b, hb, -, hs⟩ := h.1.mark
  rw [List.length_map] at hs
  exact ⟨b, hb, hs, h.2⟩

/-- What a round of Each reads. -/
theorem Keeps.reads {w : World} {p n : Nat} {b : Int} {own : Own} {ar : List Int} {W : List Rw} {M : Nat} (h : Keeps ⟨W.length, b⟩ w p own ar W M) (hM : M < 549755813888) {x : Int} (hx : I64 x) :
    ∃ (m : Nat) (ao : Option Addr) (cap g bc : Nat), w.cell? ⟨p, 6, none⟩ = some (.map (some m)) ∧ (Instr.lookup 62 (.map (some m)) (.int .i64 x) false).run Try.prog w = .ok (.slice ao (posP W x).length cap) w ∧ IsInts w ao (posP W x).length (posP W x) ∧
      (0 < W.length → w.cell? ⟨p, 2, none⟩ = some (.slice (some ⟨g, 0, none⟩) W.length bc)) ∧ ∀ i, i < W.length → ∃ y : Int, w.cell? ⟨g, i, none⟩ = some (.int .i64 y) ∧ y < b := by
  have hl := posP_len W x
  have hn := h.num
  obtain ⟨L, S, hR, hS, _⟩ := h.1
  have e : S.O (.int .i64 x) = posP W x := by rw [hS.eO]; exact index_pos ar W x
  obtain ⟨v, hrun, hv⟩ := hR.of.look (t := 62) (te := 22) lawInt Try.underlying62 (zeroInts w) (keyOf_pred hx)
  obtain ⟨ao, cap, rfl, hi, -⟩ := row_ints hv (by rw [e]; omega) (by rw [e]; intro y hy; have := hl.2 y hy; exact ⟨by omega, by omega⟩)
  rw [e] at hrun hi
  obtain ⟨bo, bc, hvb, hg, -⟩ := hR.births.form
  have hbl : S.bs.length = W.length := by rw [hS.bs, List.length_map]
  have c2 := hR.c2
  by_cases hp : 0 < W.length
  · obtain ⟨g, rfl⟩ := hg (by omega)
    refine ⟨_, ao, cap, g, bc, hR.c6, hrun, hi, fun _ => by rw [c2, hvb, hbl], fun i hil => ?_⟩
    have hb := hR.births
    rw [hvb] at hb
    obtain ⟨y, hy⟩ : ∃ y, S.bs[i]? = some y := ⟨_, List.getElem?_eq_getElem (by omega)⟩
    obtain ⟨g', cap', e', hc, -, -⟩ := hb.cellAt (j := i) (u := .int .i64 y) (by simp [ints, hy])
    cases e'
    refine ⟨y, hc, hS.rise.old y ?_⟩
    show y ∈ S.bs.take W.length
    rw [← hbl, List.take_length]
    exact List.mem_of_getElem? hy
  · exact ⟨_, ao, cap, 0, 0, hR.c6, hrun, hi, fun h => absurd h hp, fun i hi => absurd hi (by omega)⟩

set_option maxRecDepth 100000 in
set_option maxHeartbeats 4000000 in
theorem each_st {w0 : World} {qg qo bs bx p : Nat} {own : Own} {ar : List Int} {W : List Rw} {M : Nat} {st pr : Int}
    (h : GoAt w0 w0 qg qo none 0 []) (hk : Keeps mk w0 p own ar W M) (hM : M < 100000000) (hg : own qg = none) (ho : own qo = none) (hne : qg ≠ qo) (hgl : qg < w0.heap.size) (hol : qo < w0.heap.size)
    (hs : w0.cell? ⟨bs, 0, none⟩ = some (.pointer (some ⟨p, 0, none⟩))) (hs1 : bs ≠ qg) (hs2 : bs ≠ qo) (hx : w0.cell? ⟨bx, 5, none⟩ = some (.int .i64 st)) (hx1 : bx ≠ qg) (hx2 : bx ≠ qo) (hpr : I64 pr) :
    Calls Try.prog 14 #[.pointer (some ⟨p, 0, none⟩), .int .i64 pr, .func (.func 15) #[] #[.pointer (some ⟨qg, 0, none⟩), .pointer (some ⟨bs, 0, none⟩), .pointer (some ⟨qo, 0, none⟩), .pointer (some ⟨bx, 0, none⟩)]] w0 fun e w' => e = .returned (.tuple #[]) ∧ ∃ ga gc, GoAt w0 w' qg qo ga gc (cutP st (posP W pr)) := by
  have hnil : ∀ w : World, (binOp BinOp.eql 44 (.func (.func 15) #[] #[.pointer (some ⟨qg, 0, none⟩), .pointer (some ⟨bs, 0, none⟩), .pointer (some ⟨qo, 0, none⟩), .pointer (some ⟨bx, 0, none⟩)]) .nilFunc).run Try.prog w = .ok (.bool false) w := fun _ => by rfl
  obtain ⟨b, hb, hkb⟩ := hk.mark
  have hnl := posP_len W pr
  have hWM := hk.num
  obtain ⟨N, hN⟩ : ∃ N, posP W pr = N := ⟨_, rfl⟩
  rw [hN] at hnl ⊢
  have HN := hide hN
  have HK := hide hkb
  have H0 := hide h
  have HP := hide hpr
  have HNl := hide hnl
  have HW := hide (And.intro hs hx)
  clear h hk hkb hpr hN hs hx hnl
  go_enter Try.func14, Try.ntmps14
  go_wp2_with fail
  go_loopw [7, 8] (fun i _ wl => ∃ k : Nat, ∃ ga gc, k ≤ N.length ∧ i = .int .i64 k ∧ Hid (GoAt w0 wl qg qo ga gc (N.take k)) ∧ Hid (¬ (0 ≤ st ∧ st < k))) (fun i _ _ => N.length - (intOf i).toNat)
  case atStart => exact ⟨0, none, 0, by omega, rfl, by show GoAt _ _ _ _ _ _ _; simpa using H0.out, by show ¬ _; omega⟩
  case round =>
    obtain ⟨k, ga, gc, hkk, rfl, HG, HS⟩ := hrel
    have hNM : N.length < 100000000 := by have := HNl.out.1; omega
    have hKw := HG.out.store HK.out hg ho
    obtain ⟨m, ao, cap, g, bc, c6, hrun, hi, c2, hbs⟩ := hKw.reads (n := 0) (by omega) HP.out
    rw [HN.out] at hrun hi
    by_cases hlt : k < N.length
    · have hik : (k : Int) < (N.length : Int) := by omega
      have hik0 : (0 : Int) ≤ (k : Int) := by omega
      obtain ⟨ob, oo, rfl, hoc⟩ := hi.2.2.2 (by omega)
      obtain ⟨x, hx⟩ : ∃ x, N[k]? = some x := ⟨_, List.getElem?_eq_getElem hlt⟩
      obtain ⟨i, rfl⟩ : ∃ i : Nat, x = i := ⟨x.toNat, by have := HNl.out.2 x (List.mem_of_getElem? hx); omega⟩
      have hiW : i < W.length := by have := HNl.out.2 _ (List.mem_of_getElem? hx); omega
      have n0 := hoc k _ hx
      obtain ⟨⟨q, l⟩, hr⟩ : ∃ r, W[i]? = some r := ⟨_, List.getElem?_eq_getElem hiW⟩
      obtain ⟨y, y0, hyb⟩ := hbs i hiW
      have c2' := c2 (by omega)
      have hybf : (decide (b ≤ y)) = false := by simp; omega
      have hiI : (i : Int) < (W.length : Int) := by omega
      have hi0 : (0 : Int) ≤ (i : Int) := by omega
      have HRa := hide (rowAt_any hKw.1 (by omega) (i := i) (q := q) (l := l) (by rw [List.getElem?_map, hr]; rfl) (mayR_iff.1 hKw.2 (q, l) (List.mem_of_getElem? hr)))
      have HTk : Hid (N.take (k + 1) = N.take k ++ [(i : Int)]) := by show _ = _; rw [List.take_add_one, hx]; rfl
      have hlk : (N.take k).length = k := by rw [List.length_take]; omega
      have HX := hide hr
      clear hKw hi hoc hx c2 hbs
      go_wp2_with fail
      refine HRa.out.mono ?_
      rintro e w2 ⟨ro, rc, rfl, hi2, h2, hfr⟩
      have hsz : w0.heap.size ≤ wr.heap.size := HG.out.1.size
      have HF := hide (goFn_any (cap := rc) (HG.out.below h2) HK.out (by omega) hg ho hne hgl hol HW.out.1 hs1 hs2 HW.out.2 hx1 hx2 HX.out (by rw [hlk]; omega) (fun V hV => hi2.only hV (fun hp a ha hA => by
        obtain ⟨gg, hgg, hge⟩ := hfr hp
        rw [ha] at hgg
        cases hgg
        dsimp only at hA
        rcases hA with rfl | rfl | hA
        · omega
        · omega
        · have := own_lt6 HG.out.2.2.2.2.2 _ hA
          omega)))
      rw [hlk, ← HTk.out] at HF
      clear hi2 h2 hfr HRa c6 hrun n0 y0 c2'
      by_cases hst : (k : Int) = st
      · have ek : ((k : Int) != st) = false := by simpa using hst
        rw [ek] at HF
        have HE : Hid (cutP st N = N.take (k + 1)) := by show _ = _; unfold cutP; rw [if_pos (by omega), ← hst]; simp
        clear ek
        go_wp2_with fail
        refine HF.out.mono ?_
        rintro e w3 ⟨rfl, ga', gc', g3⟩
        have HG3 := hide g3
        clear g3 HF
        go_wp2_with fail
        refine bodyPost_ret (results_none rfl _ _ _) rfl ?_
        exact ⟨rfl, ga', gc', by rw [HE.out]; exact HG3.out⟩
      · have ek : ((k : Int) != st) = true := by simpa using hst
        rw [ek] at HF
        have hS' : ¬ (0 ≤ st ∧ st < ((k + 1 : Nat) : Int)) := by have := HS.out; omega
        have HS' := hide hS'
        clear ek hS'
        go_wp2_with fail
        refine HF.out.mono ?_
        rintro e w3 ⟨rfl, ga', gc', g3⟩
        have HG3 := hide g3
        clear g3 HF
        go_wp2_with fail
        go_roundw
        case rel => exact ⟨k + 1, ga', gc', by omega, by go_num, HG3, HS'⟩
        case measure => simp [intOf]; omega
    · obtain rfl : k = N.length := by omega
      have hik : ¬ (N.length : Int) < (N.length : Int) := by omega
      rw [List.take_of_length_le (Nat.le_refl _)] at HG
      have HE : Hid (cutP st N = N) := by show _ = _; unfold cutP; rw [if_neg HS.out]
      go_wp2_with fail
      first
        | (refine bodyPost_ret (results_none rfl _ _ _) rfl ?_; exact ⟨rfl, ga, gc, by rw [HE.out]; exact HG.out⟩)
        | (go_end0; exact ⟨rfl, ga, gc, by rw [HE.out]; exact HG.out⟩)
end Go.Proofs.Ytcofoddjcgmmkaa
