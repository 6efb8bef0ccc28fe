/- What runBack and Undo do to a store. -/
import Derived.Test.YtcofoddjcgmmkaaStoreTake
import Derived.Laws.EntriesVeiled
namespace Go.Proofs.Ytcofoddjcgmmkaa
set_option linter.unusedSimpArgs false
set_option linter.unusedVariables false
open Go.RowKit Go.Maps

/-- The last row is taken back: what runBack reads of the store, what its call leaves, what it then writes. -/
theorem St.take {w : World} {p : Nat} {own : Own} {ar : List Int} {C : List (List Int)} {c : List Int} {M : Nat} (h : St mk0 w p own ar (C ++ [c]) M) (hM : M < 68719476736) :
    ∃ g cap fs, w.cell? ⟨p, 3, none⟩ = some (.slice (some ⟨g, 0, none⟩) (C.length + 1) cap) ∧ C.length + 1 ≤ cap ∧ w.cell? ⟨g, C.length, none⟩ = some (.func (.func 44) #[] fs) ∧
      Calls Try.prog 44 fs w fun e w' => e = .returned (.tuple #[]) ∧ w'.cell? ⟨p, 3, none⟩ = some (.slice (some ⟨g, 0, none⟩) (C.length + 1) cap) ∧ w'.frozen? ⟨p, 3, none⟩ = false ∧ (∃ v, w'.cell? ⟨g, C.length, none⟩ = some v) ∧ w'.frozen? ⟨g, C.length, none⟩ = false ∧ g ≠ p ∧
        ∀ u, St mk0 ((w'.setCell ⟨g, C.length, none⟩ u).setCell ⟨p, 3, none⟩ (.slice (some ⟨g, 0, none⟩) C.length cap)) p own ar C (M + 8) ∧ Turn (fun _ => True) own own w ((w'.setCell ⟨g, C.length, none⟩ u).setCell ⟨p, 3, none⟩ (.slice (some ⟨g, 0, none⟩) C.length cap)) := by
  obtain ⟨L, S, hR, hS, hlim⟩ := h
  have hcm : c ∈ C ++ [c] := by simp
  obtain ⟨h9, hI, q, na, hq, ha, hna, har, hq0⟩ := (hS.ok c hcm).len hS.arI
  have hkl : S.ks.length = C.length + 1 := by rw [hS.ks]; simp
  obtain ⟨ks, b, hks⟩ : ∃ ks b, S.ks = ks ++ [b] := by
    rcases List.eq_nil_or_concat S.ks with e | ⟨ks, b, e⟩
    · rw [e] at hkl; simp at hkl
    · exact ⟨ks, b, by rw [e, List.concat_eq_append]⟩
  have hksl : ks.length = C.length := by rw [hks] at hkl; simpa using hkl
  obtain ⟨c', hc', hb⟩ := hR.bk C.length b (by rw [hks, ← hksl]; simp)
  rw [hS.eC] at hc'
  simp only [List.getElem?_concat_length, Option.some.injEq] at hc'
  subst hc'
  obtain ⟨b2, b5, b3, b4, q', rfl, hq', k2, k5, k3, k4⟩ := hb
  rw [hq] at hq'
  cases hq'
  have hbk := hR.backs
  obtain ⟨bo, cap, hvk, hg, hcap⟩ := hbk.form
  rw [hkl] at hvk hg hcap
  obtain ⟨g, rfl⟩ := hg (by omega)
  have hog : own g = some .backs := hbk.2 g (by rw [hvk]; rfl)
  have hgp : g ≠ p := fun e => by rw [e, hR.tme] at hog; cases hog
  have c3 := hR.c3
  rw [hvk] at c3
  obtain ⟨g', cap', e', hcell, -, -⟩ := hbk.cellAt (j := C.length) (u := .func (.func 44) #[] #[.pointer (some ⟨b2, 0, none⟩), .pointer (some ⟨b5, 0, none⟩), .pointer (some ⟨b3, 0, none⟩), .pointer (some ⟨b4, 0, none⟩)]) (by rw [hks, ← hksl]; simp)
  rw [hvk, Value.slice.injEq, Option.some.injEq, Addr.mk.injEq] at e'
  obtain ⟨⟨rfl, -, -⟩, -, -⟩ := e'
  have hl := index_len ar C (fun x hx => by
    obtain ⟨_, _, _, na', _, _, h8, e8, _⟩ := (hS.ok x (by simp [hx])).len hS.arI
    omega)
  have hid : index ar (C ++ [c]) = stepS ar (index ar C) c := index_snoc ar C c
  refine ⟨g, cap, _, c3, by omega, hcell, ?_⟩
  have hnum := hS.num
  rw [List.length_append, List.length_singleton] at hnum
  refine (take_any hR (C := C) (c := c) (by rw [hS.eC]) h9 hI hq rfl (by omega) (by rw [hS.bs]; simp) (by omega) ⟨k2, k3, k4, k5⟩ ⟨hS.eN, fun c' hc' e => ?_⟩ (O := (index ar C).2.1) (W := (index ar C).2.2) (na := na) (by rw [hS.eO, hid]; simp only [stepS, index_fst, hq0]) (by rw [hS.eW, hid]; simp only [stepS, index_fst, hq0, har]) hl ⟨by rw [hS.eAr]; exact ha, hna⟩).mono ?_
  · obtain ⟨h9', hI', _⟩ := (hS.ok c' (by simp [hc'])).len hS.arI
    have := litI_inj9 h9' h9 hI' hI e
    subst this
    have := hS.nd
    rw [List.nodup_append] at this
    exact this.2.2 c' hc' c' (by simp) rfl
  · rintro e w' ⟨rfl, w0, n2, n3, ao, cp, hn2, hn3, hR0, hT0, ro, rc, hvr, rfl⟩
    have hbk0 := hR0.backs
    have hme := me_set (j := 1) hR0.me (.slice ro C.length rc)
    have hgl : g < w0.heap.size := Nat.lt_of_lt_of_le (lt_of_cell hcell) hT0.only.size
    obtain ⟨g'', cap'', e'', hcell0, -, -⟩ := hbk0.cellAt (j := C.length) (u := .func (.func 44) #[] #[.pointer (some ⟨b2, 0, none⟩), .pointer (some ⟨b5, 0, none⟩), .pointer (some ⟨b3, 0, none⟩), .pointer (some ⟨b4, 0, none⟩)]) (by show S.ks[C.length]? = _; rw [hks, ← hksl]; simp)
    rw [show _ = _ from hvk, Value.slice.injEq, Option.some.injEq, Addr.mk.injEq] at e''
    obtain ⟨⟨rfl, -, -⟩, -, -⟩ := e''
    have hgb : (w0.setCell ⟨p, 1, none⟩ (.slice ro C.length rc)).heap[g]? = w0.heap[g]? := Below.heap_setCell _ _ _ _ hgp
    refine ⟨rfl, ?_, by simp [World.frozen?, hme], ⟨_, by rw [World.cell?_of_block hgb]; exact hcell0⟩, ?_, hgp, fun u => ?_⟩
    · rw [World.cell?, hme]
      simp [show L.vk = _ from hvk]
    · rcases hbk0.1.2 with ⟨_, h0⟩ | ⟨g2, cap2, cur, e2, _, hh, _⟩
      · rw [show ({ S with bs := S.bs.take C.length, N := keyAt litI C, O := (index ar C).2.1, W := (index ar C).2.2 } : Sto).ks.length = S.ks.length from rfl, hkl] at h0
        omega
      · rw [show _ = _ from hvk, Value.slice.injEq, Option.some.injEq, Addr.mk.injEq] at e2
        obtain ⟨⟨rfl, -, -⟩, -, -⟩ := e2
        rw [← hgb] at hh
        simp [World.frozen?, hh]
    · obtain ⟨hRl, hTl⟩ := hR0.cut_last (C := C) (c := c) (ks := ks) (k := C.length) (by show S.C = _; rw [hS.eC]) (by
        show ∀ x ∈ S.C, x.length = 9
        rw [hS.eC]
        intro x hx
        exact ((hS.ok x hx).len hS.arI).1) (show S.ks = _ from hks) hksl rfl (show L.vr = _ from hvr) (show L.vk = _ from hvk) rfl u
      refine ⟨⟨_, _, hRl, ?_, fun k hk => Nat.lt_of_lt_of_le (hlim k hk) (Nat.le_trans hT0.only.size hTl.only.size)⟩, hT0.trans (hTl.mono (fun _ _ => trivial))⟩
      exact {
        eAr := hS.eAr, eC := rfl, arI := hS.arI, arL := hS.arL,
        ok := fun x hx => hS.ok x (by simp [hx]),
        nd := (List.nodup_append.1 hS.nd).1,
        eN := rfl, eO := rfl, eW := rfl,
        bs := by
          show (S.bs.take C.length).length = _
          rw [List.length_take, hS.bs]; simp
        ks := hksl,
        born := ⟨hS.born.1, by show S.born ≤ _; have := hS.born.2; omega⟩,
        num := ⟨by omega, by show L.n1 ≤ _; omega, by show n2 ≤ _; omega, by show n3 ≤ _; omega⟩,
        rise := hS.rise.take hS.born.1 _ }

set_option maxRecDepth 100000 in
set_option maxHeartbeats 2000000 in
theorem runBack_st {w : World} {p : Nat} {own : Own} {ar : List Int} {C : List (List Int)} {M : Nat} (h : St mk0 w p own ar C M) {n : Nat} (hn : n ≤ C.length) (hM : M + 8 * C.length < 68719476736) :
    Calls Try.prog 30 #[.pointer (some ⟨p, 0, none⟩), .int .i64 (n : Int)] w fun e w' => e = .returned (.tuple #[]) ∧ St mk0 w' p own ar (C.take n) (M + 8 * C.length) ∧ Turn (fun _ => True) own own w w' := by
  have HS := hide h
  obtain ⟨L, S, hR, hSn, -⟩ := h
  obtain ⟨bo, cap, hvk, -, -⟩ := hR.backs.form
  have c3 := hR.c3
  rw [hvk, hSn.ks] at c3
  obtain ⟨N, hN⟩ : ∃ N, C.length = N := ⟨_, rfl⟩
  rw [hN] at c3 hn hM ⊢
  have hNM : N ≤ M := by have := hSn.num.1; omega
  have HN := hide hN
  clear hR hSn hvk hN
  go_enter Try.func30, Try.ntmps30
  go_wp2
  go_loopw [4] (fun i wl => ∃ k : Nat, n ≤ k ∧ k ≤ N ∧ i = .int .i64 ((k : Int) - 1) ∧ Hid (St mk0 wl p own ar (C.take k) (M + 8 * (N - k))) ∧ Hid (Turn (fun _ => True) own own w wl)) (fun i _ => (intOf i + 1).toNat - n)
  case atStart =>
    refine ⟨N, hn, Nat.le_refl _, rfl, ?_, Turn.refl _ _ _⟩
    show St mk0 _ _ _ _ _ _
    rw [List.take_of_length_le (by rw [HN.out]; exact Nat.le_refl _), Nat.sub_self]
    exact HS.out
  case round =>
    obtain ⟨k, hk1, hk2, rfl, HSk, HTk⟩ := hrel
    by_cases hlt : n < k
    · obtain ⟨m, rfl⟩ : ∃ m, k = m + 1 := ⟨k - 1, by omega⟩
      have e1 : ((m + 1 : Nat) : Int) - 1 = (m : Int) := by omega
      rw [e1]
      obtain ⟨c, hc⟩ : ∃ c, C[m]? = some c := ⟨_, List.getElem?_eq_getElem (by rw [HN.out]; omega)⟩
      have hst := HSk.out
      rw [List.take_add_one, hc] at hst
      obtain ⟨g, cap, fs, c3', hcap, cf, hcall⟩ := St.take (c := c) hst (by omega)
      have hml : (C.take m).length = m := by rw [List.length_take, HN.out]; omega
      rw [hml] at c3' hcap cf hcall
      have HCl := hide hcall
      have hi : (n : Int) ≤ (m : Int) := by omega
      have hm0 : (0 : Int) ≤ (m : Int) := by omega
      have hm1 : (m : Int) < (m : Int) + 1 := by omega
      have hmc : (m : Int) ≤ (cap : Int) := by omega
      clear c3 hc hst hml hcall e1 HSk HS
      go_wp2_with (go_at_call 44; refine HCl.out.mono ?_; rintro e w2 ⟨rfl, d3, f3, ⟨v, dg⟩, fg, hgp, hpost⟩; have d4 : (w2.setCell ⟨g, m, none⟩ .nilFunc).cell? ⟨p, 3, none⟩ = some (.slice (some ⟨g, 0, none⟩) (m + 1) cap) := (by rw [World.cell?_setCell_far _ _ _ _ hgp]; exact d3); have f4 : (w2.setCell ⟨g, m, none⟩ .nilFunc).frozen? ⟨p, 3, none⟩ = false := (by simp [f3]); have HPo := hide (hpost .nilFunc); clear hpost)
      go_roundw
      case rel =>
        refine ⟨m, by omega, by omega, by go_num, ?_, HTk.out.trans HPo.out.2⟩
        have := HPo.out.1
        rw [show M + 8 * (N - (m + 1)) + 8 = M + 8 * (N - m) from by omega] at this
        exact this
      case measure => simp [intOf]; omega
    · obtain rfl : k = n := by omega
      have hi : ¬ (k : Int) ≤ (k : Int) - 1 := by omega
      have HSt := hide (HSk.out.mono (show M + 8 * (N - k) ≤ M + 8 * N from by omega))
      go_wp2
      go_end0
      exact ⟨rfl, HSt.out, HTk.out⟩
end Go.Proofs.Ytcofoddjcgmmkaa
