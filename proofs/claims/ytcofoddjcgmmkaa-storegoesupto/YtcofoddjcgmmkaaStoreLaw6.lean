/- edictlaw05.told, holds. -/
import Derived.Test.YtcofoddjcgmmkaaStoreLaw5
namespace Go.Proofs.Ytcofoddjcgmmkaa
set_option linter.unusedSimpArgs false
set_option linter.unusedVariables false
open Go.RowKit Go.Maps
variable {mk : Mk}

def cellsR (r : Rw) : List Int := cellsP r.1 r.2

/-- A store that holds the rows W. -/
def Keeps (mk : Mk) (w : World) (p : Nat) (own : Own) (ar : List Int) (W : List Rw) (M : Nat) : Prop := St mk w p own ar (W.map cellsR) M ∧ mayR ar W = true
theorem Keeps.below {w w' : World} {p : Nat} {own : Own} {ar : List Int} {W : List Rw} {M : Nat} (h : Keeps mk w p own ar W M) (hb : Below w.heap.size w w') : Keeps mk w' p own ar W M := ⟨h.1.below hb, h.2⟩
theorem Keeps.num {w : World} {p : Nat} {own : Own} {ar : List Int} {W : List Rw} {M : Nat} (h : Keeps mk w p own ar W M) : W.length ≤ M := by
  obtain ⟨_, _, _, hS, _⟩ := h.1
  have := hS.num.1
  rwa [List.length_map] at this

theorem Keeps.at {w : World} {p : Nat} {own : Own} {ar : List Int} {W : List Rw} {M : Nat} (h : Keeps mk w p own ar W M) {i : Nat} {r : Rw} (hr : W[i]? = some r) : numP ar (W.map cellsR) r.1 r.2 = i := by
  obtain ⟨_, _, _, hS, _⟩ := h.1
  have hm : mayP ar r.1 r.2 = true := List.all_eq_true.1 h.2 r (List.mem_of_getElem? hr)
  have hc : (W.map cellsR)[i]? = some (cellsP r.1 r.2) := by rw [List.getElem?_map, hr]; rfl
  unfold numP
  rw [if_pos ⟨hm, List.mem_of_getElem? hc⟩]
  have hil := (List.getElem?_eq_some_iff.1 hc).1
  have e : (W.map cellsR)[i] = cellsP r.1 r.2 := (List.getElem?_eq_some_iff.1 hc).2
  rw [← e, hS.nd.idxOf_getElem]

set_option maxRecDepth 100000 in
set_option maxHeartbeats 2000000 in
theorem told_st {w : World} {p : Nat} {own : Own} {ar : List Int} {W : List Rw} {M : Nat} (h : Keeps mk w p own ar W M) (hM : M < 549755813888) :
    Calls Try.prog 32 #[.pointer (some ⟨p, 0, none⟩)] w fun e w' => ∃ v, e = .returned (.tuple #[v, .bool true]) ∧ MyRows w' own w.heap.size v W ∧ Below w.heap.size w w' := by
  obtain ⟨i0, hi0, hz0, hz1, hz2⟩ := info_parts Try.infoRow5
  have HK := hide h
  have HLn := hide (len_st h.1)
  rw [List.length_map] at HLn
  have hWl := h.num
  have HLim := hide h.1.lim
  clear h
  obtain ⟨n, hn⟩ : ∃ n, W.length = n := ⟨_, rfl⟩
  rw [hn] at HLn hWl
  have HN := hide hn
  clear hn
  go_enter Try.func32, Try.ntmps32
  go_wp2_with (go_at_call 22; refine HLn.out.mono ?_; rintro e w2 ⟨rfl, hw⟩; have hw := hw.symm; subst hw)
  go_loopw [4, 6, 7, 8] (fun l i _ _ wl => ∃ k : Nat, k ≤ n ∧ i = .int .i64 k ∧ Hid (MyRows wl own w.heap.size l (W.take k)) ∧ Hid (Below w.heap.size w wl)) (fun _ i _ _ _ => n - (intOf i).toNat)
  case atStart => exact ⟨0, by omega, rfl, MyRows.nil _ _ _, Below.refl _ _⟩
  case round =>
    obtain ⟨k, hk, rfl, HM, HB⟩ := hrel
    by_cases hlt : k < n
    · have hi : (k : Int) < (n : Int) := by omega
      obtain ⟨r, hr⟩ : ∃ r, W[k]? = some r := ⟨_, List.getElem?_eq_getElem (by rw [HN.out]; omega)⟩
      have hc : (W.map cellsR)[k]? = some (cellsP r.1 r.2) := by rw [List.getElem?_map, hr]; rfl
      have hm : mayP ar r.1 r.2 = true := List.all_eq_true.1 HK.out.2 r (List.mem_of_getElem? hr)
      have HRw := hide (row_in (HK.out.1.below HB.out) hM hc hm)
      have hkl : (W.take k).length = k := by rw [List.length_take, HN.out]; omega
      have HTk : Hid (W.take (k + 1) = W.take k ++ [r]) := by show _ = _; rw [List.take_add_one, hr]; rfl
      have HQ : Hid (I64 r.1) := by
        obtain ⟨_, _, _, hS, _⟩ := HK.out.1
        obtain ⟨q, l, e, hm', hq, _⟩ := hS.ok _ (List.mem_of_getElem? hc)
        have e0 := congrArg (fun x => x.getD 0 0) e
        simp only [cellsP, List.getD, List.getElem?_cons_zero, Option.getD_some] at e0
        show I64 r.1
        rw [e0]; exact hq
      obtain ⟨G, hG1, hG2, hG3, hG4⟩ := HM.out
      obtain ⟨ma, mc, rfl, -, -, -⟩ := own_shape6 hG2
      rw [hkl] at hG2 hG3 hG4 ⊢
      have HG1 := hide hG1
      have HG2 := hide hG2
      have HG3 := hide hG3
      have HG4 := hide hG4
      have HKl := hide hkl
      have hsz := HB.out.size
      clear hr hc hm hkl hG1 hG2 hG3 hG4 HM
      go_upto_region 9 with (go_at_call 16; refine HRw.out.mono ?_; rintro e w3 ⟨ia, ic, rfl, i3, h3, f3⟩; have HI3 := hide i3; have HB3 := hide h3; have HF3 := hide f3; clear i3 h3 f3)
      obtain ⟨Z, hZ⟩ : ∃ Z, Z = w3.alloc (.cells #[.int .i64 r.1, .slice ia r.2.length ic] 31) := ⟨_, rfl⟩
      have hbZ : Below wr.heap.size wr Z := by rw [hZ]; exact HB3.out.alloc HB3.out.size _
      have z0 : Z.cell? ⟨w3.heap.size, 0, none⟩ = some (.int .i64 r.1) := by rw [hZ]; simp
      have z1 : Z.cell? ⟨w3.heap.size, 1, none⟩ = some (.slice ia r.2.length ic) := by rw [hZ]; simp
      have HIZ : Hid (IsInts Z ia r.2.length r.2) := by rw [hZ]; exact HI3.out.kept ((Below.refl _ _).alloc (Nat.le_refl _) _)
      have HBZ := hide hbZ
      have hszZ := hbZ.size
      have HG2' := hide (own_kept6 (own_kept6 HG2.out hbZ) ((Below.refl _ _).alloc (Nat.le_refl _) (.cells #[.int .i64 r.1, .slice ia r.2.length ic] 31)))
      rw [← hZ]
      clear hZ hbZ HI3
      go_wp2_with (first
        | (at_builtin; refine wpList_append_lies _ rfl _ _ 23 rfl w.heap.size 31 i0 _ 2 32 Try.underlying23 hi0 hz0 hz1 hz2 rfl (by decide) _ k (G.flatMap RV.cells) rfl HG2'.out ⟨Z.heap.size, 0, none⟩ 1 1 [.int .i64 r.1, .slice ia r.2.length ic] rfl rfl (World.news_of_block (cs := #[.int .i64 r.1, .slice ia r.2.length ic]) (t := 31) (fr := (0, 0)) (heap_alloc_new Z _)) (by simp [Value.oneCell']) (by omega) (by unfold maxLen; omega) (by omega) (by simp; omega) (Z.heap.size + 1) (by simp) ?_))
      intro gg cap2 w5 hown1 hgrow hat hlt1
      have hb5 : Below w.heap.size w w5 := below_grown ((HB.out.trans (HBZ.out.mono hsz)).alloc (by omega) _) HG2'.out hgrow (by simp; omega)
      have HPush : Hid (MyRows w5 own w.heap.size (.slice (some ⟨gg, 0, none⟩) (k + 1) cap2) (W.take (k + 1))) := by
        show MyRows _ _ _ _ _
        rw [HTk.out]
        have hbA : Below Z.heap.size Z (Z.alloc (.cells #[.int .i64 r.1, .slice ia r.2.length ic] 31)) := (Below.refl _ _).alloc (Nat.le_refl _) _
        have hT : Turn (fun _ => False) own own wr (Z.alloc (.cells #[.int .i64 r.1, .slice ia r.2.length ic] 31)) := Turn.below (HBZ.out.trans (hbA.mono hszZ))
        refine MyRows.push (g := ⟨r.1, ia, ic, r.2⟩) (v := .slice ma k mc) HG1.out (fun g hg => (HG3.out g hg).turn hT) HG4.out ⟨HQ.out, HIZ.out.kept hbA, fun hp a ha => ?_⟩ (by simp) (fun kk h => own_none HLim.out (by omega)) HKl.out hown1 hgrow hat
        obtain ⟨g', e', hg'⟩ := HF3.out hp
        have ha' : ia = some a := ha
        rw [e'] at ha'
        cases ha'
        exact ⟨own_none HLim.out (by show w.heap.size ≤ g'; omega), fun e => by have := own_lt6 HG2.out g' e; omega⟩
      have HB5 := hide hb5
      clear hown1 hgrow hat hlt1 hb5
      go_wp2
      go_roundw
      case rel => exact ⟨k + 1, by omega, by go_num, HPush, HB5⟩
      case measure => simp [intOf]; omega
    · obtain rfl : k = n := by omega
      have hi : ¬ (k : Int) < (k : Int) := by omega
      have hfull : W.take k = W := List.take_of_length_le (by rw [HN.out]; exact Nat.le_refl _)
      rw [hfull] at HM
      go_wp2
      go_ret2
      exact ⟨_, rfl, HM.out, HB.out⟩

/-- At which places a predicate's rows stand. -/
def posP (W : List Rw) (p : Int) : List Int := (W.foldl (fun st r => (st.1 + 1, if r.1 = p then st.2 ++ [(st.1 : Int)] else st.2)) (0, ([] : List Int))).2
theorem posP_fst (W : List Rw) (p : Int) : (W.foldl (fun st r => (st.1 + 1, if r.1 = p then st.2 ++ [(st.1 : Int)] else st.2)) (0, ([] : List Int))).1 = W.length := by
  refine snoc_ind (P := fun W : List Rw => (W.foldl (fun st r => (st.1 + 1, if r.1 = p then st.2 ++ [(st.1 : Int)] else st.2)) (0, ([] : List Int))).1 = W.length) rfl (fun W r ih => ?_) W
  rw [List.foldl_append]
  simp [ih]
theorem posP_snoc (W : List Rw) (r : Rw) (p : Int) : posP (W ++ [r]) p = if r.1 = p then posP W p ++ [(W.length : Int)] else posP W p := by
  unfold posP
  rw [List.foldl_append]
  simp only [List.foldl_cons, List.foldl_nil, posP_fst]
theorem posP_nil (p : Int) : posP [] p = [] := rfl
theorem posP_len (W : List Rw) (p : Int) : (posP W p).length ≤ W.length ∧ ∀ x ∈ posP W p, 0 ≤ x ∧ x < W.length := by
  refine snoc_ind (P := fun W => (posP W p).length ≤ W.length ∧ ∀ x ∈ posP W p, 0 ≤ x ∧ x < W.length) ⟨by simp [posP_nil], by simp [posP_nil]⟩ (fun W r ih => ?_) W
  rw [posP_snoc]
  simp only [List.length_append, List.length_singleton]
  split
  · refine ⟨by rw [List.length_append, List.length_singleton]; omega, fun x hx => ?_⟩
    rcases List.mem_append.1 hx with h | h
    · have := ih.2 x h; omega
    · simp only [List.mem_singleton] at h; omega
  · exact ⟨by omega, fun x hx => by have := ih.2 x hx; omega⟩

theorem index_pos (ar : List Int) (W : List Rw) (p : Int) : (index ar (W.map cellsR)).2.1 (.int .i64 p) = posP W p := by
  refine snoc_ind (P := fun W => (index ar (W.map cellsR)).2.1 (.int .i64 p) = posP W p) rfl (fun W r ih => ?_) W
  rw [List.map_append, List.map_singleton, index_snoc, posP_snoc]
  simp only [stepS, index_fst, List.length_map]
  have e : (cellsR r).getD 0 0 = r.1 := rfl
  rw [e]
  by_cases h : r.1 = p
  · rw [if_pos h, h, setL_same, ih]
  · rw [if_neg h, setL_other _ _ (fun e => h (by simp only [Lit.int.injEq, true_and] at e; exact e.symm)), ih]

/-- Of, said of the rows. -/
theorem of_st {w : World} {p : Nat} {own : Own} {ar : List Int} {W : List Rw} {M : Nat} (h : Keeps mk w p own ar W M) (hM : M < 549755813888) {x : Int} (hx : I64 x) :
    Calls Try.prog 18 #[.pointer (some ⟨p, 0, none⟩), .int .i64 x] w fun e w' => ∃ ao cap, e = .returned (.slice ao (posP W x).length cap) ∧ IsInts w' ao (posP W x).length (posP W x) ∧ Below w.heap.size w w' := by
  have hl := posP_len W x
  have hn := h.num
  obtain ⟨L, S, hR, hS, _⟩ := h.1
  have e : S.O (.int .i64 x) = posP W x := by rw [hS.eO]; exact index_pos ar W x
  have := of_any hR hx (by rw [e]; omega) (by rw [e]; intro y hy; have := hl.2 y hy; exact ⟨by omega, by omega⟩)
  rw [e] at this
  refine this.mono ?_
  rintro e w' ⟨ao, cap, rfl, h1, h2, _⟩
  exact ⟨ao, cap, rfl, h1, h2⟩
end Go.Proofs.Ytcofoddjcgmmkaa
