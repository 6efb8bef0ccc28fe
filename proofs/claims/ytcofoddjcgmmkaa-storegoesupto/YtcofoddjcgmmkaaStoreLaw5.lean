/- edictlaw05.made. -/
import Derived.Test.YtcofoddjcgmmkaaStoreLaw4
namespace Go.Proofs.Ytcofoddjcgmmkaa
set_option linter.unusedSimpArgs false
set_option linter.unusedVariables false
open Go.RowKit Go.Maps

/-- Tags on blocks from base on alone. -/
def TagsFrom (own : Own) (base : Nat) : Prop := ∀ k, own k ≠ none → base ≤ k
theorem Turn.from {A : Tag → Prop} {own own' : Own} {w w' : World} {base : Nat} (h : Turn A own own' w w') (hf : TagsFrom own base) (hb : base ≤ w.heap.size) : TagsFrom own' base ∧ Below base w w' := by
  refine ⟨fun k hk => ?_, h.only.below hb (fun k hk ⟨t, h1, _⟩ => ?_)⟩
  · rcases Nat.lt_or_ge k w.heap.size with h1 | h1
    · exact hf k (by rw [← h.ext k h1]; exact hk)
    · omega
  · have := hf k (by rw [h1]; simp)
    omega

theorem St.lim {mk : Mk} {w : World} {p : Nat} {own : Own} {ar : List Int} {C : List (List Int)} {M : Nat} (h : St mk w p own ar C M) : own.lim w.heap.size := by
  obtain ⟨_, _, _, _, hl⟩ := h
  exact hl

theorem own_none {own : Own} {n k : Nat} (h : own.lim n) (hk : n ≤ k) : own k = none := by
  cases ho : own k with
  | none => rfl
  | some t => exact absurd (h k (by rw [ho]; simp)) (by omega)

/-- The one row of the last predicate. -/
abbrev lastR (ar : List Int) : Rw := ((ar.length : Int), [])

theorem fits_bounds {ar : List Int} (h : fitsP ar = true) : ar.length < 128 ∧ ar.any badAr = false := by
  unfold fitsP at h
  simpa using h

theorem mayLast {ar : List Int} : mayP (ar ++ [0]) (ar.length : Int) [] = true := by
  simp [mayP]
  omega

theorem numLast {ar : List Int} : numP (ar ++ [0]) [cellsP (ar.length : Int) []] (ar.length : Int) [] = 0 := by
  unfold numP
  rw [if_pos ⟨mayLast, by simp⟩]
  simp

/-- One row laid by the caller. -/
theorem free_one (w : World) {own : Own} (hl : own.lim w.heap.size) {q : Int} (hq : I64 q) {a : Option Addr} {c : Nat} {l : List Int} (hi : FreeInts w own a l.length l) : FreeRows (w.alloc (.cells #[.int .i64 q, .slice a l.length c] 31)) own (some ⟨w.heap.size, 0, none⟩) 1 [(q, l)] := by
  refine ⟨rfl, by omega, by simpa using hq, fun _ => ⟨_, 0, rfl, own_none hl (Nat.le_refl _), fun i r hr => ?_⟩⟩
  have hi0 : i = 0 := by
    have := (List.getElem?_eq_some_iff.1 hr).1
    simp at this
    omega
  subst hi0
  simp only [List.getElem?_cons_zero, Option.some.injEq] at hr
  subst hr
  refine ⟨by simp, a, c, by simp, hi.below ((Below.refl _ _).alloc (Nat.le_refl _) _)⟩

set_option maxRecDepth 100000 in
set_option maxHeartbeats 2000000 in
theorem made_any {w : World} {ao : Option Addr} {len cap : Nat} {ar : List Int} (h : IsInts w ao len ar) (hf : fitsP ar = true) :
    Calls Try.prog 6 #[.slice ao len cap] w fun e w' => ∃ p own, e = .returned (.pointer (some ⟨p, 0, none⟩)) ∧ St mk0 w' p own (ar ++ [0]) [cellsP (ar.length : Int) []] 8 ∧ TagsFrom own w.heap.size ∧ Below w.heap.size w w' := by
  obtain ⟨j0, hj0, hy0, hy1, hy2⟩ := info_parts Try.infoInt5
  obtain ⟨h128, hbad⟩ := fits_bounds hf
  have HIn := hide (ints_any (cap := cap) h)
  have HI := hide h
  have hl := h.1
  have hlen : len < 128 := by omega
  have HBad := hide hbad
  clear h hf h128 hbad
  go_enter Try.func6, Try.ntmps6
  go_wp2_with (first
    | (go_at_call 21; refine HIn.out.mono ?_; rintro e w1 ⟨v1, rfl, o1, h1⟩; obtain ⟨a1, c1, rfl, -, -, -⟩ := own_shape6 o1; have HO1 := hide (own_kept6 o1 ((Below.refl _ _).alloc (Nat.le_refl _) (.cells #[.int .i64 0] 3))); have HB1 := hide h1; clear o1 h1)
    | (at_builtin; refine wpList_append_any rfl _ _ 22 rfl w.heap.size 3 j0 (.int .i64 0) 1 8 Try.underlying22 hj0 hy0 hy1 hy2 rfl (by decide) _ len (ints ar) rfl HO1.out (some ⟨w1.heap.size, 0, none⟩) 1 1 [.int .i64 0] rfl (fun h => by cases h) rfl (fun ad h => by cases h; exact World.news_of_block (cs := #[.int .i64 0]) (t := 3) (fr := (0, 0)) (heap_alloc_new w1 _)) (by simp [Value.oneCell']) (by unfold maxLen; omega) (by omega) (by simp; have := HB1.out.size; omega) ?_))
  intro v2 w2 hown2 hgrow
  have hB2 : Below w.heap.size w w2 := below_grown (HB1.out.alloc HB1.out.size _) HO1.out hgrow (by simp; have := HB1.out.size; omega)
  obtain ⟨a2, c2, rfl, -, hn2, -⟩ := own_shape6 hown2
  have hi2 : IsInts w2 a2 (len + 1) (ar ++ [0]) := own_isInts (l := ar ++ [0]) (by simpa [ints] using hown2) (fun x hx => by
    rcases List.mem_append.1 hx with h | h
    · exact HI.out.2.2.1 x h
    · simp only [List.mem_singleton] at h; rw [h]; exact ⟨by omega, by omega⟩) (by omega)
  have hbad2 : (ar ++ [0]).any badAr = false := by rw [List.any_append, HBad.out]; rfl
  have HNw := hide (new_ok (cap := c2) hi2 hn2 (by omega) hbad2)
  have HBad2 := hide hbad2
  have HB2 := hide hB2
  clear hown2 hgrow hB2 hi2 hbad2 HO1 HB1 HIn
  go_wp2_with (go_at_call 20; refine HNw.out.mono ?_; rintro e w3 ⟨v3, rfl, f3⟩; obtain ⟨p, own3, rfl, s3, t3, b3⟩ := f3.st (by simp; omega) HBad2.out; have HS3 := hide s3; have HT3 := hide t3; have HB3 := hide b3; clear f3 s3 t3 b3)
  have HBw3 : Hid (Below w.heap.size w w3) := HB2.out.trans (HB3.out.mono HB2.out.size)
  have HBa : Hid (Below w3.heap.size w3 (w3.alloc (.cells #[.int .i64 (len : Int), .slice none 0 0] 31))) := (Below.refl _ _).alloc (Nat.le_refl _) _
  have HAd := hide (add_ok (cap := 1) (HS3.out.below HBa.out) (free_one w3 HS3.out.lim (q := (len : Int)) ⟨by omega, by omega⟩ (l := []) (a := none) (c := 0) ⟨⟨rfl, by decide, by simp, fun h => absurd h (by decide)⟩, fun h => absurd h (by decide)⟩) (show mayR (ar ++ [0]) [((len : Int), [])] = true from by unfold mayR; simp only [List.all_cons, List.all_nil, Bool.and_true]; rw [← hl]; exact mayLast) (by decide))
  have hadd : addC [] [((len : Int), [])] = [cellsP (len : Int) []] := by unfold addC; simp only [List.foldl_cons, List.foldl_nil]; rw [addOne_new (by simp)]; rfl
  rw [hadd] at HAd
  simp only [List.length_singleton, List.length_nil, Nat.sub_zero] at HAd
  refine HAd.out.mono ?_
  rintro e w4 ⟨rfl, own4, s4, t4⟩
  have hfr : TagsFrom own3 w2.heap.size := HT3.out
  obtain ⟨hf4, hb4⟩ := t4.from hfr (by simp; have := HB3.out.size; omega)
  have HS4 := hide s4
  have HF4 := hide hf4
  have HB4 : Hid (Below w.heap.size w w4) := HBw3.out.trans ((HBa.out.mono HBw3.out.size).trans (hb4.mono HB2.out.size))
  have hsz2 := HB2.out.size
  have hsz3 := HB3.out.size
  clear s4 t4 hf4 hb4 hfr hadd HAd HT3 HS3 HNw
  have HLn := hide (len_st HS4.out)
  have HNm := hide (num_any (q := (len : Int)) (cap := 0) HS4.out ⟨by omega, by omega⟩ (ao := none) (len := 0) (l := []) ⟨rfl, by decide, by simp, fun h => absurd h (by decide)⟩)
  have hnl : numP (ar ++ [0]) [cellsP (len : Int) []] (len : Int) [] = 0 := by rw [← hl]; exact numLast
  rw [hnl] at HNm
  simp only [List.length_singleton] at HLn
  clear hnl
  have hl2 := hide hl
  clear hl
  go_wp2_with (first
    | (go_at_call 22; refine HLn.out.mono ?_; rintro e w5 ⟨rfl, hw⟩; have hw := hw.symm; subst hw)
    | (go_at_call 23; refine HNm.out.mono ?_; rintro e w6 ⟨rfl, h6⟩; have HS6 := hide (HS4.out.below h6); have HB6 := hide (HB4.out.trans (h6.mono HB4.out.size)); clear h6))
  go_ret
  exact ⟨p, own4, rfl, by rw [hl2.out]; exact HS6.out, fun k hk => Nat.le_trans hsz2 (HF4.out k hk), HB6.out⟩
end Go.Proofs.Ytcofoddjcgmmkaa
