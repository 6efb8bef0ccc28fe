/- What match.Ground and the document's Ground answer of a pattern under a substitution. -/
import Derived.Test.YtnahfhfnodghaaaPatMem
import Derived.Laws.MakeOwn
namespace Go.Proofs.Ytnahfhfnodghaaa
set_option linter.unusedSimpArgs false
set_option linter.unusedVariables false
open Go.RowKit

/-- The ids of a pattern's slots under a substitution, if all have one. -/
def groundP (ss : List Slt) (sub : List Int) : Option (List Int) := if ss.all (fun s => decide (0 ≤ idP s sub)) then some (ss.map (idP · sub)) else none

theorem groundP_bad {ss : List Slt} {sub : List Int} {k : Nat} {s : Slt} (h : ss[k]? = some s) (hs : idP s sub < 0) : groundP ss sub = none := by
  unfold groundP
  rw [if_neg]
  intro ha
  have := List.all_eq_true.1 ha s (List.mem_of_getElem? h)
  simp at this
  omega

theorem groundP_good {ss : List Slt} {sub : List Int} (h : ∀ s ∈ ss, 0 ≤ idP s sub) : groundP ss sub = some (ss.map (idP · sub)) := by
  unfold groundP
  rw [if_pos]
  exact List.all_eq_true.2 fun s hs => by simpa using h s hs

/-- A row of n numbers in a block, of which the first are l. -/
def Ar (w : World) (g n : Nat) (l : List Int) : Prop := ∃ cur : Array Value, w.heap[g]? = some (.cells cur 3 (0, 0)) ∧ cur.size = n ∧ (∀ (i : Nat) (x : Int), l[i]? = some x → cur[i]? = some (Value.int .i64 x)) ∧ l.length ≤ n ∧ ∀ i : Nat, i < n → ∃ y : Int, cur[i]? = some (Value.int .i64 y)

theorem makeInts (w : World) (n : Nat) (hn : n * 8 ≤ 140737488355328) : ∃ o, (Instr.makeSlice 25 (.int .i64 (n : Int)) (.int .i64 (n : Int))).run Try.prog w = .ok (.slice (some ⟨w.heap.size, 0, none⟩) n n) (w.alloc o) ∧ Ar (w.alloc o) w.heap.size n [] := by
  obtain ⟨i0, hi0, hz0, hz1, hz2⟩ := info_parts Try.infoInt6
  have := run_make (P := Try.prog) w 25 3 i0 _ Try.underlying25 hi0 hz0 .i64 .i64 (n : Int) (n : Int) (by omega) (by omega) (by rw [hz2]; omega) (by omega)
  rw [hz1] at this
  refine ⟨_, by simpa only [Int.toNat_natCast, Nat.mul_one] using this, _, heap_alloc_new _ _, size_madeCells _ _, fun i x h => by simp at h, Nat.zero_le _, fun i hi => ⟨0, ?_⟩⟩
  simp [madeCells, Value.cells, hi, Nat.mod_one]

theorem Ar.kept {w w' : World} {g n : Nat} {l : List Int} (h : Ar w g n l) (hb : Below w.heap.size w w') : Ar w' g n l := by
  obtain ⟨cur, h1, h2⟩ := h
  exact ⟨cur, by rw [hb.block g (Array.getElem?_eq_some_iff.1 h1).1]; exact h1, h2⟩

theorem Ar.drew {w : World} {g n : Nat} {l : List Int} (h : Ar w g n l) : Ar w.drew g n l := h

theorem Ar.cell {w : World} {g n : Nat} {l : List Int} (h : Ar w g n l) {k : Nat} (hk : k < n) : (∃ y : Int, w.cell? ⟨g, k, none⟩ = some (.int .i64 y)) ∧ w.frozen? ⟨g, k, none⟩ = false := by
  obtain ⟨cur, h1, h2, h3, h4, h5⟩ := h
  obtain ⟨y, hy⟩ := h5 k hk
  exact ⟨⟨y, by simp [World.cell?, h1, hy]⟩, by simp [World.frozen?, h1]⟩

theorem Ar.at {w : World} {g n : Nat} {l : List Int} (h : Ar w g n l) {k : Nat} {x : Int} (hk : l[k]? = some x) : w.cell? ⟨g, k, none⟩ = some (.int .i64 x) := by
  obtain ⟨cur, h1, h2, h3, h4, h5⟩ := h
  simp [World.cell?, h1, h3 k x hk]

theorem Ar.lt {w : World} {g n : Nat} {l : List Int} (h : Ar w g n l) : g < w.heap.size := by
  obtain ⟨cur, h1, _⟩ := h
  exact (Array.getElem?_eq_some_iff.1 h1).1

theorem Ar.set {w : World} {g n : Nat} {l : List Int} (h : Ar w g n l) {k : Nat} (hk : l.length = k) (hn : k < n) (x : Int) : Ar (w.setCell ⟨g, k, none⟩ (.int .i64 x)) g n (l ++ [x]) := by
  obtain ⟨cur, h1, h2, h3, h4, h5⟩ := h
  have hg := (Array.getElem?_eq_some_iff.1 h1).1
  refine ⟨cur.set! k (.int .i64 x), ?_, by simpa using h2, fun i y hi => ?_, by simp; omega, fun i hi => ?_⟩
  · simp [World.setCell, Array.getElem?_modify, h1]
  · rcases Nat.lt_or_ge i l.length with hl | hl
    · rw [List.getElem?_append_left hl] at hi
      rw [Array.set!_eq_setIfInBounds, Array.getElem?_setIfInBounds_ne (by omega)]
      exact h3 i y hi
    · have hik : i = k := by
        have := (List.getElem?_eq_some_iff.1 hi).1
        simp at this
        omega
      subst hik
      rw [← hk, List.getElem?_append_right (Nat.le_refl _)] at hi
      simp at hi
      subst hi
      simp [h2, hn]
  · by_cases hik : i = k
    · subst hik
      exact ⟨x, by simp [h2, hn]⟩
    · obtain ⟨y, hy⟩ := h5 i hi
      exact ⟨y, by rw [Array.set!_eq_setIfInBounds, Array.getElem?_setIfInBounds_ne (by omega)]; exact hy⟩

theorem Ar.nums {w : World} {g n : Nat} {l : List Int} (h : Ar w g n l) (hl : l.length = n) (hI : ∀ x ∈ l, I64 x) (hz : n * 8 ≤ 140737488355328) : IsNums w (some ⟨g, 0, none⟩) n l :=
  ⟨hl, hz, hI, fun _ => ⟨g, 0, rfl, fun i x hx => by rw [Nat.zero_add]; exact h.at hx⟩⟩

/-- A list and a bool as they come back. -/
def ListRes (w w' : World) (r : Option (List Int)) (e : Ending) : Prop :=
  (r = none ∧ e = .returned (.tuple #[.slice none 0 0, .bool false])) ∨ ∃ l ao cap, r = some l ∧ e = .returned (.tuple #[.slice ao l.length cap, .bool true]) ∧ IsNums w' ao l.length l ∧ l.length ≤ cap ∧ (ao = none → l.length = 0 ∧ cap = 0) ∧ ∀ ad, ao = some ad → w.heap.size ≤ ad.block

set_option maxRecDepth 100000 in
set_option maxHeartbeats 1000000 in
theorem ground_any {w : World} {q : Int} {pa sa : Option Addr} {pl pc sl sc : Nat} {ss : List Slt} {sub : List Int} (hp : IsSlts w pa pl ss) (hs : IsNums w sa sl sub) :
    Calls Try.prog 15 #[.agg #[.int .i64 q, .slice pa pl pc], .slice sa sl sc] w fun e w' => ListRes w w' (groundP ss sub) e ∧ Below w.heap.size w w' := by
  obtain ⟨i0, hi0, hz0, hz1, hz2⟩ := info_parts Try.infoInt6
  have HP := hide hp
  have HS := hide hs
  have hz := hp.2.1
  obtain ⟨o, hmk, hA0⟩ := makeInts (w.alloc (.cells #[.int .i64 q, .slice pa pl pc] 24)) pl (by omega)
  have HA0' := hide hA0
  clear hA0
  clear hp hs
  go_enter Try.func15, Try.ntmps15
  go_wp2
  obtain ⟨Y, hY⟩ : ∃ Y, Y = ((w.alloc (.cells #[.int .i64 q, .slice pa pl pc] 24)).alloc o) := ⟨_, rfl⟩
  have HA0 : Hid (Ar Y (w.heap.size + 1) pl []) := by
    have := HA0'.out
    rw [size_alloc] at this
    rw [hY]
    exact this
  have HB0 : Hid (Below w.heap.size w Y) := by rw [hY]; exact ((Below.refl _ w).alloc (Nat.le_refl _) _).alloc (by simp) _
  rw [← hY]
  clear hY hmk
  go_loopw [7, 8, 16] (fun _ _ i wr => ∃ k : Nat, k ≤ pl ∧ i = .int .i64 k ∧ Hid (Ar wr (w.heap.size + 1) pl ((ss.take k).map (idP · sub))) ∧ Hid (∀ s ∈ ss.take k, 0 ≤ idP s sub) ∧ Hid (Below w.heap.size w wr)) (fun _ _ i _ => pl - (intOf i).toNat)
  case atStart => exact ⟨0, by omega, rfl, by show Ar Y (w.heap.size + 1) pl _; simpa using HA0.out, by show ∀ s ∈ ss.take 0, _; simp, HB0.out⟩
  case round =>
    obtain ⟨k, hk, rfl, HA, HG, HB⟩ := hrel
    by_cases hlt : k < pl
    · have hi : (k : Int) < (pl : Int) := by omega
      have hi0 : (0 : Int) ≤ (k : Int) := by omega
      obtain ⟨b1, o1, rfl, hr1⟩ := HP.out.2.2.2 (by omega)
      obtain ⟨s, hs⟩ : ∃ s, ss[k]? = some s := ⟨_, List.getElem?_eq_getElem (by rw [HP.out.1]; omega)⟩
      obtain ⟨x0, x1⟩ := (hr1 k s hs).kept HB.out
      have hsn := HP.out.2.2.1 s (List.mem_of_getElem? hs)
      have HBx : Hid (Below w.heap.size w (wr.alloc (.cells #[.bool s.v, .int .i64 s.n] 43))) := HB.out.alloc HB.out.size _
      have HAx : Hid (Ar (wr.alloc (.cells #[.bool s.v, .int .i64 s.n] 43)) (w.heap.size + 1) pl ((ss.take k).map (idP · sub))) := HA.out.kept ((Below.refl _ _).alloc (Nat.le_refl _) _)
      have HId := hide (idOf_any (s := s) (cap := sc) hsn (HS.out.kept HBx.out))
      unfold Slt.val at HId
      have HX := hide hs
      have HSN := hide hsn
      have hge := idP_ge s sub
      clear hr1 hs hsn
      have HTk : Hid (ss.take (k + 1) = ss.take k ++ [s]) := by show _ = _; rw [List.take_add_one, HX.out]; rfl
      have HLn : Hid (((ss.take k).map (idP · sub)).length = k) := by show _ = _; rw [List.length_map, List.length_take, HP.out.1]; omega
      by_cases hneg : idP s sub < 0
      · have HR := hide (groundP_bad HX.out hneg)
        go_wp2_with (go_at_call 25; refine HId.out.mono ?_; rintro e w2 ⟨rfl, hb2⟩; have HA2 := hide (HAx.out.kept hb2); have HB2 := hide (HBx.out.trans (hb2.mono HBx.out.size)); obtain ⟨⟨y2, hy2⟩, hf2⟩ := HA2.out.cell hlt; clear hb2)
        go_ret2
        exact ⟨.inl ⟨HR.out, rfl⟩, HB2.out.setCell (by simp) _⟩
      · go_wp2_with (go_at_call 25; refine HId.out.mono ?_; rintro e w2 ⟨rfl, hb2⟩; have HA2 := hide (HAx.out.kept hb2); have HB2 := hide (HBx.out.trans (hb2.mono HBx.out.size)); obtain ⟨⟨y2, hy2⟩, hf2⟩ := HA2.out.cell hlt; clear hb2)
        go_roundw
        case rel => exact ⟨k + 1, by omega, by go_num, by
            show Ar _ _ _ _
            rw [HTk.out, List.map_append]
            exact HA2.out.set HLn.out hlt _, by
            show ∀ s' ∈ ss.take (k + 1), _
            rw [HTk.out]
            intro s' hs'
            rcases List.mem_append.1 hs' with h | h
            · exact HG.out s' h
            · simp only [List.mem_singleton] at h
              rw [h]; omega, HB2.out.setCell (by simp) _⟩
        case measure => simp [intOf]; omega
    · obtain rfl : k = pl := by omega
      have hi : ¬ (k : Int) < (k : Int) := by omega
      have hfull : ss.take k = ss := List.take_of_length_le (by rw [HP.out.1]; exact Nat.le_refl _)
      rw [hfull] at HA HG
      have HR := hide (groundP_good HG.out)
      have HLn : Hid ((ss.map (idP · sub)).length = k) := by show _ = _; rw [List.length_map]; exact HP.out.1
      have HI : Hid (∀ x ∈ ss.map (idP · sub), I64 x) := fun x hx => by
        obtain ⟨s, hs, rfl⟩ := List.mem_map.1 hx
        exact idP_I64 (HP.out.2.2.1 s hs) HS.out.2.2.1
      go_wp2
      go_ret2
      refine ⟨.inr ⟨_, some ⟨w.heap.size + 1, 0, none⟩, k, HR.out, ?_, ?_, ?_, (fun h => by cases h), fun ad h => by cases h; simp⟩, HB.out⟩
      · rw [HLn.out]; rfl
      · rw [HLn.out]; exact HA.out.nums HLn.out HI.out (by omega)
      · rw [HLn.out]; exact Nat.le_refl _

set_option maxRecDepth 100000 in
set_option maxHeartbeats 1000000 in
theorem rground_any {w : World} {q : Int} {pa sa : Option Addr} {pl pc sl sc : Nat} {ss : List Slt} {sub : List Int} (hp : IsSlts w pa pl ss) (hs : IsNums w sa sl sub) :
    Calls Try.prog 14 #[.agg #[.int .i64 q, .slice pa pl pc], .slice sa sl sc] w fun e w' => ListRes w w' (groundP ss sub) e ∧ Below w.heap.size w w' := by
  obtain ⟨i0, hi0, hz0, hz1, hz2⟩ := info_parts Try.infoInt6
  have HP := hide hp
  have HS := hide hs
  have hz := hp.2.1
  clear hp hs
  go_enter Try.func14, Try.ntmps14
  go_wp2
  obtain ⟨Y, hY⟩ : ∃ Y, Y = (w.alloc (.cells #[.int .i64 q, .slice pa pl pc] 24)) := ⟨_, rfl⟩
  have HB0 : Hid (Below w.heap.size w Y) := by rw [hY]; exact (Below.refl _ w).alloc (Nat.le_refl _) _
  rw [← hY]
  clear hY
  go_loopw [6, 8, 9, 13] (fun o _ _ i wr => ∃ k : Nat, k ≤ pl ∧ i = .int .i64 k ∧ Hid (wr.ownsRow w.heap.size 3 1 o k (numsV ((ss.take k).map (idP · sub)))) ∧ Hid (∀ s ∈ ss.take k, 0 ≤ idP s sub) ∧ Hid (Below w.heap.size w wr)) (fun _ _ _ i _ => pl - (intOf i).toNat)
  case atStart => exact ⟨0, by omega, rfl, World.ownsRow_nil _ _ _ _, by show ∀ s ∈ ss.take 0, _; simp, HB0.out⟩
  case round =>
    obtain ⟨k, hk, rfl, HO, HG, HB⟩ := hrel
    obtain ⟨oa, oc, rfl, hoc, hon, hob⟩ := own_shape6 HO.out
    by_cases hlt : k < pl
    · have hi : (k : Int) < (pl : Int) := by omega
      have hi1 : (0 : Int) ≤ (k : Int) := by omega
      obtain ⟨b1, o1, rfl, hr1⟩ := HP.out.2.2.2 (by omega)
      obtain ⟨s, hs⟩ : ∃ s, ss[k]? = some s := ⟨_, List.getElem?_eq_getElem (by rw [HP.out.1]; omega)⟩
      obtain ⟨x0, x1⟩ := (hr1 k s hs).kept HB.out
      have hsn := HP.out.2.2.1 s (List.mem_of_getElem? hs)
      have HBx : Hid (Below w.heap.size w (wr.alloc (.cells #[.bool s.v, .int .i64 s.n] 43))) := HB.out.alloc HB.out.size _
      have HOx : Hid ((wr.alloc (.cells #[.bool s.v, .int .i64 s.n] 43)).ownsRow w.heap.size 3 1 (.slice oa k oc) k (numsV ((ss.take k).map (idP · sub)))) := own_kept6 HO.out ((Below.refl _ _).alloc (Nat.le_refl _) _)
      have HId := hide (value_any (s := s) (cap := sc) hsn (HS.out.kept HBx.out))
      unfold Slt.val at HId
      have HX := hide hs
      have hge := idP_ge s sub
      clear hr1 hs hsn hon hob hoc
      have HTk : Hid (ss.take (k + 1) = ss.take k ++ [s]) := by show _ = _; rw [List.take_add_one, HX.out]; rfl
      by_cases hneg : idP s sub < 0
      · have HR := hide (groundP_bad HX.out hneg)
        go_wp2_with (go_at_call 26; refine HId.out.mono ?_; rintro e w2 ⟨rfl, hb2⟩; have HB2 := hide (HBx.out.trans (hb2.mono HBx.out.size)); clear hb2)
        go_ret2
        exact ⟨.inl ⟨HR.out, rfl⟩, HB2.out⟩
      · obtain ⟨x, hx⟩ : ∃ x, idP s sub = x := ⟨_, rfl⟩
        have HXv := hide hx
        rw [hx] at HId hneg hge
        clear hx
        go_wp2_with (first
          | (go_at_call 26; refine HId.out.mono ?_; rintro e w2 ⟨rfl, hb2⟩; have HO2 := hide (own_kept6 (own_kept6 HOx.out hb2) ((Below.refl _ _).alloc (Nat.le_refl _) (.cells #[.int .i64 x] 3))); have HB2 := hide (HBx.out.trans (hb2.mono HBx.out.size)); clear hb2)
          | (at_builtin; refine wpList_append_any rfl _ _ 25 rfl w.heap.size 3 i0 (.int .i64 0) 1 8 Try.underlying25 hi0 hz0 hz1 hz2 rfl (by decide) _ k (numsV ((ss.take k).map (idP · sub))) rfl HO2.out (some ⟨w2.heap.size, 0, none⟩) 1 1 [.int .i64 x] rfl (fun h => by cases h) rfl (fun ad h => by cases h; exact World.news_of_block (cs := #[.int .i64 x]) (t := 3) (fr := (0, 0)) (heap_alloc_new w2 _)) (by simp [Value.oneCell']) (by unfold maxLen; omega) (by omega) (by simp; have := HB2.out.size; omega) ?_))
        intro v3 w3 hown3 hgrow
        have hB3 : Below w.heap.size w w3 := below_grown (HB2.out.alloc HB2.out.size _) HO2.out hgrow (by simp; have := HB2.out.size; omega)
        have HO3 := hide hown3
        have HB3 := hide hB3
        clear hown3 hgrow hB3
        go_wp2
        go_roundw
        case rel => exact ⟨k + 1, by omega, by go_num, by
            show World.ownsRow _ _ _ _ _ _ _
            rw [HTk.out, List.map_append, numsV_append]
            have := HO3.out
            rw [← HXv.out, ← List.map_take] at this
            exact this, by
            show ∀ s' ∈ ss.take (k + 1), _
            rw [HTk.out]
            intro s' hs'
            rcases List.mem_append.1 hs' with h | h
            · exact HG.out s' h
            · simp only [List.mem_singleton] at h
              rw [h, HXv.out]; omega, HB3.out⟩
        case measure => simp [intOf]; omega
    · obtain rfl : k = pl := by omega
      have hi : ¬ (k : Int) < (k : Int) := by omega
      have hfull : ss.take k = ss := List.take_of_length_le (by rw [HP.out.1]; exact Nat.le_refl _)
      rw [hfull] at HO HG
      have HR := hide (groundP_good HG.out)
      have HLn : Hid ((ss.map (idP · sub)).length = k) := by show _ = _; rw [List.length_map]; exact HP.out.1
      have HI : Hid (∀ x ∈ ss.map (idP · sub), I64 x) := fun x hx => by
        obtain ⟨s, hs, rfl⟩ := List.mem_map.1 hx
        exact idP_I64 (HP.out.2.2.1 s hs) HS.out.2.2.1
      have HS1 := hide (And.intro hoc (And.intro hon hob))
      clear hoc hon hob
      go_wp2
      go_ret2
      refine ⟨.inr ⟨_, oa, oc, HR.out, ?_, ?_, ?_, ?_, ?_⟩, HB.out⟩
      · rw [HLn.out]; rfl
      · rw [HLn.out]; exact own_nums HO.out HI.out (by omega)
      · rw [HLn.out]; exact HS1.out.1
      · rw [HLn.out]; exact HS1.out.2.1
      · intro ad had; obtain ⟨g, rfl, h⟩ := HS1.out.2.2 ad had; exact h
end Go.Proofs.Ytnahfhfnodghaaa
