/- What noPlace, ContainsFunc with it, and widened answer. -/
import Derived.Test.YtnahfhfnodghaaaExtPure
import Derived.Test.YtnahfhfnodghaaaMatchGround
namespace Go.Proofs.Ytnahfhfnodghaaa
set_option linter.unusedSimpArgs false
set_option linter.unusedVariables false
open Go.RowKit

/-- A row of numbers in a block of its own, all of it. -/
def ArE (w : World) (g : Nat) (l : List Int) : Prop := w.heap[g]? = some (.cells (numsV l).toArray 3 (0, 0))

theorem ArE.lt {w : World} {g : Nat} {l : List Int} (h : ArE w g l) : g < w.heap.size := (Array.getElem?_eq_some_iff.1 h).1
theorem ArE.kept {w w' : World} {g : Nat} {l : List Int} (h : ArE w g l) (hb : Below w.heap.size w w') : ArE w' g l := by
  unfold ArE
  rw [hb.block g h.lt]
  exact h
theorem ArE.at {w : World} {g : Nat} {l : List Int} (h : ArE w g l) {k : Nat} {x : Int} (hk : l[k]? = some x) : w.cell? ⟨g, k, none⟩ = some (.int .i64 x) := by
  unfold ArE at h
  simp [World.cell?, h, numsV, hk]
theorem ArE.fz {w : World} {g : Nat} {l : List Int} (h : ArE w g l) (k : Nat) : w.frozen? ⟨g, k, none⟩ = false := by
  unfold ArE at h
  simp [World.frozen?, h]
theorem ArE.set {w : World} {g : Nat} {l : List Int} (h : ArE w g l) (k : Nat) (x : Int) : ArE (w.setCell ⟨g, k, none⟩ (.int .i64 x)) g (l.set k x) := by
  unfold ArE at h ⊢
  simp [World.setCell, Array.getElem?_modify, h, numsV, List.map_set]
theorem ArE.nums {w : World} {g : Nat} {l : List Int} (h : ArE w g l) (hI : ∀ x ∈ l, I64 x) (hz : l.length * 8 ≤ 140737488355328) : IsNums w (some ⟨g, 0, none⟩) l.length l :=
  ⟨rfl, hz, hI, fun _ => ⟨g, 0, rfl, fun i x hx => by rw [Nat.zero_add]; exact h.at hx⟩⟩

theorem makeIntsE (w : World) (n : Nat) (hn : n * 8 ≤ 140737488355328) : ∃ o, (Instr.makeSlice 25 (.int .i64 (n : Int)) (.int .i64 (n : Int))).run Try.prog w = .ok (.slice (some ⟨w.heap.size, 0, none⟩) n n) (w.alloc o) ∧ ArE (w.alloc o) w.heap.size (List.replicate n 0) := by
  obtain ⟨i0, hi0, hz0, hz1, hz2⟩ := info_parts Try.infoInt6
  have := run_make (P := Try.prog) w 25 3 i0 _ Try.underlying25 hi0 hz0 .i64 .i64 (n : Int) (n : Int) (by omega) (by omega) (by rw [hz2]; omega) (by omega)
  rw [hz1] at this
  refine ⟨_, by simpa only [Int.toNat_natCast, Nat.mul_one] using this, ?_⟩
  unfold ArE
  rw [heap_alloc_new]
  have e : madeCells (Value.int .i64 0).cells n = (numsV (List.replicate n 0)).toArray := by
    apply Array.ext
    · simp [size_madeCells, numsV]
    · intro i h1 h2
      simp [madeCells, Value.cells, Nat.mod_one, numsV]
  rw [e]

theorem noPlace_any (s : Slt) (w : World) (hs : I64 s.n) : Calls Try.prog 23 #[s.val] w fun e w' => e = .returned (.bool (noSlot s)) ∧ Below w.heap.size w w' := by
  obtain ⟨v, n⟩ := s
  unfold Slt.val noSlot
  obtain ⟨hn1, hn2⟩ := hs
  simp only at hn1 hn2 ⊢
  have HB : Hid (Below w.heap.size w (w.alloc (.cells #[.bool v, .int .i64 n] 43))) := (Below.refl _ _).alloc (Nat.le_refl _) _
  by_cases h0 : n < 0
  · go_enter Try.func23, Try.ntmps23
    go_wp2
    go_ret
    exact ⟨by simp [h0], HB.out⟩
  · cases v with
    | false =>
      go_enter Try.func23, Try.ntmps23
      go_wp2
      go_ret
      exact ⟨by simp [h0], HB.out⟩
    | true =>
      by_cases h16 : 16 ≤ n
      · go_enter Try.func23, Try.ntmps23
        go_wp2
        go_ret
        exact ⟨by simp [h0, h16], HB.out⟩
      · go_enter Try.func23, Try.ntmps23
        go_wp2
        go_ret
        exact ⟨by simp [h0, h16], HB.out⟩

theorem anyS_take_succ {l : List Slt} {f : Slt → Bool} {k : Nat} {x : Slt} (hx : l[k]? = some x) : (l.take (k + 1)).any f = ((l.take k).any f || f x) := by
  have hk : k < l.length := (List.getElem?_eq_some_iff.1 hx).1
  have e : l[k] = x := by rw [List.getElem?_eq_getElem hk] at hx; exact Option.some.inj hx
  rw [List.take_succ_eq_append_getElem hk, List.any_append, e]
  simp
theorem anyS_of_at {l : List Slt} {f : Slt → Bool} {k : Nat} {x : Slt} (hx : l[k]? = some x) (hf : f x = true) : l.any f = true := List.any_eq_true.2 ⟨x, List.mem_of_getElem? hx, hf⟩

set_option maxHeartbeats 1000000 in
theorem idxSlot {w : World} {ao : Option Addr} {len cap : Nat} {l : List Slt} (h : IsSlts w ao len l) :
    Calls Try.prog 33 #[.slice ao len cap, .func (.func 23) #[] #[]] w fun e w' => (∃ r : Int, e = .returned (.int .i64 r) ∧ decide (0 ≤ r) = l.any noSlot) ∧ Below w.heap.size w w' := by
  obtain ⟨hl, hlen, hI, hrow⟩ := h
  have HL := hide hl
  have HI := hide hI
  have HR := hide hrow
  clear hl hI hrow
  go_enter Try.func33, Try.ntmps33
  go_wp2
  go_loopw [5, 8] (fun _ i wr => ∃ k : Nat, k ≤ len ∧ i = .int .i64 k ∧ Hid (Below w.heap.size w wr) ∧ Hid ((l.take k).any noSlot = false)) (fun _ i _ => len - (intOf i).toNat)
  case atStart => exact ⟨0, by omega, rfl, Below.refl _ _, by show (l.take 0).any noSlot = false; simp⟩
  case round =>
    obtain ⟨k, hk, rfl, HB, HA⟩ := hrel
    by_cases hlt : k < len
    · have hi : (k : Int) < (len : Int) := by omega
      have hi0 : (0 : Int) ≤ (k : Int) := by omega
      obtain ⟨b, off, rfl, hc⟩ := HR.out (by omega)
      obtain ⟨x, hx⟩ : ∃ x, l[k]? = some x := ⟨_, List.getElem?_eq_getElem (by rw [HL.out]; omega)⟩
      obtain ⟨x0, x1⟩ := (hc k x hx).kept HB.out
      have HX := hide hx
      have hix := HI.out x (List.mem_of_getElem? hx)
      clear hc hx
      have HF := hide (noPlace_any x wr hix)
      unfold Slt.val at HF
      cases hb : noSlot x with
      | true =>
        rw [hb] at HF
        go_wp2_with (go_at_call 23; refine HF.out.mono ?_; rintro e w2 ⟨rfl, hb2⟩; have HB2 := hide (HB.out.trans (hb2.mono HB.out.size)); clear hb2)
        go_ret
        exact ⟨⟨k, rfl, by rw [anyS_of_at HX.out hb]; simp⟩, HB2.out⟩
      | false =>
        rw [hb] at HF
        go_wp2_with (go_at_call 23; refine HF.out.mono ?_; rintro e w2 ⟨rfl, hb2⟩; have HB2 := hide (HB.out.trans (hb2.mono HB.out.size)); clear hb2)
        go_roundw
        case rel => exact ⟨k + 1, by omega, by go_num, HB2.out, by show (l.take (k + 1)).any noSlot = false; rw [anyS_take_succ HX.out, HA.out, hb]; rfl⟩
        case measure => simp [intOf]; omega
    · obtain rfl : k = len := by omega
      have hi : ¬ (k : Int) < (k : Int) := by omega
      go_wp2
      go_ret
      have ha := HA.out
      rw [← HL.out, List.take_length] at ha
      exact ⟨⟨-1, rfl, by rw [ha]; rfl⟩, HB.out⟩

theorem containsSlot {w : World} {ao : Option Addr} {len cap : Nat} {l : List Slt} (h : IsSlts w ao len l) :
    Calls Try.prog 22 #[.slice ao len cap, .func (.func 23) #[] #[]] w fun e w' => e = .returned (.bool (l.any noSlot)) ∧ Below w.heap.size w w' := by
  have hx := idxSlot (cap := cap) h
  clear h
  go_enter Try.func22, Try.ntmps22
  go_wp2_with (go_at_call 33; refine hx.mono ?_; rintro e w2 ⟨⟨r, rfl, hr⟩, hb⟩; revert hr hb)
  intro hb hr
  have HR := hide hr
  have HB := hide hb
  clear hr hb
  by_cases h0 : 0 ≤ r
  · go_wp2
    go_ret
    refine ⟨?_, HB.out⟩
    rw [← HR.out]
    simp [h0]
  · go_wp2
    go_ret
    refine ⟨?_, HB.out⟩
    rw [← HR.out]
    simp [h0]

theorem widthP_snoc (l : List Slt) (s : Slt) (n : Nat) : widthP (l ++ [s]) n = if s.v then max (widthP l n) (s.n.toNat + 1) else widthP l n := by
  unfold widthP
  rw [List.foldl_append]
  rfl

set_option maxRecDepth 100000 in
set_option maxHeartbeats 1000000 in
theorem widened_any {w : World} {q : Int} {pa sa : Option Addr} {pl pc sl sc : Nat} {ss : List Slt} {sub : List Int} (hp : IsSlts w pa pl ss) (hs : IsNums w sa sl sub) (hn : ss.any noSlot = false) :
    Calls Try.prog 24 #[.slice sa sl sc, .agg #[.int .i64 q, .slice pa pl pc]] w fun e w' => ∃ g, e = .returned (.slice (some ⟨g, 0, none⟩) (widthP ss sl) (widthP ss sl)) ∧ w.heap.size ≤ g ∧ ArE w' g (startL sub (widthP ss sl)) ∧ Below w.heap.size w w' := by
  have HP := hide hp
  have HS := hide hs
  have hz := hp.2.1
  have hz2 := hs.2.1
  have HNs : Hid (∀ s ∈ ss, noSlot s = false) := by show ∀ s ∈ ss, noSlot s = false; simpa using hn
  have HB0 : Hid (Below w.heap.size w (w.alloc (.cells #[.int .i64 q, .slice pa pl pc] 24))) := (Below.refl _ _).alloc (Nat.le_refl _) _
  clear hp hs hn
  go_enter Try.func24, Try.ntmps24
  go_wp2
  go_loopw [5, 7, 17] (fun wd _ i wr => ∃ k : Nat, k ≤ pl ∧ i = .int .i64 k ∧ wd = .int .i64 (widthP (ss.take k) sl : Nat) ∧ Hid (Below w.heap.size w wr)) (fun _ _ i _ => pl - (intOf i).toNat)
  case atStart => exact ⟨0, by omega, rfl, by simp [widthP], HB0.out⟩
  case round =>
    obtain ⟨k, hk, rfl, rfl, HB⟩ := hrel
    by_cases hlt : k < pl
    · have hi : (k : Int) < (pl : Int) := by omega
      have hi0 : (0 : Int) ≤ (k : Int) := by omega
      obtain ⟨b1, o1, rfl, hr1⟩ := HP.out.2.2.2 (by omega)
      obtain ⟨s, hs⟩ : ∃ s, ss[k]? = some s := ⟨_, List.getElem?_eq_getElem (by rw [HP.out.1]; omega)⟩
      obtain ⟨x0, x1⟩ := (hr1 k s hs).kept HB.out
      have HX := hide hs
      have HTk : Hid (widthP (ss.take (k + 1)) sl = if s.v then max (widthP (ss.take k) sl) (s.n.toNat + 1) else widthP (ss.take k) sl) := by
        show _ = _
        rw [List.take_add_one, HX.out]
        exact widthP_snoc _ _ _
      have HB2 : Hid (Below w.heap.size w (wr.alloc (.cells #[.bool s.v, .int .i64 s.n] 43))) := HB.out.alloc HB.out.size _
      have hwl : widthP (ss.take k) sl ≤ max sl 16 := widthP_le _ _ (fun s hs => HNs.out s (List.mem_of_mem_take hs))
      have hns := HNs.out s (List.mem_of_getElem? hs)
      have hsl : sl ≤ 17592186044416 := by omega
      have hwl2 : widthP (ss.take k) sl ≤ 17592186044416 := Nat.le_trans hwl (Nat.max_le.2 ⟨hsl, by decide⟩)
      clear hr1 hs hwl
      obtain ⟨sv, sn⟩ := s
      simp only at *
      simp only [noSlot, Bool.or_eq_false_iff, decide_eq_false_iff_not] at hns
      obtain ⟨hn0, hn16⟩ := hns
      generalize widthP (ss.take k) sl = W at *
      cases sv with
      | false =>
        simp only [Bool.false_eq_true, if_false] at HTk
        clear hn16
        go_wp2
        go_roundw
        case rel => exact ⟨k + 1, by omega, by go_num, by rw [HTk.out], HB2.out⟩
        case measure => simp [intOf]; omega
      | true =>
        simp only [if_true] at HTk
        have hn17 : sn < 16 := by simpa using hn16
        obtain ⟨m, rfl⟩ : ∃ m : Nat, sn = m := ⟨sn.toNat, by omega⟩
        have HTk2 : Hid (widthP (ss.take (k + 1)) sl = max W (m + 1)) := HTk.out
        clear hn16 HTk
        by_cases hmx : W ≤ m + 1
        · have hq : ¬ ((m : Int) + 1 < (W : Int)) := by omega
          have HM : Hid (max W (m + 1) = m + 1) := Nat.max_eq_right hmx
          go_wp2
          all_goals go_roundw
          case rel => exact ⟨k + 1, by omega, by go_num, by rw [HTk2.out, HM.out]; go_num, HB2.out⟩
          case measure => simp [intOf]; omega
        · have hq : ((m : Int) + 1 < (W : Int)) := by omega
          have HM : Hid (max W (m + 1) = W) := Nat.max_eq_left (by omega)
          go_wp2
          all_goals go_roundw
          case rel => exact ⟨k + 1, by omega, by go_num, by rw [HTk2.out, HM.out, if_neg (by omega)], HB2.out⟩
          case measure => simp [intOf]; omega
    · obtain rfl : k = pl := by omega
      have hi : ¬ (k : Int) < (k : Int) := by omega
      have hfull : ss.take k = ss := List.take_of_length_le (by rw [HP.out.1]; exact Nat.le_refl _)
      rw [hfull]
      clear hfull
      have hwl : widthP ss sl ≤ max sl 16 := widthP_le _ _ HNs.out
      have hsl : sl ≤ 17592186044416 := by omega
      have hwl2 : widthP ss sl ≤ 17592186044416 := Nat.le_trans hwl (Nat.max_le.2 ⟨hsl, by decide⟩)
      have hge := widthP_ge ss sl
      obtain ⟨W, hW⟩ : ∃ W, widthP ss sl = W := ⟨_, rfl⟩
      have HWe := hide hW
      rw [hW] at hwl2 hge ⊢
      clear hW
      obtain ⟨o, hmk, hA0⟩ := makeIntsE wr W (by omega)
      have HA0 := hide hA0
      have HBo : Hid (Below w.heap.size w (wr.alloc o)) := HB.out.alloc HB.out.size _
      clear hA0 hwl
      go_wp2
      clear hmk
      obtain ⟨gg, hgg⟩ : ∃ gg, wr.heap.size = gg := ⟨_, rfl⟩
      have HG : Hid (w.heap.size ≤ gg) := by rw [← hgg]; exact HB.out.size
      rw [hgg] at HA0 ⊢
      generalize wr.alloc o = Y at *
      clear hgg
      go_loopw [9, 33] (fun _ i wl => ∃ j : Nat, j ≤ W ∧ i = .int .i64 j ∧ Hid (∃ l : List Int, ArE wl gg l ∧ l.length = W ∧ ∀ m, m < j → l[m]? = some (-1)) ∧ Hid (Below w.heap.size w wl)) (fun _ i _ => W - (intOf i).toNat)
      case atStart => exact ⟨0, by omega, rfl, ⟨_, HA0.out, List.length_replicate .., fun m hm => by omega⟩, HBo.out⟩
      case round =>
        rename_i wl _ _ _ _ _ _ _
        obtain ⟨j, hj, rfl, HL, HBl⟩ := hrel
        by_cases hlt2 : j < W
        · have hi2 : (j : Int) < (W : Int) := by omega
          have hi3 : (0 : Int) ≤ (j : Int) := by omega
          obtain ⟨l, hAl, hll, hlm⟩ := HL.out
          obtain ⟨y, hy⟩ : ∃ y, l[j]? = some y := ⟨_, List.getElem?_eq_getElem (by omega)⟩
          have c0 := hAl.at hy
          have f0 := hAl.fz j
          have HAl := hide hAl
          have HLm := hide hlm
          have HLl := hide hll
          clear hy hAl hlm hll
          go_wp2
          go_roundw
          case rel => exact ⟨j + 1, by omega, by go_num, ⟨_, HAl.out.set j (-1), by rw [List.length_set]; exact HLl.out, fun m hm => by
            by_cases h : j = m
            · subst h; rw [List.getElem?_set_self (by rw [HLl.out]; exact hlt2)]
            · rw [List.getElem?_set_ne h]; exact HLm.out m (by omega)⟩, HBl.out.setCell (by have := HG.out; simp; omega) _⟩
          case measure => simp [intOf]; omega
        · obtain rfl : j = W := by omega
          have hi2 : ¬ (j : Int) < (j : Int) := by omega
          go_wp2
          go_loopw [10, 11, 42] (fun _ _ i wl => ∃ m : Nat, m ≤ sl ∧ i = .int .i64 m ∧ Hid (∃ l : List Int, ArE wl gg l ∧ l.length = j ∧ ∀ i, i < j → l[i]? = some (if i < m then startP sub i else -1)) ∧ Hid (Below w.heap.size w wl)) (fun _ _ i _ => sl - (intOf i).toNat)
          case atStart => exact ⟨0, by omega, rfl, by obtain ⟨l, h1, h2, h3⟩ := HL.out; exact ⟨l, h1, h2, fun i hi => by rw [if_neg (by omega)]; exact h3 i hi⟩, HBl.out⟩
          case round =>
            obtain ⟨m, hm, rfl, HM, HBm⟩ := hrel
            by_cases hlt3 : m < sl
            · have hi4 : (m : Int) < (sl : Int) := by omega
              have hi5 : (0 : Int) ≤ (m : Int) := by omega
              have hi6 : (m : Int) < (j : Int) := by omega
              obtain ⟨l, hAl, hll, hlm⟩ := HM.out
              obtain ⟨y, hy⟩ : ∃ y, l[m]? = some y := ⟨_, List.getElem?_eq_getElem (by omega)⟩
              obtain ⟨b2, o2, rfl, hr2⟩ := HS.out.2.2.2 (by omega)
              obtain ⟨x, hx⟩ : ∃ x, sub[m]? = some x := ⟨_, List.getElem?_eq_getElem (by rw [HS.out.1]; omega)⟩
              have x0 := kept_cell HBm.out (hr2 m x hx)
              have c0 := hAl.at hy
              have f0 := hAl.fz m
              have HAl := hide hAl
              have HLm := hide hlm
              have HLl := hide hll
              have HSt : Hid (startP sub m = if x < 0 then -1 else x) := by show _ = _; simp only [startP, hx]
              clear hy hAl hlm hll hr2 hx
              have HNext : Hid (∀ wn, ArE wn gg (l.set m (startP sub m)) → ∃ l : List Int, ArE wn gg l ∧ l.length = j ∧ ∀ i, i < j → l[i]? = some (if i < m + 1 then startP sub i else -1)) := fun wn h => ⟨_, h, by rw [List.length_set]; exact HLl.out, fun i hi => by
                by_cases h : m = i
                · subst h; rw [List.getElem?_set_self (by rw [HLl.out]; omega), if_pos (by omega)]
                · rw [List.getElem?_set_ne h, HLm.out i hi]
                  by_cases h2 : i < m
                  · rw [if_pos h2, if_pos (by omega)]
                  · rw [if_neg h2, if_neg (by omega)]⟩
              by_cases hx0 : x < 0
              · have HSt2 : Hid (startP sub m = -1) := by show _ = _; rw [HSt.out, if_pos hx0]
                go_wp2
                all_goals go_roundw
                case rel => exact ⟨m + 1, by omega, by go_num, HNext.out _ (by
                  rw [HSt2.out]
                  first | exact HAl.out.set m (-1) | (have := HAl.out.set m (-1); rw [show x = -1 from by omega]; exact this) | (rw [if_pos (by omega)]; exact HAl.out.set m (-1)) | (by_cases h : x < -1 <;> simp [h] <;> first | exact HAl.out.set m (-1) | (rw [show x = -1 from by omega]; exact HAl.out.set m (-1)))), HBm.out.setCell (by have := HG.out; simp; omega) _⟩
                case measure => simp [intOf]; omega
              · have HSt2 : Hid (startP sub m = x) := by show _ = _; rw [HSt.out, if_neg hx0]
                have hx1 : ¬ x < -1 := by omega
                go_wp2
                all_goals go_roundw
                case rel => exact ⟨m + 1, by omega, by go_num, HNext.out _ (by
                  rw [HSt2.out]
                  first | exact HAl.out.set m x | (rw [if_neg (by omega)]; exact HAl.out.set m x)), HBm.out.setCell (by have := HG.out; simp; omega) _⟩
                case measure => simp [intOf]; omega
            · obtain rfl : m = sl := by omega
              have hi4 : ¬ (m : Int) < (m : Int) := by omega
              have HFin : Hid (∃ l, ArE wr gg l ∧ l = startL sub j) := by
                obtain ⟨l, h1, h2, h3⟩ := HM.out
                refine ⟨l, h1, ?_⟩
                apply List.ext_getElem?
                intro i
                by_cases hi : i < j
                · rw [h3 i hi, startL_at hi]
                  by_cases h : i < m
                  · rw [if_pos h]
                  · rw [if_neg h]
                    have : sub[i]? = none := List.getElem?_eq_none (by rw [HS.out.1]; omega)
                    simp only [startP, this]
                · rw [List.getElem?_eq_none (by omega), List.getElem?_eq_none (by rw [startL_len]; omega)]
              go_wp2
              go_ret
              obtain ⟨l, hAl, rfl⟩ := HFin.out
              exact ⟨gg, by rw [HWe.out]; rfl, HG.out, by rw [HWe.out]; exact hAl, HBm.out⟩
end Go.Proofs.Ytnahfhfnodghaaa
