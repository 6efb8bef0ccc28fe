/- edictlaw02.LexNames returns true: the numbers of the kinds and of the faults. -/
import Derived.Test.YtgbnoggapejinaaDoorProg
import Derived.Test.YtgbnoggapejinaaDoorNamesPure
namespace Go.Proofs.YtgbnoggapejinaaDoor
set_option linter.unusedSimpArgs false
set_option linter.unusedVariables false
open Go.RowKit
attribute [local go_sem] over_cellAt over_frozenAt over_setAt

theorem own_ints {w : World} {base : Nat} {v : Value} {n : Nat} {zs : List Int} (h : w.ownsRow base 3 1 v n (zs.map (Value.int .i64))) (h0 : 0 < n) (hn : zs.length = n) :
    ∃ g cap, v = .slice (some ⟨g, 0, none⟩) n cap ∧ base ≤ g ∧ g < w.heap.size ∧ ∀ i z, zs[i]? = some z → w.cell? ⟨g, i, none⟩ = some (.int .i64 z) := by
  rcases h.2 with ⟨_, h1⟩ | ⟨g, cap, cur, hv, hbase, hb, h1, h2, h3, h4⟩
  · omega
  refine ⟨g, cap, hv, hbase, (Array.getElem?_eq_some_iff.1 hb).1, fun i z hi => ?_⟩
  have hlt : i < zs.length := (List.getElem?_eq_some_iff.1 hi).1
  have e : (cur.toList.take (n * 1))[i]? = (zs.map (Value.int .i64))[i]? := by rw [h4]
  rw [List.getElem?_take_of_lt (by omega), Array.getElem?_toList, List.getElem?_map, hi] at e
  simp only [World.cell?, hb]
  simp only [Option.isSome_none, Bool.false_eq_true, if_false]
  exact e

def wantO : Obj := .cells #[.int .i64 10, .int .i64 20, .int .i64 30, .int .i64 40, .int .i64 50, .int .i64 60, .int .i64 70, .int .i64 80, .int .i64 90, .int .i64 100, .int .i64 111, .int .i64 112, .int .i64 113, .int .i64 114, .int .i64 115, .int .i64 116, .int .i64 0] 3

theorem want_cells (w : World) : ∀ i z, nameL[i]? = some z → (w.alloc wantO).cell? ⟨w.heap.size, i, none⟩ = some (.int .i64 z) := by
  intro i z hi
  have h := heap_alloc_new w wantO
  unfold wantO at h ⊢
  simp only [World.cell?, h]
  simp only [Option.isSome_none, Bool.false_eq_true, if_false]
  match i, hi with
  | 0, hi | 1, hi | 2, hi | 3, hi | 4, hi | 5, hi | 6, hi | 7, hi | 8, hi | 9, hi | 10, hi | 11, hi | 12, hi | 13, hi | 14, hi | 15, hi | 16, hi => cases hi; rfl
  | i + 17, hi => simp [nameL] at hi

def Good (w W : World) : Prop := LexLaid W ∧ Below w.heap.size w W
theorem Good.grow {w W W' : World} (h : Good w W) (hb : Below W.heap.size W W') : Good w W' := ⟨h.1.kept hb, h.2.trans (hb.mono h.2.size)⟩
def Refd (s : ByteArray) (code : Int) : Prop := (scanX s).1 = [] ∧ (scanX s).2.1 = code ∧ s.size ≤ 140737488351232
theorem ref_hash : Refd ⟨#[35]⟩ 10 := ⟨congrArg Prod.fst scan_hash, congrArg Prod.snd scan_hash, by decide⟩
theorem ref_quote : Refd ⟨#[34]⟩ 11 := ⟨congrArg Prod.fst scan_quote, congrArg Prod.snd scan_quote, by decide⟩
theorem ref_esc : Refd ⟨#[34, 92, 113]⟩ 12 := ⟨congrArg Prod.fst scan_esc, congrArg Prod.snd scan_esc, by decide⟩
theorem ref_int : Refd ⟨#[49, 97]⟩ 13 := ⟨congrArg Prod.fst scan_int, congrArg Prod.snd scan_int, by decide⟩
theorem ref_open : Refd ⟨#[47, 42]⟩ 16 := ⟨congrArg Prod.fst scan_open, congrArg Prod.snd scan_open, by decide⟩
theorem refused_good {w : World} (s : ByteArray) (code : Int) (W : World) (hg : Hid (Good w W)) (hr : Refd s code) :
    Calls Tryd.prog 10 #[.string s, .int .i64 code] W fun e w' => e = .returned (.bool true) ∧ Hid (Good w w') :=
  (refused_any s code W hg.out.1 hr.2.2 hr.1 hr.2.1).mono fun _ _ ⟨he, hb⟩ => ⟨he, hg.out.grow hb⟩

set_option maxHeartbeats 4000000 in
set_option maxRecDepth 100000 in
theorem lexNames_walk (w : World) (hl : LexLaid w) :
    Calls Tryd.prog 3 #[] w fun e w' => e = .returned (.bool true) ∧ Below w.heap.size w w' := by
  have HK := kindsOf_any nameT w hl (by decide) (by decide +kernel)
  have e1 := congrArg Prod.fst scan_names
  have e2 := congrArg (fun x => x.2.1) scan_names
  have e3 := congrArg (fun x => x.2.2) scan_names
  simp only at e1 e2 e3
  rw [e1, e2, e3] at HK
  unfold nameT at HK
  replace HK := hide HK
  have HL := hide hl
  clear e1 e2 e3 hl
  go_enter Tryd.func3, Tryd.ntmps3
  go_wp2_with (go_at_call 9; refine HK.out.mono ?_; rintro e w1 ⟨v, rfl, hown, hb1⟩; obtain ⟨g, cp, rfl, hg1, hg2, hrow⟩ := own_ints hown (by omega) rfl; have HRow := hide hrow; have HB1 := hide hb1; clear hown hrow hb1)
  change Code.wp _ _ _ _ (w1.alloc wantO)
  have hUb : Below w1.heap.size w1 (w1.alloc wantO) := (Below.refl _ _).alloc (Nat.le_refl _) _
  have HW := hide (want_cells w1)
  have HR1 : Hid (∀ i z, nameL[i]? = some z → (w1.alloc wantO).cell? ⟨g, i, none⟩ = some (.int .i64 z)) := fun i z hi => kept_cell hUb (HRow.out i z hi)
  have HG0 : Hid (Good w (w1.alloc wantO)) := by
    have h := HB1.out.trans (hUb.mono HB1.out.size)
    exact ⟨HL.out.kept h, h⟩
  clear hUb HRow HB1 HK
  generalize w1.alloc wantO = U at *
  generalize w1.heap.size = b at *
  go_loopw [4] (fun i wr => ∃ k : Nat, k ≤ 17 ∧ i = .int .i64 k ∧ Hid (Below U.heap.size U wr)) (fun i _ => 17 - (intOf i).toNat)
  case atStart => exact ⟨0, Nat.zero_le _, rfl, Below.refl _ _⟩
  case round =>
    obtain ⟨k, hk, rfl, HB⟩ := hrel
    by_cases hlt : k < 17
    · have hi : (k : Int) < 17 := by omega
      obtain ⟨z, hz⟩ : ∃ z, nameL[k]? = some z := ⟨_, List.getElem?_eq_getElem (by exact hlt)⟩
      have x0 := over_cell (kept_cell HB.out (HR1.out k z hz))
      have y0 := over_cell (kept_cell HB.out (HW.out k z hz))
      clear hz
      go_wp2
      refine wp_region_over (fun W => W = wr) (by kernel_rfl) (by kernel_rfl) rfl ?_
      rintro W rfl
      repeat (go_big_quiet_step (first | fail))
      refine wpQuiet_nil ?_
      rintro _ ⟨y, rfl⟩
      have HB2 : Hid (Below U.heap.size U (over W y)) := HB.out.trans ((over_below _ y).mono HB.out.size)
      clear x0 y0
      go_wp2
      go_roundw
      case rel => exact ⟨k + 1, by omega, by go_num, HB2⟩
      case measure => simp [intOf]; omega
    · obtain rfl : k = 17 := by omega
      have HG1 : Hid (Good w wr) := HG0.out.grow HB.out
      clear HG0 HR1 HW HB hlt
      go_wp2
      generalize hwr : wr = wa at *
      clear hwr
      go_loop [5, 6] (fun s i => ∃ k : Nat, k ≤ 16 ∧ i = .int .i64 k ∧ s = .string (rep (2 ^ k))) (fun _ i => 16 - (intOf i).toNat)
      case atStart => exact ⟨0, Nat.zero_le _, rfl, rfl⟩
      case round =>
        obtain ⟨k, hk, rfl, rfl⟩ := hrel
        have hsz := rep_size (2 ^ k)
        have hpow : 2 ^ k ≤ 65536 := Nat.le_trans (Nat.pow_le_pow_right (by decide) hk) (by decide)
        by_cases hlt : k < 16
        · have hi : (k : Int) < 16 := by omega
          have HD : Hid (rep (2 ^ k) ++ rep (2 ^ k) = rep (2 ^ (k + 1))) := by show _ = _; rw [rep_append, Nat.pow_succ, Nat.mul_two]
          have hb2 : (rep (2 ^ k)).size ≤ 65536 := by omega
          clear hsz hpow
          go_wp2
          go_round
          case rel => exact ⟨k + 1, by omega, by go_num, by rw [HD.out]⟩
          case measure => simp [intOf]; omega
        · obtain rfl : k = 16 := by omega
          clear hlt hk
          have F1 : Hid (Refd (rep (2 ^ 16)) 14) := ⟨by rw [rep_scan _ (by decide) (by decide)], by rw [rep_scan _ (by decide) (by decide)], by rw [rep_size]; decide⟩
          have F2 : Hid (Refd ((rep (2 ^ 16)).extract 0 65) 14) := by rw [rep_extract _ _ (by decide)]; exact ⟨by rw [rep_scan _ (by decide) (by decide)], by rw [rep_scan _ (by decide) (by decide)], by rw [rep_size]; decide⟩
          have F3 : Hid (Refd (⟨#[34]⟩ ++ (rep (2 ^ 16)).extract 0 256 ++ ⟨#[34]⟩) 15) := by
            rw [rep_extract _ _ (by decide)]
            exact ⟨congrArg Prod.fst scan_256, congrArg Prod.snd scan_256, by rw [ByteArray.size_append, ByteArray.size_append, rep_size]; decide⟩
          have F4 : Hid (Refd (rep (2 ^ 16) ++ ⟨#[97]⟩) 1) := by
            have h1 : (rep (2 ^ 16) ++ ⟨#[97]⟩).size = 65537 := by rw [ByteArray.size_append, rep_size]; rfl
            exact ⟨by rw [scan_over _ (by rw [h1]; decide)], by rw [scan_over _ (by rw [h1]; decide)], by rw [h1]; decide⟩
          have F5 : Hid ((rep (2 ^ 16)).extract 0 64 = rep 64) := rep_extract _ _ (by decide)
          have h65 : (65 : Int) ≤ ((rep (2 ^ 16)).size : Int) := by rw [hsz]; decide
          have h256 : (256 : Int) ≤ ((rep (2 ^ 16)).size : Int) := by rw [hsz]; decide
          have h64 : (64 : Int) ≤ ((rep (2 ^ 16)).size : Int) := by rw [hsz]; decide
          have hGs : (rep (2 ^ 16)).size ≤ 1000000 := by rw [hsz]; decide
          have HK64 : Hid (∀ W, Hid (Good w W) → Calls Tryd.prog 9 #[.string ((rep (2 ^ 16)).extract 0 64)] W fun e w' => ∃ g2 cp2, e = .returned (.tuple #[.slice (some ⟨g2, 0, none⟩) 2 cp2, .int .i64 0]) ∧ w'.cell? ⟨g2, 0, none⟩ = some (.int .i64 10) ∧ Below W.heap.size W w') := fun W hW => by
            rw [F5.out]
            have h := kindsOf_any (rep 64) W hW.out.1 (by decide) (by decide +kernel)
            have e1 := congrArg Prod.fst scan_64
            have e2 := congrArg (fun x => x.2.1) scan_64
            have e3 := congrArg (fun x => x.2.2) scan_64
            simp only at e1 e2 e3
            rw [e1, e2, e3] at h
            refine h.mono ?_
            rintro e w' ⟨v, he, hown, hb⟩
            obtain ⟨g2, cp2, rfl, _, _, hrow⟩ := own_ints (zs := [10, 0]) hown (by omega) rfl
            exact ⟨g2, cp2, he, hrow 0 10 rfl, hb⟩
          clear hsz hpow F5
          generalize rep (2 ^ 16) = G at *
          go_wp2_with (first
            | (go_at_call 10; refine (refused_good _ _ _ (by assumption) (by first | exact ref_hash | exact ref_quote | exact ref_esc | exact ref_int | exact ref_open | exact F1.out | exact F2.out | exact F3.out | exact F4.out)).mono ?_; rintro e w' ⟨rfl, hgood⟩)
            | (go_at_call 9; refine (HK64.out _ (by assumption)).mono ?_; rintro e w9 ⟨g2, cp2, rfl, hc9, hb9⟩; have HG9 := hide (hgood.out.grow hb9); clear hb9))
          go_ret
          exact ⟨rfl, HG9.out.2⟩

end Go.Proofs.YtgbnoggapejinaaDoor
