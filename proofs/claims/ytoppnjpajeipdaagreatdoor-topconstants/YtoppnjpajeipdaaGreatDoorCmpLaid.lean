/- sym.Compare draws and makes boxes alone; the order that it tells is a total one. -/
import Derived.Test.YtoppnjpajeipdaaGreatDoorProg
import Derived.Test.YtoppnjpajeipdaaGreatDoorCmp
import Derived.Shelf.GgSortFunc.SW
import Derived.Shelf.SlSortCmp.Insertion
namespace Go.Proofs.YtoppnjpajeipdaaGreatDoor
set_option linter.unusedSimpArgs false
set_option linter.unusedVariables false
open Go.RowKit Go.Sort Go.Proofs

theorem compare_laid (a b : Con) (w : World) :
    Calls Tryz.prog 14 #[a.val, b.val] w fun e w' => e = .returned (.int .i64 (cmpC a b)) ∧ ∃ q os', w' = grow (w.drewN q) os' := by
  obtain ⟨k, n, s⟩ := a
  obtain ⟨k', n', s'⟩ := b
  unfold Con.val
  by_cases h1 : (k == k') = true
  · have e1 : (k != k') = false := by simpa using h1
    by_cases h2 : (n == n') = true
    · have e2 : (n != n') = false := by simpa using h2
      go_enter Tryz.func14, Tryz.ntmps14
      go_wp2_with (go_at_call 30; refine (cmpStr_any _ _ _).mono ?_; rintro e w' ⟨rfl, rfl⟩)
      go_ret
      exact ⟨by simp only [cmpC, h1, h2]; rfl, 0, _, by rw [alloc_eq_grow, alloc_eq_grow, grow_grow]; rfl⟩
    · have h2' : (n == n') = false := by simpa using h2
      have e2 : (n != n') = true := by simpa using h2
      go_enter Tryz.func14, Tryz.ntmps14
      go_wp2_with (go_at_call 29; refine (cmpInt64_any _ _ _).mono ?_; rintro e w' ⟨rfl, rfl⟩)
      go_ret
      exact ⟨by simp only [cmpC, h1, h2']; rfl, 0, _, by rw [alloc_eq_grow, alloc_eq_grow, grow_grow]; rfl⟩
  · have h1' : (k == k') = false := by simpa using h1
    have e1 : (k != k') = true := by simpa using h1
    go_enter Tryz.func14, Tryz.ntmps14
    go_wp2_with (go_at_call 28; refine (cmpInt_any _ _ _).mono ?_; rintro e w' ⟨rfl, rfl⟩)
    go_ret
    exact ⟨by simp only [cmpC, h1']; rfl, 0, _, by rw [alloc_eq_grow, alloc_eq_grow, grow_grow]; rfl⟩

theorem cmpC_swo : SWO (ltOf cmpC) where
  irrefl x := by unfold ltOf; rw [cmpC_refl]; rfl
  trans x y z h k := by
    unfold ltOf at *
    simp only [decide_eq_true_eq] at *
    have h1 := cmpC_trans x y z (by omega) (by omega)
    have h2 := cmpC_anti x z
    rcases Int.lt_or_le (cmpC x z) 0 with h3 | h3
    · exact h3
    · have h4 : cmpC z x ≤ 0 := by omega
      have h5 := cmpC_trans z x y h4 (by omega)
      have h6 := cmpC_anti y z
      omega
  ntrans x y z h k := by
    unfold ltOf at *
    simp only [decide_eq_false_iff_not] at *
    have h1 := cmpC_anti x y
    have h2 := cmpC_anti y z
    have h3 := cmpC_anti x z
    have := cmpC_trans z y x (by omega) (by omega)
    omega

theorem cmpC_total (x y : Con) (h : ltOf cmpC x y = false) (k : ltOf cmpC y x = false) : x = y := by
  unfold ltOf at *
  simp only [decide_eq_false_iff_not] at *
  have h1 := cmpC_anti x y
  obtain ⟨a, b, c⟩ := (cmpC_zero x y).1 (by omega)
  obtain ⟨k1, n1, s1⟩ := x
  obtain ⟨k2, n2, s2⟩ := y
  simp only at a b c
  rw [a, b, toList_inj c]


structure Gx where
  q : Nat
  os : Array Obj
instance : Inhabited Gx := ⟨⟨0, #[]⟩⟩
/-- The world w, some draws on, new blocks behind it. -/
def gro (w : World) (x : Gx) : World := grow (w.drewN x.q) x.os

theorem gro_below (w : World) (x : Gx) : Below w.heap.size w (gro w x) :=
  ⟨rfl, rfl, rfl, by simp [gro, grow, World.drewN], fun k hk => by simp only [gro, grow, World.drewN]; rw [Array.getElem?_append_left hk]⟩

theorem gro_cell {w : World} {a : Addr} {v : Value} (h : w.cell? a = some v) (x : Gx) : (gro w x).cell? a = some v := kept_cell (gro_below w x) h

theorem gro_gro (w : World) (x : Gx) (q : Nat) (os : Array Obj) : grow ((gro w x).drewN q) os = gro w ⟨x.q + q, x.os ++ os⟩ := by
  unfold gro
  show grow (grow ((w.drewN x.q).drewN q) x.os) os = _
  rw [grow_grow]
  simp only [World.drewN, Nat.add_assoc]

section
variable {P : Program} {id : Nat} {Q : Exit → Act → World → Prop} {a : Act} {w : World} {l : List Oper}
theorem wp_region_gro (hm : P.follows .mixedOrders = true) (hB : Region.lexB .any l.toArray = true)
    (h : wpQuiet P l.toArray (fun w' => ∃ x, w' = gro w x) (fun a' => ∀ w', (∃ x, w' = gro w x) → Q .normal a' w') l a) : (Code.region id l.toArray true).wp P Q a w :=
  wp_region_quiet (C := fun w' => ∃ x, w' = gro w x) hm hB ⟨⟨1, #[]⟩, by simp [gro, grow]; rfl⟩ (by simpa using h)
end

theorem compare_gro (a b : Con) (w : World) (x : Gx) :
    Calls Tryz.prog 14 #[a.val, b.val] (gro w x) fun e w' => e = .returned (.int .i64 (cmpC a b)) ∧ ∃ y, w' = gro w y :=
  (compare_laid a b (gro w x)).mono fun _ _ ⟨he, q, os, hw⟩ => ⟨he, ⟨x.q + q, x.os ++ os⟩, hw.trans (gro_gro w x q os)⟩
end Go.Proofs.YtoppnjpajeipdaaGreatDoor
