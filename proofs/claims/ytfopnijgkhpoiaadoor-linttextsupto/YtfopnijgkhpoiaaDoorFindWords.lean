/- What the document and lint say of a finding: the same words. -/
import Derived.Test.YtfopnijgkhpoiaaDoorFindDec
import Derived.Test.YtfopnijgkhpoiaaDoorFindItoa
import Derived.Lib.Builder
namespace Go.Proofs.YtfopnijgkhpoiaaDoor
set_option linter.unusedSimpArgs false
set_option linter.unusedVariables false
open Go.RowKit

theorem arr_eq {l m : List UInt8} (h : l = m) : (⟨l.toArray⟩ : ByteArray) = ⟨m.toArray⟩ := by rw [h]

set_option maxHeartbeats 4000000 in
set_option maxRecDepth 100000 in
theorem words_1 (c o f : Int) (nm : ByteArray) (w : World) (hc : I64 c) (ho : I64 o) (hn : nm.size ≤ 2000000) :
    Calls Tryd.prog 6 #[.agg #[.int .i64 1, .int .i64 c, .int .i64 o, .int .i64 f, .string nm]] w fun e w' => e = .returned (.string ⟨(msgL 1 c o nm.data.toList).toArray⟩) ∧ Below w.heap.size w w' := by
  have lc := itoa_le hc
  have lo := itoa_le ho
  have ln : nm.data.toList.length ≤ 2000000 := hn
  obtain ⟨CB, eC⟩ : ∃ x : ByteArray, x = ⟨(Lib.itoa c).toArray⟩ := ⟨_, rfl⟩
  obtain ⟨OB, eO⟩ : ∃ x : ByteArray, x = ⟨(Lib.itoa o).toArray⟩ := ⟨_, rfl⟩
  have eN := arr_list nm
  obtain ⟨Xh1, eXh1, h1⟩ := cat_is ([99, 108, 97, 117, 115, 101, 32]) (Lib.itoa c) (a := ⟨#[99, 108, 97, 117, 115, 101, 32]⟩) (b := CB) (rfl) (eC) (by simp only [List.length_append, List.length_cons, List.length_nil]; omega)
  obtain ⟨Xh2, eXh2, h2⟩ := cat_is ([99, 108, 97, 117, 115, 101, 32] ++ (Lib.itoa c)) ([32, 105, 115, 32, 99, 108, 97, 117, 115, 101, 32]) (a := Xh1) (b := ⟨#[32, 105, 115, 32, 99, 108, 97, 117, 115, 101, 32]⟩) (eXh1) (rfl) (by simp only [List.length_append, List.length_cons, List.length_nil]; omega)
  obtain ⟨Xh3, eXh3, h3⟩ := cat_is ([99, 108, 97, 117, 115, 101, 32] ++ (Lib.itoa c) ++ ([32, 105, 115, 32, 99, 108, 97, 117, 115, 101, 32])) (Lib.itoa o) (a := Xh2) (b := OB) (eXh2) (eO) (by simp only [List.length_append, List.length_cons, List.length_nil]; omega)
  obtain ⟨Xh4, eXh4, h4⟩ := cat_is ([99, 108, 97, 117, 115, 101, 32] ++ (Lib.itoa c) ++ ([32, 105, 115, 32, 99, 108, 97, 117, 115, 101, 32]) ++ (Lib.itoa o)) ([32, 97, 103, 97, 105, 110]) (a := Xh3) (b := ⟨#[32, 97, 103, 97, 105, 110]⟩) (eXh3) (rfl) (by simp only [List.length_append, List.length_cons, List.length_nil]; omega)
  have HR : Hid (Xh4 = ⟨(msgL 1 c o nm.data.toList).toArray⟩) := by
    show _ = _
    rw [eXh4]
    apply arr_eq
    show _ = msgL 1 c o _
    simp only [msgL, clB, List.append_assoc, List.cons_append, List.nil_append, if_pos, if_neg, show ((2 : Int) = 1) = False from by simp, show ((3 : Int) = 1) = False from by simp, show ((3 : Int) = 2) = False from by simp, show ((4 : Int) = 1) = False from by simp, show ((4 : Int) = 2) = False from by simp, show ((4 : Int) = 3) = False from by simp, show ((6 : Int) = 1) = False from by simp, show ((6 : Int) = 2) = False from by simp, show ((6 : Int) = 3) = False from by simp, show ((6 : Int) = 4) = False from by simp, show ((6 : Int) = 5) = False from by simp, if_false, if_true, ↓reduceIte]
  rw [← HR.out]
  have HC : Hid (∀ W, Calls Tryd.prog 8 #[.int .i64 c] W fun e w' => e = .returned (.string CB) ∧ Below W.heap.size W w') := fun W => by rw [eC]; exact dec18 c W hc
  have HO : Hid (∀ W, Calls Tryd.prog 8 #[.int .i64 o] W fun e w' => e = .returned (.string OB) ∧ Below W.heap.size W w') := fun W => by rw [eO]; exact dec18 o W ho
  clear eXh1 eXh2 eXh3 eXh4 eC eO eN hc ho hn lc lo ln
  go_enter Tryd.func6, Tryd.ntmps6
  have hblk : ∀ j v, (#[Value.int .i64 1, .int .i64 c, .int .i64 o, .int .i64 f, .string nm] : Array Value)[j]? = some v → (w.alloc (.cells #[.int .i64 1, .int .i64 c, .int .i64 o, .int .i64 f, .string nm] 27)).cell? ⟨w.heap.size, j, none⟩ = some v := fun j v hv => by
    rw [Lib.cell_of_heap (heap_alloc_new w _)]; exact hv
  have x1 := hblk 1 _ rfl
  have x2 := hblk 2 _ rfl
  have hbel : Below w.heap.size w (w.alloc (.cells #[.int .i64 1, .int .i64 c, .int .i64 o, .int .i64 f, .string nm] 27)) := (Below.refl _ _).alloc (Nat.le_refl _) _
  have HB := hide hbel
  clear hblk hbel
  go_wp2_with fail
  generalize w.alloc (.cells #[.int .i64 1, .int .i64 c, .int .i64 o, .int .i64 f, .string nm] 27) = W1 at *
  refine wp_region_over (fun W => W = W1) (by kernel_rfl) (by kernel_rfl) rfl ?_
  rintro W rfl
  have y1 := over_cell x1
  have y2 := over_cell x2
  have G1 := hide (fun v => calls_over (HC.out (over W v)))
  have G2 := hide (fun v => calls_over (HO.out (over W v)))
  clear x1 x2 HC HO
  repeat (go_big_quiet_step ((go_at_call 8; first | (with_reducible exact G1.out _) | (with_reducible exact G2.out _))))
  refine wpQuiet_nil ?_
  rintro _ ⟨v, rfl⟩
  clear y1 y2 G1 G2 h1 h2 h3 h4
  go_wp2
  go_ret
  exact ⟨rfl, HB.out.trans ((over_below W v).mono HB.out.size)⟩

set_option maxHeartbeats 4000000 in
set_option maxRecDepth 100000 in
theorem words_2 (c o f : Int) (nm : ByteArray) (w : World) (hc : I64 c) (ho : I64 o) (hn : nm.size ≤ 2000000) :
    Calls Tryd.prog 6 #[.agg #[.int .i64 2, .int .i64 c, .int .i64 o, .int .i64 f, .string nm]] w fun e w' => e = .returned (.string ⟨(msgL 2 c o nm.data.toList).toArray⟩) ∧ Below w.heap.size w w' := by
  have lc := itoa_le hc
  have lo := itoa_le ho
  have ln : nm.data.toList.length ≤ 2000000 := hn
  obtain ⟨CB, eC⟩ : ∃ x : ByteArray, x = ⟨(Lib.itoa c).toArray⟩ := ⟨_, rfl⟩
  obtain ⟨OB, eO⟩ : ∃ x : ByteArray, x = ⟨(Lib.itoa o).toArray⟩ := ⟨_, rfl⟩
  have eN := arr_list nm
  obtain ⟨Xh1, eXh1, h1⟩ := cat_is ([99, 108, 97, 117, 115, 101, 32]) (Lib.itoa c) (a := ⟨#[99, 108, 97, 117, 115, 101, 32]⟩) (b := CB) (rfl) (eC) (by simp only [List.length_append, List.length_cons, List.length_nil]; omega)
  obtain ⟨Xh2, eXh2, h2⟩ := cat_is ([99, 108, 97, 117, 115, 101, 32] ++ (Lib.itoa c)) ([32, 105, 115, 32, 99, 111, 118, 101, 114, 101, 100, 32, 98, 121, 32, 99, 108, 97, 117, 115, 101, 32]) (a := Xh1) (b := ⟨#[32, 105, 115, 32, 99, 111, 118, 101, 114, 101, 100, 32, 98, 121, 32, 99, 108, 97, 117, 115, 101, 32]⟩) (eXh1) (rfl) (by simp only [List.length_append, List.length_cons, List.length_nil]; omega)
  obtain ⟨Xh3, eXh3, h3⟩ := cat_is ([99, 108, 97, 117, 115, 101, 32] ++ (Lib.itoa c) ++ ([32, 105, 115, 32, 99, 111, 118, 101, 114, 101, 100, 32, 98, 121, 32, 99, 108, 97, 117, 115, 101, 32])) (Lib.itoa o) (a := Xh2) (b := OB) (eXh2) (eO) (by simp only [List.length_append, List.length_cons, List.length_nil]; omega)
  have HR : Hid (Xh3 = ⟨(msgL 2 c o nm.data.toList).toArray⟩) := by
    show _ = _
    rw [eXh3]
    apply arr_eq
    show _ = msgL 2 c o _
    simp only [msgL, clB, List.append_assoc, List.cons_append, List.nil_append, if_pos, if_neg, show ((2 : Int) = 1) = False from by simp, show ((3 : Int) = 1) = False from by simp, show ((3 : Int) = 2) = False from by simp, show ((4 : Int) = 1) = False from by simp, show ((4 : Int) = 2) = False from by simp, show ((4 : Int) = 3) = False from by simp, show ((6 : Int) = 1) = False from by simp, show ((6 : Int) = 2) = False from by simp, show ((6 : Int) = 3) = False from by simp, show ((6 : Int) = 4) = False from by simp, show ((6 : Int) = 5) = False from by simp, if_false, if_true, ↓reduceIte]
  rw [← HR.out]
  have HC : Hid (∀ W, Calls Tryd.prog 8 #[.int .i64 c] W fun e w' => e = .returned (.string CB) ∧ Below W.heap.size W w') := fun W => by rw [eC]; exact dec18 c W hc
  have HO : Hid (∀ W, Calls Tryd.prog 8 #[.int .i64 o] W fun e w' => e = .returned (.string OB) ∧ Below W.heap.size W w') := fun W => by rw [eO]; exact dec18 o W ho
  clear eXh1 eXh2 eXh3 eC eO eN hc ho hn lc lo ln
  go_enter Tryd.func6, Tryd.ntmps6
  have hblk : ∀ j v, (#[Value.int .i64 2, .int .i64 c, .int .i64 o, .int .i64 f, .string nm] : Array Value)[j]? = some v → (w.alloc (.cells #[.int .i64 2, .int .i64 c, .int .i64 o, .int .i64 f, .string nm] 27)).cell? ⟨w.heap.size, j, none⟩ = some v := fun j v hv => by
    rw [Lib.cell_of_heap (heap_alloc_new w _)]; exact hv
  have x1 := hblk 1 _ rfl
  have x2 := hblk 2 _ rfl
  have hbel : Below w.heap.size w (w.alloc (.cells #[.int .i64 2, .int .i64 c, .int .i64 o, .int .i64 f, .string nm] 27)) := (Below.refl _ _).alloc (Nat.le_refl _) _
  have HB := hide hbel
  clear hblk hbel
  go_wp2_with fail
  generalize w.alloc (.cells #[.int .i64 2, .int .i64 c, .int .i64 o, .int .i64 f, .string nm] 27) = W1 at *
  refine wp_region_over (fun W => W = W1) (by kernel_rfl) (by kernel_rfl) rfl ?_
  rintro W rfl
  have y1 := over_cell x1
  have y2 := over_cell x2
  have G1 := hide (fun v => calls_over (HC.out (over W v)))
  have G2 := hide (fun v => calls_over (HO.out (over W v)))
  clear x1 x2 HC HO
  repeat (go_big_quiet_step ((go_at_call 8; first | (with_reducible exact G1.out _) | (with_reducible exact G2.out _))))
  refine wpQuiet_nil ?_
  rintro _ ⟨v, rfl⟩
  clear y1 y2 G1 G2 h1 h2 h3
  go_wp2
  go_ret
  exact ⟨rfl, HB.out.trans ((over_below W v).mono HB.out.size)⟩

set_option maxHeartbeats 4000000 in
set_option maxRecDepth 100000 in
theorem words_3 (c o f : Int) (nm : ByteArray) (w : World) (hc : I64 c) (ho : I64 o) (hn : nm.size ≤ 2000000) :
    Calls Tryd.prog 6 #[.agg #[.int .i64 3, .int .i64 c, .int .i64 o, .int .i64 f, .string nm]] w fun e w' => e = .returned (.string ⟨(msgL 3 c o nm.data.toList).toArray⟩) ∧ Below w.heap.size w w' := by
  have lc := itoa_le hc
  have lo := itoa_le ho
  have ln : nm.data.toList.length ≤ 2000000 := hn
  obtain ⟨CB, eC⟩ : ∃ x : ByteArray, x = ⟨(Lib.itoa c).toArray⟩ := ⟨_, rfl⟩
  obtain ⟨OB, eO⟩ : ∃ x : ByteArray, x = ⟨(Lib.itoa o).toArray⟩ := ⟨_, rfl⟩
  have eN := arr_list nm
  obtain ⟨Xh1, eXh1, h1⟩ := cat_is ([99, 108, 97, 117, 115, 101, 32]) (Lib.itoa c) (a := ⟨#[99, 108, 97, 117, 115, 101, 32]⟩) (b := CB) (rfl) (eC) (by simp only [List.length_append, List.length_cons, List.length_nil]; omega)
  obtain ⟨Xh2, eXh2, h2⟩ := cat_is ([99, 108, 97, 117, 115, 101, 32] ++ (Lib.itoa c)) ([32, 110, 101, 118, 101, 114, 32, 102, 105, 114, 101, 115]) (a := Xh1) (b := ⟨#[32, 110, 101, 118, 101, 114, 32, 102, 105, 114, 101, 115]⟩) (eXh1) (rfl) (by simp only [List.length_append, List.length_cons, List.length_nil]; omega)
  have HR : Hid (Xh2 = ⟨(msgL 3 c o nm.data.toList).toArray⟩) := by
    show _ = _
    rw [eXh2]
    apply arr_eq
    show _ = msgL 3 c o _
    simp only [msgL, clB, List.append_assoc, List.cons_append, List.nil_append, if_pos, if_neg, show ((2 : Int) = 1) = False from by simp, show ((3 : Int) = 1) = False from by simp, show ((3 : Int) = 2) = False from by simp, show ((4 : Int) = 1) = False from by simp, show ((4 : Int) = 2) = False from by simp, show ((4 : Int) = 3) = False from by simp, show ((6 : Int) = 1) = False from by simp, show ((6 : Int) = 2) = False from by simp, show ((6 : Int) = 3) = False from by simp, show ((6 : Int) = 4) = False from by simp, show ((6 : Int) = 5) = False from by simp, if_false, if_true, ↓reduceIte]
  rw [← HR.out]
  have HC : Hid (∀ W, Calls Tryd.prog 8 #[.int .i64 c] W fun e w' => e = .returned (.string CB) ∧ Below W.heap.size W w') := fun W => by rw [eC]; exact dec18 c W hc
  have HO : Hid (∀ W, Calls Tryd.prog 8 #[.int .i64 o] W fun e w' => e = .returned (.string OB) ∧ Below W.heap.size W w') := fun W => by rw [eO]; exact dec18 o W ho
  clear eXh1 eXh2 eC eO eN hc ho hn lc lo ln
  go_enter Tryd.func6, Tryd.ntmps6
  go_wp2_with (go_at_call 8; refine (HC.out _).mono ?_; rintro e w1 ⟨rfl, hb1⟩)
  go_ret
  exact ⟨rfl, ((Below.refl _ _).alloc (Nat.le_refl _) _).trans (hb1.mono (by simp))⟩

set_option maxHeartbeats 4000000 in
set_option maxRecDepth 100000 in
theorem words_4 (c o f : Int) (nm : ByteArray) (w : World) (hc : I64 c) (ho : I64 o) (hn : nm.size ≤ 2000000) :
    Calls Tryd.prog 6 #[.agg #[.int .i64 4, .int .i64 c, .int .i64 o, .int .i64 f, .string nm]] w fun e w' => e = .returned (.string ⟨(msgL 4 c o nm.data.toList).toArray⟩) ∧ Below w.heap.size w w' := by
  have lc := itoa_le hc
  have lo := itoa_le ho
  have ln : nm.data.toList.length ≤ 2000000 := hn
  obtain ⟨CB, eC⟩ : ∃ x : ByteArray, x = ⟨(Lib.itoa c).toArray⟩ := ⟨_, rfl⟩
  obtain ⟨OB, eO⟩ : ∃ x : ByteArray, x = ⟨(Lib.itoa o).toArray⟩ := ⟨_, rfl⟩
  have eN := arr_list nm
  obtain ⟨Xh1, eXh1, h1⟩ := cat_is ([118, 97, 114, 105, 97, 98, 108, 101, 32]) (nm.data.toList) (a := ⟨#[118, 97, 114, 105, 97, 98, 108, 101, 32]⟩) (b := nm) (rfl) (eN) (by simp only [List.length_append, List.length_cons, List.length_nil]; omega)
  obtain ⟨Xh2, eXh2, h2⟩ := cat_is ([118, 97, 114, 105, 97, 98, 108, 101, 32] ++ (nm.data.toList)) ([32, 115, 116, 97, 110, 100, 115, 32, 111, 110, 99, 101]) (a := Xh1) (b := ⟨#[32, 115, 116, 97, 110, 100, 115, 32, 111, 110, 99, 101]⟩) (eXh1) (rfl) (by simp only [List.length_append, List.length_cons, List.length_nil]; omega)
  have HR : Hid (Xh2 = ⟨(msgL 4 c o nm.data.toList).toArray⟩) := by
    show _ = _
    rw [eXh2]
    apply arr_eq
    show _ = msgL 4 c o _
    simp only [msgL, clB, List.append_assoc, List.cons_append, List.nil_append, if_pos, if_neg, show ((2 : Int) = 1) = False from by simp, show ((3 : Int) = 1) = False from by simp, show ((3 : Int) = 2) = False from by simp, show ((4 : Int) = 1) = False from by simp, show ((4 : Int) = 2) = False from by simp, show ((4 : Int) = 3) = False from by simp, show ((6 : Int) = 1) = False from by simp, show ((6 : Int) = 2) = False from by simp, show ((6 : Int) = 3) = False from by simp, show ((6 : Int) = 4) = False from by simp, show ((6 : Int) = 5) = False from by simp, if_false, if_true, ↓reduceIte]
  rw [← HR.out]
  have HC : Hid (∀ W, Calls Tryd.prog 8 #[.int .i64 c] W fun e w' => e = .returned (.string CB) ∧ Below W.heap.size W w') := fun W => by rw [eC]; exact dec18 c W hc
  have HO : Hid (∀ W, Calls Tryd.prog 8 #[.int .i64 o] W fun e w' => e = .returned (.string OB) ∧ Below W.heap.size W w') := fun W => by rw [eO]; exact dec18 o W ho
  clear eXh1 eXh2 eC eO eN hc ho hn lc lo ln
  go_enter Tryd.func6, Tryd.ntmps6
  go_wp2
  go_ret
  exact ⟨rfl, (Below.refl _ _).alloc (Nat.le_refl _) _⟩

set_option maxHeartbeats 4000000 in
set_option maxRecDepth 100000 in
theorem words_5 (c o f : Int) (nm : ByteArray) (w : World) (hc : I64 c) (ho : I64 o) (hn : nm.size ≤ 2000000) :
    Calls Tryd.prog 6 #[.agg #[.int .i64 5, .int .i64 c, .int .i64 o, .int .i64 f, .string nm]] w fun e w' => e = .returned (.string ⟨(msgL 5 c o nm.data.toList).toArray⟩) ∧ Below w.heap.size w w' := by
  have HR : Hid (msgL 5 c o nm.data.toList = [116, 104, 101, 32, 116, 101, 115, 116, 32, 97, 108, 119, 97, 121, 115, 32, 104, 111, 108, 100, 115]) := rfl
  rw [HR.out]
  go_enter Tryd.func6, Tryd.ntmps6
  go_wp2
  go_ret
  exact ⟨rfl, (Below.refl _ _).alloc (Nat.le_refl _) _⟩

set_option maxHeartbeats 4000000 in
set_option maxRecDepth 100000 in
theorem words_6 (c o f : Int) (nm : ByteArray) (w : World) (hc : I64 c) (ho : I64 o) (hn : nm.size ≤ 2000000) :
    Calls Tryd.prog 6 #[.agg #[.int .i64 6, .int .i64 c, .int .i64 o, .int .i64 f, .string nm]] w fun e w' => e = .returned (.string ⟨(msgL 6 c o nm.data.toList).toArray⟩) ∧ Below w.heap.size w w' := by
  have lc := itoa_le hc
  have lo := itoa_le ho
  have ln : nm.data.toList.length ≤ 2000000 := hn
  obtain ⟨CB, eC⟩ : ∃ x : ByteArray, x = ⟨(Lib.itoa c).toArray⟩ := ⟨_, rfl⟩
  obtain ⟨OB, eO⟩ : ∃ x : ByteArray, x = ⟨(Lib.itoa o).toArray⟩ := ⟨_, rfl⟩
  have eN := arr_list nm
  obtain ⟨Xh1, eXh1, h1⟩ := cat_is ([112, 114, 101, 100, 105, 99, 97, 116, 101, 32]) (nm.data.toList) (a := ⟨#[112, 114, 101, 100, 105, 99, 97, 116, 101, 32]⟩) (b := nm) (rfl) (eN) (by simp only [List.length_append, List.length_cons, List.length_nil]; omega)
  obtain ⟨Xh2, eXh2, h2⟩ := cat_is ([112, 114, 101, 100, 105, 99, 97, 116, 101, 32] ++ (nm.data.toList)) ([32, 105, 115, 32, 117, 115, 101, 100, 32, 110, 111, 119, 104, 101, 114, 101]) (a := Xh1) (b := ⟨#[32, 105, 115, 32, 117, 115, 101, 100, 32, 110, 111, 119, 104, 101, 114, 101]⟩) (eXh1) (rfl) (by simp only [List.length_append, List.length_cons, List.length_nil]; omega)
  have HR : Hid (Xh2 = ⟨(msgL 6 c o nm.data.toList).toArray⟩) := by
    show _ = _
    rw [eXh2]
    apply arr_eq
    show _ = msgL 6 c o _
    simp only [msgL, clB, List.append_assoc, List.cons_append, List.nil_append, if_pos, if_neg, show ((2 : Int) = 1) = False from by simp, show ((3 : Int) = 1) = False from by simp, show ((3 : Int) = 2) = False from by simp, show ((4 : Int) = 1) = False from by simp, show ((4 : Int) = 2) = False from by simp, show ((4 : Int) = 3) = False from by simp, show ((6 : Int) = 1) = False from by simp, show ((6 : Int) = 2) = False from by simp, show ((6 : Int) = 3) = False from by simp, show ((6 : Int) = 4) = False from by simp, show ((6 : Int) = 5) = False from by simp, if_false, if_true, ↓reduceIte]
  rw [← HR.out]
  have HC : Hid (∀ W, Calls Tryd.prog 8 #[.int .i64 c] W fun e w' => e = .returned (.string CB) ∧ Below W.heap.size W w') := fun W => by rw [eC]; exact dec18 c W hc
  have HO : Hid (∀ W, Calls Tryd.prog 8 #[.int .i64 o] W fun e w' => e = .returned (.string OB) ∧ Below W.heap.size W w') := fun W => by rw [eO]; exact dec18 o W ho
  clear eXh1 eXh2 eC eO eN hc ho hn lc lo ln
  go_enter Tryd.func6, Tryd.ntmps6
  go_wp2
  go_ret
  exact ⟨rfl, (Below.refl _ _).alloc (Nat.le_refl _) _⟩

set_option maxHeartbeats 4000000 in
set_option maxRecDepth 100000 in
theorem mess_1 (c o f : Int) (nm : ByteArray) (w : World) (hc : I64 c) (ho : I64 o) (hn : nm.size ≤ 2000000) (ht : TabI w) :
    Calls Tryd.prog 9 #[.agg #[.int .i64 1, .int .i64 c, .int .i64 o, .int .i64 f, .string nm]] w fun e w' => e = .returned (.string ⟨(msgL 1 c o nm.data.toList).toArray⟩) ∧ Below w.heap.size w w' := by
  have lc := itoa_le hc
  have lo := itoa_le ho
  have ln : nm.data.toList.length ≤ 2000000 := hn
  obtain ⟨CB, eC⟩ : ∃ x : ByteArray, x = ⟨(Lib.itoa c).toArray⟩ := ⟨_, rfl⟩
  obtain ⟨OB, eO⟩ : ∃ x : ByteArray, x = ⟨(Lib.itoa o).toArray⟩ := ⟨_, rfl⟩
  have eN := arr_list nm
  obtain ⟨CL, eCL, hcl⟩ := cat_is [99, 108, 97, 117, 115, 101, 32] (Lib.itoa c) (a := ⟨#[99, 108, 97, 117, 115, 101, 32]⟩) (b := CB) rfl eC (by simp only [List.length_append, List.length_cons, List.length_nil]; omega)
  obtain ⟨OL, eOL, hol⟩ := cat_is [99, 108, 97, 117, 115, 101, 32] (Lib.itoa o) (a := ⟨#[99, 108, 97, 117, 115, 101, 32]⟩) (b := OB) rfl eO (by simp only [List.length_append, List.length_cons, List.length_nil]; omega)
  obtain ⟨Xg1, eXg1, g1⟩ := cat_is ([99, 108, 97, 117, 115, 101, 32] ++ Lib.itoa c) ([32, 105, 115, 32]) (a := CL) (b := ⟨#[32, 105, 115, 32]⟩) (eCL) (rfl) (by simp only [List.length_append, List.length_cons, List.length_nil]; omega)
  obtain ⟨Xg2, eXg2, g2⟩ := cat_is ([99, 108, 97, 117, 115, 101, 32] ++ Lib.itoa c ++ ([32, 105, 115, 32])) ([99, 108, 97, 117, 115, 101, 32] ++ Lib.itoa o) (a := Xg1) (b := OL) (eXg1) (eOL) (by simp only [List.length_append, List.length_cons, List.length_nil]; omega)
  obtain ⟨Xg3, eXg3, g3⟩ := cat_is ([99, 108, 97, 117, 115, 101, 32] ++ Lib.itoa c ++ ([32, 105, 115, 32]) ++ ([99, 108, 97, 117, 115, 101, 32] ++ Lib.itoa o)) ([32, 97, 103, 97, 105, 110]) (a := Xg2) (b := ⟨#[32, 97, 103, 97, 105, 110]⟩) (eXg2) (rfl) (by simp only [List.length_append, List.length_cons, List.length_nil]; omega)
  have HR : Hid (Xg3 = ⟨(msgL 1 c o nm.data.toList).toArray⟩) := by
    show _ = _
    rw [eXg3]
    apply arr_eq
    show _ = msgL 1 c o _
    simp only [msgL, clB, List.append_assoc, List.cons_append, List.nil_append, if_pos, if_neg, show ((2 : Int) = 1) = False from by simp, show ((3 : Int) = 1) = False from by simp, show ((3 : Int) = 2) = False from by simp, show ((4 : Int) = 1) = False from by simp, show ((4 : Int) = 2) = False from by simp, show ((4 : Int) = 3) = False from by simp, show ((6 : Int) = 1) = False from by simp, show ((6 : Int) = 2) = False from by simp, show ((6 : Int) = 3) = False from by simp, show ((6 : Int) = 4) = False from by simp, show ((6 : Int) = 5) = False from by simp, if_false, if_true, ↓reduceIte]
  rw [← HR.out]
  have HC : Hid (∀ W, Below w.heap.size w W → Calls Tryd.prog 13 #[.int .i64 c] W fun e w' => e = .returned (.string CB) ∧ Below W.heap.size W w') := fun W hb => by rw [eC]; exact itoa_any c W hc (ht.kept hb)
  have HO : Hid (∀ W, Below w.heap.size w W → Calls Tryd.prog 13 #[.int .i64 o] W fun e w' => e = .returned (.string OB) ∧ Below W.heap.size W w') := fun W hb => by rw [eO]; exact itoa_any o W ho (ht.kept hb)
  clear eXg1 eXg2 eXg3 eC eO eN hc ho hn lc lo ln ht eCL eOL
  have hblk : ∀ j v, (#[Value.int .i64 1, .int .i64 c, .int .i64 o, .int .i64 f, .string nm] : Array Value)[j]? = some v → (w.alloc (.cells #[.int .i64 1, .int .i64 c, .int .i64 o, .int .i64 f, .string nm] 27)).cell? ⟨w.heap.size, j, none⟩ = some v := fun j v hv => by
    rw [Lib.cell_of_heap (heap_alloc_new w _)]; exact hv
  have x0 := hblk 0 _ rfl
  have x1 := hblk 1 _ rfl
  have x2 := hblk 2 _ rfl
  have x4 := hblk 4 _ rfl
  have hbel : Below w.heap.size w (w.alloc (.cells #[.int .i64 1, .int .i64 c, .int .i64 o, .int .i64 f, .string nm] 27)) := (Below.refl _ _).alloc (Nat.le_refl _) _
  have HB := hide hbel
  clear hblk hbel
  go_enter Tryd.func9, Tryd.ntmps9
  go_wp2_with fail
  generalize w.alloc (.cells #[.int .i64 1, .int .i64 c, .int .i64 o, .int .i64 f, .string nm] 27) = W1 at *
  refine wp_region_over (fun W => W = W1) (by kernel_rfl) (by kernel_rfl) rfl ?_
  rintro W rfl
  have y1 := over_cell x1
  have y2 := over_cell x2
  have z0 := over_cell x0
  have z4 := over_cell x4
  have G1 := hide (fun v => calls_over (HC.out (over W v) (HB.out.trans ((over_below W v).mono HB.out.size))))
  have G2 := hide (fun v => calls_over (HO.out (over W v) (HB.out.trans ((over_below W v).mono HB.out.size))))
  clear x1 x2 HC HO x0 x4
  repeat (go_big_quiet_step ((go_at_call 13; first | (with_reducible exact G1.out _) | (with_reducible exact G2.out _))))
  refine wpQuiet_nil ?_
  rintro _ ⟨v, rfl⟩
  have z0 := z0 v
  have z4 := z4 v
  clear y1 y2 G1 G2 hcl hol
  go_wp2
  go_ret
  exact ⟨rfl, HB.out.trans ((over_below W v).mono HB.out.size)⟩

set_option maxHeartbeats 4000000 in
set_option maxRecDepth 100000 in
theorem mess_2 (c o f : Int) (nm : ByteArray) (w : World) (hc : I64 c) (ho : I64 o) (hn : nm.size ≤ 2000000) (ht : TabI w) :
    Calls Tryd.prog 9 #[.agg #[.int .i64 2, .int .i64 c, .int .i64 o, .int .i64 f, .string nm]] w fun e w' => e = .returned (.string ⟨(msgL 2 c o nm.data.toList).toArray⟩) ∧ Below w.heap.size w w' := by
  have lc := itoa_le hc
  have lo := itoa_le ho
  have ln : nm.data.toList.length ≤ 2000000 := hn
  obtain ⟨CB, eC⟩ : ∃ x : ByteArray, x = ⟨(Lib.itoa c).toArray⟩ := ⟨_, rfl⟩
  obtain ⟨OB, eO⟩ : ∃ x : ByteArray, x = ⟨(Lib.itoa o).toArray⟩ := ⟨_, rfl⟩
  have eN := arr_list nm
  obtain ⟨CL, eCL, hcl⟩ := cat_is [99, 108, 97, 117, 115, 101, 32] (Lib.itoa c) (a := ⟨#[99, 108, 97, 117, 115, 101, 32]⟩) (b := CB) rfl eC (by simp only [List.length_append, List.length_cons, List.length_nil]; omega)
  obtain ⟨OL, eOL, hol⟩ := cat_is [99, 108, 97, 117, 115, 101, 32] (Lib.itoa o) (a := ⟨#[99, 108, 97, 117, 115, 101, 32]⟩) (b := OB) rfl eO (by simp only [List.length_append, List.length_cons, List.length_nil]; omega)
  obtain ⟨Xg1, eXg1, g1⟩ := cat_is ([99, 108, 97, 117, 115, 101, 32] ++ Lib.itoa c) ([32, 105, 115, 32, 99, 111, 118, 101, 114, 101, 100, 32, 98, 121, 32]) (a := CL) (b := ⟨#[32, 105, 115, 32, 99, 111, 118, 101, 114, 101, 100, 32, 98, 121, 32]⟩) (eCL) (rfl) (by simp only [List.length_append, List.length_cons, List.length_nil]; omega)
  obtain ⟨Xg2, eXg2, g2⟩ := cat_is ([99, 108, 97, 117, 115, 101, 32] ++ Lib.itoa c ++ ([32, 105, 115, 32, 99, 111, 118, 101, 114, 101, 100, 32, 98, 121, 32])) ([99, 108, 97, 117, 115, 101, 32] ++ Lib.itoa o) (a := Xg1) (b := OL) (eXg1) (eOL) (by simp only [List.length_append, List.length_cons, List.length_nil]; omega)
  have HR : Hid (Xg2 = ⟨(msgL 2 c o nm.data.toList).toArray⟩) := by
    show _ = _
    rw [eXg2]
    apply arr_eq
    show _ = msgL 2 c o _
    simp only [msgL, clB, List.append_assoc, List.cons_append, List.nil_append, if_pos, if_neg, show ((2 : Int) = 1) = False from by simp, show ((3 : Int) = 1) = False from by simp, show ((3 : Int) = 2) = False from by simp, show ((4 : Int) = 1) = False from by simp, show ((4 : Int) = 2) = False from by simp, show ((4 : Int) = 3) = False from by simp, show ((6 : Int) = 1) = False from by simp, show ((6 : Int) = 2) = False from by simp, show ((6 : Int) = 3) = False from by simp, show ((6 : Int) = 4) = False from by simp, show ((6 : Int) = 5) = False from by simp, if_false, if_true, ↓reduceIte]
  rw [← HR.out]
  have HC : Hid (∀ W, Below w.heap.size w W → Calls Tryd.prog 13 #[.int .i64 c] W fun e w' => e = .returned (.string CB) ∧ Below W.heap.size W w') := fun W hb => by rw [eC]; exact itoa_any c W hc (ht.kept hb)
  have HO : Hid (∀ W, Below w.heap.size w W → Calls Tryd.prog 13 #[.int .i64 o] W fun e w' => e = .returned (.string OB) ∧ Below W.heap.size W w') := fun W hb => by rw [eO]; exact itoa_any o W ho (ht.kept hb)
  clear eXg1 eXg2 eC eO eN hc ho hn lc lo ln ht eCL eOL
  have hblk : ∀ j v, (#[Value.int .i64 2, .int .i64 c, .int .i64 o, .int .i64 f, .string nm] : Array Value)[j]? = some v → (w.alloc (.cells #[.int .i64 2, .int .i64 c, .int .i64 o, .int .i64 f, .string nm] 27)).cell? ⟨w.heap.size, j, none⟩ = some v := fun j v hv => by
    rw [Lib.cell_of_heap (heap_alloc_new w _)]; exact hv
  have x0 := hblk 0 _ rfl
  have x1 := hblk 1 _ rfl
  have x2 := hblk 2 _ rfl
  have x4 := hblk 4 _ rfl
  have hbel : Below w.heap.size w (w.alloc (.cells #[.int .i64 2, .int .i64 c, .int .i64 o, .int .i64 f, .string nm] 27)) := (Below.refl _ _).alloc (Nat.le_refl _) _
  have HB := hide hbel
  clear hblk hbel
  go_enter Tryd.func9, Tryd.ntmps9
  go_wp2_with fail
  generalize w.alloc (.cells #[.int .i64 2, .int .i64 c, .int .i64 o, .int .i64 f, .string nm] 27) = W1 at *
  refine wp_region_over (fun W => W = W1) (by kernel_rfl) (by kernel_rfl) rfl ?_
  rintro W rfl
  have y1 := over_cell x1
  have y2 := over_cell x2
  have z0 := over_cell x0
  have z4 := over_cell x4
  have G1 := hide (fun v => calls_over (HC.out (over W v) (HB.out.trans ((over_below W v).mono HB.out.size))))
  have G2 := hide (fun v => calls_over (HO.out (over W v) (HB.out.trans ((over_below W v).mono HB.out.size))))
  clear x1 x2 HC HO x0 x4
  repeat (go_big_quiet_step ((go_at_call 13; first | (with_reducible exact G1.out _) | (with_reducible exact G2.out _))))
  refine wpQuiet_nil ?_
  rintro _ ⟨v, rfl⟩
  have z0 := z0 v
  have z4 := z4 v
  clear y1 y2 G1 G2 hcl hol
  go_wp2
  go_ret
  exact ⟨rfl, HB.out.trans ((over_below W v).mono HB.out.size)⟩

set_option maxHeartbeats 4000000 in
set_option maxRecDepth 100000 in
theorem mess_3 (c o f : Int) (nm : ByteArray) (w : World) (hc : I64 c) (ho : I64 o) (hn : nm.size ≤ 2000000) (ht : TabI w) :
    Calls Tryd.prog 9 #[.agg #[.int .i64 3, .int .i64 c, .int .i64 o, .int .i64 f, .string nm]] w fun e w' => e = .returned (.string ⟨(msgL 3 c o nm.data.toList).toArray⟩) ∧ Below w.heap.size w w' := by
  have lc := itoa_le hc
  have lo := itoa_le ho
  have ln : nm.data.toList.length ≤ 2000000 := hn
  obtain ⟨CB, eC⟩ : ∃ x : ByteArray, x = ⟨(Lib.itoa c).toArray⟩ := ⟨_, rfl⟩
  obtain ⟨OB, eO⟩ : ∃ x : ByteArray, x = ⟨(Lib.itoa o).toArray⟩ := ⟨_, rfl⟩
  have eN := arr_list nm
  obtain ⟨CL, eCL, hcl⟩ := cat_is [99, 108, 97, 117, 115, 101, 32] (Lib.itoa c) (a := ⟨#[99, 108, 97, 117, 115, 101, 32]⟩) (b := CB) rfl eC (by simp only [List.length_append, List.length_cons, List.length_nil]; omega)
  obtain ⟨OL, eOL, hol⟩ := cat_is [99, 108, 97, 117, 115, 101, 32] (Lib.itoa o) (a := ⟨#[99, 108, 97, 117, 115, 101, 32]⟩) (b := OB) rfl eO (by simp only [List.length_append, List.length_cons, List.length_nil]; omega)
  obtain ⟨Xg1, eXg1, g1⟩ := cat_is ([99, 108, 97, 117, 115, 101, 32] ++ Lib.itoa c) ([32, 110, 101, 118, 101, 114, 32, 102, 105, 114, 101, 115]) (a := CL) (b := ⟨#[32, 110, 101, 118, 101, 114, 32, 102, 105, 114, 101, 115]⟩) (eCL) (rfl) (by simp only [List.length_append, List.length_cons, List.length_nil]; omega)
  have HR : Hid (Xg1 = ⟨(msgL 3 c o nm.data.toList).toArray⟩) := by
    show _ = _
    rw [eXg1]
    apply arr_eq
    show _ = msgL 3 c o _
    simp only [msgL, clB, List.append_assoc, List.cons_append, List.nil_append, if_pos, if_neg, show ((2 : Int) = 1) = False from by simp, show ((3 : Int) = 1) = False from by simp, show ((3 : Int) = 2) = False from by simp, show ((4 : Int) = 1) = False from by simp, show ((4 : Int) = 2) = False from by simp, show ((4 : Int) = 3) = False from by simp, show ((6 : Int) = 1) = False from by simp, show ((6 : Int) = 2) = False from by simp, show ((6 : Int) = 3) = False from by simp, show ((6 : Int) = 4) = False from by simp, show ((6 : Int) = 5) = False from by simp, if_false, if_true, ↓reduceIte]
  rw [← HR.out]
  have HC : Hid (∀ W, Below w.heap.size w W → Calls Tryd.prog 13 #[.int .i64 c] W fun e w' => e = .returned (.string CB) ∧ Below W.heap.size W w') := fun W hb => by rw [eC]; exact itoa_any c W hc (ht.kept hb)
  have HO : Hid (∀ W, Below w.heap.size w W → Calls Tryd.prog 13 #[.int .i64 o] W fun e w' => e = .returned (.string OB) ∧ Below W.heap.size W w') := fun W hb => by rw [eO]; exact itoa_any o W ho (ht.kept hb)
  clear eXg1 eC eO eN hc ho hn lc lo ln ht eCL eOL
  have hblk : ∀ j v, (#[Value.int .i64 3, .int .i64 c, .int .i64 o, .int .i64 f, .string nm] : Array Value)[j]? = some v → (w.alloc (.cells #[.int .i64 3, .int .i64 c, .int .i64 o, .int .i64 f, .string nm] 27)).cell? ⟨w.heap.size, j, none⟩ = some v := fun j v hv => by
    rw [Lib.cell_of_heap (heap_alloc_new w _)]; exact hv
  have x0 := hblk 0 _ rfl
  have x1 := hblk 1 _ rfl
  have x2 := hblk 2 _ rfl
  have x4 := hblk 4 _ rfl
  have hbel : Below w.heap.size w (w.alloc (.cells #[.int .i64 3, .int .i64 c, .int .i64 o, .int .i64 f, .string nm] 27)) := (Below.refl _ _).alloc (Nat.le_refl _) _
  have HB := hide hbel
  clear hblk hbel
  go_enter Tryd.func9, Tryd.ntmps9
  go_wp2_with fail
  generalize w.alloc (.cells #[.int .i64 3, .int .i64 c, .int .i64 o, .int .i64 f, .string nm] 27) = W1 at *
  refine wp_region_over (fun W => W = W1) (by kernel_rfl) (by kernel_rfl) rfl ?_
  rintro W rfl
  have y1 := over_cell x1
  have y2 := over_cell x2
  have z0 := over_cell x0
  have z4 := over_cell x4
  have G1 := hide (fun v => calls_over (HC.out (over W v) (HB.out.trans ((over_below W v).mono HB.out.size))))
  have G2 := hide (fun v => calls_over (HO.out (over W v) (HB.out.trans ((over_below W v).mono HB.out.size))))
  clear x1 x2 HC HO x0 x4
  repeat (go_big_quiet_step ((go_at_call 13; first | (with_reducible exact G1.out _) | (with_reducible exact G2.out _))))
  refine wpQuiet_nil ?_
  rintro _ ⟨v, rfl⟩
  have z0 := z0 v
  have z4 := z4 v
  clear y1 y2 G1 G2 hcl hol
  go_wp2
  go_ret
  exact ⟨rfl, HB.out.trans ((over_below W v).mono HB.out.size)⟩

set_option maxHeartbeats 4000000 in
set_option maxRecDepth 100000 in
theorem mess_4 (c o f : Int) (nm : ByteArray) (w : World) (hc : I64 c) (ho : I64 o) (hn : nm.size ≤ 2000000) (ht : TabI w) :
    Calls Tryd.prog 9 #[.agg #[.int .i64 4, .int .i64 c, .int .i64 o, .int .i64 f, .string nm]] w fun e w' => e = .returned (.string ⟨(msgL 4 c o nm.data.toList).toArray⟩) ∧ Below w.heap.size w w' := by
  have lc := itoa_le hc
  have lo := itoa_le ho
  have ln : nm.data.toList.length ≤ 2000000 := hn
  obtain ⟨CB, eC⟩ : ∃ x : ByteArray, x = ⟨(Lib.itoa c).toArray⟩ := ⟨_, rfl⟩
  obtain ⟨OB, eO⟩ : ∃ x : ByteArray, x = ⟨(Lib.itoa o).toArray⟩ := ⟨_, rfl⟩
  have eN := arr_list nm
  obtain ⟨CL, eCL, hcl⟩ := cat_is [99, 108, 97, 117, 115, 101, 32] (Lib.itoa c) (a := ⟨#[99, 108, 97, 117, 115, 101, 32]⟩) (b := CB) rfl eC (by simp only [List.length_append, List.length_cons, List.length_nil]; omega)
  obtain ⟨OL, eOL, hol⟩ := cat_is [99, 108, 97, 117, 115, 101, 32] (Lib.itoa o) (a := ⟨#[99, 108, 97, 117, 115, 101, 32]⟩) (b := OB) rfl eO (by simp only [List.length_append, List.length_cons, List.length_nil]; omega)
  obtain ⟨Xg1, eXg1, g1⟩ := cat_is ([118, 97, 114, 105, 97, 98, 108, 101, 32]) (nm.data.toList) (a := ⟨#[118, 97, 114, 105, 97, 98, 108, 101, 32]⟩) (b := nm) (rfl) (eN) (by simp only [List.length_append, List.length_cons, List.length_nil]; omega)
  obtain ⟨Xg2, eXg2, g2⟩ := cat_is ([118, 97, 114, 105, 97, 98, 108, 101, 32] ++ (nm.data.toList)) ([32, 115, 116, 97, 110, 100, 115, 32, 111, 110, 99, 101]) (a := Xg1) (b := ⟨#[32, 115, 116, 97, 110, 100, 115, 32, 111, 110, 99, 101]⟩) (eXg1) (rfl) (by simp only [List.length_append, List.length_cons, List.length_nil]; omega)
  have HR : Hid (Xg2 = ⟨(msgL 4 c o nm.data.toList).toArray⟩) := by
    show _ = _
    rw [eXg2]
    apply arr_eq
    show _ = msgL 4 c o _
    simp only [msgL, clB, List.append_assoc, List.cons_append, List.nil_append, if_pos, if_neg, show ((2 : Int) = 1) = False from by simp, show ((3 : Int) = 1) = False from by simp, show ((3 : Int) = 2) = False from by simp, show ((4 : Int) = 1) = False from by simp, show ((4 : Int) = 2) = False from by simp, show ((4 : Int) = 3) = False from by simp, show ((6 : Int) = 1) = False from by simp, show ((6 : Int) = 2) = False from by simp, show ((6 : Int) = 3) = False from by simp, show ((6 : Int) = 4) = False from by simp, show ((6 : Int) = 5) = False from by simp, if_false, if_true, ↓reduceIte]
  rw [← HR.out]
  have HC : Hid (∀ W, Below w.heap.size w W → Calls Tryd.prog 13 #[.int .i64 c] W fun e w' => e = .returned (.string CB) ∧ Below W.heap.size W w') := fun W hb => by rw [eC]; exact itoa_any c W hc (ht.kept hb)
  have HO : Hid (∀ W, Below w.heap.size w W → Calls Tryd.prog 13 #[.int .i64 o] W fun e w' => e = .returned (.string OB) ∧ Below W.heap.size W w') := fun W hb => by rw [eO]; exact itoa_any o W ho (ht.kept hb)
  clear eXg1 eXg2 eC eO eN hc ho hn lc lo ln ht eCL eOL
  have hblk : ∀ j v, (#[Value.int .i64 4, .int .i64 c, .int .i64 o, .int .i64 f, .string nm] : Array Value)[j]? = some v → (w.alloc (.cells #[.int .i64 4, .int .i64 c, .int .i64 o, .int .i64 f, .string nm] 27)).cell? ⟨w.heap.size, j, none⟩ = some v := fun j v hv => by
    rw [Lib.cell_of_heap (heap_alloc_new w _)]; exact hv
  have x0 := hblk 0 _ rfl
  have x1 := hblk 1 _ rfl
  have x2 := hblk 2 _ rfl
  have x4 := hblk 4 _ rfl
  have hbel : Below w.heap.size w (w.alloc (.cells #[.int .i64 4, .int .i64 c, .int .i64 o, .int .i64 f, .string nm] 27)) := (Below.refl _ _).alloc (Nat.le_refl _) _
  have HB := hide hbel
  clear hblk hbel
  go_enter Tryd.func9, Tryd.ntmps9
  go_wp2_with fail
  generalize w.alloc (.cells #[.int .i64 4, .int .i64 c, .int .i64 o, .int .i64 f, .string nm] 27) = W1 at *
  refine wp_region_over (fun W => W = W1) (by kernel_rfl) (by kernel_rfl) rfl ?_
  rintro W rfl
  have y1 := over_cell x1
  have y2 := over_cell x2
  have z0 := over_cell x0
  have z4 := over_cell x4
  have G1 := hide (fun v => calls_over (HC.out (over W v) (HB.out.trans ((over_below W v).mono HB.out.size))))
  have G2 := hide (fun v => calls_over (HO.out (over W v) (HB.out.trans ((over_below W v).mono HB.out.size))))
  clear x1 x2 HC HO x0 x4
  repeat (go_big_quiet_step ((go_at_call 13; first | (with_reducible exact G1.out _) | (with_reducible exact G2.out _))))
  refine wpQuiet_nil ?_
  rintro _ ⟨v, rfl⟩
  have z0 := z0 v
  have z4 := z4 v
  clear y1 y2 G1 G2 hcl hol
  go_wp2
  go_ret
  exact ⟨rfl, HB.out.trans ((over_below W v).mono HB.out.size)⟩

set_option maxHeartbeats 4000000 in
set_option maxRecDepth 100000 in
theorem mess_5 (c o f : Int) (nm : ByteArray) (w : World) (hc : I64 c) (ho : I64 o) (hn : nm.size ≤ 2000000) (ht : TabI w) :
    Calls Tryd.prog 9 #[.agg #[.int .i64 5, .int .i64 c, .int .i64 o, .int .i64 f, .string nm]] w fun e w' => e = .returned (.string ⟨(msgL 5 c o nm.data.toList).toArray⟩) ∧ Below w.heap.size w w' := by
  have lc := itoa_le hc
  have lo := itoa_le ho
  have ln : nm.data.toList.length ≤ 2000000 := hn
  obtain ⟨CB, eC⟩ : ∃ x : ByteArray, x = ⟨(Lib.itoa c).toArray⟩ := ⟨_, rfl⟩
  obtain ⟨OB, eO⟩ : ∃ x : ByteArray, x = ⟨(Lib.itoa o).toArray⟩ := ⟨_, rfl⟩
  have eN := arr_list nm
  obtain ⟨CL, eCL, hcl⟩ := cat_is [99, 108, 97, 117, 115, 101, 32] (Lib.itoa c) (a := ⟨#[99, 108, 97, 117, 115, 101, 32]⟩) (b := CB) rfl eC (by simp only [List.length_append, List.length_cons, List.length_nil]; omega)
  obtain ⟨OL, eOL, hol⟩ := cat_is [99, 108, 97, 117, 115, 101, 32] (Lib.itoa o) (a := ⟨#[99, 108, 97, 117, 115, 101, 32]⟩) (b := OB) rfl eO (by simp only [List.length_append, List.length_cons, List.length_nil]; omega)
  have HR : Hid (msgL 5 c o nm.data.toList = [116, 104, 101, 32, 116, 101, 115, 116, 32, 97, 108, 119, 97, 121, 115, 32, 104, 111, 108, 100, 115]) := rfl
  rw [HR.out]
  have HC : Hid (∀ W, Below w.heap.size w W → Calls Tryd.prog 13 #[.int .i64 c] W fun e w' => e = .returned (.string CB) ∧ Below W.heap.size W w') := fun W hb => by rw [eC]; exact itoa_any c W hc (ht.kept hb)
  have HO : Hid (∀ W, Below w.heap.size w W → Calls Tryd.prog 13 #[.int .i64 o] W fun e w' => e = .returned (.string OB) ∧ Below W.heap.size W w') := fun W hb => by rw [eO]; exact itoa_any o W ho (ht.kept hb)
  clear  eC eO eN hc ho hn lc lo ln ht eCL eOL
  have hblk : ∀ j v, (#[Value.int .i64 5, .int .i64 c, .int .i64 o, .int .i64 f, .string nm] : Array Value)[j]? = some v → (w.alloc (.cells #[.int .i64 5, .int .i64 c, .int .i64 o, .int .i64 f, .string nm] 27)).cell? ⟨w.heap.size, j, none⟩ = some v := fun j v hv => by
    rw [Lib.cell_of_heap (heap_alloc_new w _)]; exact hv
  have x0 := hblk 0 _ rfl
  have x1 := hblk 1 _ rfl
  have x2 := hblk 2 _ rfl
  have x4 := hblk 4 _ rfl
  have hbel : Below w.heap.size w (w.alloc (.cells #[.int .i64 5, .int .i64 c, .int .i64 o, .int .i64 f, .string nm] 27)) := (Below.refl _ _).alloc (Nat.le_refl _) _
  have HB := hide hbel
  clear hblk hbel
  go_enter Tryd.func9, Tryd.ntmps9
  go_wp2_with fail
  generalize w.alloc (.cells #[.int .i64 5, .int .i64 c, .int .i64 o, .int .i64 f, .string nm] 27) = W1 at *
  refine wp_region_over (fun W => W = W1) (by kernel_rfl) (by kernel_rfl) rfl ?_
  rintro W rfl
  have y1 := over_cell x1
  have y2 := over_cell x2
  have z0 := over_cell x0
  have z4 := over_cell x4
  have G1 := hide (fun v => calls_over (HC.out (over W v) (HB.out.trans ((over_below W v).mono HB.out.size))))
  have G2 := hide (fun v => calls_over (HO.out (over W v) (HB.out.trans ((over_below W v).mono HB.out.size))))
  clear x1 x2 HC HO x0 x4
  repeat (go_big_quiet_step ((go_at_call 13; first | (with_reducible exact G1.out _) | (with_reducible exact G2.out _))))
  refine wpQuiet_nil ?_
  rintro _ ⟨v, rfl⟩
  have z0 := z0 v
  have z4 := z4 v
  clear y1 y2 G1 G2 hcl hol
  go_wp2
  go_ret
  exact ⟨rfl, HB.out.trans ((over_below W v).mono HB.out.size)⟩

set_option maxHeartbeats 4000000 in
set_option maxRecDepth 100000 in
theorem mess_6 (c o f : Int) (nm : ByteArray) (w : World) (hc : I64 c) (ho : I64 o) (hn : nm.size ≤ 2000000) (ht : TabI w) :
    Calls Tryd.prog 9 #[.agg #[.int .i64 6, .int .i64 c, .int .i64 o, .int .i64 f, .string nm]] w fun e w' => e = .returned (.string ⟨(msgL 6 c o nm.data.toList).toArray⟩) ∧ Below w.heap.size w w' := by
  have lc := itoa_le hc
  have lo := itoa_le ho
  have ln : nm.data.toList.length ≤ 2000000 := hn
  obtain ⟨CB, eC⟩ : ∃ x : ByteArray, x = ⟨(Lib.itoa c).toArray⟩ := ⟨_, rfl⟩
  obtain ⟨OB, eO⟩ : ∃ x : ByteArray, x = ⟨(Lib.itoa o).toArray⟩ := ⟨_, rfl⟩
  have eN := arr_list nm
  obtain ⟨CL, eCL, hcl⟩ := cat_is [99, 108, 97, 117, 115, 101, 32] (Lib.itoa c) (a := ⟨#[99, 108, 97, 117, 115, 101, 32]⟩) (b := CB) rfl eC (by simp only [List.length_append, List.length_cons, List.length_nil]; omega)
  obtain ⟨OL, eOL, hol⟩ := cat_is [99, 108, 97, 117, 115, 101, 32] (Lib.itoa o) (a := ⟨#[99, 108, 97, 117, 115, 101, 32]⟩) (b := OB) rfl eO (by simp only [List.length_append, List.length_cons, List.length_nil]; omega)
  obtain ⟨Xg1, eXg1, g1⟩ := cat_is ([112, 114, 101, 100, 105, 99, 97, 116, 101, 32]) (nm.data.toList) (a := ⟨#[112, 114, 101, 100, 105, 99, 97, 116, 101, 32]⟩) (b := nm) (rfl) (eN) (by simp only [List.length_append, List.length_cons, List.length_nil]; omega)
  obtain ⟨Xg2, eXg2, g2⟩ := cat_is ([112, 114, 101, 100, 105, 99, 97, 116, 101, 32] ++ (nm.data.toList)) ([32, 105, 115, 32, 117, 115, 101, 100, 32, 110, 111, 119, 104, 101, 114, 101]) (a := Xg1) (b := ⟨#[32, 105, 115, 32, 117, 115, 101, 100, 32, 110, 111, 119, 104, 101, 114, 101]⟩) (eXg1) (rfl) (by simp only [List.length_append, List.length_cons, List.length_nil]; omega)
  have HR : Hid (Xg2 = ⟨(msgL 6 c o nm.data.toList).toArray⟩) := by
    show _ = _
    rw [eXg2]
    apply arr_eq
    show _ = msgL 6 c o _
    simp only [msgL, clB, List.append_assoc, List.cons_append, List.nil_append, if_pos, if_neg, show ((2 : Int) = 1) = False from by simp, show ((3 : Int) = 1) = False from by simp, show ((3 : Int) = 2) = False from by simp, show ((4 : Int) = 1) = False from by simp, show ((4 : Int) = 2) = False from by simp, show ((4 : Int) = 3) = False from by simp, show ((6 : Int) = 1) = False from by simp, show ((6 : Int) = 2) = False from by simp, show ((6 : Int) = 3) = False from by simp, show ((6 : Int) = 4) = False from by simp, show ((6 : Int) = 5) = False from by simp, if_false, if_true, ↓reduceIte]
  rw [← HR.out]
  have HC : Hid (∀ W, Below w.heap.size w W → Calls Tryd.prog 13 #[.int .i64 c] W fun e w' => e = .returned (.string CB) ∧ Below W.heap.size W w') := fun W hb => by rw [eC]; exact itoa_any c W hc (ht.kept hb)
  have HO : Hid (∀ W, Below w.heap.size w W → Calls Tryd.prog 13 #[.int .i64 o] W fun e w' => e = .returned (.string OB) ∧ Below W.heap.size W w') := fun W hb => by rw [eO]; exact itoa_any o W ho (ht.kept hb)
  clear eXg1 eXg2 eC eO eN hc ho hn lc lo ln ht eCL eOL
  have hblk : ∀ j v, (#[Value.int .i64 6, .int .i64 c, .int .i64 o, .int .i64 f, .string nm] : Array Value)[j]? = some v → (w.alloc (.cells #[.int .i64 6, .int .i64 c, .int .i64 o, .int .i64 f, .string nm] 27)).cell? ⟨w.heap.size, j, none⟩ = some v := fun j v hv => by
    rw [Lib.cell_of_heap (heap_alloc_new w _)]; exact hv
  have x0 := hblk 0 _ rfl
  have x1 := hblk 1 _ rfl
  have x2 := hblk 2 _ rfl
  have x4 := hblk 4 _ rfl
  have hbel : Below w.heap.size w (w.alloc (.cells #[.int .i64 6, .int .i64 c, .int .i64 o, .int .i64 f, .string nm] 27)) := (Below.refl _ _).alloc (Nat.le_refl _) _
  have HB := hide hbel
  clear hblk hbel
  go_enter Tryd.func9, Tryd.ntmps9
  go_wp2_with fail
  generalize w.alloc (.cells #[.int .i64 6, .int .i64 c, .int .i64 o, .int .i64 f, .string nm] 27) = W1 at *
  refine wp_region_over (fun W => W = W1) (by kernel_rfl) (by kernel_rfl) rfl ?_
  rintro W rfl
  have y1 := over_cell x1
  have y2 := over_cell x2
  have z0 := over_cell x0
  have z4 := over_cell x4
  have G1 := hide (fun v => calls_over (HC.out (over W v) (HB.out.trans ((over_below W v).mono HB.out.size))))
  have G2 := hide (fun v => calls_over (HO.out (over W v) (HB.out.trans ((over_below W v).mono HB.out.size))))
  clear x1 x2 HC HO x0 x4
  repeat (go_big_quiet_step ((go_at_call 13; first | (with_reducible exact G1.out _) | (with_reducible exact G2.out _))))
  refine wpQuiet_nil ?_
  rintro _ ⟨v, rfl⟩
  have z0 := z0 v
  have z4 := z4 v
  clear y1 y2 G1 G2 hcl hol
  go_wp2
  go_ret
  exact ⟨rfl, HB.out.trans ((over_below W v).mono HB.out.size)⟩

set_option maxHeartbeats 4000000 in
set_option maxRecDepth 100000 in
theorem mess_0 (k c o f : Int) (nm : ByteArray) (w : World) (hc : I64 c) (ho : I64 o) (hn : nm.size ≤ 2000000) (ht : TabI w) (hk : k ≠ 1 ∧ k ≠ 2 ∧ k ≠ 3 ∧ k ≠ 4 ∧ k ≠ 5 ∧ k ≠ 6) :
    Calls Tryd.prog 9 #[.agg #[.int .i64 k, .int .i64 c, .int .i64 o, .int .i64 f, .string nm]] w fun e w' => e = .returned (.string ⟨(msgL k c o nm.data.toList).toArray⟩) ∧ Below w.heap.size w w' := by
  have lc := itoa_le hc
  have lo := itoa_le ho
  have ln : nm.data.toList.length ≤ 2000000 := hn
  obtain ⟨CB, eC⟩ : ∃ x : ByteArray, x = ⟨(Lib.itoa c).toArray⟩ := ⟨_, rfl⟩
  obtain ⟨OB, eO⟩ : ∃ x : ByteArray, x = ⟨(Lib.itoa o).toArray⟩ := ⟨_, rfl⟩
  have eN := arr_list nm
  obtain ⟨CL, eCL, hcl⟩ := cat_is [99, 108, 97, 117, 115, 101, 32] (Lib.itoa c) (a := ⟨#[99, 108, 97, 117, 115, 101, 32]⟩) (b := CB) rfl eC (by simp only [List.length_append, List.length_cons, List.length_nil]; omega)
  obtain ⟨OL, eOL, hol⟩ := cat_is [99, 108, 97, 117, 115, 101, 32] (Lib.itoa o) (a := ⟨#[99, 108, 97, 117, 115, 101, 32]⟩) (b := OB) rfl eO (by simp only [List.length_append, List.length_cons, List.length_nil]; omega)
  have HR : Hid (msgL k c o nm.data.toList = []) := by
    show _ = _
    obtain ⟨k1, k2, k3, k4, k5, k6⟩ := hk
    unfold msgL
    rw [if_neg k1, if_neg k2, if_neg k3, if_neg k4, if_neg k5, if_neg k6]
  rw [HR.out]
  have q1 : (k == 1) = false := by simpa using hk.1
  have q2 : (k == 2) = false := by simpa using hk.2.1
  have q3 : (k == 3) = false := by simpa using hk.2.2.1
  have q4 : (k == 4) = false := by simpa using hk.2.2.2.1
  have q5 : (k == 5) = false := by simpa using hk.2.2.2.2.1
  have q6 : (k == 6) = false := by simpa using hk.2.2.2.2.2
  clear hk
  have HC : Hid (∀ W, Below w.heap.size w W → Calls Tryd.prog 13 #[.int .i64 c] W fun e w' => e = .returned (.string CB) ∧ Below W.heap.size W w') := fun W hb => by rw [eC]; exact itoa_any c W hc (ht.kept hb)
  have HO : Hid (∀ W, Below w.heap.size w W → Calls Tryd.prog 13 #[.int .i64 o] W fun e w' => e = .returned (.string OB) ∧ Below W.heap.size W w') := fun W hb => by rw [eO]; exact itoa_any o W ho (ht.kept hb)
  clear  eC eO eN hc ho hn lc lo ln ht eCL eOL
  have hblk : ∀ j v, (#[Value.int .i64 k, .int .i64 c, .int .i64 o, .int .i64 f, .string nm] : Array Value)[j]? = some v → (w.alloc (.cells #[.int .i64 k, .int .i64 c, .int .i64 o, .int .i64 f, .string nm] 27)).cell? ⟨w.heap.size, j, none⟩ = some v := fun j v hv => by
    rw [Lib.cell_of_heap (heap_alloc_new w _)]; exact hv
  have x0 := hblk 0 _ rfl
  have x1 := hblk 1 _ rfl
  have x2 := hblk 2 _ rfl
  have x4 := hblk 4 _ rfl
  have hbel : Below w.heap.size w (w.alloc (.cells #[.int .i64 k, .int .i64 c, .int .i64 o, .int .i64 f, .string nm] 27)) := (Below.refl _ _).alloc (Nat.le_refl _) _
  have HB := hide hbel
  clear hblk hbel
  go_enter Tryd.func9, Tryd.ntmps9
  go_wp2_with fail
  generalize w.alloc (.cells #[.int .i64 k, .int .i64 c, .int .i64 o, .int .i64 f, .string nm] 27) = W1 at *
  refine wp_region_over (fun W => W = W1) (by kernel_rfl) (by kernel_rfl) rfl ?_
  rintro W rfl
  have y1 := over_cell x1
  have y2 := over_cell x2
  have z0 := over_cell x0
  have z4 := over_cell x4
  have G1 := hide (fun v => calls_over (HC.out (over W v) (HB.out.trans ((over_below W v).mono HB.out.size))))
  have G2 := hide (fun v => calls_over (HO.out (over W v) (HB.out.trans ((over_below W v).mono HB.out.size))))
  clear x1 x2 HC HO x0 x4
  repeat (go_big_quiet_step ((go_at_call 13; first | (with_reducible exact G1.out _) | (with_reducible exact G2.out _))))
  refine wpQuiet_nil ?_
  rintro _ ⟨v, rfl⟩
  have z0 := z0 v
  have z4 := z4 v
  clear y1 y2 G1 G2 hcl hol
  go_wp2
  go_ret
  exact ⟨rfl, HB.out.trans ((over_below W v).mono HB.out.size)⟩

set_option maxHeartbeats 4000000 in
theorem words_0 (k c o f : Int) (nm : ByteArray) (w : World) (hk : k ≠ 1 ∧ k ≠ 2 ∧ k ≠ 3 ∧ k ≠ 4 ∧ k ≠ 5 ∧ k ≠ 6) :
    Calls Tryd.prog 6 #[.agg #[.int .i64 k, .int .i64 c, .int .i64 o, .int .i64 f, .string nm]] w fun e w' => e = .returned (.string ⟨(msgL k c o nm.data.toList).toArray⟩) ∧ Below w.heap.size w w' := by
  have HR : Hid (msgL k c o nm.data.toList = []) := by
    show _ = _
    obtain ⟨k1, k2, k3, k4, k5, k6⟩ := hk
    unfold msgL
    rw [if_neg k1, if_neg k2, if_neg k3, if_neg k4, if_neg k5, if_neg k6]
  rw [HR.out]
  have q1 : (k == 1) = false := by simpa using hk.1
  have q2 : (k == 2) = false := by simpa using hk.2.1
  have q3 : (k == 3) = false := by simpa using hk.2.2.1
  have q4 : (k == 4) = false := by simpa using hk.2.2.2.1
  have q5 : (k == 5) = false := by simpa using hk.2.2.2.2.1
  have q6 : (k == 6) = false := by simpa using hk.2.2.2.2.2
  clear hk
  go_enter Tryd.func6, Tryd.ntmps6
  go_wp2
  go_ret
  exact ⟨rfl, (Below.refl _ _).alloc (Nat.le_refl _) _⟩

theorem kinds (k : Int) : k = 1 ∨ k = 2 ∨ k = 3 ∨ k = 4 ∨ k = 5 ∨ k = 6 ∨ (k ≠ 1 ∧ k ≠ 2 ∧ k ≠ 3 ∧ k ≠ 4 ∧ k ≠ 5 ∧ k ≠ 6) := by omega

theorem words_any (k c o f : Int) (nm : ByteArray) (w : World) (hc : I64 c) (ho : I64 o) (hn : nm.size ≤ 2000000) :
    Calls Tryd.prog 6 #[.agg #[.int .i64 k, .int .i64 c, .int .i64 o, .int .i64 f, .string nm]] w fun e w' => e = .returned (.string ⟨(msgL k c o nm.data.toList).toArray⟩) ∧ Below w.heap.size w w' := by
  rcases kinds k with rfl | rfl | rfl | rfl | rfl | rfl | hk
  · exact words_1 c o f nm w hc ho hn
  · exact words_2 c o f nm w hc ho hn
  · exact words_3 c o f nm w hc ho hn
  · exact words_4 c o f nm w hc ho hn
  · exact words_5 c o f nm w hc ho hn
  · exact words_6 c o f nm w hc ho hn
  · exact words_0 k c o f nm w hk

theorem mess_any (k c o f : Int) (nm : ByteArray) (w : World) (hc : I64 c) (ho : I64 o) (hn : nm.size ≤ 2000000) (ht : TabI w) :
    Calls Tryd.prog 9 #[.agg #[.int .i64 k, .int .i64 c, .int .i64 o, .int .i64 f, .string nm]] w fun e w' => e = .returned (.string ⟨(msgL k c o nm.data.toList).toArray⟩) ∧ Below w.heap.size w w' := by
  rcases kinds k with rfl | rfl | rfl | rfl | rfl | rfl | hk
  · exact mess_1 c o f nm w hc ho hn ht
  · exact mess_2 c o f nm w hc ho hn ht
  · exact mess_3 c o f nm w hc ho hn ht
  · exact mess_4 c o f nm w hc ho hn ht
  · exact mess_5 c o f nm w hc ho hn ht
  · exact mess_6 c o f nm w hc ho hn ht
  · exact mess_0 k c o f nm w hc ho hn ht hk

end Go.Proofs.YtfopnijgkhpoiaaDoor
