/- sym.Read, at every text: the one constant whose text it is, or none. -/
import Derived.Test.YtleakainhpgldaaDoorProg
import Derived.Test.YtleakainhpgldaaDoorLooseAny
import Derived.Test.YtleakainhpgldaaDoorReadBox
namespace Go.Proofs.YtleakainhpgldaaDoor
set_option linter.unusedSimpArgs false
set_option linter.unusedVariables false
open Go.RowKit

/-- What the call answers. -/
def RdAns (s : ByteArray) (e : Ending) : Prop := ∃ (c : Con) (er : Int), e = .returned (.tuple #[.agg #[.int .i64 c.k, .int .i64 c.n, .string c.s], .int .i64 er]) ∧ ReadR s c er

theorem str_eq {a b : ByteArray} (h : a = b) : (a.toList == b.toList) = true := by rw [h]; simp
theorem str_ne {a b : ByteArray} (h : a ≠ b) : (a.toList == b.toList) = false := by
  cases hb : (a.toList == b.toList) with
  | false => rfl
  | true => exact absurd (toList_inj (by simpa using hb)) h

set_option maxHeartbeats 4000000 in
set_option maxRecDepth 100000 in
theorem read_empty (w : World) : Calls Tryd.prog 6 #[.string ⟨#[]⟩] w fun e w' => RdAns ⟨#[]⟩ e ∧ Below w.heap.size w w' := by
  have HR : Hid (ReadR ⟨#[]⟩ ⟨0, 0, ⟨#[]⟩⟩ 5) := .inr ⟨rfl, rfl, fun d hd vd e => by have := (text_size hd vd).1; rw [e] at this; exact absurd this (by decide)⟩
  obtain ⟨b, hb⟩ : ∃ b, b = w.heap.size := ⟨_, rfl⟩
  go_enter Tryd.func6, Tryd.ntmps6
  go_wp2
  exact bodyPost_ret (v := .tuple #[.agg #[.int .i64 0, .int .i64 0, .string ⟨#[]⟩], .int .i64 5]) (by simp [results, Tryd.results6, go_sem]) rfl ⟨⟨⟨0, 0, ⟨#[]⟩⟩, 5, rfl, HR.out⟩, below1 _ _⟩

set_option maxHeartbeats 4000000 in
set_option maxRecDepth 100000 in
theorem read_full (s : ByteArray) (w : World) (hs : s.size ≤ 2000000) (hp : 0 < s.size) (hl : RdLaid w) :
    Calls Tryd.prog 6 #[.string s] w fun e w' => RdAns s e ∧ Below w.heap.size w w' := by
  have HL := hide hl
  have HE := hide (str_ne (a := s) (b := ⟨#[]⟩) (by rintro rfl; exact absurd hp (by decide)))
  have HE2 : Hid ((s.toList.isEmpty) = false) := by
    show _ = _
    rw [ByteArray.toList_eq]
    cases h : s.data.toList with
    | nil => have hh : s.data.toList.length = s.size := rfl; rw [h] at hh; simp at hh; omega
    | cons => rfl
  have h2 := HE2.out
  clear hl
  obtain ⟨b, hb⟩ : ∃ b, b = w.heap.size := ⟨_, rfl⟩
  have hbx : conBox b (w.alloc (.cells #[.int .i64 0, .int .i64 0, .string ⟨#[]⟩] 23)) 0 0 ⟨#[]⟩ := by rw [hb]; exact heap_alloc_new w _
  go_enter Tryd.func6, Tryd.ntmps6
  go_wp2_with fail
  rw [← hb]
  have HBx := hide hbx
  have HBb := hide hb
  have HB0 := hide (below1 w (.cells #[.int .i64 0, .int .i64 0, .string ⟨#[]⟩] 23))
  clear hbx hb
  generalize w.alloc (.cells #[.int .i64 0, .int .i64 0, .string ⟨#[]⟩] 23) = W0 at *
  refine (loose_any s _ hs hp (HL.out.kept HB0.out)).mono ?_
  rintro e w1 ⟨⟨c, rfl, hc, ho⟩, hb1⟩
  have HX1 := hide (HBx.out.kept hb1)
  have HB1 := hide (HB0.out.trans (hb1.mono HB0.out.size))
  have HOn := hide ho
  have HCo := hide hc
  clear hb1 HBx ho hc
  go_wp2_with fail
  have HC2 : Hid (conBox w1.heap.size (w1.alloc (.cells #[.int .i64 c.k, .int .i64 c.n, .string c.s] 23)) c.k c.n c.s) := heap_alloc_new w1 _
  have HX2 := hide (HX1.out.kept (below1 w1 (.cells #[.int .i64 c.k, .int .i64 c.n, .string c.s] 23)))
  have HB2 := hide (HB1.out.trans ((below1 w1 (.cells #[.int .i64 c.k, .int .i64 c.n, .string c.s] 23)).mono HB1.out.size))
  generalize w1.alloc (.cells #[.int .i64 c.k, .int .i64 c.n, .string c.s] 23) = W2 at *
  refine (symText_any c _ HCo.out (HL.out.kept HB2.out).tab).mono ?_
  rintro e w3 ⟨rfl, hb3⟩
  have HX3 := hide (HX2.out.kept hb3)
  obtain ⟨y0, y1, y2, _⟩ := (HC2.out.kept hb3).cells
  obtain ⟨x0, x1, x2, z0, z1, z2, xlt⟩ := HX3.out.cells
  have HBw := hide (HB2.out.trans (hb3.mono HB2.out.size))
  have hne : ¬ w1.heap.size = b := by have := HX1.out.cells.2.2.2.2.2.2; omega
  have hle : w.heap.size ≤ b := Nat.le_of_eq HBb.out.symm
  clear hb3 HX1 HX2 HC2 HBb
  by_cases he : textC c = s
  · have hq := str_eq he
    have HR : Hid (ReadR s c 0) := .inl ⟨rfl, HCo.out, by
      cases hv : validC c with
      | true => rfl
      | false =>
        rw [show textC c = ⟨#[]⟩ from by unfold textC; rw [hv]; rfl] at he
        rw [← he] at hp
        exact absurd hp (by decide), he⟩
    obtain ⟨X, hX⟩ : ∃ X, textC c = X := ⟨_, rfl⟩
    rw [hX] at hq ⊢
    clear he hX
    go_wp2
    refine bodyPost_ret (read_results (HX3.out.put c.k c.n c.s) _ rfl rfl) rfl ⟨⟨c, 0, rfl, HR.out⟩, ?_⟩
    exact ((HBw.out.setCell (p := ⟨b, 0, none⟩) hle _).setCell (p := ⟨b, 1, none⟩) hle _).setCell (p := ⟨b, 2, none⟩) hle _
  · have hq := str_ne he
    have HR : Hid (ReadR s ⟨0, 0, ⟨#[]⟩⟩ 5) := .inr ⟨rfl, rfl, fun d hd vd e => he (by rw [← HOn.out d hd vd e]; exact e)⟩
    obtain ⟨X, hX⟩ : ∃ X, textC c = X := ⟨_, rfl⟩
    rw [hX] at hq ⊢
    clear he hX
    go_wp2
    refine bodyPost_ret (read_results (HX3.out.put 0 0 ⟨#[]⟩) _ rfl rfl) rfl ⟨⟨⟨0, 0, ⟨#[]⟩⟩, 5, rfl, HR.out⟩, ?_⟩
    exact ((HBw.out.setCell (p := ⟨b, 0, none⟩) hle _).setCell (p := ⟨b, 1, none⟩) hle _).setCell (p := ⟨b, 2, none⟩) hle _

theorem read_any (s : ByteArray) (w : World) (hs : s.size ≤ 2000000) (hl : RdLaid w) :
    Calls Tryd.prog 6 #[.string s] w fun e w' => RdAns s e ∧ Below w.heap.size w w' := by
  by_cases hp : 0 < s.size
  · exact read_full s w hs hp hl
  · have : s = ⟨#[]⟩ := by
      apply intsOf_inj
      have := intsOf_len s
      have h2 : intsOf s = [] := List.length_eq_zero_iff.1 (by omega)
      rw [h2]; rfl
    subst this
    exact read_empty w
end Go.Proofs.YtleakainhpgldaaDoor
