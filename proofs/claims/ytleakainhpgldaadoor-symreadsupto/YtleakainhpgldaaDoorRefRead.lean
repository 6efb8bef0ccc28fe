/- The document's Read: the one constant whose text it is, or none. -/
import Derived.Test.YtleakainhpgldaaDoorProg
import Derived.Test.YtleakainhpgldaaDoorRefNum2
import Derived.Test.YtleakainhpgldaaDoorRefPlain2
import Derived.Test.YtleakainhpgldaaDoorReadAny
namespace Go.Proofs.YtleakainhpgldaaDoor
set_option linter.unusedSimpArgs false
set_option linter.unusedVariables false
open Go.RowKit

theorem full_nil {s : ByteArray} (h : 0 < s.size) : s.toList.isEmpty = false ∧ (s.toList == []) = false := by
  rw [ByteArray.toList_eq]
  cases hd : s.data.toList with
  | nil => have hh : s.data.toList.length = s.size := rfl; rw [hd] at hh; simp at hh; omega
  | cons => exact ⟨rfl, rfl⟩
theorem rread_results {Z : World} {b : Nat} {k n e : Int} {s : ByteArray} (h : conBox b Z k n s) (tmps : Array Value) (ht : tmps.getD 2 undef = .pointer (some ⟨b, 0, none⟩)) (ht2 : tmps.getD 3 undef = .int .i64 e) :
    (results Tryd.f11 tmps).run Tryd.prog Z = .ok (.tuple #[.agg #[.int .i64 k, .int .i64 n, .string s], .int .i64 e]) Z := by
  obtain ⟨x0, x1, x2, _⟩ := h.cells
  have ht' : tmps[2]?.getD undef = .pointer (some ⟨b, 0, none⟩) := by rw [← ht]; simp [Array.getD_eq_getD_getElem?]
  have ht2' : tmps[3]?.getD undef = .int .i64 e := by rw [← ht2]; simp [Array.getD_eq_getD_getElem?]
  simp [results, Tryd.results11, go_sem, ht', ht2', x0, x1, x2]
theorem only_lower {s : ByteArray} (hp : 0 < s.size) (h0 : 97 ≤ s[0].toNat ∧ s[0].toNat ≤ 122) : Onl s ⟨2, 0, s⟩ := only_name hp (by omega)
theorem only_num {s : ByteArray} {r : Int} (hp : 0 < s.size) (h0 : s[0].toNat ≠ 34 ∧ ¬ (97 ≤ s[0].toNat ∧ s[0].toNat ≤ 122)) (hr : ∀ n, I64 n → s.data.toList = Lib.itoa n → r = n) : Onl s ⟨1, r, ⟨#[]⟩⟩ := by
  rintro d hd vd rfl
  obtain ⟨_, hk⟩ := text_fst vd
  have hk1 : d.k = 1 := by rcases hk with ⟨h, _⟩ | ⟨_, h⟩ | ⟨_, h⟩ <;> first | exact h | omega
  obtain ⟨e1, s1⟩ := text_int vd hk1
  have hn : r = d.n := hr d.n hd.2.1 (by rw [e1])
  obtain ⟨k, n, s⟩ := d
  dsimp only at *
  rw [hk1, hn, s1]
theorem only_quot {s out : ByteArray} (hp : 0 < s.size) (h0 : s[0].toNat = 34) (hq : ∀ T, Byt T → Quo T s → intsOf out = T) : Onl s ⟨3, 0, out⟩ := only_text hp h0 hq
theorem quo_mid {T : List Int} {s : ByteArray} (h : Quo T s) : intsOf (s.extract 1 (s.size - 1)) = T.flatMap escI := by
  have hl := h.len
  rw [intsOf_slice, h, hl]
  show ((T.flatMap escI ++ [34])).take ((T.flatMap escI).length + 2 - 1 - 1) = _
  rw [show (T.flatMap escI).length + 2 - 1 - 1 = (T.flatMap escI).length by omega, List.take_left']
  rfl

set_option maxHeartbeats 4000000 in
set_option maxRecDepth 100000 in
theorem rread_none (s : ByteArray) (w : World) (hs : s.size ≤ 2000000) (hp : s.size = 0 ∨ 1022 < s.size) :
    Calls Tryd.prog 11 #[.string s] w fun e w' => RdAns s e ∧ Below w.heap.size w w' := by
  have HR : Hid (ReadR s ⟨0, 0, ⟨#[]⟩⟩ 5) := .inr ⟨rfl, rfl, fun d hd vd e => by have := text_size hd vd; rw [e] at this; omega⟩
  rcases hp with h | h
  · obtain rfl : s = ⟨#[]⟩ := intsOf_inj (by have := intsOf_len s; rw [show intsOf s = [] from List.length_eq_zero_iff.1 (by omega)]; rfl)
    go_enter Tryd.func11, Tryd.ntmps11
    go_wp2
    exact bodyPost_ret (v := .tuple #[.agg #[.int .i64 0, .int .i64 0, .string ⟨#[]⟩], .int .i64 5]) (by simp [results, Tryd.results11, go_sem]) rfl ⟨⟨⟨0, 0, ⟨#[]⟩⟩, 5, rfl, HR.out⟩, below1 _ _⟩
  · have g1 : (1022 : Int) < (s.size : Int) := by omega
    obtain ⟨hn1, hn2⟩ := full_nil (s := s) (by omega)
    clear h
    go_enter Tryd.func11, Tryd.ntmps11
    go_wp2
    exact bodyPost_ret (v := .tuple #[.agg #[.int .i64 0, .int .i64 0, .string ⟨#[]⟩], .int .i64 5]) (by simp [results, Tryd.results11, go_sem]) rfl ⟨⟨⟨0, 0, ⟨#[]⟩⟩, 5, rfl, HR.out⟩, below1 _ _⟩

theorem conBox.text {b : Nat} {X : World} {k n : Int} {s : ByteArray} (h : conBox b X k n s) (s' : ByteArray) : conBox b (X.setCell ⟨b, 2, none⟩ (.string s')) k n s' := by
  unfold conBox at h ⊢
  simp [World.setCell, Array.getElem?_modify, h]
theorem conBox.int {b : Nat} {X : World} {k n : Int} {s : ByteArray} (h : conBox b X k n s) (n' : Int) : conBox b (X.setCell ⟨b, 1, none⟩ (.int .i64 n')) k n' s := by
  unfold conBox at h ⊢
  simp [World.setCell, Array.getElem?_modify, h]
theorem conBox.far {b c o : Nat} {X : World} {k n : Int} {s : ByteArray} {v : Value} (h : conBox b X k n s) (hne : c ≠ b) : conBox b (X.setCell ⟨c, o, none⟩ v) k n s := by
  unfold conBox at h ⊢
  simp [World.setCell, Array.getElem?_modify, h, hne]

set_option maxHeartbeats 4000000 in
set_option maxRecDepth 100000 in
theorem rread_name (s : ByteArray) (w : World) (hs : s.size ≤ 1022) (hp : 0 < s.size) (h0 : 97 ≤ s[0].toNat ∧ s[0].toNat ≤ 122) :
    Calls Tryd.prog 11 #[.string s] w fun e w' => RdAns s e ∧ Below w.heap.size w w' := by
  have g1 : (0 : Int) < (s.size : Int) := by omega
  have g2 : ¬ (1022 : Int) < (s.size : Int) := by omega
  obtain ⟨hn1, hn2⟩ := full_nil hp
  have HOn := hide (only_lower hp h0)
  have HCo : Hid (Con.ok ⟨2, 0, s⟩) := ⟨i64_2, i64_0, by show s.size ≤ _; omega⟩
  obtain ⟨x, hx⟩ : ∃ x : Int, (s[0].toNat : Int) = x := ⟨_, rfl⟩
  have x34 : (x == 34) = false := by simp; omega
  have HD := hide (fun W => rlow x W (by omega))
  rw [show lowN x = true from by simp [lowN]; omega] at HD
  clear h0
  go_enter Tryd.func11, Tryd.ntmps11
  go_wp2_with (go_at_call 19; refine (HD.out _).mono ?_; rintro e w' ⟨rfl, hw'⟩; have hw' := hw'.symm; subst hw')
  have HX : Hid (conBox w.heap.size ((w.alloc (.cells #[.int .i64 0, .int .i64 0, .string ⟨#[]⟩] 23)).alloc (.cells #[.int .i64 2, .int .i64 0, .string s] 23)) 0 0 ⟨#[]⟩) := conBox.kept (heap_alloc_new w (.cells #[.int .i64 0, .int .i64 0, .string ⟨#[]⟩] 23)) (below1 (w.alloc (.cells #[.int .i64 0, .int .i64 0, .string ⟨#[]⟩] 23)) (.cells #[.int .i64 2, .int .i64 0, .string s] 23))
  have HY : Hid (conBox (w.heap.size + 1) ((w.alloc (.cells #[.int .i64 0, .int .i64 0, .string ⟨#[]⟩] 23)).alloc (.cells #[.int .i64 2, .int .i64 0, .string s] 23)) 2 0 s) := by
    have := (heap_alloc_new (w.alloc (.cells #[.int .i64 0, .int .i64 0, .string ⟨#[]⟩] 23)) (.cells #[.int .i64 2, .int .i64 0, .string s] 23) : conBox (w.alloc (.cells #[.int .i64 0, .int .i64 0, .string ⟨#[]⟩] 23)).heap.size ((w.alloc (.cells #[.int .i64 0, .int .i64 0, .string ⟨#[]⟩] 23)).alloc (.cells #[.int .i64 2, .int .i64 0, .string s] 23)) 2 0 s)
    rw [show (w.alloc (.cells #[.int .i64 0, .int .i64 0, .string ⟨#[]⟩] 23)).heap.size = w.heap.size + 1 from by simp] at this
    exact this
  have HB := hide (((below1 w (.cells #[.int .i64 0, .int .i64 0, .string ⟨#[]⟩] 23)).alloc (by simp) (.cells #[.int .i64 2, .int .i64 0, .string s] 23) : Below w.heap.size w ((w.alloc (.cells #[.int .i64 0, .int .i64 0, .string ⟨#[]⟩] 23)).alloc (.cells #[.int .i64 2, .int .i64 0, .string s] 23))))
  obtain ⟨b, hbd⟩ : ∃ b, b = w.heap.size := ⟨_, rfl⟩
  have hle : w.heap.size ≤ b := Nat.le_of_eq hbd.symm
  rw [← hbd] at HX HY ⊢
  clear hbd
  generalize (w.alloc (.cells #[.int .i64 0, .int .i64 0, .string ⟨#[]⟩] 23)).alloc (.cells #[.int .i64 2, .int .i64 0, .string s] 23) = W at *
  refine (rtext ⟨2, 0, s⟩ W HCo.out).mono ?_
  rintro e w3 ⟨rfl, hb3⟩
  have HX3 := hide (HX.out.kept hb3)
  obtain ⟨y0, y1, y2, _, _, _, ylt⟩ := (HY.out.kept hb3).cells
  obtain ⟨x0, x1, x2, z0, z1, z2, xlt⟩ := HX3.out.cells
  have HBw := hide (HB.out.trans (hb3.mono HB.out.size))
  clear hb3 HX HY HB
  by_cases he : textC ⟨2, 0, s⟩ = s
  · have hq := str_eq he
    have HR : Hid (ReadR s ⟨2, 0, s⟩ 0) := .inl ⟨rfl, HCo.out, by
      cases hv : validC ⟨2, 0, s⟩ with
      | true => rfl
      | false =>
        rw [show textC ⟨2, 0, s⟩ = ⟨#[]⟩ from by unfold textC; rw [hv]; rfl] at he
        rw [← he] at hp
        exact absurd hp (by decide), he⟩
    obtain ⟨X, hX⟩ : ∃ X, textC ⟨2, 0, s⟩ = X := ⟨_, rfl⟩
    rw [hX] at hq ⊢
    clear he hX
    go_wp2
    refine bodyPost_ret (rread_results (HX3.out.put 2 0 s) _ rfl rfl) rfl ⟨⟨⟨2, 0, s⟩, 0, rfl, HR.out⟩, ?_⟩
    exact ((HBw.out.setCell (p := ⟨b, 0, none⟩) hle _).setCell (p := ⟨b, 1, none⟩) hle _).setCell (p := ⟨b, 2, none⟩) hle _
  · have hq := str_ne he
    have HR : Hid (ReadR s ⟨0, 0, ⟨#[]⟩⟩ 5) := .inr ⟨rfl, rfl, fun d hd vd e => he (by rw [← HOn.out d hd vd e]; exact e)⟩
    obtain ⟨X, hX⟩ : ∃ X, textC ⟨2, 0, s⟩ = X := ⟨_, rfl⟩
    rw [hX] at hq ⊢
    clear he hX
    go_wp2
    refine bodyPost_ret (rread_results (HX3.out.put 0 0 ⟨#[]⟩) _ rfl rfl) rfl ⟨⟨⟨0, 0, ⟨#[]⟩⟩, 5, rfl, HR.out⟩, ?_⟩
    exact ((HBw.out.setCell (p := ⟨b, 0, none⟩) hle _).setCell (p := ⟨b, 1, none⟩) hle _).setCell (p := ⟨b, 2, none⟩) hle _

set_option maxHeartbeats 4000000 in
set_option maxRecDepth 100000 in
theorem rread_num (s : ByteArray) (w : World) (hs : s.size ≤ 1022) (hp : 0 < s.size) (h0 : s[0].toNat ≠ 34 ∧ ¬ (97 ≤ s[0].toNat ∧ s[0].toNat ≤ 122)) :
    Calls Tryd.prog 11 #[.string s] w fun e w' => RdAns s e ∧ Below w.heap.size w w' := by
  have g1 : (0 : Int) < (s.size : Int) := by omega
  have g2 : ¬ (1022 : Int) < (s.size : Int) := by omega
  obtain ⟨hn1, hn2⟩ := full_nil hp
  have HOn0 := hide (fun r (hr : ∀ n, I64 n → s.data.toList = Lib.itoa n → r = n) => only_num hp h0 hr)
  have hxl : s[0].toNat < 256 := (s[0]).toNat_lt
  have HNm := hide (fun W => number_any s W (by omega))
  obtain ⟨x, hx⟩ : ∃ x : Int, (s[0].toNat : Int) = x := ⟨_, rfl⟩
  have x34 : (x == 34) = false := by simp; omega
  have HD := hide (fun W => rlow x W (by omega))
  rw [show lowN x = false from by simp [lowN]; omega] at HD
  clear h0 hxl
  go_enter Tryd.func11, Tryd.ntmps11
  go_wp2_with (first | (go_at_call 20; fail) | (go_at_call 19; refine (HD.out _).mono ?_; rintro e w' ⟨rfl, hw'⟩; have hw' := hw'.symm; subst hw'))
  have HX : Hid (conBox w.heap.size ((w.alloc (.cells #[.int .i64 0, .int .i64 0, .string ⟨#[]⟩] 23)).alloc (.cells #[.int .i64 1, .int .i64 0, .string ⟨#[]⟩] 23)) 0 0 ⟨#[]⟩) := conBox.kept (heap_alloc_new w (.cells #[.int .i64 0, .int .i64 0, .string ⟨#[]⟩] 23)) (below1 (w.alloc (.cells #[.int .i64 0, .int .i64 0, .string ⟨#[]⟩] 23)) (.cells #[.int .i64 1, .int .i64 0, .string ⟨#[]⟩] 23))
  have HY : Hid (conBox (w.heap.size + 1) ((w.alloc (.cells #[.int .i64 0, .int .i64 0, .string ⟨#[]⟩] 23)).alloc (.cells #[.int .i64 1, .int .i64 0, .string ⟨#[]⟩] 23)) 1 0 ⟨#[]⟩) := by
    have := (heap_alloc_new (w.alloc (.cells #[.int .i64 0, .int .i64 0, .string ⟨#[]⟩] 23)) (.cells #[.int .i64 1, .int .i64 0, .string ⟨#[]⟩] 23) : conBox (w.alloc (.cells #[.int .i64 0, .int .i64 0, .string ⟨#[]⟩] 23)).heap.size ((w.alloc (.cells #[.int .i64 0, .int .i64 0, .string ⟨#[]⟩] 23)).alloc (.cells #[.int .i64 1, .int .i64 0, .string ⟨#[]⟩] 23)) 1 0 ⟨#[]⟩)
    rw [show (w.alloc (.cells #[.int .i64 0, .int .i64 0, .string ⟨#[]⟩] 23)).heap.size = w.heap.size + 1 from by simp] at this
    exact this
  have HB := hide (((below1 w (.cells #[.int .i64 0, .int .i64 0, .string ⟨#[]⟩] 23)).alloc (by simp) (.cells #[.int .i64 1, .int .i64 0, .string ⟨#[]⟩] 23) : Below w.heap.size w ((w.alloc (.cells #[.int .i64 0, .int .i64 0, .string ⟨#[]⟩] 23)).alloc (.cells #[.int .i64 1, .int .i64 0, .string ⟨#[]⟩] 23))))
  obtain ⟨b, hbd⟩ : ∃ b, b = w.heap.size := ⟨_, rfl⟩
  have hle : w.heap.size ≤ b := Nat.le_of_eq hbd.symm
  rw [← hbd] at HX HY ⊢
  clear hbd
  generalize (w.alloc (.cells #[.int .i64 0, .int .i64 0, .string ⟨#[]⟩] 23)).alloc (.cells #[.int .i64 1, .int .i64 0, .string ⟨#[]⟩] 23) = W at *
  refine (HNm.out _).mono ?_
  rintro e w' ⟨⟨r, rfl, hr, hrn⟩, hw'⟩
  have hw2 := hw'.symm
  subst hw2
  have HOn := hide (HOn0.out r hrn)
  have HCo : Hid (Con.ok ⟨1, r, ⟨#[]⟩⟩) := ⟨i64_1, hr, Nat.zero_le _⟩
  obtain ⟨x0, x1, x2, z0, z1, z2, xlt⟩ := HX.out.cells
  obtain ⟨y0, y1, y2, q0, q1, q2, ylt⟩ := HY.out.cells
  clear hr hrn HNm HOn0
  go_wp2_with fail
  have HX2 := hide (HX.out.far (c := b + 1) (o := 1) (v := .int .i64 r) (by omega))
  have HY2 := hide (HY.out.int r)
  have HB2 := hide (HB.out.setCell (p := ⟨b + 1, 1, none⟩) (by show w.heap.size ≤ b + 1; omega) (.int .i64 r))
  clear HX HY HB x0 x1 x2 z0 z1 z2 xlt y0 y1 y2 q0 q1 q2 ylt
  generalize W.setCell ⟨b + 1, 1, none⟩ (.int .i64 r) = V at *
  refine (rtext ⟨1, r, ⟨#[]⟩⟩ V HCo.out).mono ?_
  rintro e w3 ⟨rfl, hb3⟩
  have HX3 := hide (HX2.out.kept hb3)
  obtain ⟨y0, y1, y2, _, _, _, ylt⟩ := (HY2.out.kept hb3).cells
  obtain ⟨x0, x1, x2, z0, z1, z2, xlt⟩ := HX3.out.cells
  have HBw := hide (HB2.out.trans (hb3.mono HB2.out.size))
  clear hb3 HX2 HY2 HB2
  by_cases he : textC ⟨1, r, ⟨#[]⟩⟩ = s
  · have hq := str_eq he
    have HR : Hid (ReadR s ⟨1, r, ⟨#[]⟩⟩ 0) := .inl ⟨rfl, HCo.out, by
      cases hv : validC ⟨1, r, ⟨#[]⟩⟩ with
      | true => rfl
      | false =>
        rw [show textC ⟨1, r, ⟨#[]⟩⟩ = ⟨#[]⟩ from by unfold textC; rw [hv]; rfl] at he
        rw [← he] at hp
        exact absurd hp (by decide), he⟩
    obtain ⟨X, hX⟩ : ∃ X, textC ⟨1, r, ⟨#[]⟩⟩ = X := ⟨_, rfl⟩
    rw [hX] at hq ⊢
    clear he hX
    go_wp2
    refine bodyPost_ret (rread_results (HX3.out.put 1 r ⟨#[]⟩) _ rfl rfl) rfl ⟨⟨⟨1, r, ⟨#[]⟩⟩, 0, rfl, HR.out⟩, ?_⟩
    exact ((HBw.out.setCell (p := ⟨b, 0, none⟩) hle _).setCell (p := ⟨b, 1, none⟩) hle _).setCell (p := ⟨b, 2, none⟩) hle _
  · have hq := str_ne he
    have HR : Hid (ReadR s ⟨0, 0, ⟨#[]⟩⟩ 5) := .inr ⟨rfl, rfl, fun d hd vd e => he (by rw [← HOn.out d hd vd e]; exact e)⟩
    obtain ⟨X, hX⟩ : ∃ X, textC ⟨1, r, ⟨#[]⟩⟩ = X := ⟨_, rfl⟩
    rw [hX] at hq ⊢
    clear he hX
    go_wp2
    refine bodyPost_ret (rread_results (HX3.out.put 0 0 ⟨#[]⟩) _ rfl rfl) rfl ⟨⟨⟨0, 0, ⟨#[]⟩⟩, 5, rfl, HR.out⟩, ?_⟩
    exact ((HBw.out.setCell (p := ⟨b, 0, none⟩) hle _).setCell (p := ⟨b, 1, none⟩) hle _).setCell (p := ⟨b, 2, none⟩) hle _

set_option maxHeartbeats 4000000 in
set_option maxRecDepth 100000 in
theorem rread_quote (s : ByteArray) (w : World) (hs : s.size ≤ 1022) (hp : 0 < s.size) (h0 : s[0].toNat = 34) :
    Calls Tryd.prog 11 #[.string s] w fun e w' => RdAns s e ∧ Below w.heap.size w w' := by
  have g1 : (0 : Int) < (s.size : Int) := by omega
  have g2 : ¬ (1022 : Int) < (s.size : Int) := by omega
  obtain ⟨hn1, hn2⟩ := full_nil hp
  have hx : (s[0].toNat : Int) = 34 := by omega
  have g3 : (1 : Int) ≤ (s.size : Int) := by omega
  have hE : ∀ T, Quo T s → intsOf (s.extract 1 (max 1 ((s.size : Int) - 1)).toNat) = T.flatMap escI := fun T h => by
    have hl := h.len
    rw [show (max 1 ((s.size : Int) - 1)).toNat = s.size - 1 from by omega]
    exact quo_mid h
  have hEs : (s.extract 1 (max 1 ((s.size : Int) - 1)).toNat).size ≤ 1022 := by rw [ByteArray.size_extract]; omega
  have HE := hide hE
  have HPl := hide (fun W => plain_any (s.extract 1 (max 1 ((s.size : Int) - 1)).toNat) W (by omega))
  have HOn0 := hide (fun out (ho : ∀ T, Byt T → Quo T s → intsOf out = T) => only_quot hp h0 ho)
  clear h0 hE
  go_enter Tryd.func11, Tryd.ntmps11
  go_wp2_with fail
  have HX : Hid (conBox w.heap.size ((w.alloc (.cells #[.int .i64 0, .int .i64 0, .string ⟨#[]⟩] 23)).alloc (.cells #[.int .i64 3, .int .i64 0, .string ⟨#[]⟩] 23)) 0 0 ⟨#[]⟩) := conBox.kept (heap_alloc_new w (.cells #[.int .i64 0, .int .i64 0, .string ⟨#[]⟩] 23)) (below1 (w.alloc (.cells #[.int .i64 0, .int .i64 0, .string ⟨#[]⟩] 23)) (.cells #[.int .i64 3, .int .i64 0, .string ⟨#[]⟩] 23))
  have HY : Hid (conBox (w.heap.size + 1) ((w.alloc (.cells #[.int .i64 0, .int .i64 0, .string ⟨#[]⟩] 23)).alloc (.cells #[.int .i64 3, .int .i64 0, .string ⟨#[]⟩] 23)) 3 0 ⟨#[]⟩) := by
    have := (heap_alloc_new (w.alloc (.cells #[.int .i64 0, .int .i64 0, .string ⟨#[]⟩] 23)) (.cells #[.int .i64 3, .int .i64 0, .string ⟨#[]⟩] 23) : conBox (w.alloc (.cells #[.int .i64 0, .int .i64 0, .string ⟨#[]⟩] 23)).heap.size ((w.alloc (.cells #[.int .i64 0, .int .i64 0, .string ⟨#[]⟩] 23)).alloc (.cells #[.int .i64 3, .int .i64 0, .string ⟨#[]⟩] 23)) 3 0 ⟨#[]⟩)
    rw [show (w.alloc (.cells #[.int .i64 0, .int .i64 0, .string ⟨#[]⟩] 23)).heap.size = w.heap.size + 1 from by simp] at this
    exact this
  have HB := hide (((below1 w (.cells #[.int .i64 0, .int .i64 0, .string ⟨#[]⟩] 23)).alloc (by simp) (.cells #[.int .i64 3, .int .i64 0, .string ⟨#[]⟩] 23) : Below w.heap.size w ((w.alloc (.cells #[.int .i64 0, .int .i64 0, .string ⟨#[]⟩] 23)).alloc (.cells #[.int .i64 3, .int .i64 0, .string ⟨#[]⟩] 23))))
  obtain ⟨b, hbd⟩ : ∃ b, b = w.heap.size := ⟨_, rfl⟩
  have hle : w.heap.size ≤ b := Nat.le_of_eq hbd.symm
  rw [← hbd] at HX HY ⊢
  clear hbd
  generalize (w.alloc (.cells #[.int .i64 0, .int .i64 0, .string ⟨#[]⟩] 23)).alloc (.cells #[.int .i64 3, .int .i64 0, .string ⟨#[]⟩] 23) = W at *
  refine (HPl.out _).mono ?_
  rintro e w1 ⟨⟨out, rfl, hos, hout⟩, hb1⟩
  have HOn := hide (HOn0.out out (fun T hT hq => hout T hT (HE.out T hq)))
  have HCo : Hid (Con.ok ⟨3, 0, out⟩) := ⟨i64_3, i64_0, by show out.size ≤ _; omega⟩
  have HX1 := hide (HX.out.kept hb1)
  have HY1 := hide (HY.out.kept hb1)
  have HB1 := hide (HB.out.trans (hb1.mono HB.out.size))
  clear hos hout hb1 HX HY HB HPl HOn0 HE hEs
  obtain ⟨x0, x1, x2, z0, z1, z2, xlt⟩ := HX1.out.cells
  obtain ⟨y0, y1, y2, q0, q1, q2, ylt⟩ := HY1.out.cells
  go_wp2_with fail
  have HX2 := hide (HX1.out.far (c := b + 1) (o := 2) (v := .string out) (by omega))
  have HY2 := hide (HY1.out.text out)
  have HB2 := hide (HB1.out.setCell (p := ⟨b + 1, 2, none⟩) (by show w.heap.size ≤ b + 1; omega) (.string out))
  clear HX1 HY1 HB1 x0 x1 x2 z0 z1 z2 xlt y0 y1 y2 q0 q1 q2 ylt
  generalize w1.setCell ⟨b + 1, 2, none⟩ (.string out) = V at *
  refine (rtext ⟨3, 0, out⟩ V HCo.out).mono ?_
  rintro e w3 ⟨rfl, hb3⟩
  have HX3 := hide (HX2.out.kept hb3)
  obtain ⟨y0, y1, y2, _, _, _, ylt⟩ := (HY2.out.kept hb3).cells
  obtain ⟨x0, x1, x2, z0, z1, z2, xlt⟩ := HX3.out.cells
  have HBw := hide (HB2.out.trans (hb3.mono HB2.out.size))
  clear hb3 HX2 HY2 HB2
  by_cases he : textC ⟨3, 0, out⟩ = s
  · have hq := str_eq he
    have HR : Hid (ReadR s ⟨3, 0, out⟩ 0) := .inl ⟨rfl, HCo.out, by
      cases hv : validC ⟨3, 0, out⟩ with
      | true => rfl
      | false =>
        rw [show textC ⟨3, 0, out⟩ = ⟨#[]⟩ from by unfold textC; rw [hv]; rfl] at he
        rw [← he] at hp
        exact absurd hp (by decide), he⟩
    obtain ⟨X, hX⟩ : ∃ X, textC ⟨3, 0, out⟩ = X := ⟨_, rfl⟩
    rw [hX] at hq ⊢
    clear he hX
    go_wp2
    refine bodyPost_ret (rread_results (HX3.out.put 3 0 out) _ rfl rfl) rfl ⟨⟨⟨3, 0, out⟩, 0, rfl, HR.out⟩, ?_⟩
    exact ((HBw.out.setCell (p := ⟨b, 0, none⟩) hle _).setCell (p := ⟨b, 1, none⟩) hle _).setCell (p := ⟨b, 2, none⟩) hle _
  · have hq := str_ne he
    have HR : Hid (ReadR s ⟨0, 0, ⟨#[]⟩⟩ 5) := .inr ⟨rfl, rfl, fun d hd vd e => he (by rw [← HOn.out d hd vd e]; exact e)⟩
    obtain ⟨X, hX⟩ : ∃ X, textC ⟨3, 0, out⟩ = X := ⟨_, rfl⟩
    rw [hX] at hq ⊢
    clear he hX
    go_wp2
    refine bodyPost_ret (rread_results (HX3.out.put 0 0 ⟨#[]⟩) _ rfl rfl) rfl ⟨⟨⟨0, 0, ⟨#[]⟩⟩, 5, rfl, HR.out⟩, ?_⟩
    exact ((HBw.out.setCell (p := ⟨b, 0, none⟩) hle _).setCell (p := ⟨b, 1, none⟩) hle _).setCell (p := ⟨b, 2, none⟩) hle _


theorem rread_any (s : ByteArray) (w : World) (hs : s.size ≤ 2000000) :
    Calls Tryd.prog 11 #[.string s] w fun e w' => RdAns s e ∧ Below w.heap.size w w' := by
  by_cases h1 : s.size = 0 ∨ 1022 < s.size
  · exact rread_none s w hs h1
  · have hp : 0 < s.size := by omega
    by_cases h2 : s[0].toNat = 34
    · exact rread_quote s w (by omega) hp h2
    · by_cases h3 : 97 ≤ s[0].toNat ∧ s[0].toNat ≤ 122
      · exact rread_name s w (by omega) hp h3
      · exact rread_num s w (by omega) hp ⟨h2, h3⟩
end Go.Proofs.YtleakainhpgldaaDoor
