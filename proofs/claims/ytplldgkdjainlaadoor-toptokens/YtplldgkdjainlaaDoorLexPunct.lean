/- What lex.punctuation answers: the first mark of the table that fits. -/
import Derived.Test.YtplldgkdjainlaaDoorProg
import Derived.Test.YtplldgkdjainlaaDoorLexInt
import Derived.Test.YtplldgkdjainlaaDoorGap
import Derived.Deep.MidRow
namespace Go.Proofs.YtplldgkdjainlaaDoor
set_option linter.unusedSimpArgs false
set_option linter.unusedVariables false
open Go.RowKit
attribute [local go_sem] over_cellAt over_frozenAt over_setAt

def marksT : List (List UInt8 × Int × Int) :=
  [([58, 45], 9, 0), ([33, 61], 11, 2), ([60, 61], 11, 4), ([62, 61], 11, 6), ([60], 11, 3), ([62], 11, 5), ([61], 11, 1), ([40], 5, 0), ([41], 6, 0), ([44], 7, 0), ([46], 8, 0)]

def punctL : List (List UInt8 × Int × Int) → List UInt8 → Option (Nat × Int × Int)
  | [], _ => none
  | m :: r, l => if Lib.hasPrefix l m.1 then some (m.1.length, m.2.1, m.2.2) else punctL r l

def punctOf (o : Nat) : Option (Nat × Int × Int) → Nx
  | some (n, k, op) => .tok ⟨k, ⟨#[]⟩, 0, op, o, o + n⟩
  | none => .bad 10 o
def punctX (s : ByteArray) (o : Nat) : Nx := punctOf o (punctL marksT (rest s o))

theorem prefix_call (s : ByteArray) (k : Nat) (p : ByteArray) (w : World) :
    Calls Tryd.prog 20 #[.string (s.extract k s.size), .string p] w fun e w' => e = .returned (.bool (Lib.hasPrefix (rest s k) p.data.toList)) ∧ w' = w := by
  have := Any.strings_HasPrefix Tryd.lays99 (s.extract k s.size) p w
  rw [extract_rest] at this
  exact this

theorem Tryd.infoMarks : (Tryd.prog.info? 64).map (·.size) = some marksL.length := by kernel_rfl

theorem LexLaid.range {w : World} (h : LexLaid w) : w.rangeAt 2 0 marksL := fun j v hv => by
  rw [Nat.zero_add]; exact h.marks j v hv

def IsMark (k : Nat) (p : ByteArray) (kd op : Int) : Prop :=
  p.size ≤ 2 ∧ marksT[k]? = some (p.data.toList, kd, op) ∧ ∀ W, (Instr.index 64 (.agg marksL.toArray) (.int .i64 (k : Int))).run Tryd.prog W = .ok (.agg #[.string p, .int .i64 kd, .int .i64 op]) W

theorem mark_at : ∀ k : Nat, k < 11 → ∃ p kd op, IsMark k p kd op
  | 0, _ => ⟨⟨#[58, 45]⟩, 9, 0, by decide, rfl, fun W => by kernel_rfl⟩
  | 1, _ => ⟨⟨#[33, 61]⟩, 11, 2, by decide, rfl, fun W => by kernel_rfl⟩
  | 2, _ => ⟨⟨#[60, 61]⟩, 11, 4, by decide, rfl, fun W => by kernel_rfl⟩
  | 3, _ => ⟨⟨#[62, 61]⟩, 11, 6, by decide, rfl, fun W => by kernel_rfl⟩
  | 4, _ => ⟨⟨#[60]⟩, 11, 3, by decide, rfl, fun W => by kernel_rfl⟩
  | 5, _ => ⟨⟨#[62]⟩, 11, 5, by decide, rfl, fun W => by kernel_rfl⟩
  | 6, _ => ⟨⟨#[61]⟩, 11, 1, by decide, rfl, fun W => by kernel_rfl⟩
  | 7, _ => ⟨⟨#[40]⟩, 5, 0, by decide, rfl, fun W => by kernel_rfl⟩
  | 8, _ => ⟨⟨#[41]⟩, 6, 0, by decide, rfl, fun W => by kernel_rfl⟩
  | 9, _ => ⟨⟨#[44]⟩, 7, 0, by decide, rfl, fun W => by kernel_rfl⟩
  | 10, _ => ⟨⟨#[46]⟩, 8, 0, by decide, rfl, fun W => by kernel_rfl⟩
  | n + 11, h => absurd h (by omega)

theorem drop_mark {l : List UInt8} {k : Nat} {p : ByteArray} {kd op : Int} (h : marksT[k]? = some (p.data.toList, kd, op)) :
    punctL (marksT.drop k) l = if Lib.hasPrefix l p.data.toList then some (p.size, kd, op) else punctL (marksT.drop (k + 1)) l := by
  obtain ⟨hk, e⟩ := List.getElem?_eq_some_iff.1 h
  rw [List.drop_eq_getElem_cons hk, e]
  show (if Lib.hasPrefix l p.data.toList then some (p.data.toList.length, kd, op) else punctL (marksT.drop (k + 1)) l) = _
  rw [show p.data.toList.length = p.size from by simp]

set_option maxHeartbeats 1000000 in
theorem punct_any (s : ByteArray) (o : Nat) (w : World) (hs : s.size ≤ 140737488351232) (ho : o < s.size) (hl : LexLaid w) :
    Calls Tryd.prog 28 #[.string s, .int .i64 o] w fun e w' => e = .returned (punctX s o).val ∧ Below w.heap.size w w' := by
  have HL := hide hl
  clear hl
  go_enter Tryd.func28, Tryd.ntmps28
  go_wp2_with (with_reducible refine wpList_load_mid ?_ 64 (Operand.global 2) ?_ 2 0 ?_ marksL _ (HL.out.kept (below2 _ _ _)).range Tryd.underlying64 ?_ Tryd.infoMarks ?_)
  · rfl
  · rfl
  · rfl
  · rfl
  go_loopw [7, 9] (fun _ i wr => ∃ k : Nat, k ≤ 11 ∧ i = .int .i64 k ∧ Hid (punctL marksT (rest s o) = punctL (marksT.drop k) (rest s o)) ∧
    ∃ x, wr = over ((w.alloc (.cells #[.int .i64 0, .string ⟨#[]⟩, .int .i64 0, .int .i64 0, .int .i64 0, .int .i64 0] 32)).alloc (.cells #[.int .i64 0, .int .i64 0, .int .i64 0] 25)) x) (fun _ i _ => 11 - (intOf i).toNat)
  case atStart => exact ⟨0, by omega, rfl, rfl, _, over_eq (Below.refl _ _)⟩
  case round =>
    obtain ⟨k, hk, rfl, HE, x, rfl⟩ := hrel
    by_cases hlt : k < 11
    · have hi : (k : Int) < 11 := by omega
      obtain ⟨p, kd, op, hp, hm, hix⟩ := mark_at k hlt
      have HD := hide (drop_mark (l := rest s o) hm)
      have hp' : (p.size : Int) ≤ 2 := by omega
      clear hm
      go_wp2
      clear hix
      obtain ⟨V, hV⟩ : ∃ V, V = over ((w.alloc (.cells #[.int .i64 0, .string ⟨#[]⟩, .int .i64 0, .int .i64 0, .int .i64 0, .int .i64 0] 32)).alloc (.cells #[.int .i64 0, .int .i64 0, .int .i64 0] 25)) x := ⟨_, rfl⟩
      have hVb := over_below ((w.alloc (.cells #[.int .i64 0, .string ⟨#[]⟩, .int .i64 0, .int .i64 0, .int .i64 0, .int .i64 0] 32)).alloc (.cells #[.int .i64 0, .int .i64 0, .int .i64 0] 25)) x
      rw [← hV] at hVb ⊢
      clear hV
      replace hVb := hide hVb
      obtain ⟨b, hb⟩ : ∃ b, b = V.heap.size := ⟨_, rfl⟩
      have c0 : (V.alloc (.cells #[.string p, .int .i64 kd, .int .i64 op] 63)).cell? ⟨b, 0, none⟩ = some (.string p) := by rw [hb]; simp
      have c1 : (V.alloc (.cells #[.string p, .int .i64 kd, .int .i64 op] 63)).cell? ⟨b, 1, none⟩ = some (.int .i64 kd) := by rw [hb]; simp
      have c2 : (V.alloc (.cells #[.string p, .int .i64 kd, .int .i64 op] 63)).cell? ⟨b, 2, none⟩ = some (.int .i64 op) := by rw [hb]; simp
      rw [← hb]
      clear hb
      refine wp_region_over (fun W => W = V.alloc (.cells #[.string p, .int .i64 kd, .int .i64 op] 63)) (by kernel_rfl) (by kernel_rfl) rfl ?_
      rintro W rfl
      have d0 := over_cell c0
      have d1 := over_cell c1
      have d2 := over_cell c2
      clear c0 c1 c2
      repeat (go_big_quiet_step (first | (go_at_call 20; exact calls_over_same (prefix_call s o p _))))
      refine wpQuiet_nil ?_
      rintro _ ⟨y, rfl⟩
      have e0 := d0 y
      have e1 := d1 y
      have e2 := d2 y
      clear d0 d1 d2
      have hB : Below ((w.alloc (.cells #[.int .i64 0, .string ⟨#[]⟩, .int .i64 0, .int .i64 0, .int .i64 0, .int .i64 0] 32)).alloc (.cells #[.int .i64 0, .int .i64 0, .int .i64 0] 25)).heap.size ((w.alloc (.cells #[.int .i64 0, .string ⟨#[]⟩, .int .i64 0, .int .i64 0, .int .i64 0, .int .i64 0] 32)).alloc (.cells #[.int .i64 0, .int .i64 0, .int .i64 0] 25)) (over (V.alloc (.cells #[.string p, .int .i64 kd, .int .i64 op] 63)) y) :=
        (hVb.out.alloc hVb.out.size _).trans ((over_below _ y).mono (Nat.le_trans hVb.out.size (by simp)))
      obtain ⟨z, hz⟩ := over_of hB
      rw [hz] at e0 e1 e2 ⊢
      clear hz hB hVb
      cases hpre : Lib.hasPrefix (rest s o) p.data.toList with
      | true =>
        have HX : Hid (punctX s o = .tok ⟨kd, ⟨#[]⟩, 0, op, o, o + p.size⟩) := by
          show punctOf o (punctL marksT (rest s o)) = _
          rw [HE.out, HD.out, hpre]; rfl
        clear HE HD hpre
        go_wp2
        exact bodyPost_ret (v := (Nx.tok ⟨kd, ⟨#[]⟩, 0, op, o, o + p.size⟩).val) (by simp [results, Tryd.results28, go_sem, Nx.val, Tok.val, faultVal]) rfl ⟨by rw [HX.out], below2_over _ _ _ _⟩
      | false =>
        have HN : Hid (punctL marksT (rest s o) = punctL (marksT.drop (k + 1)) (rest s o)) := by
          show _ = _
          rw [HE.out, HD.out, hpre]; rfl
        clear HE HD hpre e0 e1 e2
        go_wp2
        go_roundw
        case rel => exact ⟨k + 1, by omega, by go_num, HN, z, rfl⟩
        case measure => simp [intOf]; omega
    · obtain rfl : k = 11 := by omega
      have HX : Hid (punctX s o = .bad 10 o) := by
        show punctOf o (punctL marksT (rest s o)) = _
        rw [HE.out]; rfl
      clear HE
      go_wp2_with (go_at_call 21; refine (calls_over (refuse_below _ _ _)).mono ?_; unfold Nx.val tokZero faultVal; rintro e w' ⟨rfl, y, rfl⟩)
      exact bodyPost_ret (v := (Nx.bad 10 o).val) (by simp [results, Tryd.results28, go_sem, Nx.val, tokZero, faultVal]) rfl ⟨by rw [HX.out], below2_over _ _ _ _⟩

end Go.Proofs.YtplldgkdjainlaaDoor
