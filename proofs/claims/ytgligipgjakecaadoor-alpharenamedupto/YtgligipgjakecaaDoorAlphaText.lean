/- alpha.textOf. -/
import Derived.Test.YtgligipgjakecaaDoorTextPure
import Derived.Test.YtgligipgjakecaaDoorByteRow
import Derived.Test.YtgligipgjakecaaDoorAppLay
import Derived.Test.YtgligipgjakecaaDoorAlphaSame
namespace Go.Proofs.YtgligipgjakecaaDoor
set_option linter.unusedSimpArgs false
set_option linter.unusedVariables false
open Go.RowKit

def TabLaid (w : World) : Prop := Lib.TabIs Tryd.prog w "internal/strconv.uint64pow10" .u64 Lib.pow10Tab
theorem TabLaid.kept {w w' : World} (h : TabLaid w) (hb : Below w.heap.size w w') : TabLaid w' := Lib.tabBelow_of_tabIs h w' hb

theorem appInt_any {B n : Nat} {i : Int} {sv : Value} {xs : List Value} {w : World} (hi : I64 i) (hown : w.ownsRow B 5 1 sv n xs) (hB : B ≤ w.heap.size) (hn : n + 21 ≤ 140737488355328) (ht : ∀ w', Below B w w' → TabLaid w') :
    Calls Tryd.prog 25 #[sv, .int .i64 i, .int .i64 10] w fun e w' => ∃ v', e = .returned v' ∧ w'.ownsRow B 5 1 v' (n + (Lib.itoa i).length) (xs ++ Lib.byteCells (Lib.itoa i)) ∧ Below B w w' :=
  (Any.strconv_AppendInt_10 Tryd.lays176 B n i hi.1 hi.2 sv xs w hown hB hn ht).mono fun e w' ⟨v', he, ho, hb, _⟩ => ⟨v', he, ho, hb⟩

theorem byte_ints (T : List UInt8) : Lib.byteCells T = (T.map fun b => (b.toNat : Int)).map (Value.int .u8) := by unfold Lib.byteCells; rw [List.map_map]; rfl
theorem text_of_row {w : World} {base : Nat} {v : Value} {T : List UInt8} (h : w.ownsRow base 5 1 v T.length (Lib.byteCells T)) : (convert 53 9 v).run Tryd.prog w = .ok (.string ⟨T.toArray⟩) w := by
  rw [byte_ints] at h
  have h1 := text_string (vs := T.map fun b => (b.toNat : Int)) (by rw [List.length_map]; exact h)
  rw [h1]
  have h2 := strOf_of ⟨T.toArray⟩
  simp only at h2
  rw [h2]

set_option maxRecDepth 100000 in
set_option maxHeartbeats 4000000 in
theorem textOf_any {w : World} {q : Int} {v : Value} {cs : List Int} (hq : I64 q) (h : Has elInt w v cs) (ht : TabLaid w) :
    Calls Tryd.prog 23 #[.agg #[.int .i64 q, v]] w fun e w' => e = .returned (.string ⟨(textL q cs).toArray⟩) ∧ Below w.heap.size w w' := by
  obtain ⟨i0, hi0', hz0, hz1, hz2⟩ := info_parts Tryd.infoByte
  obtain ⟨va, vc, rfl, -, -, hlen⟩ := h.shape
  have HB0 := hide (belo1 w (.cells #[.int .i64 q, .slice va cs.length vc] 25))
  have hb1 : (w.alloc (.cells #[.int .i64 q, .slice va cs.length vc] 25)).cell? ⟨w.heap.size, 1, none⟩ = some (.slice va cs.length vc) := new_cells (cs := #[.int .i64 q, .slice va cs.length vc]) 1 _ rfl
  obtain ⟨W, hW⟩ : ∃ W, W = w.alloc (.cells #[.int .i64 q, .slice va cs.length vc] 25) := ⟨_, rfl⟩
  rw [← hW] at HB0 hb1
  have HL := hide (h.kept HB0.out)
  have HT : Hid (∀ w', Below W.heap.size W w' → TabLaid w') := fun w' hw => (ht.kept HB0.out).kept hw
  have HIc : Hid (∀ c ∈ cs, I64 c) := fun c hc => h.ok hc
  have HA := hide (appInt_any (B := W.heap.size) (n := 0) (sv := .slice none 0 0) (xs := []) (w := W) hq (World.ownsRow_nil _ _ _ _) (Nat.le_refl _) (by omega) HT.out)
  have HWd := hide hW
  clear h ht hW
  rw [HWd.out] at HA
  have HLen : Hid (∀ k, k ≤ cs.length → (textL q (cs.take k)).length ≤ 21 + 22 * 1073741824) := fun k hk => by
    have h1 := textL_len (cs := cs.take k) hq (fun c hc => HIc.out c (List.mem_of_mem_take hc))
    have h2 : (cs.take k).length ≤ 1073741824 := by rw [List.length_take]; omega
    omega
  go_enter Tryd.func23, Tryd.ntmps23
  go_upto_region 2 with (go_at_call 25; refine HA.out.mono ?_; rintro e w2 ⟨tv, rfl, ho, hb⟩; have HO := hide ho; have HB2 := hide hb; obtain ⟨ta, tc, htv, -, -, -⟩ := own_shape6 ho; subst htv; clear ho hb)
  have HBW : Hid (Below W.heap.size W w2) := by have h := HB2.out; rw [← HWd.out] at h; exact h
  have HOW : Hid (w2.ownsRow W.heap.size 5 1 (.slice ta (Lib.itoa q).length tc) (textL q (cs.take 0)).length (Lib.byteCells (textL q (cs.take 0)))) := by
    have h := HO.out
    rw [← HWd.out, Nat.zero_add, List.nil_append] at h
    show World.ownsRow _ _ _ _ _ _ _
    unfold textL
    simpa using h
  clear HA HO HB2 HWd
  have d1 := kept_cell HBW.out hb1
  go_wp2
  go_loopw [3, 12] (fun t i wl => ∃ k : Nat, k ≤ cs.length ∧ i = .int .i64 k ∧ Hid (wl.ownsRow W.heap.size 5 1 t (textL q (cs.take k)).length (Lib.byteCells (textL q (cs.take k)))) ∧ Hid (Below W.heap.size W wl)) (fun _ i _ => cs.length - (intOf i).toNat)
  case atStart => exact ⟨0, by omega, rfl, HOW, HBW⟩
  case round =>
    obtain ⟨k, hk, rfl, HO, HB⟩ := hrel
    obtain ⟨oa, oc, hsh, -, -, -⟩ := own_shape6 HO.out
    subst hsh
    have hl21 := HLen.out k hk
    by_cases hlt : k < cs.length
    · have hi : (k : Int) < (cs.length : Int) := by omega
      have hi0 : (0 : Int) ≤ (k : Int) := by omega
      obtain ⟨b, off, rfl, -, -, hrow⟩ := HL.out.row (by omega)
      obtain ⟨c, hc⟩ : ∃ c, cs[k]? = some c := ⟨_, List.getElem?_eq_getElem hlt⟩
      have y0 := kept_cell HB.out (hrow k c hc 0 _ rfl)
      simp only [elInt, Nat.add_zero, Nat.mul_one] at y0
      have hci : I64 c := HIc.out c (List.mem_of_getElem? hc)
      have HTk : Hid (textL q (cs.take (k + 1)) = textL q (cs.take k) ++ 32 :: Lib.itoa c) := by show _ = _; rw [List.take_add_one, hc, ← textL_snoc]; rfl
      clear hrow hc
      obtain ⟨T, hT⟩ : ∃ T, textL q (cs.take k) = T := ⟨_, rfl⟩
      rw [hT] at HO HTk hl21 ⊢
      clear hT
      have HO2 := hide (own_kept6 HO.out (belo1 wr (.cells #[.int .u8 32] 5)))
      have HB2 := hide (HB.out.alloc HB.out.size (.cells #[.int .u8 32] 5))
      have HTb := HT
      go_wp2_with (first
        | (at_builtin; refine wpList_append_any rfl _ _ 53 rfl W.heap.size 5 i0 _ 1 1 Tryd.underlying53 hi0' hz0 hz1 hz2 rfl (by decide) _ T.length (Lib.byteCells T) rfl HO2.out (some ⟨wr.heap.size, 0, none⟩) 1 1 [.int .u8 32] rfl (fun h => by cases h) rfl (fun ad had j u hu => by cases had; rw [addr_add, Nat.zero_add]; exact new_cells (cs := #[.int .u8 32]) j u hu) (by simp [Value.oneCell']) (by unfold maxLen; omega) (by omega) HB2.out.size ?_; intro v3 w3 ho3 hg3; have HB3 := hide (below_grown HB2.out HO2.out hg3 HB2.out.size); have HA3 := hide (appInt_any (B := W.heap.size) (n := T.length + 1) (sv := v3) (xs := Lib.byteCells T ++ [.int .u8 32]) (w := w3) hci ho3 HB3.out.size (by omega) (fun w' hw => HTb.out w' (HB3.out.trans hw))); obtain ⟨ga, gc, hgv, -, -, -⟩ := own_shape6 ho3; subst hgv; clear ho3 hg3)
        | (go_at_call 25; refine HA3.out.mono ?_; rintro e w4 ⟨tv, rfl, ho, hb⟩; have HO4 := hide ho; have HB4 := hide (HB3.out.trans hb); clear ho hb))
      have HON : Hid (w4.ownsRow W.heap.size 5 1 tv (textL q (cs.take (k + 1))).length (Lib.byteCells (textL q (cs.take (k + 1))))) := by
        have h := HO4.out
        rw [HTk.out]
        have e1 : Lib.byteCells T ++ [.int .u8 32] ++ Lib.byteCells (Lib.itoa c) = Lib.byteCells (T ++ 32 :: Lib.itoa c) := by
          unfold Lib.byteCells
          rw [List.map_append, List.append_assoc]
          rfl
        have e2 : T.length + 1 + (Lib.itoa c).length = (T ++ 32 :: Lib.itoa c).length := by
          rw [List.length_append, List.length_cons]; omega
        rw [e1, e2] at h
        exact h
      go_roundw
      case rel => exact ⟨k + 1, by omega, by go_num, HON, HB4⟩
      case measure => simp [intOf]; omega
    · obtain rfl : k = cs.length := by omega
      have hi : ¬ (cs.length : Int) < (cs.length : Int) := by omega
      rw [List.take_of_length_le (Nat.le_refl _)] at HO ⊢
      have hcv := text_of_row HO.out
      go_wp2
      go_ret
      exact ⟨rfl, belot HB0.out HB.out⟩
end Go.Proofs.YtgligipgjakecaaDoor
