/- edictlaw01.silent returns true. -/
import Derived.Test.YtlghlkgdngoagaaProg
import Derived.Test.YtlghlkgdngoagaaNil
import Derived.Test.YtlghlkgdngoagaaNewStr
import Derived.RangeFuncFrom
namespace Go.Proofs.Ytlghlkgdngoagaa
set_option linter.unusedSimpArgs false
set_option linter.unusedVariables false
open Go.RowKit Go.Maps Go.Shelf
attribute [local go_sem] Oper.semAt_some

def encS (x : Int × ByteArray) : Array Value := #[.int .i64 x.1, .string x.2]

theorem allNil_stops (n b n₀ : Nat) (w : World) (hc : w.cell? ⟨b, 0, none⟩ = some (.pointer none)) :
    SeqStopsK Fence.wide n Try.prog 78 #[.pointer (some ⟨b, 0, none⟩)] encS (Below n₀) (fun xs => xs = []) (fun _ => False) 0 w := fun l J Jx W hb hJ hJx hY h0 => by
  have hc2 := kept_cell hb hc
  refine callsIn_of_wp Try.func78 rfl trivial ?_ rfl
  simp only [Try.ntmps78, List.size_toArray, List.length_cons, List.length_nil, Nat.reduceAdd, Nat.reduceSub, Array.replicate_succ, Array.replicate_zero, List.push_toArray, List.append_toArray, List.nil_append, List.cons_append]
  clear hY hJ hJx hb hc
  gi_wp2_with (refine ⟨trivial, fun h => (by cases h), ?_⟩; gi_at_call 32; refine (callsIn_wide.2 (lenNil _)).mono ?_; rintro e w' ⟨rfl, hw'⟩; have hw' := hw'.symm; subst hw')
  gi_loopw [4] (fun i wr => i = .int .i64 0 ∧ wr = W) (fun _ _ => 0)
  case atStart => exact ⟨rfl, rfl⟩
  case round =>
    obtain ⟨rfl, rfl⟩ := hrel
    gi_wp2_with (refine ⟨trivial, fun h => (by cases h), ?_⟩; gi_at_call 32; refine (callsIn_wide.2 (lenNil _)).mono ?_; rintro e w' ⟨rfl, hw'⟩; have hw' := hw'.symm; subst hw')
    go_end0
    exact ⟨⟨_, rfl⟩, .inl ⟨[], rfl, h0⟩⟩

theorem cellNew (w : World) (v : Value) (t : TypeId) : (w.alloc (.cells #[v] t)).cell? ⟨w.heap.size, 0, none⟩ = some v := by
  have h := heap_alloc_new w (.cells #[v] t)
  simp only [World.cell?, h]
  simp only [Option.isSome_none, Bool.false_eq_true, if_false]
  rfl
theorem dd_one : ddS [⟨#[97]⟩] = [⟨#[97]⟩] := by
  unfold ddS addS
  simp
theorem b_not_a : (⟨#[98]⟩ : ByteArray) ∉ ([⟨#[97]⟩] : List ByteArray) := by
  intro h
  have h1 : (⟨#[98]⟩ : ByteArray) = ⟨#[97]⟩ := List.mem_singleton.1 h
  have h2 := congrArg (fun b : ByteArray => b.data.toList) h1
  revert h2
  decide
theorem func_some (f : Nat) (cb : Array Value) (W : World) : (binOp .eql 98 (.func (.func f) #[] cb) .nilFunc).run Try.prog W = .ok (.bool false) W := by
  first | kernel_rfl | simp [binOp, go_sem] | rfl

set_option maxHeartbeats 2000000 in
set_option maxRecDepth 100000 in
theorem silent_any (w : World) : Calls Try.prog 16 #[] w fun e w' => e = .returned (.bool true) ∧ Below w.heap.size w w' := by
  have hfs := func_some
  refine (callsIn_wide (n := 3)).1 ?_
  refine callsIn_of_wp_marks Try.func16 rfl trivial ?_ rfl
  simp only [Try.ntmps16, List.size_toArray, List.length_cons, List.length_nil, Nat.reduceAdd, Nat.reduceSub, Array.replicate_succ, Array.replicate_zero, List.push_toArray, List.append_toArray, List.nil_append, List.cons_append]
  gi_wp2_with (first
    | (refine ⟨trivial, ?_⟩; gi_at_call 46; refine (callsIn_wide.2 (cutNil _)).mono ?_; rintro e w' ⟨rfl, hw'⟩; have hw' := hw'.symm; subst hw')
    | (refine ⟨trivial, ?_⟩; gi_at_call 54; refine (callsIn_wide.2 (allNil _)).mono ?_; rintro e w' ⟨rfl, rfl⟩))
  have hB0 : Below w.heap.size w (((w.alloc (.cells #[.pointer none] 26)).alloc (.cells #[.int .i64 0] 3)).alloc (.cells #[.pointer none] 26)) := (((Below.refl _ w).alloc (Nat.le_refl _) _).alloc (by simp) _).alloc (by simp; omega) _
  have hc1 : (((w.alloc (.cells #[.pointer none] 26)).alloc (.cells #[.int .i64 0] 3)).alloc (.cells #[.pointer none] 26)).cell? ⟨w.heap.size + 1, 0, none⟩ = some (.int .i64 0) := by
    have h := (cellNew (w.alloc (.cells #[.pointer none] 26)) (.int .i64 0) 3)
    rw [World.size_alloc] at h
    exact kept_cell ((Below.refl _ _).alloc (Nat.le_refl _) _) h
  have hc2 : (((w.alloc (.cells #[.pointer none] 26)).alloc (.cells #[.int .i64 0] 3)).alloc (.cells #[.pointer none] 26)).cell? ⟨w.heap.size + 1 + 1, 0, none⟩ = some (.pointer none) := by
    have h := (cellNew ((w.alloc (.cells #[.pointer none] 26)).alloc (.cells #[.int .i64 0] 3)) (.pointer none) 26)
    rw [World.size_alloc, World.size_alloc] at h
    exact h
  refine wpIn_rangeFunc_ownF rfl (by omega) (gf := 78) (lb := #[.pointer (some ⟨w.heap.size + 1 + 1, 0, none⟩)]) rfl trivial (enters_of Try.func78 (by kernel_rfl) rfl)
    (allNil_stops 2 (w.heap.size + 1 + 1) w.heap.size _ hc2) belowK_t (belowK_b (by simp; omega)) (Below.refl _ _) (fun _ => rfl)
    (fun _ W => W.cell? ⟨w.heap.size + 1, 0, none⟩ = some (.int .i64 0) ∧ Below w.heap.size w W)
    (fun _ _ _ => False)
    (OwnFrom.and (Own.from (fun s A B row hs hg hr => cell_kept hs hg hr) _) (ownFrom_below (Nat.le_refl _) (by simp; omega)))
    (fun _ _ _ _ _ hs _ _ => hs)
    ⟨hc1, hB0⟩
    ?a1 ?assign ?body ?done ?stop
  case assign =>
    intro l x W K hK
    gi_wp2
    exact hK
  case body =>
    intro l pre x W _ h
    exact absurd h (Nat.not_lt_zero _)
  case stop =>
    rintro D c pre W _ _ h _
    exact h.elim
  case done =>
    rintro D ys W hD rfl ⟨hc, hB⟩ hK
    gi_wp2_with (first
      | (refine ⟨trivial, ?_⟩; gi_at_call 33; refine (callsIn_wide.2 (atNil _)).mono ?_; rintro e w' ⟨rfl, hw'⟩; have hw' := hw'.symm; subst hw')
      | (refine ⟨trivial, ?_⟩; gi_at_call 38; refine (callsIn_wide.2 (internNil _ _)).mono ?_; rintro e w' ⟨rfl, hw'⟩; have hw' := hw'.symm; subst hw')
      | (refine ⟨trivial, ?_⟩; gi_at_call 34; refine (callsIn_wide.2 (findNil _ _)).mono ?_; rintro e w' ⟨rfl, hw'⟩; have hw' := hw'.symm; subst hw')
      | (refine ⟨trivial, ?_⟩; gi_at_call 32; refine (callsIn_wide.2 (lenNil _)).mono ?_; rintro e w' ⟨rfl, hw'⟩; have hw' := hw'.symm; subst hw')
      | (refine ⟨trivial, ?_⟩; gi_at_call 17; refine (callsIn_wide.2 (tInternNil .nilFunc _)).mono ?_; rintro e W1 ⟨rfl, hb1⟩; have HB1 := hide hb1; clear hb1)
      | (refine ⟨trivial, ?_⟩; gi_at_call 27; refine (callsIn_wide.2 (tConstNil _)).mono ?_; rintro e W2 ⟨rfl, hb2⟩; have HB2 := hide hb2; clear hb2)
      | (refine ⟨trivial, ?_⟩; gi_at_call 25; refine (callsIn_wide.2 (tSortedNil _)).mono ?_; rintro e W3 ⟨rfl, hb3⟩; have HB3 := hide hb3; clear hb3)
      | (refine ⟨trivial, ?_⟩; gi_at_call 26; refine (callsIn_wide.2 (tRanksNil _)).mono ?_; rintro e W4 ⟨⟨ao4, cap4, rfl⟩, hb4⟩; have HB4 := hide hb4; clear hb4))
    have hI : IsStrs (W4.alloc (.cells #[.string ⟨#[97]⟩] 9)) (some ⟨W4.heap.size, 0, none⟩) 1 [⟨#[97]⟩] := by
      refine ⟨rfl, by decide, by intro s hs; simp at hs; subst hs; decide, fun _ => ⟨W4.heap.size, 0, rfl, ?_⟩⟩
      intro i s hi
      match i, hi with
      | 0, hi =>
        obtain rfl := Option.some.inj hi
        exact (cellNew W4 (.string ⟨#[97]⟩) 9)
      | i + 1, hi => simp at hi
    have HN := hide (newStr_any (base := 0) (some ⟨W4.heap.size, 0, none⟩) 1 1 [⟨#[97]⟩] _ (Nat.zero_le _) hI (by decide))
    clear hI
    gi_wp2_with (first
      | (refine ⟨trivial, ?_⟩; gi_at_call 10; refine (callsIn_wide.2 HN.out).mono ?_; rintro e W5 ⟨rfl, hp5⟩; obtain ⟨n5, ao5, cap5, hI5, _, hb5, _⟩ := hp5.out; rw [dd_one, World.size_alloc] at hI5; have HF5 := hide (findStr_none hI5 (k := ⟨#[98]⟩) (by decide) b_not_a); have HL5 := hide (lenStr_any hI5); have HB5 := hide hb5; clear hp5 hI5 hb5)
      | (refine ⟨trivial, ?_⟩; gi_at_call 34; refine (callsIn_wide.2 HF5.out).mono ?_; rintro e w' ⟨rfl, hw'⟩; have hw' := hw'.symm; subst hw')
      | (refine ⟨trivial, ?_⟩; gi_at_call 32; refine (callsIn_wide.2 HL5.out).mono ?_; rintro e w' ⟨rfl, hw'⟩; have hw' := hw'.symm; subst hw'))
    have hW5 : Below W.heap.size W W5 := by
      have h2 := HB1.out.trans (HB2.out.mono HB1.out.size)
      have h2' := h2.alloc h2.size (.cells #[.int .i64 0, .int .i64 0, .string ⟨#[]⟩] 34)
      have h3 := h2'.trans (HB3.out.mono h2'.size)
      have h4 := h3.trans (HB4.out.mono h3.size)
      have h4' := h4.alloc h4.size (.cells #[.string ⟨#[97]⟩] 9)
      exact h4'.trans (HB5.out.mono h4'.size)
    have hDl : D < W.heap.size := (Array.getElem?_eq_some_iff.1 hK).1
    have hK5 : W5.heap[D]? = some (.deferred (some [])) := (hW5.block D hDl).trans hK
    have hB5 : Below w.heap.size w W5 := hB.trans (hW5.mono hB.size)
    refine ⟨by simp, .inl ⟨_, _, rfl, run_takeDeferred hK5, ?_⟩⟩
    exact ⟨_, results_tmp rfl _ _ _, rfl, hB5.trans (belowK_b (w := w) (Nat.le_refl _) W5 D _ _ (by simp at hD; omega) hK5 rfl rfl)⟩

end Go.Proofs.Ytlghlkgdngoagaa
