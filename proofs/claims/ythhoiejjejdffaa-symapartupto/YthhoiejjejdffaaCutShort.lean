/- edictlaw01's cutShort: what All was asked ahead of a Cut gives what is left. -/
import Derived.Test.YthhoiejjejdffaaAllStr
import Derived.Test.YthhoiejjejdffaaRIds2
namespace Go.Proofs.Ythhoiejjejdffaa
set_option linter.unusedSimpArgs false
set_option linter.unusedVariables false
open Go.RowKit Go.Maps Go.Shelf
attribute [local go_sem] Oper.semAt_some

theorem func_someS (f : Nat) (cb : Array Value) (W : World) : (binOp .eql 98 (.func (.func f) #[] cb) .nilFunc).run Try.prog W = .ok (.bool false) W := by
  first | kernel_rfl | simp [binOp, go_sem] | rfl

/-- A list of strings in a box, as a range's body fills it. -/
def Coll1 (w1 : World) (B : Nat) (xs : List ByteArray) (W : World) : Prop :=
  ∃ v, Boxed W B 22 v ∧ W.ownsRow w1.heap.size 9 1 v xs.length (xs.map Value.string) ∧ True

theorem coll1_own {β : Type} (w1 : World) (B : Nat) (f : β → List ByteArray) : Own (fun s W => Coll1 w1 B (f s) W) :=
  holdsRow_own w1.heap.size B 22 9 1 (fun s => (f s).length) (fun s => (f s).map Value.string) (fun _ _ => True)

theorem own_shapeS {W : World} {b : Nat} {v : Value} {xs : List ByteArray} (h : W.ownsRow b 9 1 v xs.length (xs.map Value.string)) : ∃ a cap, v = .slice a xs.length cap := by
  rcases h.2 with ⟨rfl, h0⟩ | ⟨g, cap, cur, rfl, _⟩
  · exact ⟨none, 0, by rw [h0]⟩
  · exact ⟨_, cap, rfl⟩

theorem uptoS_map (ks : List ByteArray) : (uptoS ks ks.length).map (·.2) = ks := by
  apply List.ext_getElem
  · simp [uptoS]
  · intro i h1 h2; simp [uptoS, h2]

/-- What Intern and Cut leave, and what they may change. -/
def IntSaid (w : World) (p m : Nat) (ao : Option Addr) (N : Nat) (qs : List ByteArray) (w' : World) : Prop :=
  ∃ n ao' cap', StrIds 0 w' p m n ao' cap' qs ∧ n ≤ N ∧ Only (foot p m ao) w w' ∧ ∀ a, ao' = some a → ao = some a ∨ w.heap.size ≤ a.block

set_option maxRecDepth 100000 in
set_option maxHeartbeats 4000000 in
theorem cutShort_any {w : World} {p m : Nat} {ao : Option Addr} {N : Nat} {qs : List ByteArray} (z : Int) (hplt : p < w.heap.size) (hmlt : m < w.heap.size) (halt : ∀ a, ao = some a → a.block < w.heap.size)
    (hcut : ∀ W, Below w.heap.size w W → Calls Try.prog 36 #[.pointer (some ⟨p, 0, none⟩), .int .i64 z] W fun e w' => e = .returned (.tuple #[]) ∧ Hid (IntSaid W p m ao N qs w')) (hl : qs.length ≤ 2097152) :
    Calls Try.prog 38 #[.pointer (some ⟨p, 0, none⟩), .int .i64 z] w fun e w' => ∃ v, e = .returned (.tuple #[v, .bool true]) ∧ Hid (∃ w1, IntSaid w p m ao N qs w1 ∧ SL w1 w' v qs ∧ w.heap.size ≤ w1.heap.size) := by
  obtain ⟨i0, hi, hz0, hz1, hz2⟩ := info_parts Try.infoStr
  have hfs := func_someS
  have HC := hide (hcut _ ((Below.refl _ w).alloc (Nat.le_refl _) (.cells #[.pointer (some ⟨p, 0, none⟩)] 26)))
  clear hcut
  refine (callsIn_wide (n := 3)).1 ?_
  refine callsIn_of_wp_marks Try.func38 rfl trivial ?_ rfl
  simp only [Try.ntmps38, List.size_toArray, List.length_cons, List.length_nil, Nat.reduceAdd, Nat.reduceSub, Array.replicate_succ, Array.replicate_zero, List.push_toArray, List.append_toArray, List.nil_append, List.cons_append]
  gi_wp2_with (first
    | (refine ⟨trivial, ?_⟩; gi_at_call 48; refine (callsIn_wide.2 (allStr_any p _)).mono ?_; rintro e w' ⟨rfl, rfl⟩)
    | (refine ⟨trivial, ?_⟩; gi_at_call 36; refine (callsIn_wide.2 HC.out).mono ?_; rintro e w1 ⟨rfl, hc1⟩; have HC1 := hide hc1.out; clear hc1))
  obtain ⟨n1, ao1, cap1, hI1, hn1, hO1, hA1⟩ := HC1.out
  have HO1 : Hid (Only (foot p m ao) w w1) := (Only.of_below ((Below.refl _ w).alloc (Nat.le_refl _) _) _).trans hO1
  have hws : w.heap.size < w1.heap.size := by have := hO1.size; rw [World.size_alloc] at this; omega
  have hbs1 : w1.heap[w.heap.size]? = some (.cells #[.pointer (some ⟨p, 0, none⟩)] 26 (0, 0)) := by
    rw [hO1.block w.heap.size (by rw [World.size_alloc]; omega) (by
      rintro (e | e | ⟨a, ha, e⟩)
      · omega
      · omega
      · have := halt a ha; omega)]
    exact heap_alloc_new w _
  have HI1 := hide hI1
  have HCS : Hid (IntSaid w p m ao N qs w1) := ⟨n1, ao1, cap1, hI1, hn1, HO1.out, fun a ha => (hA1 a ha).imp id (fun e => by rw [World.size_alloc] at e; omega)⟩
  have hft := fun k hk => (hI1.foot_lt (by decide) (k := k) hk).1
  clear HC1 hO1 hA1 hI1
  have bx0 : Boxed (w1.alloc (.cells #[.slice none 0 0] 22)) w1.heap.size 22 (.slice none 0 0) := Boxed.new _ _ _
  have hB0 : Below w1.heap.size w1 (w1.alloc (.cells #[.slice none 0 0] 22)) := (Below.refl _ _).alloc (Nat.le_refl _) _
  have hbs0 := (hB0.block w.heap.size hws).trans hbs1
  have hI0 := HI1.out.grow hB0
  have hsz0 : (w1.alloc (.cells #[.slice none 0 0] 22)).heap.size = w1.heap.size + 1 := by simp
  generalize w1.alloc (.cells #[.slice none 0 0] 22) = W0 at *
  have hlt : qs.length ≤ 2097152 := hl
  refine wpIn_rangeFunc_ownF rfl (by omega) (gf := 71) (lb := #[.pointer (some ⟨w.heap.size, 0, none⟩)]) rfl trivial (enters_of Try.func71 (by kernel_rfl) rfl)
    (allStr_stops 2 (by omega) (n₀ := w1.heap.size) W0 hI0 (by omega) hB0.size (hft _ (.inl rfl)) (hft _ (.inr (.inl rfl))) (fun a e => hft _ (.inr (.inr ⟨a, e, rfl⟩))) hbs0) kpI_t (kpI_b hB0.size) (Below.refl _ _) (fun _ => rfl)
    (fun pre W => Coll1 w1 w1.heap.size (pre.map (·.2)) W ∧ Below w1.heap.size w1 W)
    (fun _ _ _ => False)
    (OwnFrom.and (Own.from (coll1_own w1 w1.heap.size (fun pre : List (Nat × ByteArray) => pre.map (·.2))) _) (ownFrom_below (Nat.le_refl _) hB0.size))
    (fun _ _ _ _ _ hs _ _ => hs)
    ⟨⟨_, bx0, World.ownsRow_nil _ _ _ _, trivial⟩, hB0⟩
    ?a1 ?assign ?body ?done ?stop
  case assign =>
    intro l x W K hK
    dsimp only [encS2]
    gi_wp2
    exact hK
  case stop =>
    rintro D c pre W _ _ h _
    exact h.elim
  case body =>
    rintro l pre x W ⟨⟨v, hbx, hrow, -⟩, hB⟩ hltp
    obtain ⟨a, cp, rfl⟩ := own_shapeS hrow
    have hpl : (pre.map (·.2)).length = pre.length := by simp
    have hsz := hB.size
    have hcx := fun o => (hbx.alloc o).cell
    have hcx0 := hbx.cell
    rw [hpl] at hbx hrow hcx hcx0
    gi_wp2_with (gi_at_builtin; refine wpListIn_append_own _ rfl _ _ 22 rfl w1.heap.size 9 i0 (.string ⟨#[]⟩) 1 16 Try.underlying22 hi hz0 hz1 hz2 rfl (by decide) (.slice a pre.length cp) pre.length ((pre.map (·.2)).map Value.string) rfl (hrow.alloc _) ⟨W.heap.size, 0, none⟩ 1 1 [.string x.2] rfl rfl (cell_one_new _ _ _) (by simp [Value.oneCell']) (by unfold maxLen; omega) (by omega) (by rw [World.size_alloc]; omega) ?_; intro v2 w2 hown2 hgrow2 _; obtain ⟨g2, cap2, rfl⟩ := ownsRow_succ hown2; obtain ⟨hv1, hv2, hr2, hk2, hb2⟩ := hbx.appended (by decide) hrow hB.size (Nat.le_refl _) hown2 hgrow2; have hc1 := hv1.cell; have hf1 := hv1.frozen)
    refine ⟨hk2, ⟨hb2, fun v t hv => ?_⟩, ⟨_, hv2, ?_, trivial⟩, hB.trans hb2⟩
    · exact (hb2.block w.heap.size hws).trans hv
    · rw [List.map_append, List.map_append, List.length_append, hpl]; exact hr2
  case done =>
    rintro D ys W hD rfl ⟨⟨v, hbx, hrow, -⟩, hB⟩ hK
    rw [uptoS_map] at hrow
    have hcb := hbx.cell
    have HRow := hide hrow
    obtain ⟨a, cp, rfl⟩ := own_shapeS hrow
    generalize hq : qs.length = q at *
    have HQ := hide hq
    clear hq
    gi_wp2
    refine ⟨by simp, .inl ⟨_, _, rfl, run_takeDeferred hK, ?_⟩⟩
    exact ⟨.tuple #[.slice a q cp, .bool true], by simp [results, Try.results38, go_sem], _, rfl, w1, HCS.out, ⟨by rw [HQ.out]; exact ownsRow_putObj HRow.out _ hK rfl, hB.trans (belowK_b (w := w1) (Nat.le_refl _) W D _ _ (by omega) hK rfl rfl)⟩, by omega⟩
end Go.Proofs.Ythhoiejjejdffaa
