/- edictlaw18.LintTexts returns true. -/
import Derived.Test.YtfopnijgkhpoiaaDoorProg
import Derived.Test.YtfopnijgkhpoiaaDoorFindRef
import Derived.Test.YtfopnijgkhpoiaaDoorFindLint
import Derived.Laws.OwnMore
namespace Go.Proofs.YtfopnijgkhpoiaaDoor
set_option linter.unusedSimpArgs false
set_option linter.unusedVariables false
open Go.RowKit

theorem Tryd.infoFnd : (Tryd.prog.info? 27).map (fun i => (i.zero, i.size, i.bytes)) = some (some (.agg #[.int .i64 0, .int .i64 0, .int .i64 0, .int .i64 0, .string ⟨#[]⟩]), 5, 48) := by kernel_rfl
theorem bytes_same (s : ByteArray) : (s.toList == s.toList) = true := by simp

set_option maxHeartbeats 8000000 in
set_option maxRecDepth 100000 in
theorem lintTexts_walk {w : World} {v : Value} {fs : List Fnd} (src : ByteArray) (h : Has elFnd w v fs) (hs : src.size ≤ 2000000) (hfl : fs.length ≤ 1048576) (ht : TabI w) :
    Calls Tryd.prog 3 #[.string src, v] w fun e w' => e = .returned (.bool true) ∧ Below w.heap.size w w' := by
  obtain ⟨i0, hi0, hz0, hz1, hz2⟩ := info_parts Tryd.infoFnd
  obtain ⟨ao, cap, rfl, hcap, hnone, hlen⟩ := h.shape
  have HOk : Hid (∀ p ∈ fs, p.ok) := fun p hp => h.ok hp
  have HP := hide h
  have HT := hide ht
  have HR : Hid (∀ W V, Has elFnd W V fs → Calls Tryd.prog 4 #[.string src, V] W fun e w' => e = .returned (.string ⟨(textL src fs).toArray⟩) ∧ Below W.heap.size W w') := fun W V h => refFinds_any src h hs hfl
  have HL : Hid (∀ W V, Has elFnd W V fs → TabI W → Calls Tryd.prog 5 #[.string src, V] W fun e w' => e = .returned (.string ⟨(textL src fs).toArray⟩) ∧ Below W.heap.size W w') := fun W V h ht => lintText_any src h hs hfl ht
  obtain ⟨n, hn⟩ : ∃ n, n = fs.length := ⟨_, rfl⟩
  obtain ⟨TB, hTB⟩ : ∃ TB : ByteArray, TB = ⟨(textL src fs).toArray⟩ := ⟨_, rfl⟩
  rw [← hTB] at HR HL
  have hse := bytes_same TB
  have hnews : ∀ ad, ao = some ad → ∀ j u, (fs.flatMap elFnd.cells)[j]? = some u → w.cell? (ad.add j) = some u := by
    intro ad had j u hu
    have hjl := (List.getElem?_eq_some_iff.1 hu).1
    rw [flatE_len] at hjl
    have hp : 0 < fs.length := by
      rcases Nat.eq_zero_or_pos fs.length with h0 | h0
      · rw [h0] at hjl; omega
      · exact h0
    obtain ⟨b, off, rfl, _, _, hrow⟩ := h.row hp
    cases had
    have e5 : elFnd.size = 5 := rfl
    rw [e5] at hjl
    obtain ⟨x, hx⟩ : ∃ x, fs[j / 5]? = some x := ⟨_, List.getElem?_eq_getElem (by omega)⟩
    have hj5 : j % 5 < elFnd.size := by rw [e5]; omega
    have := flatE_at elFnd fs (j / 5) (j % 5) x hx hj5
    rw [e5, show j / 5 * 5 + j % 5 = j from by omega] at this
    rw [this] at hu
    have hc := hrow (j / 5) x hx (j % 5) u hu
    rw [e5] at hc
    rw [addr_add]
    rw [show off + j = off + j / 5 * 5 + j % 5 from by omega]
    exact hc
  have HNw := hide hnews
  clear h ht hTB hnews
  have hfl5 : (fs.flatMap elFnd.cells).length = n * 5 := by rw [flatE_len, hn]; rfl
  have hone : ∀ u ∈ fs.flatMap elFnd.cells, u.oneCell' = true := by
    intro u hu
    obtain ⟨x, hx, hu2⟩ := List.mem_flatMap.1 hu
    exact elFnd.one (w := w) (F := fun _ => True) (HOk.out x hx) u hu2
  have H5 := hide hfl5
  have H1 := hide hone
  clear hfl5 hone
  have HP2 : Hid (∀ W, Below w.heap.size w W → Has elFnd W (.slice ao n cap) fs) := fun W hb => by rw [hn]; exact HP.out.kept hb
  rw [← hn] at hlen hfl hcap hnone ⊢
  have HN := hide hn
  clear hn
  have Hno := hide hnone
  clear hnone
  have HO0 : Hid ((w.alloc (.cells #[] 27)).ownsRow w.heap.size 27 5 (.slice (some ⟨w.heap.size, 0, none⟩) 0 0) 0 []) := World.ownsRow_lit w #[] 0 (Nat.le_refl _) (by decide) rfl
  go_enter Tryd.func3, Tryd.ntmps3
  go_wp2_with (at_builtin; refine wpList_append_any rfl _ _ 22 rfl w.heap.size 27 i0 (.agg #[.int .i64 0, .int .i64 0, .int .i64 0, .int .i64 0, .string ⟨#[]⟩]) 5 48 Tryd.underlying22 hi0 hz0 hz1 hz2 rfl (by decide) (.slice (some ⟨w.heap.size, 0, none⟩) 0 0) 0 [] rfl HO0.out ao n cap (fs.flatMap elFnd.cells) rfl Hno.out H5.out (fun ad had j u hu => kept_cell ((Below.refl _ _).alloc (Nat.le_refl _) _) (HNw.out ad had j u hu)) H1.out (by unfold maxLen; omega) (by omega) (by simp) ?_; intro v1 w1 hown1 hgr1; have HOw := hide hown1; have HGr := hide hgr1; clear hown1 hgr1)
  have HG : Hid (Has elFnd w1 v1 fs) := by
    have h5 := HOw.out
    rw [Nat.zero_add, List.nil_append, HN.out] at h5
    exact Grow.list (E := elFnd) (e := 27) (base := w.heap.size) ⟨h5, fun x hx => HOk.out x hx⟩ (by rw [← HN.out]; exact hlen)
  have HB1 : Hid (Below w.heap.size w w1) := ((Below.refl _ w).alloc (Nat.le_refl _) _).grown HGr.out (by simp) (fun k hk => by simp only [Value.ownBlock, Option.some.injEq] at hk; omega)
  clear HOw HGr
  refine (HR.out _ _ HG.out).mono ?_
  rintro e w2 ⟨rfl, hb2⟩
  have HB2 := hide (HB1.out.trans (hb2.mono HB1.out.size))
  clear hb2
  go_wp2_with fail
  refine (HL.out _ _ (HP2.out _ HB2.out) (HT.out.kept HB2.out)).mono ?_
  rintro e w3 ⟨rfl, hb3⟩
  have HB3 := hide (HB2.out.trans (hb3.mono HB2.out.size))
  clear hb3
  go_wp2
  go_ret
  exact ⟨rfl, HB3.out⟩
end Go.Proofs.YtfopnijgkhpoiaaDoor
