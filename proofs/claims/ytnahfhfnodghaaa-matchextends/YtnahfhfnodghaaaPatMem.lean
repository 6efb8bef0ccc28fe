/- edictlaw06.copyPattern, samePattern. -/
import Derived.Test.YtnahfhfnodghaaaRoomCons
import Derived.Test.YtnahfhfnodghaaaOverAt
namespace Go.Proofs.Ytnahfhfnodghaaa
set_option linter.unusedSimpArgs false
set_option linter.unusedVariables false
open Go.RowKit

def sltV (s : Slt) : List Value := [.bool s.v, .int .i64 s.n]
theorem sltV_len (s : Slt) : (sltV s).length = 2 := rfl
theorem sltV_one (l : List Slt) : ∀ u ∈ l.flatMap sltV, u.oneCell' = true := by
  intro u hu
  obtain ⟨c, _, hc⟩ := List.mem_flatMap.1 hu
  simp only [sltV, List.mem_cons, List.not_mem_nil, or_false] at hc
  rcases hc with rfl | rfl <;> rfl
theorem sltAt_get {w : World} {b off : Nat} {s : Slt} (h : sltAt w b off s) {j : Nat} {u : Value} (hu : (sltV s)[j]? = some u) : w.cell? ⟨b, off + j, none⟩ = some u := by
  match j with
  | 0 => simp only [sltV, List.getElem?_cons_zero, Option.some.injEq] at hu; subst hu; exact h.1
  | 1 => simp only [sltV, List.getElem?_cons_succ, List.getElem?_cons_zero, Option.some.injEq] at hu; subst hu; exact h.2
  | j + 2 => simp [sltV] at hu
theorem sltAt_of {w : World} {b off : Nat} {s : Slt} (h : ∀ j u, (sltV s)[j]? = some u → w.cell? ⟨b, off + j, none⟩ = some u) : sltAt w b off s := ⟨h 0 _ rfl, h 1 _ rfl⟩

theorem slts_src {w : World} {ao : Option Addr} {len : Nat} {l : List Slt} (h : IsSlts w ao len l) : ∀ ad, ao = some ad → ∀ j u, (l.flatMap sltV)[j]? = some u → w.cell? (ad.add j) = some u := by
  intro ad had j u hu
  obtain ⟨i, k, x, e, hk, hx, hxk⟩ := flatN_at sltV 2 sltV_len (by omega) hu
  have hlt := (List.getElem?_eq_some_iff.1 hx).1
  obtain ⟨b, off, e2, hc⟩ := h.2.2.2 (by have := h.1; omega)
  rw [had] at e2
  cases e2
  rw [addr_add, e, ← Nat.add_assoc]
  exact sltAt_get (hc i x hx) hxk

theorem own_slts {w : World} {base n : Nat} {ao : Option Addr} {cap : Nat} {l : List Slt} (h : w.ownsRow base 43 2 (.slice ao n cap) n (l.flatMap sltV)) (hI : ∀ x ∈ l, I64 x.n) (hz : n * 16 ≤ 140737488355328) : IsSlts w ao n l := by
  have hl : l.length = n := by have := h.1; rw [flatN_len sltV 2 sltV_len] at this; omega
  refine ⟨hl, hz, hI, fun hp => ?_⟩
  obtain ⟨ao', cap', e, _, hn, hg⟩ := own_shape6 h
  cases e
  cases ao with
  | none => exact absurd (hn rfl).1 (by omega)
  | some ad =>
  obtain ⟨g, rfl, _⟩ := hg ad rfl
  refine ⟨g, 0, rfl, fun i x hx => sltAt_of fun j u hu => ?_⟩
  rw [Nat.zero_add]
  refine own_at h ?_
  rw [flatN sltV 2 sltV_len l i j x hx (List.getElem?_eq_some_iff.1 hu).1]
  exact hu

theorem Try.infoSlt6 : (Try.prog.info? 43).map (fun i => (i.zero, i.size, i.bytes)) = some (some (.agg #[.bool false, .int .i64 0]), 2, 16) := by kernel_rfl

attribute [local go_sem] over_cellAt over_frozenAt over_setAt

set_option maxRecDepth 100000 in
set_option maxHeartbeats 1000000 in
theorem copyPattern_any {w : World} {q : Int} {ao : Option Addr} {len cap : Nat} {l : List Slt} (h : IsSlts w ao len l) (hn : ao = none → len = 0 ∧ cap = 0) :
    Calls Try.prog 8 #[.agg #[.int .i64 q, .slice ao len cap]] w fun e w' => ∃ ao' cap', e = .returned (.agg #[.int .i64 q, .slice ao' len cap']) ∧ w'.ownsRow w.heap.size 43 2 (.slice ao' len cap') len (l.flatMap sltV) ∧ Below w.heap.size w w' := by
  obtain ⟨i0, hi0, hz0, hz1, hz2⟩ := info_parts Try.infoSlt6
  have hz := h.2.1
  have hB0 : Below w.heap.size w (((w.alloc (.cells #[.int .i64 q, .slice ao len cap] 24)).alloc (.cells #[.int .i64 0, .slice none 0 0] 24)).alloc (.cells #[.int .i64 q, .slice none 0 0] 24)) := (((Below.refl _ w).alloc (Nat.le_refl _) _).alloc (by simp) _).alloc (by simp; omega) _
  have H2 := hide (slts_src (h.kept hB0))
  have HL := hide h.1
  have HN := hide hn
  clear h hn hB0
  go_enter Try.func8, Try.ntmps8
  go_wp2_with (first
    | (at_builtin; refine wpList_append_any rfl _ _ 22 rfl (w.heap.size + 1 + 1 + 1) 43 i0 _ 2 16 Try.underlying22 hi0 hz0 hz1 hz2 rfl (by decide) _ 0 [] rfl (World.ownsRow_nil _ _ _ _) ao len cap (l.flatMap sltV) rfl HN.out (by rw [flatN_len sltV 2 sltV_len, HL.out]) H2.out (sltV_one l) (by unfold maxLen; omega) (by omega) (by simp) ?_))
  intro v1 w1 hown1 hgrow
  obtain ⟨a1, c1, rfl, _, _, _⟩ := own_shape6 hown1
  have hB1 := below_grown (Below.refl _ _) (World.ownsRow_nil (((w.alloc (.cells #[.int .i64 q, .slice ao len cap] 24)).alloc (.cells #[.int .i64 0, .slice none 0 0] 24)).alloc (.cells #[.int .i64 q, .slice none 0 0] 24)) (((w.alloc (.cells #[.int .i64 q, .slice ao len cap] 24)).alloc (.cells #[.int .i64 0, .slice none 0 0] 24)).alloc (.cells #[.int .i64 q, .slice none 0 0] 24)).heap.size 43 2) hgrow (Nat.le_refl _)
  obtain ⟨x, rfl⟩ := over_of hB1
  have HO := hide hown1
  clear hgrow hB1 hown1 H2
  go_wp2
  refine bodyPost_ret (v := .agg #[.int .i64 q, .slice a1 len c1]) (by simp [results, Try.results8, go_sem]) rfl ⟨a1, c1, rfl, own_mono6 (by omega) (own_over (by simp) (by simp) HO.out), over_bel ((((Below.refl _ w).alloc (Nat.le_refl _) _).alloc (by simp) _).alloc (by simp; omega) _) (by simp; omega)⟩

theorem neqSltSame (a : Slt) (w : World) : (binOp .neq 43 (.agg #[.bool a.v, .int .i64 a.n]) (.agg #[.bool a.v, .int .i64 a.n])).run Try.prog w = .ok (.bool false) w := by
  have h1 := run_equalIn_struct (P := Try.prog) w 9999 43 #[.bool a.v, .int .i64 a.n] #[.bool a.v, .int .i64 a.n] (by kernel_rfl) (by kernel_rfl)
  simp only [binOp]
  simp only [Op.equal, Op.maxDepth, Sem.run_bind]
  go_simp

set_option maxRecDepth 100000 in
set_option maxHeartbeats 1000000 in
theorem samePattern_any {w : World} {q : Int} {a1 a2 : Option Addr} {len c1 c2 : Nat} {l : List Slt} (h1 : IsSlts w a1 len l) (h2 : IsSlts w a2 len l) :
    Calls Try.prog 13 #[.agg #[.int .i64 q, .slice a1 len c1], .agg #[.int .i64 q, .slice a2 len c2]] w fun e w' => e = .returned (.bool true) ∧ Below w.heap.size w w' := by
  have hB0 : Below w.heap.size w ((w.alloc (.cells #[.int .i64 q, .slice a1 len c1] 24)).alloc (.cells #[.int .i64 q, .slice a2 len c2] 24)) := ((Below.refl _ w).alloc (Nat.le_refl _) _).alloc (by simp) _
  obtain ⟨hl, hlen, hI, hr1⟩ := h1
  obtain ⟨-, -, -, hr2⟩ := h2
  have HB0 := hide hB0
  have HR1 := hide hr1
  have HR2 := hide hr2
  have HL := hide hl
  have hq : (q != q) = false := by simp
  clear hl hI hr1 hr2 hB0
  go_enter Try.func13, Try.ntmps13
  go_wp2
  obtain ⟨Y, hY⟩ : ∃ Y, Y = ((w.alloc (.cells #[.int .i64 q, .slice a1 len c1] 24)).alloc (.cells #[.int .i64 q, .slice a2 len c2] 24)) := ⟨_, rfl⟩
  have p1 : Y.cell? ⟨w.heap.size, 1, none⟩ = some (.slice a1 len c1) := by rw [hY]; simp
  have p2 : Y.cell? ⟨w.heap.size + 1, 1, none⟩ = some (.slice a2 len c2) := by rw [hY]; simp
  rw [← hY] at HB0 ⊢
  clear hY
  have HP1 := hide p1
  have HP2 := hide p2
  clear p1 p2
  go_loopw [5, 23] (fun _ i wr => ∃ k : Nat, k ≤ len ∧ i = .int .i64 k ∧ Hid (Below Y.heap.size Y wr)) (fun _ i _ => len - (intOf i).toNat)
  case atStart => exact ⟨0, by omega, rfl, Below.refl _ _⟩
  case round =>
    obtain ⟨k, hk, rfl, HB⟩ := hrel
    have HBw := hide (HB0.out.trans (HB.out.mono HB0.out.size))
    by_cases hlt : k < len
    · have hi : (k : Int) < (len : Int) := by omega
      have hi0 : (0 : Int) ≤ (k : Int) := by omega
      obtain ⟨b1, o1, rfl, hr1⟩ := HR1.out (by omega)
      obtain ⟨b2, o2, rfl, hr2⟩ := HR2.out (by omega)
      obtain ⟨x, hx⟩ : ∃ x, l[k]? = some x := ⟨_, List.getElem?_eq_getElem (by rw [HL.out]; omega)⟩
      obtain ⟨x0, x1⟩ := (hr1 k x hx).kept HBw.out
      obtain ⟨y0, y1⟩ := (hr2 k x hx).kept HBw.out
      have p1 := kept_cell HB.out HP1.out
      have p2 := kept_cell HB.out HP2.out
      have hs := neqSltSame x
      clear hr1 hr2 hx
      go_wp2
      refine wp_region_over (fun W => W = wr) (by kernel_rfl) (by kernel_rfl) rfl ?_
      rintro W rfl
      have x0' := over_cell x0
      have x1' := over_cell x1
      have y0' := over_cell y0
      have y1' := over_cell y1
      have p1' := over_cell p1
      have p2' := over_cell p2
      clear x0 x1 y0 y1 p1 p2
      repeat (go_big_quiet_step (first | fail))
      refine wpQuiet_nil ?_
      rintro _ ⟨z, rfl⟩
      have HB3 := hide (HB.out.trans ((over_below W z).mono HB.out.size))
      clear x0' x1' y0' y1' p1' p2'
      go_wp2
      go_roundw
      case rel => exact ⟨k + 1, by omega, by go_num, HB3⟩
      case measure => simp [intOf]; omega
    · obtain rfl : k = len := by omega
      have hi : ¬ (k : Int) < (k : Int) := by omega
      go_wp2
      go_ret
      exact ⟨rfl, HBw.out⟩
end Go.Proofs.Ytnahfhfnodghaaa
