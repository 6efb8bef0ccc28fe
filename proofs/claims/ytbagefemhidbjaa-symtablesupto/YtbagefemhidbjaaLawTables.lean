/- edictlaw01.SymTables returns true at every script. -/
import Derived.Test.YtbagefemhidbjaaTabA
import Derived.Test.YtbagefemhidbjaaTabB
import Derived.Test.YtbagefemhidbjaaTabC
import Derived.Test.YtbagefemhidbjaaTabD
namespace Go.Proofs.Ytbagefemhidbjaa
set_option linter.unusedSimpArgs false
set_option linter.unusedVariables false
open Go.RowKit Go.Maps Go.Deep Go.ChangeShapes Go.WideShapes Go.ChangeAt Go.Joins

/-- One call of a script. -/
structure TOp where
  y : Int
  c : Con
  z : Int
def topAt (w : World) (b off : Nat) (o : TOp) : Prop := w.cell? ⟨b, off, none⟩ = some (.int .i64 o.y) ∧ w.cell? ⟨b, off + 1, none⟩ = some (.int .i64 o.c.k) ∧ w.cell? ⟨b, off + 2, none⟩ = some (.int .i64 o.c.n) ∧ w.cell? ⟨b, off + 3, none⟩ = some (.string o.c.s) ∧ w.cell? ⟨b, off + 4, none⟩ = some (.int .i64 o.z)
def IsTOps (w : World) (ao : Option Addr) (len : Nat) (os : List TOp) : Prop :=
  os.length = len ∧ (∀ o ∈ os, o.c.ok) ∧ (0 < len → ∃ b off, ao = some ⟨b, off, none⟩ ∧ ∀ i o, os[i]? = some o → topAt w b (off + i * 5) o)

theorem topAt_kept {w w' : World} {b off : Nat} {o : TOp} (h : topAt w b off o) (hb : Below w.heap.size w w') : topAt w' b off o := ⟨kept_cell hb h.1, kept_cell hb h.2.1, kept_cell hb h.2.2.1, kept_cell hb h.2.2.2.1, kept_cell hb h.2.2.2.2⟩

theorem list5s {α : Type} {l : List α} (h : l.length = 5) : ∃ a b c d e, l = [a, b, c, d, e] := by
  match l, h with
  | [a, b, c, d, e], _ => exact ⟨a, b, c, d, e, rfl⟩

theorem open_tops {H : Type} {enc : TypeId × Value → H} {w : World} {ao : Option Addr} {len cap : Nat} {d : DataW H} {ps : List MemPlace} {ts : List TypeId} {ds : List (DataW H)} {j : Nat}
    (h : DataW.Trod enc Try.prog w 0 (fun _ => true) true 61 (.slice ao len cap) d ps)
    (hsz : (DataW.weightsEach Try.prog ts ds).all (· ≤ reachBytes) = true) (hts : ts[j]? = some 61) (hds : ds[j]? = some d) : ∃ os, IsTOps w ao len os := by
  obtain ⟨hr, hrow⟩ := open_rows (size := 5) Try.underlying61 (by kernel_rfl) (by omega) h hsz hts hds
  have c1 : Try.prog.cellsOf 3 = 1 := by kernel_rfl
  have c2 : Try.prog.cellsOf 9 = 1 := by kernel_rfl
  have c4 : Try.prog.cellsOf 2 = 1 := by kernel_rfl
  have c3 : Try.prog.cellsOf 34 = 3 := by kernel_rfl
  by_cases hlen : 0 < len
  · obtain ⟨b, off, rfl, hel⟩ := hrow hlen
    obtain ⟨l, h1, h2⟩ := list_of_each (R := fun i (o : TOp) => o.c.ok ∧ topAt w b (off + i * 5) o) len (fun i hi => by
      obtain ⟨cs, fuel, y, g1, g2, gw⟩ := hel i hi
      obtain ⟨_, hl5, hcell⟩ := World.cells?_some g1
      obtain ⟨y0, y1, y2, n, hy, _, t0, t1, t2⟩ := trod_struct3 Try.underlying67 g2
      obtain ⟨v0, v1, v2, v3, v4, rfl⟩ := list5s hl5
      simp only [c1, c2, c3, List.drop_zero, List.drop_succ_cons, List.take_succ_cons, List.take_zero] at t0 t1 t2
      obtain ⟨a0, e0, x0, w0⟩ := DataW.trod_int Try.underlying3 t0
      obtain ⟨a4, e4, x4, w4⟩ := DataW.trod_int Try.underlying3 t2
      obtain ⟨z0, z1, z2, n', hz, _, u0, u1, u2⟩ := trod_struct3 Try.underlying34 t1
      simp only [c1, c2, c4, List.drop_zero, List.drop_succ_cons, List.take_succ_cons, List.take_zero] at u0 u1 u2
      obtain ⟨a1, e1, x1, w1⟩ := DataW.trod_int (by first | exact Try.underlying3 | kernel_rfl) u0
      obtain ⟨a2, e2, x2, w2⟩ := DataW.trod_int Try.underlying2 u1
      obtain ⟨s, e3, x3, hs⟩ := DataW.trod_string Try.underlying9 u2
      simp only [List.cons.injEq, and_true] at e0 e1 e2 e3 e4
      subst e0 e1 e2 e3 e4 x0 x1 x2 x3 x4
      have g0 := hcell 0 (by omega)
      have g1 := hcell 1 (by omega)
      have g2 := hcell 2 (by omega)
      have g3 := hcell 3 (by omega)
      have g4 := hcell 4 (by omega)
      rw [addr_add] at g0 g1 g2 g3 g4
      have hs2 : s.size ≤ 140737488351232 := by
        refine gw s.size ?_
        rw [hy, hz]
        simp [DataW.weights, DataW.weightsEach, Try.underlying67, Try.underlying34]
      exact ⟨⟨a0, ⟨a1, a2, s⟩, a4⟩, ⟨bounds_i64 w1, bounds_i64 w2, hs2⟩, by simpa using g0, by simpa using g1, by simpa using g2, by simpa using g3, by simpa using g4⟩)
    refine ⟨l, h1, fun o ho => ?_, fun _ => ⟨b, off, rfl, fun i o ho => (h2 i o ho).2⟩⟩
    obtain ⟨i, hi⟩ := List.mem_iff_getElem?.1 ho
    exact (h2 i o hi).1
  · obtain rfl : len = 0 := by omega
    exact ⟨[], rfl, by simp, fun h => absurd h (by omega)⟩

variable {w0 W : World} {p m pt : Nat} {ao : Option Addr} {v : Value} {ks : List Con} {b : Nat}

theorem tstep_any (h : DuoT w0 W p m pt ao v ks ks b) (hbl : b < 4194304) (o : TOp) (hc : o.c.ok) :
    Calls Try.prog 26 #[.pointer (some ⟨p, 0, none⟩), .pointer (some ⟨pt, 0, none⟩), .agg #[.int .i64 o.y, .int .i64 o.c.k, .int .i64 o.c.n, .string o.c.s, .int .i64 o.z]] W (TStepOk w0 p m pt b) := by
  obtain ⟨y, c, z⟩ := o
  simp only at hc ⊢
  by_cases h1 : y = 1
  · subst h1; exact tstep_intern h hbl c z hc
  by_cases h2 : y = 2
  · subst h2; exact tstep_find h hbl c z hc
  by_cases h3 : y = 3
  · subst h3; exact tstep_at h hbl c z hc
  by_cases h4 : y = 4
  · subst h4; exact tstep_const h hbl c z hc
  by_cases h5 : y = 5
  · subst h5; exact tstep_len h hbl c z hc
  by_cases h6 : y = 6
  · subst h6; exact tstep_all h hbl c z hc
  by_cases h7 : y = 7
  · subst h7; exact tstep_cut h hbl c z hc
  by_cases h8 : y = 8
  · subst h8; exact tstep_sorted h hbl c z hc
  by_cases h9 : y = 9
  · subst h9; exact tstep_ranks h hbl c z hc
  exact tstep_other h hbl (by omega) c z hc

theorem tnew_any (w : World) :
    Calls Try.prog 25 #[] w fun e w' => e = .returned (.pointer (some ⟨w.heap.size, 0, none⟩)) ∧ Hid (RTab 0 w' w.heap.size (.slice none 0 0) [] ∧ Below w.heap.size w w') := by
  go_enter Try.func25, Try.ntmps25
  go_wp2
  go_ret
  exact ⟨rfl, ⟨heap_alloc_new w _, Nat.zero_le _, World.ownsRow_nil _ _ _ _⟩, (Below.refl _ _).alloc (Nat.le_refl _) _⟩

theorem con_zero_ok : Con.zero.ok := by unfold Con.ok I64 Con.zero; decide

set_option maxRecDepth 100000 in
set_option maxHeartbeats 4000000 in
theorem symTables_walk (a1 : Option Addr) (len1 cap1 : Nat) (os : List TOp) (w : World) (h1 : IsTOps w a1 len1 os) (hl : len1 ≤ 1048576) :
    Calls Try.prog 6 #[.slice a1 len1 cap1] w fun e w' => e = .returned (.bool true) ∧ Below w.heap.size w w' := by
  have HN := hide (newTable_any w (base := 0) (Nat.zero_le _))
  have HI := hide h1
  clear h1
  go_enter Try.func6, Try.ntmps6
  go_upto_region 2 with (go_at_call 24; refine HN.out.mono ?_; rintro e W1 ⟨p, m, rfl, hT, hb, hp, hm⟩; have HT := hide hT; have HB1 := hide hb; have HPM := hide (And.intro hp hm); clear hT hb hp hm HN)
  have HR := hide (tnew_any W1)
  go_upto_region 5 with (go_at_call 25; refine HR.out.mono ?_; rintro e W2 ⟨rfl, hp⟩; have HP := hide hp.out; clear hp HR)
  have HD : Hid (DuoT w W2 p m W1.heap.size none (.slice none 0 0) [] [] 0) := by
    have hfx : ∀ q, foot p m none q → w.heap.size ≤ q ∧ q < W1.heap.size := by
      intro q hq
      refine ⟨?_, (HT.out.foot_lt (by decide) hq).1⟩
      rcases hq with rfl | rfl | ⟨a, ha, _⟩
      · exact HPM.out.1
      · exact HPM.out.2
      · cases ha
    refine ⟨⟨0, 0, Nat.le_refl _, HT.out.grow HP.out.2⟩, HP.out.1, ?_, ?_, HB1.out.trans (HP.out.2.mono HB1.out.size), List.nodup_nil, List.nodup_nil, by simp, by simp, by simp⟩
    · intro q hq hr
      have h1 := (hfx q hq).2
      rcases hr with rfl | hr
      · omega
      · cases hr
    · rintro q (hq | hq)
      · exact (hfx q hq).1
      · rcases hq with rfl | hq
        · exact HB1.out.size
        · cases hq
  obtain ⟨pt, hpt⟩ : ∃ pt, pt = W1.heap.size := ⟨_, rfl⟩
  rw [← hpt] at HD
  rw [← hpt]
  clear hpt HP HT HPM HB1
  go_wp2
  go_loopw [5] (fun t wr => ∃ i : Nat, i ≤ len1 ∧ t = .int .i64 i ∧ Hid (∃ ao' v' ks', DuoT w wr p m pt ao' v' ks' ks' i)) (fun t _ => len1 - (intOf t).toNat)
  case atStart => exact ⟨0, by omega, rfl, _, _, _, HD.out⟩
  case round =>
    obtain ⟨i, hi, rfl, HE⟩ := hrel
    obtain ⟨ao', v', ks', hD⟩ := HE.out
    by_cases hlt : i < len1
    · have hil : (i : Int) < (len1 : Int) := by omega
      obtain ⟨bb, off, rfl, hr⟩ := HI.out.2.2 (by omega)
      obtain ⟨o, ho⟩ : ∃ o, os[i]? = some o := ⟨_, List.getElem?_eq_getElem (by have := HI.out.1; omega)⟩
      obtain ⟨x0, x1, x2, x3, x4⟩ := topAt_kept (hr i o ho) hD.bel
      have HS := hide (tstep_any hD (by omega) o (HI.out.2.1 o (List.mem_of_getElem? ho)))
      clear hD HE hr ho HD
      go_wp2_with (go_at_call 26; refine HS.out.mono ?_; rintro e W3 ⟨rfl, hp⟩; have HP := hide hp; clear hp HS)
      go_roundw
      case rel => exact ⟨i + 1, by omega, by go_num, HP.out⟩
      case measure => simp [intOf]; omega
    · obtain rfl : i = len1 := by omega
      have hil : ¬ (i : Int) < (i : Int) := by omega
      have HS := hide (tstep_any hD (by omega) ⟨6, Con.zero, 0⟩ con_zero_ok)
      have HS2 : Hid (∀ V, (∃ ao' v' ks', DuoT w V p m pt ao' v' ks' ks' (i + 1)) → Calls Try.prog 26 #[.pointer (some ⟨p, 0, none⟩), .pointer (some ⟨pt, 0, none⟩), .agg #[.int .i64 8, .int .i64 0, .int .i64 0, .string ⟨#[]⟩, .int .i64 0]] V (TStepOk w p m pt (i + 1))) := fun V ⟨a, b, c, hd⟩ => tstep_any hd (by omega) ⟨8, Con.zero, 0⟩ con_zero_ok
      have HS3 : Hid (∀ V, (∃ ao' v' ks', DuoT w V p m pt ao' v' ks' ks' (i + 1 + 1)) → Calls Try.prog 26 #[.pointer (some ⟨p, 0, none⟩), .pointer (some ⟨pt, 0, none⟩), .agg #[.int .i64 9, .int .i64 0, .int .i64 0, .string ⟨#[]⟩, .int .i64 0]] V (TStepOk w p m pt (i + 1 + 1))) := fun V ⟨a, b, c, hd⟩ => tstep_any hd (by omega) ⟨9, Con.zero, 0⟩ con_zero_ok
      clear hD HE HD
      go_wp2_with (first
        | (go_at_call 26; refine HS.out.mono ?_; rintro e W3 ⟨rfl, hp⟩; have HP := hide hp; clear hp HS)
        | (go_at_call 26; refine (HS2.out _ HP.out).mono ?_; rintro e W4 ⟨rfl, hp⟩; have HP4 := hide hp; clear hp HS2)
        | (go_at_call 26; refine (HS3.out _ HP4.out).mono ?_; rintro e W5 ⟨rfl, hp⟩; have HP5 := hide hp; clear hp HS3))
      go_ret
      obtain ⟨_, _, _, hd⟩ := HP5.out
      exact ⟨rfl, hd.bel⟩
end Go.Proofs.Ytbagefemhidbjaa
