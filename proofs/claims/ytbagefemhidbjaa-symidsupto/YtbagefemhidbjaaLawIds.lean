/- edictlaw01.SymIds returns true at every list of keys and every script. -/
import Derived.Test.YtbagefemhidbjaaIdsSteps2
namespace Go.Proofs.Ytbagefemhidbjaa
set_option linter.unusedSimpArgs false
set_option linter.unusedVariables false
open Go.RowKit Go.Maps Go.Deep Go.ChangeShapes Go.WideShapes Go.ChangeAt Go.Joins

/-- One call of a script. -/
structure SOp where
  y : Int
  k : ByteArray
  z : Int
def sopAt (w : World) (b off : Nat) (o : SOp) : Prop := w.cell? ⟨b, off, none⟩ = some (.int .i64 o.y) ∧ w.cell? ⟨b, off + 1, none⟩ = some (.string o.k) ∧ w.cell? ⟨b, off + 2, none⟩ = some (.int .i64 o.z)
def IsSOps (w : World) (ao : Option Addr) (len : Nat) (os : List SOp) : Prop :=
  os.length = len ∧ (∀ o ∈ os, o.k.size ≤ 140737488351232) ∧ (0 < len → ∃ b off, ao = some ⟨b, off, none⟩ ∧ ∀ i o, os[i]? = some o → sopAt w b (off + i * 3) o)

theorem sopAt_kept {w w' : World} {b off : Nat} {o : SOp} (h : sopAt w b off o) (hb : Below w.heap.size w w') : sopAt w' b off o := ⟨kept_cell hb h.1, kept_cell hb h.2.1, kept_cell hb h.2.2⟩

theorem list3s {α : Type} {l : List α} (h : l.length = 3) : ∃ a b c, l = [a, b, c] := by
  match l, h with
  | [a, b, c], _ => exact ⟨a, b, c, rfl⟩

theorem open_sops {H : Type} {enc : TypeId × Value → H} {w : World} {ao : Option Addr} {len cap : Nat} {d : DataW H} {ps : List MemPlace} {ts : List TypeId} {ds : List (DataW H)} {j : Nat}
    (h : DataW.Trod enc Try.prog w 0 (fun _ => true) true 23 (.slice ao len cap) d ps)
    (hsz : (DataW.weightsEach Try.prog ts ds).all (· ≤ reachBytes) = true) (hts : ts[j]? = some 23) (hds : ds[j]? = some d) : ∃ os, IsSOps w ao len os := by
  obtain ⟨hr, hrow⟩ := open_rows (size := 3) Try.underlying23 (by kernel_rfl) (by omega) h hsz hts hds
  have c1 : Try.prog.cellsOf 3 = 1 := by kernel_rfl
  have c2 : Try.prog.cellsOf 9 = 1 := by kernel_rfl
  by_cases hlen : 0 < len
  · obtain ⟨b, off, rfl, hel⟩ := hrow hlen
    obtain ⟨l, h1, h2⟩ := list_of_each (R := fun i (o : SOp) => o.k.size ≤ 140737488351232 ∧ sopAt w b (off + i * 3) o) len (fun i hi => by
      obtain ⟨cs, fuel, y, g1, g2, gw⟩ := hel i hi
      obtain ⟨_, hl3, hcell⟩ := World.cells?_some g1
      obtain ⟨y0, y1, y2, n, hy, _, t0, t1, t2⟩ := trod_struct3 Try.underlying30 g2
      obtain ⟨v0, v1, v2, rfl⟩ := list3s hl3
      simp only [c1, c2, List.drop_zero, List.drop_succ_cons, List.take_succ_cons, List.take_zero] at t0 t1 t2
      obtain ⟨a0, e0, x0, w0⟩ := DataW.trod_int Try.underlying3 t0
      obtain ⟨s, e1, x1, hs⟩ := DataW.trod_string Try.underlying9 t1
      obtain ⟨a2, e2, x2, w2⟩ := DataW.trod_int Try.underlying3 t2
      simp only [List.cons.injEq, and_true] at e0 e1 e2
      subst e0 e1 e2 x0 x1 x2
      have g0 := hcell 0 (by omega)
      have g1 := hcell 1 (by omega)
      have g2 := hcell 2 (by omega)
      rw [addr_add] at g0 g1 g2
      have hs2 : s.size ≤ 140737488351232 := by
        refine gw s.size ?_
        rw [hy]
        simp [DataW.weights, DataW.weightsEach, Try.underlying30]
      exact ⟨⟨a0, s, a2⟩, hs2, by simpa using g0, by simpa using g1, by simpa using g2⟩)
    refine ⟨l, h1, fun o ho => ?_, fun _ => ⟨b, off, rfl, fun i o ho => (h2 i o ho).2⟩⟩
    obtain ⟨i, hi⟩ := List.mem_iff_getElem?.1 ho
    exact (h2 i o hi).1
  · obtain rfl : len = 0 := by omega
    exact ⟨[], rfl, by simp, fun h => absurd h (by omega)⟩

variable {w0 W : World} {p m py : Nat} {ao : Option Addr} {v : Value} {ks : List ByteArray} {b : Nat}

theorem step_any (h : Duo w0 W p m py ao v ks ks b) (hbl : b + 1 < 2097152) (o : SOp) (hk : o.k.size ≤ 140737488351232) :
    Calls Try.prog 9 #[.pointer (some ⟨p, 0, none⟩), .pointer (some ⟨py, 0, none⟩), .agg #[.int .i64 o.y, .string o.k, .int .i64 o.z]] W (StepOk w0 p m py b) := by
  obtain ⟨y, k, z⟩ := o
  simp only at hk ⊢
  by_cases h1 : y = 1
  · subst h1; exact step_intern h hbl k z hk
  by_cases h2 : y = 2
  · subst h2; exact step_find h hbl k z hk
  by_cases h3 : y = 3
  · subst h3; exact step_at h hbl k z hk
  by_cases h4 : y = 4
  · subst h4; exact step_len h hbl k z hk
  by_cases h5 : y = 5
  · subst h5; exact step_all h hbl k z hk
  by_cases h6 : y = 6
  · subst h6; exact step_cut h hbl k z hk
  by_cases h7 : y = 7
  · subst h7; exact step_short h hbl k z hk
  exact step_other h k y z (beq_eq_false_iff_ne.2 h1) (beq_eq_false_iff_ne.2 h2) (beq_eq_false_iff_ne.2 h3) (beq_eq_false_iff_ne.2 h4) (beq_eq_false_iff_ne.2 h5) (beq_eq_false_iff_ne.2 h6) (beq_eq_false_iff_ne.2 h7)

theorem RIds.mono {base : Nat} (h : RIds base W py v ks) : RIds 0 W py v ks := ⟨h.fields, Nat.zero_le _, own_monoS h.row (Nat.zero_le _)⟩

theorem ddS_mem {ss : List ByteArray} {k : ByteArray} (h : k ∈ ddS ss) : k ∈ ss := by
  have : ∀ (l ks : List ByteArray), k ∈ l.foldl addS ks → k ∈ ks ∨ k ∈ l := by
    intro l
    induction l with
    | nil => intro ks h; exact .inl h
    | cons s r ih =>
      intro ks h
      rcases ih _ h with h | h
      · rcases addS_mem.1 h with h | rfl
        · exact .inl h
        · exact .inr List.mem_cons_self
      · exact .inr (List.mem_cons_of_mem _ h)
  rcases this ss [] h with h | h
  · cases h
  · exact h

set_option maxRecDepth 100000 in
set_option maxHeartbeats 4000000 in
theorem symIds_walk (a0 : Option Addr) (len0 cap0 : Nat) (ss : List ByteArray) (a1 : Option Addr) (len1 cap1 : Nat) (os : List SOp) (w : World) (h0 : IsStrs w a0 len0 ss) (h1 : IsSOps w a1 len1 os) (hl : len0 + len1 ≤ 1048576) :
    Calls Try.prog 3 #[.slice a0 len0 cap0, .slice a1 len1 cap1] w fun e w' => e = .returned (.bool true) ∧ Below w.heap.size w w' := by
  have HR := hide (rnew_any a0 len0 cap0 ss w h0 (by omega))
  have HN : Hid (∀ V, Below w.heap.size w V → Calls Try.prog 8 #[.slice a0 len0 cap0] V fun e w' => e = .returned (.pointer (some ⟨V.heap.size + 1, 0, none⟩)) ∧ Hid (∃ n ao' cap', StrIds 0 w' (V.heap.size + 1) V.heap.size n ao' cap' (ddS ss) ∧ n ≤ len0 ∧ Below V.heap.size V w' ∧ (∀ a, ao' = some a → V.heap.size ≤ a.block))) := fun V hb => newStr_any a0 len0 cap0 ss V (Nat.zero_le _) (strs_kept h0 hb) (by omega)
  have HI := hide h1
  have HOK : Hid (∀ k ∈ ddS ss, k.size ≤ 140737488351232) := fun k hk => h0.2.2.1 k (ddS_mem hk)
  have hdl : (ddS ss).length ≤ len0 := by have := ddS_len ss; rw [h0.1] at this; exact this
  clear h0 h1
  go_enter Try.func3, Try.ntmps3
  go_upto_region 2 with (go_at_call 7; refine HR.out.mono ?_; rintro e W1 ⟨rfl, hp⟩; have HP := hide hp.out; clear hp HR)
  obtain ⟨v1, hR1, hB1⟩ := HP.out
  have HX := hide (HN.out W1 hB1)
  have hpy : w.heap.size < W1.heap.size := hR1.plt
  have HR1 := hide hR1
  have HB1 := hide hB1
  clear HP HN hR1 hB1
  obtain ⟨py, hpe⟩ : ∃ py, py = w.heap.size := ⟨_, rfl⟩
  rw [← hpe]
  have HPE := hide hpe
  clear hpe
  go_upto_region 3 with (go_at_call 8; refine HX.out.mono ?_; rintro e W2 ⟨rfl, hp⟩; have HP := hide hp.out; clear hp HX)
  obtain ⟨n, ao, cap, hI, hn, hB2, hA⟩ := HP.out
  have hfx : ∀ q, foot (W1.heap.size + 1) W1.heap.size ao q → W1.heap.size ≤ q := by
    rintro q (rfl | rfl | ⟨a, ha, rfl⟩)
    · omega
    · omega
    · exact hA a ha
  have HD : Hid (Duo w W2 (W1.heap.size + 1) W1.heap.size py ao v1 (ddS ss) (ddS ss) len0) := by
    show Duo _ _ _ _ _ _ _ _ _ _
    rw [HPE.out]
    refine ⟨⟨n, cap, hn, hI⟩, (HR1.out.grow hB2).mono, ?_, ?_, HB1.out.trans (hB2.mono HB1.out.size), ddS_nodup _, ddS_nodup _, fun k hk => HOK.out k (hk.elim id id), hdl, hdl⟩
    · intro q hq hr
      have h1 := hfx q hq
      rcases hr with rfl | hr
      · omega
      · have := (HR1.out.own_lt hr).2; omega
    · rintro q (hq | hq)
      · have := hfx q hq; omega
      · rcases hq with rfl | hq
        · exact Nat.le_refl _
        · exact (HR1.out.own_lt hq).1
  obtain ⟨p, hpx⟩ : ∃ p, p = W1.heap.size + 1 := ⟨_, rfl⟩
  obtain ⟨m, hmx⟩ : ∃ m, m = W1.heap.size := ⟨_, rfl⟩
  rw [← hpx, ← hmx] at HD
  rw [← hpx]
  clear HP hI hB2 hA hfx hpx hmx HR1 HB1 hpy hn
  go_wp2
  go_loopw [7] (fun t wr => ∃ i : Nat, i ≤ len1 ∧ t = .int .i64 i ∧ Hid (∃ ao' v' ks', Duo w wr p m py ao' v' ks' ks' (len0 + i))) (fun t _ => len1 - (intOf t).toNat)
  case atStart => exact ⟨0, by omega, rfl, ao, v1, _, HD.out⟩
  case round =>
    obtain ⟨i, hi, rfl, HE⟩ := hrel
    obtain ⟨ao', v', ks', hD⟩ := HE.out
    by_cases hlt : i < len1
    · have hil : (i : Int) < (len1 : Int) := by omega
      obtain ⟨bb, off, rfl, hr⟩ := HI.out.2.2 (by omega)
      obtain ⟨o, ho⟩ : ∃ o, os[i]? = some o := ⟨_, List.getElem?_eq_getElem (by have := HI.out.1; omega)⟩
      obtain ⟨x0, x1, x2⟩ := sopAt_kept (hr i o ho) hD.bel
      have HS := hide (step_any hD (by omega) o (HI.out.2.1 o (List.mem_of_getElem? ho)))
      clear hD HE hr ho HD
      go_wp2_with (go_at_call 9; refine HS.out.mono ?_; rintro e W3 ⟨rfl, hp⟩; have HP := hide hp; clear hp HS)
      go_roundw
      case rel => exact ⟨i + 1, by omega, by go_num, HP.out⟩
      case measure => simp [intOf]; omega
    · obtain rfl : i = len1 := by omega
      have hil : ¬ (i : Int) < (i : Int) := by omega
      have HS := hide (step_any hD (by omega) ⟨5, ⟨#[]⟩, 1⟩ (show (⟨#[]⟩ : ByteArray).size ≤ _ from by decide))
      have HS2 : Hid (∀ V, (∃ ao' v' ks', Duo w V p m py ao' v' ks' ks' (len0 + i + 1)) → Calls Try.prog 9 #[.pointer (some ⟨p, 0, none⟩), .pointer (some ⟨py, 0, none⟩), .agg #[.int .i64 4, .string ⟨#[]⟩, .int .i64 0]] V (StepOk w p m py (len0 + i + 1))) := fun V ⟨a, b, c, hd⟩ => step_any hd (by omega) ⟨4, ⟨#[]⟩, 0⟩ (show (⟨#[]⟩ : ByteArray).size ≤ _ from by decide)
      clear hD HE HD
      go_wp2_with (first
        | (go_at_call 9; refine HS.out.mono ?_; rintro e W3 ⟨rfl, hp⟩; have HP := hide hp; clear hp HS)
        | (go_at_call 9; refine (HS2.out _ HP.out).mono ?_; rintro e W4 ⟨rfl, hp⟩; have HP4 := hide hp; clear hp HS2))
      go_ret
      obtain ⟨_, _, _, hd⟩ := HP4.out
      exact ⟨rfl, hd.bel⟩
end Go.Proofs.Ytbagefemhidbjaa
