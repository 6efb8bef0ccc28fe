/- Each without a function; LexStops's literal; same; the list up to a stop. -/
import Derived.Test.YtaiehmfhhdnijaaDoorProg
import Derived.Test.YtaiehmfhhdnijaaDoorLexGaps
namespace Go.Proofs.YtaiehmfhhdnijaaDoor
set_option linter.unusedSimpArgs false
set_option linter.unusedVariables false
open Go.RowKit
attribute [local go_sem] over_cellAt over_frozenAt over_setAt

def stopAns (stop : Int) : Nat → Bool := fun n => decide ((n : Int) + 1 ≤ stop)

theorem each_stops {s : ByteArray} {stop : Int} {o : Nat} {r : List Tok} {c : Int} {f : Nat} (h : Toks s o r c f) : ∀ L : List Tok,
    eachF (stopAns stop) s o L = if (stop - L.length).toNat < r.length then (L ++ r.take ((stop - L.length).toNat + 1), 0, 0) else (L ++ r, c, f) := by
  induction h with
  | bad h1 h2 => intro L; rw [eachF_bad h2, if_neg (by simp)]; simp
  | last h1 h2 h3 =>
    intro L
    rw [eachF_stop h2 (.inr h3)]
    split
    · next h =>
      have h' : (stop - L.length).toNat < 1 := h
      rw [show (stop - L.length).toNat = 0 by omega]; rfl
    · rfl
  | more h1 h2 h3 h4 ih =>
    intro L
    obtain ⟨-, -, a, b⟩ := next_tok h1 h2
    obtain ⟨_, b1, b2⟩ := b.resolve_left (fun h => h3 h.1)
    by_cases ha : stopAns stop L.length = false
    · rw [eachF_stop h2 (.inl ha)]
      unfold stopAns at ha
      simp at ha
      rw [show (stop - L.length).toNat = 0 by omega, if_pos (by simp)]
      rfl
    · have ha' : stopAns stop L.length = true := by simpa using ha
      rw [eachF_go h2 (by simp [ha', h3]) (by omega) b2, ih]
      unfold stopAns at ha'
      simp at ha'
      rw [List.length_append, List.length_singleton, List.length_cons]
      generalize hga : (stop - ((L.length + 1 : Nat) : Int)).toNat = a at *
      rw [show (stop - L.length).toNat = a + 1 by omega]
      simp only [Nat.add_lt_add_iff_right]
      split
      · rw [List.append_assoc]; rfl
      · rw [List.append_assoc]; rfl

theorem stops_scan (s : ByteArray) (stop : Int) (h : s.size ≤ 65536) : eachX (stopAns stop) s = if stop.toNat < (scanX s).1.length then ((scanX s).1.take (stop.toNat + 1), 0, 0) else scanX s := by
  have e : eachX (stopAns stop) s = eachF (stopAns stop) s 0 [] := if_neg (by omega)
  rw [e, each_stops (scan_toks s h) []]
  simp

theorem tok_neq_self (t : Tok) (w : World) : (binOp .neq 36 (.agg #[.int .i64 t.k, .string t.t, .int .i64 t.n, .int .i64 t.op, .int .i64 (t.off : Int), .int .i64 (t.en : Int)]) (.agg #[.int .i64 t.k, .string t.t, .int .i64 t.n, .int .i64 t.op, .int .i64 (t.off : Int), .int .i64 (t.en : Int)])).run Tryd.prog w = .ok (.bool false) w := by
  have h1 := run_equalIn_struct (P := Tryd.prog) w 9999 36 #[.int .i64 t.k, .string t.t, .int .i64 t.n, .int .i64 t.op, .int .i64 (t.off : Int), .int .i64 (t.en : Int)] #[.int .i64 t.k, .string t.t, .int .i64 t.n, .int .i64 t.op, .int .i64 (t.off : Int), .int .i64 (t.en : Int)] (by kernel_rfl) (by kernel_rfl)
  simp only [binOp]
  simp only [Op.equal, Op.maxDepth, Sem.run_bind]
  go_simp

/-- A slice value leads to the tokens L. -/
def IsToks (w : World) (v : Value) (L : List Tok) : Prop := ∃ ao cap, v = .slice ao L.length cap ∧ (0 < L.length → ∃ g, ao = some ⟨g, 0, none⟩ ∧ ∀ i t, L[i]? = some t → TokAt w g (i * 6) t)

theorem own_isToks {w : World} {base : Nat} {v : Value} {L : List Tok} (h : w.ownsRow base 36 6 v L.length (L.flatMap cells6)) : IsToks w v L := by
  by_cases h0 : 0 < L.length
  · obtain ⟨g, cap, hv, _, _, hr⟩ := own_toks h h0
    exact ⟨_, cap, hv, fun _ => ⟨g, rfl, hr⟩⟩
  · obtain ⟨ao, cap, hv⟩ := own_shape h
    exact ⟨ao, cap, hv, fun h => absurd h h0⟩
theorem IsToks.kept {w w' : World} {v : Value} {L : List Tok} (h : IsToks w v L) (hb : Below w.heap.size w w') : IsToks w' v L := by
  obtain ⟨ao, cap, hv, hr⟩ := h
  exact ⟨ao, cap, hv, fun h0 => by obtain ⟨g, e, hg⟩ := hr h0; exact ⟨g, e, fun i t hi => (hg i t hi).kept hb⟩⟩

set_option maxHeartbeats 1000000 in
theorem same_self (v1 v2 : Value) (L : List Tok) (w : World) (hl : L.length ≤ 65537) (h1 : IsToks w v1 L) (h2 : IsToks w v2 L) :
    Calls Tryd.prog 18 #[v1, v2] w fun e w' => e = .returned (.bool true) ∧ Below w.heap.size w w' := by
  obtain ⟨a1, c1, rfl, r1⟩ := h1
  obtain ⟨a2, c2, rfl, r2⟩ := h2
  obtain ⟨n, hn⟩ : ∃ n, n = L.length := ⟨_, rfl⟩
  rw [← hn] at hl r1 r2 ⊢
  have HN := hide hn
  have HR1 := hide r1
  have HR2 := hide r2
  clear hn r1 r2
  go_enter Tryd.func18, Tryd.ntmps18
  go_wp2
  go_loopw [5] (fun i wr => ∃ k : Nat, k ≤ n ∧ i = .int .i64 k ∧ Below w.heap.size w wr) (fun i _ => n - (intOf i).toNat)
  case atStart => exact ⟨0, Nat.zero_le _, rfl, Below.refl _ _⟩
  case round =>
    obtain ⟨k, hk, rfl, hb⟩ := hrel
    by_cases hlt : k < n
    · have hi : (k : Int) < (n : Int) := by omega
      obtain ⟨g1, rfl, q1⟩ := HR1.out (by omega)
      obtain ⟨g2, rfl, q2⟩ := HR2.out (by omega)
      obtain ⟨t, ht⟩ : ∃ t, L[k]? = some t := ⟨_, List.getElem?_eq_getElem (by have := HN.out; omega)⟩
      obtain ⟨x0, x1, x2, x3, x4, x5⟩ := q1 k t ht
      obtain ⟨y0, y1, y2, y3, y4, y5⟩ := q2 k t ht
      have hq := tok_neq_self t
      clear ht q1 q2
      go_wp2
      refine wp_region_over (fun W => Below w.heap.size w W) (by kernel_rfl) (by kernel_rfl) hb ?_
      intro W hW
      have x0' := over_cell (kept_cell hW x0)
      have x1' := over_cell (kept_cell hW x1)
      have x2' := over_cell (kept_cell hW x2)
      have x3' := over_cell (kept_cell hW x3)
      have x4' := over_cell (kept_cell hW x4)
      have x5' := over_cell (kept_cell hW x5)
      have y0' := over_cell (kept_cell hW y0)
      have y1' := over_cell (kept_cell hW y1)
      have y2' := over_cell (kept_cell hW y2)
      have y3' := over_cell (kept_cell hW y3)
      have y4' := over_cell (kept_cell hW y4)
      have y5' := over_cell (kept_cell hW y5)
      clear x0 x1 x2 x3 x4 x5 y0 y1 y2 y3 y4 y5
      repeat (go_big_quiet_step (first | fail))
      refine wpQuiet_nil ?_
      rintro _ ⟨x, rfl⟩
      have hb3 : Below w.heap.size w (over W x) := hW.trans ((over_below W x).mono hW.size)
      clear x0' x1' x2' x3' x4' x5' y0' y1' y2' y3' y4' y5'
      go_wp2
      go_roundw
      case rel => exact ⟨k + 1, by omega, by go_num, hb3⟩
      case measure => simp [intOf]; omega
    · have hi : ¬ (k : Int) < (n : Int) := by omega
      go_wp2
      go_ret
      exact ⟨rfl, hb⟩

theorem stop_block {W w1 : World} {p q : Nat} {v : Value} {L : List Tok} {o o' : Obj} (h : Coll W p v L) (hg : ((W.alloc o).alloc o').grownBy w1 v.ownBlock) (hq : q < p) : w1.heap[q]? = W.heap[q]? := by
  have hlt := h.lt
  rw [hg.block q (by simp; omega) (fun e => by have := (h.blk e.symm).1; omega)]
  have hb : Below W.heap.size W ((W.alloc o).alloc o') := ((Below.refl _ _).alloc (Nat.le_refl _) _).alloc (by simp) _
  exact hb.block q (by omega)

set_option maxHeartbeats 2000000 in
theorem stops1_any (W : World) (p q : Nat) (stop : Int) (v : Value) (L : List Tok) (t : Tok) (h : Coll W p v L) (hL : L.length ≤ 65536) (hqp : q < p) (hq : W.cell? ⟨q, 0, none⟩ = some (.int .i64 stop)) :
    Calls Tryd.prog 17 #[t.val, .pointer (some ⟨p, 0, none⟩), .pointer (some ⟨q, 0, none⟩)] W fun e W' => e = .returned (.bool (stopAns stop L.length)) ∧ ∃ v', Coll W' p v' (L ++ [t]) ∧ Step W W' p v v' := by
  obtain ⟨i0, hi0, hz0, hz1, hz2⟩ := info_parts Tryd.infoTok
  have hc := h.cell
  have hf := h.frozen
  have hlt := h.lt
  have HC := hide h
  have HQ := hide hq
  clear h hq
  unfold Tok.val
  have hp1 : ¬ p = W.heap.size := by omega
  have hqn : ¬ q = p := by omega
  have HA : Hid (stopAns stop L.length = decide ((L.length : Int) + 1 ≤ stop)) := rfl
  rw [HA.out]
  clear HA
  go_enter Tryd.func17, Tryd.ntmps17
  go_wp2_with (at_builtin; refine wpList_append_lies _ rfl _ _ 28 rfl p 36 i0 (.agg #[.int .i64 0, .string ⟨#[]⟩, .int .i64 0, .int .i64 0, .int .i64 0, .int .i64 0]) 6 56 Tryd.underlying28 hi0 hz0 hz1 hz2 rfl (by decide) v L.length (L.flatMap cells6) rfl (World.ownsRow.alloc (World.ownsRow.alloc HC.out.row _) _) ⟨W.heap.size + 1, 0, none⟩ 1 1 (cells6 t) rfl rfl (news6 W t _) (one6 t) (by decide) (by unfold maxLen; omega) (by omega) (by simp; omega) (W.heap.size + 2) (by simp) ?_; intro g cap' w1 hown1 hgrow hat hlt1; obtain ⟨hbx, hpg⟩ := after_append HC.out hgrow hat; have hc1 : w1.cell? ⟨p, 0, none⟩ = some v := (by simp [World.cell?, hbx]); have hf1 : w1.frozen? ⟨p, 0, none⟩ = false := (by simp [World.frozen?, hbx]); have hq1 : w1.cell? ⟨q, 0, none⟩ = some (.int .i64 stop) := ((World.cell?_of_block (w := W) (stop_block HC.out hgrow hqp)).trans HQ.out); have HW := hide hown1; have HGr := hide hgrow; have HAt := hide hat; have HBx := hide hbx; have HPg := hide hpg; clear hown1 hgrow hat hbx hpg hc hf)
  go_ret
  exact ⟨rfl, _, coll_next HBx.out HPg.out HW.out, step_next HC.out HGr.out HAt.out⟩

theorem func_nil (W : World) : (binOp .neq 41 .nilFunc .nilFunc).run Tryd.prog W = .ok (.bool false) W := by
  first | rfl | kernel_rfl | simp [binOp, go_sem]

set_option maxHeartbeats 4000000 in
set_option maxRecDepth 100000 in
theorem each_nil (s : ByteArray) (w : World) (hl : LexLaid w) (hs : s.size ≤ 140737488351232) :
    Calls Tryd.prog 16 #[.string s, .nilFunc] w fun e w' => e = .returned (faultVal (scanX s).2.1 (scanX s).2.2) ∧ Below w.heap.size w w' := by
  by_cases hlong : (65536 : Int) < (s.size : Int)
  · rw [show scanX s = ([], 1, 0) from if_pos (by omega)]
    clear hl
    go_enter Tryd.func16, Tryd.ntmps16
    go_wp2
    exact bodyPost_ret (v := faultVal 1 0) (by simp [results, Tryd.results16, go_sem, faultVal]) rfl ⟨rfl, (Below.refl _ _).alloc (Nat.le_refl _) _⟩
  have hX : scanX s = eachF (fun _ => true) s 0 [] := if_neg (by omega)
  obtain ⟨R, hR⟩ : ∃ R, scanX s = R := ⟨_, rfl⟩
  rw [hR]
  have HR : Hid (eachF (fun _ => true) s 0 [] = R) := hX.symm.trans hR
  clear hX hR
  have HL := hide hl
  obtain ⟨b4, hb4⟩ : ∃ b4, b4 = w.heap.size := ⟨_, rfl⟩
  clear hl
  have hfn := func_nil
  go_enter Tryd.func16, Tryd.ntmps16
  go_wp2
  rw [← hb4]
  replace hb4 := hide hb4
  go_loopg [5, 6, 7] s.size (fun g a _ _ wx => ∃ (o : Nat) (L : List Tok), o ≤ s.size ∧ g = s.size - o ∧ a = .int .i64 o ∧ Hid (eachF (fun _ => true) s o L = R) ∧ Hid (box3 b4 wx 0 0 0) ∧ Hid (Below w.heap.size w wx))
  case atStart =>
    refine ⟨0, [], Nat.zero_le _, rfl, rfl, HR, ?_, (Below.refl _ _).alloc (Nat.le_refl _) _⟩
    show (w.alloc (.cells #[.int .i64 0, .int .i64 0, .int .i64 0] 31)).heap[b4]? = _
    rw [hb4.out]; exact heap_alloc_new w _
  case round =>
    obtain ⟨o, L, ho, hg, rfl, HE, HB4, HBx⟩ := hrel
    have HN := hide (next_any s o wr hs ho (HL.out.kept HBx.out))
    cases hn : nextX s o with
    | bad c f' =>
      rw [hn] at HN
      have hc0 : (c == 0) = false := by
        have := next_bad hn
        simp; omega
      have HF : Hid (R = (L, c, f')) := HE.out.symm.trans (eachF_bad hn)
      clear hn HE
      go_wp2_with (go_at_call 22; refine HN.out.mono ?_; unfold Nx.val Tok.val tokZero faultVal; rintro e X ⟨rfl, hb⟩; have hx := box3.cells (HB4.out.kept hb); obtain ⟨x0, x1, x2, z0, z1, z2, x3⟩ := hx; have n1 : ¬ b4 = X.heap.size := (by omega); have n2 : ¬ b4 = X.heap.size + 1 := (by omega); have hb := hide hb)
      refine bodyPost_ret (each_results (((HB4.out.kept hb.out).put c 0 f').two _ _) _ rfl) rfl ⟨by rw [HF.out]; rfl, ?_⟩
      have hq := HBx.out.trans (hb.out.mono HBx.out.size)
      exact Below.put hq (Nat.le_of_eq hb4.out.symm) _ _ _ _ _ hq.size
    | tok t =>
      rw [hn] at HN
      obtain ⟨-, -, hno, hcase⟩ := next_tok ho hn
      by_cases hk : t.k = 0
      · have HF : Hid (R = (L ++ [t], 0, 0)) := HE.out.symm.trans (eachF_stop hn (.inr hk))
        have ek : (t.k == 0) = true := by simpa using hk
        clear hn HE hcase hk
        go_wp2_with (go_at_call 22; refine HN.out.mono ?_; unfold Nx.val Tok.val tokZero faultVal; rintro e X ⟨rfl, hb⟩; have hx := box3.cells (HB4.out.kept hb); obtain ⟨x0, x1, x2, z0, z1, z2, x3⟩ := hx; have n1 : ¬ b4 = X.heap.size := (by omega); have n2 : ¬ b4 = X.heap.size + 1 := (by omega); have hb := hide hb)
        refine bodyPost_ret (each_results (((HB4.out.kept hb.out).put 0 0 0).two _ _) _ rfl) rfl ⟨by rw [HF.out]; rfl, ?_⟩
        have hq := HBx.out.trans (hb.out.mono HBx.out.size)
        exact Below.put hq (Nat.le_of_eq hb4.out.symm) _ _ _ _ _ hq.size
      · obtain ⟨hk1, hk2, hk3⟩ := hcase.resolve_left (fun h => hk h.1)
        have HF : Hid (eachF (fun _ => true) s t.en (L ++ [t]) = R) := (eachF_go hn (by simp [hk]) (by omega) hk3).symm.trans HE.out
        have ek : (t.k == 0) = false := by simpa using hk
        clear hn HE hcase hk
        go_wp2_with (go_at_call 22; refine HN.out.mono ?_; unfold Nx.val Tok.val tokZero faultVal; rintro e X ⟨rfl, hb⟩; have hx := box3.cells (HB4.out.kept hb); obtain ⟨x0, x1, x2, z0, z1, z2, x3⟩ := hx; have n1 : ¬ b4 = X.heap.size := (by omega); have n2 : ¬ b4 = X.heap.size + 1 := (by omega); have hb := hide hb)
        go_roundg (s.size - t.en)
        case rel =>
          have hq := HBx.out.trans (hb.out.mono HBx.out.size)
          exact ⟨t.en, L ++ [t], hk3, rfl, rfl, HF, (HB4.out.kept hb.out).two _ _, hq.trans ((below2 X _ _).mono hq.size)⟩
        case measure => omega

end Go.Proofs.YtaiehmfhhdnijaaDoor
