/- parse's reader takes a token. -/
import Derived.Test.YtnpmdepbfobebaaGreatDoorProg
import Derived.Test.YtnpmdepbfobebaaGreatDoorParseReader
import Derived.Deep.RegionWith
import Derived.Deep.RegionHeld3
namespace Go.Proofs.YtnpmdepbfobebaaGreatDoor
set_option linter.unusedSimpArgs false
set_option linter.unusedVariables false
open Go.RowKit
attribute [local go_sem] over_cellAt over_frozenAt over_setAt

def KsAt (w : World) (g : Nat) (ks : List Int) : Prop := ∀ j k, ks[j]? = some k → w.cell? ⟨g, j, none⟩ = some (.int .i64 k)
theorem KsAt.kept {w w' : World} {g : Nat} {ks : List Int} (h : KsAt w g ks) (hb : Below w.heap.size w w') : KsAt w' g ks := fun j k hj => kept_cell hb (h j k hj)
theorem ks_new (w : World) (ks : List Int) : KsAt (w.alloc (.cells (ks.map (Value.int .i64)).toArray 3)) w.heap.size ks := fun j k hj => by
  have h := heap_alloc_new w (.cells (ks.map (Value.int .i64)).toArray 3)
  simp only [World.cell?, h]
  simp [hj]

theorem index_any (g : Nat) (ks : List Int) (v : Int) (w : World) (h : KsAt w g ks) (hk : ks.length ≤ 100) :
    Calls Tryz.prog 83 #[.slice (some ⟨g, 0, none⟩) ks.length ks.length, .int .i64 v] w fun e w' => ∃ r : Int, e = .returned (.int .i64 r) ∧ (decide (0 ≤ r) = decide (v ∈ ks)) ∧ w' = w := by
  have H := hide h
  clear h
  obtain ⟨n, hn⟩ : ∃ n, n = ks.length := ⟨_, rfl⟩
  rw [← hn] at hk ⊢
  have HN := hide hn
  clear hn
  go_enter Tryz.func83, Tryz.ntmps83
  go_wp2
  go_loop [5, 8] (fun _ i => ∃ k : Nat, k ≤ n ∧ i = .int .i64 k ∧ Hid (v ∉ ks.take k)) (fun _ i => n - (intOf i).toNat)
  case atStart => exact ⟨0, Nat.zero_le _, rfl, by show v ∉ _; simp⟩
  case round =>
    obtain ⟨k, hkn, rfl, HA⟩ := hrel
    by_cases hlt : k < n
    · have hi : (k : Int) < (n : Int) := by omega
      obtain ⟨x, hx⟩ : ∃ x, ks[k]? = some x := ⟨_, List.getElem?_eq_getElem (by rw [← HN.out]; exact hlt)⟩
      have c0 := H.out k x hx
      by_cases he : v = x
      · subst he
        have HM : Hid (v ∈ ks) := List.mem_of_getElem? hx
        clear hx
        go_wp2
        go_ret
        exact ⟨(k : Int), rfl, by simp [HM.out], rfl⟩
      · have hq : (v == x) = false := by simpa using he
        have HA2 : Hid (v ∉ ks.take (k + 1)) := by
          show v ∉ _
          rw [List.take_add_one, hx, Option.toList_some, List.mem_append, List.mem_singleton]
          exact fun h => h.elim HA.out he
        clear he hx
        go_wp2
        go_round
        case rel => exact ⟨k + 1, by omega, by go_num, HA2⟩
        case measure => simp [intOf]; omega
    · have hi : ¬ (k : Int) < (n : Int) := by omega
      have HM : Hid (v ∉ ks) := by
        have := HA.out
        rw [List.take_of_length_le (by rw [← HN.out]; omega)] at this
        exact this
      go_wp2
      go_ret
      exact ⟨-1, rfl, by simp [HM.out], rfl⟩

theorem ret_bool2 {a b : Bool} (h : a = b) : Ending.returned (.bool a) = .returned (.bool b) := by rw [h]
theorem contains_any (g : Nat) (ks : List Int) (v : Int) (w : World) (h : KsAt w g ks) (hk : ks.length ≤ 100) :
    Calls Tryz.prog 70 #[.slice (some ⟨g, 0, none⟩) ks.length ks.length, .int .i64 v] w fun e w' => e = .returned (.bool (decide (v ∈ ks))) ∧ w' = w := by
  have H := hide (index_any g ks v w h hk)
  clear h
  go_enter Tryz.func70, Tryz.ntmps70
  go_wp2_with (go_at_call 83; refine H.out.mono ?_; rintro e w' ⟨r, rfl, hr, hw'⟩; have hw' := hw'.symm; subst hw'; have HR := hide hr; clear hr)
  go_ret
  exact ⟨ret_bool2 HR.out, rfl⟩

/-- Behind a call that panics nothing of a drawn region is left: a walk through an empty region stands in its place. -/
theorem panic_ends {P : Program} {w : World} {p : Prop} (hp : p) (_ : wpAny P .any #[] (fun _ _ _ => True) 0 #[] { tmps := #[], defers := [] } w) : p := hp
theorem belowt2 {w w' w'' : World} (h : Below w.heap.size w w') (h2 : Below w'.heap.size w' w'') : Below w.heap.size w w'' := h.trans (h2.mono h.size)
theorem belowA (w : World) (x : Obj) : Below w.heap.size w (w.alloc x) := (Below.refl _ _).alloc (Nat.le_refl _) _

set_option maxHeartbeats 1000000 in
theorem take_end {p : Nat} {ao : Option Addr} {cap : Nat} {L : List Tok} {c f : Int} {i : Nat} {w : World} (g : Nat) (ks : List Int) (h : Rdr w p ao cap L c f i) (ht : i = L.length) :
    Calls Tryz.prog 51 #[.pointer (some ⟨p, 0, none⟩), .slice (some ⟨g, 0, none⟩) ks.length ks.length] w fun e w' => e = PEnd c f ∧ Below w.heap.size w w' := by
  have HL := hide (fun w1 (hb : Below w.heap.size w w1) => look_end (h.kept hb) ht)
  clear h ht
  go_enter Tryz.func51, Tryz.ntmps51
  go_wp2_with (go_at_call 69; refine (HL.out _ (belowA _ _)).mono ?_; rintro e w' ⟨rfl, hb⟩)
  exact ⟨rfl, rfl, belowt2 (belowA _ _) hb⟩

set_option maxHeartbeats 1000000 in
theorem take_bad {p : Nat} {ao : Option Addr} {cap : Nat} {L : List Tok} {c f : Int} {i : Nat} {w : World} {t : Tok} (g : Nat) (ks : List Int) (h : Rdr w p ao cap L c f i) (ht : L[i]? = some t) (hk : KsAt w g ks) (hkl : ks.length ≤ 100) (hn : t.k ∉ ks) :
    Calls Tryz.prog 51 #[.pointer (some ⟨p, 0, none⟩), .slice (some ⟨g, 0, none⟩) ks.length ks.length] w fun e w' => e = PEnd (misK t.k) (t.off : Int) ∧ Below w.heap.size w w' := by
  have HL := hide (fun w1 (hb : Below w.heap.size w w1) => look_ok (h.kept hb) ht)
  have HC : Hid (∀ w1, Below w.heap.size w w1 → Calls Tryz.prog 70 #[.slice (some ⟨g, 0, none⟩) ks.length ks.length, .int .i64 t.k] w1 fun e w' => e = .returned (.bool false) ∧ w' = w1) := fun w1 hb => by
    have := contains_any g ks t.k w1 (hk.kept hb) hkl
    rw [decide_eq_false hn] at this
    exact this
  have HM := hide (misplaced_any t.k)
  have HG := hide (giveUp_any (misK t.k) (t.off : Int))
  unfold tokV at HL
  clear h ht hk hkl hn
  generalize ks.length = n at *
  go_enter Tryz.func51, Tryz.ntmps51
  go_wp2_with (first
    | (go_at_call 69; refine (HL.out _ (belowA _ _)).mono ?_; rintro e w2 ⟨rfl, hb⟩; have HB := hide (belowt2 (belowA _ _) hb); clear hb)
    | (go_at_call 70; refine (HC.out _ (belowt2 HB.out (belowA _ _))).mono ?_; rintro e w' ⟨rfl, hw'⟩; have hw' := hw'.symm; subst hw'))
  clear HL HC
  have HX := hide (belowt2 HB.out (belowA w2 (.cells #[.int .i64 t.k, .string t.t, .int .i64 t.n, .int .i64 t.op, .int .i64 (t.off : Int), .int .i64 (t.en : Int)] 116)))
  go_region_with (first
    | (go_at_call 72; refine (HM.out _).mono ?_; rintro e w' ⟨rfl, hw'⟩; have hw' := hw'.symm; subst hw')
    | (go_at_call 71; refine (HG.out _).mono ?_; rintro e w' ⟨rfl, hw'⟩; have hw' := hw'.symm; subst hw'; refine panic_ends (P := Tryz.prog) (w := w2) ⟨rfl, rfl, by first | exact HX.out.drew | exact HX.out.drew.drew⟩ ?_))
  all_goals trivial

theorem Rdr.only {S : Nat → Prop} {w w' : World} {p : Nat} {ao : Option Addr} {cap : Nat} {L : List Tok} {c f : Int} {i : Nat} (h : Rdr w p ao cap L c f i) (ho : Only S w w') (hp : ¬ S p) (hg : ∀ g, ao = some ⟨g, 0, none⟩ → 0 < L.length → ¬ S g) : Rdr w' p ao cap L c f i :=
  ⟨by rw [ho.block _ h.lt hp]; exact h.blk, fun h0 => by
    obtain ⟨g, e, hgp, hr⟩ := h.toks h0
    have hs := hg g e h0
    exact ⟨g, e, hgp, fun j t ht => ⟨ho.cell (hr j t ht).c0 hs, ho.cell (hr j t ht).c1 hs, ho.cell (hr j t ht).c2 hs, ho.cell (hr j t ht).c3 hs, ho.cell (hr j t ht).c4 hs, ho.cell (hr j t ht).c5 hs⟩⟩, h.le, h.small, h.good⟩

theorem Rdr.next {w : World} {p : Nat} {ao : Option Addr} {cap : Nat} {L : List Tok} {c f : Int} {i : Nat} (h : Rdr w p ao cap L c f i) (hi : i < L.length) : Rdr (w.setCell ⟨p, 4, none⟩ (.int .i64 ((i : Int) + 1))) p ao cap L c f (i + 1) := by
  have ho : Only (fun b => b = p) w (w.setCell ⟨p, 4, none⟩ (.int .i64 ((i : Int) + 1))) := (Only.refl (fun b => b = p) w).setCell (p := ⟨p, 4, none⟩) rfl _
  refine ⟨?_, fun h0 => ?_, hi, h.small, h.good⟩
  · have hb := h.blk
    simp [World.setCell, Array.getElem?_modify, hb]
  · obtain ⟨g, e, hgp, hr⟩ := h.toks h0
    exact ⟨g, e, hgp, fun j t ht => ⟨ho.cell (hr j t ht).c0 hgp, ho.cell (hr j t ht).c1 hgp, ho.cell (hr j t ht).c2 hgp, ho.cell (hr j t ht).c3 hgp, ho.cell (hr j t ht).c4 hgp, ho.cell (hr j t ht).c5 hgp⟩⟩

theorem box_put {V : World} {b : Nat} {a0 a1 a2 a3 a4 a5 : Value} (h : V.heap[b]? = some (.cells #[a0, a1, a2, a3, a4, a5] 116 (0, 0))) (u0 u1 u2 u3 u4 u5 : Value) :
    ((((((V.setCell ⟨b, 0, none⟩ u0).setCell ⟨b, 1, none⟩ u1).setCell ⟨b, 2, none⟩ u2).setCell ⟨b, 3, none⟩ u3).setCell ⟨b, 4, none⟩ u4).setCell ⟨b, 5, none⟩ u5).heap[b]? = some (.cells #[u0, u1, u2, u3, u4, u5] 116 (0, 0)) := by
  simp [World.setCell, Array.getElem?_modify, h]

theorem take_res (W : World) (b : Nat) (u0 u1 u2 u3 u4 u5 : Value) (tmps : Array Value) (ht : tmps[4]? = some (.pointer (some ⟨b, 0, none⟩))) (hb : W.heap[b]? = some (.cells #[u0, u1, u2, u3, u4, u5] 116 (0, 0))) :
    (results Tryz.f51 tmps).run Tryz.prog W = .ok (.agg #[u0, u1, u2, u3, u4, u5]) W := by
  have c : ∀ j v, (#[u0, u1, u2, u3, u4, u5] : Array Value)[j]? = some v → W.cell? ⟨b, j, none⟩ = some v := fun j v hv => by simp [World.cell?, hb, hv]
  have c0 := c 0 u0 rfl
  have c1 := c 1 u1 rfl
  have c2 := c 2 u2 rfl
  have c3 := c 3 u3 rfl
  have c4 := c 4 u4 rfl
  have c5 := c 5 u5 rfl
  simp [results, Tryz.results51, go_sem, ht, c0, c1, c2, c3, c4, c5]

theorem box_tok {w w2 : World} (hb : Below (w.alloc (.cells #[.int .i64 0, .string ⟨#[]⟩, .int .i64 0, .int .i64 0, .int .i64 0, .int .i64 0] 116)).heap.size (w.alloc (.cells #[.int .i64 0, .string ⟨#[]⟩, .int .i64 0, .int .i64 0, .int .i64 0, .int .i64 0] 116)) w2) :
    (w2.cell? ⟨w.heap.size, 0, none⟩ = some (.int .i64 0) ∧ w2.cell? ⟨w.heap.size, 1, none⟩ = some (.string ⟨#[]⟩) ∧ w2.cell? ⟨w.heap.size, 2, none⟩ = some (.int .i64 0) ∧ w2.cell? ⟨w.heap.size, 3, none⟩ = some (.int .i64 0) ∧ w2.cell? ⟨w.heap.size, 4, none⟩ = some (.int .i64 0) ∧ w2.cell? ⟨w.heap.size, 5, none⟩ = some (.int .i64 0)) ∧
    (∀ j, w2.frozen? ⟨w.heap.size, j, none⟩ = false) ∧ w.heap.size < w2.heap.size := by
  have hblk : w2.heap[w.heap.size]? = some (.cells #[.int .i64 0, .string ⟨#[]⟩, .int .i64 0, .int .i64 0, .int .i64 0, .int .i64 0] 116 (0, 0)) := by
    rw [hb.block _ (by simp)]; exact heap_alloc_new w _
  refine ⟨⟨?_, ?_, ?_, ?_, ?_, ?_⟩, fun j => ?_, (Array.getElem?_eq_some_iff.1 hblk).1⟩ <;> simp [World.cell?, World.frozen?, hblk]

set_option maxHeartbeats 2000000 in
theorem take_ok {p : Nat} {ao : Option Addr} {cap : Nat} {L : List Tok} {c f : Int} {i : Nat} {w : World} {t : Tok} (g : Nat) (ks : List Int) (h : Rdr w p ao cap L c f i) (ht : L[i]? = some t) (hk : KsAt w g ks) (hkl : ks.length ≤ 100) (hn : t.k ∈ ks) :
    Calls Tryz.prog 51 #[.pointer (some ⟨p, 0, none⟩), .slice (some ⟨g, 0, none⟩) ks.length ks.length] w fun e w' => e = .returned (tokV t) ∧ Rdr w' p ao cap L c f (i + 1) ∧ Only (fun b => b = p) w w' := by
  have HL := hide (fun w1 (hb : Below w.heap.size w w1) => look_ok (h.kept hb) ht)
  have HC : Hid (∀ w1, Below w.heap.size w w1 → Calls Tryz.prog 70 #[.slice (some ⟨g, 0, none⟩) ks.length ks.length, .int .i64 t.k] w1 fun e w' => e = .returned (.bool true) ∧ w' = w1) := fun w1 hb => by
    have := contains_any g ks t.k w1 (hk.kept hb) hkl
    rw [decide_eq_true hn] at this
    exact this
  have HR := hide h
  have hp := h.lt
  have hil := (List.getElem?_eq_some_iff.1 ht).1
  have hsm := h.small
  unfold tokV at *
  clear h ht hk hkl hn
  generalize ks.length = n at *
  go_enter Tryz.func51, Tryz.ntmps51
  go_wp2_with (first
    | (go_at_call 69; (refine (HL.out _ (belowA _ _)).mono ?_; rintro e w2 ⟨rfl, hb⟩; have HB0 := hide hb; have HB := hide (belowt2 (belowA _ _) hb); clear hb; obtain ⟨c0, c1, c2, c3, c4, z4⟩ := ((HR.out.kept HB.out).kept (belowA w2 (.cells #[.int .i64 t.k, .string t.t, .int .i64 t.n, .int .i64 t.op, .int .i64 (t.off : Int), .int .i64 (t.en : Int)] 116))).cells; obtain ⟨⟨k0, k1, k2, k3, k4, k5⟩, zf, hz2⟩ := box_tok HB0.out; have zf0 := zf 0; have zf1 := zf 1; have zf2 := zf 2; have zf3 := zf 3; have zf4 := zf 4; have zf5 := zf 5; have q1 : ¬ p = w2.heap.size := (by omega); have q2 : ¬ w2.heap.size = p := (by omega); have q3 : ¬ p = w.heap.size := (by omega); have q4 : ¬ w.heap.size = p := (by omega); have q5 : ¬ w.heap.size = w2.heap.size := (by omega); have q6 : ¬ w2.heap.size = w.heap.size := (by omega); clear zf))
    | (go_at_call 70; refine (HC.out _ (belowt2 HB.out (belowA _ _))).mono ?_; rintro e w' ⟨rfl, hw'⟩; have hw' := hw'.symm; subst hw'))
  have hg : ∀ g, ao = some ⟨g, 0, none⟩ → 0 < L.length → ¬ g = w.heap.size := fun g hg h0 => by
    obtain ⟨g', e, _, hr⟩ := HR.out.toks h0
    rw [hg] at e
    obtain rfl : g = g' := by simpa using e
    have := lt_of_cell (hr 0 L[0] (List.getElem?_eq_getElem h0)).c0
    simp only at this
    omega
  have HR2 := ((HR.out.kept HB.out).kept (belowA w2 (.cells #[.int .i64 t.k, .string t.t, .int .i64 t.n, .int .i64 t.op, .int .i64 (t.off : Int), .int .i64 (t.en : Int)] 116))).next hil
  have HR3 := HR2.only ((((((Only.refl (fun b => b = w.heap.size) _).setCell (p := ⟨w.heap.size, 0, none⟩) rfl (.int .i64 t.k)).setCell (p := ⟨w.heap.size, 1, none⟩) rfl (.string t.t)).setCell (p := ⟨w.heap.size, 2, none⟩) rfl (.int .i64 t.n)).setCell (p := ⟨w.heap.size, 3, none⟩) rfl (.int .i64 t.op)).setCell (p := ⟨w.heap.size, 4, none⟩) rfl (.int .i64 (t.off : Int)) |>.setCell (p := ⟨w.heap.size, 5, none⟩) rfl (.int .i64 (t.en : Int))) q3 hg
  have HO := (((((((((Only.of_below HB.out (fun b => b = p ∨ w.heap.size ≤ b)).alloc (.cells #[.int .i64 t.k, .string t.t, .int .i64 t.n, .int .i64 t.op, .int .i64 (t.off : Int), .int .i64 (t.en : Int)] 116)).setCell (p := ⟨p, 4, none⟩) (.inl rfl) (.int .i64 ((i : Int) + 1))).setCell (p := ⟨w.heap.size, 0, none⟩) (.inr (Nat.le_refl _)) (.int .i64 t.k)).setCell (p := ⟨w.heap.size, 1, none⟩) (.inr (Nat.le_refl _)) (.string t.t)).setCell (p := ⟨w.heap.size, 2, none⟩) (.inr (Nat.le_refl _)) (.int .i64 t.n)).setCell (p := ⟨w.heap.size, 3, none⟩) (.inr (Nat.le_refl _)) (.int .i64 t.op)).setCell (p := ⟨w.heap.size, 4, none⟩) (.inr (Nat.le_refl _)) (.int .i64 (t.off : Int))).setCell (p := ⟨w.heap.size, 5, none⟩) (.inr (Nat.le_refl _)) (.int .i64 (t.en : Int))).mono (S' := fun b => b = p) (fun k hk h => h.elim id (fun h => by omega))
  have hbk : ((w2.alloc (.cells #[.int .i64 t.k, .string t.t, .int .i64 t.n, .int .i64 t.op, .int .i64 (t.off : Int), .int .i64 (t.en : Int)] 116)).setCell ⟨p, 4, none⟩ (.int .i64 ((i : Int) + 1))).heap[w.heap.size]? = some (.cells #[.int .i64 0, .string ⟨#[]⟩, .int .i64 0, .int .i64 0, .int .i64 0, .int .i64 0] 116 (0, 0)) := by
    rw [((Only.refl (fun b => b = p) _).setCell (p := ⟨p, 4, none⟩) rfl _).block _ (by simp; omega) q4, (belowA w2 _).block _ hz2, HB0.out.block _ (by simp)]
    exact heap_alloc_new w _
  exact bodyPost_ret (take_res _ w.heap.size _ _ _ _ _ _ _ rfl (box_put hbk _ _ _ _ _ _)) rfl ⟨rfl, HR3, HO⟩
end Go.Proofs.YtnpmdepbfobebaaGreatDoor
