/- parse's reader takes a program. The document's Program. The law's own sameAtom at equal atoms. The law's own sameAtoms at equal lists of atoms. The law's own sameBody at equal lists of literals. -/
import Derived.Test.YtmdhjggijlhhgaaGreatDoorProg
import Derived.Test.YtmdhjggijlhhgaaGreatDoorPkE
import Derived.Test.YtmdhjggijlhhgaaGreatDoorPkC
import Derived.Test.YtmdhjggijlhhgaaGreatDoorForms
import Derived.Test.YtmdhjggijlhhgaaGreatDoorOver
import Derived.Test.YtmdhjggijlhhgaaGreatDoorParseAtom
import Derived.Deep.RegionHeld3
import Derived.Deep.DeepCutAuto

namespace Go.Proofs.YtmdhjggijlhhgaaGreatDoor
set_option linter.unusedSimpArgs false
set_option linter.unusedVariables false
open Go.RowKit

theorem Tryz.infoCls : (Tryz.prog.info? 78).map (fun i => (i.zero, i.size, i.bytes)) = some (some (.agg #[.string ⟨#[]⟩, .slice none 0 0, .int .i64 0, .slice none 0 0]), 4, 72) := by kernel_rfl

def ProgPost (w : World) (p : Nat) (ao : Option Addr) (cap : Nat) (L : List Tok) (c f : Int) (res : PR (List PCls)) (e : Ending) (w' : World) : Prop :=
  match res with
  | .bad ec eo => e = PEnd ec eo ∧ Only (fun k => k = p) w w'
  | .ok b r => ∃ v cs, e = .returned (.agg #[v]) ∧ cs.map Clx.pur = b ∧ cs.length ≤ 512 ∧ Grow elClx 78 w.heap.size w' v cs ∧ Ahead w' p ao cap L c f r ∧ Only (fun k => k = p) w w'
theorem progPost_bad {w w' : World} {p : Nat} {ao : Option Addr} {cap : Nat} {L : List Tok} {c f ec eo : Int} {e : Ending} (h : ProgPost w p ao cap L c f (.bad ec eo) e w') : e = PEnd ec eo ∧ Only (fun k => k = p) w w' := h
theorem progPost_ok {w w' : World} {p : Nat} {ao : Option Addr} {cap : Nat} {L : List Tok} {c f : Int} {x : List PCls} {r : List Tok} {e : Ending} (h : ProgPost w p ao cap L c f (.ok x r) e w') : ∃ v cs, e = .returned (.agg #[v]) ∧ cs.map Clx.pur = x ∧ cs.length ≤ 512 ∧ Grow elClx 78 w.heap.size w' v cs ∧ Ahead w' p ao cap L c f r ∧ Only (fun k => k = p) w w' := h

/-- What the loop of a program's clauses keeps in memory. -/
structure PrgAt (w wr : World) (p : Nat) (ao : Option Addr) (cap : Nat) (L : List Tok) (c f : Int) (R : List Tok) (v : Value) (cs : List Clx) : Prop where
  col : Coll3 elClx 78 w wr p ao cap L c f R (w.heap.size + 2) v cs
  b0 : wr.heap[w.heap.size]? = some (.cells #[.slice none 0 0] 42 (0, 0))
  b1 : wr.heap[w.heap.size + 1]? = some (.cells #[v] 42 (0, 0))
section
variable {w wr wr' : World} {p : Nat} {ao : Option Addr} {cap : Nat} {L : List Tok} {c f : Int} {R R' : List Tok} {v v' : Value} {cs cs' : List Clx}
theorem PrgAt.move (h : PrgAt w wr p ao cap L c f R v cs) (ho : Only (fun k => k = p) wr wr') (ha : Ahead wr' p ao cap L c f R') : PrgAt w wr' p ao cap L c f R' v cs :=
  ⟨h.col.move ho ha, box_moved h.b0 (by have := h.col.pl; omega) ho, box_moved h.b1 (by have := h.col.pl; omega) ho⟩
theorem PrgAt.below (h : PrgAt w wr p ao cap L c f R v cs) (hb : Below wr.heap.size wr wr') : PrgAt w wr' p ao cap L c f R v cs := h.move (Only.of_below hb _) (h.col.ah.kept hb)
theorem PrgAt.drew (h : PrgAt w wr p ao cap L c f R v cs) : PrgAt w wr.drew p ao cap L c f R v cs := h.below (Below.refl _ _).drew
theorem PrgAt.cells (h : PrgAt w wr p ao cap L c f R v cs) : wr.cell? ⟨w.heap.size, 0, none⟩ = some (.slice none 0 0) ∧ wr.frozen? ⟨w.heap.size, 0, none⟩ = false ∧ wr.cell? ⟨w.heap.size + 1, 0, none⟩ = some v ∧ wr.frozen? ⟨w.heap.size + 1, 0, none⟩ = false := by
  refine ⟨?_, ?_, ?_, ?_⟩ <;> simp [World.cell?, World.frozen?, h.b0, h.b1]
theorem PrgAt.far (h : PrgAt w wr p ao cap L c f R v cs) (hg : wr.grownBy wr' v.ownBlock) : wr'.heap[w.heap.size + 1]? = some (.cells #[v] 42 (0, 0)) := by
  have ho : Only (fun k => w.heap.size + 2 ≤ k) wr wr' := (Only.refl _ wr).grown hg (fun k hk _ => own_new h.col.gr.1 k hk)
  rw [ho.block _ (Array.getElem?_eq_some_iff.1 h.b1).1 (by omega)]; exact h.b1
theorem PrgAt.push (h : PrgAt w wr p ao cap L c f R v cs) (hg : wr.grownBy wr' v.ownBlock) (hG : Grow elClx 78 (w.heap.size + 2) wr' v' cs') : PrgAt w (wr'.setCell ⟨w.heap.size + 1, 0, none⟩ v') p ao cap L c f R v' cs' := by
  have hp := h.col.pl
  have hc := h.col.grown hg hG
  have ho : Only (fun k => w.heap.size + 2 ≤ k) wr wr' := (Only.refl _ wr).grown hg (fun k hk _ => own_new h.col.gr.1 k hk)
  have ho2 : Only (fun k => k = w.heap.size + 1) wr' (wr'.setCell ⟨w.heap.size + 1, 0, none⟩ v') := (Only.refl (fun k => k = w.heap.size + 1) wr').setCell (p := ⟨w.heap.size + 1, 0, none⟩) rfl _
  have hb0 : wr'.heap[w.heap.size]? = some (.cells #[.slice none 0 0] 42 (0, 0)) := by rw [ho.block _ (Array.getElem?_eq_some_iff.1 h.b0).1 (by omega)]; exact h.b0
  refine ⟨⟨?_, hc.gr.above fun b hb hlt => ho2.block b hlt (by omega), hc.on.trans (ho2.mono fun k _ (e : k = w.heap.size + 1) => .inr (by omega)), hp, hc.tk, hc.lo, Nat.le_trans hc.hi ho2.size⟩, ?_, ?_⟩
  · obtain ⟨i, q1, q2⟩ := hc.ah
    exact ⟨i, q1.only ho2 (by omega) (fun g hg hl => by have := hc.tk g hg hl; omega), q2⟩
  · rw [ho2.block _ (Array.getElem?_eq_some_iff.1 hb0).1 (by omega)]; exact hb0
  · have := h.far hg
    simp [World.setCell, Array.getElem?_modify, this]
theorem PrgAt.start (h : Ahead w p ao cap L c f R) : PrgAt w ((w.alloc (.cells #[.slice none 0 0] 42)).alloc (.cells #[.slice none 0 0] 42)) p ao cap L c f R (.slice none 0 0) [] :=
  have hb := TwoBox.start h.lt (.cells #[.slice none 0 0] 42) (.cells #[.slice none 0 0] 42)
  ⟨⟨h.kept (below2a _ _ _), Grow.nil _ _ _ _, hb.on, h.lt, h.tk, by omega, by simp⟩, hb.b0, hb.b1⟩
end
theorem prgRes (W : World) (b : Nat) (u0 : Value) (tmps : Array Value) (ht : tmps[2]? = some (.pointer (some ⟨b, 0, none⟩))) (hb : W.heap[b]? = some (.cells #[u0] 42 (0, 0))) :
    (results Tryz.f31 tmps).run Tryz.prog W = .ok (.agg #[u0]) W := by
  have c0 : W.cell? ⟨b, 0, none⟩ = some u0 := by simp [World.cell?, hb]
  simp [results, Tryz.results31, go_sem, ht, c0]

set_option maxHeartbeats 4000000 in
set_option maxRecDepth 100000 in
theorem program_any {w : World} {p : Nat} {ao : Option Addr} {cap : Nat} {L : List Tok} {c f : Int} {R : List Tok} (h : Ahead w p ao cap L c f R) :
    Calls Tryz.prog 31 #[.pointer (some ⟨p, 0, none⟩)] w (ProgPost w p ao cap L c f (progP c f R)) := by
  obtain ⟨res, hres⟩ : ∃ res, progP c f R = res := ⟨_, rfl⟩
  rw [hres]
  have HRes0 : Hid (progF c f (R.length + 1) [] R = res) := hres
  obtain ⟨Post, hPost⟩ : ∃ Post : Ending → World → Prop, Post = ProgPost w p ao cap L c f res := ⟨_, rfl⟩
  rw [← hPost]
  have PB : Hid (∀ ec eo w', res = .bad ec eo → Only (fun k => k = p) w w' → Post (PEnd ec eo) w') := fun ec eo w' hr ho => by
    rw [hPost, hr]; exact ⟨rfl, ho⟩
  have PG : Hid (∀ b r' v cs w', res = .ok b r' → cs.map Clx.pur = b → cs.length ≤ 512 → Grow elClx 78 w.heap.size w' v cs → Ahead w' p ao cap L c f r' → Only (fun k => k = p) w w' → Post (.returned (.agg #[v])) w') := fun b r' v cs w' hr h1 h2 h3 h4 h5 => by
    rw [hPost, hr]; exact ⟨v, cs, rfl, h1, h2, h3, h4, h5⟩
  have HC0 := hide (PrgAt.start h)
  have H0 := hide h
  clear hPost h hres
  go_enter Tryz.func31, Tryz.ntmps31
  go_wp2
  go_loopw [4] (fun _ wr => ∃ (n : Nat) (cs : List Clx) (R1 : List Tok) (v : Value), cs.length ≤ 512 ∧ R1.length < n ∧ Hid (PrgAt w wr p ao cap L c f R1 v cs) ∧ Hid (progF c f n (cs.map Clx.pur) R1 = res)) (fun _ wr => 70000 - (intOf ((wr.cell? ⟨p, 4, none⟩).getD undef)).toNat)
  case atStart => exact ⟨R.length + 1, [], R, _, by simp, by omega, HC0, HRes0⟩
  case round =>
    clear HC0 HRes0
    obtain ⟨n, cs, R1, v, hcs, hn, HC, HRes⟩ := hrel
    obtain ⟨n, rfl⟩ : ∃ m, n = m + 1 := ⟨n - 1, by omega⟩
    obtain ⟨va, vc, rfl, -⟩ := HC.out.col.gr.shape
    cases hT : takeP c f [1, 0] R1 with
    | bad ec eo =>
      have HT : Hid (∀ (W : World) (g : Nat), W.heap.size = g → Ahead W p ao cap L c f R1 → Calls Tryz.prog 36 #[.pointer (some ⟨p, 0, none⟩), .slice (some ⟨g, 0, none⟩) 2 2] (W.alloc (.cells #[.int .i64 1, .int .i64 0] 3)) fun e w' => e = PEnd ec eo ∧ Below W.heap.size W w') := fun W g hg ha => hg ▸ take_lit_fail [1, 0] ha (by decide) hT
      have HX : Hid (res = .bad ec eo) := by show _ = _; rw [← HRes.out]; exact prog_bad1 hT
      clear hT
      go_wp2_with (go_at_call 36; refine (HT.out _ _ rfl HC.out.col.ah).mono ?_; rintro e w1 ⟨rfl, hb1⟩)
      exact ⟨rfl, PB.out _ _ _ HX.out (HC.out.col.below hb1).end_⟩
    | ok t r1 =>
      have HT : Hid (∀ (W : World) (g : Nat), W.heap.size = g → Ahead W p ao cap L c f R1 → Calls Tryz.prog 36 #[.pointer (some ⟨p, 0, none⟩), .slice (some ⟨g, 0, none⟩) 2 2] (W.alloc (.cells #[.int .i64 1, .int .i64 0] 3)) fun e w' => e = .returned (tokV t) ∧ Ahead w' p ao cap L c f r1 ∧ Only (fun b => b = p) W w') := fun W g hg ha => hg ▸ take_lit_good [1, 0] ha (by decide) hT
      have htg : t.good := HC.out.col.ah.good t (by rw [(take_eq hT).1]; exact List.mem_cons_self)
      have l1 := take_len hT
      unfold tokV at HT
      by_cases h0 : t.k = 0
      · have e0 : (t.k == 0) = true := by simpa using h0
        have HX : Hid (res = .ok (cs.map Clx.pur) r1) := by show _ = _; rw [← HRes.out]; exact prog_end hT h0
        clear hT h0
        go_wp2_with (go_at_call 36; refine (HT.out _ _ rfl HC.out.col.ah).mono ?_; rintro e w1 ⟨rfl, ha1, ho1⟩; have HwR := hide ho1.size; have Hw1 := hide (Nat.le_trans HC.out.col.hi ho1.size); have HC1 := hide ((HC.out.move ho1 ha1).below (belowA w1 (.cells #[.int .i64 t.k, .string t.t, .int .i64 t.n, .int .i64 t.op, .int .i64 (t.off : Int), .int .i64 (t.en : Int)] 85))); clear ha1 ho1 HT; obtain ⟨q0, q1, q2, q3⟩ := HC1.out.cells)
        have hs := HC1.out.col.hi
        have ho2 : Only (fun k => k = w.heap.size) (w1.alloc (.cells #[.int .i64 t.k, .string t.t, .int .i64 t.n, .int .i64 t.op, .int .i64 (t.off : Int), .int .i64 (t.en : Int)] 85)) ((w1.alloc (.cells #[.int .i64 t.k, .string t.t, .int .i64 t.n, .int .i64 t.op, .int .i64 (t.off : Int), .int .i64 (t.en : Int)] 85)).setCell ⟨w.heap.size, 0, none⟩ (.slice va cs.length vc)) := (Only.refl (fun k => k = w.heap.size) _).setCell (p := ⟨w.heap.size, 0, none⟩) rfl _
        obtain ⟨z1, z2⟩ := fin_ahead H0.out HC1.out.col.ah HC1.out.col.on ho2 (Nat.le_refl _)
        refine bodyPost_ret (prgRes _ w.heap.size (.slice va cs.length vc) _ rfl (by have := HC1.out.b0; simp [World.setCell, Array.getElem?_modify, this])) rfl ?_
        exact PG.out _ _ _ _ _ HX.out rfl hcs ((HC1.out.col.gr.above fun b hb hlt => ho2.block b hlt (by omega)).mono (by omega)) z1 z2
      · have e0 : (t.k == 0) = false := by simpa using h0
        by_cases h512 : cs.length = 512
        · have HLm := hide (limit_eq (cs.length : Int) 512 24 (t.off : Int) (h := by omega))
          have HX : Hid (res = .bad 24 (t.off : Int)) := by show _ = _; rw [← HRes.out]; exact prog_lim hT h0 (by rw [List.length_map]; exact h512)
          clear hT h0 h512 hcs
          go_wp2_with (first
            | (go_at_call 36; refine (HT.out _ _ rfl HC.out.col.ah).mono ?_; rintro e w1 ⟨rfl, ha1, ho1⟩; have HwR := hide ho1.size; have Hw1 := hide (Nat.le_trans HC.out.col.hi ho1.size); have HC1 := hide ((HC.out.move ho1 ha1).below (belowA w1 (.cells #[.int .i64 t.k, .string t.t, .int .i64 t.n, .int .i64 t.op, .int .i64 (t.off : Int), .int .i64 (t.en : Int)] 85))); clear ha1 ho1 HT; obtain ⟨q0, q1, q2, q3⟩ := HC1.out.cells)
            | (go_at_call 44; refine (HLm.out _).mono ?_; rintro e w2 ⟨rfl, hw⟩; have hw := hw.symm; subst hw))
          exact ⟨rfl, PB.out _ _ _ HX.out HC1.out.col.end_⟩
        · have HLm := hide (limit_ok (cs.length : Int) 512 24 (t.off : Int) (h := by omega))
          have hcs5 : cs.length < 512 := by omega
          have HCl0 := fun (W : World) (ha : Ahead W p ao cap L c f r1) => clause_any t ha htg
          unfold tokV at HCl0
          cases hC : clauseP c f t r1 with
          | bad ec eo =>
            rw [hC] at HCl0
            have HCl := hide HCl0
            have HX : Hid (res = .bad ec eo) := by show _ = _; rw [← HRes.out]; exact prog_cls hT h0 (by rw [List.length_map]; exact h512) hC
            clear hT h0 h512 hC HCl0
            go_wp2_with (first
              | (go_at_call 36; refine (HT.out _ _ rfl HC.out.col.ah).mono ?_; rintro e w1 ⟨rfl, ha1, ho1⟩; have HwR := hide ho1.size; have Hw1 := hide (Nat.le_trans HC.out.col.hi ho1.size); have HC1 := hide ((HC.out.move ho1 ha1).below (belowA w1 (.cells #[.int .i64 t.k, .string t.t, .int .i64 t.n, .int .i64 t.op, .int .i64 (t.off : Int), .int .i64 (t.en : Int)] 85))); clear ha1 ho1 HT; obtain ⟨q0, q1, q2, q3⟩ := HC1.out.cells)
              | (go_at_call 44; refine (HLm.out _).mono ?_; rintro e w2 ⟨⟨v2, rfl⟩, hw⟩; have hw := hw.symm; subst hw))
            go_region_with (first
              | (go_at_call 49; refine (HCl.out _ (by first | exact HC1.out.col.ah.drew | exact HC1.out.col.ah)).mono ?_; intro e w3 hq; obtain ⟨rfl, ho3⟩ := clsPost_bad hq; clear hq; refine panic_ends (P := Tryz.prog) (w := w3) ⟨rfl, PB.out _ _ _ HX.out (by first | exact HC1.out.drew.col.endM ho3 | exact HC1.out.col.endM ho3)⟩ ?_))
            all_goals trivial
          | ok x r2 =>
            rw [hC] at HCl0
            have HCl := hide HCl0
            have l2 := clause_len hC
            have HX : Hid (progF c f n (cs.map Clx.pur ++ [x]) r2 = res) := by show _ = _; rw [← HRes.out]; exact (prog_more hT h0 (by rw [List.length_map]; exact h512) hC).symm
            have HLn : Hid (r2.length < R1.length ∧ r2.length < n) := ⟨by omega, by omega⟩
            obtain ⟨ix, isz⟩ := HC.out.col.ah.index
            have HIx := hide (And.intro ix isz)
            clear hT h0 h512 hC HCl0 l1 l2 ix isz
            go_wp2_with (first
              | (go_at_call 36; refine (HT.out _ _ rfl HC.out.col.ah).mono ?_; rintro e w1 ⟨rfl, ha1, ho1⟩; have HwR := hide ho1.size; have Hw1 := hide (Nat.le_trans HC.out.col.hi ho1.size); have HC1 := hide ((HC.out.move ho1 ha1).below (belowA w1 (.cells #[.int .i64 t.k, .string t.t, .int .i64 t.n, .int .i64 t.op, .int .i64 (t.off : Int), .int .i64 (t.en : Int)] 85))); clear ha1 ho1 HT; obtain ⟨q0, q1, q2, q3⟩ := HC1.out.cells)
              | (go_at_call 44; refine (HLm.out _).mono ?_; rintro e w2 ⟨⟨v2, rfl⟩, hw⟩; have hw := hw.symm; subst hw))
            obtain ⟨Z, hZ⟩ : ∃ Z, Z = w1.alloc (.cells #[.int .i64 t.k, .string t.t, .int .i64 t.n, .int .i64 t.op, .int .i64 (t.off : Int), .int .i64 (t.en : Int)] 85) := ⟨_, rfl⟩
            rw [← hZ] at HC1 ⊢
            have hTk : Z.heap[w1.heap.size]? = some (.cells #[.int .i64 t.k, .string t.t, .int .i64 t.n, .int .i64 t.op, .int .i64 (t.off : Int), .int .i64 (t.en : Int)] 85 (0, 0)) := by rw [hZ]; exact heap_alloc_new w1 _
            have hw1 : w.heap.size + 2 ≤ w1.heap.size := Hw1.out
            have HSof : Hid (∀ V : World, V.heap[w.heap.size + 1]? = some (.cells #[.slice va cs.length vc] 42 (0, 0)) → V.heap[w1.heap.size]? = some (.cells #[.int .i64 t.k, .string t.t, .int .i64 t.n, .int .i64 t.op, .int .i64 (t.off : Int), .int .i64 (t.en : Int)] 85 (0, 0)) → V.cell? ⟨w.heap.size + 1, 0, none⟩ = some (.slice va cs.length vc) ∧ V.cell? ⟨w1.heap.size, 0, none⟩ = some (.int .i64 t.k) ∧ V.cell? ⟨w1.heap.size, 1, none⟩ = some (.string t.t) ∧ V.cell? ⟨w1.heap.size, 2, none⟩ = some (.int .i64 t.n) ∧ V.cell? ⟨w1.heap.size, 3, none⟩ = some (.int .i64 t.op) ∧ V.cell? ⟨w1.heap.size, 4, none⟩ = some (.int .i64 (t.off : Int)) ∧ V.cell? ⟨w1.heap.size, 5, none⟩ = some (.int .i64 (t.en : Int))) := fun V h1 h2 => ⟨by simp [World.cell?, h1], tok_cells h2⟩
            have HTk := hide hTk
            clear hZ
            clear q0 q1 q2 q3
            refine wp_region_last (by kernel_rfl) (fun V => V.cell? ⟨w.heap.size + 1, 0, none⟩ = some (.slice va cs.length vc) ∧ V.cell? ⟨w1.heap.size, 0, none⟩ = some (.int .i64 t.k) ∧ V.cell? ⟨w1.heap.size, 1, none⟩ = some (.string t.t) ∧ V.cell? ⟨w1.heap.size, 2, none⟩ = some (.int .i64 t.n) ∧ V.cell? ⟨w1.heap.size, 3, none⟩ = some (.int .i64 t.op) ∧ V.cell? ⟨w1.heap.size, 4, none⟩ = some (.int .i64 (t.off : Int)) ∧ V.cell? ⟨w1.heap.size, 5, none⟩ = some (.int .i64 (t.en : Int))) 8 ?_
            have HS1 := HSof.out Z.drew HC1.out.drew.b1 hTk
            refine wpAnyM_take (i := 0) (v := ?_) rfl (by kernel_rfl) (by kernel_rfl) (by kernel_rfl) (by kernel_rfl) (fun _ _ _ h => h) HS1 (Or.inl ⟨by rfl, ?_⟩) ?_
            rotate_left
            · (intro w hSw; (try dsimp only at hSw); go_simp; try with_reducible rfl)
            simp only [Act.put, List.setIfInBounds_toArray, List.set_cons_zero, List.set_cons_succ]
            refine wpAnyM_take (i := 1) (v := ?_) rfl (by kernel_rfl) (by kernel_rfl) (by kernel_rfl) (by kernel_rfl) (fun _ _ _ h => h) HS1 (Or.inl ⟨by rfl, ?_⟩) ?_
            rotate_left
            · (intro w hSw; (try dsimp only at hSw); go_simp; try with_reducible rfl)
            simp only [Act.put, List.setIfInBounds_toArray, List.set_cons_zero, List.set_cons_succ]
            refine wpAnyM_take (i := 2) (v := ?_) rfl (by kernel_rfl) (by kernel_rfl) (by kernel_rfl) (by kernel_rfl) (fun _ _ _ h => h) HS1 (Or.inl ⟨by rfl, ?_⟩) ?_
            rotate_left
            · (intro w hSw; (try dsimp only at hSw); go_simp; try with_reducible rfl)
            simp only [Act.put, List.setIfInBounds_toArray, List.set_cons_zero, List.set_cons_succ]
            refine wpAnyM_take (i := 3) (v := ?_) rfl (by kernel_rfl) (by kernel_rfl) (by kernel_rfl) (by kernel_rfl) (fun _ _ _ h => h) HS1 (Or.inl ⟨by rfl, ?_⟩) ?_
            rotate_left
            · (intro w hSw; (try dsimp only at hSw); go_simp; try with_reducible rfl)
            simp only [Act.put, List.setIfInBounds_toArray, List.set_cons_zero, List.set_cons_succ]
            refine wpAnyM_one (i := 4) (by kernel_rfl) rfl (fun K hK => ?_)
            go_simp
            refine (HCl.out _ HC1.out.drew.col.ah).mono ?_
            intro e w3 hq
            obtain ⟨⟨⟨ap, av, aoff, ats⟩, bv, ls⟩, rfl, hpur, hok, ha3, ho3⟩ := clsPost_ok hq
            clear hq
            obtain ⟨xa, xc, rfl, -⟩ := (show Lst elTrm _ _ av ats from hok.1.2.2).shape
            obtain ⟨ba, bc, rfl, -⟩ := (show Lst elLix _ _ bv ls from hok.2).shape
            have HC3 := hide (HC1.out.drew.move ho3 ha3)
            have HOk3 := HC1.out.drew.col.gr.behind HC1.out.drew.col.hi elClx hok
            have hTk3 : w3.heap[w1.heap.size]? = some (.cells #[.int .i64 t.k, .string t.t, .int .i64 t.n, .int .i64 t.op, .int .i64 (t.off : Int), .int .i64 (t.en : Int)] 85 (0, 0)) := box_moved (W := Z.drew) hTk (by have := HC1.out.col.pl; omega) ho3
            have HPu := hide hpur
            have HOk4 := hide (elClx.move HOk3 fun b hlt hF => ⟨hF, (belowA w3 (.cells #[.string ap, .slice xa ats.length xc, .int .i64 aoff, .slice ba ls.length bc] 78)).block b hlt⟩)
            have HC4 := hide (HC3.out.below (belowA w3 (.cells #[.string ap, .slice xa ats.length xc, .int .i64 aoff, .slice ba ls.length bc] 78)))
            have hlt3 := (Array.getElem?_eq_some_iff.1 hTk3).1
            have hTk4 : (w3.alloc (.cells #[.string ap, .slice xa ats.length xc, .int .i64 aoff, .slice ba ls.length bc] 78)).heap[w1.heap.size]? = some (.cells #[.int .i64 t.k, .string t.t, .int .i64 t.n, .int .i64 t.op, .int .i64 (t.off : Int), .int .i64 (t.en : Int)] 85 (0, 0)) := by rw [(belowA w3 (.cells #[.string ap, .slice xa ats.length xc, .int .i64 aoff, .slice ba ls.length bc] 78)).block _ hlt3]; exact hTk3
            clear hpur hok ha3 ho3 HOk3
            unfold Clx.val
            have HS3 := HSof.out w3 HC3.out.b1 hTk3
            refine hK.out _ _ HS3 (fun _ => ?_)
            clear hK K HS1
            try simp only [Act.put, List.setIfInBounds_toArray, List.set_cons_zero, List.set_cons_succ]
            refine wpAnyM_one (i := 5) (by kernel_rfl) rfl (fun K hK => ?_)
            go_simp
            have HS4 := HSof.out _ HC4.out.b1 hTk4
            refine hK.out _ _ HS4 (fun _ => ?_)
            clear hK K HS3
            refine wpAnyM_one (i := 6) (by kernel_rfl) rfl (fun K hK => ?_)
            obtain ⟨i0, hi0, hz0, hz1, hz2⟩ := info_parts Tryz.infoCls
            refine step_push (w0 := w3.alloc (.cells #[.string ap, .slice xa ats.length xc, .int .i64 aoff, .slice ba ls.length bc] 78)) elClx (by rfl) _ _ _ (by rfl) (w.heap.size + 2) 78 i0 _ 72 Tryz.underlying40 hi0 hz0 hz1 hz2 rfl (by decide) (.slice va cs.length vc) cs cs.length rfl (by rfl) HC4.out.col.gr ⟨⟨ap, .slice xa ats.length xc, aoff, ats⟩, .slice ba ls.length bc, ls⟩ w3.heap.size 1 (by rfl) (fun j u hu => new_cells (cs := #[.string ap, .slice xa ats.length xc, .int .i64 aoff, .slice ba ls.length bc]) j u hu) HOk4.out (by omega) (Below.refl _ _) HC4.out.col.hi ?_
            intro g cap' w5 HG5 HB5 HGr
            clear HB5 hi0 hz0 hz1 hz2 i0
            have hb5 := HC4.out.far HGr.out
            have hTk5 : w5.heap[w1.heap.size]? = some (.cells #[.int .i64 t.k, .string t.t, .int .i64 t.n, .int .i64 t.op, .int .i64 (t.off : Int), .int .i64 (t.en : Int)] 85 (0, 0)) := by rw [HGr.out.block w1.heap.size (by have := (belowA w3 (.cells #[.string ap, .slice xa ats.length xc, .int .i64 aoff, .slice ba ls.length bc] 78)).size; omega) (fun e => by have := own_lt6 HC.out.col.gr.1 _ e.symm; have := HwR.out; omega)]; exact hTk4
            have HS5 := HSof.out w5 hb5 hTk5
            have HC5 := hide (HC4.out.push HGr.out HG5.out)
            refine hK.out _ _ HS5 (fun _ => ?_)
            clear hK K HS4 HSof HOk4 HC4 HC3 HGr HG5
            have c5 : w5.cell? ⟨w.heap.size + 1, 0, none⟩ = some (.slice va cs.length vc) := by simp [World.cell?, hb5]
            have z5 : w5.frozen? ⟨w.heap.size + 1, 0, none⟩ = false := by simp [World.frozen?, hb5]
            clear hb5 hTk5 hTk4 hTk3 hTk hlt3
            try simp only [Act.put, List.setIfInBounds_toArray, List.set_cons_zero, List.set_cons_succ]
            refine wpAnyM_take (i := 7) (v := ?_) rfl (by kernel_rfl) (by kernel_rfl) (by kernel_rfl) (by kernel_rfl) (fun _ _ _ h => h) HS5 (Or.inl ⟨by rfl, ?_⟩) ?_
            rotate_left
            · (intro w hSw; (try dsimp only at hSw); go_simp; try with_reducible rfl)
            simp only [Act.put, List.setIfInBounds_toArray, List.set_cons_zero, List.set_cons_succ]
            clear HS5
            refine wpAnyM_end (by kernel_rfl) rfl (by kernel_rfl) (fun K hK => ?_)
            go_simp
            refine hK.out _ _ ?_
            clear hK K
            go_wp2
            go_roundw
            case rel => exact ⟨n, cs ++ [⟨⟨ap, .slice xa ats.length xc, aoff, ats⟩, .slice ba ls.length bc, ls⟩], r2, _, by simp; omega, HLn.out.2, HC5, by show _ = _; rw [List.map_append, List.map_singleton, HPu.out]; exact HX.out⟩
            case measure =>
              obtain ⟨jx, -⟩ := HC5.out.col.ah.index
              have h1 := HLn.out
              have h2 := HIx.out
              omega
end Go.Proofs.YtmdhjggijlhhgaaGreatDoor

namespace Go.Proofs.YtmdhjggijlhhgaaGreatDoor
set_option linter.unusedSimpArgs false
set_option linter.unusedVariables false
open Go.RowKit

theorem rpRes (W : World) (a b : Nat) (v u0 u1 u2 : Value) (tmps : Array Value) (h2 : tmps[2]? = some (.pointer (some ⟨a, 0, none⟩))) (h3 : tmps[3]? = some (.pointer (some ⟨b, 0, none⟩))) (ha : W.heap[a]? = some (.cells #[v] 42 (0, 0))) (hb : W.heap[b]? = some (.cells #[u0, u1, u2] 27 (0, 0))) :
    (results Tryz.f17 tmps).run Tryz.prog W = .ok (.tuple #[.agg #[v], .agg #[u0, u1, u2]]) W := by
  obtain ⟨⟨c0, c1, c2⟩, -⟩ := chk3_cells hb
  have d0 : W.cell? ⟨a, 0, none⟩ = some v := by simp [World.cell?, ha]
  simp [results, Tryz.results17, go_sem, h2, h3, c0, c1, c2, d0]
/-- The two boxes of the answer, not yet written. -/
structure PB2 (w W : World) : Prop where
  fb : FB w W (w.heap.size + 1)
  pb : W.heap[w.heap.size]? = some (.cells #[.slice none 0 0] 42 (0, 0))
theorem PB2.kept {w W W' : World} (h : PB2 w W) (hb : Below W.heap.size W W') : PB2 w W' :=
  ⟨h.fb.kept hb, by rw [hb.block _ (Array.getElem?_eq_some_iff.1 h.pb).1]; exact h.pb⟩
theorem PB2.start (w : World) : PB2 w ((w.alloc (.cells #[.slice none 0 0] 42)).alloc (.cells #[.int .i64 0, .int .i64 0, .int .i64 0] 27)) := by
  refine ⟨⟨below2a w _ _, ?_, by omega⟩, ?_⟩
  · have := heap_alloc_new (w.alloc (.cells #[.slice none 0 0] 42)) (.cells #[.int .i64 0, .int .i64 0, .int .i64 0] 27)
    simpa using this
  · rw [(belowA (w.alloc _) _).block _ (by simp)]; exact heap_alloc_new w _
theorem PB2.lt {w W : World} (h : PB2 w W) : w.heap.size + 2 ≤ W.heap.size := (Array.getElem?_eq_some_iff.1 h.fb.bx).1
theorem PB2.only {w W W' : World} {bp : Nat} (h : PB2 w W) (ho : Only (fun k => k = bp) W W') (hbp : w.heap.size + 2 ≤ bp) : PB2 w W' :=
  ⟨⟨h.fb.hb.trans (ho.below h.fb.hb.size (fun k hk e => by omega)), by rw [ho.block _ (Array.getElem?_eq_some_iff.1 h.fb.bx).1 (by omega)]; exact h.fb.bx, h.fb.ge⟩, by rw [ho.block _ (Array.getElem?_eq_some_iff.1 h.pb).1 (by omega)]; exact h.pb⟩
theorem PB2.cells {w W : World} (h : PB2 w W) : W.cell? ⟨w.heap.size, 0, none⟩ = some (.slice none 0 0) ∧ W.frozen? ⟨w.heap.size, 0, none⟩ = false := by
  refine ⟨?_, ?_⟩ <;> simp [World.cell?, World.frozen?, h.pb]
theorem PB2.fin {w W : World} (h : PB2 w W) (v : Value) (x o : Int) :
    ((((W.setCell ⟨w.heap.size, 0, none⟩ v).setCell ⟨w.heap.size + 1, 0, none⟩ (.int .i64 x)).setCell ⟨w.heap.size + 1, 1, none⟩ (.int .i64 0)).setCell ⟨w.heap.size + 1, 2, none⟩ (.int .i64 o)).heap[w.heap.size]? = some (.cells #[v] 42 (0, 0)) ∧
    ((((W.setCell ⟨w.heap.size, 0, none⟩ v).setCell ⟨w.heap.size + 1, 0, none⟩ (.int .i64 x)).setCell ⟨w.heap.size + 1, 1, none⟩ (.int .i64 0)).setCell ⟨w.heap.size + 1, 2, none⟩ (.int .i64 o)).heap[w.heap.size + 1]? = some (.cells #[.int .i64 x, .int .i64 0, .int .i64 o] 27 (0, 0)) ∧
    Below w.heap.size w ((((W.setCell ⟨w.heap.size, 0, none⟩ v).setCell ⟨w.heap.size + 1, 0, none⟩ (.int .i64 x)).setCell ⟨w.heap.size + 1, 1, none⟩ (.int .i64 0)).setCell ⟨w.heap.size + 1, 2, none⟩ (.int .i64 o)) ∧
    Only (fun k => k = w.heap.size ∨ k = w.heap.size + 1) W ((((W.setCell ⟨w.heap.size, 0, none⟩ v).setCell ⟨w.heap.size + 1, 0, none⟩ (.int .i64 x)).setCell ⟨w.heap.size + 1, 1, none⟩ (.int .i64 0)).setCell ⟨w.heap.size + 1, 2, none⟩ (.int .i64 o)) := by
  have ho : Only (fun k => k = w.heap.size ∨ k = w.heap.size + 1) W ((((W.setCell ⟨w.heap.size, 0, none⟩ v).setCell ⟨w.heap.size + 1, 0, none⟩ (.int .i64 x)).setCell ⟨w.heap.size + 1, 1, none⟩ (.int .i64 0)).setCell ⟨w.heap.size + 1, 2, none⟩ (.int .i64 o)) := ((((Only.refl (fun k => k = w.heap.size ∨ k = w.heap.size + 1) W).setCell (p := ⟨w.heap.size, 0, none⟩) (.inl rfl) _).setCell (p := ⟨w.heap.size + 1, 0, none⟩) (.inr rfl) _).setCell (p := ⟨w.heap.size + 1, 1, none⟩) (.inr rfl) _).setCell (p := ⟨w.heap.size + 1, 2, none⟩) (.inr rfl) _
  exact ⟨by simp [World.setCell, Array.getElem?_modify, h.pb], by simp [World.setCell, Array.getElem?_modify, h.fb.bx], h.fb.hb.trans (ho.below h.fb.hb.size (fun k hk e => by omega)), ho⟩

set_option maxRecDepth 100000 in
set_option maxHeartbeats 4000000 in
theorem rprog_bad (s : ByteArray) (w : World) (hs : s.size ≤ 140737488351232) {x o : Int} (hC : chkR (scanX s).2.1 ((scanX s).2.2 : Int) 0 0 ⟨0, 0, 0⟩ (scanX s).1 = .bad x o) :
    Calls Tryz.prog 17 #[.string s] w fun e w' => e = .returned (.tuple #[.agg #[.slice none 0 0], faultV x o]) ∧ Below w.heap.size w w' := by
  have h0 := fun W => check_any s 0 W hs
  simp only [hC] at h0
  have HC := hide h0
  have hx : (x != 0) = true := by simpa using chk_ne _ _ _ _ _ hC
  clear hC h0 hs
  go_enter Tryz.func17, Tryz.ntmps17
  go_upto_region 2 with (go_at_call 21; refine (HC.out _).mono ?_; intro e w1 hq; obtain ⟨rfl, hb1⟩ := chkPost_bad hq; have HF1 := hide ((PB2.start w).kept hb1); clear hq hb1)
  obtain ⟨Y, hY⟩ : ∃ Y, Y = w1.alloc (.cells #[.int .i64 x, .int .i64 0, .int .i64 o] 27) := ⟨_, rfl⟩
  have HFY : Hid (PB2 w Y) := by rw [hY]; exact HF1.out.kept (belowA _ _)
  have hG : Y.heap[w1.heap.size]? = some (.cells #[.int .i64 x, .int .i64 0, .int .i64 o] 27 (0, 0)) := by rw [hY]; exact heap_alloc_new w1 _
  obtain ⟨⟨q0, q1, q2⟩, -⟩ := chk3_cells hG
  obtain ⟨⟨p0, p1, p2⟩, f0, f1, f2⟩ := chk3_cells HFY.out.fb.bx
  obtain ⟨k0, z0⟩ := HFY.out.cells
  have n1 : ¬ w.heap.size = w1.heap.size := by have := HF1.out.lt; omega
  have n2 : ¬ w.heap.size + 1 = w1.heap.size := by have := HF1.out.lt; omega
  rw [← hY]
  clear hY hG HF1
  go_wp2
  go_region
  go_wp2
  exact bodyPost_ret (rpRes _ w.heap.size (w.heap.size + 1) (.slice none 0 0) (.int .i64 x) (.int .i64 0) (.int .i64 o) _ rfl rfl (HFY.out.fin (.slice none 0 0) x o).1 (HFY.out.fin (.slice none 0 0) x o).2.1) rfl ⟨rfl, (HFY.out.fin (.slice none 0 0) x o).2.2.1.drew⟩

/-- The program's box and its clauses so far. -/
structure PgAt (w2 wl : World) (bp : Nat) (v : Value) (cs : List Clx) : Prop where
  on : Only (fun k => k = bp) w2 wl
  pb : wl.heap[bp]? = some (.cells #[v] 42 (0, 0))
  gr : Grow elClx 78 w2.heap.size wl v cs
  lt : bp < w2.heap.size
section
variable {w2 wl wl' : World} {bp : Nat} {v v' : Value} {cs cs' : List Clx}
theorem PgAt.kept (h : PgAt w2 wl bp v cs) (hb : Below wl.heap.size wl wl') : PgAt w2 wl' bp v cs :=
  ⟨h.on.trans (Only.of_below hb _), by rw [hb.block _ (Array.getElem?_eq_some_iff.1 h.pb).1]; exact h.pb, h.gr.kept hb, h.lt⟩
theorem PgAt.only (h : PgAt w2 wl bp v cs) {b : Nat} {N : Nat} (ho : Only (fun k => k = b) wl wl') (hb : N ≤ b) (hN : wl.heap.size ≤ N) : PgAt w2 wl' bp v cs := h.kept (ho.below (Nat.le_refl _) (fun k hk e => by omega))
theorem PgAt.far (h : PgAt w2 wl bp v cs) (hg : wl.grownBy wl' v.ownBlock) : wl'.heap[bp]? = some (.cells #[v] 42 (0, 0)) := by
  have ho : Only (fun k => w2.heap.size ≤ k) wl wl' := (Only.refl _ wl).grown hg (fun k hk _ => own_new h.gr.1 k hk)
  have := h.lt
  rw [ho.block _ (Array.getElem?_eq_some_iff.1 h.pb).1 (by omega)]; exact h.pb
theorem PgAt.push (h : PgAt w2 wl bp v cs) (hg : wl.grownBy wl' v.ownBlock) (hG : Grow elClx 78 w2.heap.size wl' v' cs') : PgAt w2 (wl'.setCell ⟨bp, 0, none⟩ v') bp v' cs' := by
  have hl := h.lt
  have hs := h.on.size
  have ho : Only (fun k => w2.heap.size ≤ k) wl wl' := (Only.refl _ wl).grown hg (fun k hk _ => own_new h.gr.1 k hk)
  have ho2 : Only (fun k => k = bp) wl' (wl'.setCell ⟨bp, 0, none⟩ v') := (Only.refl (fun k => k = bp) wl').setCell (p := ⟨bp, 0, none⟩) rfl _
  refine ⟨?_, ?_, hG.above fun b hb hlt => ho2.block b hlt (by omega), hl⟩
  · have h3 : Only (fun k => k = bp) w2 wl' := ⟨ho.os.trans h.on.os, ho.tape.trans h.on.tape, ho.output.trans h.on.output, Nat.le_trans h.on.size ho.size, fun k hk hne => (ho.block k (Nat.lt_of_lt_of_le hk hs) (by omega)).trans (h.on.block k hk hne)⟩
    exact h3.trans ho2
  · have := h.far hg
    simp [World.setCell, Array.getElem?_modify, this]
theorem PgAt.start (w2 : World) (h : w2.heap[bp]? = some (.cells #[.slice none 0 0] 42 (0, 0))) : PgAt w2 w2 bp (.slice none 0 0) [] :=
  ⟨Only.refl _ _, h, Grow.nil _ _ _ _, (Array.getElem?_eq_some_iff.1 h).1⟩
end
theorem cls4_cells {V : World} {b : Nat} {u0 u1 u2 u3 : Value} (h : V.heap[b]? = some (.cells #[u0, u1, u2, u3] 78 (0, 0))) : (V.cell? ⟨b, 0, none⟩ = some u0 ∧ V.cell? ⟨b, 1, none⟩ = some u1 ∧ V.cell? ⟨b, 2, none⟩ = some u2 ∧ V.cell? ⟨b, 3, none⟩ = some u3) ∧ V.frozen? ⟨b, 3, none⟩ = false := by
  refine ⟨⟨?_, ?_, ?_, ?_⟩, ?_⟩ <;> simp [World.cell?, World.frozen?, h]

set_option maxRecDepth 100000 in
set_option maxHeartbeats 4000000 in
theorem rprog_ok (s : ByteArray) (w : World) (hs : s.size ≤ 140737488351232) {u : Unit} {r : List Tok} (hC : chkR (scanX s).2.1 ((scanX s).2.2 : Int) 0 0 ⟨0, 0, 0⟩ (scanX s).1 = .ok u r) {S : List (List Tok)} {last : List Tok} (hcut : cutF 8 0 [] [] (scanX s).1 = S ++ [last]) (hB : ∀ P ∈ S, ClsOk P) :
    Calls Tryz.prog 17 #[.string s] w fun e w' => ∃ bv, e = .returned (.tuple #[.agg #[bv], faultV 0 0]) ∧ ∃ cs, cs.map Clx.pur = S.map clsR ∧ Lst elClx w' (fun b => w.heap.size ≤ b) bv cs ∧ Below w.heap.size w w' := by
  have h0 := fun W => check_any s 0 W hs
  simp only [hC] at h0
  have HC := hide h0
  obtain ⟨-, hlen⟩ := scan_good s
  have HX : Hid (∀ ps : List (Value × List Tok), ps.map Prod.snd = (cutF 8 0 [] [] (scanX s).1).dropLast → ps.length ≤ 65539 ∧ (∀ p ∈ ps, p.2.length ≤ 65538 ∧ ClsOk p.2) ∧ S.map clsR = ps.map (fun p => clsR p.2)) := fun ps hp => by
    have hl := cut_len 8 (scanX s).1 0 [] []
    rw [hcut] at hp hl
    rw [List.dropLast_concat] at hp
    have h3 := congrArg List.length hp
    rw [List.length_map] at h3
    simp only [List.length_append, List.length_nil, List.length_singleton] at hl
    refine ⟨by omega, fun p hpm => ?_, by rw [← hp, List.map_map]; rfl⟩
    have hm : p.2 ∈ S := by rw [← hp]; exact List.mem_map_of_mem hpm
    exact ⟨cutL_sum 8 (scanX s).1 0 [] [] 65538 (by simp) (by simp; omega) _ (by rw [hcut]; exact List.mem_append_left _ hm), hB _ hm⟩
  generalize (scanX s).1 = L at *
  clear hC h0 hs hcut hB
  go_enter Tryz.func17, Tryz.ntmps17
  go_upto_region 2 with (go_at_call 21; refine (HC.out _).mono ?_; intro e w1 hq; obtain ⟨v, rfl, hls, hb1⟩ := chkPost_ok hq; have HF1 := hide ((PB2.start w).kept hb1); obtain ⟨va, vc, rfl, -⟩ := hls.shape; have HL1 := hide hls.all; clear hq hb1 hls)
  obtain ⟨Y, hY⟩ : ∃ Y, Y = w1.alloc (.cells #[.int .i64 0, .int .i64 0, .int .i64 0] 27) := ⟨_, rfl⟩
  have HFY : Hid (PB2 w Y) := by rw [hY]; exact HF1.out.kept (belowA _ _)
  have HLY : Hid (Has elTok Y (.slice va L.length vc) L) := by rw [hY]; exact HL1.out.kept (belowA _ _)
  have hG : Y.heap[w1.heap.size]? = some (.cells #[.int .i64 0, .int .i64 0, .int .i64 0] 27 (0, 0)) := by rw [hY]; exact heap_alloc_new w1 _
  obtain ⟨⟨q0, q1, q2⟩, -⟩ := chk3_cells hG
  have HSn := hide (sentences_any (HLY.out.kept (belowA Y (.cells #[.slice none 0 0] 42))) (by omega))
  have HFZ := hide (HFY.out.kept (belowA Y (.cells #[.slice none 0 0] 42)))
  have HBp := hide (heap_alloc_new Y (.cells #[.slice none 0 0] 42))
  have HLt := hide HFY.out.lt
  rw [← hY]
  clear hY hG HF1 HL1 HC HFY HLY
  go_wp2_with (go_at_call 25; refine HSn.out.mono ?_; intro e w2 hq; obtain ⟨tv, rfl, ps, hl, hp, hb⟩ := hq; obtain ⟨x1, x2, x3⟩ := HX.out ps hp; obtain ⟨ta, tc, rfl, -⟩ := hl.shape; have HG := hide hl; have HP := hide x3; have HO := hide x2; have HF2 := hide (HFZ.out.kept hb); have HP0 := hide (PgAt.start (bp := Y.heap.size) w2 (by rw [hb.block _ (by simp)]; exact HBp.out)); clear hp hl hb x3 x2)
  obtain ⟨m, hm⟩ : ∃ m, m = ps.length := ⟨_, rfl⟩
  rw [← hm] at x1 HG
  try rw [← hm]
  have HM := hide hm
  clear hm HX HSn HFZ HBp q0 q1 q2
  have HG' : Hid (Lst elTL w2 (fun b => Y.heap.size + 1 ≤ b) (.slice ta m tc) ps) := HG.out.move fun b hb hF => ⟨by have h9 : (Y.alloc (.cells #[.slice none 0 0] 42)).heap.size ≤ b := hF; simp at h9; omega, rfl⟩
  clear HG
  have HG := HG'
  clear HG'
  generalize Y.heap.size = bp at *
  go_loopw [24] (fun i wl => ∃ (j : Nat) (cs : List Clx) (oa : Option Addr) (oc : Nat), j ≤ m ∧ i = .int .i64 j ∧ Hid (cs.length = j) ∧ Hid (cs.map Clx.pur = (ps.take j).map (fun p => clsR p.2)) ∧ Hid (PgAt w2 wl bp (.slice oa j oc) cs)) (fun i _ => m - (intOf i).toNat)
  case atStart => exact ⟨0, [], none, 0, by omega, rfl, rfl, rfl, HP0⟩
  case round =>
    clear HP0
    obtain ⟨j, cs, oa, oc, hj, rfl, HLn, HLs, HPg⟩ := hrel
    have HGl : Hid (Lst elTL wr (fun b => bp + 1 ≤ b) (.slice ta m tc) ps) := HG.out.move fun b hb hF => ⟨hF, HPg.out.on.block b hb (by have h9 : bp + 1 ≤ b := hF; omega)⟩
    by_cases hlt : j < m
    · have hi : (j : Int) < (m : Int) := by omega
      have hi0 : (0 : Int) ≤ (j : Int) := by omega
      obtain ⟨p, hp⟩ : ∃ p, ps[j]? = some p := ⟨_, List.getElem?_eq_getElem (by rw [← HM.out]; exact hlt)⟩
      obtain ⟨pl, po⟩ := HO.out p (List.mem_of_getElem? hp)
      have hpk := HGl.out.ok (List.mem_of_getElem? hp)
      obtain ⟨b3, o3, rfl, -, -, hr3⟩ := HGl.out.row (by rw [← HM.out]; omega)
      have y0 := hr3 j _ hp 0 _ rfl
      obtain ⟨pv, pt⟩ := p
      have HCt := hide (cut_any 9 (show Lst elTok wr _ pv pt from hpk).all (by simp only at pl; omega))
      have HSn : Hid ((ps.take (j + 1)).map (fun p => clsR p.2) = (ps.take j).map (fun p => clsR p.2) ++ [clsR pt]) := take_map_snoc (f := fun p : Value × List Tok => clsR p.2) hp
      obtain ⟨pa, pc, rfl, -⟩ := (show Lst elTok wr _ pv pt from hpk).shape
      simp only [elTL, Nat.add_zero, Nat.mul_one] at y0
      have HX2 : Hid (∀ qs : List (Value × List Tok), qs.map Prod.snd = cutF 9 0 [] [] pt → qs.length ≤ 70000 ∧ (∀ p ∈ qs, p.2.length ≤ 100000) ∧ ∃ qa qP qr, qs = (qa, qP) :: qr ∧ qP ≠ [] ∧ clsR pt = ⟨atomR qP, if qr.length = 1 then bodyR ((qr.map Prod.snd).getD 0 []) else []⟩ ∧ (qr.length = 1 → BodyOk ((qr.map Prod.snd).getD 0 []))) := fun qs hq => by
        have hl := cut_len 9 pt 0 [] []
        have h3 := congrArg List.length hq
        rw [List.length_map] at h3
        simp only [List.length_nil] at hl
        simp only at pl
        have hne := cut_ne 9 pt 0 [] []
        refine ⟨by omega, fun p hpm => cutL_sum 9 pt 0 [] [] 100000 (by simp) (by simp; omega) _ (by rw [← hq]; exact List.mem_map_of_mem hpm), ?_⟩
        match qs, hq, h3 with
        | [], hq, _ => exact absurd hq.symm hne
        | (qa, qP) :: qr, hq, h3 =>
          obtain ⟨c1, c2⟩ := po
          have e : clsR pt = ⟨atomR qP, if (qr.length + 1) = 2 then bodyR ((qr.map Prod.snd).getD 0 []) else []⟩ := by unfold clsR; rw [← hq]; simp
          rw [← hq] at c1 c2
          exact ⟨qa, qP, qr, rfl, by simpa using c1, by rw [e]; simp, fun h => by simpa [h] using c2 (by simp [h])⟩
      clear hr3 hp hpk pl po
      have hjm : j + 1 < 1073741824 := by omega
      go_upto_region 9 with (go_at_call 32; refine HCt.out.mono ?_; intro e w3 hq; obtain ⟨tv, rfl, qs, hg, hq', hb⟩ := hq; obtain ⟨qb, qc, rfl, -⟩ := hg.shape; have HQg := hide hg; have HQe := hide hq'; have HB3 := hide hb; clear hg hq' hb)
      obtain ⟨z1, z2, qa, qP, qr, rfl, z3, z4, z5⟩ := HX2.out qs HQe.out
      have hl := HQg.out.new (by omega)
      obtain ⟨b4, o4, rfl, -, -, hr4⟩ := hl.row (by simp)
      have y1 := hr4 0 _ rfl 0 _ rfl
      have hpk := hl.ok (x := (qa, qP)) (by simp)
      have HAt := hide (ratom_ne (show Lst elTok w3 _ qa qP from hpk).all (z2 (qa, qP) (by simp)) z3)
      obtain ⟨qpa, qpc, rfl, -⟩ := (show Lst elTok w3 _ qa qP from hpk).shape
      simp only [elTL, Nat.add_zero, Nat.zero_mul] at y1
      have HPg3 := hide (HPg.out.kept HB3.out)
      have HQl := hide hl
      have HQc := hide z4
      have HQo := hide z5
      have HQs := hide z2
      clear z2 z3 z4 z5 hl hr4 hpk HQe HX2 HCt
      simp only [List.length_cons]
      have hqlen : ((qr.length : Int) + 1 == 2) = true ∨ ((qr.length : Int) + 1 == 2) = false := by cases ((qr.length : Int) + 1 == 2) <;> simp
      rcases hqlen with hq2 | hq2
      · have hq1 : qr.length = 1 := by have := beq_iff_eq.1 hq2; omega
        obtain ⟨⟨q2v, qQ⟩, rfl⟩ : ∃ z, qr = [z] := List.length_eq_one_iff.1 hq1
        have hpk := HQl.out.ok (x := (q2v, qQ)) (by simp)
        have y2 : w3.cell? ⟨b4, o4 + 1, none⟩ = some q2v := by
          obtain ⟨b5, o5, e5, -, -, hr5⟩ := HQl.out.row (by simp)
          have := hr5 1 (q2v, qQ) rfl 0 _ rfl
          cases e5
          simpa [elTL] using this
        have HQ2 := hide (show Lst elTok w3 _ q2v qQ from hpk)
        have HQL2 := hide (HQs.out (q2v, qQ) (by simp))
        have HBo : Hid (BodyOk qQ) := by have := HQo.out rfl; show BodyOk qQ; simpa using this
        have HQd : Hid (clsR pt = ⟨atomR qP, bodyR qQ⟩) := by have := HQc.out; show _ = _; simpa using this
        obtain ⟨q2a, q2c, rfl, -⟩ := (show Lst elTok w3 _ q2v qQ from hpk).shape
        clear hpk HQo HQc hq1 HQs
        go_upto_region 11 with (go_at_call 22; refine HAt.out.mono ?_; intro e w4 hq; obtain ⟨⟨ap, av, aoff, ats⟩, rfl, hpur, hok, hb4⟩ := hq; obtain ⟨xa, xc, rfl, -⟩ := (show Lst elTrm _ _ av ats from hok.2.2).shape; have HPu := hide hpur; have HOk4 := hide hok; have HB4 := hide hb4; unfold Atx.val; clear hpur hok hb4)
        obtain ⟨Z, hZ⟩ : ∃ Z, Z = w4.alloc (.cells #[.string ap, .slice xa ats.length xc, .int .i64 aoff, .slice none 0 0] 78) := ⟨_, rfl⟩
        have HBZ : Hid (Below wr.heap.size wr Z) := by rw [hZ]; exact belowt2 (belowt2 HB3.out HB4.out) (belowA _ _)
        have HB3Z : Hid (Below w3.heap.size w3 Z) := by rw [hZ]; exact belowt2 HB4.out (belowA _ _)
        have y3 := kept_cell HB3Z.out y2
        have HCZ : Hid (Z.heap[w4.heap.size]? = some (.cells #[.string ap, .slice xa ats.length xc, .int .i64 aoff, .slice none 0 0] 78 (0, 0))) := by rw [hZ]; exact heap_alloc_new w4 _
        have HBd := hide (rbody_any (HQ2.out.all.kept HB3Z.out) HQL2.out HBo.out)
        have HOkZ : Hid (elAtx.ok Z (fun b => wr.heap.size ≤ b ∧ b < w4.heap.size) ⟨ap, .slice xa ats.length xc, aoff, ats⟩) := by
          have hs3 := HB3.out.size
          exact elAtx.move HOk4.out fun b hlt hF => ⟨⟨by have h9 : w3.heap.size ≤ b := hF; omega, hlt⟩, by rw [hZ]; exact (belowA w4 _).block b hlt⟩
        have hZs : Z.heap.size = w4.heap.size + 1 := by rw [hZ]; simp
        have h43 : wr.heap.size ≤ w4.heap.size := Nat.le_trans HB3.out.size HB4.out.size
        have HZs := hide hZs
        have H43 := hide h43
        rw [← hZ]
        clear hZ y1 y2 HOk4 HAt HQl HQg HQ2 HPg3 hZs h43
        go_upto_region 12 with (go_at_call 29; refine HBd.out.mono ?_; intro e w5 hq; obtain ⟨bv, rfl, ls, hpur, hls, hb5⟩ := hq; obtain ⟨ba, bcp, rfl, -⟩ := hls.shape; have HPuB := hide hpur; have HLsB := hide hls; have HB5 := hide hb5; have hC5 : w5.heap[w4.heap.size]? = some (.cells #[.string ap, .slice xa ats.length xc, .int .i64 aoff, .slice none 0 0] 78 (0, 0)) := ((hb5.block _ (Array.getElem?_eq_some_iff.1 HCZ.out).1).trans HCZ.out); obtain ⟨⟨-, -, -, e3⟩, e4⟩ := cls4_cells hC5; have HC5 := hide hC5; clear hpur hls hb5 hC5)
        obtain ⟨V, hV⟩ : ∃ V, V = w5.setCell ⟨w4.heap.size, 3, none⟩ (.slice ba ls.length bcp) := ⟨_, rfl⟩
        have hoV : Only (fun k => k = w4.heap.size) w5 V := by rw [hV]; exact (Only.refl (fun k => k = w4.heap.size) w5).setCell (p := ⟨w4.heap.size, 3, none⟩) rfl _
        have hCV : V.heap[w4.heap.size]? = some (.cells #[.string ap, .slice xa ats.length xc, .int .i64 aoff, .slice ba ls.length bcp] 78 (0, 0)) := by rw [hV]; simp [World.setCell, Array.getElem?_modify, HC5.out]
        have HBV : Hid (Below wr.heap.size wr V) := by
          have h9 := H43.out
          have hs := (belowt2 HBZ.out HB5.out).size
          exact (belowt2 HBZ.out HB5.out).trans (hoV.below hs (fun k hk e => by omega))
        have HOkV : Hid (elClx.ok V (fun b => wr.heap.size ≤ b) ⟨⟨ap, .slice xa ats.length xc, aoff, ats⟩, .slice ba ls.length bcp, ls⟩) := by
          have h8 := HZs.out
          have h9 := H43.out
          have hs5 := HB5.out.size
          refine ⟨elAtx.move HOkZ.out fun b hlt hF => ⟨hF.1, ?_⟩, HLsB.out.move fun b hlt hF => ⟨by have h7 : Z.heap.size ≤ b := hF; omega, hoV.block b hlt (by have h7 : Z.heap.size ≤ b := hF; omega)⟩⟩
          rw [hoV.block b (Nat.lt_of_lt_of_le hlt hs5) (by have := hF.2; omega)]
          exact HB5.out.block b hlt
        have HPure : Hid (Clx.pur ⟨⟨ap, .slice xa ats.length xc, aoff, ats⟩, .slice ba ls.length bcp, ls⟩ = clsR pt) := by
          show _ = _
          rw [HQd.out]
          show (⟨Atx.pur ⟨ap, .slice xa ats.length xc, aoff, ats⟩, ls.map Lix.pur⟩ : PCls) = _
          rw [HPu.out, HPuB.out]
        rw [← hV]
        clear hV hoV e3 e4 y3 HC5 HCZ HBd HOkZ HLsB HB5 HBZ HB3Z
        obtain ⟨⟨c0, c1, c2, c3⟩, -⟩ := cls4_cells hCV
        have HPgU := hide ((HPg.out.kept HBV.out).kept (belowA V (.cells #[.string ap, .slice xa ats.length xc, .int .i64 aoff, .slice ba ls.length bcp] 78)))
        have pb0 : V.cell? ⟨bp, 0, none⟩ = some (.slice oa j oc) := by simp [World.cell?, (HPg.out.kept HBV.out).pb]
        have HEl := hide (HPg.out.gr.behind HPg.out.on.size elClx (elClx.move HOkV.out fun b hlt hF => ⟨hF, (belowA V (.cells #[.string ap, .slice xa ats.length xc, .int .i64 aoff, .slice ba ls.length bcp] 78)).block b hlt⟩))
        clear hCV HOkV HBV
        go_wp2_with (at_builtin; obtain ⟨i0, hi0', hz0, hz1, hz2⟩ := info_parts Tryz.infoCls; refine wpList_push (w0 := V.alloc (.cells #[.string ap, .slice xa ats.length xc, .int .i64 aoff, .slice ba ls.length bcp] 78)) elClx rfl _ _ 40 rfl w2.heap.size 78 i0 _ 72 Tryz.underlying40 hi0' hz0 hz1 hz2 rfl (by decide) _ cs j HLn.out rfl HPgU.out.gr ⟨⟨ap, .slice xa ats.length xc, aoff, ats⟩, .slice ba ls.length bcp, ls⟩ V.heap.size 1 rfl (fun j u hu => new_cells (w := V) (cs := #[.string ap, .slice xa ats.length xc, .int .i64 aoff, .slice ba ls.length bcp]) (t := 78) j u hu) HEl.out hjm (Below.refl _ _) HPgU.out.on.size ?_; intro g7 c7 W7 HG7 HB7 HGr7; have hfar := HPgU.out.far HGr7.out; have HPg7 := hide (HPgU.out.push HGr7.out HG7.out); have d0 : W7.cell? ⟨bp, 0, none⟩ = some (.slice oa j oc) := (by simp [World.cell?, hfar]); have d1 : W7.frozen? ⟨bp, 0, none⟩ = false := (by simp [World.frozen?, hfar]); clear HEl HPgU HGr7 hi0' hz0 hz1 hz2 hfar HB7 HG7)
        go_roundw
        case rel => exact ⟨j + 1, cs ++ [⟨⟨ap, .slice xa ats.length xc, aoff, ats⟩, .slice ba ls.length bcp, ls⟩], some ⟨g7, 0, none⟩, c7, by omega, by go_num, by show _ = _; rw [List.length_append, HLn.out]; rfl, by show _ = _; rw [List.map_append, HSn.out, HLs.out, List.map_singleton, HPure.out], HPg7⟩
        case measure => simp [intOf]; omega
      · have hq1 : ¬ qr.length = 1 := by have := beq_eq_false_iff_ne.1 hq2; omega
        have HQd : Hid (clsR pt = ⟨atomR qP, []⟩) := by have := HQc.out; rw [if_neg hq1] at this; exact this
        clear HQo HQc hq1 HQs
        go_upto_region 12 with (go_at_call 22; refine HAt.out.mono ?_; intro e w4 hq; obtain ⟨⟨ap, av, aoff, ats⟩, rfl, hpur, hok, hb4⟩ := hq; obtain ⟨xa, xc, rfl, -⟩ := (show Lst elTrm _ _ av ats from hok.2.2).shape; have HPu := hide hpur; have HOk4 := hide hok; have HB4 := hide hb4; unfold Atx.val; clear hpur hok hb4)
        obtain ⟨V, hV⟩ : ∃ V, V = w4.alloc (.cells #[.string ap, .slice xa ats.length xc, .int .i64 aoff, .slice none 0 0] 78) := ⟨_, rfl⟩
        have hCV : V.heap[w4.heap.size]? = some (.cells #[.string ap, .slice xa ats.length xc, .int .i64 aoff, .slice none 0 0] 78 (0, 0)) := by rw [hV]; exact heap_alloc_new w4 _
        have HBV : Hid (Below wr.heap.size wr V) := by rw [hV]; exact belowt2 (belowt2 HB3.out HB4.out) (belowA _ _)
        have HOkV : Hid (elClx.ok V (fun b => wr.heap.size ≤ b) ⟨⟨ap, .slice xa ats.length xc, aoff, ats⟩, .slice none 0 0, []⟩) := by
          have hs3 := HB3.out.size
          exact ⟨elAtx.move HOk4.out fun b hlt hF => ⟨by have h9 : w3.heap.size ≤ b := hF; omega, by rw [hV]; exact (belowA w4 _).block b hlt⟩, Lst.nil _ _ _⟩
        have HPure : Hid (Clx.pur ⟨⟨ap, .slice xa ats.length xc, aoff, ats⟩, .slice none 0 0, []⟩ = clsR pt) := by
          show _ = _
          rw [HQd.out]
          show (⟨Atx.pur ⟨ap, .slice xa ats.length xc, aoff, ats⟩, [].map Lix.pur⟩ : PCls) = _
          rw [HPu.out]; rfl
        rw [← hV]
        clear hV y1 HOk4 HAt HQl HQg HPg3
        obtain ⟨⟨c0, c1, c2, c3⟩, -⟩ := cls4_cells hCV
        have HPgU := hide ((HPg.out.kept HBV.out).kept (belowA V (.cells #[.string ap, .slice xa ats.length xc, .int .i64 aoff, .slice none 0 0] 78)))
        have pb0 : V.cell? ⟨bp, 0, none⟩ = some (.slice oa j oc) := by simp [World.cell?, (HPg.out.kept HBV.out).pb]
        have HEl := hide (HPg.out.gr.behind HPg.out.on.size elClx (elClx.move HOkV.out fun b hlt hF => ⟨hF, (belowA V (.cells #[.string ap, .slice xa ats.length xc, .int .i64 aoff, .slice none 0 0] 78)).block b hlt⟩))
        clear hCV HOkV HBV
        go_wp2_with (at_builtin; obtain ⟨i0, hi0', hz0, hz1, hz2⟩ := info_parts Tryz.infoCls; refine wpList_push (w0 := V.alloc (.cells #[.string ap, .slice xa ats.length xc, .int .i64 aoff, .slice none 0 0] 78)) elClx rfl _ _ 40 rfl w2.heap.size 78 i0 _ 72 Tryz.underlying40 hi0' hz0 hz1 hz2 rfl (by decide) _ cs j HLn.out rfl HPgU.out.gr ⟨⟨ap, .slice xa ats.length xc, aoff, ats⟩, .slice none 0 0, []⟩ V.heap.size 1 rfl (fun j u hu => new_cells (w := V) (cs := #[.string ap, .slice xa ats.length xc, .int .i64 aoff, .slice none 0 0]) (t := 78) j u hu) HEl.out hjm (Below.refl _ _) HPgU.out.on.size ?_; intro g7 c7 W7 HG7 HB7 HGr7; have hfar := HPgU.out.far HGr7.out; have HPg7 := hide (HPgU.out.push HGr7.out HG7.out); have d0 : W7.cell? ⟨bp, 0, none⟩ = some (.slice oa j oc) := (by simp [World.cell?, hfar]); have d1 : W7.frozen? ⟨bp, 0, none⟩ = false := (by simp [World.frozen?, hfar]); clear HEl HPgU HGr7 hi0' hz0 hz1 hz2 hfar HB7 HG7)
        go_roundw
        case rel => exact ⟨j + 1, cs ++ [⟨⟨ap, .slice xa ats.length xc, aoff, ats⟩, .slice none 0 0, []⟩], some ⟨g7, 0, none⟩, c7, by omega, by go_num, by show _ = _; rw [List.length_append, HLn.out]; rfl, by show _ = _; rw [List.map_append, HSn.out, HLs.out, List.map_singleton, HPure.out], HPg7⟩
        case measure => simp [intOf]; omega
    · obtain rfl : j = m := by omega
      have hi : ¬ (j : Int) < (j : Int) := by omega
      have HF3 := hide (HF2.out.only HPg.out.on HLt.out)
      obtain ⟨⟨p0, p1, p2⟩, f0, f1, f2⟩ := chk3_cells HF3.out.fb.bx
      obtain ⟨k0, z0⟩ := HF3.out.cells
      have pb0 : wr.cell? ⟨bp, 0, none⟩ = some (.slice oa j oc) := by simp [World.cell?, HPg.out.pb]
      have HSz := hide (show bp < w2.heap.size from HPg.out.lt)
      have n1 : ¬ w.heap.size = bp := by have := HLt.out; omega
      have n2 : ¬ w.heap.size + 1 = bp := by have := HLt.out; omega
      go_wp2
      refine bodyPost_ret (rpRes _ w.heap.size (w.heap.size + 1) (.slice oa j oc) (.int .i64 0) (.int .i64 0) (.int .i64 0) _ rfl rfl (HF3.out.fin (.slice oa j oc) 0 0).1 (HF3.out.fin (.slice oa j oc) 0 0).2.1) rfl ⟨_, rfl, cs, ?_, (HPg.out.gr.new (by rw [HLn.out]; omega)).move fun b hb hF => ⟨by have := HSz.out; have := HLt.out; have h9 : w2.heap.size ≤ b := hF; omega, (HF3.out.fin (.slice oa j oc) 0 0).2.2.2.block b hb (by have := HSz.out; have := HLt.out; have h9 : w2.heap.size ≤ b := hF; omega)⟩, (HF3.out.fin (.slice oa j oc) 0 0).2.2.1⟩
      rw [HLs.out, HP.out, List.take_of_length_le (by rw [← HM.out]; omega)]
end Go.Proofs.YtmdhjggijlhhgaaGreatDoor

namespace Go.Proofs.YtmdhjggijlhhgaaGreatDoor
set_option linter.unusedSimpArgs false
set_option linter.unusedVariables false
open Go.RowKit

theorem neqTrmSame (a : Trm) (w : World) : (binOp .neq 58 (.agg #[.int .i64 a.k, .int .i64 a.n, .string a.s, .int .i64 a.off]) (.agg #[.int .i64 a.k, .int .i64 a.n, .string a.s, .int .i64 a.off])).run Tryz.prog w = .ok (.bool false) w := by
  have h1 := run_equalIn_struct (P := Tryz.prog) w 9999 58 #[.int .i64 a.k, .int .i64 a.n, .string a.s, .int .i64 a.off] #[.int .i64 a.k, .int .i64 a.n, .string a.s, .int .i64 a.off] (by kernel_rfl) (by kernel_rfl)
  simp only [binOp]
  simp only [Op.equal, Op.maxDepth, Sem.run_bind]
  go_simp

set_option maxRecDepth 100000 in
set_option maxHeartbeats 1000000 in
theorem sameAtom_any {w : World} {F G : Nat → Prop} (pr : ByteArray) (off : Int) (ts : List Trm) (v1 v2 : Value) (h1 : Lst elTrm w F v1 ts) (h2 : Lst elTrm w G v2 ts) :
    Calls Tryz.prog 26 #[.agg #[.string pr, v1, .int .i64 off], .agg #[.string pr, v2, .int .i64 off]] w fun e w' => e = .returned (.bool true) ∧ Below w.heap.size w w' := by
  obtain ⟨a1, c1, rfl, -, -, hlen⟩ := h1.shape
  obtain ⟨a2, c2, rfl, -⟩ := h2.shape
  have HH1 := hide h1
  have HH2 := hide h2
  clear h1 h2
  have hq : (off != off) = false := by simp
  have hps : (pr.toList != pr.toList) = false := by simp
  go_enter Tryz.func26, Tryz.ntmps26
  go_wp2
  obtain ⟨Y, hY⟩ : ∃ Y, Y = (w.alloc (.cells #[.string pr, .slice a1 ts.length c1, .int .i64 off] 55)).alloc (.cells #[.string pr, .slice a2 ts.length c2, .int .i64 off] 55) := ⟨_, rfl⟩
  have HB0 : Hid (Below w.heap.size w Y) := by rw [hY]; exact below2a _ _ _
  have HP : Hid (Y.cell? ⟨w.heap.size, 1, none⟩ = some (.slice a1 ts.length c1) ∧ Y.cell? ⟨w.heap.size + 1, 1, none⟩ = some (.slice a2 ts.length c2)) := by
    show _ ∧ _
    rw [hY]
    constructor <;> simp
  rw [← hY]
  clear hY
  go_loopw [30] (fun i wl => ∃ k : Nat, k ≤ ts.length ∧ i = .int .i64 k ∧ Hid (Below Y.heap.size Y wl)) (fun i _ => ts.length - (intOf i).toNat)
  case atStart => exact ⟨0, by omega, rfl, Below.refl _ _⟩
  case round =>
    obtain ⟨k, hk, rfl, HB⟩ := hrel
    have HBw := hide (HB0.out.trans (HB.out.mono HB0.out.size))
    have p1 := kept_cell HB.out HP.out.1
    have p2 := kept_cell HB.out HP.out.2
    by_cases hlt : k < ts.length
    · have hi : (k : Int) < (ts.length : Int) := by omega
      have hi0 : (0 : Int) ≤ (k : Int) := by omega
      obtain ⟨b1, o1, rfl, -, -, hr1⟩ := HH1.out.row (by omega)
      obtain ⟨b2, o2, rfl, -, -, hr2⟩ := HH2.out.row (by omega)
      obtain ⟨x, hx⟩ : ∃ x, ts[k]? = some x := ⟨_, List.getElem?_eq_getElem hlt⟩
      have x0 := over_cell (kept_cell HBw.out (hr1 k x hx 0 _ rfl))
      have x1 := over_cell (kept_cell HBw.out (hr1 k x hx 1 _ rfl))
      have x2 := over_cell (kept_cell HBw.out (hr1 k x hx 2 _ rfl))
      have x3 := over_cell (kept_cell HBw.out (hr1 k x hx 3 _ rfl))
      have y0 := over_cell (kept_cell HBw.out (hr2 k x hx 0 _ rfl))
      have y1 := over_cell (kept_cell HBw.out (hr2 k x hx 1 _ rfl))
      have y2 := over_cell (kept_cell HBw.out (hr2 k x hx 2 _ rfl))
      have y3 := over_cell (kept_cell HBw.out (hr2 k x hx 3 _ rfl))
      simp only [elTrm, Nat.add_zero] at x0 x1 x2 x3 y0 y1 y2 y3
      have hs := neqTrmSame x
      clear hr1 hr2 hx
      go_wp2
      refine wp_region_over (fun W => W = wr) (by kernel_rfl) (by kernel_rfl) rfl ?_
      rintro W rfl
      have p1' := over_cell p1
      have p2' := over_cell p2
      clear p1 p2
      repeat (go_big_quiet_step (first | fail))
      refine wpQuiet_nil ?_
      rintro _ ⟨z, rfl⟩
      have HB3 := hide (HB.out.trans ((over_below W z).mono HB.out.size))
      clear x0 x1 x2 x3 y0 y1 y2 y3 p1' p2'
      go_wp2
      go_roundw
      case rel => exact ⟨k + 1, by omega, by go_num, HB3⟩
      case measure => simp [intOf]; omega
    · obtain rfl : k = ts.length := by omega
      have hi : ¬ (ts.length : Int) < (ts.length : Int) := by omega
      go_wp2
      go_ret
      exact ⟨rfl, HBw.out⟩

end Go.Proofs.YtmdhjggijlhhgaaGreatDoor

namespace Go.Proofs.YtmdhjggijlhhgaaGreatDoor
set_option linter.unusedSimpArgs false
set_option linter.unusedVariables false
open Go.RowKit

theorem pur_at {α β : Type} {f : α → β} {l m : List α} (h : l.map f = m.map f) {k : Nat} {x y : α} (hx : l[k]? = some x) (hy : m[k]? = some y) : f x = f y := by
  have e := congrArg (fun z => z[k]?) h
  simp only [List.getElem?_map, hx, hy, Option.map_some, Option.some.injEq] at e
  exact e
set_option maxRecDepth 100000 in
set_option maxHeartbeats 2000000 in
theorem sameAtoms_any {w : World} {F G : Nat → Prop} {v1 v2 : Value} {l m : List Atx} (h1 : Lst elAtx w F v1 l) (h2 : Lst elAtx w G v2 m) (hp : l.map Atx.pur = m.map Atx.pur) :
    Calls Tryz.prog 12 #[v1, v2] w fun e w' => e = .returned (.bool true) ∧ Below w.heap.size w w' := by
  obtain ⟨a1, c1, rfl, -, -, hl1⟩ := h1.shape
  obtain ⟨a2, c2, rfl, -, -, hl2⟩ := h2.shape
  have hl : l.length = m.length := by have := congrArg List.length hp; simpa using this
  have H1 := hide h1.all
  have H2 := hide h2.all
  have HP := hide hp
  have HE := hide hl
  obtain ⟨n, hn⟩ : ∃ n, n = l.length := ⟨_, rfl⟩
  rw [← hl, ← hn]
  rw [← hn] at hl1
  rw [← hl] at H2
  rw [← hn] at H1 H2
  have HN := hide hn
  clear h1 h2 hp hl hl2 hn
  have hnn : ((n : Int) != (n : Int)) = false := by simp
  go_enter Tryz.func12, Tryz.ntmps12
  go_wp2
  go_loopw [13] (fun i wl => ∃ k : Nat, k ≤ n ∧ i = .int .i64 k ∧ Hid (Below w.heap.size w wl)) (fun i _ => n - (intOf i).toNat)
  case atStart => exact ⟨0, by omega, rfl, Below.refl _ _⟩
  case round =>
    obtain ⟨k, hk, rfl, HB⟩ := hrel
    by_cases hlt : k < n
    · have hi : (k : Int) < (n : Int) := by omega
      have hi0 : (0 : Int) ≤ (k : Int) := by omega
      obtain ⟨b, bo, rfl, -, -, hrow⟩ := H1.out.row (by have := HN.out; omega)
      obtain ⟨c, co, rfl, -, -, krow⟩ := H2.out.row (by have := HN.out; have := HE.out; omega)
      obtain ⟨x, hx⟩ : ∃ x, l[k]? = some x := ⟨_, List.getElem?_eq_getElem (by have := HN.out; omega)⟩
      obtain ⟨y, hy⟩ : ∃ y, m[k]? = some y := ⟨_, List.getElem?_eq_getElem (by have := HN.out; have := HE.out; omega)⟩
      have hpq := pur_at HP.out hx hy
      have x0 := over_cell (kept_cell HB.out (hrow k _ hx 0 _ rfl))
      have x1 := over_cell (kept_cell HB.out (hrow k _ hx 1 _ rfl))
      have x2 := over_cell (kept_cell HB.out (hrow k _ hx 2 _ rfl))
      have y0 := over_cell (kept_cell HB.out (krow k _ hy 0 _ rfl))
      have y1 := over_cell (kept_cell HB.out (krow k _ hy 1 _ rfl))
      have y2 := over_cell (kept_cell HB.out (krow k _ hy 2 _ rfl))
      have hxo := H1.out.ok (List.mem_of_getElem? hx)
      have hyo := H2.out.ok (List.mem_of_getElem? hy)
      obtain ⟨xp, xv, xoff, xts⟩ := x
      obtain ⟨yp, yv, yoff, yts⟩ := y
      simp only [elAtx, Nat.add_zero] at x0 x1 x2 y0 y1 y2
      simp only [Atx.pur, PAtom.mk.injEq] at hpq
      obtain ⟨rfl, rfl, rfl⟩ := hpq
      have HS := hide (fun x => sameAtom_any xp xoff xts xv yv (((show Lst elTrm w (fun _ => True) xv xts from hxo.2.2).kept HB.out).kept (over_below _ x)) (((show Lst elTrm w (fun _ => True) yv xts from hyo.2.2).kept HB.out).kept (over_below _ x)))
      obtain ⟨xa, xc, rfl, -⟩ := (show Lst elTrm w (fun _ => True) xv xts from hxo.2.2).shape
      obtain ⟨ya, yc, rfl, -⟩ := (show Lst elTrm w (fun _ => True) yv xts from hyo.2.2).shape
      clear hrow hx krow hy hxo hyo
      go_wp2
      refine wp_region_over (fun W => W = wr) (by kernel_rfl) (by kernel_rfl) rfl ?_
      rintro W rfl
      repeat (go_big_quiet_step (first | (go_at_call 26; exact calls_over (HS.out _))))
      refine wpQuiet_nil ?_
      rintro _ ⟨z, rfl⟩
      have HB3 := hide (HB.out.trans ((over_below W z).mono HB.out.size))
      clear x0 x1 x2 y0 y1 y2 HS
      go_wp2
      go_roundw
      case rel => exact ⟨k + 1, by omega, by go_num, HB3⟩
      case measure => simp [intOf]; omega
    · obtain rfl : k = n := by omega
      have hi : ¬ (k : Int) < (k : Int) := by omega
      go_wp2
      go_ret
      exact ⟨rfl, HB.out⟩
end Go.Proofs.YtmdhjggijlhhgaaGreatDoor

namespace Go.Proofs.YtmdhjggijlhhgaaGreatDoor
set_option linter.unusedSimpArgs false
set_option linter.unusedVariables false
open Go.RowKit

theorem bx_first (w : World) (x y : Obj) : ((w.alloc x).alloc y).drew.heap[w.heap.size]? = some x := by
  show ((w.alloc x).alloc y).heap[w.heap.size]? = some x
  rw [(belowA (w.alloc x) y).block _ (by simp)]; exact heap_alloc_new w _
theorem bx_second (w : World) (x y : Obj) : ((w.alloc x).alloc y).drew.heap[w.heap.size + 1]? = some y := by
  have := heap_alloc_new (w.alloc x) y
  show ((w.alloc x).alloc y).heap[w.heap.size + 1]? = some y
  simpa using this
set_option maxRecDepth 100000 in
set_option maxHeartbeats 8000000 in
theorem sameBody_any {w : World} {F G : Nat → Prop} {v1 v2 : Value} {l m : List Lix} (h1 : Lst elLix w F v1 l) (h2 : Lst elLix w G v2 m) (hp : l.map Lix.pur = m.map Lix.pur) :
    Calls Tryz.prog 15 #[v1, v2] w fun e w' => e = .returned (.bool true) ∧ Below w.heap.size w w' := by
  obtain ⟨a1, c1, rfl, -, -, hl1⟩ := h1.shape
  obtain ⟨a2, c2, rfl, -, -, hl2⟩ := h2.shape
  have hl : l.length = m.length := by have := congrArg List.length hp; simpa using this
  have H1 := hide h1.all
  have H2 := hide h2.all
  have HP := hide hp
  have HE := hide hl
  obtain ⟨n, hn⟩ : ∃ n, n = l.length := ⟨_, rfl⟩
  rw [← hl, ← hn]
  rw [← hn] at hl1
  rw [← hl] at H2
  rw [← hn] at H1 H2
  have HN := hide hn
  clear h1 h2 hp hl hl2 hn
  have hnn : ((n : Int) != (n : Int)) = false := by simp
  go_enter Tryz.func15, Tryz.ntmps15
  go_wp2
  go_loopw [15] (fun i wl => ∃ k : Nat, k ≤ n ∧ i = .int .i64 k ∧ Hid (Below w.heap.size w wl)) (fun i _ => n - (intOf i).toNat)
  case atStart => exact ⟨0, by omega, rfl, Below.refl _ _⟩
  case round =>
    obtain ⟨k, hk, rfl, HB⟩ := hrel
    by_cases hlt : k < n
    · have hi : (k : Int) < (n : Int) := by omega
      have hi0 : (0 : Int) ≤ (k : Int) := by omega
      obtain ⟨b, bo, rfl, -, -, hrow⟩ := (H1.out.kept HB.out).row (by have := HN.out; omega)
      obtain ⟨c, co, rfl, -, -, krow⟩ := (H2.out.kept HB.out).row (by have := HN.out; have := HE.out; omega)
      obtain ⟨x, hx⟩ : ∃ x, l[k]? = some x := ⟨_, List.getElem?_eq_getElem (by have := HN.out; omega)⟩
      obtain ⟨y, hy⟩ : ∃ y, m[k]? = some y := ⟨_, List.getElem?_eq_getElem (by have := HN.out; have := HE.out; omega)⟩
      have hpq := pur_at HP.out hx hy
      have x0 := hrow k _ hx 0 _ rfl
      have x1 := hrow k _ hx 1 _ rfl
      have x2 := hrow k _ hx 2 _ rfl
      have x3 := hrow k _ hx 3 _ rfl
      have x4 := hrow k _ hx 4 _ rfl
      have x5 := hrow k _ hx 5 _ rfl
      have x6 := hrow k _ hx 6 _ rfl
      have x7 := hrow k _ hx 7 _ rfl
      have x8 := hrow k _ hx 8 _ rfl
      have x9 := hrow k _ hx 9 _ rfl
      have x10 := hrow k _ hx 10 _ rfl
      have x11 := hrow k _ hx 11 _ rfl
      have x12 := hrow k _ hx 12 _ rfl
      have x13 := hrow k _ hx 13 _ rfl
      have y0 := krow k _ hy 0 _ rfl
      have y1 := krow k _ hy 1 _ rfl
      have y2 := krow k _ hy 2 _ rfl
      have y3 := krow k _ hy 3 _ rfl
      have y4 := krow k _ hy 4 _ rfl
      have y5 := krow k _ hy 5 _ rfl
      have y6 := krow k _ hy 6 _ rfl
      have y7 := krow k _ hy 7 _ rfl
      have y8 := krow k _ hy 8 _ rfl
      have y9 := krow k _ hy 9 _ rfl
      have y10 := krow k _ hy 10 _ rfl
      have y11 := krow k _ hy 11 _ rfl
      have y12 := krow k _ hy 12 _ rfl
      have y13 := krow k _ hy 13 _ rfl
      have hxo := H1.out.ok (List.mem_of_getElem? hx)
      have hyo := H2.out.ok (List.mem_of_getElem? hy)
      obtain ⟨lk, ⟨ap, av, aoff, ats⟩, lop, ll, lr, loff⟩ := x
      obtain ⟨yk, ⟨yp, yv, yoff, yts⟩, yop, yl, yr, yof⟩ := y
      simp only [elLix, Nat.add_zero] at x0 x1 x2 x3 x4 x5 x6 x7 x8 x9 x10 x11 x12 x13 y0 y1 y2 y3 y4 y5 y6 y7 y8 y9 y10 y11 y12 y13
      simp only [Lix.pur, Atx.pur, PLit.mk.injEq, PAtom.mk.injEq] at hpq
      obtain ⟨rfl, ⟨rfl, rfl, rfl⟩, rfl, rfl, rfl, rfl⟩ := hpq
      have HS := hide (fun W (hb : Below wr.heap.size wr W) => sameAtom_any ap aoff ats av yv (((show Lst elTrm w (fun _ => True) av ats from hxo.2.1.2.2).kept HB.out).kept hb) (((show Lst elTrm w (fun _ => True) yv ats from hyo.2.1.2.2).kept HB.out).kept hb))
      obtain ⟨xa, xc, rfl, -⟩ := (show Lst elTrm w (fun _ => True) av ats from hxo.2.1.2.2).shape
      obtain ⟨ya, yc, rfl, -⟩ := (show Lst elTrm w (fun _ => True) yv ats from hyo.2.1.2.2).shape
      have HSc : Hid (∀ V : World, Below wr.heap.size wr V → V.cell? ⟨b, bo + k * 14, none⟩ = some (.int .i64 lk) ∧ V.cell? ⟨b, bo + k * 14 + 1, none⟩ = some (.string ap) ∧ V.cell? ⟨b, bo + k * 14 + 2, none⟩ = some (.slice xa ats.length xc) ∧ V.cell? ⟨b, bo + k * 14 + 3, none⟩ = some (.int .i64 aoff) ∧ V.cell? ⟨b, bo + k * 14 + 4, none⟩ = some (.int .i64 lop) ∧ V.cell? ⟨b, bo + k * 14 + 5, none⟩ = some (.int .i64 ll.k) ∧ V.cell? ⟨b, bo + k * 14 + 6, none⟩ = some (.int .i64 ll.n) ∧ V.cell? ⟨b, bo + k * 14 + 7, none⟩ = some (.string ll.s) ∧ V.cell? ⟨b, bo + k * 14 + 8, none⟩ = some (.int .i64 ll.off) ∧ V.cell? ⟨b, bo + k * 14 + 9, none⟩ = some (.int .i64 lr.k) ∧ V.cell? ⟨b, bo + k * 14 + 10, none⟩ = some (.int .i64 lr.n) ∧ V.cell? ⟨b, bo + k * 14 + 11, none⟩ = some (.string lr.s) ∧ V.cell? ⟨b, bo + k * 14 + 12, none⟩ = some (.int .i64 lr.off) ∧ V.cell? ⟨b, bo + k * 14 + 13, none⟩ = some (.int .i64 loff) ∧ V.cell? ⟨c, co + k * 14, none⟩ = some (.int .i64 lk) ∧ V.cell? ⟨c, co + k * 14 + 1, none⟩ = some (.string ap) ∧ V.cell? ⟨c, co + k * 14 + 2, none⟩ = some (.slice ya ats.length yc) ∧ V.cell? ⟨c, co + k * 14 + 3, none⟩ = some (.int .i64 aoff) ∧ V.cell? ⟨c, co + k * 14 + 4, none⟩ = some (.int .i64 lop) ∧ V.cell? ⟨c, co + k * 14 + 5, none⟩ = some (.int .i64 ll.k) ∧ V.cell? ⟨c, co + k * 14 + 6, none⟩ = some (.int .i64 ll.n) ∧ V.cell? ⟨c, co + k * 14 + 7, none⟩ = some (.string ll.s) ∧ V.cell? ⟨c, co + k * 14 + 8, none⟩ = some (.int .i64 ll.off) ∧ V.cell? ⟨c, co + k * 14 + 9, none⟩ = some (.int .i64 lr.k) ∧ V.cell? ⟨c, co + k * 14 + 10, none⟩ = some (.int .i64 lr.n) ∧ V.cell? ⟨c, co + k * 14 + 11, none⟩ = some (.string lr.s) ∧ V.cell? ⟨c, co + k * 14 + 12, none⟩ = some (.int .i64 lr.off) ∧ V.cell? ⟨c, co + k * 14 + 13, none⟩ = some (.int .i64 loff)) := fun V hV => ⟨kept_cell hV x0, kept_cell hV x1, kept_cell hV x2, kept_cell hV x3, kept_cell hV x4, kept_cell hV x5, kept_cell hV x6, kept_cell hV x7, kept_cell hV x8, kept_cell hV x9, kept_cell hV x10, kept_cell hV x11, kept_cell hV x12, kept_cell hV x13, kept_cell hV y0, kept_cell hV y1, kept_cell hV y2, kept_cell hV y3, kept_cell hV y4, kept_cell hV y5, kept_cell hV y6, kept_cell hV y7, kept_cell hV y8, kept_cell hV y9, kept_cell hV y10, kept_cell hV y11, kept_cell hV y12, kept_cell hV y13⟩
      clear hrow hx krow hy hxo hyo x0 x1 x2 x3 x4 x5 x6 x7 x8 x9 x10 x11 x12 x13 y0 y1 y2 y3 y4 y5 y6 y7 y8 y9 y10 y11 y12 y13
      go_upto_region 6 with fail
      go_cut [6, 7] (fun t6 t7 wx => ∃ X Y, t6 = .pointer (some ⟨X, 0, none⟩) ∧ t7 = .pointer (some ⟨Y, 0, none⟩) ∧ Hid (wx.heap[X]? = some (.cells #[.int .i64 lk, .string ap, .slice xa ats.length xc, .int .i64 aoff, .int .i64 lop, .int .i64 ll.k, .int .i64 ll.n, .string ll.s, .int .i64 ll.off, .int .i64 lr.k, .int .i64 lr.n, .string lr.s, .int .i64 lr.off, .int .i64 loff] 72 (0, 0))) ∧ Hid (wx.heap[Y]? = some (.cells #[.int .i64 lk, .string ap, .slice ya ats.length yc, .int .i64 aoff, .int .i64 lop, .int .i64 ll.k, .int .i64 ll.n, .string ll.s, .int .i64 ll.off, .int .i64 lr.k, .int .i64 lr.n, .string lr.s, .int .i64 lr.off, .int .i64 loff] 72 (0, 0))) ∧ Hid (Below wr.heap.size wr wx))
      case first =>
        go_region_held3 (fun V => V.cell? ⟨b, bo + k * 14, none⟩ = some (.int .i64 lk) ∧ V.cell? ⟨b, bo + k * 14 + 1, none⟩ = some (.string ap) ∧ V.cell? ⟨b, bo + k * 14 + 2, none⟩ = some (.slice xa ats.length xc) ∧ V.cell? ⟨b, bo + k * 14 + 3, none⟩ = some (.int .i64 aoff) ∧ V.cell? ⟨b, bo + k * 14 + 4, none⟩ = some (.int .i64 lop) ∧ V.cell? ⟨b, bo + k * 14 + 5, none⟩ = some (.int .i64 ll.k) ∧ V.cell? ⟨b, bo + k * 14 + 6, none⟩ = some (.int .i64 ll.n) ∧ V.cell? ⟨b, bo + k * 14 + 7, none⟩ = some (.string ll.s) ∧ V.cell? ⟨b, bo + k * 14 + 8, none⟩ = some (.int .i64 ll.off) ∧ V.cell? ⟨b, bo + k * 14 + 9, none⟩ = some (.int .i64 lr.k) ∧ V.cell? ⟨b, bo + k * 14 + 10, none⟩ = some (.int .i64 lr.n) ∧ V.cell? ⟨b, bo + k * 14 + 11, none⟩ = some (.string lr.s) ∧ V.cell? ⟨b, bo + k * 14 + 12, none⟩ = some (.int .i64 lr.off) ∧ V.cell? ⟨b, bo + k * 14 + 13, none⟩ = some (.int .i64 loff) ∧ V.cell? ⟨c, co + k * 14, none⟩ = some (.int .i64 lk) ∧ V.cell? ⟨c, co + k * 14 + 1, none⟩ = some (.string ap) ∧ V.cell? ⟨c, co + k * 14 + 2, none⟩ = some (.slice ya ats.length yc) ∧ V.cell? ⟨c, co + k * 14 + 3, none⟩ = some (.int .i64 aoff) ∧ V.cell? ⟨c, co + k * 14 + 4, none⟩ = some (.int .i64 lop) ∧ V.cell? ⟨c, co + k * 14 + 5, none⟩ = some (.int .i64 ll.k) ∧ V.cell? ⟨c, co + k * 14 + 6, none⟩ = some (.int .i64 ll.n) ∧ V.cell? ⟨c, co + k * 14 + 7, none⟩ = some (.string ll.s) ∧ V.cell? ⟨c, co + k * 14 + 8, none⟩ = some (.int .i64 ll.off) ∧ V.cell? ⟨c, co + k * 14 + 9, none⟩ = some (.int .i64 lr.k) ∧ V.cell? ⟨c, co + k * 14 + 10, none⟩ = some (.int .i64 lr.n) ∧ V.cell? ⟨c, co + k * 14 + 11, none⟩ = some (.string lr.s) ∧ V.cell? ⟨c, co + k * 14 + 12, none⟩ = some (.int .i64 lr.off) ∧ V.cell? ⟨c, co + k * 14 + 13, none⟩ = some (.int .i64 loff))
          (first
            | (with_reducible exact HSc.out _ (Below.refl _ _))
            | (with_reducible exact HSc.out _ (Below.refl _ _).drew)
            | (with_reducible exact HSc.out _ (belowA _ _).drew)
            | (with_reducible exact HSc.out _ (belowA _ _))
            | (with_reducible exact HSc.out _ (below2a _ _ _).drew)
            | (with_reducible exact HSc.out _ (below2a _ _ _)))
          (fail)
        all_goals (go_wp2; go_meet)
        · exact ⟨wr.heap.size, wr.heap.size + 1, rfl, rfl, bx_first _ _ _, bx_second _ _ _, (below2a _ _ _).drew⟩
        · exact ⟨wr.heap.size + 1, wr.heap.size, rfl, rfl, bx_second _ _ _, bx_first _ _ _, (below2a _ _ _).drew⟩
      case rest =>
        obtain ⟨X, Y, rfl, rfl, HX, HY, HBx⟩ := hcut
        obtain ⟨⟨x0, x1, x2, x3, x4, x5, x6, x7, x8, x9, x10, x11, x12, x13⟩, -⟩ := boxL_cells HX.out
        obtain ⟨⟨y0, y1, y2, y3, y4, y5, y6, y7, y8, y9, y10, y11, y12, y13⟩, -⟩ := boxL_cells HY.out
        have q1 : (lk != lk) = false := by simp
        have q2 : (lop != lop) = false := by simp
        have q3 : (loff != loff) = false := by simp
        have q4 := neqTrmSame ll
        have q5 := neqTrmSame lr
        go_wp2_with (go_at_call 26; refine (HS.out _ HBx.out).mono ?_; rintro e w7 ⟨rfl, hb7⟩; have HB7 := hide (belowt2 (belowt2 HB.out HBx.out) hb7); clear hb7)
        go_roundw
        case rel => exact ⟨k + 1, by omega, by go_num, HB7⟩
        case measure => simp [intOf]; omega
    · obtain rfl : k = n := by omega
      have hi : ¬ (k : Int) < (k : Int) := by omega
      go_wp2
      go_ret
      exact ⟨rfl, HB.out⟩
end Go.Proofs.YtmdhjggijlhhgaaGreatDoor
