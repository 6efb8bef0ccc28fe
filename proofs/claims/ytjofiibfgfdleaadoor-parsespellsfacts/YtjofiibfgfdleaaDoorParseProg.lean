/- parse's reader takes a program. -/
import Derived.Test.YtjofiibfgfdleaaDoorProg
import Derived.Test.YtjofiibfgfdleaaDoorParseCls
import Derived.Test.YtjofiibfgfdleaaDoorRegionLast
namespace Go.Proofs.YtjofiibfgfdleaaDoor
set_option linter.unusedSimpArgs false
set_option linter.unusedVariables false
open Go.RowKit

theorem Tryd.infoCls : (Tryd.prog.info? 53).map (fun i => (i.zero, i.size, i.bytes)) = some (some (.agg #[.string ⟨#[]⟩, .slice none 0 0, .int .i64 0, .slice none 0 0]), 4, 72) := by kernel_rfl

def ProgPost (w : World) (p : Nat) (ao : Option Addr) (cap : Nat) (L : List Tok) (c f : Int) (res : PR (List PCls)) (e : Ending) (w' : World) : Prop :=
  match res with
  | .bad ec eo => e = PEnd ec eo ∧ Only (fun k => k = p) w w'
  | .ok b r => ∃ v cs, e = .returned (.agg #[v]) ∧ cs.map Clx.pur = b ∧ cs.length ≤ 512 ∧ Grow elClx 53 w.heap.size w' v cs ∧ Ahead w' p ao cap L c f r ∧ Only (fun k => k = p) w w'
theorem progPost_bad {w w' : World} {p : Nat} {ao : Option Addr} {cap : Nat} {L : List Tok} {c f ec eo : Int} {e : Ending} (h : ProgPost w p ao cap L c f (.bad ec eo) e w') : e = PEnd ec eo ∧ Only (fun k => k = p) w w' := h
theorem progPost_ok {w w' : World} {p : Nat} {ao : Option Addr} {cap : Nat} {L : List Tok} {c f : Int} {x : List PCls} {r : List Tok} {e : Ending} (h : ProgPost w p ao cap L c f (.ok x r) e w') : ∃ v cs, e = .returned (.agg #[v]) ∧ cs.map Clx.pur = x ∧ cs.length ≤ 512 ∧ Grow elClx 53 w.heap.size w' v cs ∧ Ahead w' p ao cap L c f r ∧ Only (fun k => k = p) w w' := h

/-- What the loop of a program's clauses keeps in memory. -/
structure PrgAt (w wr : World) (p : Nat) (ao : Option Addr) (cap : Nat) (L : List Tok) (c f : Int) (R : List Tok) (v : Value) (cs : List Clx) : Prop where
  col : Coll3 elClx 53 w wr p ao cap L c f R (w.heap.size + 2) v cs
  b0 : wr.heap[w.heap.size]? = some (.cells #[.slice none 0 0] 41 (0, 0))
  b1 : wr.heap[w.heap.size + 1]? = some (.cells #[v] 41 (0, 0))
section
variable {w wr wr' : World} {p : Nat} {ao : Option Addr} {cap : Nat} {L : List Tok} {c f : Int} {R R' : List Tok} {v v' : Value} {cs cs' : List Clx}
theorem PrgAt.move (h : PrgAt w wr p ao cap L c f R v cs) (ho : Only (fun k => k = p) wr wr') (ha : Ahead wr' p ao cap L c f R') : PrgAt w wr' p ao cap L c f R' v cs :=
  ⟨h.col.move ho ha, box_moved h.b0 (by have := h.col.pl; omega) ho, box_moved h.b1 (by have := h.col.pl; omega) ho⟩
theorem PrgAt.below (h : PrgAt w wr p ao cap L c f R v cs) (hb : Below wr.heap.size wr wr') : PrgAt w wr' p ao cap L c f R v cs := h.move (Only.of_below hb _) (h.col.ah.kept hb)
theorem PrgAt.drew (h : PrgAt w wr p ao cap L c f R v cs) : PrgAt w wr.drew p ao cap L c f R v cs := h.below (Below.refl _ _).drew
theorem PrgAt.cells (h : PrgAt w wr p ao cap L c f R v cs) : wr.cell? ⟨w.heap.size, 0, none⟩ = some (.slice none 0 0) ∧ wr.frozen? ⟨w.heap.size, 0, none⟩ = false ∧ wr.cell? ⟨w.heap.size + 1, 0, none⟩ = some v ∧ wr.frozen? ⟨w.heap.size + 1, 0, none⟩ = false := by
  refine ⟨?_, ?_, ?_, ?_⟩ <;> simp [World.cell?, World.frozen?, h.b0, h.b1]
theorem PrgAt.far (h : PrgAt w wr p ao cap L c f R v cs) (hg : wr.grownBy wr' v.ownBlock) : wr'.heap[w.heap.size + 1]? = some (.cells #[v] 41 (0, 0)) := by
  have ho : Only (fun k => w.heap.size + 2 ≤ k) wr wr' := (Only.refl _ wr).grown hg (fun k hk _ => own_new h.col.gr.1 k hk)
  rw [ho.block _ (Array.getElem?_eq_some_iff.1 h.b1).1 (by omega)]; exact h.b1
theorem PrgAt.push (h : PrgAt w wr p ao cap L c f R v cs) (hg : wr.grownBy wr' v.ownBlock) (hG : Grow elClx 53 (w.heap.size + 2) wr' v' cs') : PrgAt w (wr'.setCell ⟨w.heap.size + 1, 0, none⟩ v') p ao cap L c f R v' cs' := by
  have hp := h.col.pl
  have hc := h.col.grown hg hG
  have ho : Only (fun k => w.heap.size + 2 ≤ k) wr wr' := (Only.refl _ wr).grown hg (fun k hk _ => own_new h.col.gr.1 k hk)
  have ho2 : Only (fun k => k = w.heap.size + 1) wr' (wr'.setCell ⟨w.heap.size + 1, 0, none⟩ v') := (Only.refl (fun k => k = w.heap.size + 1) wr').setCell (p := ⟨w.heap.size + 1, 0, none⟩) rfl _
  have hb0 : wr'.heap[w.heap.size]? = some (.cells #[.slice none 0 0] 41 (0, 0)) := by rw [ho.block _ (Array.getElem?_eq_some_iff.1 h.b0).1 (by omega)]; exact h.b0
  refine ⟨⟨?_, hc.gr.above fun b hb hlt => ho2.block b hlt (by omega), hc.on.trans (ho2.mono fun k _ (e : k = w.heap.size + 1) => .inr (by omega)), hp, hc.tk, hc.lo, Nat.le_trans hc.hi ho2.size⟩, ?_, ?_⟩
  · obtain ⟨i, q1, q2⟩ := hc.ah
    exact ⟨i, q1.only ho2 (by omega) (fun g hg hl => by have := hc.tk g hg hl; omega), q2⟩
  · rw [ho2.block _ (Array.getElem?_eq_some_iff.1 hb0).1 (by omega)]; exact hb0
  · have := h.far hg
    simp [World.setCell, Array.getElem?_modify, this]
theorem PrgAt.start (h : Ahead w p ao cap L c f R) : PrgAt w ((w.alloc (.cells #[.slice none 0 0] 41)).alloc (.cells #[.slice none 0 0] 41)) p ao cap L c f R (.slice none 0 0) [] :=
  have hb := TwoBox.start h.lt (.cells #[.slice none 0 0] 41) (.cells #[.slice none 0 0] 41)
  ⟨⟨h.kept (below2a _ _ _), Grow.nil _ _ _ _, hb.on, h.lt, h.tk, by omega, by simp⟩, hb.b0, hb.b1⟩
end
theorem prgRes (W : World) (b : Nat) (u0 : Value) (tmps : Array Value) (ht : tmps[2]? = some (.pointer (some ⟨b, 0, none⟩))) (hb : W.heap[b]? = some (.cells #[u0] 41 (0, 0))) :
    (results Tryd.f31 tmps).run Tryd.prog W = .ok (.agg #[u0]) W := by
  have c0 : W.cell? ⟨b, 0, none⟩ = some u0 := by simp [World.cell?, hb]
  simp [results, Tryd.results31, go_sem, ht, c0]

set_option maxHeartbeats 4000000 in
set_option maxRecDepth 100000 in
theorem program_any {w : World} {p : Nat} {ao : Option Addr} {cap : Nat} {L : List Tok} {c f : Int} {R : List Tok} (h : Ahead w p ao cap L c f R) :
    Calls Tryd.prog 31 #[.pointer (some ⟨p, 0, none⟩)] w (ProgPost w p ao cap L c f (progP c f R)) := by
  obtain ⟨res, hres⟩ : ∃ res, progP c f R = res := ⟨_, rfl⟩
  rw [hres]
  have HRes0 : Hid (progF c f (R.length + 1) [] R = res) := hres
  obtain ⟨Post, hPost⟩ : ∃ Post : Ending → World → Prop, Post = ProgPost w p ao cap L c f res := ⟨_, rfl⟩
  rw [← hPost]
  have PB : Hid (∀ ec eo w', res = .bad ec eo → Only (fun k => k = p) w w' → Post (PEnd ec eo) w') := fun ec eo w' hr ho => by
    rw [hPost, hr]; exact ⟨rfl, ho⟩
  have PG : Hid (∀ b r' v cs w', res = .ok b r' → cs.map Clx.pur = b → cs.length ≤ 512 → Grow elClx 53 w.heap.size w' v cs → Ahead w' p ao cap L c f r' → Only (fun k => k = p) w w' → Post (.returned (.agg #[v])) w') := fun b r' v cs w' hr h1 h2 h3 h4 h5 => by
    rw [hPost, hr]; exact ⟨v, cs, rfl, h1, h2, h3, h4, h5⟩
  have HC0 := hide (PrgAt.start h)
  have H0 := hide h
  clear hPost h hres
  go_enter Tryd.func31, Tryd.ntmps31
  go_wp2
  go_loopw [4] (fun _ wr => ∃ (n : Nat) (cs : List Clx) (R1 : List Tok) (v : Value), cs.length ≤ 512 ∧ R1.length < n ∧ Hid (PrgAt w wr p ao cap L c f R1 v cs) ∧ Hid (progF c f n (cs.map Clx.pur) R1 = res)) (fun _ wr => 70000 - (intOf ((wr.cell? ⟨p, 4, none⟩).getD undef)).toNat)
  case atStart => exact ⟨R.length + 1, [], R, _, by simp, by omega, HC0, HRes0⟩
  case round =>
    clear HC0 HRes0
    obtain ⟨n, cs, R1, v, hcs, hn, HC, HRes⟩ := hrel
    obtain ⟨n, rfl⟩ : ∃ m, n = m + 1 := ⟨n - 1, by omega⟩
    obtain ⟨va, vc, rfl, -⟩ := HC.out.col.gr.shape
    cases hT : takeP c f [1, 0] R1 with
    | bad ec eo =>
      have HT : Hid (∀ (W : World) (g : Nat), W.heap.size = g → Ahead W p ao cap L c f R1 → Calls Tryd.prog 44 #[.pointer (some ⟨p, 0, none⟩), .slice (some ⟨g, 0, none⟩) 2 2] (W.alloc (.cells #[.int .i64 1, .int .i64 0] 3)) fun e w' => e = PEnd ec eo ∧ Below W.heap.size W w') := fun W g hg ha => hg ▸ take_lit_fail [1, 0] ha (by decide) hT
      have HX : Hid (res = .bad ec eo) := by show _ = _; rw [← HRes.out]; exact prog_bad1 hT
      clear hT
      go_wp2_with (go_at_call 44; refine (HT.out _ _ rfl HC.out.col.ah).mono ?_; rintro e w1 ⟨rfl, hb1⟩)
      exact ⟨rfl, PB.out _ _ _ HX.out (HC.out.col.below hb1).end_⟩
    | ok t r1 =>
      have HT : Hid (∀ (W : World) (g : Nat), W.heap.size = g → Ahead W p ao cap L c f R1 → Calls Tryd.prog 44 #[.pointer (some ⟨p, 0, none⟩), .slice (some ⟨g, 0, none⟩) 2 2] (W.alloc (.cells #[.int .i64 1, .int .i64 0] 3)) fun e w' => e = .returned (tokV t) ∧ Ahead w' p ao cap L c f r1 ∧ Only (fun b => b = p) W w') := fun W g hg ha => hg ▸ take_lit_good [1, 0] ha (by decide) hT
      have htg : t.good := HC.out.col.ah.good t (by rw [(take_eq hT).1]; exact List.mem_cons_self)
      have l1 := take_len hT
      unfold tokV at HT
      by_cases h0 : t.k = 0
      · have e0 : (t.k == 0) = true := by simpa using h0
        have HX : Hid (res = .ok (cs.map Clx.pur) r1) := by show _ = _; rw [← HRes.out]; exact prog_end hT h0
        clear hT h0
        go_wp2_with (go_at_call 44; refine (HT.out _ _ rfl HC.out.col.ah).mono ?_; rintro e w1 ⟨rfl, ha1, ho1⟩; have HwR := hide ho1.size; have Hw1 := hide (Nat.le_trans HC.out.col.hi ho1.size); have HC1 := hide ((HC.out.move ho1 ha1).below (belowA w1 (.cells #[.int .i64 t.k, .string t.t, .int .i64 t.n, .int .i64 t.op, .int .i64 (t.off : Int), .int .i64 (t.en : Int)] 30))); clear ha1 ho1 HT; obtain ⟨q0, q1, q2, q3⟩ := HC1.out.cells)
        have hs := HC1.out.col.hi
        have ho2 : Only (fun k => k = w.heap.size) (w1.alloc (.cells #[.int .i64 t.k, .string t.t, .int .i64 t.n, .int .i64 t.op, .int .i64 (t.off : Int), .int .i64 (t.en : Int)] 30)) ((w1.alloc (.cells #[.int .i64 t.k, .string t.t, .int .i64 t.n, .int .i64 t.op, .int .i64 (t.off : Int), .int .i64 (t.en : Int)] 30)).setCell ⟨w.heap.size, 0, none⟩ (.slice va cs.length vc)) := (Only.refl (fun k => k = w.heap.size) _).setCell (p := ⟨w.heap.size, 0, none⟩) rfl _
        obtain ⟨z1, z2⟩ := fin_ahead H0.out HC1.out.col.ah HC1.out.col.on ho2 (Nat.le_refl _)
        refine bodyPost_ret (prgRes _ w.heap.size (.slice va cs.length vc) _ rfl (by have := HC1.out.b0; simp [World.setCell, Array.getElem?_modify, this])) rfl ?_
        exact PG.out _ _ _ _ _ HX.out rfl hcs ((HC1.out.col.gr.above fun b hb hlt => ho2.block b hlt (by omega)).mono (by omega)) z1 z2
      · have e0 : (t.k == 0) = false := by simpa using h0
        by_cases h512 : cs.length = 512
        · have HLm := hide (limit_eq (cs.length : Int) 512 24 (t.off : Int) (h := by omega))
          have HX : Hid (res = .bad 24 (t.off : Int)) := by show _ = _; rw [← HRes.out]; exact prog_lim hT h0 (by rw [List.length_map]; exact h512)
          clear hT h0 h512 hcs
          go_wp2_with (first
            | (go_at_call 44; refine (HT.out _ _ rfl HC.out.col.ah).mono ?_; rintro e w1 ⟨rfl, ha1, ho1⟩; have HwR := hide ho1.size; have Hw1 := hide (Nat.le_trans HC.out.col.hi ho1.size); have HC1 := hide ((HC.out.move ho1 ha1).below (belowA w1 (.cells #[.int .i64 t.k, .string t.t, .int .i64 t.n, .int .i64 t.op, .int .i64 (t.off : Int), .int .i64 (t.en : Int)] 30))); clear ha1 ho1 HT; obtain ⟨q0, q1, q2, q3⟩ := HC1.out.cells)
            | (go_at_call 45; refine (HLm.out _).mono ?_; rintro e w2 ⟨rfl, hw⟩; have hw := hw.symm; subst hw))
          exact ⟨rfl, PB.out _ _ _ HX.out HC1.out.col.end_⟩
        · have HLm := hide (limit_ok (cs.length : Int) 512 24 (t.off : Int) (h := by omega))
          have hcs5 : cs.length < 512 := by omega
          have HCl0 := fun (W : World) (ha : Ahead W p ao cap L c f r1) => clause_any t ha htg
          unfold tokV at HCl0
          cases hC : clauseP c f t r1 with
          | bad ec eo =>
            rw [hC] at HCl0
            have HCl := hide HCl0
            have HX : Hid (res = .bad ec eo) := by show _ = _; rw [← HRes.out]; exact prog_cls hT h0 (by rw [List.length_map]; exact h512) hC
            clear hT h0 h512 hC HCl0
            go_wp2_with (first
              | (go_at_call 44; refine (HT.out _ _ rfl HC.out.col.ah).mono ?_; rintro e w1 ⟨rfl, ha1, ho1⟩; have HwR := hide ho1.size; have Hw1 := hide (Nat.le_trans HC.out.col.hi ho1.size); have HC1 := hide ((HC.out.move ho1 ha1).below (belowA w1 (.cells #[.int .i64 t.k, .string t.t, .int .i64 t.n, .int .i64 t.op, .int .i64 (t.off : Int), .int .i64 (t.en : Int)] 30))); clear ha1 ho1 HT; obtain ⟨q0, q1, q2, q3⟩ := HC1.out.cells)
              | (go_at_call 45; refine (HLm.out _).mono ?_; rintro e w2 ⟨⟨v2, rfl⟩, hw⟩; have hw := hw.symm; subst hw))
            go_region_with (first
              | (go_at_call 46; refine (HCl.out _ (by first | exact HC1.out.col.ah.drew | exact HC1.out.col.ah)).mono ?_; intro e w3 hq; obtain ⟨rfl, ho3⟩ := clsPost_bad hq; clear hq; refine panic_ends (P := Tryd.prog) (w := w3) ⟨rfl, PB.out _ _ _ HX.out (by first | exact HC1.out.drew.col.endM ho3 | exact HC1.out.col.endM ho3)⟩ ?_))
            all_goals trivial
          | ok x r2 =>
            rw [hC] at HCl0
            have HCl := hide HCl0
            have l2 := clause_len hC
            have HX : Hid (progF c f n (cs.map Clx.pur ++ [x]) r2 = res) := by show _ = _; rw [← HRes.out]; exact (prog_more hT h0 (by rw [List.length_map]; exact h512) hC).symm
            have HLn : Hid (r2.length < R1.length ∧ r2.length < n) := ⟨by omega, by omega⟩
            obtain ⟨ix, isz⟩ := HC.out.col.ah.index
            have HIx := hide (And.intro ix isz)
            clear hT h0 h512 hC HCl0 l1 l2 ix isz
            go_wp2_with (first
              | (go_at_call 44; refine (HT.out _ _ rfl HC.out.col.ah).mono ?_; rintro e w1 ⟨rfl, ha1, ho1⟩; have HwR := hide ho1.size; have Hw1 := hide (Nat.le_trans HC.out.col.hi ho1.size); have HC1 := hide ((HC.out.move ho1 ha1).below (belowA w1 (.cells #[.int .i64 t.k, .string t.t, .int .i64 t.n, .int .i64 t.op, .int .i64 (t.off : Int), .int .i64 (t.en : Int)] 30))); clear ha1 ho1 HT; obtain ⟨q0, q1, q2, q3⟩ := HC1.out.cells)
              | (go_at_call 45; refine (HLm.out _).mono ?_; rintro e w2 ⟨⟨v2, rfl⟩, hw⟩; have hw := hw.symm; subst hw))
            obtain ⟨Z, hZ⟩ : ∃ Z, Z = w1.alloc (.cells #[.int .i64 t.k, .string t.t, .int .i64 t.n, .int .i64 t.op, .int .i64 (t.off : Int), .int .i64 (t.en : Int)] 30) := ⟨_, rfl⟩
            rw [← hZ] at HC1 ⊢
            have hTk : Z.heap[w1.heap.size]? = some (.cells #[.int .i64 t.k, .string t.t, .int .i64 t.n, .int .i64 t.op, .int .i64 (t.off : Int), .int .i64 (t.en : Int)] 30 (0, 0)) := by rw [hZ]; exact heap_alloc_new w1 _
            have hw1 : w.heap.size + 2 ≤ w1.heap.size := Hw1.out
            have HSof : Hid (∀ V : World, V.heap[w.heap.size + 1]? = some (.cells #[.slice va cs.length vc] 41 (0, 0)) → V.heap[w1.heap.size]? = some (.cells #[.int .i64 t.k, .string t.t, .int .i64 t.n, .int .i64 t.op, .int .i64 (t.off : Int), .int .i64 (t.en : Int)] 30 (0, 0)) → V.cell? ⟨w.heap.size + 1, 0, none⟩ = some (.slice va cs.length vc) ∧ V.cell? ⟨w1.heap.size, 0, none⟩ = some (.int .i64 t.k) ∧ V.cell? ⟨w1.heap.size, 1, none⟩ = some (.string t.t) ∧ V.cell? ⟨w1.heap.size, 2, none⟩ = some (.int .i64 t.n) ∧ V.cell? ⟨w1.heap.size, 3, none⟩ = some (.int .i64 t.op) ∧ V.cell? ⟨w1.heap.size, 4, none⟩ = some (.int .i64 (t.off : Int)) ∧ V.cell? ⟨w1.heap.size, 5, none⟩ = some (.int .i64 (t.en : Int))) := fun V h1 h2 => ⟨by simp [World.cell?, h1], tok_cells h2⟩
            have HTk := hide hTk
            clear hZ
            clear q0 q1 q2 q3
            refine wp_region_last (by kernel_rfl) (fun V => V.cell? ⟨w.heap.size + 1, 0, none⟩ = some (.slice va cs.length vc) ∧ V.cell? ⟨w1.heap.size, 0, none⟩ = some (.int .i64 t.k) ∧ V.cell? ⟨w1.heap.size, 1, none⟩ = some (.string t.t) ∧ V.cell? ⟨w1.heap.size, 2, none⟩ = some (.int .i64 t.n) ∧ V.cell? ⟨w1.heap.size, 3, none⟩ = some (.int .i64 t.op) ∧ V.cell? ⟨w1.heap.size, 4, none⟩ = some (.int .i64 (t.off : Int)) ∧ V.cell? ⟨w1.heap.size, 5, none⟩ = some (.int .i64 (t.en : Int))) 8 ?_
            have HS1 := HSof.out Z.drew HC1.out.drew.b1 hTk
            refine wpAnyM_take (i := 0) (v := ?_) rfl (by kernel_rfl) (by kernel_rfl) (by kernel_rfl) (by kernel_rfl) (fun _ _ _ h => h) HS1 (Or.inl ⟨by rfl, ?_⟩) ?_
            rotate_left
            · (intro w hSw; (try dsimp only at hSw); go_simp; try with_reducible rfl)
            simp only [Act.put, List.setIfInBounds_toArray, List.set_cons_zero, List.set_cons_succ]
            refine wpAnyM_take (i := 1) (v := ?_) rfl (by kernel_rfl) (by kernel_rfl) (by kernel_rfl) (by kernel_rfl) (fun _ _ _ h => h) HS1 (Or.inl ⟨by rfl, ?_⟩) ?_
            rotate_left
            · (intro w hSw; (try dsimp only at hSw); go_simp; try with_reducible rfl)
            simp only [Act.put, List.setIfInBounds_toArray, List.set_cons_zero, List.set_cons_succ]
            refine wpAnyM_take (i := 2) (v := ?_) rfl (by kernel_rfl) (by kernel_rfl) (by kernel_rfl) (by kernel_rfl) (fun _ _ _ h => h) HS1 (Or.inl ⟨by rfl, ?_⟩) ?_
            rotate_left
            · (intro w hSw; (try dsimp only at hSw); go_simp; try with_reducible rfl)
            simp only [Act.put, List.setIfInBounds_toArray, List.set_cons_zero, List.set_cons_succ]
            refine wpAnyM_take (i := 3) (v := ?_) rfl (by kernel_rfl) (by kernel_rfl) (by kernel_rfl) (by kernel_rfl) (fun _ _ _ h => h) HS1 (Or.inl ⟨by rfl, ?_⟩) ?_
            rotate_left
            · (intro w hSw; (try dsimp only at hSw); go_simp; try with_reducible rfl)
            simp only [Act.put, List.setIfInBounds_toArray, List.set_cons_zero, List.set_cons_succ]
            refine wpAnyM_one (i := 4) (by kernel_rfl) rfl (fun K hK => ?_)
            go_simp
            refine (HCl.out _ HC1.out.drew.col.ah).mono ?_
            intro e w3 hq
            obtain ⟨⟨⟨ap, av, aoff, ats⟩, bv, ls⟩, rfl, hpur, hok, ha3, ho3⟩ := clsPost_ok hq
            clear hq
            obtain ⟨xa, xc, rfl, -⟩ := (show Lst elTrm _ _ av ats from hok.1.2.2).shape
            obtain ⟨ba, bc, rfl, -⟩ := (show Lst elLix _ _ bv ls from hok.2).shape
            have HC3 := hide (HC1.out.drew.move ho3 ha3)
            have HOk3 := HC1.out.drew.col.gr.behind HC1.out.drew.col.hi elClx hok
            have hTk3 : w3.heap[w1.heap.size]? = some (.cells #[.int .i64 t.k, .string t.t, .int .i64 t.n, .int .i64 t.op, .int .i64 (t.off : Int), .int .i64 (t.en : Int)] 30 (0, 0)) := box_moved (W := Z.drew) hTk (by have := HC1.out.col.pl; omega) ho3
            have HPu := hide hpur
            have HOk4 := hide (elClx.move HOk3 fun b hlt hF => ⟨hF, (belowA w3 (.cells #[.string ap, .slice xa ats.length xc, .int .i64 aoff, .slice ba ls.length bc] 53)).block b hlt⟩)
            have HC4 := hide (HC3.out.below (belowA w3 (.cells #[.string ap, .slice xa ats.length xc, .int .i64 aoff, .slice ba ls.length bc] 53)))
            have hlt3 := (Array.getElem?_eq_some_iff.1 hTk3).1
            have hTk4 : (w3.alloc (.cells #[.string ap, .slice xa ats.length xc, .int .i64 aoff, .slice ba ls.length bc] 53)).heap[w1.heap.size]? = some (.cells #[.int .i64 t.k, .string t.t, .int .i64 t.n, .int .i64 t.op, .int .i64 (t.off : Int), .int .i64 (t.en : Int)] 30 (0, 0)) := by rw [(belowA w3 (.cells #[.string ap, .slice xa ats.length xc, .int .i64 aoff, .slice ba ls.length bc] 53)).block _ hlt3]; exact hTk3
            clear hpur hok ha3 ho3 HOk3
            unfold Clx.val
            have HS3 := HSof.out w3 HC3.out.b1 hTk3
            refine hK.out _ _ HS3 (fun _ => ?_)
            clear hK K HS1
            try simp only [Act.put, List.setIfInBounds_toArray, List.set_cons_zero, List.set_cons_succ]
            refine wpAnyM_one (i := 5) (by kernel_rfl) rfl (fun K hK => ?_)
            go_simp
            have HS4 := HSof.out _ HC4.out.b1 hTk4
            refine hK.out _ _ HS4 (fun _ => ?_)
            clear hK K HS3
            refine wpAnyM_one (i := 6) (by kernel_rfl) rfl (fun K hK => ?_)
            obtain ⟨i0, hi0, hz0, hz1, hz2⟩ := info_parts Tryd.infoCls
            refine step_push (w0 := w3.alloc (.cells #[.string ap, .slice xa ats.length xc, .int .i64 aoff, .slice ba ls.length bc] 53)) elClx (by rfl) _ _ _ (by rfl) (w.heap.size + 2) 53 i0 _ 72 Tryd.underlying39 hi0 hz0 hz1 hz2 rfl (by decide) (.slice va cs.length vc) cs cs.length rfl (by rfl) HC4.out.col.gr ⟨⟨ap, .slice xa ats.length xc, aoff, ats⟩, .slice ba ls.length bc, ls⟩ w3.heap.size 1 (by rfl) (fun j u hu => new_cells (cs := #[.string ap, .slice xa ats.length xc, .int .i64 aoff, .slice ba ls.length bc]) j u hu) HOk4.out (by omega) (Below.refl _ _) HC4.out.col.hi ?_
            intro g cap' w5 HG5 HB5 HGr
            clear HB5 hi0 hz0 hz1 hz2 i0
            have hb5 := HC4.out.far HGr.out
            have hTk5 : w5.heap[w1.heap.size]? = some (.cells #[.int .i64 t.k, .string t.t, .int .i64 t.n, .int .i64 t.op, .int .i64 (t.off : Int), .int .i64 (t.en : Int)] 30 (0, 0)) := by rw [HGr.out.block w1.heap.size (by have := (belowA w3 (.cells #[.string ap, .slice xa ats.length xc, .int .i64 aoff, .slice ba ls.length bc] 53)).size; omega) (fun e => by have := own_lt6 HC.out.col.gr.1 _ e.symm; have := HwR.out; omega)]; exact hTk4
            have HS5 := HSof.out w5 hb5 hTk5
            have HC5 := hide (HC4.out.push HGr.out HG5.out)
            refine hK.out _ _ HS5 (fun _ => ?_)
            clear hK K HS4 HSof HOk4 HC4 HC3 HGr HG5
            have c5 : w5.cell? ⟨w.heap.size + 1, 0, none⟩ = some (.slice va cs.length vc) := by simp [World.cell?, hb5]
            have z5 : w5.frozen? ⟨w.heap.size + 1, 0, none⟩ = false := by simp [World.frozen?, hb5]
            clear hb5 hTk5 hTk4 hTk3 hTk hlt3
            try simp only [Act.put, List.setIfInBounds_toArray, List.set_cons_zero, List.set_cons_succ]
            refine wpAnyM_take (i := 7) (v := ?_) rfl (by kernel_rfl) (by kernel_rfl) (by kernel_rfl) (by kernel_rfl) (fun _ _ _ h => h) HS5 (Or.inl ⟨by rfl, ?_⟩) ?_
            rotate_left
            · (intro w hSw; (try dsimp only at hSw); go_simp; try with_reducible rfl)
            simp only [Act.put, List.setIfInBounds_toArray, List.set_cons_zero, List.set_cons_succ]
            clear HS5
            refine wpAnyM_end (by kernel_rfl) rfl (by kernel_rfl) (fun K hK => ?_)
            go_simp
            refine hK.out _ _ ?_
            clear hK K
            go_wp2
            go_roundw
            case rel => exact ⟨n, cs ++ [⟨⟨ap, .slice xa ats.length xc, aoff, ats⟩, .slice ba ls.length bc, ls⟩], r2, _, by simp; omega, HLn.out.2, HC5, by show _ = _; rw [List.map_append, List.map_singleton, HPu.out]; exact HX.out⟩
            case measure =>
              obtain ⟨jx, -⟩ := HC5.out.col.ah.index
              have h1 := HLn.out
              have h2 := HIx.out
              omega
end Go.Proofs.YtjofiibfgfdleaaDoor
