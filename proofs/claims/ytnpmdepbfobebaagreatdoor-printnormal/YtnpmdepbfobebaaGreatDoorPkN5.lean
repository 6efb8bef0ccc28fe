/- parse's reader takes a clause. The laws' own sameTerm, sameAtom of edictlaw04, at trees that differ in places alone. What lex's tokens and parse's trees are: well formed. What parse makes of a text is well formed. The two ways in which programs are told of in memory: from the lists' to the rows'. What is well formed: nothing speaks against it, its text is of printable bytes, a line a clause, and tells no places. The laws' own sameBody, sameProgram of edictlaw04, at trees that differ in places alone. The laws' own sameProgram of edictlaw04, at trees that differ in places alone. The law's text of few clauses is read as just as many. The laws' own mod and lines of edictlaw04. -/
import Derived.Test.YtnpmdepbfobebaaGreatDoorProg
import Derived.Test.YtnpmdepbfobebaaGreatDoorPkN4
import Derived.Test.YtnpmdepbfobebaaGreatDoorSameAtoms
import Derived.Test.YtnpmdepbfobebaaGreatDoorPkN3
import Derived.Test.YtnpmdepbfobebaaGreatDoorForms
import Derived.Test.YtnpmdepbfobebaaGreatDoorTreeMem

namespace Go.Proofs.YtnpmdepbfobebaaGreatDoor
set_option linter.unusedSimpArgs false
set_option linter.unusedVariables false
open Go.RowKit

def Clx.pur (x : Clx) : PCls := ⟨x.h.pur, x.ls.map Lix.pur⟩
def Clx.val (c : Clx) : Value := .agg #[.string c.h.p, c.h.v, .int .i64 c.h.off, c.v]
def ClsPost (w : World) (p : Nat) (ao : Option Addr) (cap : Nat) (L : List Tok) (c f : Int) (res : PR PCls) (e : Ending) (w' : World) : Prop :=
  match res with
  | .bad ec eo => e = PEnd ec eo ∧ Only (fun k => k = p) w w'
  | .ok x r => ∃ a : Clx, e = .returned a.val ∧ a.pur = x ∧ elClx.ok w' (fun b => w.heap.size ≤ b) a ∧ Ahead w' p ao cap L c f r ∧ Only (fun k => k = p) w w'
theorem clsPost_bad {w w' : World} {p : Nat} {ao : Option Addr} {cap : Nat} {L : List Tok} {c f ec eo : Int} {e : Ending} (h : ClsPost w p ao cap L c f (.bad ec eo) e w') : e = PEnd ec eo ∧ Only (fun k => k = p) w w' := h
theorem clsPost_ok {w w' : World} {p : Nat} {ao : Option Addr} {cap : Nat} {L : List Tok} {c f : Int} {x : PCls} {r : List Tok} {e : Ending} (h : ClsPost w p ao cap L c f (.ok x r) e w') : ∃ a : Clx, e = .returned a.val ∧ a.pur = x ∧ elClx.ok w' (fun b => w.heap.size ≤ b) a ∧ Ahead w' p ao cap L c f r ∧ Only (fun k => k = p) w w' := h

theorem boxC_cells {V : World} {b : Nat} {u0 u1 u2 u3 : Value} (h : V.heap[b]? = some (.cells #[u0, u1, u2, u3] 88 (0, 0))) : (V.cell? ⟨b, 0, none⟩ = some u0 ∧ V.cell? ⟨b, 1, none⟩ = some u1 ∧ V.cell? ⟨b, 2, none⟩ = some u2 ∧ V.cell? ⟨b, 3, none⟩ = some u3) ∧ (V.frozen? ⟨b, 0, none⟩ = false ∧ V.frozen? ⟨b, 1, none⟩ = false ∧ V.frozen? ⟨b, 2, none⟩ = false ∧ V.frozen? ⟨b, 3, none⟩ = false) := by
  refine ⟨⟨?_, ?_, ?_, ?_⟩, ⟨?_, ?_, ?_, ?_⟩⟩ <;> simp [World.cell?, World.frozen?, h]
theorem boxC_put {V : World} {b : Nat} {u0 u1 u2 u3 : Value} (h : V.heap[b]? = some (.cells #[u0, u1, u2, u3] 88 (0, 0))) (x0 x1 x2 x3 : Value) :
    ((((V.setCell ⟨b, 0, none⟩ x0).setCell ⟨b, 1, none⟩ x1).setCell ⟨b, 2, none⟩ x2).setCell ⟨b, 3, none⟩ x3).heap[b]? = some (.cells #[x0, x1, x2, x3] 88 (0, 0)) := by
  simp [World.setCell, Array.getElem?_modify, h]
theorem boxC_only {V0 V : World} {S : Nat → Prop} (h : Only S V0 V) (b : Nat) (hb : S b) (x0 x1 x2 x3 : Value) : Only S V0 ((((V.setCell ⟨b, 0, none⟩ x0).setCell ⟨b, 1, none⟩ x1).setCell ⟨b, 2, none⟩ x2).setCell ⟨b, 3, none⟩ x3) :=
  (((h.setCell (p := ⟨b, 0, none⟩) hb _).setCell (p := ⟨b, 1, none⟩) hb _).setCell (p := ⟨b, 2, none⟩) hb _).setCell (p := ⟨b, 3, none⟩) hb _
theorem clsRes (W : World) (b : Nat) (u0 u1 u2 u3 : Value) (tmps : Array Value) (ht : tmps[4]? = some (.pointer (some ⟨b, 0, none⟩))) (hb : W.heap[b]? = some (.cells #[u0, u1, u2, u3] 88 (0, 0))) :
    (results Tryz.f55 tmps).run Tryz.prog W = .ok (.agg #[u0, u1, u2, u3]) W := by
  obtain ⟨⟨c0, c1, c2, c3⟩, -⟩ := boxC_cells hb
  simp [results, Tryz.results55, go_sem, ht, c0, c1, c2, c3]
theorem cls_fin {w W W' : World} {p : Nat} {ao : Option Addr} {cap : Nat} {L : List Tok} {c f : Int} {R0 r : List Tok} {x y : Obj} (h0 : Ahead w p ao cap L c f R0) (hA : Ahead W p ao cap L c f r) (hB : TwoBox w W p x y) {b5 : Nat} (hb5 : w.heap.size + 2 ≤ b5) (a : Clx) (z : PCls) (hz : a.pur = z) (hok : elClx.ok W (fun k => w.heap.size + 2 ≤ k ∧ k ≠ b5) a) (ho : Only (fun k => k = b5 ∨ k = w.heap.size + 1) W W') :
    ClsPost w p ao cap L c f (.ok z r) (.returned a.val) W' :=
  ⟨a, rfl, hz, elClx.move hok fun k hk hF => ⟨by omega, ho.block k hk (by omega)⟩, h0.box hA (ho.mono fun k _ (e : k = b5 ∨ k = w.heap.size + 1) => by omega), only_drop (hB.on.trans (ho.mono fun k _ (e : k = b5 ∨ k = w.heap.size + 1) => .inr (by omega)))⟩
/-- A third box, made behind the two. -/
theorem box_moved {W W' : World} {p b : Nat} {x : Obj} (h : W.heap[b]? = some x) (hp : p ≠ b) (ho : Only (fun k => k = p) W W') : W'.heap[b]? = some x := by
  rw [ho.block _ (Array.getElem?_eq_some_iff.1 h).1 (by omega)]; exact h

set_option maxHeartbeats 4000000 in
set_option maxRecDepth 100000 in
theorem clause_any {w : World} {p : Nat} {ao : Option Addr} {cap : Nat} {L : List Tok} {c f : Int} {R : List Tok} (name : Tok) (h : Ahead w p ao cap L c f R) (hname : name.good) :
    Calls Tryz.prog 55 #[.pointer (some ⟨p, 0, none⟩), tokV name] w (ClsPost w p ao cap L c f (clauseP c f name R)) := by
  have HAt0 := fun (W : World) (ha : Ahead W p ao cap L c f R) => atom_any name ha hname
  have H0 := hide h
  have hp := h.lt
  have HB := hide (TwoBox.start (w := w) hp (.cells #[.int .i64 name.k, .string name.t, .int .i64 name.n, .int .i64 name.op, .int .i64 (name.off : Int), .int .i64 (name.en : Int)] 116) (.cells #[.string ⟨#[]⟩, .slice none 0 0, .int .i64 0, .slice none 0 0] 88))
  have HA0 := hide (h.kept (below2a w (.cells #[.int .i64 name.k, .string name.t, .int .i64 name.n, .int .i64 name.op, .int .i64 (name.off : Int), .int .i64 (name.en : Int)] 116) (.cells #[.string ⟨#[]⟩, .slice none 0 0, .int .i64 0, .slice none 0 0] 88)))
  unfold tokV at HAt0 ⊢
  clear h
  cases hA : atomP c f termKs name R with
  | bad ec eo =>
    rw [show clauseP c f name R = .bad ec eo from by unfold clauseP; rw [hA]]
    rw [hA] at HAt0
    have HAt := hide HAt0
    clear HAt0 hA
    unfold ClsPost
    go_enter Tryz.func55, Tryz.ntmps55
    go_wp2_with (go_at_call 73; refine (HAt.out _ HA0.out).mono ?_; intro e w1 hq; obtain ⟨rfl, ho1⟩ := atmPost_bad hq; clear hq)
    exact ⟨rfl, rfl, only_drop (HB.out.move ho1).on⟩
  | ok a r1 =>
    rw [hA] at HAt0
    have HAt := hide HAt0
    clear HAt0
    cases hT : takeP c f [8, 9] r1 with
    | bad ec eo =>
      have HT : Hid (∀ (W : World) (g : Nat), W.heap.size = g → Ahead W p ao cap L c f r1 → Calls Tryz.prog 51 #[.pointer (some ⟨p, 0, none⟩), .slice (some ⟨g, 0, none⟩) 2 2] (W.alloc (.cells #[.int .i64 8, .int .i64 9] 3)) fun e w' => e = PEnd ec eo ∧ Below W.heap.size W w') := fun W g hg ha => hg ▸ take_lit_fail [8, 9] ha (by decide) hT
      rw [show clauseP c f name R = .bad ec eo from by unfold clauseP; rw [hA]; simp only; rw [hT]]
      clear hA hT
      unfold ClsPost
      go_enter Tryz.func55, Tryz.ntmps55
      go_wp2_with (first
        | (go_at_call 73; refine (HAt.out _ HA0.out).mono ?_; intro e w1 hq; obtain ⟨⟨ap, av, aoff, ats⟩, rfl, hpur, hok, ha1, ho1⟩ := atmPost_ok hq; clear hq; obtain ⟨xa, xc, rfl, -⟩ := (show Lst elTrm _ _ av ats from hok.2.2).shape; have HB1 := hide ((HB.out.move ho1).below (belowA w1 (.cells #[.string ap, .slice xa ats.length xc, .int .i64 aoff, .slice none 0 0] 88))); have HA1 := hide (ha1.kept (belowA w1 (.cells #[.string ap, .slice xa ats.length xc, .int .i64 aoff, .slice none 0 0] 88))); have HPu := hide hpur; have Hs1 := hide (Nat.le_trans (by simp) ho1.size : w.heap.size + 2 ≤ w1.heap.size); have HOk1 := hide (elAtx.move hok fun k hk hF => (⟨⟨by simp at hF; omega, by omega⟩, (belowA w1 (.cells #[.string ap, .slice xa ats.length xc, .int .i64 aoff, .slice none 0 0] 88)).block k hk⟩ : (w.heap.size + 2 ≤ k ∧ k ≠ w1.heap.size) ∧ _)); have HX1 := hide (heap_alloc_new w1 (.cells #[.string ap, .slice xa ats.length xc, .int .i64 aoff, .slice none 0 0] 88)); clear ha1 ho1 hpur hok HAt; unfold Atx.val)
        | (go_at_call 51; refine (HT.out _ _ (by simp) HA1.out).mono ?_; rintro e w2 ⟨rfl, hb2⟩))
      exact ⟨rfl, rfl, only_drop (HB1.out.below hb2).on⟩
    | ok s r2 =>
      have HT : Hid (∀ (W : World) (g : Nat), W.heap.size = g → Ahead W p ao cap L c f r1 → Calls Tryz.prog 51 #[.pointer (some ⟨p, 0, none⟩), .slice (some ⟨g, 0, none⟩) 2 2] (W.alloc (.cells #[.int .i64 8, .int .i64 9] 3)) fun e w' => e = .returned (tokV s) ∧ Ahead w' p ao cap L c f r2 ∧ Only (fun b => b = p) W w') := fun W g hg ha => hg ▸ take_lit_good [8, 9] ha (by decide) hT
      have hfd := tok_kind (.int .i64 s.k) (.string s.t) (.int .i64 s.n) (.int .i64 s.op) (.int .i64 (s.off : Int)) (.int .i64 (s.en : Int))
      unfold tokV at HT
      by_cases h9 : s.k = 9
      · have e9 : (s.k == 9) = true := by simpa using h9
        have HBo0 := fun (W : World) (ha : Ahead W p ao cap L c f r2) => body_any ha
        cases hB : bodyP c f r2 with
        | bad ec eo =>
          rw [hB] at HBo0
          have HBo := hide HBo0
          rw [show clauseP c f name R = .bad ec eo from by unfold clauseP; rw [hA]; simp only; rw [hT]; simp only; rw [if_pos h9, hB]]
          clear hA hT hB HBo0 h9
          unfold ClsPost
          go_enter Tryz.func55, Tryz.ntmps55
          go_wp2_with (first
            | (go_at_call 73; refine (HAt.out _ HA0.out).mono ?_; intro e w1 hq; obtain ⟨⟨ap, av, aoff, ats⟩, rfl, hpur, hok, ha1, ho1⟩ := atmPost_ok hq; clear hq; obtain ⟨xa, xc, rfl, -⟩ := (show Lst elTrm _ _ av ats from hok.2.2).shape; have HB1 := hide ((HB.out.move ho1).below (belowA w1 (.cells #[.string ap, .slice xa ats.length xc, .int .i64 aoff, .slice none 0 0] 88))); have HA1 := hide (ha1.kept (belowA w1 (.cells #[.string ap, .slice xa ats.length xc, .int .i64 aoff, .slice none 0 0] 88))); have HPu := hide hpur; have Hs1 := hide (Nat.le_trans (by simp) ho1.size : w.heap.size + 2 ≤ w1.heap.size); have HOk1 := hide (elAtx.move hok fun k hk hF => (⟨⟨by simp at hF; omega, by omega⟩, (belowA w1 (.cells #[.string ap, .slice xa ats.length xc, .int .i64 aoff, .slice none 0 0] 88)).block k hk⟩ : (w.heap.size + 2 ≤ k ∧ k ≠ w1.heap.size) ∧ _)); have HX1 := hide (heap_alloc_new w1 (.cells #[.string ap, .slice xa ats.length xc, .int .i64 aoff, .slice none 0 0] 88)); clear ha1 ho1 hpur hok HAt; unfold Atx.val)
            | (go_at_call 51; refine (HT.out _ _ (by simp) HA1.out).mono ?_; rintro e w2 ⟨rfl, ha2, ho2⟩; have HA2 := hide ha2; have HB2 := hide (HB1.out.move ho2); have HX2 := hide (box_moved HX1.out (by have := HB1.out.pl; have := Hs1.out; omega) ho2); have HOk2 := hide (elAtx.move HOk1.out fun k hk hF => ⟨hF, ho2.block k hk (by have := HB1.out.pl; omega)⟩); clear ha2 ho2)
            | (go_at_call 61; refine (HBo.out _ HA2.out).mono ?_; intro e w3 hq; obtain ⟨rfl, ho3⟩ := bodyPost_bad hq; clear hq))
          exact ⟨rfl, rfl, only_drop (HB2.out.move ho3).on⟩
        | ok b r3 =>
          rw [hB] at HBo0
          have HBo := hide HBo0
          rw [show clauseP c f name R = .ok ⟨a, b⟩ r3 from by unfold clauseP; rw [hA]; simp only; rw [hT]; simp only; rw [if_pos h9, hB]]
          clear hA hT hB HBo0 h9
          unfold ClsPost
          go_enter Tryz.func55, Tryz.ntmps55
          go_wp2_with (first
            | (go_at_call 73; refine (HAt.out _ HA0.out).mono ?_; intro e w1 hq; obtain ⟨⟨ap, av, aoff, ats⟩, rfl, hpur, hok, ha1, ho1⟩ := atmPost_ok hq; clear hq; obtain ⟨xa, xc, rfl, -⟩ := (show Lst elTrm _ _ av ats from hok.2.2).shape; have HB1 := hide ((HB.out.move ho1).below (belowA w1 (.cells #[.string ap, .slice xa ats.length xc, .int .i64 aoff, .slice none 0 0] 88))); have HA1 := hide (ha1.kept (belowA w1 (.cells #[.string ap, .slice xa ats.length xc, .int .i64 aoff, .slice none 0 0] 88))); have HPu := hide hpur; have Hs1 := hide (Nat.le_trans (by simp) ho1.size : w.heap.size + 2 ≤ w1.heap.size); have HOk1 := hide (elAtx.move hok fun k hk hF => (⟨⟨by simp at hF; omega, by omega⟩, (belowA w1 (.cells #[.string ap, .slice xa ats.length xc, .int .i64 aoff, .slice none 0 0] 88)).block k hk⟩ : (w.heap.size + 2 ≤ k ∧ k ≠ w1.heap.size) ∧ _)); have HX1 := hide (heap_alloc_new w1 (.cells #[.string ap, .slice xa ats.length xc, .int .i64 aoff, .slice none 0 0] 88)); clear ha1 ho1 hpur hok HAt; unfold Atx.val)
            | (go_at_call 51; refine (HT.out _ _ (by simp) HA1.out).mono ?_; rintro e w2 ⟨rfl, ha2, ho2⟩; have HA2 := hide ha2; have HB2 := hide (HB1.out.move ho2); have HX2 := hide (box_moved HX1.out (by have := HB1.out.pl; have := Hs1.out; omega) ho2); have HOk2 := hide (elAtx.move HOk1.out fun k hk hF => ⟨hF, ho2.block k hk (by have := HB1.out.pl; omega)⟩); clear ha2 ho2)
            | (go_at_call 61; refine (HBo.out _ HA2.out).mono ?_; intro e w3 hq; obtain ⟨bv, ls, rfl, hpur3, hl3, hgr3, ha3, ho3⟩ := bodyPost_ok hq; clear hq; obtain ⟨ba, bc, rfl, -⟩ := hgr3.shape; have HLs := hide (hgr3.new (by omega)); have HP3 := hide hpur3; have HA3 := hide ha3; have HB3 := hide (HB2.out.move ho3); have HX3 := hide (box_moved HX2.out (by have := HB1.out.pl; have := Hs1.out; omega) ho3); have HOk3 := hide (elAtx.move HOk2.out fun k hk hF => ⟨hF, ho3.block k hk (by have := HB1.out.pl; omega)⟩); have hs2 := HB2.out.lt; have hs1 := Hs1.out; clear hpur3 hl3 hgr3 ha3 ho3; obtain ⟨⟨k0, k1, k2, k3⟩, ⟨l0, l1, l2, l3⟩⟩ := boxC_cells HX3.out; obtain ⟨⟨m0, m1, m2, m3⟩, ⟨n0, n1, n2, n3⟩⟩ := boxC_cells HB3.out.b1; have q1 : ¬ w1.heap.size = w.heap.size + 1 := (by omega); have q2 : ¬ w.heap.size + 1 = w1.heap.size := (by omega)))
          have hbk : (w3.setCell ⟨w1.heap.size, 3, none⟩ (.slice ba ls.length bc)).heap[w.heap.size + 1]? = some (.cells #[.string ⟨#[]⟩, .slice none 0 0, .int .i64 0, .slice none 0 0] 88 (0, 0)) := by
            rw [((Only.refl (fun k => k = w1.heap.size) w3).setCell (p := ⟨w1.heap.size, 3, none⟩) rfl _).block _ (Array.getElem?_eq_some_iff.1 HB3.out.b1).1 q2]; exact HB3.out.b1
          have hlt := (Array.getElem?_eq_some_iff.1 HX2.out).1
          refine bodyPost_ret (clsRes _ (w.heap.size + 1) _ _ _ _ _ rfl (boxC_put hbk _ _ _ _)) rfl ?_
          exact cls_fin H0.out HA3.out HB3.out hs1 ⟨⟨ap, _, aoff, ats⟩, .slice ba ls.length bc, ls⟩ _ (by unfold Clx.pur; rw [HPu.out, HP3.out]) ⟨HOk3.out, HLs.out.move fun k _ hF => ⟨⟨by omega, by omega⟩, rfl⟩⟩ (boxC_only ((Only.refl _ w3).setCell (p := ⟨w1.heap.size, 3, none⟩) (.inl rfl) _) _ (.inr rfl) _ _ _ _)
      · have e9 : (s.k == 9) = false := by simpa using h9
        rw [show clauseP c f name R = .ok ⟨a, []⟩ r2 from by unfold clauseP; rw [hA]; simp only; rw [hT]; simp only; rw [if_neg h9]]
        clear hA hT h9
        unfold ClsPost
        go_enter Tryz.func55, Tryz.ntmps55
        go_wp2_with (first
          | (go_at_call 73; refine (HAt.out _ HA0.out).mono ?_; intro e w1 hq; obtain ⟨⟨ap, av, aoff, ats⟩, rfl, hpur, hok, ha1, ho1⟩ := atmPost_ok hq; clear hq; obtain ⟨xa, xc, rfl, -⟩ := (show Lst elTrm _ _ av ats from hok.2.2).shape; have HB1 := hide ((HB.out.move ho1).below (belowA w1 (.cells #[.string ap, .slice xa ats.length xc, .int .i64 aoff, .slice none 0 0] 88))); have HA1 := hide (ha1.kept (belowA w1 (.cells #[.string ap, .slice xa ats.length xc, .int .i64 aoff, .slice none 0 0] 88))); have HPu := hide hpur; have Hs1 := hide (Nat.le_trans (by simp) ho1.size : w.heap.size + 2 ≤ w1.heap.size); have HOk1 := hide (elAtx.move hok fun k hk hF => (⟨⟨by simp at hF; omega, by omega⟩, (belowA w1 (.cells #[.string ap, .slice xa ats.length xc, .int .i64 aoff, .slice none 0 0] 88)).block k hk⟩ : (w.heap.size + 2 ≤ k ∧ k ≠ w1.heap.size) ∧ _)); have HX1 := hide (heap_alloc_new w1 (.cells #[.string ap, .slice xa ats.length xc, .int .i64 aoff, .slice none 0 0] 88)); clear ha1 ho1 hpur hok HAt; unfold Atx.val)
          | (go_at_call 51; refine (HT.out _ _ (by simp) HA1.out).mono ?_; rintro e w2 ⟨rfl, ha2, ho2⟩; have HA2 := hide ha2; have HB2 := hide (HB1.out.move ho2); have HX2 := hide (box_moved HX1.out (by have := HB1.out.pl; have := Hs1.out; omega) ho2); have HOk2 := hide (elAtx.move HOk1.out fun k hk hF => ⟨hF, ho2.block k hk (by have := HB1.out.pl; omega)⟩); clear ha2 ho2; have hs1 := Hs1.out; obtain ⟨⟨k0, k1, k2, k3⟩, ⟨l0, l1, l2, l3⟩⟩ := boxC_cells HX2.out; obtain ⟨⟨m0, m1, m2, m3⟩, ⟨n0, n1, n2, n3⟩⟩ := boxC_cells HB2.out.b1; have q1 : ¬ w1.heap.size = w.heap.size + 1 := (by omega); have q2 : ¬ w.heap.size + 1 = w1.heap.size := (by omega)))
        refine bodyPost_ret (clsRes _ (w.heap.size + 1) _ _ _ _ _ rfl (boxC_put HB2.out.b1 _ _ _ _)) rfl ?_
        exact cls_fin H0.out HA2.out HB2.out Hs1.out ⟨⟨ap, _, aoff, ats⟩, .slice none 0 0, []⟩ _ (by unfold Clx.pur; rw [HPu.out]; rfl) ⟨HOk2.out, Lst.nil _ _ _⟩ (boxC_only (Only.refl _ w2) _ (.inr rfl) _ _ _ _)
end Go.Proofs.YtnpmdepbfobebaaGreatDoor

namespace Go.Proofs.YtnpmdepbfobebaaGreatDoor
set_option linter.unusedSimpArgs false
set_option linter.unusedVariables false
open Go.RowKit

set_option maxRecDepth 100000 in
set_option maxHeartbeats 1000000 in
theorem sameTerm4 (t u : Trm) (h : t.st = u.st) (w : World) :
    Calls Tryz.prog 42 #[.agg #[.int .i64 t.k, .int .i64 t.n, .string t.s, .int .i64 t.off], .agg #[.int .i64 u.k, .int .i64 u.n, .string u.s, .int .i64 u.off]] w fun e w' => e = .returned (.bool true) ∧ Below w.heap.size w w' := by
  obtain ⟨k, n, s, o⟩ := t
  obtain ⟨k', n', s', o'⟩ := u
  simp only [Trm.st, Trm.mk.injEq] at h
  obtain ⟨rfl, rfl, rfl, -⟩ := h
  have q1 : (k == k) = true := by simp
  have q2 : (n == n) = true := by simp
  have q3 : (s.toList == s.toList) = true := by simp
  go_enter Tryz.func42, Tryz.ntmps42
  go_wp2
  go_ret
  exact ⟨rfl, below2a _ _ _⟩

set_option maxRecDepth 100000 in
set_option maxHeartbeats 2000000 in
theorem sameAtom4 {w : World} {F G : Nat → Prop} (pr : ByteArray) (o1 o2 : Int) (ts us : List Trm) (v1 v2 : Value) (h1 : Lst elTrm w F v1 ts) (h2 : Lst elTrm w G v2 us) (he : ts.map Trm.st = us.map Trm.st) :
    Calls Tryz.prog 37 #[.agg #[.string pr, v1, .int .i64 o1], .agg #[.string pr, v2, .int .i64 o2]] w fun e w' => e = .returned (.bool true) ∧ Below w.heap.size w w' := by
  obtain ⟨a1, c1, rfl, -, -, hlen⟩ := h1.shape
  obtain ⟨a2, c2, rfl, -⟩ := h2.shape
  have hl : us.length = ts.length := by have := congrArg List.length he; simpa using this.symm
  have HE := hide he
  have HL := hide hl
  rw [hl] at h2 ⊢
  have HH1 := hide h1
  have HH2 := hide h2
  clear h1 h2 he hl
  obtain ⟨n, hn⟩ : ∃ n, n = ts.length := ⟨_, rfl⟩
  rw [← hn] at HL HH1 HH2 hlen ⊢
  have HN := hide hn
  clear hn
  have hps : (pr.toList != pr.toList) = false := by simp
  have hnn : ((n : Int) != (n : Int)) = false := by simp
  go_enter Tryz.func37, Tryz.ntmps37
  go_wp2
  obtain ⟨Y, hY⟩ : ∃ Y, Y = (w.alloc (.cells #[.string pr, .slice a1 n c1, .int .i64 o1] 42)).alloc (.cells #[.string pr, .slice a2 n c2, .int .i64 o2] 42) := ⟨_, rfl⟩
  have HB0 : Hid (Below w.heap.size w Y) := by rw [hY]; exact below2a _ _ _
  have HP : Hid (Y.cell? ⟨w.heap.size, 1, none⟩ = some (.slice a1 n c1) ∧ Y.cell? ⟨w.heap.size + 1, 1, none⟩ = some (.slice a2 n c2)) := by
    show _ ∧ _
    rw [hY]
    constructor <;> simp
  rw [← hY]
  clear hY
  go_loopw [5] (fun i wl => ∃ k : Nat, k ≤ n ∧ i = .int .i64 k ∧ Hid (Below Y.heap.size Y wl)) (fun i _ => n - (intOf i).toNat)
  case atStart => exact ⟨0, by omega, rfl, Below.refl _ _⟩
  case round =>
    obtain ⟨k, hk, rfl, HB⟩ := hrel
    have HBw := hide (HB0.out.trans (HB.out.mono HB0.out.size))
    have p1 := kept_cell HB.out HP.out.1
    have p2 := kept_cell HB.out HP.out.2
    by_cases hlt : k < n
    · have hi : (k : Int) < (n : Int) := by omega
      have hi0 : (0 : Int) ≤ (k : Int) := by omega
      rw [HN.out] at HH1
      rw [← HL.out] at HH2
      obtain ⟨b1, q1, rfl, -, -, hr1⟩ := HH1.out.row (by have := HN.out; omega)
      obtain ⟨b2, q2, rfl, -, -, hr2⟩ := HH2.out.row (by have := HL.out; omega)
      obtain ⟨x, hx⟩ : ∃ x, ts[k]? = some x := ⟨_, List.getElem?_eq_getElem (by have := HN.out; omega)⟩
      obtain ⟨y, hy⟩ : ∃ y, us[k]? = some y := ⟨_, List.getElem?_eq_getElem (by have := HL.out; omega)⟩
      have hst : x.st = y.st := by
        have := congrArg (fun l => l[k]?) HE.out
        simp only [List.getElem?_map, hx, hy, Option.map_some, Option.some.injEq] at this
        exact this
      have HS := hide (fun V => sameTerm4 x y hst V)
      have x0 := over_cell (kept_cell HBw.out (hr1 k x hx 0 _ rfl))
      have x1 := over_cell (kept_cell HBw.out (hr1 k x hx 1 _ rfl))
      have x2 := over_cell (kept_cell HBw.out (hr1 k x hx 2 _ rfl))
      have x3 := over_cell (kept_cell HBw.out (hr1 k x hx 3 _ rfl))
      have y0 := over_cell (kept_cell HBw.out (hr2 k y hy 0 _ rfl))
      have y1 := over_cell (kept_cell HBw.out (hr2 k y hy 1 _ rfl))
      have y2 := over_cell (kept_cell HBw.out (hr2 k y hy 2 _ rfl))
      have y3 := over_cell (kept_cell HBw.out (hr2 k y hy 3 _ rfl))
      simp only [elTrm, Nat.add_zero] at x0 x1 x2 x3 y0 y1 y2 y3
      clear hr1 hr2 hx hy hst
      go_wp2
      refine wp_region_over (fun W => W = wr) (by kernel_rfl) (by kernel_rfl) rfl ?_
      rintro W rfl
      have p1' := over_cell p1
      have p2' := over_cell p2
      clear p1 p2
      repeat (go_big_quiet_step (first | (go_at_call 42; exact calls_over (HS.out _))))
      refine wpQuiet_nil ?_
      rintro _ ⟨z, rfl⟩
      have HB3 := hide (HB.out.trans ((over_below W z).mono HB.out.size))
      clear x0 x1 x2 x3 y0 y1 y2 y3 p1' p2' HS
      go_wp2
      go_roundw
      case rel => exact ⟨k + 1, by omega, by go_num, HB3⟩
      case measure => simp [intOf]; omega
    · obtain rfl : k = n := by omega
      have hi : ¬ (k : Int) < (k : Int) := by omega
      go_wp2
      go_ret
      exact ⟨rfl, HBw.out⟩
end Go.Proofs.YtnpmdepbfobebaaGreatDoor

namespace Go.Proofs.YtnpmdepbfobebaaGreatDoor
set_option linter.unusedSimpArgs false
set_option linter.unusedVariables false
open Go.RowKit

def Tok.fine (t : Tok) : Prop :=
  (t.k = 1 → isNameL t.t.toList = true ∧ t.n = 0) ∧ (t.k = 2 → isVarL t.t.toList = true ∧ t.n = 0) ∧ (t.k = 3 → t.t = ⟨#[]⟩) ∧ (t.k = 4 → t.t.size ≤ 255 ∧ t.n = 0) ∧ (t.k = 11 → 1 ≤ t.op ∧ t.op ≤ 6) ∧ t.good
theorem punct_mem {l : List UInt8} {n : Nat} {k op : Int} : ∀ {ms : List (List UInt8 × Int × Int)}, punctL ms l = some (n, k, op) → ∃ m ∈ ms, k = m.2.1 ∧ op = m.2.2
  | [], h => by simp [punctL] at h
  | m :: r, h => by
    unfold punctL at h
    by_cases h1 : Lib.hasPrefix l m.1 = true
    · rw [if_pos h1] at h
      simp only [Option.some.injEq, Prod.mk.injEq] at h
      obtain ⟨-, rfl, rfl⟩ := h
      exact ⟨m, List.mem_cons_self, rfl, rfl⟩
    · rw [if_neg h1] at h
      obtain ⟨x, hx, h2⟩ := punct_mem h
      exact ⟨x, List.mem_cons_of_mem _ hx, h2⟩
theorem marks_fine : ∀ m ∈ marksT, m.2.1 ≠ 1 ∧ m.2.1 ≠ 2 ∧ m.2.1 ≠ 3 ∧ m.2.1 ≠ 4 ∧ (m.2.1 = 11 → 1 ≤ m.2.2 ∧ m.2.2 ≤ 6) := by decide
theorem run_word : ∀ (l : List UInt8), ∀ b ∈ l.take (runC l), bWord (b.toNat : Int) = true
  | [], b, h => by simp [runC] at h
  | c :: r, b, h => by
    unfold runC at h
    by_cases hc : bWord (c.toNat : Int) = true
    · rw [if_pos hc, List.take_succ_cons] at h
      rcases List.mem_cons.1 h with rfl | h
      · exact hc
      · exact run_word r b h
    · rw [if_neg hc] at h; simp at h
theorem word_is {s : ByteArray} {g : Nat} (hg : g < s.size) (hw : (bLow (s[g].toNat : Int) || (bUp (s[g].toNat : Int) || (s[g].toNat : Int) == 95)) = true) :
    ∃ r, (s.extract g (g + runC (rest s g))).data.toList = s[g] :: r ∧ (∀ b ∈ s[g] :: r, bWord (b.toNat : Int) = true) ∧ (s[g] :: r).length = runC (rest s g) := by
  have e1 := extract_list s g (runC (rest s g))
  have hb := first_byte s g hg
  obtain ⟨r0, hr⟩ : ∃ r0, rest s g = s[g] :: r0 := by
    cases h : rest s g with
    | nil => rw [h] at hb; cases hb
    | cons a r0 => rw [h] at hb; cases hb; exact ⟨r0, rfl⟩
  have hbw : bWord (s[g].toNat : Int) = true := by
    unfold bWord
    have hw' := hw
    rw [Bool.or_eq_true, Bool.or_eq_true] at hw'
    rcases hw' with h | h | h <;> (rw [h]; simp)
  have hall := run_word (rest s g)
  have hle := runC_le (rest s g)
  have hlen : ((rest s g).take (runC (rest s g))).length = runC (rest s g) := by rw [List.length_take]; omega
  have hc : runC (rest s g) = runC r0 + 1 := by rw [hr]; show (if bWord (s[g].toNat : Int) = true then runC r0 + 1 else 0) = _; rw [if_pos hbw]
  rw [hc] at e1 hall hlen ⊢
  rw [hr, List.take_succ_cons] at e1 hall hlen
  exact ⟨r0.take (runC r0), e1, hall, hlen⟩
theorem tokAt_fine {s : ByteArray} {g : Nat} {t : Tok} (hs : s.size ≤ 65536) (hg : g ≤ s.size) (h : tokAt s g = .tok t) : t.fine := by
  have hgood := tokAt_good hs hg h
  suffices hh : (t.k = 1 → isNameL t.t.toList = true ∧ t.n = 0) ∧ (t.k = 2 → isVarL t.t.toList = true ∧ t.n = 0) ∧ (t.k = 3 → t.t = ⟨#[]⟩) ∧ (t.k = 4 → t.t.size ≤ 255 ∧ t.n = 0) ∧ (t.k = 11 → 1 ≤ t.op ∧ t.op ≤ 6) from ⟨hh.1, hh.2.1, hh.2.2.1, hh.2.2.2.1, hh.2.2.2.2, hgood⟩
  unfold tokAt at h
  by_cases h0 : g < s.size
  · rw [dif_pos h0] at h
    by_cases hw : (bLow (s[g].toNat : Int) || (bUp (s[g].toNat : Int) || (s[g].toNat : Int) == 95)) = true
    · rw [if_pos hw] at h
      obtain ⟨r, e1, e2, e3⟩ := word_is h0 hw
      unfold wordX at h
      simp only at h
      generalize s.extract g (g + runC (rest s g)) = w at *
      obtain ⟨⟨l⟩⟩ := w
      simp only at e1
      subst e1
      by_cases hm : 64 < runC (rest s g)
      · rw [if_pos hm] at h; cases h
      · rw [if_neg hm] at h
        have hl : (⟨⟨s[g] :: r⟩⟩ : ByteArray).toList = s[g] :: r := by rw [ByteArray.toList_eq]
        have hW : isWordL (s[g] :: r) = true := by
          unfold isWordL
          simp only [Bool.and_eq_true, decide_eq_true_eq, List.all_eq_true]
          exact ⟨by simp, by omega, fun b hb => e2 b hb⟩
        by_cases hn : ((⟨⟨s[g] :: r⟩⟩ : ByteArray).toList == [110, 111, 116]) = true
        · rw [if_pos hn] at h
          injection h with h; subst h
          simp
        · rw [if_neg hn] at h
          have hhd : ((⟨⟨s[g] :: r⟩⟩ : ByteArray).data[0]!) = s[g] := rfl
          rw [hhd] at h
          rw [hl] at hn
          by_cases hlow : bLow (s[g].toNat : Int) = true
          · rw [if_pos hlow] at h
            injection h with h; subst h
            simp only [hl]
            refine ⟨fun _ => ⟨?_, trivial⟩, by simp, by simp, by simp, by simp⟩
            unfold isNameL
            rw [hW, show lowN (headN (s[g] :: r)) = true from hlow]
            cases hq : (s[g] :: r == [110, 111, 116]) with
            | false => rfl
            | true => exact absurd hq hn
          · rw [if_neg hlow] at h
            injection h with h; subst h
            simp only [hl]
            refine ⟨by simp, fun _ => ⟨?_, trivial⟩, by simp, by simp, by simp⟩
            unfold isVarL
            rw [hW]
            have : bLow (s[g].toNat : Int) = false := by simpa using hlow
            rw [this] at hw
            exact hw
    · rw [if_neg hw] at h
      by_cases hb : begB (s.extract g s.size) = true
      · rw [if_pos hb] at h
        unfold intX at h
        split at h
        · injection h with h; subst h; simp
        · cases h
      · rw [if_neg hb] at h
        by_cases h34 : (s[g].toNat : Int) = 34
        · rw [if_pos h34] at h
          obtain ⟨h1, h2, h3, h4⟩ := textF_good s g _ _ _ _ rfl (by simp) h
          refine ⟨fun h => by omega, fun h => by omega, fun h => by omega, fun _ => ⟨h4, h2⟩, fun h => by omega⟩
        · rw [if_neg h34] at h
          unfold punctX at h
          cases hp : punctL marksT (rest s g) with
          | none => rw [hp] at h; cases h
          | some x =>
            obtain ⟨n, k, op⟩ := x
            rw [hp] at h
            injection h with h
            subst h
            obtain ⟨m, hm, rfl, rfl⟩ := punct_mem hp
            obtain ⟨q1, q2, q3, q4, q5⟩ := marks_fine m hm
            exact ⟨fun h => absurd h q1, fun h => absurd h q2, fun h => absurd h q3, fun h => absurd h q4, q5⟩
  · rw [dif_neg h0] at h
    injection h with h; subst h; simp
theorem next_fine {s : ByteArray} {o : Nat} {t : Tok} (hs : s.size ≤ 65536) (ho : o ≤ s.size) (h : nextX s o = .tok t) : t.fine := by
  have h1 := next_tok ho h
  unfold nextX at h
  rw [if_pos h1.1] at h
  exact tokAt_fine hs (gapW_le s o ho).2 h
theorem toks_fine {s : ByteArray} (hs : s.size ≤ 65536) {o : Nat} {L : List Tok} {c : Int} {f : Nat} (h : Toks s o L c f) : ∀ t ∈ L, t.fine := by
  induction h with
  | bad ho hx => simp
  | last ho hx hk => exact fun t ht => by simp only [List.mem_singleton] at ht; subst ht; exact next_fine hs ho hx
  | more ho hx hk T ih =>
    intro t ht
    rcases List.mem_cons.1 ht with rfl | ht
    · exact next_fine hs ho hx
    · exact ih t ht
theorem scan_fine (s : ByteArray) : ∀ t ∈ (scanX s).1, t.fine := by
  by_cases hs : s.size ≤ 65536
  · exact toks_fine hs (scan_toks s hs)
  · have e : scanX s = ([], 1, 0) := if_pos (by omega)
    rw [e]
    simp
end Go.Proofs.YtnpmdepbfobebaaGreatDoor

namespace Go.Proofs.YtnpmdepbfobebaaGreatDoor
set_option linter.unusedSimpArgs false
set_option linter.unusedVariables false
open Go.RowKit

def Fine (R : List Tok) : Prop := ∀ t ∈ R, t.fine
theorem Fine.tail {t : Tok} {R : List Tok} (h : Fine (t :: R)) : Fine R := fun u hu => h u (by simp [hu])
theorem take_fine {c f : Int} {ks : List Int} {R r : List Tok} {t : Tok} (hR : Fine R) (h : takeP c f ks R = .ok t r) : t.fine ∧ t.k ∈ ks ∧ Fine r := by
  obtain ⟨rfl, hk⟩ := take_got h
  exact ⟨hR t (by simp), hk, hR.tail⟩
theorem fine_ok {t : Tok} (h : t.fine) (hk : t.k ∈ termKs) : okT (termP t) := by
  obtain ⟨h1, h2, h3, h4, -, hg⟩ := h
  obtain ⟨g1, g2, g3, g4, g5⟩ := hg
  unfold termKs at hk
  simp only [List.mem_cons, List.not_mem_nil, or_false] at hk
  have hok : (termP t).ok := by
    refine ⟨⟨?_, g3, by show t.t.size ≤ _; omega⟩, by show I64 (t.off : Int); unfold I64; omega⟩
    show I64 (kindT t.k)
    unfold kindT I64
    repeat' split
    all_goals omega
  refine ⟨hok, ?_⟩
  unfold termE
  show (if kindT t.k = 4 then (if t.n = 0 then (if isVarL t.t.toList = true then (0 : Int) else 14) else 14) else if validC ⟨kindT t.k, t.n, t.t⟩ = true then 0 else 5) = 0
  rcases hk with hk | hk | hk | hk
  · obtain ⟨q1, q2⟩ := h2 hk
    have e : kindT t.k = 4 := by rw [hk]; rfl
    rw [if_pos e, if_pos q2, if_pos q1]
  · have q := h3 hk
    have e : kindT t.k = 1 := by rw [hk]; rfl
    rw [e, if_neg (by decide), q, if_pos]
    unfold validC
    rw [if_pos rfl, ByteArray.toList_eq]
    rfl
  · obtain ⟨q1, q2⟩ := h1 hk
    have e : kindT t.k = 2 := by rw [hk]; rfl
    rw [e, if_neg (by decide), if_pos]
    unfold validC
    rw [if_neg (show ¬ (2 : Int) = 1 by decide), if_pos rfl, q1, q2]
    rfl
  · obtain ⟨q1, q2⟩ := h4 hk
    have e : kindT t.k = 3 := by rw [hk]; rfl
    rw [e, if_neg (by decide), if_pos]
    unfold validC
    rw [if_neg (show ¬ (3 : Int) = 1 by decide), if_neg (show ¬ (3 : Int) = 2 by decide), if_pos rfl, q2]
    simpa using q1
theorem args_ok {c f : Int} : ∀ (n : Nat) (acc : List Trm) (R r : List Tok) (ts : List Trm), R.length = n → Fine R → (∀ t ∈ acc, okT t) → acc.length ≤ 8 → argsP c f termKs acc R = .ok ts r → (∀ t ∈ ts, okT t) ∧ ts.length ≤ 8 ∧ Fine r := by
  intro n
  induction n using Nat.strongRecOn with
  | ind n ih =>
    intro acc R r ts hn hR hacc hl h
    cases hT : takeP c f termKs R with
    | bad ec eo => rw [args_bad1 hT] at h; cases h
    | ok t r1 =>
      have l1 := take_len hT
      obtain ⟨t1, t2, t3⟩ := take_fine hR hT
      have hto := fine_ok t1 t2
      have hacc2 : ∀ u ∈ acc ++ [termP t], okT u := fun u hu => by
        rcases List.mem_append.1 hu with hu | hu
        · exact hacc u hu
        · simp only [List.mem_singleton] at hu; subst hu; exact hto
      by_cases h8 : acc.length = 8
      · rw [args_lim hT h8] at h; cases h
      · rw [args_next hT h8] at h
        cases hU : takeP c f [7, 6] r1 with
        | bad ec eo => rw [hU] at h; cases h
        | ok s r2 =>
          have l2 := take_len hU
          obtain ⟨-, -, u3⟩ := take_fine t3 hU
          rw [hU] at h
          simp only at h
          by_cases h7 : s.k = 7
          · rw [if_pos h7] at h
            exact ih r2.length (by omega) _ r2 r ts rfl u3 hacc2 (by simp; omega) h
          · rw [if_neg h7] at h
            injection h with e1 e2
            subst e1 e2
            exact ⟨hacc2, by simp; omega, u3⟩
theorem atom_ok {c f : Int} {name : Tok} {R r : List Tok} {a : PAtom} (hn : name.fine) (h1 : name.k = 1) (hR : Fine R) (h : atomP c f termKs name R = .ok a r) : okA a.p a.ts ∧ Fine r := by
  cases R with
  | nil => cases h
  | cons t q =>
    unfold atomP at h
    simp only at h
    by_cases h5 : t.k = 5
    · rw [if_pos h5] at h
      cases hA : argsP c f termKs [] q with
      | bad ec eo => rw [hA] at h; cases h
      | ok ts r' =>
        rw [hA] at h
        simp only at h
        injection h with e1 e2
        subst e1 e2
        obtain ⟨q1, q2, q3⟩ := args_ok q.length [] q _ ts rfl hR.tail (by simp) (by simp) hA
        exact ⟨⟨(hn.1 h1).1, q2, q1⟩, q3⟩
    · rw [if_neg h5] at h
      injection h with e1 e2
      subst e1 e2
      exact ⟨⟨(hn.1 h1).1, by simp, by simp⟩, hR⟩
theorem okL_atom {k : Int} (hk : k = 1 ∨ k = 2) {a : PAtom} (h : okA a.p a.ts) (o : Int) : okL ⟨k, a, 0, zeroTrm, zeroTrm, o⟩ := .inl ⟨hk, h, rfl, rfl, rfl⟩
theorem lit_ok {c f : Int} {first : Tok} {R r : List Tok} {x : PLit} (hf : first.fine) (hk : first.k ∈ [1, 10, 2, 3, 4]) (hR : Fine R) (h : litP c f first R = .ok x r) : okL x ∧ Fine r := by
  unfold litP at h
  by_cases h10 : first.k = 10
  · rw [if_pos h10] at h
    cases hT : takeP c f [1] R with
    | bad ec eo => rw [hT] at h; cases h
    | ok n r1 =>
      rw [hT] at h
      simp only at h
      obtain ⟨t1, t2, t3⟩ := take_fine hR hT
      cases hA : atomP c f termKs n r1 with
      | bad ec eo => rw [hA] at h; cases h
      | ok a r2 =>
        rw [hA] at h
        simp only at h
        injection h with e1 e2
        subst e1 e2
        obtain ⟨q1, q2⟩ := atom_ok t1 (by simpa using t2) t3 hA
        exact ⟨okL_atom (.inr rfl) q1 _, q2⟩
  · rw [if_neg h10] at h
    have hft : first.k ∈ termKs := by
      simp only [termKs, List.mem_cons, List.not_mem_nil, or_false] at hk ⊢
      omega
    have htest : ∀ x r, (match takeP c f [11] R with
      | .bad c o => PR.bad c o
      | .ok o1 r' => match takeP c f termKs r' with
        | .bad c o => .bad c o
        | .ok t2 r'' => .ok (⟨3, zeroAtom, o1.op, termP first, termP t2, first.off⟩ : PLit) r'') = .ok x r → okL x ∧ Fine r := fun x r h => by
      cases hT : takeP c f [11] R with
      | bad ec eo => rw [hT] at h; cases h
      | ok o1 r1 =>
        rw [hT] at h
        simp only at h
        obtain ⟨t1, t2, t3⟩ := take_fine hR hT
        cases hU : takeP c f termKs r1 with
        | bad ec eo => rw [hU] at h; cases h
        | ok t r2 =>
          rw [hU] at h
          simp only at h
          obtain ⟨u1, u2, u3⟩ := take_fine t3 hU
          injection h with e1 e2
          subst e1 e2
          have ho := t1.2.2.2.2.1 (by simpa using t2)
          exact ⟨.inr ⟨rfl, ho.1, ho.2, fine_ok hf hft, fine_ok u1 u2, rfl, rfl⟩, u3⟩
    simp only at h
    by_cases h1 : first.k = 1
    · rw [if_pos h1] at h
      cases R with
      | nil => cases h
      | cons t q =>
        simp only at h
        by_cases h11 : t.k = 11
        · rw [if_pos h11] at h
          exact htest x r h
        · rw [if_neg h11] at h
          cases hA : atomP c f termKs first (t :: q) with
          | bad ec eo => rw [hA] at h; cases h
          | ok a r2 =>
            rw [hA] at h
            simp only at h
            injection h with e1 e2
            subst e1 e2
            obtain ⟨q1, q2⟩ := atom_ok hf h1 hR hA
            exact ⟨okL_atom (.inl rfl) q1 _, q2⟩
    · rw [if_neg h1] at h
      exact htest x r h
theorem body_ok {c f : Int} : ∀ (n : Nat) (acc : List PLit) (R r : List Tok) (b : List PLit), Fine R → (∀ l ∈ acc, okL l) → acc.length ≤ 16 → bodyF c f n acc R = .ok b r → (∀ l ∈ b, okL l) ∧ b.length ≤ 16 ∧ Fine r := by
  intro n
  induction n with
  | zero => intro acc R r b _ _ _ h; cases h
  | succ n ih =>
    intro acc R r b hR hacc hl h
    cases hT : takeP c f [1, 10, 2, 3, 4] R with
    | bad e1 e2 => rw [body_bad1 hT] at h; cases h
    | ok t r1 =>
      obtain ⟨t1, t2, t3⟩ := take_fine hR hT
      by_cases h16 : acc.length = 16
      · rw [body_lim hT h16] at h; cases h
      · cases hL : litP c f t r1 with
        | bad e1 e2 => rw [body_lit hT h16 hL] at h; cases h
        | ok x r2 =>
          obtain ⟨l1, l2⟩ := lit_ok t1 t2 t3 hL
          have hacc2 : ∀ u ∈ acc ++ [x], okL u := fun u hu => by
            rcases List.mem_append.1 hu with hu | hu
            · exact hacc u hu
            · simp only [List.mem_singleton] at hu; subst hu; exact l1
          cases hU : takeP c f [7, 8] r2 with
          | bad e1 e2 => rw [body_sep hT h16 hL hU] at h; cases h
          | ok s r3 =>
            obtain ⟨-, -, u3⟩ := take_fine l2 hU
            by_cases h8 : s.k = 8
            · rw [body_end hT h16 hL hU h8] at h
              injection h with e1 e2
              subst e1 e2
              exact ⟨hacc2, by simp; omega, u3⟩
            · rw [body_more hT h16 hL hU h8] at h
              exact ih _ _ _ _ u3 hacc2 (by simp; omega) h
theorem cls_ok {c f : Int} {name : Tok} {R r : List Tok} {x : PCls} (hn : name.fine) (h1 : name.k = 1) (hR : Fine R) (h : clauseP c f name R = .ok x r) : okC x ∧ Fine r := by
  unfold clauseP at h
  cases hA : atomP c f termKs name R with
  | bad ec eo => rw [hA] at h; cases h
  | ok a r1 =>
    rw [hA] at h
    simp only at h
    obtain ⟨q1, q2⟩ := atom_ok hn h1 hR hA
    cases hT : takeP c f [8, 9] r1 with
    | bad ec eo => rw [hT] at h; cases h
    | ok s r2 =>
      rw [hT] at h
      simp only at h
      obtain ⟨-, -, t3⟩ := take_fine q2 hT
      by_cases h9 : s.k = 9
      · rw [if_pos h9] at h
        cases hB : bodyP c f r2 with
        | bad ec eo => rw [hB] at h; cases h
        | ok b r3 =>
          rw [hB] at h
          simp only at h
          injection h with e1 e2
          subst e1 e2
          obtain ⟨b1, b2, b3⟩ := body_ok _ [] _ _ _ t3 (by simp) (by simp) hB
          exact ⟨⟨q1, b2, b1⟩, b3⟩
      · rw [if_neg h9] at h
        injection h with e1 e2
        subst e1 e2
        exact ⟨⟨q1, by simp, by simp⟩, t3⟩
theorem progF_ok {c f : Int} : ∀ (n : Nat) (acc : List PCls) (R r : List Tok) (out : List PCls), Fine R → (∀ x ∈ acc, okC x) → progF c f n acc R = .ok out r → ∀ x ∈ out, okC x := by
  intro n
  induction n with
  | zero => intro acc R r out _ _ h; cases h
  | succ n ih =>
    intro acc R r out hR hacc h
    cases hT : takeP c f [1, 0] R with
    | bad e1 e2 => rw [prog_bad1 hT] at h; cases h
    | ok t r1 =>
      obtain ⟨t1, t2, t3⟩ := take_fine hR hT
      by_cases h0 : t.k = 0
      · rw [prog_end hT h0] at h; injection h with e1 e2; subst e1; exact hacc
      · have hk1 : t.k = 1 := by
          simp only [List.mem_cons, List.not_mem_nil, or_false] at t2
          omega
        by_cases h5 : acc.length = 512
        · rw [prog_lim hT h0 h5] at h; cases h
        · cases hC : clauseP c f t r1 with
          | bad e1 e2 => rw [prog_cls hT h0 h5 hC] at h; cases h
          | ok x r2 =>
            obtain ⟨c1, c2⟩ := cls_ok t1 hk1 t3 hC
            rw [prog_more hT h0 h5 hC] at h
            refine ih _ _ _ _ c2 (fun u hu => ?_) h
            rcases List.mem_append.1 hu with hu | hu
            · exact hacc u hu
            · simp only [List.mem_singleton] at hu; subst hu; exact c1
/-- What parse.Program makes of a text is well formed. -/
theorem prog_ok {s : ByteArray} {P : List PCls} {r : List Tok} (h : progP (scanX s).2.1 ((scanX s).2.2 : Int) (scanX s).1 = .ok P r) : (∀ x ∈ P, okC x) ∧ P.length ≤ 512 :=
  ⟨progF_ok _ [] _ _ _ (scan_fine s) (by simp) h, prog_most _ [] _ _ _ (by simp) h⟩
end Go.Proofs.YtnpmdepbfobebaaGreatDoor

namespace Go.Proofs.YtnpmdepbfobebaaGreatDoor
set_option linter.unusedSimpArgs false
set_option linter.unusedVariables false
open Go.RowKit

theorem trms_of {w : World} {F : Nat → Prop} {ao : Option Addr} {cap : Nat} {ts : List Trm} (h : Lst elTrm w F (.slice ao ts.length cap) ts) : IsTrms w ao ts.length ts := by
  obtain ⟨_, _, -, -, -, hl⟩ := h.shape
  refine ⟨rfl, by omega, fun t ht => h.ok ht, fun hp => ?_⟩
  obtain ⟨b, off, e, -, -, hr⟩ := h.row hp
  exact ⟨b, off, e, fun i t ht => ⟨hr i t ht 0 _ rfl, hr i t ht 1 _ rfl, hr i t ht 2 _ rfl, hr i t ht 3 _ rfl⟩⟩
/-- An atom's slice taken apart. -/
def atmOf (a : Atx) : Atm := match a.v with
  | .slice ao n cap => ⟨a.p, ao, n, cap, a.off, a.ts⟩
  | _ => ⟨a.p, none, 0, 0, a.off, a.ts⟩
def ltrOf (x : Lix) : Ltr := ⟨x.k, atmOf x.a, x.op, x.l, x.r, x.off⟩
def clsOf (c : Clx) : Cls := match c.v with
  | .slice ao n cap => ⟨atmOf c.h, ao, n, cap, c.ls.map ltrOf⟩
  | _ => ⟨atmOf c.h, none, 0, 0, c.ls.map ltrOf⟩
theorem atmOf_p (a : Atx) : (atmOf a).p = a.p := by unfold atmOf; split <;> rfl
theorem atmOf_ts (a : Atx) : (atmOf a).ts = a.ts := by unfold atmOf; split <;> rfl
theorem atmOf_off (a : Atx) : (atmOf a).off = a.off := by unfold atmOf; split <;> rfl
theorem clsOf_h (c : Clx) : (clsOf c).h = atmOf c.h := by unfold clsOf; split <;> rfl
theorem clsOf_ls (c : Clx) : (clsOf c).ls = c.ls.map ltrOf := by unfold clsOf; split <;> rfl
theorem atm_of {w : World} {F : Nat → Prop} {a : Atx} (h : elAtx.ok w F a) : (atmOf a).at w ∧ a.v = .slice (atmOf a).ao (atmOf a).len (atmOf a).cap := by
  obtain ⟨h1, h2, h3⟩ := elAtx_ok h
  obtain ⟨ao, cap, hv, -⟩ := h3.shape
  have he : atmOf a = ⟨a.p, ao, a.ts.length, cap, a.off, a.ts⟩ := by unfold atmOf; rw [hv]
  rw [he]
  rw [hv] at h3 ⊢
  exact ⟨⟨h1, h2, trms_of h3⟩, rfl⟩
theorem ltr_of {w : World} {F : Nat → Prop} {x : Lix} (h : elLix.ok w F x) : (ltrOf x).at w := by
  obtain ⟨h1, h2, h3, h4, h5, h6⟩ := elLix_ok h
  exact ⟨h1, (atm_of h2).1, h3, h4, h5, h6⟩
theorem ltrs_of {w : World} {F : Nat → Prop} {ao : Option Addr} {cap : Nat} {ls : List Lix} (h : Lst elLix w F (.slice ao ls.length cap) ls) : IsLtrs w ao ls.length (ls.map ltrOf) := by
  obtain ⟨_, _, -, -, -, hl⟩ := h.shape
  refine ⟨by simp, by omega, fun x hx => ?_, fun hp => ?_⟩
  · obtain ⟨y, hy, rfl⟩ := List.mem_map.1 hx
    exact ltr_of (h.ok hy)
  · obtain ⟨b, off, e, -, -, hr⟩ := h.row hp
    refine ⟨b, off, e, fun i x hx => ?_⟩
    rw [List.getElem?_map] at hx
    obtain ⟨y, hy, rfl⟩ := Option.map_eq_some_iff.1 hx
    have ha := (atm_of (elLix_ok (h.ok (List.mem_of_getElem? hy))).2.1).2
    have h2 := hr i y hy 2 _ rfl
    rw [ha] at h2
    refine ⟨hr i y hy 0 _ rfl, by show w.cell? _ = some (.string (atmOf y.a).p); rw [atmOf_p]; exact hr i y hy 1 _ rfl, h2, by show w.cell? _ = some (.int .i64 (atmOf y.a).off); rw [atmOf_off]; exact hr i y hy 3 _ rfl, hr i y hy 4 _ rfl, ⟨hr i y hy 5 _ rfl, hr i y hy 6 _ rfl, hr i y hy 7 _ rfl, hr i y hy 8 _ rfl⟩, ⟨hr i y hy 9 _ rfl, hr i y hy 10 _ rfl, hr i y hy 11 _ rfl, hr i y hy 12 _ rfl⟩, hr i y hy 13 _ rfl⟩
theorem cls_of {w : World} {F : Nat → Prop} {c : Clx} (h : elClx.ok w F c) : (clsOf c).at w ∧ c.v = .slice (clsOf c).ao (clsOf c).len (clsOf c).cap := by
  obtain ⟨h1, h2⟩ := elClx_ok h
  obtain ⟨ao, cap, hv, -⟩ := h2.shape
  have he : clsOf c = ⟨atmOf c.h, ao, c.ls.length, cap, c.ls.map ltrOf⟩ := by unfold clsOf; rw [hv]
  rw [he]
  rw [hv] at h2 ⊢
  exact ⟨⟨(atm_of h1).1, ltrs_of h2⟩, rfl⟩
theorem clss_of {w : World} {F : Nat → Prop} {ao : Option Addr} {cap : Nat} {cs : List Clx} (h : Lst elClx w F (.slice ao cs.length cap) cs) : IsClss w ao cs.length (cs.map clsOf) := by
  obtain ⟨_, _, -, -, -, hl⟩ := h.shape
  refine ⟨by simp, by omega, fun x hx => ?_, fun hp => ?_⟩
  · obtain ⟨y, hy, rfl⟩ := List.mem_map.1 hx
    exact (cls_of (h.ok hy)).1
  · obtain ⟨b, off, e, -, -, hr⟩ := h.row hp
    refine ⟨b, off, e, fun i x hx => ?_⟩
    rw [List.getElem?_map] at hx
    obtain ⟨y, hy, rfl⟩ := Option.map_eq_some_iff.1 hx
    have ho := h.ok (List.mem_of_getElem? hy)
    have ha := (atm_of (elClx_ok ho).1).2
    have hb := (cls_of ho).2
    have h1 := hr i y hy 1 _ rfl
    have h3 := hr i y hy 3 _ rfl
    rw [ha] at h1
    rw [hb] at h3
    refine ⟨by rw [clsOf_h, atmOf_p]; exact hr i y hy 0 _ rfl, by rw [clsOf_h]; exact h1, by rw [clsOf_h, atmOf_off]; exact hr i y hy 2 _ rfl, h3⟩
end Go.Proofs.YtnpmdepbfobebaaGreatDoor

namespace Go.Proofs.YtnpmdepbfobebaaGreatDoor
set_option linter.unusedSimpArgs false
set_option linter.unusedVariables false
open Go.RowKit
open Go.Lib (decDigits itoa)

theorem noTerm_st {t : Trm} (h : t.st = zeroTrm) : noTerm t = true := by
  obtain ⟨k, n, s, off⟩ := t
  unfold Trm.st zeroTrm at h
  simp only [Trm.mk.injEq] at h
  obtain ⟨rfl, rfl, rfl, -⟩ := h
  unfold noTerm
  rw [ByteArray.toList_eq]
  rfl
theorem atom_zero {p : ByteArray} {ts : List Trm} (h : okA p ts) : atomE p ts = 0 := by
  unfold atomE
  rw [if_pos h.1, if_neg (by have := h.2.1; omega)]
  exact firstE_zero fun t ht => (h.2.2 t ht).2
theorem lit_zero {x : Lix} (h : okL x.pur) : litE (ltrOf x) = 0 := by
  unfold litE ltrOf
  simp only [atmOf_p, atmOf_ts]
  rcases h with ⟨hk, ha, ho, hl, hr⟩ | ⟨hk, h1, h6, hl, hr, hp, hts⟩
  · rw [if_pos (show x.k = 1 ∨ x.k = 2 from hk), if_pos (show x.op = 0 from ho), if_pos (show noTerm x.l = true from noTerm_st hl), if_pos (show noTerm x.r = true from noTerm_st hr)]
    exact atom_zero ha
  · have hk' : x.k = 3 := hk
    have hp' : x.a.p = ⟨#[]⟩ := hp
    have ht' : x.a.ts = [] := hts
    have e : (x.a.p.toList == []) = true := by rw [hp', ByteArray.toList_eq]; rfl
    rw [if_neg (by omega), if_pos hk', if_neg (show ¬ x.op < 1 by have : 1 ≤ x.op := h1; omega), if_neg (show ¬ 6 < x.op by have : x.op ≤ 6 := h6; omega), if_pos e, if_neg (by rw [ht']; simp), if_pos (show termE x.l = 0 from hl.2)]
    exact hr.2
theorem cls_zero {c : Clx} (h : okC c.pur) : clauseE (clsOf c) = 0 := by
  obtain ⟨h1, h2, h3⟩ := h
  unfold clauseE
  rw [clsOf_h, clsOf_ls, atmOf_p, atmOf_ts, if_pos (show atomE c.h.p c.h.ts = 0 from atom_zero h1)]
  unfold bodyE
  have hl : (c.ls.map ltrOf).length = c.pur.b.length := by show _ = (c.ls.map Lix.pur).length; simp
  rw [if_neg (by omega)]
  refine firstE_zero fun y hy => ?_
  obtain ⟨x, hx, rfl⟩ := List.mem_map.1 hy
  exact lit_zero (h3 x.pur (List.mem_map.2 ⟨x, hx, rfl⟩))
theorem prog_zero {cs : List Clx} (h : ∀ c ∈ cs.map Clx.pur, okC c) (hn : cs.length ≤ 512) : progE (cs.map clsOf) = 0 := by
  unfold progE
  rw [if_neg (by simp; omega)]
  refine firstE_zero fun y hy => ?_
  obtain ⟨x, hx, rfl⟩ := List.mem_map.1 hy
  exact cls_zero (h x.pur (List.mem_map.2 ⟨x, hx, rfl⟩))
/-- The same text by the trees alone. -/
theorem bodyT_pur (ls : List Lix) : bodyT ls = pbodyT (ls.map Lix.pur) := by
  unfold bodyT pbodyT
  rw [List.map_map]
  rfl
theorem clsT_pur (c : Clx) : clsT c = pclsT c.pur := by
  unfold clsT pclsT
  rw [bodyT_pur]
  show _ = atmT c.h.p c.h.ts ++ ((if c.ls.map Lix.pur = [] then [] else [32, 58, 45, 32] ++ pbodyT (c.ls.map Lix.pur)) ++ [46])
  by_cases h : c.ls = []
  · rw [if_pos h, if_pos (by rw [h]; rfl)]
  · rw [if_neg h, if_neg (by simpa using h)]
theorem progT_pur (cs : List Clx) : progT cs = pprogT (cs.map Clx.pur) := by
  unfold progT pprogT
  rw [List.flatMap_map]
  congr 1
  funext c
  show _ = pclsT c.pur ++ [10]
  rw [clsT_pur]
/-- A text tells no places. -/
theorem trmT_st (t : Trm) : trmT t.st = trmT t := rfl
theorem atmT_st (p : ByteArray) (ts : List Trm) : atmT p (ts.map Trm.st) = atmT p ts := by
  unfold atmT
  rw [List.map_map]
  rfl
theorem plitT_st (x : PLit) : plitT x.st = plitT x := by
  unfold plitT PLit.st PAtom.st
  simp only [atmT_st]
  rfl
theorem pbodyT_st (ls : List PLit) : pbodyT (ls.map PLit.st) = pbodyT ls := by
  unfold pbodyT
  rw [List.map_map]
  congr 1
  exact List.map_congr_left fun x _ => plitT_st x
theorem pclsT_st (c : PCls) : pclsT c.st = pclsT c := by
  unfold pclsT
  show atmT c.h.p (c.h.ts.map Trm.st) ++ ((if c.b.map PLit.st = [] then [] else [32, 58, 45, 32] ++ pbodyT (c.b.map PLit.st)) ++ [46]) = _
  rw [atmT_st, pbodyT_st]
  by_cases h : c.b = []
  · rw [if_pos h, if_pos (by rw [h]; rfl)]
  · rw [if_neg h, if_neg (by simpa using h)]
theorem pprogT_st {cs ds : List PCls} (h : cs.map PCls.st = ds.map PCls.st) : pprogT cs = pprogT ds := by
  have key : ∀ cs : List PCls, pprogT cs = pprogT (cs.map PCls.st) := fun cs => by
    unfold pprogT
    rw [List.flatMap_map]
    congr 1
    funext c
    rw [pclsT_st]
  rw [key cs, key ds, h]
/-- Printable bytes. -/
def Prn (l : List UInt8) : Prop := ∀ b ∈ l, 32 ≤ b.toNat ∧ b.toNat ≤ 126
theorem Prn.app {l m : List UInt8} (h : Prn l) (h2 : Prn m) : Prn (l ++ m) := fun b hb => (List.mem_append.1 hb).elim (h b) (h2 b)
theorem word_prn : ∀ n : Fin 256, wordN (n.val : Int) = true → 32 ≤ n.val ∧ n.val ≤ 126 := by decide +kernel
theorem isWord_prn {s : ByteArray} (h : isWordL s.toList = true) : Prn s.data.toList ∧ s.data.toList.length ≤ 64 := by
  rw [ByteArray.toList_eq] at h
  unfold isWordL at h
  rw [Bool.and_eq_true, Bool.and_eq_true] at h
  simp only [decide_eq_true_eq, List.all_eq_true] at h
  exact ⟨fun b hb => word_prn ⟨b.toNat, b.toNat_lt⟩ (h.2.2 b hb), h.2.1⟩
theorem name_prn {s : ByteArray} (h : isNameL s.toList = true) : Prn s.data.toList ∧ s.data.toList.length ≤ 64 := by
  unfold isNameL at h
  rw [Bool.and_eq_true] at h
  exact isWord_prn h.1
theorem var_prn {s : ByteArray} (h : isVarL s.toList = true) : Prn s.data.toList ∧ s.data.toList.length ≤ 64 := by
  unfold isVarL at h
  rw [Bool.and_eq_true] at h
  exact isWord_prn h.1
theorem escB_prn' : ∀ n : Fin 256, (∀ b ∈ escB (UInt8.ofNat n.val), 32 ≤ b.toNat ∧ b.toNat ≤ 126) ∧ (escB (UInt8.ofNat n.val)).length ≤ 4 := by decide +kernel
theorem escB_prn (c : UInt8) : Prn (escB c) ∧ (escB c).length ≤ 4 := by
  have := escB_prn' ⟨c.toNat, c.toNat_lt⟩
  unfold Prn
  simpa using this
theorem escs_prn : ∀ l : List UInt8, Prn (l.flatMap escB) ∧ (l.flatMap escB).length ≤ 4 * l.length
  | [] => ⟨by simp [Prn], by simp⟩
  | c :: l => by
    obtain ⟨h1, h2⟩ := escB_prn c
    obtain ⟨h3, h4⟩ := escs_prn l
    rw [List.flatMap_cons]
    exact ⟨h1.app h3, by simp only [List.length_append, List.length_cons]; omega⟩
theorem dig_prn (u : Nat) : Prn (decDigits u) := fun b hb => by have := dec_digs u b hb; omega
theorem itoa_prn (n : Int) : Prn (itoa n) := by
  unfold itoa
  split
  · intro b hb
    rcases List.mem_cons.1 hb with rfl | hb
    · decide
    · exact dig_prn _ b hb
  · exact dig_prn _
theorem trm_prn {t : Trm} (h : okT t) : Prn (trmT t) ∧ (trmT t).length ≤ 2000 := by
  rcases okT_cases h with ⟨hk, hn, hv⟩ | ⟨hk, hs, hI, hv⟩ | ⟨hk, hn, hm, hv⟩ | ⟨hk, hn, hs, hv⟩
  · have e1 : trmT t = t.s.data.toList := by unfold trmT; rw [if_pos hk]
    rw [e1]
    exact ⟨(var_prn hv).1, by have := (var_prn hv).2; omega⟩
  · have e1 : trmT t = itoa t.n := by unfold trmT; rw [if_neg (show ¬ t.k = 4 by omega)]; unfold textC; rw [if_pos hv, if_pos (show t.con.k = 1 from hk)]; rfl
    rw [e1]
    exact ⟨itoa_prn _, by have := Go.Lib.itoa_length_le t.n (by unfold I64 at hI; omega) (by unfold I64 at hI; omega); omega⟩
  · have e1 : trmT t = t.s.data.toList := by unfold trmT; rw [if_neg (show ¬ t.k = 4 by omega)]; unfold textC; rw [if_pos hv, if_neg (show ¬ t.con.k = 1 by show ¬ t.k = 1; omega), if_pos (show t.con.k = 2 from hk)]; rfl
    rw [e1]
    exact ⟨(name_prn hm).1, by have := (name_prn hm).2; omega⟩
  · have e1 : trmT t = 34 :: (t.s.data.toList.flatMap escB ++ [34]) := by unfold trmT; rw [if_neg (show ¬ t.k = 4 by omega)]; unfold textC; rw [if_pos hv, if_neg (show ¬ t.con.k = 1 by show ¬ t.k = 1; omega), if_neg (show ¬ t.con.k = 2 by show ¬ t.k = 2; omega), quot_bytes]; rfl
    obtain ⟨h1, h2⟩ := escs_prn t.s.data.toList
    rw [e1]
    refine ⟨fun b hb => ?_, ?_⟩
    · rcases List.mem_cons.1 hb with rfl | hb
      · decide
      · rcases List.mem_append.1 hb with hb | hb
        · exact h1 b hb
        · simp only [List.mem_singleton] at hb; subst hb; decide
    · have hz : t.s.data.toList.length ≤ 255 := hs
      simp only [List.length_cons, List.length_append, List.length_nil]
      omega
theorem jnT_prn {N : Nat} {b : List UInt8} (hb : Prn b) : ∀ {ms : List (List UInt8)}, (∀ m ∈ ms, Prn m ∧ m.length ≤ N) → Prn (jnT b ms) ∧ (jnT b ms).length ≤ ms.length * (b.length + N)
  | [], _ => ⟨by simp [Prn, jnT], by simp [jnT]⟩
  | m :: ms, h => by
    obtain ⟨h1, h2⟩ := jnT_prn (N := N) hb (ms := ms) fun x hx => h x (by simp [hx])
    obtain ⟨h3, h4⟩ := h m (by simp)
    rw [jnT_cons]
    refine ⟨hb.app (h3.app h1), ?_⟩
    simp only [List.length_append, List.length_cons, Nat.succ_mul]
    omega
theorem jn_prn {N : Nat} {b : List UInt8} (hb : Prn b) {ms : List (List UInt8)} (h : ∀ m ∈ ms, Prn m ∧ m.length ≤ N) : Prn (jn b ms) ∧ (jn b ms).length ≤ ms.length * (b.length + N) := by
  cases ms with
  | nil => exact ⟨by simp [Prn, jn], by simp [jn]⟩
  | cons m ms =>
    obtain ⟨h1, h2⟩ := jnT_prn (N := N) hb (ms := ms) fun x hx => h x (by simp [hx])
    obtain ⟨h3, h4⟩ := h m (by simp)
    rw [jn_cons]
    refine ⟨h3.app h1, ?_⟩
    simp only [List.length_append, List.length_cons, Nat.succ_mul]
    omega
theorem prn_lit {l : List UInt8} (h : (l.all fun b => decide (32 ≤ b.toNat) && decide (b.toNat ≤ 126)) = true) : Prn l := fun b hb => by
  have := List.all_eq_true.1 h b hb
  simpa using this
theorem atm_prn {p : ByteArray} {ts : List Trm} (h : okA p ts) : Prn (atmT p ts) ∧ (atmT p ts).length ≤ 20000 := by
  obtain ⟨h1, h2, h3⟩ := h
  obtain ⟨n1, n2⟩ := name_prn h1
  obtain ⟨j1, j2⟩ := jn_prn (N := 2000) (b := [44, 32]) (ms := ts.map trmT) (prn_lit (by decide)) fun m hm => by
    obtain ⟨t, ht, rfl⟩ := List.mem_map.1 hm
    exact trm_prn (h3 t ht)
  unfold atmT argT
  by_cases h0 : ts.map trmT = []
  · rw [if_pos h0, List.append_nil]
    exact ⟨n1, by omega⟩
  · rw [if_neg h0]
    refine ⟨n1.app ((prn_lit (by decide)).app (j1.app (prn_lit (by decide)))), ?_⟩
    simp only [List.length_append, List.length_cons, List.length_nil, List.length_map] at j2 ⊢
    have : ts.length * (0 + 1 + 1 + 2000) ≤ 8 * (0 + 1 + 1 + 2000) := Nat.mul_le_mul_right _ h2
    omega
theorem op_prn (op : Int) : Prn (opT op) ∧ (opT op).length ≤ 2 := by
  unfold opT
  repeat' split
  all_goals exact ⟨prn_lit (by decide), by decide⟩
theorem lit_prn {x : PLit} (h : okL x) : Prn (plitT x) ∧ (plitT x).length ≤ 20010 := by
  unfold plitT
  rcases h with ⟨hk, ha, -⟩ | ⟨hk, h1, h6, hl, hr, -⟩
  · obtain ⟨a1, a2⟩ := atm_prn ha
    by_cases h1 : x.k = 1
    · rw [if_pos h1]; exact ⟨a1, by omega⟩
    · rw [if_neg h1, if_pos (by omega)]
      exact ⟨(prn_lit (by decide)).app ((prn_lit (by decide)).app a1), by simp only [List.length_append, List.length_cons, List.length_nil]; omega⟩
  · rw [if_neg (by omega), if_neg (by omega), if_pos hk]
    obtain ⟨l1, l2⟩ := trm_prn hl
    obtain ⟨r1, r2⟩ := trm_prn hr
    obtain ⟨o1, o2⟩ := op_prn x.op
    exact ⟨l1.app ((prn_lit (by decide)).app (o1.app ((prn_lit (by decide)).app r1))), by simp only [List.length_append, List.length_cons, List.length_nil]; omega⟩
theorem body_prn {ls : List PLit} (h : ∀ l ∈ ls, okL l) (hn : ls.length ≤ 16) : Prn (pbodyT ls) ∧ (pbodyT ls).length ≤ 400000 := by
  obtain ⟨j1, j2⟩ := jn_prn (N := 20010) (b := [44, 32]) (ms := ls.map plitT) (prn_lit (by decide)) fun m hm => by
    obtain ⟨t, ht, rfl⟩ := List.mem_map.1 hm
    exact lit_prn (h t ht)
  refine ⟨j1, ?_⟩
  unfold pbodyT
  simp only [List.length_map, List.length_cons, List.length_nil] at j2
  have : ls.length * (0 + 1 + 1 + 20010) ≤ 16 * (0 + 1 + 1 + 20010) := Nat.mul_le_mul_right _ hn
  omega
/-- A clause's text: printable bytes, a dot at the end. -/
theorem cls_prn {c : PCls} (h : okC c) : ∃ l, pclsT c = l ++ [46] ∧ Prn l ∧ l.length ≤ 500000 := by
  obtain ⟨h1, h2, h3⟩ := h
  obtain ⟨a1, a2⟩ := atm_prn h1
  obtain ⟨b1, b2⟩ := body_prn h3 h2
  unfold pclsT
  rw [← List.append_assoc]
  refine ⟨_, rfl, a1.app ?_, ?_⟩
  · split
    · simp [Prn]
    · exact (prn_lit (by decide)).app b1
  · split
    · simp only [List.length_append, List.length_nil]; omega
    · simp only [List.length_append, List.length_cons, List.length_nil]; omega
/-- Printable bytes and line ends, each behind a dot. -/
def LnOk : UInt8 → List UInt8 → Prop
  | _, [] => True
  | p, b :: r => ((b = 10 ∧ p = 46) ∨ (32 ≤ b.toNat ∧ b.toNat ≤ 126)) ∧ LnOk b r
theorem lnOk_prn : ∀ (l : List UInt8) (p : UInt8) (r : List UInt8), Prn l → LnOk 46 (10 :: r) → LnOk p (l ++ 46 :: 10 :: r)
  | [], p, r, _, hr => ⟨.inr (by decide), hr⟩
  | b :: l, p, r, hl, hr => ⟨.inr (hl b (by simp)), lnOk_prn l b r (fun x hx => hl x (by simp [hx])) hr⟩
theorem prog_lines : ∀ (cs : List PCls), (∀ c ∈ cs, okC c) → ∀ p, LnOk p (pprogT cs)
  | [], _, _ => trivial
  | c :: cs, h, p => by
    obtain ⟨l, e, hl, -⟩ := cls_prn (h c (by simp))
    have e2 : pprogT (c :: cs) = l ++ 46 :: 10 :: pprogT cs := by
      unfold pprogT
      rw [List.flatMap_cons, e]
      simp
    rw [e2]
    exact lnOk_prn l p _ hl ⟨.inl ⟨rfl, rfl⟩, prog_lines cs (fun u hu => h u (by simp [hu])) 10⟩
theorem prn_count {l : List UInt8} (h : Prn l) : l.count 10 = 0 := by
  rw [List.count_eq_zero]
  intro hm
  have := h 10 hm
  exact absurd this.1 (by decide)
theorem prog_count : ∀ (cs : List PCls), (∀ c ∈ cs, okC c) → (pprogT cs).count 10 = cs.length ∧ (pprogT cs = [] ∨ (pprogT cs).getLast? = some 10) ∧ (pprogT cs).length ≤ cs.length * 600000
  | [], _ => ⟨rfl, .inl rfl, by simp [pprogT]⟩
  | c :: cs, h => by
    obtain ⟨l, e, hl, hn⟩ := cls_prn (h c (by simp))
    obtain ⟨h1, h2, h3⟩ := prog_count cs fun u hu => h u (by simp [hu])
    have e2 : pprogT (c :: cs) = l ++ ([46, 10] ++ pprogT cs) := by
      unfold pprogT
      rw [List.flatMap_cons, e]
      simp
    rw [e2]
    refine ⟨?_, .inr ?_, ?_⟩
    · rw [List.count_append, List.count_append, prn_count hl, h1]
      simp [Nat.add_comm]
    · rw [List.getLast?_append, List.getLast?_append]
      rcases h2 with h2 | h2
      · rw [h2]; rfl
      · rw [h2]; rfl
    · simp only [List.length_append, List.length_cons, List.length_nil, Nat.succ_mul]
      omega
end Go.Proofs.YtnpmdepbfobebaaGreatDoor

namespace Go.Proofs.YtnpmdepbfobebaaGreatDoor
set_option linter.unusedSimpArgs false
set_option linter.unusedVariables false
open Go.RowKit

theorem map_at {α β γ : Type} {f : α → γ} {g : β → γ} {l : List α} {m : List β} (h : l.map f = m.map g) {k : Nat} {x : α} {y : β} (hx : l[k]? = some x) (hy : m[k]? = some y) : f x = g y := by
  have := congrArg (fun l => l[k]?) h
  simp only [List.getElem?_map, hx, hy, Option.map_some, Option.some.injEq] at this
  exact this

/-- The cells of the terms of two literals. -/
def V0 (V : World) (b c bo co k : Nat) (l1 l2 l4 m4 r1 r2 r4 p4 : Int) (l3 r3 : ByteArray) : Prop :=
  V.cell? ⟨b, bo + k * 14 + 5, none⟩ = some (.int .i64 l1) ∧ V.cell? ⟨b, bo + k * 14 + 6, none⟩ = some (.int .i64 l2) ∧ V.cell? ⟨b, bo + k * 14 + 7, none⟩ = some (.string l3) ∧ V.cell? ⟨b, bo + k * 14 + 8, none⟩ = some (.int .i64 l4) ∧ V.cell? ⟨b, bo + k * 14 + 9, none⟩ = some (.int .i64 r1) ∧ V.cell? ⟨b, bo + k * 14 + 10, none⟩ = some (.int .i64 r2) ∧ V.cell? ⟨b, bo + k * 14 + 11, none⟩ = some (.string r3) ∧ V.cell? ⟨b, bo + k * 14 + 12, none⟩ = some (.int .i64 r4) ∧ V.cell? ⟨c, co + k * 14 + 5, none⟩ = some (.int .i64 l1) ∧ V.cell? ⟨c, co + k * 14 + 6, none⟩ = some (.int .i64 l2) ∧ V.cell? ⟨c, co + k * 14 + 7, none⟩ = some (.string l3) ∧ V.cell? ⟨c, co + k * 14 + 8, none⟩ = some (.int .i64 m4) ∧ V.cell? ⟨c, co + k * 14 + 9, none⟩ = some (.int .i64 r1) ∧ V.cell? ⟨c, co + k * 14 + 10, none⟩ = some (.int .i64 r2) ∧ V.cell? ⟨c, co + k * 14 + 11, none⟩ = some (.string r3) ∧ V.cell? ⟨c, co + k * 14 + 12, none⟩ = some (.int .i64 p4)

set_option maxRecDepth 100000 in
set_option maxHeartbeats 8000000 in
theorem sameBody4 {w : World} {F G : Nat → Prop} {v1 v2 : Value} {l m : List Lix} (h1 : Lst elLix w F v1 l) (h2 : Lst elLix w G v2 m) (hp : l.map (fun x => x.pur.st) = m.map (fun x => x.pur.st)) :
    Calls Tryz.prog 23 #[v1, v2] w fun e w' => e = .returned (.bool true) ∧ Below w.heap.size w w' := by
  obtain ⟨a1, c1, rfl, -, -, hl1⟩ := h1.shape
  obtain ⟨a2, c2, rfl, -, -, hl2⟩ := h2.shape
  have hl : l.length = m.length := by have := congrArg List.length hp; simpa using this
  have H1 := hide h1.all
  have H2 := hide h2.all
  have HP := hide hp
  have HE := hide hl
  obtain ⟨n, hn⟩ : ∃ n, n = l.length := ⟨_, rfl⟩
  rw [← hl, ← hn]
  rw [← hn] at hl1
  rw [← hl] at H2
  rw [← hn] at H1 H2
  have HN := hide hn
  clear h1 h2 hp hl hl2 hn
  have hnn : ((n : Int) != (n : Int)) = false := by simp
  go_enter Tryz.func23, Tryz.ntmps23
  go_wp2
  go_loopw [5] (fun i wl => ∃ k : Nat, k ≤ n ∧ i = .int .i64 k ∧ Hid (Below w.heap.size w wl)) (fun i _ => n - (intOf i).toNat)
  case atStart => exact ⟨0, by omega, rfl, Below.refl _ _⟩
  case round =>
    obtain ⟨k, hk, rfl, HB⟩ := hrel
    by_cases hlt : k < n
    · have hi : (k : Int) < (n : Int) := by omega
      have hi0 : (0 : Int) ≤ (k : Int) := by omega
      obtain ⟨b, bo, rfl, -, -, hrow⟩ := (H1.out.kept HB.out).row (by have := HN.out; omega)
      obtain ⟨c, co, rfl, -, -, krow⟩ := (H2.out.kept HB.out).row (by have := HN.out; have := HE.out; omega)
      obtain ⟨x, hx⟩ : ∃ x, l[k]? = some x := ⟨_, List.getElem?_eq_getElem (by have := HN.out; omega)⟩
      obtain ⟨y, hy⟩ : ∃ y, m[k]? = some y := ⟨_, List.getElem?_eq_getElem (by have := HN.out; have := HE.out; omega)⟩
      have hpq := map_at HP.out hx hy
      have x0 := over_cell (hrow k _ hx 0 _ rfl)
      have x1 := over_cell (hrow k _ hx 1 _ rfl)
      have x2 := over_cell (hrow k _ hx 2 _ rfl)
      have x3 := over_cell (hrow k _ hx 3 _ rfl)
      have x4 := over_cell (hrow k _ hx 4 _ rfl)
      have rx5 := hrow k _ hx 5 _ rfl
      have rx6 := hrow k _ hx 6 _ rfl
      have rx7 := hrow k _ hx 7 _ rfl
      have rx8 := hrow k _ hx 8 _ rfl
      have rx9 := hrow k _ hx 9 _ rfl
      have rx10 := hrow k _ hx 10 _ rfl
      have rx11 := hrow k _ hx 11 _ rfl
      have rx12 := hrow k _ hx 12 _ rfl
      have y0 := over_cell (krow k _ hy 0 _ rfl)
      have y1 := over_cell (krow k _ hy 1 _ rfl)
      have y2 := over_cell (krow k _ hy 2 _ rfl)
      have y3 := over_cell (krow k _ hy 3 _ rfl)
      have y4 := over_cell (krow k _ hy 4 _ rfl)
      have ry5 := krow k _ hy 5 _ rfl
      have ry6 := krow k _ hy 6 _ rfl
      have ry7 := krow k _ hy 7 _ rfl
      have ry8 := krow k _ hy 8 _ rfl
      have ry9 := krow k _ hy 9 _ rfl
      have ry10 := krow k _ hy 10 _ rfl
      have ry11 := krow k _ hy 11 _ rfl
      have ry12 := krow k _ hy 12 _ rfl
      have hxo := H1.out.ok (List.mem_of_getElem? hx)
      have hyo := H2.out.ok (List.mem_of_getElem? hy)
      obtain ⟨lk, ⟨ap, av, aoff, ats⟩, lop, ⟨l1, l2, l3, l4⟩, ⟨r1, r2, r3, r4⟩, loff⟩ := x
      obtain ⟨yk, ⟨yp, yv, yoff, yts⟩, yop, ⟨m1, m2, m3, m4⟩, ⟨p1, p2, p3, p4⟩, yof⟩ := y
      simp only [elLix, Nat.add_zero] at x0 x1 x2 x3 x4 rx5 rx6 rx7 rx8 rx9 rx10 rx11 rx12 ry5 ry6 ry7 ry8 ry9 ry10 ry11 ry12 y0 y1 y2 y3 y4
      simp only [Lix.pur, Atx.pur, PLit.st, PAtom.st, Trm.st, PLit.mk.injEq, PAtom.mk.injEq, Trm.mk.injEq] at hpq
      obtain ⟨rfl, ⟨rfl, hts, -⟩, rfl, ⟨rfl, rfl, rfl, -⟩, ⟨rfl, rfl, rfl, -⟩, -⟩ := hpq
      have HS := hide (fun W (hb : Below wr.heap.size wr W) => sameAtom4 ap aoff yoff ats yts av yv (((show Lst elTrm w (fun _ => True) av ats from hxo.2.1.2.2).kept HB.out).kept hb) (((show Lst elTrm w (fun _ => True) yv yts from hyo.2.1.2.2).kept HB.out).kept hb) hts)
      have HT : Hid (∀ (k n : Int) (s : ByteArray) (o o' : Int) (W : World), Calls Tryz.prog 42 #[.agg #[.int .i64 k, .int .i64 n, .string s, .int .i64 o], .agg #[.int .i64 k, .int .i64 n, .string s, .int .i64 o']] W fun e w' => e = .returned (.bool true) ∧ Below W.heap.size W w') := fun k n s o o' W => sameTerm4 ⟨k, n, s, o⟩ ⟨k, n, s, o'⟩ rfl W
      obtain ⟨xa, xc, rfl, -⟩ := (show Lst elTrm w (fun _ => True) av ats from hxo.2.1.2.2).shape
      obtain ⟨ya, yc, rfl, -⟩ := (show Lst elTrm w (fun _ => True) yv yts from hyo.2.1.2.2).shape
      have q1 : (lk != lk) = false := by simp
      have q2 : (lop != lop) = false := by simp
      clear hrow hx krow hy hxo hyo hts
      have HX : Hid (V0 wr b c bo co k l1 l2 l4 m4 r1 r2 r4 p4 l3 r3) := ⟨rx5, rx6, rx7, rx8, rx9, rx10, rx11, rx12, ry5, ry6, ry7, ry8, ry9, ry10, ry11, ry12⟩
      clear rx5 rx6 rx7 rx8 rx9 rx10 rx11 rx12 ry5 ry6 ry7 ry8 ry9 ry10 ry11 ry12
      go_wp2
      refine wp_region_over (fun W => W = wr) (by kernel_rfl) (by kernel_rfl) rfl ?_
      rintro W rfl
      repeat (go_big_quiet_step (first | (go_at_call 37; exact calls_over (HS.out _ (over_below _ _)))))
      refine wpQuiet_nil ?_
      rintro _ ⟨z, rfl⟩
      have HB3 := hide (over_below W z)
      clear x0 x1 x2 x3 x4 y0 y1 y2 y3 y4 HS
      go_wp2
      refine wp_region_over (fun V => V = over W z) (by kernel_rfl) (by kernel_rfl) rfl ?_
      rintro V rfl
      obtain ⟨x5, x6, x7, x8, x9, x10, x11, x12, y5, y6, y7, y8, y9, y10, y11, y12⟩ := HX.out
      have x5 := over_cell (kept_cell HB3.out x5)
      have x6 := over_cell (kept_cell HB3.out x6)
      have x7 := over_cell (kept_cell HB3.out x7)
      have x8 := over_cell (kept_cell HB3.out x8)
      have x9 := over_cell (kept_cell HB3.out x9)
      have x10 := over_cell (kept_cell HB3.out x10)
      have x11 := over_cell (kept_cell HB3.out x11)
      have x12 := over_cell (kept_cell HB3.out x12)
      have y5 := over_cell (kept_cell HB3.out y5)
      have y6 := over_cell (kept_cell HB3.out y6)
      have y7 := over_cell (kept_cell HB3.out y7)
      have y8 := over_cell (kept_cell HB3.out y8)
      have y9 := over_cell (kept_cell HB3.out y9)
      have y10 := over_cell (kept_cell HB3.out y10)
      have y11 := over_cell (kept_cell HB3.out y11)
      have y12 := over_cell (kept_cell HB3.out y12)
      repeat (go_big_quiet_step (first | (go_at_call 42; exact calls_over (HT.out _ _ _ _ _ _))))
      refine wpQuiet_nil ?_
      rintro _ ⟨z2, rfl⟩
      have HB4 := hide (HB.out.trans ((HB3.out.trans ((over_below (over W z) z2).mono HB3.out.size)).mono HB.out.size))
      clear x5 x6 x7 x8 x9 x10 x11 x12 y5 y6 y7 y8 y9 y10 y11 y12 HT HX
      go_wp2
      go_roundw
      case rel => exact ⟨k + 1, by omega, by go_num, HB4⟩
      case measure => simp [intOf]; omega
    · obtain rfl : k = n := by omega
      have hi : ¬ (k : Int) < (k : Int) := by omega
      go_wp2
      go_ret
      exact ⟨rfl, HB.out⟩
end Go.Proofs.YtnpmdepbfobebaaGreatDoor

namespace Go.Proofs.YtnpmdepbfobebaaGreatDoor
set_option linter.unusedSimpArgs false
set_option linter.unusedVariables false
open Go.RowKit

set_option maxRecDepth 100000 in
set_option maxHeartbeats 8000000 in
theorem sameProg4 {w : World} {F G : Nat → Prop} {v1 v2 : Value} {l m : List Clx} (h1 : Lst elClx w F v1 l) (h2 : Lst elClx w G v2 m) (hp : l.map (fun x => x.pur.st) = m.map (fun x => x.pur.st)) :
    Calls Tryz.prog 19 #[.agg #[v1], .agg #[v2]] w fun e w' => e = .returned (.bool true) ∧ Below w.heap.size w w' := by
  obtain ⟨a1, c1, rfl, -, -, hl1⟩ := h1.shape
  obtain ⟨a2, c2, rfl, -, -, hl2⟩ := h2.shape
  have hl : l.length = m.length := by have := congrArg List.length hp; simpa using this
  have H1 := hide h1.all
  have H2 := hide h2.all
  have HP := hide hp
  have HE := hide hl
  obtain ⟨n, hn⟩ : ∃ n, n = l.length := ⟨_, rfl⟩
  rw [← hl, ← hn]
  rw [← hn] at hl1
  rw [← hl] at H2
  rw [← hn] at H1 H2
  have HN := hide hn
  clear h1 h2 hp hl hl2 hn
  have hnn : ((n : Int) != (n : Int)) = false := by simp
  go_enter Tryz.func19, Tryz.ntmps19
  go_wp2
  obtain ⟨Y, hY⟩ : ∃ Y, Y = (w.alloc (.cells #[.slice a1 n c1] 47)).alloc (.cells #[.slice a2 n c2] 47) := ⟨_, rfl⟩
  have HB0 : Hid (Below w.heap.size w Y) := by rw [hY]; exact below2a _ _ _
  have HPc : Hid (Y.cell? ⟨w.heap.size, 0, none⟩ = some (.slice a1 n c1) ∧ Y.cell? ⟨w.heap.size + 1, 0, none⟩ = some (.slice a2 n c2)) := by
    show _ ∧ _
    rw [hY]
    constructor <;> simp
  rw [← hY]
  clear hY
  go_loopw [5] (fun i wl => ∃ k : Nat, k ≤ n ∧ i = .int .i64 k ∧ Hid (Below Y.heap.size Y wl)) (fun i _ => n - (intOf i).toNat)
  case atStart => exact ⟨0, by omega, rfl, Below.refl _ _⟩
  case round =>
    obtain ⟨k, hk, rfl, HBy⟩ := hrel
    have HB := hide (HB0.out.trans (HBy.out.mono HB0.out.size))
    have s1 := kept_cell HBy.out HPc.out.1
    have s2 := kept_cell HBy.out HPc.out.2
    by_cases hlt : k < n
    · have hi : (k : Int) < (n : Int) := by omega
      have hi0 : (0 : Int) ≤ (k : Int) := by omega
      obtain ⟨b, bo, rfl, -, -, hrow⟩ := (H1.out.kept HB.out).row (by have := HN.out; omega)
      obtain ⟨c, co, rfl, -, -, krow⟩ := (H2.out.kept HB.out).row (by have := HN.out; have := HE.out; omega)
      obtain ⟨x, hx⟩ : ∃ x, l[k]? = some x := ⟨_, List.getElem?_eq_getElem (by have := HN.out; omega)⟩
      obtain ⟨y, hy⟩ : ∃ y, m[k]? = some y := ⟨_, List.getElem?_eq_getElem (by have := HN.out; have := HE.out; omega)⟩
      have hpq := map_at HP.out hx hy
      have x0 := over_cell (hrow k _ hx 0 _ rfl)
      have x1 := over_cell (hrow k _ hx 1 _ rfl)
      have x2 := over_cell (hrow k _ hx 2 _ rfl)
      have x3 := over_cell (hrow k _ hx 3 _ rfl)
      have y0 := over_cell (krow k _ hy 0 _ rfl)
      have y1 := over_cell (krow k _ hy 1 _ rfl)
      have y2 := over_cell (krow k _ hy 2 _ rfl)
      have y3 := over_cell (krow k _ hy 3 _ rfl)
      have hxo := H1.out.ok (List.mem_of_getElem? hx)
      have hyo := H2.out.ok (List.mem_of_getElem? hy)
      obtain ⟨⟨xp, xv, xoff, xts⟩, xb, xls⟩ := x
      obtain ⟨⟨yp, yv, yoff, yts⟩, yb, yls⟩ := y
      simp only [elClx, Nat.add_zero] at x0 x1 x2 x3 y0 y1 y2 y3
      simp only [Clx.pur, Atx.pur, PCls.st, PAtom.st, PCls.mk.injEq, PAtom.mk.injEq, List.map_map] at hpq
      obtain ⟨⟨rfl, hts, -⟩, hpb⟩ := hpq
      have HS := hide (fun W (hb : Below wr.heap.size wr W) => sameAtom4 xp xoff yoff xts yts xv yv (((show Lst elTrm w (fun _ => True) xv xts from hxo.1.2.2).kept HB.out).kept hb) (((show Lst elTrm w (fun _ => True) yv yts from hyo.1.2.2).kept HB.out).kept hb) hts)
      have HT := hide (fun W (hb : Below wr.heap.size wr W) => sameBody4 (((show Lst elLix w (fun _ => True) xb xls from hxo.2).kept HB.out).kept hb) (((show Lst elLix w (fun _ => True) yb yls from hyo.2).kept HB.out).kept hb) hpb)
      have hll : yls.length = xls.length := by have := congrArg List.length hpb; simp only [List.length_map] at this; exact this.symm
      obtain ⟨xa, xc, rfl, -⟩ := (show Lst elTrm w (fun _ => True) xv xts from hxo.1.2.2).shape
      obtain ⟨ya, yc, rfl, -⟩ := (show Lst elTrm w (fun _ => True) yv yts from hyo.1.2.2).shape
      obtain ⟨xd, xe, rfl, -⟩ := (show Lst elLix w (fun _ => True) xb xls from hxo.2).shape
      obtain ⟨yd, ye, rfl, -⟩ := (show Lst elLix w (fun _ => True) yb yls from hyo.2).shape
      clear hrow hx krow hy hxo hyo hts hpb hll
      go_wp2
      refine wp_region_over (fun W => W = wr) (by kernel_rfl) (by kernel_rfl) rfl ?_
      rintro W rfl
      have t1 := over_cell s1
      have t2 := over_cell s2
      clear s1 s2
      repeat (go_big_quiet_step (first | (go_at_call 37; exact calls_over (HS.out _ (over_below _ _))) | (go_at_call 23; exact calls_over (HT.out _ (over_below _ _)))))
      refine wpQuiet_nil ?_
      rintro _ ⟨z, rfl⟩
      have HB3 := hide (HBy.out.trans ((over_below W z).mono HBy.out.size))
      clear x0 x1 x2 x3 y0 y1 y2 y3 t1 t2 HS HT
      go_wp2
      go_roundw
      case rel => exact ⟨k + 1, by omega, by go_num, HB3⟩
      case measure => simp [intOf]; omega
    · obtain rfl : k = n := by omega
      have hi : ¬ (k : Int) < (k : Int) := by omega
      go_wp2
      go_ret
      exact ⟨rfl, HB.out⟩
end Go.Proofs.YtnpmdepbfobebaaGreatDoor

namespace Go.Proofs.YtnpmdepbfobebaaGreatDoor
set_option linter.unusedSimpArgs false
set_option linter.unusedVariables false
open Go.RowKit

def fewT : Nat → List UInt8
  | 0 => []
  | k + 1 => fewT k ++ [32, 112, 46, 9]
def pC : PCls := ⟨⟨⟨#[112]⟩, [], 0⟩, []⟩
theorem pC_ok : okC pC := ⟨⟨by show isNameL (ByteArray.toList ⟨#[112]⟩) = true; rw [ByteArray.toList_eq]; decide, by decide, by simp [pC]⟩, by decide, by simp [pC]⟩
def fewPc : List UInt8 → Nat → List Pc
  | _, 0 => []
  | g, k + 1 => clsPc g pC (fewPc [9, 32] k)
theorem gp_tab : Gp [9, 32] := gp_blank (by decide) gp_sp
theorem few_pc {e : List UInt8} : ∀ (k : Nat) (g : List UInt8), Gp g → PcOk e (fewPc g k)
  | 0, _, _ => trivial
  | k + 1, g, hg => cls_pc hg pC_ok (few_pc k [9, 32] gp_tab)
theorem few_made {e : List UInt8} : ∀ (k : Nat) (g : List UInt8) (o : Nat), ∃ P, ProgT (tks o (fewPc g k) e) P ∧ P.length = k
  | 0, _, _ => ⟨[], .nil _ rfl, rfl⟩
  | k + 1, g, o => by
    obtain ⟨X, q, x, e1, e2, e3⟩ := cls_made (e := e) (fewPc [9, 32] k) g pC o pC_ok
    obtain ⟨P, h1, h2⟩ := few_made k [9, 32] q
    refine ⟨x :: P, ?_, by rw [List.length_cons, h2]⟩
    show ProgT (tks o (clsPc g pC _) e) _
    rw [e1]
    exact .more X x _ P e2 h1
theorem few_txt : ∀ k : Fin 9, fewT k.val = txt (fewPc [32] k.val) (if k.val = 0 then [] else [9]) := by decide
theorem few_prog {T : ByteArray} {k : Nat} (hk : k < 9) (hT : T.data.toList = fewT k) (hs : T.size ≤ 65536) :
    ∃ P, progP (scanX T).2.1 ((scanX T).2.2 : Int) (scanX T).1 = .ok P [] ∧ P.length = k := by
  have ht := few_txt ⟨k, hk⟩
  simp only at ht
  have hge : Gp (if k = 0 then [] else [9]) := by
    split
    · exact gp_nil
    · exact gp_blank (by decide) gp_nil
  have h := made_toks (T := T) hge (fewPc [32] k) 0 (Nat.zero_le _) (by unfold rest; rw [List.drop_zero, hT, ht]) (few_pc k [32] gp_sp)
  obtain ⟨P, h1, h2⟩ := few_made (e := if k = 0 then [] else [9]) k [32] 0
  rw [scan_eq hs h]
  exact ⟨P, prog_fwd h1 (by omega) _ _, h2⟩
theorem few_len : ∀ k, (fewT k).length = 4 * k
  | 0 => rfl
  | k + 1 => by unfold fewT; rw [List.length_append, few_len k]; simp; omega
end Go.Proofs.YtnpmdepbfobebaaGreatDoor

namespace Go.Proofs.YtnpmdepbfobebaaGreatDoor
set_option linter.unusedSimpArgs false
set_option linter.unusedVariables false
open Go.RowKit

def mod9 (n : Int) : Int := (n.tmod 9 + 9) % 9
set_option maxRecDepth 100000 in
set_option maxHeartbeats 1000000 in
theorem mod4_9 (n : Int) (w : World) : Calls Tryz.prog 15 #[.int .i64 n, .int .i64 9] w fun e w' => e = .returned (.int .i64 (mod9 n)) ∧ w' = w := by
  have h1 := Int.tmod_lt_of_pos n (show (0 : Int) < 9 by decide)
  have h2 := Int.lt_tmod_of_pos n (show (0 : Int) < 9 by decide)
  by_cases h0 : n.tmod 9 < 0
  · have HE : Hid (mod9 n = n.tmod 9 + 9) := by show _ = _; unfold mod9; omega
    have hw : wrap64 (n.tmod 9 + 9) = n.tmod 9 + 9 := by unfold wrap64; omega
    rw [HE.out]
    clear HE
    go_enter Tryz.func15, Tryz.ntmps15
    go_wp2
    go_ret
    exact ⟨rfl, rfl⟩
  · have HE : Hid (mod9 n = n.tmod 9) := by show _ = _; unfold mod9; omega
    rw [HE.out]
    clear HE
    go_enter Tryz.func15, Tryz.ntmps15
    go_wp2
    go_ret
    exact ⟨rfl, rfl⟩

theorem lnOk_at : ∀ (l : List UInt8) (p : UInt8), LnOk p l → ∀ (i : Nat) (b : UInt8), l[i]? = some b → (b = 10 ∧ ((i = 0 ∧ p = 46) ∨ (0 < i ∧ l[i - 1]? = some 46))) ∨ (b ≠ 10 ∧ 32 ≤ b.toNat ∧ b.toNat ≤ 126)
  | [], _, _, i, b, hb => by simp at hb
  | a :: r, p, h, 0, b, hb => by
    cases hb
    rcases h.1 with ⟨h1, h2⟩ | ⟨h1, h2⟩
    · exact .inl ⟨h1, .inl ⟨rfl, h2⟩⟩
    · exact .inr ⟨fun e => by subst e; exact absurd h1 (by decide), h1, h2⟩
  | a :: r, p, h, i + 1, b, hb => by
    rcases lnOk_at r a h.2 i b hb with ⟨h1, h2⟩ | h1
    · refine .inl ⟨h1, .inr ⟨by omega, ?_⟩⟩
      rcases h2 with ⟨rfl, rfl⟩ | ⟨h3, h4⟩
      · rfl
      · obtain ⟨j, rfl⟩ : ∃ j, i = j + 1 := ⟨i - 1, by omega⟩
        exact h4
    · exact .inr h1
/-- A text in lines, as the law asks. -/
structure Lined (s : ByteArray) (m : Nat) : Prop where
  at_ : ∀ (i : Nat) (h : i < s.size), (s[i] = 10 ∧ ∃ h0 : 0 < i, s[i - 1] = 46) ∨ (s[i] ≠ 10 ∧ 32 ≤ s[i].toNat ∧ s[i].toNat ≤ 126)
  num : s.data.toList.count 10 = m
  last : s.size = 0 ∨ ∃ h : 0 < s.size, s[s.size - 1] = 10
theorem get_data (s : ByteArray) (i : Nat) (h : i < s.size) : s.data.toList[i]? = some s[i] := by
  rw [Array.getElem?_toList]
  exact Array.getElem?_eq_getElem h
theorem lined_of {s : ByteArray} {m : Nat} (h : LnOk 0 s.data.toList) (hc : s.data.toList.count 10 = m) (hl : s.data.toList = [] ∨ s.data.toList.getLast? = some 10) : Lined s m where
  at_ i hi := by
    rcases lnOk_at _ _ h i s[i] (get_data s i hi) with ⟨h1, ⟨-, h2⟩ | ⟨h2, h3⟩⟩ | h1
    · exact absurd h2 (by decide)
    · refine .inl ⟨h1, h2, ?_⟩
      rw [get_data s (i - 1) (by omega)] at h3
      exact Option.some.inj h3
    · exact .inr h1
  num := hc
  last := by
    rcases hl with hl | hl
    · exact .inl (by have := congrArg List.length hl; exact this)
    · have h0 : 0 < s.size := by
        rcases Nat.eq_zero_or_pos s.size with h0 | h0
        · have : s.data.toList = [] := List.length_eq_zero_iff.1 h0
          rw [this] at hl; cases hl
        · exact h0
      refine .inr ⟨h0, ?_⟩
      rw [List.getLast?_eq_getElem?] at hl
      have := get_data s (s.size - 1) (by omega)
      have e : s.data.toList.length = s.size := rfl
      rw [e, this] at hl
      exact Option.some.inj hl
theorem count_take (s : ByteArray) (i : Nat) (h : i < s.size) : (s.data.toList.take (i + 1)).count 10 = (s.data.toList.take i).count 10 + (if s[i] = 10 then 1 else 0) := by
  rw [List.take_add_one, get_data s i h, Option.toList_some, List.count_append, List.count_singleton]
  by_cases hb : s[i] = 10
  · rw [hb]; rfl
  · rw [if_neg hb, if_neg (by simpa using hb)]

set_option maxRecDepth 100000 in
set_option maxHeartbeats 4000000 in
theorem lines_any (s : ByteArray) (m : Nat) (w : World) (h : Lined s m) (hs : s.size ≤ 140737488351232) :
    Calls Tryz.prog 9 #[.string s, .int .i64 m] w fun e w' => e = .returned (.bool true) ∧ w' = w := by
  have HH := hide h
  have hm : m ≤ s.size := by rw [← h.num]; exact List.count_le_length
  clear h
  go_enter Tryz.func9, Tryz.ntmps9
  go_wp2
  go_loopw [1, 5] (fun nv i wl => ∃ k c : Nat, k ≤ s.size ∧ c ≤ m ∧ nv = .int .i64 ((m : Int) - c) ∧ i = .int .i64 k ∧ Hid (c = (s.data.toList.take k).count 10) ∧ wl = w) (fun _ i _ => s.size - (intOf i).toNat)
  case atStart => exact ⟨0, 0, by omega, by omega, by simp, rfl, rfl, rfl⟩
  case round =>
    obtain ⟨k, c, hk, hc, rfl, rfl, HC, rfl⟩ := hrel
    by_cases hlt : k < s.size
    · have hi : (k : Int) < (s.size : Int) := by omega
      have hi0 : (0 : Int) ≤ (k : Int) := by omega
      have HT := hide (count_take s k hlt)
      have hle : (s.data.toList.take (k + 1)).count 10 ≤ m := by
        rw [← HH.out.num]
        exact List.Sublist.count_le 10 (List.take_sublist _ _)
      rcases HH.out.at_ k hlt with ⟨h10, h0, h46⟩ | ⟨h10, h32, h126⟩
      · have HC2 : Hid (c + 1 = (s.data.toList.take (k + 1)).count 10) := by show _ = _; rw [HT.out, if_pos h10, HC.out]
        have hcm : c + 1 ≤ m := by rw [HC2.out]; exact hle
        obtain ⟨x, hx⟩ : ∃ x : Int, x = (s[k].toNat : Int) := ⟨_, rfl⟩
        obtain ⟨y, hy⟩ : ∃ y : Int, y = (s[k - 1].toNat : Int) := ⟨_, rfl⟩
        have e1 : (x == 10) = true := by rw [hx, h10]; rfl
        have e2 : (y != 46) = false := by rw [hy, h46]; rfl
        have e3 : ((k : Int) == 0) = false := by simp; omega
        have hw1 : wrap64 ((m : Int) - c - 1) = (m : Int) - (c + 1 : Nat) := by unfold wrap64; omega
        go_wp2
        go_roundw
        case rel => exact ⟨k + 1, c + 1, by omega, hcm, by go_num, by go_num, HC2, trivial⟩
        case measure => simp [intOf]; omega
      · have HC2 : Hid (c = (s.data.toList.take (k + 1)).count 10) := by show _ = _; rw [HT.out, if_neg h10, HC.out]; rfl
        have hne : ¬ (s[k].toNat : Int) = 10 := by
          intro e
          apply h10
          apply UInt8.toNat_inj.1
          have e2 : s[k].toNat = 10 := by omega
          rw [e2]
          rfl
        have e1 : ((s[k].toNat : Int) == 10) = false := by simpa using hne
        have e2 : ¬ (s[k].toNat : Int) < 32 := by omega
        have e3 : ¬ (126 : Int) < (s[k].toNat : Int) := by omega
        go_wp2
        go_roundw
        case rel => exact ⟨k + 1, c, by omega, hc, rfl, by go_num, HC2, trivial⟩
        case measure => simp [intOf]; omega
    · obtain rfl : k = s.size := by omega
      have hi : ¬ (s.size : Int) < (s.size : Int) := by omega
      have hcm : c = m := by rw [HC.out, ← HH.out.num, List.take_of_length_le (show s.data.toList.length ≤ s.size from Nat.le_refl _)]
      subst hcm
      have e0 : (c : Int) - c = 0 := by omega
      rw [e0]
      rcases HH.out.last with h0 | ⟨h0, hl⟩
      · have e1 : (s.toList == []) = true := by
          have : s.data.toList = [] := List.length_eq_zero_iff.1 h0
          rw [ByteArray.toList_eq, this]; rfl
        clear HC
        go_wp2
        go_ret
        exact ⟨rfl, rfl⟩
      · have e1 : (s.toList == []) = false := by
          cases hq : (s.toList == []) with
          | false => rfl
          | true =>
            have : s.data.toList = [] := by rw [← ByteArray.toList_eq]; simpa using hq
            have e : s.data.toList.length = s.size := rfl
            have h9 : s.size = 0 := by rw [← e, this]; rfl
            omega
        clear HC
        go_wp2
        go_ret
        exact ⟨rfl, rfl⟩
end Go.Proofs.YtnpmdepbfobebaaGreatDoor
