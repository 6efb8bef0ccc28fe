/- print's atoms, literals, bodies, clauses and programs as parts. print's literals as parts. print's bodies and clauses as parts. The text of a part that nothing speaks against. print's programs; textOf; print.Program of a program that a text can have. print's queries as parts. What print writes is read as the tree that was printed, but for places. What the laws of edictlaw04 make, as trees: it is well formed. A region that draws its order and whose last operation, which waits for all the others, writes what they read: the condition on the world must hold behind every operation but that one. Nothing of the program's own text. -/
import Derived.Test.YtchhophblejmeaaGreatDoorProg
import Derived.Test.YtchhophblejmeaaGreatDoorPkB5
import Derived.Test.YtchhophblejmeaaGreatDoorPkB6
import Derived.Deep.RegionHeld3
import Derived.Laws.OwnMore

namespace Go.Proofs.YtchhophblejmeaaGreatDoor
set_option linter.unusedSimpArgs false
set_option linter.unusedVariables false
open Go.RowKit

/-- An atom's text. -/
def atmT (p : ByteArray) (ts : List Trm) : List UInt8 := p.data.toList ++ argT (ts.map trmT)
def pvAtx (a : Atx) : Value := .iface 226 (.agg #[.string a.p, a.v, .int .i64 a.off])
theorem m_atom (d : Nat) (v : Value) (w : World) : (method (d + 1) 226 v "edict/print.write").run Tryz.prog w = .ok (180, v) w := by kernel_rfl
theorem en_atom (args : Array Value) (w : World) : (callFunc 180 args).run Tryz.prog w = .ok (.enter 180 args) w := enters_of Tryz.func180 (by kernel_rfl) rfl args w

set_option maxRecDepth 100000 in
set_option maxHeartbeats 4000000 in
theorem atom_write {w0 : World} (a : Atx) (ha : elAtx.ok w0 (fun _ => True) a) (ht : TabLaid w0) {B : Nat} {l : List UInt8} {W : World} (hW : Below w0.heap.size w0 W) (hB : w0.heap.size ≤ B) (h : BFs B l W) (hl : l.length + (atmT a.p a.ts).length ≤ 100000000000000) :
    Calls Tryz.prog 180 #[.agg #[.string a.p, a.v, .int .i64 a.off], .pointer (some ⟨B, 0, none⟩)] W fun e w' => e = .returned (.tuple #[]) ∧ BFs B (l ++ atmT a.p a.ts) w' ∧ Kp B W w' := by
  obtain ⟨hp, ho, hts⟩ := elAtx_ok ha
  obtain ⟨va, vc, hv, -, -, hlen⟩ := hts.shape
  have hlt := h.lt
  have HB1 : Hid (∀ o, Below W.heap.size W (W.alloc o)) := fun o => (Below.refl _ _).alloc (Nat.le_refl _) o
  have HPa : Hid (∀ V, Below W.heap.size W V → Calls Tryz.prog 181 #[a.v, .func (.func 182) #[] #[]] V fun e w' => ∃ v', e = .returned v' ∧ w'.ownsRow V.heap.size 99 1 v' a.ts.length (a.ts.map pvTrm) ∧ Below V.heap.size V w') := fun V hb => partsTrm (hts.kept (hW.trans (hb.mono hW.size)))
  have HWa : Hid (∀ V pv, Below W.heap.size W V → V.ownsRow (B + 1) 99 1 pv a.ts.length (a.ts.map pvTrm) → Calls Tryz.prog 160 #[.pointer (some ⟨B, 0, none⟩), .string a.p, pv] V fun e w' => e = .returned (.tuple #[]) ∧ BFs B (l ++ atmT a.p a.ts) w' ∧ Kp B V w') := fun V pv hb hr => by
    have hm : (a.ts.map fun t => (pvTrm t, trmT t)).map (·.2) = a.ts.map trmT := by rw [List.map_map]; rfl
    have hm1 : (a.ts.map fun t => (pvTrm t, trmT t)).map (·.1) = a.ts.map pvTrm := by rw [List.map_map]; rfl
    have := writeAtom_any (w0 := w0) (W := V) (B := B) (base := B + 1) (l := l) a.p (ps := a.ts.map fun t => (pvTrm t, trmT t)) (pv := pv) (fun x hx => by
      obtain ⟨t, ht2, rfl⟩ := List.mem_map.1 hx
      exact wr_term t (hts.ok ht2) ht) (by rw [hm1, List.length_map]; exact hr) (Nat.lt_succ_self B) (hW.trans (hb.mono hW.size)) hB (h.kept hb) (by rw [hm]; exact hl) (by rw [List.length_map]; exact hlen)
    rw [hm] at this
    exact this
  rw [hv] at HPa ⊢
  clear hp ho hts hv hlen ha ht hW h hl
  generalize atmT a.p a.ts = T at *
  generalize a.ts.map pvTrm = PS at *
  generalize a.ts.length = n at *
  go_enter Tryz.func180, Tryz.ntmps180
  go_wp2_with fail
  obtain ⟨bx, hbx⟩ : ∃ bx, bx = W.heap.size := ⟨_, rfl⟩
  have hbk : (W.alloc (.cells #[.string a.p, .slice va n vc, .int .i64 a.off] 226)).heap[bx]? = some (.cells #[.string a.p, .slice va n vc, .int .i64 a.off] 226 (0, 0)) := by rw [hbx]; exact heap_alloc_new W _
  have HW1 := hide (HB1.out (.cells #[.string a.p, .slice va n vc, .int .i64 a.off] 226))
  have hs1 : B + 1 ≤ (W.alloc (.cells #[.string a.p, .slice va n vc, .int .i64 a.off] 226)).heap.size := by simp; omega
  rw [← hbx]
  clear hbx HB1
  generalize W.alloc (.cells #[.string a.p, .slice va n vc, .int .i64 a.off] 226) = W1 at *
  have x0 : W1.cell? ⟨bx, 0, none⟩ = some (.string a.p) := by rw [Lib.cell_of_heap hbk]; rfl
  have x1 : W1.cell? ⟨bx, 1, none⟩ = some (.slice va n vc) := by rw [Lib.cell_of_heap hbk]; rfl
  have HPb : Hid (∀ V, V = W1 ∨ V = W1.drew → Calls Tryz.prog 181 #[.slice va n vc, .func (.func 182) #[] #[]] V fun e w' => ∃ v', e = .returned v' ∧ w'.ownsRow (B + 1) 99 1 v' n PS ∧ Below W1.heap.size W1 w') := fun V hV => by
    rcases hV with rfl | rfl
    · exact (HPa.out _ HW1.out).mono fun e w' ⟨v', h1, h2, h3⟩ => ⟨v', h1, own_low hs1 h2, h3⟩
    · exact (HPa.out _ HW1.out.drew).mono fun e w' ⟨v', h1, h2, h3⟩ => ⟨v', h1, own_low hs1 h2, ((Below.refl W1.heap.size W1).drew).trans h3⟩
  clear HPa hbk
  go_region_with (first
    | (go_at_call 181; refine (HPb.out _ (by first | exact .inl rfl | exact .inr rfl)).mono ?_; rintro e w2 ⟨pv, rfl, hr2, hb2⟩; have z0 := kept_cell hb2 x0; have z1 := kept_cell hb2 x1; have HR2 := hide hr2; have HB2 := hide hb2; clear hr2 hb2)
    | (go_at_call 160; refine (HWa.out _ _ (HW1.out.trans (HB2.out.mono HW1.out.size)) HR2.out).mono ?_; rintro e w3 ⟨rfl, h3, k3⟩; have H3 := hide h3; have K3 := hide ((Kp.of (HW1.out.trans (HB2.out.mono HW1.out.size)) (Nat.le_of_lt hlt)).trans k3); clear h3 k3))
  all_goals (try go_wp2)
  all_goals go_end0
  all_goals exact ⟨rfl, H3.out, K3.out⟩
theorem wr_atom {w0 : World} (a : Atx) (ha : elAtx.ok w0 (fun _ => True) a) (ht : TabLaid w0) : Wr w0 (pvAtx a) (atmT a.p a.ts) :=
  ⟨_, _, _, rfl, fun d W => m_atom d _ W, en_atom, fun W B l hW hB h hl => atom_write a ha ht hW hB h hl⟩
end Go.Proofs.YtchhophblejmeaaGreatDoor

namespace Go.Proofs.YtchhophblejmeaaGreatDoor
set_option linter.unusedSimpArgs false
set_option linter.unusedVariables false
open Go.RowKit

def opT (op : Int) : List UInt8 := if op = 1 then [61] else if op = 2 then [33, 61] else if op = 3 then [60] else if op = 4 then [60, 61] else if op = 5 then [62] else [62, 61]
theorem opWord_any (op : Int) (w : World) : Calls Tryz.prog 184 #[.int .i64 op] w fun e w' => e = .returned (.string ⟨(opT op).toArray⟩) ∧ w' = w := by
  by_cases h1 : op = 1
  · subst h1
    go_enter Tryz.func184, Tryz.ntmps184
    go_wp2
    go_ret
    exact ⟨rfl, rfl⟩
  by_cases h2 : op = 2
  · subst h2
    go_enter Tryz.func184, Tryz.ntmps184
    go_wp2
    go_ret
    exact ⟨rfl, rfl⟩
  by_cases h3 : op = 3
  · subst h3
    go_enter Tryz.func184, Tryz.ntmps184
    go_wp2
    go_ret
    exact ⟨rfl, rfl⟩
  by_cases h4 : op = 4
  · subst h4
    go_enter Tryz.func184, Tryz.ntmps184
    go_wp2
    go_ret
    exact ⟨rfl, rfl⟩
  by_cases h5 : op = 5
  · subst h5
    go_enter Tryz.func184, Tryz.ntmps184
    go_wp2
    go_ret
    exact ⟨rfl, rfl⟩
  have HE : Hid (opT op = [62, 61]) := by show _ = _; unfold opT; rw [if_neg h1, if_neg h2, if_neg h3, if_neg h4, if_neg h5]
  rw [HE.out]
  have e1 : (op == 1) = false := by simpa using h1
  have e2 : (op == 2) = false := by simpa using h2
  have e3 : (op == 3) = false := by simpa using h3
  have e4 : (op == 4) = false := by simpa using h4
  have e5 : (op == 5) = false := by simpa using h5
  go_enter Tryz.func184, Tryz.ntmps184
  go_wp2
  go_ret
  exact ⟨rfl, rfl⟩

/-- A literal's text. -/
def litT (x : Lix) : List UInt8 := if x.k = 1 then atmT x.a.p x.a.ts else if x.k = 2 then [110, 111, 116] ++ ([32] ++ atmT x.a.p x.a.ts) else if x.k = 3 then trmT x.l ++ ([32] ++ (opT x.op ++ ([32] ++ trmT x.r))) else []
theorem m_lit (d : Nat) (v : Value) (w : World) : (method (d + 1) 229 v "edict/print.write").run Tryz.prog w = .ok (183, v) w := by kernel_rfl
theorem en_lit (args : Array Value) (w : World) : (callFunc 183 args).run Tryz.prog w = .ok (.enter 183 args) w := enters_of Tryz.func183 (by kernel_rfl) rfl args w

theorem box_cells {V : World} {x : Lix} {bx n vc : Nat} {va : Option Addr} (h : V.heap[bx]? = some (.cells #[.int .i64 x.k, .string x.a.p, .slice va n vc, .int .i64 x.a.off, .int .i64 x.op, .int .i64 x.l.k, .int .i64 x.l.n, .string x.l.s, .int .i64 x.l.off, .int .i64 x.r.k, .int .i64 x.r.n, .string x.r.s, .int .i64 x.r.off, .int .i64 x.off] 229 (0, 0))) : V.cell? ⟨bx, 4, none⟩ = some (.int .i64 x.op) ∧ V.cell? ⟨bx, 5, none⟩ = some (.int .i64 x.l.k) ∧ V.cell? ⟨bx, 6, none⟩ = some (.int .i64 x.l.n) ∧ V.cell? ⟨bx, 7, none⟩ = some (.string x.l.s) ∧ V.cell? ⟨bx, 8, none⟩ = some (.int .i64 x.l.off) ∧ V.cell? ⟨bx, 9, none⟩ = some (.int .i64 x.r.k) ∧ V.cell? ⟨bx, 10, none⟩ = some (.int .i64 x.r.n) ∧ V.cell? ⟨bx, 11, none⟩ = some (.string x.r.s) ∧ V.cell? ⟨bx, 12, none⟩ = some (.int .i64 x.r.off) := by
  refine ⟨?_, ?_, ?_, ?_, ?_, ?_, ?_, ?_, ?_⟩ <;> (rw [Lib.cell_of_heap h]; rfl)

set_option maxRecDepth 100000 in
set_option maxHeartbeats 8000000 in
theorem lit_write {w0 : World} (x : Lix) (hx : elLix.ok w0 (fun _ => True) x) (ht : TabLaid w0) {B : Nat} {l : List UInt8} {W : World} (hW : Below w0.heap.size w0 W) (hB : w0.heap.size ≤ B) (h : BFs B l W) (hl : l.length + (litT x).length ≤ 100000000000000) :
    Calls Tryz.prog 183 #[.agg #[.int .i64 x.k, .string x.a.p, x.a.v, .int .i64 x.a.off, .int .i64 x.op, .int .i64 x.l.k, .int .i64 x.l.n, .string x.l.s, .int .i64 x.l.off, .int .i64 x.r.k, .int .i64 x.r.n, .string x.r.s, .int .i64 x.r.off, .int .i64 x.off], .pointer (some ⟨B, 0, none⟩)] W fun e w' => e = .returned (.tuple #[]) ∧ BFs B (l ++ litT x) w' ∧ Kp B W w' := by
  obtain ⟨hk, ha, hop, hxl, hxr, hof⟩ := elLix_ok hx
  obtain ⟨va, vc, hv, -, -, hlen⟩ := (elAtx_ok ha).2.2.shape
  have hlt := h.lt
  have HWa : Hid (Wr w0 (.iface 226 (.agg #[.string x.a.p, .slice va x.a.ts.length vc, .int .i64 x.a.off])) (atmT x.a.p x.a.ts)) := by
    have := wr_atom x.a ha ht
    unfold pvAtx at this
    rw [hv] at this
    exact this
  have HWl := hide (wr_term x.l hxl ht)
  have HWr := hide (wr_term x.r hxr ht)
  have HH := hide h
  have HW0 := hide hW
  have HT : Hid (litT x = if x.k = 1 then atmT x.a.p x.a.ts else if x.k = 2 then [110, 111, 116] ++ ([32] ++ atmT x.a.p x.a.ts) else if x.k = 3 then trmT x.l ++ ([32] ++ (opT x.op ++ ([32] ++ trmT x.r))) else []) := rfl
  rw [hv]
  obtain ⟨W1, hW1⟩ : ∃ W1, W1 = W.alloc (.cells #[.int .i64 x.k, .string x.a.p, .slice va x.a.ts.length vc, .int .i64 x.a.off, .int .i64 x.op, .int .i64 x.l.k, .int .i64 x.l.n, .string x.l.s, .int .i64 x.l.off, .int .i64 x.r.k, .int .i64 x.r.n, .string x.r.s, .int .i64 x.r.off, .int .i64 x.off] 229) := ⟨_, rfl⟩
  have HB1 : Hid (Below W.heap.size W W1) := by rw [hW1]; exact (Below.refl _ _).alloc (Nat.le_refl _) _
  have hs1 : B + 1 < W1.heap.size := by rw [hW1]; simp; omega
  have hsz : W1.heap.size = W.heap.size + 1 := by rw [hW1]; simp
  clear h hk ha hop hxl hxr hof hx ht hW hv
  by_cases h1 : x.k = 1
  · have HE : Hid (litT x = atmT x.a.p x.a.ts) := by show _ = _; rw [HT.out, if_pos h1]
    rw [HE.out] at hl ⊢
    have HJ : Hid (∀ V g, Below W.heap.size W V → V.heap[g]? = some (.cells #[.iface 226 (.agg #[.string x.a.p, .slice va x.a.ts.length vc, .int .i64 x.a.off])] 99 (0, 0)) → B < g → Calls Tryz.prog 155 #[.pointer (some ⟨B, 0, none⟩), .string ⟨#[32]⟩, .slice (some ⟨g, 0, none⟩) 1 1] V fun e w' => e = .returned (.tuple #[]) ∧ BFs B (l ++ atmT x.a.p x.a.ts) w' ∧ Kp B V w') := fun V g hb hblk hg => by
      have := join_lit (w0 := w0) (V := V) (B := B) (l := l) (bl := [32]) (btw := ⟨#[32]⟩) rfl (ps := [(_, atmT x.a.p x.a.ts)]) (g := g) (pc := 1) (n := 1) (fun y hy => by rw [List.mem_singleton] at hy; subst hy; exact HWa.out) hblk hg rfl (HW0.out.trans (hb.mono HW0.out.size)) hB (HH.out.kept hb) (by simp only [List.map_cons, List.map_nil, jn_cons, jnT, List.append_nil]; exact hl) (by show 1 < _; omega)
      simpa only [List.map_cons, List.map_nil, jn_cons, jnT, List.append_nil] using this
    have e1 : (x.k == 1) = true := by simpa using h1
    clear HT HE h1 hl HWa HWl HWr HH HW0
    generalize atmT x.a.p x.a.ts = T at *
    generalize x.a.ts.length = n at *
    go_enter Tryz.func183, Tryz.ntmps183
    go_wp2_with fail
    rw [← hW1, ← hsz]
    refine (HJ.out _ _ (HB1.out.alloc HB1.out.size _) (heap_alloc_new W1 _) (by omega)).mono ?_
    rintro e w2 ⟨rfl, h2, k2⟩
    have H2 := hide h2
    have K2 := hide ((Kp.of (HB1.out.alloc HB1.out.size _) (Nat.le_of_lt hlt)).trans k2)
    clear h2 k2 HJ hW1 hsz
    go_wp2
    go_end0
    exact ⟨rfl, H2.out, K2.out⟩
  by_cases h2 : x.k = 2
  · have HE : Hid (litT x = [110, 111, 116] ++ ([32] ++ atmT x.a.p x.a.ts)) := by show _ = _; rw [HT.out, if_neg h1, if_pos h2]
    rw [HE.out] at hl ⊢
    have HJ : Hid (∀ V g, Below W.heap.size W V → V.heap[g]? = some (.cells #[.iface 212 (.string ⟨#[110, 111, 116]⟩), .iface 226 (.agg #[.string x.a.p, .slice va x.a.ts.length vc, .int .i64 x.a.off])] 99 (0, 0)) → B < g → Calls Tryz.prog 155 #[.pointer (some ⟨B, 0, none⟩), .string ⟨#[32]⟩, .slice (some ⟨g, 0, none⟩) 2 2] V fun e w' => e = .returned (.tuple #[]) ∧ BFs B (l ++ ([110, 111, 116] ++ ([32] ++ atmT x.a.p x.a.ts))) w' ∧ Kp B V w') := fun V g hb hblk hg => by
      have := join_lit (w0 := w0) (V := V) (B := B) (l := l) (bl := [32]) (btw := ⟨#[32]⟩) rfl (ps := [(_, [110, 111, 116]), (_, atmT x.a.p x.a.ts)]) (g := g) (pc := 2) (n := 2) (fun y hy => by
        simp only [List.mem_cons, List.not_mem_nil, or_false] at hy
        rcases hy with rfl | rfl
        · exact wr_word w0 ⟨#[110, 111, 116]⟩
        · exact HWa.out) hblk hg rfl (HW0.out.trans (hb.mono HW0.out.size)) hB (HH.out.kept hb) (by simp only [List.map_cons, List.map_nil, jn_cons, jnT_cons, jnT, List.append_nil]; exact hl) (by show 2 < _; omega)
      simpa only [List.map_cons, List.map_nil, jn_cons, jnT_cons, jnT, List.append_nil] using this
    have e1 : (x.k == 1) = false := by simpa using h1
    have e2 : (x.k == 2) = true := by simpa using h2
    clear HT HE h1 h2 hl HWa HWl HWr HH HW0
    generalize atmT x.a.p x.a.ts = T at *
    generalize x.a.ts.length = n at *
    go_enter Tryz.func183, Tryz.ntmps183
    go_wp2_with fail
    rw [← hW1, ← hsz]
    refine (HJ.out _ _ (HB1.out.alloc HB1.out.size _) (heap_alloc_new W1 _) (by omega)).mono ?_
    rintro e w2 ⟨rfl, h2, k2⟩
    have H2 := hide h2
    have K2 := hide ((Kp.of (HB1.out.alloc HB1.out.size _) (Nat.le_of_lt hlt)).trans k2)
    clear h2 k2 HJ hW1 hsz
    go_wp2
    go_end0
    exact ⟨rfl, H2.out, K2.out⟩
  by_cases h3 : x.k = 3
  · have HE : Hid (litT x = trmT x.l ++ ([32] ++ (opT x.op ++ ([32] ++ trmT x.r)))) := by show _ = _; rw [HT.out, if_neg h1, if_neg h2, if_pos h3]
    rw [HE.out] at hl ⊢
    have HJ : Hid (∀ V g, Below W.heap.size W V → V.heap[g]? = some (.cells #[.iface 232 (.agg #[.int .i64 x.l.k, .int .i64 x.l.n, .string x.l.s, .int .i64 x.l.off]), .iface 212 (.string ⟨(opT x.op).toArray⟩), .iface 232 (.agg #[.int .i64 x.r.k, .int .i64 x.r.n, .string x.r.s, .int .i64 x.r.off])] 99 (0, 0)) → B < g → Calls Tryz.prog 155 #[.pointer (some ⟨B, 0, none⟩), .string ⟨#[32]⟩, .slice (some ⟨g, 0, none⟩) 3 3] V fun e w' => e = .returned (.tuple #[]) ∧ BFs B (l ++ (trmT x.l ++ ([32] ++ (opT x.op ++ ([32] ++ trmT x.r))))) w' ∧ Kp B V w') := fun V g hb hblk hg => by
      have := join_lit (w0 := w0) (V := V) (B := B) (l := l) (bl := [32]) (btw := ⟨#[32]⟩) rfl (ps := [(_, trmT x.l), (_, opT x.op), (_, trmT x.r)]) (g := g) (pc := 3) (n := 3) (fun y hy => by
        simp only [List.mem_cons, List.not_mem_nil, or_false] at hy
        rcases hy with rfl | rfl | rfl
        · exact HWl.out
        · exact wr_word w0 ⟨(opT x.op).toArray⟩
        · exact HWr.out) hblk hg rfl (HW0.out.trans (hb.mono HW0.out.size)) hB (HH.out.kept hb) (by simp only [List.map_cons, List.map_nil, jn_cons, jnT_cons, jnT, List.append_nil]; exact hl) (by show 3 < _; omega)
      simpa only [List.map_cons, List.map_nil, jn_cons, jnT_cons, jnT, List.append_nil] using this
    have e1 : (x.k == 1) = false := by simpa using h1
    have e2 : (x.k == 2) = false := by simpa using h2
    have e3 : (x.k == 3) = true := by simpa using h3
    have HO := hide (fun V => opWord_any x.op V)
    clear HT HE h1 h2 h3 hl HWa HWl HWr HH HW0
    generalize trmT x.l ++ ([32] ++ (opT x.op ++ ([32] ++ trmT x.r))) = T at *
    generalize opT x.op = OP at *
    generalize x.a.ts.length = n at *
    obtain ⟨bx, hbx⟩ : ∃ bx, bx = W.heap.size := ⟨_, rfl⟩
    have hbk : W1.heap[bx]? = some (.cells #[.int .i64 x.k, .string x.a.p, .slice va n vc, .int .i64 x.a.off, .int .i64 x.op, .int .i64 x.l.k, .int .i64 x.l.n, .string x.l.s, .int .i64 x.l.off, .int .i64 x.r.k, .int .i64 x.r.n, .string x.r.s, .int .i64 x.r.off, .int .i64 x.off] 229 (0, 0)) := by rw [hbx, hW1]; exact heap_alloc_new W _
    have y4 : W1.cell? ⟨bx, 4, none⟩ = some (.int .i64 x.op) := by rw [Lib.cell_of_heap hbk]; rfl
    have y5 : W1.cell? ⟨bx, 5, none⟩ = some (.int .i64 x.l.k) := by rw [Lib.cell_of_heap hbk]; rfl
    have y6 : W1.cell? ⟨bx, 6, none⟩ = some (.int .i64 x.l.n) := by rw [Lib.cell_of_heap hbk]; rfl
    have y7 : W1.cell? ⟨bx, 7, none⟩ = some (.string x.l.s) := by rw [Lib.cell_of_heap hbk]; rfl
    have y8 : W1.cell? ⟨bx, 8, none⟩ = some (.int .i64 x.l.off) := by rw [Lib.cell_of_heap hbk]; rfl
    have y9 : W1.cell? ⟨bx, 9, none⟩ = some (.int .i64 x.r.k) := by rw [Lib.cell_of_heap hbk]; rfl
    have y10 : W1.cell? ⟨bx, 10, none⟩ = some (.int .i64 x.r.n) := by rw [Lib.cell_of_heap hbk]; rfl
    have y11 : W1.cell? ⟨bx, 11, none⟩ = some (.string x.r.s) := by rw [Lib.cell_of_heap hbk]; rfl
    have y12 : W1.cell? ⟨bx, 12, none⟩ = some (.int .i64 x.r.off) := by rw [Lib.cell_of_heap hbk]; rfl
    have HBk := hide hbk
    have HBl : Hid (bx < W1.heap.size ∧ bx ≠ B) := ⟨by omega, by omega⟩
    go_enter Tryz.func183, Tryz.ntmps183
    go_wp2_with fail
    rw [← hW1, ← hbx]
    clear hW1 hbk hbx hsz
    go_region_held3 (fun V => V.cell? ⟨bx, 4, none⟩ = some (.int .i64 x.op) ∧ V.cell? ⟨bx, 5, none⟩ = some (.int .i64 x.l.k) ∧ V.cell? ⟨bx, 6, none⟩ = some (.int .i64 x.l.n) ∧ V.cell? ⟨bx, 7, none⟩ = some (.string x.l.s) ∧ V.cell? ⟨bx, 8, none⟩ = some (.int .i64 x.l.off) ∧ V.cell? ⟨bx, 9, none⟩ = some (.int .i64 x.r.k) ∧ V.cell? ⟨bx, 10, none⟩ = some (.int .i64 x.r.n) ∧ V.cell? ⟨bx, 11, none⟩ = some (.string x.r.s) ∧ V.cell? ⟨bx, 12, none⟩ = some (.int .i64 x.r.off))
      (first
        | exact ⟨y4, y5, y6, y7, y8, y9, y10, y11, y12⟩
        | exact HS2.out
        | go_keep)
      (first
        | (go_at_call 184; refine (HO.out _).mono ?_; rintro e w' ⟨rfl, hw'⟩; have hw' := hw'.symm; subst hw')
        | (go_at_call 155; refine (HJ.out _ _ (HB1.out.drew.alloc HB1.out.size _) (heap_alloc_new _ _) (by simp; omega)).mono ?_; rintro e w2 ⟨rfl, h2, k2⟩; have HS2 := hide (box_cells (k2.block (o := .cells #[.int .i64 x.k, .string x.a.p, .slice va n vc, .int .i64 x.a.off, .int .i64 x.op, .int .i64 x.l.k, .int .i64 x.l.n, .string x.l.s, .int .i64 x.l.off, .int .i64 x.r.k, .int .i64 x.r.n, .string x.r.s, .int .i64 x.r.off, .int .i64 x.off] 229 (0, 0)) (by rw [(((Below.refl W1.heap.size W1).drew.alloc (Nat.le_refl _) _)).block bx HBl.out.1]; exact HBk.out) HBl.out.2 (fun c fz e => by simp only [Obj.cells.injEq] at e; exact absurd e.2.1 (by decide)))); have H2 := hide h2; have K2 := hide ((Kp.of (HB1.out.drew.alloc HB1.out.size _) (Nat.le_of_lt hlt)).trans k2); clear h2 k2))
    all_goals (try go_wp2)
    all_goals go_end0
    all_goals exact ⟨rfl, H2.out, K2.out⟩
  · have HE : Hid (litT x = []) := by show _ = _; rw [HT.out, if_neg h1, if_neg h2, if_neg h3]
    rw [HE.out, List.append_nil]
    have e1 : (x.k == 1) = false := by simpa using h1
    have e2 : (x.k == 2) = false := by simpa using h2
    have e3 : (x.k == 3) = false := by simpa using h3
    have HBA : Hid (∀ o, Below W.heap.size W (W.alloc o)) := fun o => (Below.refl _ _).alloc (Nat.le_refl _) o
    clear HT HE h1 h2 h3 hW1 hsz
    go_enter Tryz.func183, Tryz.ntmps183
    go_wp2
    go_end0
    exact ⟨rfl, HH.out.kept (HBA.out _), Kp.of (HBA.out _) (Nat.le_of_lt hlt)⟩
theorem wr_lit {w0 : World} (x : Lix) (hx : elLix.ok w0 (fun _ => True) x) (ht : TabLaid w0) : Wr w0 (pvLix x) (litT x) :=
  ⟨_, _, _, rfl, fun d W => m_lit d _ W, en_lit, fun W B l hW hB h hl => lit_write x hx ht hW hB h hl⟩
end Go.Proofs.YtchhophblejmeaaGreatDoor

namespace Go.Proofs.YtchhophblejmeaaGreatDoor
set_option linter.unusedSimpArgs false
set_option linter.unusedVariables false
open Go.RowKit

def bodyT (ls : List Lix) : List UInt8 := jn [44, 32] (ls.map litT)
theorem m_body (d : Nat) (v : Value) (w : World) : (method (d + 1) 223 v "edict/print.write").run Tryz.prog w = .ok (177, v) w := by kernel_rfl
theorem en_body (args : Array Value) (w : World) : (callFunc 177 args).run Tryz.prog w = .ok (.enter 177 args) w := enters_of Tryz.func177 (by kernel_rfl) rfl args w

set_option maxRecDepth 100000 in
set_option maxHeartbeats 4000000 in
theorem body_write {w0 : World} {v : Value} {ls : List Lix} (hx : Lst elLix w0 (fun _ => True) v ls) (ht : TabLaid w0) {B : Nat} {l : List UInt8} {W : World} (hW : Below w0.heap.size w0 W) (hB : w0.heap.size ≤ B) (h : BFs B l W) (hl : l.length + (bodyT ls).length ≤ 100000000000000) :
    Calls Tryz.prog 177 #[v, .pointer (some ⟨B, 0, none⟩)] W fun e w' => e = .returned (.tuple #[]) ∧ BFs B (l ++ bodyT ls) w' ∧ Kp B W w' := by
  obtain ⟨va, vc, hv, -, -, hlen⟩ := hx.shape
  have hlt := h.lt
  have HPa : Hid (Calls Tryz.prog 178 #[v, .func (.func 179) #[] #[]] W fun e w' => ∃ v', e = .returned v' ∧ w'.ownsRow W.heap.size 99 1 v' ls.length (ls.map pvLix) ∧ Below W.heap.size W w') := partsLix (hx.kept hW)
  have HJ : Hid (∀ V po pc, Below W.heap.size W V → V.ownsRow W.heap.size 99 1 (.slice po ls.length pc) ls.length (ls.map pvLix) → Calls Tryz.prog 155 #[.pointer (some ⟨B, 0, none⟩), .string ⟨#[44, 32]⟩, .slice po ls.length pc] V fun e w' => e = .returned (.tuple #[]) ∧ BFs B (l ++ bodyT ls) w' ∧ Kp B V w') := fun V po pc hb hr => by
    have hm : (ls.map fun t => (pvLix t, litT t)).map (·.2) = ls.map litT := by rw [List.map_map]; rfl
    have hm1 : (ls.map fun t => (pvLix t, litT t)).map (·.1) = ls.map pvLix := by rw [List.map_map]; rfl
    have := join_any (w0 := w0) (W := V) (B := B) (l := l) (bl := [44, 32]) (btw := ⟨#[44, 32]⟩) rfl (ps := ls.map fun t => (pvLix t, litT t)) (po := po) (pc := pc) (fun x hx2 => by
      obtain ⟨t, ht2, rfl⟩ := List.mem_map.1 hx2
      exact wr_lit t (hx.ok ht2) ht) (fun hp => by
        obtain ⟨g, hg, hc⟩ := part_row hr hlt (by rw [List.length_map] at hp; exact hp)
        exact ⟨g, hg, fun V2 hk2 i x hx2 => hc V2 hk2 i x.1 (by rw [← hm1, List.getElem?_map, hx2]; rfl)⟩) (hW.trans (hb.mono hW.size)) hB (h.kept hb) (by rw [hm]; exact hl) (by rw [List.length_map]; exact hlen)
    rw [hm, List.length_map] at this
    exact this
  rw [hv] at HPa ⊢
  clear hx hv hlen ht hW h hl
  generalize bodyT ls = T at *
  generalize ls.map pvLix = PS at *
  generalize ls.length = n at *
  go_enter Tryz.func177, Tryz.ntmps177
  go_wp2_with fail
  refine HPa.out.mono ?_
  rintro e w1 ⟨v', rfl, hr, hb⟩
  obtain ⟨po, pc, rfl⟩ := own_shape hr
  have HC := hide (HJ.out w1 po pc hb hr)
  have HB := hide hb
  clear hr hb HJ HPa
  go_wp2_with fail
  refine HC.out.mono ?_
  rintro e w2 ⟨rfl, h2, k2⟩
  have H2 := hide h2
  have K2 := hide ((Kp.of HB.out (Nat.le_of_lt hlt)).trans k2)
  clear h2 k2 HC
  go_wp2
  go_end0
  exact ⟨rfl, H2.out, K2.out⟩
theorem wr_body {w0 : World} {v : Value} {ls : List Lix} (hx : Lst elLix w0 (fun _ => True) v ls) (ht : TabLaid w0) : Wr w0 (.iface 223 v) (bodyT ls) :=
  ⟨_, _, _, rfl, fun d W => m_body d _ W, en_body, fun W B l hW hB h hl => body_write hx ht hW hB h hl⟩

/-- A clause's text. -/
def clsT (c : Clx) : List UInt8 := atmT c.h.p c.h.ts ++ ((if c.ls = [] then [] else [32, 58, 45, 32] ++ bodyT c.ls) ++ [46])
def pvClx (c : Clx) : Value := .iface 222 (.agg #[.string c.h.p, c.h.v, .int .i64 c.h.off, c.v])
theorem m_cls (d : Nat) (v : Value) (w : World) : (method (d + 1) 222 v "edict/print.write").run Tryz.prog w = .ok (176, v) w := by kernel_rfl
theorem en_cls (args : Array Value) (w : World) : (callFunc 176 args).run Tryz.prog w = .ok (.enter 176 args) w := enters_of Tryz.func176 (by kernel_rfl) rfl args w
theorem Tryz.infoPartB : (Tryz.prog.info? 99).map (fun i => (i.zero, i.size, i.bytes)) = some (some .nilIface, 1, 16) := by kernel_rfl

set_option maxRecDepth 100000 in
set_option maxHeartbeats 8000000 in
theorem cls_write {w0 : World} (c : Clx) (hx : elClx.ok w0 (fun _ => True) c) (ht : TabLaid w0) {B : Nat} {l : List UInt8} {W : World} (hW : Below w0.heap.size w0 W) (hB : w0.heap.size ≤ B) (h : BFs B l W) (hl : l.length + (clsT c).length ≤ 100000000000000) :
    Calls Tryz.prog 176 #[.agg #[.string c.h.p, c.h.v, .int .i64 c.h.off, c.v], .pointer (some ⟨B, 0, none⟩)] W fun e w' => e = .returned (.tuple #[]) ∧ BFs B (l ++ clsT c) w' ∧ Kp B W w' := by
  obtain ⟨i0, hi0, hz0, hz1, hz2⟩ := info_parts Tryz.infoPartB
  obtain ⟨ha, hb⟩ := elClx_ok hx
  obtain ⟨va, vc, hv, -, -, -⟩ := (elAtx_ok ha).2.2.shape
  obtain ⟨ba, bc, hbv, -, -, hblen⟩ := hb.shape
  have hlt := h.lt
  have HWa : Hid (Wr w0 (.iface 226 (.agg #[.string c.h.p, .slice va c.h.ts.length vc, .int .i64 c.h.off])) (atmT c.h.p c.h.ts)) := by
    have := wr_atom c.h ha ht
    unfold pvAtx at this
    rw [hv] at this
    exact this
  have HWb : Hid (Wr w0 (.iface 223 (.slice ba c.ls.length bc)) (bodyT c.ls)) := by
    have := wr_body hb ht
    rw [hbv] at this
    exact this
  have HH := hide h
  have HW0 := hide hW
  have HT : Hid (clsT c = atmT c.h.p c.h.ts ++ ((if c.ls = [] then [] else [32, 58, 45, 32] ++ bodyT c.ls) ++ [46])) := rfl
  have HLn : Hid (c.ls = [] ↔ c.ls.length = 0) := ⟨fun e => by rw [e]; rfl, List.length_eq_zero_iff.1⟩
  rw [hv, hbv]
  obtain ⟨W1, hW1⟩ : ∃ W1, W1 = W.alloc (.cells #[.string c.h.p, .slice va c.h.ts.length vc, .int .i64 c.h.off, .slice ba c.ls.length bc] 222) := ⟨_, rfl⟩
  have HB1 : Hid (Below W.heap.size W W1) := by rw [hW1]; exact (Below.refl _ _).alloc (Nat.le_refl _) _
  have hsz : W1.heap.size = W.heap.size + 1 := by rw [hW1]; simp
  clear h ha hb hx ht hW hv hbv
  obtain ⟨A, hA⟩ : ∃ A, A = atmT c.h.p c.h.ts := ⟨_, rfl⟩
  obtain ⟨D, hD⟩ : ∃ D, D = bodyT c.ls := ⟨_, rfl⟩
  rw [← hA, ← hD] at HT
  rw [← hA] at HWa
  rw [← hD] at HWb
  clear hA hD
  obtain ⟨n, hn⟩ : ∃ n, n = c.ls.length := ⟨_, rfl⟩
  rw [← hn] at HWb HLn hW1 hblen ⊢
  clear hn
  have HPa : Hid (∀ V, Below W.heap.size W V → ∀ T, l.length + T.length + 1 ≤ 100000000000000 → BFs B (l ++ T) V → Calls Tryz.prog 156 #[.pointer (some ⟨B, 0, none⟩), .string ⟨#[46]⟩] V fun e w' => (∃ v, e = .returned v) ∧ BFs B (l ++ (T ++ [46])) w' ∧ Kp B V w') := fun V _ T hT hb => by
    have := wsk_any [46] (s := ⟨#[46]⟩) rfl hb (by simp only [List.length_append, List.length_cons, List.length_nil]; omega)
    rw [List.append_assoc] at this
    exact this
  generalize c.h.ts.length = m at *
  by_cases h0 : n = 0
  · have HE : Hid (clsT c = A ++ [46]) := by show _ = _; rw [HT.out, if_pos (HLn.out.2 h0)]; simp
    rw [HE.out] at hl ⊢
    have hlA : l.length + A.length + 1 ≤ 100000000000000 := by rw [List.length_append] at hl; simp only [List.length_cons, List.length_nil] at hl; omega
    have HJ : Hid (∀ V g, Below W.heap.size W V → V.heap[g]? = some (.cells #[.iface 226 (.agg #[.string c.h.p, .slice va m vc, .int .i64 c.h.off])] 99 (0, 0)) → B < g → Calls Tryz.prog 155 #[.pointer (some ⟨B, 0, none⟩), .string ⟨#[32, 58, 45, 32]⟩, .slice (some ⟨g, 0, none⟩) 1 1] V fun e w' => e = .returned (.tuple #[]) ∧ BFs B (l ++ A) w' ∧ Kp B V w') := fun V g hb hblk hg => by
      have := join_lit (w0 := w0) (V := V) (B := B) (l := l) (bl := [32, 58, 45, 32]) (btw := ⟨#[32, 58, 45, 32]⟩) rfl (ps := [(_, A)]) (g := g) (pc := 1) (n := 1) (fun y hy => by rw [List.mem_singleton] at hy; subst hy; exact HWa.out) hblk hg rfl (HW0.out.trans (hb.mono HW0.out.size)) hB (HH.out.kept hb) (by simp only [List.map_cons, List.map_nil, jn_cons, jnT, List.append_nil]; omega) (by show 1 < _; omega)
      simpa only [List.map_cons, List.map_nil, jn_cons, jnT, List.append_nil] using this
    have hi : ¬ (0 : Int) < (n : Int) := by omega
    clear HT HE hl HWa HWb HLn h0 HH HW0
    go_enter Tryz.func176, Tryz.ntmps176
    go_wp2_with fail
    rw [← hW1, ← hsz]
    refine (HJ.out _ _ (HB1.out.alloc HB1.out.size _) (heap_alloc_new W1 _) (by omega)).mono ?_
    rintro e w2 ⟨rfl, h2, k2⟩
    have K2 := hide ((Kp.of (HB1.out.alloc HB1.out.size _) (Nat.le_of_lt hlt)).trans k2)
    have HQ := hide (wsk_any [46] (s := ⟨#[46]⟩) rfl h2 (by simp only [List.length_append, List.length_cons, List.length_nil]; omega))
    clear h2 k2 HJ hW1 hsz HPa
    go_wp2_with fail
    refine HQ.out.mono ?_
    rintro e w3 ⟨⟨r, rfl⟩, h3, k3⟩
    rw [List.append_assoc] at h3
    have H3 := hide h3
    have K3 := hide (K2.out.trans k3)
    clear h3 k3 HQ
    go_wp2
    go_end0
    exact ⟨rfl, H3.out, K3.out⟩
  · have HE : Hid (clsT c = A ++ ([32, 58, 45, 32] ++ D) ++ [46]) := by show _ = _; rw [HT.out, if_neg (fun e => h0 (HLn.out.1 e))]; simp only [List.append_assoc]
    rw [HE.out] at hl ⊢
    have hi : (0 : Int) < (n : Int) := by omega
    have hlA : l.length + A.length + (4 + D.length) + 1 ≤ 100000000000000 := by simp only [List.length_append, List.length_cons, List.length_nil] at hl; omega
    have HJ : Hid (∀ V po pc, Below W.heap.size W V → V.ownsRow (W.heap.size + 1) 99 1 (.slice po 2 pc) 2 [.iface 226 (.agg #[.string c.h.p, .slice va m vc, .int .i64 c.h.off]), .iface 223 (.slice ba n bc)] → Calls Tryz.prog 155 #[.pointer (some ⟨B, 0, none⟩), .string ⟨#[32, 58, 45, 32]⟩, .slice po 2 pc] V fun e w' => e = .returned (.tuple #[]) ∧ BFs B (l ++ (A ++ ([32, 58, 45, 32] ++ D))) w' ∧ Kp B V w') := fun V po pc hb hr => by
      have := join_any (w0 := w0) (W := V) (B := B) (l := l) (bl := [32, 58, 45, 32]) (btw := ⟨#[32, 58, 45, 32]⟩) rfl (ps := [(_, A), (_, D)]) (po := po) (pc := pc) (fun y hy => by
        simp only [List.mem_cons, List.not_mem_nil, or_false] at hy
        rcases hy with rfl | rfl
        · exact HWa.out
        · exact HWb.out) (fun hp => by
        obtain ⟨g, hg, hc⟩ := part_row hr (show B < W.heap.size + 1 by omega) (by omega)
        exact ⟨g, hg, fun V2 hk2 i x hx2 => hc V2 hk2 i x.1 (by
          match i, hx2 with
          | 0, hx2 => simp at hx2; subst hx2; rfl
          | 1, hx2 => simp at hx2; subst hx2; rfl
          | i + 2, hx2 => simp at hx2)⟩) (HW0.out.trans (hb.mono HW0.out.size)) hB (HH.out.kept hb) (by simp only [List.map_cons, List.map_nil, jn_cons, jnT_cons, jnT, List.append_nil, List.length_append, List.length_cons, List.length_nil]; omega) (by show 2 < _; omega)
      simp only [List.map_cons, List.map_nil, jn_cons, jnT_cons, jnT, List.append_nil] at this
      exact this
    have HO0 : Hid (((W.alloc (.cells #[.string c.h.p, .slice va m vc, .int .i64 c.h.off, .slice ba n bc] 222)).alloc (.cells #[.iface 226 (.agg #[.string c.h.p, .slice va m vc, .int .i64 c.h.off])] 99)).ownsRow (W.heap.size + 1) 99 1 (.slice (some ⟨W.heap.size + 1, 0, none⟩) 1 1) 1 [.iface 226 (.agg #[.string c.h.p, .slice va m vc, .int .i64 c.h.off])]) := by
      have := World.ownsRow_lit (base := (W.alloc (.cells #[.string c.h.p, .slice va m vc, .int .i64 c.h.off, .slice ba n bc] 222)).heap.size) (e := 99) (size := 1) (W.alloc (.cells #[.string c.h.p, .slice va m vc, .int .i64 c.h.off, .slice ba n bc] 222)) #[.iface 226 (.agg #[.string c.h.p, .slice va m vc, .int .i64 c.h.off])] 1 (Nat.le_refl _) (by decide) rfl
      rw [World.size_alloc] at this
      exact this
    have HB2 : Hid (Below W.heap.size W ((W.alloc (.cells #[.string c.h.p, .slice va m vc, .int .i64 c.h.off, .slice ba n bc] 222)).alloc (.cells #[.iface 226 (.agg #[.string c.h.p, .slice va m vc, .int .i64 c.h.off])] 99))) := ((Below.refl W.heap.size W).alloc (Nat.le_refl _) _).alloc (by simp) _
    have HNw : Hid (∀ j u, ([.iface 223 (.slice ba n bc)] : List Value)[j]? = some u → (((W.alloc (.cells #[.string c.h.p, .slice va m vc, .int .i64 c.h.off, .slice ba n bc] 222)).alloc (.cells #[.iface 226 (.agg #[.string c.h.p, .slice va m vc, .int .i64 c.h.off])] 99)).alloc (.cells #[.iface 223 (.slice ba n bc)] 99)).cell? ((⟨W.heap.size + 1 + 1, 0, none⟩ : Addr).add j) = some u) := fun j u hu => by
      have := news_partLix ((W.alloc (.cells #[.string c.h.p, .slice va m vc, .int .i64 c.h.off, .slice ba n bc] 222)).alloc (.cells #[.iface 226 (.agg #[.string c.h.p, .slice va m vc, .int .i64 c.h.off])] 99)) (.iface 223 (.slice ba n bc)) j u hu
      rw [World.size_alloc, World.size_alloc] at this
      exact this
    clear HT HE HLn h0 hW1 hsz HB1 hl
    go_enter Tryz.func176, Tryz.ntmps176
    go_wp2_with (at_builtin; refine wpList_append_lies _ rfl _ _ 213 rfl (W.heap.size + 1) 99 i0 .nilIface 1 16 Tryz.underlying213 hi0 hz0 hz1 hz2 rfl (by decide) (.slice (some ⟨W.heap.size + 1, 0, none⟩) 1 1) 1 [.iface 226 (.agg #[.string c.h.p, .slice va m vc, .int .i64 c.h.off])] rfl (World.ownsRow.alloc HO0.out _) ⟨W.heap.size + 1 + 1, 0, none⟩ 1 1 [.iface 223 (.slice ba n bc)] rfl rfl HNw.out (by simp [Value.oneCell']) (by decide) (by unfold maxLen; omega) (by omega) (by simp) (W.heap.size + 1 + 1 + 1) (by simp) ?_; intro gg cap' W3 hown1 hgrow hat hlt1)
    have HB3 : Hid (Below W.heap.size W W3) := grown_below HB2.out HB2.out.size (own_low (Nat.le_succ _) HO0.out) hgrow
    have HC := hide (HJ.out W3 _ _ HB3.out hown1)
    clear hown1 hgrow hat hlt1 HO0 HB2 HNw HJ
    refine HC.out.mono ?_
    rintro e w4 ⟨rfl, h4, k4⟩
    have K4 := hide ((Kp.of HB3.out (Nat.le_of_lt hlt)).trans k4)
    have HQ := hide (wsk_any [46] (s := ⟨#[46]⟩) rfl h4 (by simp only [List.length_append, List.length_cons, List.length_nil]; omega))
    clear h4 k4 HC HB3 HPa
    go_wp2_with fail
    refine HQ.out.mono ?_
    rintro e w5 ⟨⟨r, rfl⟩, h5, k5⟩
    rw [List.append_assoc] at h5
    have H5 := hide h5
    have K5 := hide (K4.out.trans k5)
    clear h5 k5 HQ
    go_wp2
    go_end0
    exact ⟨rfl, H5.out, K5.out⟩
theorem wr_cls {w0 : World} (c : Clx) (hx : elClx.ok w0 (fun _ => True) c) (ht : TabLaid w0) : Wr w0 (pvClx c) (clsT c) :=
  ⟨_, _, _, rfl, fun d W => m_cls d _ W, en_cls, fun W B l hW hB h hl => cls_write c hx ht hW hB h hl⟩
end Go.Proofs.YtchhophblejmeaaGreatDoor

namespace Go.Proofs.YtchhophblejmeaaGreatDoor
set_option linter.unusedSimpArgs false
set_option linter.unusedVariables false
open Go.RowKit

set_option maxRecDepth 100000 in
set_option maxHeartbeats 4000000 in
/-- The text of a part that nothing speaks against. -/
theorem textOf_any {w0 W : World} {pv : Value} {m : List UInt8} (h : Wr w0 pv m) (hW : Below w0.heap.size w0 W) (hl : m.length ≤ 100000000000000) :
    Calls Tryz.prog 27 #[pv, .int .i64 0] W fun e w' => e = .returned (.string ⟨m.toArray⟩) ∧ Below W.heap.size W w' := by
  obtain ⟨T, v, f, rfl, hm, heg, hcall⟩ := h
  have HC := hide (hcall (W.alloc (.cells #[.pointer none, .slice none 0 0] 103)) W.heap.size [] (hW.trans ((Below.refl _ _).alloc hW.size _)) hW.size (fresh_BFs W) (by simpa using hl))
  have HB : Hid (Below W.heap.size W (W.alloc (.cells #[.pointer none, .slice none 0 0] 103))) := (Below.refl _ _).alloc (Nat.le_refl _) _
  clear hcall hW
  go_enter Tryz.func27, Tryz.ntmps27
  go_wp2_with fail
  refine HC.out.mono ?_
  rintro e w1 ⟨rfl, h1, k1⟩
  rw [List.nil_append] at h1
  have HS := hide (strk_any h1)
  have HB2 := hide (HB.out.trans k1.1)
  clear h1 k1 HC
  go_wp2_with fail
  refine HS.out.mono ?_
  rintro e w2 ⟨rfl, h2⟩
  go_wp2
  go_ret
  exact ⟨rfl, HB2.out.trans h2⟩
end Go.Proofs.YtchhophblejmeaaGreatDoor

namespace Go.Proofs.YtchhophblejmeaaGreatDoor
set_option linter.unusedSimpArgs false
set_option linter.unusedVariables false
open Go.RowKit

def progT (cs : List Clx) : List UInt8 := cs.flatMap fun c => clsT c ++ [10]
theorem progT_take (cs : List Clx) {k : Nat} {c : Clx} (h : cs[k]? = some c) : progT (cs.take (k + 1)) = progT (cs.take k) ++ (clsT c ++ [10]) ∧ (progT (cs.take (k + 1))).length ≤ (progT cs).length := by
  constructor
  · unfold progT
    rw [List.take_add_one, h, Option.toList_some, List.flatMap_append]
    simp
  · have : progT cs = progT (cs.take (k + 1)) ++ progT (cs.drop (k + 1)) := by
      unfold progT
      rw [← List.flatMap_append, List.take_append_drop]
    rw [this, List.length_append]
    omega
theorem m_prog (d : Nat) (v : Value) (w : World) : (method (d + 1) 85 v "edict/print.write").run Tryz.prog w = .ok (163, v) w := by kernel_rfl
theorem en_prog (args : Array Value) (w : World) : (callFunc 163 args).run Tryz.prog w = .ok (.enter 163 args) w := enters_of Tryz.func163 (by kernel_rfl) rfl args w

set_option maxRecDepth 100000 in
set_option maxHeartbeats 8000000 in
theorem prog_write {w0 : World} {v : Value} {cs : List Clx} (hx : Lst elClx w0 (fun _ => True) v cs) (ht : TabLaid w0) {B : Nat} {l : List UInt8} {W : World} (hW : Below w0.heap.size w0 W) (hB : w0.heap.size ≤ B) (h : BFs B l W) (hl : l.length + (progT cs).length ≤ 100000000000000) :
    Calls Tryz.prog 163 #[.agg #[v], .pointer (some ⟨B, 0, none⟩)] W fun e w' => e = .returned (.tuple #[]) ∧ BFs B (l ++ progT cs) w' ∧ Kp B W w' := by
  obtain ⟨va, vc, hv, -, -, hlen⟩ := hx.shape
  have hlt := h.lt
  have HX := hide hx
  have HT := hide ht
  have HH := hide h
  have HW0 := hide hW
  obtain ⟨n, hn⟩ : ∃ n, n = cs.length := ⟨_, rfl⟩
  rw [← hn] at hv hlen
  have HN := hide hn
  rw [hv]
  rw [hv] at HX
  have HB1 : Hid (Below W.heap.size W (W.alloc (.cells #[.slice va n vc] 85))) := (Below.refl _ _).alloc (Nat.le_refl _) _
  clear hx ht h hW hn hv
  go_enter Tryz.func163, Tryz.ntmps163
  go_wp2
  go_loopw [9] (fun t V => ∃ k : Nat, k ≤ n ∧ t = .int .i64 k ∧ Hid (BFs B (l ++ progT (cs.take k)) V) ∧ Hid (Kp B W V)) (fun t _ => n - (intOf t).toNat)
  case atStart => exact ⟨0, Nat.zero_le _, rfl, (by show BFs _ _ _; rw [List.take_zero]; show BFs B (l ++ []) _; rw [List.append_nil]; exact HH.out.kept HB1.out), Kp.of HB1.out (Nat.le_of_lt hlt)⟩
  case round =>
    clear HB1
    obtain ⟨k, hk, rfl, HI, HK⟩ := hrel
    by_cases hlk : k < n
    · have hi : (k : Int) < (n : Int) := by omega
      have hi0' : (0 : Int) ≤ (k : Int) := by omega
      obtain ⟨c, hc⟩ : ∃ c, cs[k]? = some c := ⟨_, List.getElem?_eq_getElem (by have := HN.out; omega)⟩
      have hX2 : Lst elClx w0 (fun _ => True) (.slice va cs.length vc) cs := by rw [← HN.out]; exact HX.out
      obtain ⟨pb, off, rfl, hpb, -, hrow⟩ := hX2.row (by have := HN.out; omega)
      have hok := hX2.ok (List.mem_of_getElem? hc)
      obtain ⟨hca, hcb⟩ := elClx_ok hok
      obtain ⟨ha1, hc1, hv1, -, -, -⟩ := (elAtx_ok hca).2.2.shape
      obtain ⟨ha2, hc2, hv2, -, -, -⟩ := hcb.shape
      have hWw : Below w0.heap.size w0 wr := HW0.out.trans (HK.out.1.mono hB)
      have c0 := kept_cell hWw (hrow k c hc 0 _ rfl)
      have c1 := kept_cell hWw (hrow k c hc 1 _ rfl)
      have c2 := kept_cell hWw (hrow k c hc 2 _ rfl)
      have c3 := kept_cell hWw (hrow k c hc 3 _ rfl)
      simp only [elClx, Nat.add_zero] at c0 c1 c2 c3
      rw [hv1] at c1
      rw [hv2] at c3
      have HWc : Hid (Wr w0 (.iface 222 (.agg #[.string c.h.p, .slice ha1 c.h.ts.length hc1, .int .i64 c.h.off, .slice ha2 c.ls.length hc2])) (clsT c)) := by
        have := wr_cls c hok HT.out
        unfold pvClx at this
        rw [hv1, hv2] at this
        exact this
      obtain ⟨hj, hjl⟩ := progT_take cs hc
      have HJt := hide hj
      rw [hj, List.length_append] at hjl
      have hwl := HI.out.lt
      have hwB : B < wr.heap.size := hwl
      have HJ : Hid (∀ V g, Below wr.heap.size wr V → V.heap[g]? = some (.cells #[.iface 222 (.agg #[.string c.h.p, .slice ha1 c.h.ts.length hc1, .int .i64 c.h.off, .slice ha2 c.ls.length hc2]), .iface 212 (.string ⟨#[10]⟩)] 99 (0, 0)) → B < g → Calls Tryz.prog 155 #[.pointer (some ⟨B, 0, none⟩), .string ⟨#[]⟩, .slice (some ⟨g, 0, none⟩) 2 2] V fun e w' => e = .returned (.tuple #[]) ∧ BFs B (l ++ progT (cs.take (k + 1))) w' ∧ Kp B V w') := fun V g hb hblk hg => by
        have := join_lit (w0 := w0) (V := V) (B := B) (l := l ++ progT (cs.take k)) (bl := []) (btw := ⟨#[]⟩) rfl (ps := [(_, clsT c), (_, [10])]) (g := g) (pc := 2) (n := 2) (fun y hy => by
          simp only [List.mem_cons, List.not_mem_nil, or_false] at hy
          rcases hy with rfl | rfl
          · exact HWc.out
          · exact wr_word w0 ⟨#[10]⟩) hblk hg rfl (hWw.trans (hb.mono hWw.size)) hB (HI.out.kept hb) (by simp only [List.map_cons, List.map_nil, jn_cons, jnT_cons, jnT, List.append_nil, List.nil_append, List.length_append, List.length_cons, List.length_nil] at *; omega) (by show 2 < _; omega)
        simp only [List.map_cons, List.map_nil, jn_cons, jnT_cons, jnT, List.append_nil, List.nil_append] at this
        rw [HJt.out]
        rw [List.append_assoc] at this
        exact this
      clear hc hX2 hrow hok hca hcb hv1 hv2 HWc hj hjl hWw HX
      generalize c.h.ts.length = n1 at *
      generalize c.ls.length = n2 at *
      obtain ⟨W1, hW1⟩ : ∃ W1, W1 = wr.alloc (.cells #[.string c.h.p, .slice ha1 n1 hc1, .int .i64 c.h.off, .slice ha2 n2 hc2] 88) := ⟨_, rfl⟩
      have HB2 : Hid (Below wr.heap.size wr W1) := by rw [hW1]; exact (Below.refl _ _).alloc (Nat.le_refl _) _
      have hsz : W1.heap.size = wr.heap.size + 1 := by rw [hW1]; simp
      go_wp2_with fail
      rw [← hW1, ← hsz]
      refine (HJ.out _ _ (HB2.out.alloc HB2.out.size _) (heap_alloc_new W1 _) (by omega)).mono ?_
      rintro e w2 ⟨rfl, h2, k2⟩
      have H2 := hide h2
      have K2 := hide (HK.out.trans ((Kp.of (HB2.out.alloc HB2.out.size _) (Nat.le_of_lt hwB)).trans k2))
      clear h2 k2 HJ hW1 hsz c0 c1 c2 c3
      go_wp2
      go_roundw
      case rel => exact ⟨k + 1, by omega, by go_num, H2.out, K2.out⟩
      case measure => simp [intOf]; omega
    · obtain rfl : k = n := by omega
      have hi : ¬ (k : Int) < (k : Int) := by omega
      have HF : Hid (BFs B (l ++ progT cs) wr) := by
        have := HI.out
        rw [List.take_of_length_le (by rw [HN.out]; exact Nat.le_refl _)] at this
        exact this
      go_wp2
      go_end0
      exact ⟨rfl, HF.out, HK.out⟩
theorem wr_prog {w0 : World} {v : Value} {cs : List Clx} (hx : Lst elClx w0 (fun _ => True) v cs) (ht : TabLaid w0) : Wr w0 (.iface 85 (.agg #[v])) (progT cs) :=
  ⟨_, _, _, rfl, fun d W => m_prog d _ W, en_prog, fun W B l hW hB h hl => prog_write hx ht hW hB h hl⟩
end Go.Proofs.YtchhophblejmeaaGreatDoor

namespace Go.Proofs.YtchhophblejmeaaGreatDoor
set_option linter.unusedSimpArgs false
set_option linter.unusedVariables false
open Go.RowKit

def qryT (ls : List Lix) : List UInt8 := bodyT ls ++ [46]
theorem m_query (d : Nat) (v : Value) (w : World) : (method (d + 1) 90 v "edict/print.write").run Tryz.prog w = .ok (164, v) w := by kernel_rfl
theorem en_query (args : Array Value) (w : World) : (callFunc 164 args).run Tryz.prog w = .ok (.enter 164 args) w := enters_of Tryz.func164 (by kernel_rfl) rfl args w

set_option maxRecDepth 100000 in
set_option maxHeartbeats 4000000 in
theorem query_write {w0 : World} {v : Value} {ls : List Lix} (hx : Lst elLix w0 (fun _ => True) v ls) (ht : TabLaid w0) {B : Nat} {l : List UInt8} {W : World} (hW : Below w0.heap.size w0 W) (hB : w0.heap.size ≤ B) (h : BFs B l W) (hl : l.length + (qryT ls).length ≤ 100000000000000) :
    Calls Tryz.prog 164 #[v, .pointer (some ⟨B, 0, none⟩)] W fun e w' => e = .returned (.tuple #[]) ∧ BFs B (l ++ qryT ls) w' ∧ Kp B W w' := by
  obtain ⟨va, vc, hv, -, -, hlen⟩ := hx.shape
  have hlt := h.lt
  have HWb : Hid (Wr w0 (.iface 223 (.slice va ls.length vc)) (bodyT ls)) := by
    have := wr_body hx ht
    rw [hv] at this
    exact this
  rw [hv]
  have HJ : Hid (∀ V g, Below W.heap.size W V → V.heap[g]? = some (.cells #[.iface 223 (.slice va ls.length vc), .iface 212 (.string ⟨#[46]⟩)] 99 (0, 0)) → B < g → Calls Tryz.prog 155 #[.pointer (some ⟨B, 0, none⟩), .string ⟨#[]⟩, .slice (some ⟨g, 0, none⟩) 2 2] V fun e w' => e = .returned (.tuple #[]) ∧ BFs B (l ++ qryT ls) w' ∧ Kp B V w') := fun V g hb hblk hg => by
    have := join_lit (w0 := w0) (V := V) (B := B) (l := l) (bl := []) (btw := ⟨#[]⟩) rfl (ps := [(_, bodyT ls), (_, [46])]) (g := g) (pc := 2) (n := 2) (fun y hy => by
      simp only [List.mem_cons, List.not_mem_nil, or_false] at hy
      rcases hy with rfl | rfl
      · exact HWb.out
      · exact wr_word w0 ⟨#[46]⟩) hblk hg rfl (hW.trans (hb.mono hW.size)) hB (h.kept hb) (by unfold qryT at hl; simp only [List.map_cons, List.map_nil, jn_cons, jnT_cons, jnT, List.append_nil, List.nil_append, List.length_append, List.length_cons, List.length_nil] at *; omega) (by show 2 < _; omega)
    simp only [List.map_cons, List.map_nil, jn_cons, jnT_cons, jnT, List.append_nil, List.nil_append] at this
    exact this
  clear hx ht h hW hv HWb hl
  generalize qryT ls = T at *
  generalize ls.length = n at *
  go_enter Tryz.func164, Tryz.ntmps164
  go_wp2_with fail
  refine (HJ.out _ _ ((Below.refl _ _).alloc (Nat.le_refl _) _) (heap_alloc_new W _) (by omega)).mono ?_
  rintro e w2 ⟨rfl, h2, k2⟩
  have H2 := hide h2
  have K2 := hide ((Kp.of ((Below.refl W.heap.size W).alloc (Nat.le_refl _) _) (Nat.le_of_lt hlt)).trans k2)
  clear h2 k2 HJ
  go_wp2
  go_end0
  exact ⟨rfl, H2.out, K2.out⟩
theorem wr_query {w0 : World} {v : Value} {ls : List Lix} (hx : Lst elLix w0 (fun _ => True) v ls) (ht : TabLaid w0) : Wr w0 (.iface 90 v) (qryT ls) :=
  ⟨_, _, _, rfl, fun d W => m_query d _ W, en_query, fun W B l hW hB h hl => query_write hx ht hW hB h hl⟩
end Go.Proofs.YtchhophblejmeaaGreatDoor

namespace Go.Proofs.YtchhophblejmeaaGreatDoor
set_option linter.unusedSimpArgs false
set_option linter.unusedVariables false
open Go.RowKit

theorem gp_sp : Gp [32] := gp_blank (by decide) gp_nil
theorem gp_nl : Gp [10] := gp_blank (by decide) gp_nil
def mkP (g s : List UInt8) (k op : Int) (ok : UInt8 → Bool) : Pc := ⟨g, s, ⟨k, ⟨#[]⟩, 0, op, 0, 0⟩, ok⟩
def pTm (g : List UInt8) (t : Trm) : Pc := ⟨g, trmT t, tX t, okWord⟩
def dotP : Pc := mkP [] [46] 8 0 okAny
def argsPc : List Trm → List Pc → List Pc
  | [], K => mkP [] [41] 6 0 okAny :: K
  | t :: ts, K => mkP [] [44] 7 0 okAny :: pTm [32] t :: argsPc ts K
def tailPc : List Trm → List Pc → List Pc
  | [], K => K
  | t :: ts, K => mkP [] [40] 5 0 okAny :: pTm [] t :: argsPc ts K
def atomPc (g : List UInt8) (p : ByteArray) (ts : List Trm) (K : List Pc) : List Pc := ⟨g, p.data.toList, ⟨1, p, 0, 0, 0, 0⟩, okWord⟩ :: tailPc ts K
def litPc (g : List UInt8) (l : PLit) (K : List Pc) : List Pc :=
  if l.k = 1 then atomPc g l.a.p l.a.ts K else if l.k = 2 then mkP g [110, 111, 116] 10 0 okWord :: atomPc [32] l.a.p l.a.ts K else pTm g l.l :: mkP [32] (opT l.op) 11 l.op okEq :: pTm [32] l.r :: K
def bodyPc : List UInt8 → List PLit → List Pc → List Pc
  | _, [], K => K
  | g, [l], K => litPc g l (dotP :: K)
  | g, l :: m :: ls, K => litPc g l (mkP [] [44] 7 0 okAny :: bodyPc [32] (m :: ls) K)
def clsTail : List PLit → List Pc → List Pc
  | [], K => dotP :: K
  | l :: ls, K => mkP [32] [58, 45] 9 0 okAny :: bodyPc [32] (l :: ls) K
def clsPc (g : List UInt8) (c : PCls) (K : List Pc) : List Pc := atomPc g c.h.p c.h.ts (clsTail c.b K)
def progPc : List UInt8 → List PCls → List Pc
  | _, [] => []
  | g, c :: cs => clsPc g c (progPc [10] cs)

/-- The texts by the trees alone. -/
def plitT (x : PLit) : List UInt8 := if x.k = 1 then atmT x.a.p x.a.ts else if x.k = 2 then [110, 111, 116] ++ ([32] ++ atmT x.a.p x.a.ts) else if x.k = 3 then trmT x.l ++ ([32] ++ (opT x.op ++ ([32] ++ trmT x.r))) else []
def pbodyT (ls : List PLit) : List UInt8 := jn [44, 32] (ls.map plitT)
def pclsT (c : PCls) : List UInt8 := atmT c.h.p c.h.ts ++ ((if c.b = [] then [] else [32, 58, 45, 32] ++ pbodyT c.b) ++ [46])
def pprogT (cs : List PCls) : List UInt8 := cs.flatMap fun c => pclsT c ++ [10]

/-- What is well formed. -/
def okA (p : ByteArray) (ts : List Trm) : Prop := isNameL p.toList = true ∧ ts.length ≤ 8 ∧ ∀ t ∈ ts, okT t
def okL (l : PLit) : Prop := ((l.k = 1 ∨ l.k = 2) ∧ okA l.a.p l.a.ts ∧ l.op = 0 ∧ l.l.st = zeroTrm ∧ l.r.st = zeroTrm) ∨ (l.k = 3 ∧ 1 ≤ l.op ∧ l.op ≤ 6 ∧ okT l.l ∧ okT l.r ∧ l.a.p = ⟨#[]⟩ ∧ l.a.ts = [])
def okC (c : PCls) : Prop := okA c.h.p c.h.ts ∧ c.b.length ≤ 16 ∧ ∀ l ∈ c.b, okL l
/-- But for places. -/
def PAtom.st (a : PAtom) : PAtom := ⟨a.p, a.ts.map Trm.st, 0⟩
def PLit.st (l : PLit) : PLit := ⟨l.k, l.a.st, l.op, l.l.st, l.r.st, 0⟩
def PCls.st (c : PCls) : PCls := ⟨c.h.st, c.b.map PLit.st⟩

section texts
variable {e : List UInt8}
theorem txt_args : ∀ (ts : List Trm) (K : List Pc), txt (argsPc ts K) e = jnT [44, 32] (ts.map trmT) ++ ([41] ++ txt K e)
  | [], K => rfl
  | t :: ts, K => by
    show [] ++ ([44] ++ ([32] ++ (trmT t ++ txt (argsPc ts K) e))) = _
    rw [txt_args ts K, List.map_cons, jnT_cons]
    simp only [List.append_assoc, List.nil_append, List.cons_append]
theorem txt_atom (g : List UInt8) (p : ByteArray) (ts : List Trm) (K : List Pc) : txt (atomPc g p ts K) e = g ++ (atmT p ts ++ txt K e) := by
  cases ts with
  | nil =>
    show g ++ (p.data.toList ++ txt K e) = g ++ ((p.data.toList ++ []) ++ txt K e)
    rw [List.append_nil]
  | cons t ts =>
    show g ++ (p.data.toList ++ ([] ++ ([40] ++ ([] ++ (trmT t ++ txt (argsPc ts K) e))))) = _
    rw [txt_args]
    unfold atmT argT
    rw [if_neg (by simp), List.map_cons, jn_cons]
    simp only [List.append_assoc, List.nil_append]
theorem txt_lit (g : List UInt8) (l : PLit) (hl : l.k = 1 ∨ l.k = 2 ∨ l.k = 3) (K : List Pc) : txt (litPc g l K) e = g ++ (plitT l ++ txt K e) := by
  unfold litPc plitT
  by_cases h1 : l.k = 1
  · rw [if_pos h1, if_pos h1, txt_atom]
  · rw [if_neg h1, if_neg h1]
    by_cases h2 : l.k = 2
    · rw [if_pos h2, if_pos h2]
      show g ++ ([110, 111, 116] ++ txt (atomPc [32] l.a.p l.a.ts K) e) = _
      rw [txt_atom]
      simp only [List.append_assoc]
    · rw [if_neg h2, if_neg h2, if_pos (by omega)]
      show g ++ (trmT l.l ++ ([32] ++ (opT l.op ++ ([32] ++ (trmT l.r ++ txt K e))))) = _
      simp only [List.append_assoc]
theorem okL_k {l : PLit} (h : okL l) : l.k = 1 ∨ l.k = 2 ∨ l.k = 3 := by
  rcases h with ⟨h | h, -⟩ | ⟨h, -⟩
  · exact .inl h
  · exact .inr (.inl h)
  · exact .inr (.inr h)
theorem txt_body : ∀ (ls : List PLit) (g : List UInt8) (K : List Pc), ls ≠ [] → (∀ l ∈ ls, okL l) → txt (bodyPc g ls K) e = g ++ (pbodyT ls ++ ([46] ++ txt K e))
  | [], _, _, h, _ => absurd rfl h
  | [l], g, K, _, hk => by
    show txt (litPc g l (dotP :: K)) e = _
    rw [txt_lit g l (okL_k (hk l (by simp)))]
    show g ++ (plitT l ++ ([] ++ ([46] ++ txt K e))) = g ++ ((plitT l ++ []) ++ ([46] ++ txt K e))
    rw [List.append_nil, List.nil_append]
  | l :: m :: ls, g, K, _, hk => by
    show txt (litPc g l (mkP [] [44] 7 0 okAny :: bodyPc [32] (m :: ls) K)) e = _
    rw [txt_lit g l (okL_k (hk l (by simp)))]
    show g ++ (plitT l ++ ([] ++ ([44] ++ txt (bodyPc [32] (m :: ls) K) e))) = _
    rw [txt_body (m :: ls) [32] K (by simp) (fun u hu => hk u (by simp at hu ⊢; exact .inr hu))]
    unfold pbodyT
    simp only [List.map_cons, jn_cons, jnT_cons, List.append_assoc, List.nil_append, List.cons_append]
theorem txt_cls (g : List UInt8) (c : PCls) (hc : okC c) (K : List Pc) : txt (clsPc g c K) e = g ++ (pclsT c ++ txt K e) := by
  unfold clsPc pclsT
  rw [txt_atom]
  obtain ⟨h, b⟩ := c
  cases b with
  | nil =>
    rw [if_pos rfl]
    show g ++ (atmT h.p h.ts ++ ([] ++ ([46] ++ txt K e))) = _
    simp only [List.append_assoc, List.nil_append]
  | cons l ls =>
    rw [if_neg (by simp)]
    show g ++ (atmT h.p h.ts ++ ([32] ++ ([58, 45] ++ txt (bodyPc [32] (l :: ls) K) e))) = _
    rw [txt_body (l :: ls) [32] K (by simp) hc.2.2]
    simp only [List.append_assoc, List.cons_append, List.nil_append]
theorem txt_prog : ∀ (cs : List PCls) (g : List UInt8), (∀ c ∈ cs, okC c) → txt (progPc g cs) [10] = (if cs = [] then [10] else g ++ pprogT cs)
  | [], _, _ => rfl
  | c :: cs, g, h => by
    show txt (clsPc g c (progPc [10] cs)) [10] = _
    have hne : ¬ (c :: cs = []) := by simp
    rw [txt_cls g c (h c (by simp)), txt_prog cs [10] (fun u hu => h u (by simp [hu])), if_neg hne]
    unfold pprogT
    rw [List.flatMap_cons]
    by_cases h0 : cs = []
    · rw [if_pos h0, h0]; simp
    · rw [if_neg h0]
      simp only [List.append_assoc]
end texts

section pieces
variable {e : List UInt8}
theorem hd_of {ok : UInt8 → Bool} {g s : List UInt8} {x : Tok} {ok' : UInt8 → Bool} {K : List Pc} (h : ∃ b r, g ++ s = b :: r ∧ ok b = true) : ∀ c, (txt (⟨g, s, x, ok'⟩ :: K) e).head? = some c → ok c = true := fun c hc => by
  obtain ⟨b, r, e1, hb⟩ := h
  have e2 : txt (⟨g, s, x, ok'⟩ :: K) e = b :: (r ++ txt K e) := by
    show g ++ (s ++ txt K e) = _
    rw [← List.append_assoc, e1, List.cons_append]
  rw [e2] at hc
  cases hc
  exact hb
def HdW (K : List Pc) (e : List UInt8) : Prop := ∀ c, (txt K e).head? = some c → okWord c = true
theorem args_pc : ∀ (ts : List Trm) (K : List Pc), (∀ t ∈ ts, okT t) → PcOk e K → PcOk e (argsPc ts K) ∧ HdW (argsPc ts K) e
  | [], K, _, hK => ⟨⟨gp_nil, tk_shut, fun _ _ => rfl, hK⟩, hd_of ⟨41, [], rfl, by decide⟩⟩
  | t :: ts, K, ht, hK => by
    obtain ⟨h1, h2⟩ := args_pc ts K (fun u hu => ht u (by simp [hu])) hK
    exact ⟨⟨gp_nil, tk_com, fun _ _ => rfl, gp_sp, t_tkn (ht t (by simp)), h2, h1⟩, hd_of ⟨44, [], rfl, by decide⟩⟩
theorem atom_pc {g : List UInt8} (hg : Gp g) {p : ByteArray} {ts : List Trm} (h : okA p ts) {K : List Pc} (hK : PcOk e K) (hh : HdW K e) : PcOk e (atomPc g p ts K) := by
  obtain ⟨h1, -, h3⟩ := h
  cases ts with
  | nil => exact ⟨hg, name_tkn h1, hh, hK⟩
  | cons t ts =>
    obtain ⟨h4, h5⟩ := args_pc (e := e) ts K (fun u hu => h3 u (by simp [hu])) hK
    exact ⟨hg, name_tkn h1, hd_of ⟨40, [], rfl, show okWord 40 = true from by decide⟩, gp_nil, tk_open, fun _ _ => rfl, gp_nil, t_tkn (h3 t (by simp)), h5, h4⟩
theorem op_tkn {op : Int} (h1 : 1 ≤ op) (h6 : op ≤ 6) : Tkn (opT op) ⟨11, ⟨#[]⟩, 0, op, 0, 0⟩ okEq := by
  have hc : op = 1 ∨ op = 2 ∨ op = 3 ∨ op = 4 ∨ op = 5 ∨ op = 6 := by omega
  rcases hc with rfl | rfl | rfl | rfl | rfl | rfl
  · exact tkn_weak tk_eq fun _ _ => rfl
  · exact tkn_weak tk_ne fun _ _ => rfl
  · exact tk_lt
  · exact tkn_weak tk_le fun _ _ => rfl
  · exact tk_gt
  · exact tkn_weak tk_ge fun _ _ => rfl
theorem not_tkn' : Tkn [110, 111, 116] ⟨10, ⟨#[]⟩, 0, 0, 0, 0⟩ okWord := word_tkn (b := 110) (r := [111, 116]) (by decide) (by decide) (by decide)
theorem lit_pc {g : List UInt8} (hg : Gp g) {l : PLit} (h : okL l) {K : List Pc} (hK : PcOk e K) (hh : HdW K e) : PcOk e (litPc g l K) := by
  unfold litPc
  rcases h with ⟨hk, ha, -⟩ | ⟨hk, h1, h6, hl, hr, -⟩
  · by_cases h1 : l.k = 1
    · rw [if_pos h1]
      exact atom_pc hg ha hK hh
    · rw [if_neg h1, if_pos (by omega)]
      exact ⟨hg, not_tkn', hd_of ⟨32, _, rfl, show okWord 32 = true from by decide⟩, atom_pc gp_sp ha hK hh⟩
  · rw [if_neg (by omega), if_neg (by omega)]
    exact ⟨hg, t_tkn hl, hd_of ⟨32, _, rfl, show okWord 32 = true from by decide⟩, gp_sp, op_tkn h1 h6, hd_of ⟨32, _, rfl, show okEq 32 = true from by decide⟩, gp_sp, t_tkn hr, hh, hK⟩
theorem body_pc : ∀ (ls : List PLit) (g : List UInt8) (K : List Pc), Gp g → (∀ l ∈ ls, okL l) → PcOk e K → PcOk e (bodyPc g ls K)
  | [], _, _, _, _, hK => hK
  | [l], g, K, hg, hl, hK => lit_pc hg (hl l (by simp)) ⟨gp_nil, tk_dot, fun _ _ => rfl, hK⟩ (hd_of ⟨46, [], rfl, by decide⟩)
  | l :: m :: ls, g, K, hg, hl, hK => lit_pc hg (hl l (by simp)) ⟨gp_nil, tk_com, fun _ _ => rfl, body_pc (m :: ls) [32] K gp_sp (fun u hu => hl u (by simp at hu ⊢; exact .inr hu)) hK⟩ (hd_of ⟨44, [], rfl, by decide⟩)
theorem cls_pc {g : List UInt8} (hg : Gp g) {c : PCls} (h : okC c) {K : List Pc} (hK : PcOk e K) : PcOk e (clsPc g c K) := by
  obtain ⟨⟨p, ts, off⟩, b⟩ := c
  obtain ⟨h1, -, h3⟩ := h
  cases b with
  | nil => exact atom_pc hg h1 ⟨gp_nil, tk_dot, fun _ _ => rfl, hK⟩ (hd_of ⟨46, [], rfl, by decide⟩)
  | cons l ls => exact atom_pc hg h1 ⟨gp_sp, tk_arrow, fun _ _ => rfl, body_pc (l :: ls) [32] K gp_sp h3 hK⟩ (hd_of ⟨32, _, rfl, by decide⟩)
theorem prog_pc : ∀ (cs : List PCls) (g : List UInt8), Gp g → (∀ c ∈ cs, okC c) → PcOk e (progPc g cs)
  | [], _, _, _ => trivial
  | c :: cs, g, hg, h => cls_pc hg (h c (by simp)) (prog_pc cs [10] gp_nl fun u hu => h u (by simp [hu]))
end pieces

section read
variable {e : List UInt8}
theorem tks_consP (o : Nat) (g s : List UInt8) (x : Tok) (ok : UInt8 → Bool) (K : List Pc) : tks o (⟨g, s, x, ok⟩ :: K) e = tkAtP x (o + g.length) s.length :: tks (o + g.length + s.length) K e := rfl
theorem args_made (K : List Pc) : ∀ (ts : List Trm) (o : Nat) (u : Tok), (∀ t ∈ ts, okT t) → u.k ∈ termKs → ∃ X q ts', u :: tks o (argsPc ts K) e = X ++ tks q K e ∧ ArgsT termKs X (termP u :: ts') ∧ ts'.map Trm.st = ts.map Trm.st
  | [], o, u, _, hu => ⟨[u, tkAtP ⟨6, ⟨#[]⟩, 0, 0, 0, 0⟩ (o + 0) 1], o + 0 + 1, [], rfl, .one u _ hu rfl, rfl⟩
  | t :: ts, o, u, ht, hu => by
    obtain ⟨X, q, ts', h1, h2, h3⟩ := args_made K ts (o + 0 + 1 + 1 + (trmT t).length) (tkAtP (tX t) (o + 0 + 1 + 1) (trmT t).length) (fun v hv => ht v (by simp [hv])) (t_kind t)
    refine ⟨u :: tkAtP ⟨7, ⟨#[]⟩, 0, 0, 0, 0⟩ (o + 0) 1 :: X, q, _ :: ts', ?_, .more u _ X _ hu rfl h2, ?_⟩
    · show u :: _ :: (tkAtP (tX t) _ _ :: tks _ (argsPc ts K) e) = u :: _ :: (X ++ _)
      exact congrArg (fun Z => u :: tkAtP ⟨7, ⟨#[]⟩, 0, 0, 0, 0⟩ (o + 0) 1 :: Z) h1
    · rw [List.map_cons, List.map_cons, h3, t_back (ht t (by simp))]
theorem atom_made (K : List Pc) (g : List UInt8) (p : ByteArray) (ts : List Trm) (o : Nat) (h : okA p ts) : ∃ X q a, tks o (atomPc g p ts K) e = X ++ tks q K e ∧ AtomT termKs X a ∧ a.st = ⟨p, ts.map Trm.st, 0⟩ := by
  obtain ⟨-, h8, h3⟩ := h
  cases ts with
  | nil => exact ⟨[tkAtP ⟨1, p, 0, 0, 0, 0⟩ (o + g.length) p.data.toList.length], _, _, rfl, .bare _ rfl, rfl⟩
  | cons t ts =>
    obtain ⟨X, q, ts', h1, h2, h4⟩ := args_made (e := e) K ts (o + g.length + p.data.toList.length + 0 + 1 + 0 + (trmT t).length) (tkAtP (tX t) (o + g.length + p.data.toList.length + 0 + 1 + 0) (trmT t).length) (fun v hv => h3 v (by simp [hv])) (t_kind t)
    have hl : ts'.length = ts.length := by have := congrArg List.length h4; simpa using this
    refine ⟨tkAtP ⟨1, p, 0, 0, 0, 0⟩ (o + g.length) p.data.toList.length :: tkAtP ⟨5, ⟨#[]⟩, 0, 0, 0, 0⟩ (o + g.length + p.data.toList.length + 0) 1 :: X, q, _, ?_, .args _ _ X _ rfl rfl h2 (by simp only [List.length_cons] at *; omega), ?_⟩
    · show _ :: _ :: (tkAtP (tX t) _ _ :: tks _ (argsPc ts K) e) = _ :: _ :: (X ++ _)
      exact congrArg (fun Z => tkAtP ⟨1, p, 0, 0, 0, 0⟩ (o + g.length) p.data.toList.length :: tkAtP ⟨5, ⟨#[]⟩, 0, 0, 0, 0⟩ (o + g.length + p.data.toList.length + 0) 1 :: Z) h1
    · show (⟨p, _, 0⟩ : PAtom) = _
      rw [List.map_cons, List.map_cons, h4, t_back (h3 t (by simp))]
theorem lit_made (K : List Pc) (g : List UInt8) (l : PLit) (o : Nat) (h : okL l) : ∃ X q x, tks o (litPc g l K) e = X ++ tks q K e ∧ LitT X x ∧ x.st = l.st := by
  unfold litPc
  rcases h with ⟨hk, ha, ho, hl, hr⟩ | ⟨hk, h1, h6, hl, hr, hp, hts⟩
  · by_cases h1 : l.k = 1
    · rw [if_pos h1]
      obtain ⟨X, q, a, e1, e2, e3⟩ := atom_made (e := e) K g l.a.p l.a.ts o ha
      refine ⟨X, q, _, e1, .pos X a e2, ?_⟩
      show (⟨1, a.st, 0, zeroTrm.st, zeroTrm.st, 0⟩ : PLit) = ⟨l.k, ⟨l.a.p, l.a.ts.map Trm.st, 0⟩, l.op, l.l.st, l.r.st, 0⟩
      rw [e3, h1, ho, hl, hr]
      rfl
    · have h2 : l.k = 2 := by omega
      rw [if_neg h1, if_pos h2]
      obtain ⟨X, q, a, e1, e2, e3⟩ := atom_made (e := e) K [32] l.a.p l.a.ts (o + g.length + 3) ha
      refine ⟨tkAtP ⟨10, ⟨#[]⟩, 0, 0, 0, 0⟩ (o + g.length) 3 :: X, q, _, congrArg (fun Z => tkAtP ⟨10, ⟨#[]⟩, 0, 0, 0, 0⟩ (o + g.length) 3 :: Z) e1, .neg _ X a rfl e2, ?_⟩
      show (⟨2, a.st, 0, zeroTrm.st, zeroTrm.st, 0⟩ : PLit) = ⟨l.k, ⟨l.a.p, l.a.ts.map Trm.st, 0⟩, l.op, l.l.st, l.r.st, 0⟩
      rw [e3, h2, ho, hl, hr]
      rfl
  · rw [if_neg (by omega), if_neg (by omega)]
    refine ⟨[tkAtP (tX l.l) (o + g.length) (trmT l.l).length, tkAtP ⟨11, ⟨#[]⟩, 0, l.op, 0, 0⟩ (o + g.length + (trmT l.l).length + 1) (opT l.op).length, tkAtP (tX l.r) (o + g.length + (trmT l.l).length + 1 + (opT l.op).length + 1) (trmT l.r).length], _, _, rfl, .test _ _ _ (t_kind l.l) rfl (t_kind l.r), ?_⟩
    show (⟨3, zeroAtom.st, l.op, (termP (tkAtP (tX l.l) _ _)).st, (termP (tkAtP (tX l.r) _ _)).st, 0⟩ : PLit) = ⟨l.k, ⟨l.a.p, l.a.ts.map Trm.st, 0⟩, l.op, l.l.st, l.r.st, 0⟩
    rw [t_back hl, t_back hr, hk, hp, hts]
    rfl
theorem body_made (K : List Pc) : ∀ (ls : List PLit) (g : List UInt8) (o : Nat), ls ≠ [] → (∀ l ∈ ls, okL l) → ∃ X q xs, tks o (bodyPc g ls K) e = X ++ tks q K e ∧ BodyT X xs ∧ xs.map PLit.st = ls.map PLit.st
  | [], _, _, h, _ => absurd rfl h
  | [l], g, o, _, h => by
    obtain ⟨X, q, x, h1, h2, h3⟩ := lit_made (e := e) (dotP :: K) g l o (h l (by simp))
    refine ⟨X ++ [tkAtP ⟨8, ⟨#[]⟩, 0, 0, 0, 0⟩ (q + 0) 1], q + 0 + 1, [x], ?_, .one X x _ h2 rfl, by rw [List.map_cons, List.map_cons, h3]⟩
    show tks o (litPc g l (dotP :: K)) e = _
    rw [h1, List.append_assoc]
    rfl
  | l :: m :: ls, g, o, _, h => by
    obtain ⟨X, q, x, h1, h2, h3⟩ := lit_made (e := e) (mkP [] [44] 7 0 okAny :: bodyPc [32] (m :: ls) K) g l o (h l (by simp))
    obtain ⟨Y, q', xs, h4, h5, h6⟩ := body_made K (m :: ls) [32] (q + 0 + 1) (by simp) (fun u hu => h u (by simp at hu ⊢; exact .inr hu))
    refine ⟨X ++ tkAtP ⟨7, ⟨#[]⟩, 0, 0, 0, 0⟩ (q + 0) 1 :: Y, q', x :: xs, ?_, .more X x _ Y xs h2 rfl h5, by rw [List.map_cons, h3, h6]; rfl⟩
    show tks o (litPc g l _) e = _
    rw [h1, List.append_assoc]
    exact congrArg (fun Z => X ++ tkAtP ⟨7, ⟨#[]⟩, 0, 0, 0, 0⟩ (q + 0) 1 :: Z) h4
theorem cls_made (K : List Pc) (g : List UInt8) (c : PCls) (o : Nat) (h : okC c) : ∃ X q x, tks o (clsPc g c K) e = X ++ tks q K e ∧ ClsT X x ∧ x.st = c.st := by
  obtain ⟨⟨p, ts, off⟩, b⟩ := c
  obtain ⟨h1, h16, h3⟩ := h
  cases b with
  | nil =>
    obtain ⟨X, q, a, e1, e2, e3⟩ := atom_made (e := e) (dotP :: K) g p ts o h1
    refine ⟨X ++ [tkAtP ⟨8, ⟨#[]⟩, 0, 0, 0, 0⟩ (q + 0) 1], q + 0 + 1, _, ?_, .fact X a _ e2 rfl, ?_⟩
    · show tks o (atomPc g p ts (dotP :: K)) e = _
      rw [e1, List.append_assoc]
      rfl
    · show (⟨a.st, []⟩ : PCls) = ⟨⟨p, ts.map Trm.st, 0⟩, []⟩
      rw [e3]
  | cons l ls =>
    obtain ⟨X, q, a, e1, e2, e3⟩ := atom_made (e := e) (mkP [32] [58, 45] 9 0 okAny :: bodyPc [32] (l :: ls) K) g p ts o h1
    obtain ⟨Y, q', xs, e4, e5, e6⟩ := body_made (e := e) K (l :: ls) [32] (q + 1 + 2) (by simp) h3
    have hl : xs.length = (l :: ls).length := by have := congrArg List.length e6; simpa using this
    refine ⟨X ++ tkAtP ⟨9, ⟨#[]⟩, 0, 0, 0, 0⟩ (q + 1) 2 :: Y, q', _, ?_, .rule X a _ Y xs e2 rfl e5 (by rw [hl]; exact h16), ?_⟩
    · show tks o (atomPc g p ts (mkP [32] [58, 45] 9 0 okAny :: bodyPc [32] (l :: ls) K)) e = _
      rw [e1, List.append_assoc]
      exact congrArg (fun Z => X ++ tkAtP ⟨9, ⟨#[]⟩, 0, 0, 0, 0⟩ (q + 1) 2 :: Z) e4
    · show (⟨a.st, xs.map PLit.st⟩ : PCls) = ⟨⟨p, ts.map Trm.st, 0⟩, (l :: ls).map PLit.st⟩
      rw [e3, e6]
theorem prog_made : ∀ (cs : List PCls) (g : List UInt8) (o : Nat), (∀ c ∈ cs, okC c) → ∃ P, ProgT (tks o (progPc g cs) e) P ∧ P.map PCls.st = cs.map PCls.st
  | [], _, _, _ => ⟨[], .nil _ rfl, rfl⟩
  | c :: cs, g, o, h => by
    obtain ⟨X, q, x, e1, e2, e3⟩ := cls_made (e := e) (progPc [10] cs) g c o (h c (by simp))
    obtain ⟨P, h1, h2⟩ := prog_made cs [10] q fun u hu => h u (by simp [hu])
    refine ⟨x :: P, ?_, by rw [List.map_cons, List.map_cons, e3, h2]⟩
    show ProgT (tks o (clsPc g c _) e) _
    rw [e1]
    exact .more X x _ P e2 h1
end read

/-- A program's text is read as the program, but for places. -/
theorem prt_prog {T : ByteArray} {cs : List PCls} (hT : T.data.toList = pprogT cs) (hc : ∀ c ∈ cs, okC c) (hn : cs.length ≤ 512) (hs : T.size ≤ 65536) :
    ∃ P, progP (scanX T).2.1 ((scanX T).2.2 : Int) (scanX T).1 = .ok P [] ∧ P.map PCls.st = cs.map PCls.st := by
  by_cases h0 : cs = []
  · subst h0
    have h := made_toks (T := T) gp_nil (progPc [] []) 0 (Nat.zero_le _) (by unfold rest; rw [List.drop_zero, hT]; rfl) trivial
    rw [scan_eq hs h]
    exact ⟨[], prog_fwd (.nil _ rfl) (by simp) _ _, rfl⟩
  · have h := made_toks (T := T) gp_nl (progPc [] cs) 0 (Nat.zero_le _) (by unfold rest; rw [List.drop_zero, hT, txt_prog cs [] hc, if_neg h0]; rfl) (prog_pc cs [] gp_nil hc)
    obtain ⟨P, h1, h2⟩ := prog_made (e := [10]) cs [] 0 hc
    rw [scan_eq hs h]
    exact ⟨P, prog_fwd h1 (by have := congrArg List.length h2; simp only [List.length_map] at this; omega) _ _, h2⟩
/-- A query's text is read as the query, but for places. -/
theorem prt_query {T : ByteArray} {ls : List PLit} (hT : T.data.toList = pbodyT ls ++ [46]) (h0 : ls ≠ []) (hl : ∀ l ∈ ls, okL l) (hn : ls.length ≤ 16) (hs : T.size ≤ 65536) :
    ∃ P, queryP (scanX T).2.1 ((scanX T).2.2 : Int) (scanX T).1 = .ok P [] ∧ P.map PLit.st = ls.map PLit.st := by
  have h := made_toks (T := T) gp_nil (bodyPc [] ls []) 0 (Nat.zero_le _) (by unfold rest; rw [List.drop_zero, hT, txt_body ls [] [] h0 hl]; rfl) (body_pc ls [] [] gp_nil hl trivial)
  obtain ⟨X, q, xs, h1, h2, h3⟩ := body_made (e := []) [] ls [] 0 h0 hl
  rw [scan_eq hs h]
  simp only
  rw [h1]
  exact ⟨xs, query_fwd h2 (by have := congrArg List.length h3; simp only [List.length_map] at this; omega) rfl _ _, h3⟩
end Go.Proofs.YtchhophblejmeaaGreatDoor

namespace Go.Proofs.YtchhophblejmeaaGreatDoor
set_option linter.unusedSimpArgs false
set_option linter.unusedVariables false
open Go.RowKit

def trm4 (t : Trm) : Trm := trmM t.k t.n t.s t.off
def atm4 (a : Atm) : PAtom := ⟨nameM a.p, (a.ts.take 8).map trm4, a.off⟩
def ltr4 (x : Ltr) : PLit :=
  if modP x.k 3 = 0 then ⟨3, zeroAtom, 1 + modP x.op 6, trm4 x.l, trm4 x.r, x.off⟩
  else if modP x.k 3 = 1 then ⟨1, atm4 x.a, 0, zeroTrm, zeroTrm, x.off⟩ else ⟨2, atm4 x.a, 0, zeroTrm, zeroTrm, x.off⟩
def bod4 (ls : List Ltr) : List PLit := (ls.take 16).map ltr4
def cls4 (c : Cls) : PCls := ⟨atm4 c.h, bod4 c.ls⟩
def prg4 (cs : List Cls) : List PCls := (cs.take 512).map cls4

theorem nameM_size (s : ByteArray) : (nameM s).size ≤ 64 := by
  have h := nameM_ok s
  unfold isNameL isWordL at h
  simp only [Bool.and_eq_true, decide_eq_true_eq] at h
  have h2 := h.1.2.1
  rw [toListLen] at h2
  exact h2
theorem varM_size (s : ByteArray) : (varM s).size ≤ 64 := by
  have h := varM_ok s
  unfold isVarL isWordL at h
  simp only [Bool.and_eq_true, decide_eq_true_eq] at h
  have h2 := h.1.2.1
  rw [toListLen] at h2
  exact h2
theorem trmM_ok (k n : Int) (s : ByteArray) (o : Int) (hn : I64 n) (ho : I64 o) : okT (trmM k n s o) := by
  unfold trmM
  by_cases h0 : modP k 4 = 0
  · rw [if_pos h0]
    have hz := varM_size s
    refine ⟨⟨⟨by unfold I64; show _ ≤ (4 : Int) ∧ (4 : Int) ≤ _; omega, by unfold I64; show _ ≤ (0 : Int) ∧ (0 : Int) ≤ _; omega, by show (varM s).size ≤ _; omega⟩, ho⟩, ?_⟩
    unfold termE
    rw [if_pos rfl, if_pos rfl, if_pos (varM_ok s)]
  · rw [if_neg h0]
    obtain ⟨h1, h2, h3⟩ := conM_ok k n s hn
    refine ⟨⟨h1, ho⟩, ?_⟩
    unfold termE
    rw [if_neg (by show ¬ (conM k n s).k = 4; omega)]
    exact if_pos h2
theorem trm4_ok {t : Trm} (h : t.ok) : okT (trm4 t) := trmM_ok _ _ _ _ h.1.2.1 h.2
theorem atm4_ok {a : Atm} {w : World} (h : a.at w) : okA (atm4 a).p (atm4 a).ts := by
  refine ⟨nameM_ok a.p, ?_, fun t ht => ?_⟩
  · show ((a.ts.take 8).map trm4).length ≤ 8
    rw [List.length_map, List.length_take]; omega
  · obtain ⟨u, hu, rfl⟩ := List.mem_map.1 ht
    exact trm4_ok (h.2.2.2.2.1 u (List.mem_of_mem_take hu))
theorem ltr4_ok {x : Ltr} {w : World} (h : x.at w) : okL (ltr4 x) := by
  have hm := modP_lt x.op (k := 6) (by decide)
  unfold ltr4
  by_cases h0 : modP x.k 3 = 0
  · rw [if_pos h0]
    exact .inr ⟨rfl, by show 1 ≤ 1 + modP x.op 6; omega, by show 1 + modP x.op 6 ≤ 6; omega, trm4_ok h.2.2.2.1, trm4_ok h.2.2.2.2.1, rfl, rfl⟩
  · rw [if_neg h0]
    by_cases h1 : modP x.k 3 = 1
    · rw [if_pos h1]; exact .inl ⟨.inl rfl, atm4_ok h.2.1, rfl, rfl, rfl⟩
    · rw [if_neg h1]; exact .inl ⟨.inr rfl, atm4_ok h.2.1, rfl, rfl, rfl⟩
theorem bod4_ok {ls : List Ltr} {w : World} (h : ∀ x ∈ ls, x.at w) : (bod4 ls).length ≤ 16 ∧ ∀ l ∈ bod4 ls, okL l := by
  refine ⟨?_, fun l hl => ?_⟩
  · unfold bod4; rw [List.length_map, List.length_take]; omega
  · obtain ⟨u, hu, rfl⟩ := List.mem_map.1 hl
    exact ltr4_ok (h u (List.mem_of_mem_take hu))
theorem prg4_ok {cs : List Cls} {w : World} (h : ∀ c ∈ cs, c.at w) : (prg4 cs).length ≤ 512 ∧ ∀ c ∈ prg4 cs, okC c := by
  refine ⟨?_, fun l hl => ?_⟩
  · unfold prg4; rw [List.length_map, List.length_take]; omega
  · obtain ⟨u, hu, rfl⟩ := List.mem_map.1 hl
    have hc := h u (List.mem_of_mem_take hu)
    have hb := bod4_ok hc.2.2.2.1
    exact ⟨atm4_ok hc.1, hb.1, hb.2⟩
end Go.Proofs.YtchhophblejmeaaGreatDoor

namespace Go.Proofs.YtchhophblejmeaaGreatDoor
set_option linter.unusedSimpArgs false
set_option linter.unusedVariables false

section
variable {P : Program} {ops : Array Oper} {Q : Exit → Act → World → Prop} {md : Region.Mode} {S : World → Prop} {n : Nat}

/-- Whatever order is picked from here on, and S holds behind every operation but number n. -/
def wpAnyM (P : Program) (md : Region.Mode) (ops : Array Oper) (Q : Exit → Act → World → Prop) (S : World → Prop) (n : Nat) : Nat → Array Bool → Act → World → Prop
  | 0, listed, a, w => Region.ready md ops listed = [] ∧ Q .normal a w
  | fuel + 1, listed, a, w =>
    (Region.ready md ops listed = [] → Q .normal a w) ∧
    ∀ i ∈ Region.ready md ops listed, wpOp P ops Q i (fun a' w' => (i ≠ n → S w') ∧ wpAnyM P md ops Q S n fuel (listed.setIfInBounds i true) a' w') a w

theorem wpAny_of_M : ∀ (fuel : Nat) (listed : Array Bool) (a : Act) (w : World), wpAnyM P md ops Q S n fuel listed a w → wpAny P md ops Q fuel listed a w
  | 0, _, _, _, h => h
  | fuel + 1, _, _, _, h => ⟨h.1, fun i hi => wpOp_mono (fun a' w' h' => wpAny_of_M fuel _ a' w' h'.2) (h.2 i hi)⟩

theorem wpAnyM_first {i : Nat} {oi : Oper} {v : Value} (hi : ops[i]? = some oi) (hsel : ∀ (j : Nat) (o : Oper) cs b, ops[j]? = some o → o.op ≠ .select cs b)
    (hQ : ∀ c a w, Q (.panic c) (a.put oi.dst v) w → Q (.panic c) a w)
    (hn : ∀ o, ops[n]? = some o → ∃ e ∈ o.after, Region.binds md e = true ∧ e.on = i) :
    ∀ (fuel : Nat) (listed : Array Bool) (a : Act) (w : World),
      (∀ j oj, ops[j]? = some oj → j ≠ i → listed.getD j true = false → (∀ e ∈ oj.after, Region.binds md e = true → e.on ≠ i) → oi.apart ops oj = true) →
      i ∈ Region.ready md ops listed → YieldsIf P ops S oi v a → S w →
      wpAnyM P md ops Q S n fuel (listed.setIfInBounds i true) (a.put oi.dst v) w → wpAnyM P md ops Q S n (fuel + 1) listed a w := by
  intro fuel
  induction fuel with
  | zero =>
    intro listed a w _ hr hy hS H
    refine ⟨fun h => (by rw [h] at hr; cases hr), fun j hj => ?_⟩
    by_cases hji : j = i
    · subst hji; exact hy.wpOp hi hS ⟨fun _ => hS, H⟩
    · have := ready_mono hj hji
      rw [H.1] at this
      cases this
  | succ fuel ih =>
    intro listed a w hfree hr hy hS H
    refine ⟨fun h => (by rw [h] at hr; cases hr), fun j hj => ?_⟩
    by_cases hji : j = i
    · subst hji; exact hy.wpOp hi hS ⟨fun _ => hS, H⟩
    · have h1 := H.2 j (ready_mono hj hji)
      obtain ⟨hjun, oj, hoj, hall⟩ := mem_ready.1 hj
      have hnot : ∀ e ∈ oj.after, Region.binds md e = true → e.on ≠ i := fun e he hb heq => by
        have h1 := hall e he hb
        have h0 := (mem_ready.1 hr).1
        rw [heq] at h1
        rcases Nat.lt_or_ge i listed.size with h' | h'
        · simp [h'] at h0 h1; rw [h0] at h1; cases h1
        · simp [Array.getElem?_eq_none h'] at h1
      have hjn : j ≠ n := fun e1 => by
        subst e1
        obtain ⟨e, he, hb, ho⟩ := hn oj hoj
        exact hnot e he hb ho
      have h2 := wpOp_putIf hoj (hfree j oj hoj hji hjun hnot) (fun cs b => hsel i oi cs b hi) (fun cs b => hsel j oj cs b hoj) hQ hy h1
      have hfree' : ∀ k ok, ops[k]? = some ok → k ≠ i → (listed.setIfInBounds j true).getD k true = false →
          (∀ e ∈ ok.after, Region.binds md e = true → e.on ≠ i) → oi.apart ops ok = true := fun k ok hk hki hun hno => by
        refine hfree k ok hk hki ?_ hno
        by_cases hjk : j = k
        · subst hjk; exact hjun
        · rw [getD_set_ne true hjk] at hun; exact hun
      refine wpOp_mono (fun a' w' h3 => ⟨h3.2.1, ih (listed.setIfInBounds j true) a' w' hfree' (ready_mono hr (Ne.symm hji)) h3.1 (h3.2.1 hjn) ?_⟩) h2
      rw [Array.setIfInBounds_comm _ _ hji]
      exact h3.2.2

/-- Does number n wait for number i? -/
def waitsFor (md : Region.Mode) (ops : Array Oper) (n i : Nat) : Bool := ((ops[n]?).map fun o => o.after.any fun e => Region.binds md e && e.on == i).getD false

theorem waitsFor_spec {i : Nat} (h : waitsFor md ops n i = true) : ∀ o, ops[n]? = some o → ∃ e ∈ o.after, Region.binds md e = true ∧ e.on = i := fun o ho => by
  simp only [waitsFor, ho, Option.map_some, Option.getD_some] at h
  obtain ⟨k, hk, h2⟩ := Array.any_eq_true.1 h
  simp only [Bool.and_eq_true, beq_iff_eq] at h2
  exact ⟨_, Array.getElem_mem hk, h2.1, h2.2⟩

/-- Take number i first. -/
theorem wpAnyM_take {i : Nat} {oi : Oper} {v : Value} {fuel : Nat} {listed : Array Bool} {a : Act} {w : World} (hi : ops[i]? = some oi)
    (hs : Region.noSelect ops = true) (hf : Region.free md ops listed i = true) (hr : (Region.ready md ops listed).contains i = true) (hn : waitsFor md ops n i = true)
    (hQ : ∀ c a w, Q (.panic c) (a.put oi.dst v) w → Q (.panic c) a w) (hS : S w) (hy : YieldsIf P ops S oi v a)
    (h : wpAnyM P md ops Q S n fuel (listed.setIfInBounds i true) (a.put oi.dst v) w) : wpAnyM P md ops Q S n (fuel + 1) listed a w :=
  wpAnyM_first hi (Region.noSelect_spec hs) hQ (waitsFor_spec hn) fuel listed a w (Region.free_spec hi hf) (by simpa using hr) hy hS h

/-- Only number i may come up. -/
theorem wpAnyM_one {i : Nat} {o : Oper} {fuel : Nat} {listed : Array Bool} {a : Act} {w : World} (hr : Region.ready md ops listed = [i]) (ho : ops[i]? = some o)
    (h : ∀ K' : Act → World → Prop, Shut (∀ a w, S w → (S w → wpAnyM P md ops Q S n fuel (listed.setIfInBounds i true) a w) → K' a w) → if Region.wanted o (yielded ops a.tmps) = true then Oper.wp P o a w K' Q else K' (a.put o.dst undef) w) :
    wpAnyM P md ops Q S n (fuel + 1) listed a w := by
  refine ⟨fun h0 => (by rw [h0] at hr; cases hr), fun j hj => ?_⟩
  rw [hr] at hj
  simp only [List.mem_singleton] at hj
  subst hj
  exact wpOp_step ho (fun K' hK => h K' (fun a w hS hW => hK a w ⟨fun _ => hS, hW hS⟩))

/-- Number n, the last one. -/
theorem wpAnyM_end {o : Oper} {fuel : Nat} {listed : Array Bool} {a : Act} {w : World} (hr : Region.ready md ops listed = [n]) (ho : ops[n]? = some o) (he : Region.ready md ops (listed.setIfInBounds n true) = [])
    (h : ∀ K' : Act → World → Prop, Shut (∀ a w, Q .normal a w → K' a w) → if Region.wanted o (yielded ops a.tmps) = true then Oper.wp P o a w K' Q else K' (a.put o.dst undef) w) :
    wpAnyM P md ops Q S n (fuel + 1) listed a w := by
  refine ⟨fun h0 => (by rw [h0] at hr; cases hr), fun j hj => ?_⟩
  rw [hr] at hj
  simp only [List.mem_singleton] at hj
  subst hj
  refine wpOp_step ho (fun K' hK => h K' (fun a w hQ => hK a w ⟨fun e => absurd rfl e, ?_⟩))
  cases fuel with
  | zero => exact ⟨he, hQ⟩
  | succ f => exact ⟨fun _ => hQ, by rw [he]; simp⟩

theorem wp_region_last {id : Nat} {a : Act} {w : World} (hm : P.follows .mixedOrders = true) (S : World → Prop) (n : Nat)
    (h : wpAnyM P .any ops Q S n ops.size (Array.replicate ops.size false) a w.drew) : (Code.region id ops true).wp P Q a w :=
  wp_region_any hm (wpAny_of_M _ _ _ _ h)
end
end Go.Proofs.YtchhophblejmeaaGreatDoor
