/- A slice of a slice: its beginning, its end; and the lists that they are. A region that draws its order and whose last operation, which waits for all the others, writes what they read: the condition on the world must hold behind every operation but that one. Nothing of the program's own text. parse's reader takes an atom by its name, and a literal. The document's atom. parse's reader takes a literal. The document's literal. -/
import Derived.Test.YtmdhjggijlhhgaaGreatDoorLists
import Derived.Laws.Slices
import Derived.Deep.RegionHeld3
import Derived.Test.YtmdhjggijlhhgaaGreatDoorProg
import Derived.Test.YtmdhjggijlhhgaaGreatDoorParseAtom
import Derived.Test.YtmdhjggijlhhgaaGreatDoorRCut
import Derived.Test.YtmdhjggijlhhgaaGreatDoorRMove

namespace Go.Proofs.YtmdhjggijlhhgaaGreatDoor
set_option linter.unusedSimpArgs false
set_option linter.unusedVariables false
open Go.RowKit

theorem addr_zero (a : Addr) : a.add 0 = a := by unfold Addr.add; rw [if_pos rfl]
section
variable {P : Program} {t : TypeId} {s : Nat}
theorem run_to (ht : P.underlying t = some (.slice (P.elem t))) (hs : ∀ V : World, (sizeOf (P.elem t)).run P V = .ok s V) (a : Option Addr) (n cap i : Nat) (h : i ≤ cap) (V : World) :
    (Instr.slice t (.slice a n cap) none (some (.int .i64 (i : Int))) none).run P V = .ok (.slice a i cap) V := by
  rw [run_slice_h V t a n cap ht .i64 (i : Int) (by omega) (by omega), hs V]
  simp only [Result.andThen, sliced, Int.toNat_natCast, Nat.sub_zero, Nat.zero_mul]
  congr 2
  split
  · rfl
  · cases a with
    | none => rfl
    | some a => rw [Option.map_some, addr_zero]
/-- Where the end of a slice lies. -/
def tailA (a : Option Addr) (i cap s : Nat) : Option Addr := if cap = i then a else a.map (·.add (i * s))
theorem run_from (ht : P.underlying t = some (.slice (P.elem t))) (hs : ∀ V : World, (sizeOf (P.elem t)).run P V = .ok s V) (a : Option Addr) (n cap i : Nat) (h : i ≤ n) (V : World) :
    (Instr.slice t (.slice a n cap) (some (.int .i64 (i : Int))) none none).run P V = .ok (.slice (tailA a i cap s) (n - i) (cap - i)) V := by
  rw [run_slice_l V t a n cap ht .i64 (i : Int) (by omega) (by omega), hs V]
  simp only [Result.andThen, sliced, Int.toNat_natCast, tailA]
theorem at_of (ht : P.underlying t = some (.slice (P.elem t))) {x : Value} {lo hi : Option Value} {V : World} {r : Result Value} (h : (Instr.slice t x lo hi none).run P V = r) : (Instr.sliceAt t x lo hi none).run P V = r := by
  rw [run_sliceAt_slice V t x lo hi none ht]; exact h
end

theorem Lst.to {α : Type} {E : El α} {w : World} {F : Nat → Prop} {a : Option Addr} {n cap i : Nat} {l : List α} (h : Lst E w F (.slice a n cap) l) (hi : i ≤ l.length) : Lst E w F (.slice a i cap) (l.take i) := by
  obtain ⟨ao, c, e, h1, h2, h3, h4, h5⟩ := h
  injection e with e1 e2 e3
  subst e1 e3
  have hl : (l.take i).length = i := by rw [List.length_take]; omega
  refine ⟨_, _, by rw [hl], by omega, fun h => ?_, by omega, fun x hx => h4 x (List.mem_of_mem_take hx), fun hp => ?_⟩
  · have := h2 h
    omega
  · obtain ⟨b, off, e2, hb, hF, hc⟩ := h5 (by omega)
    exact ⟨b, off, e2, hb, hF, fun k x hx j u hu => hc k x (by rw [List.getElem?_take] at hx; split at hx; exact hx; cases hx) j u hu⟩
theorem Lst.from {α : Type} {E : El α} {w : World} {F : Nat → Prop} {a : Option Addr} {n cap i : Nat} {l : List α} (h : Lst E w F (.slice a n cap) l) (hi : i ≤ l.length) : Lst E w F (.slice (tailA a i cap E.size) (n - i) (cap - i)) (l.drop i) := by
  obtain ⟨ao, c, e, h1, h2, h3, h4, h5⟩ := h
  injection e with e1 e2 e3
  subst e1 e3
  have hl : (l.drop i).length = n - i := by rw [List.length_drop, e2]
  refine ⟨_, _, by rw [hl], by omega, fun h => ?_, by omega, fun x hx => h4 x (List.mem_of_mem_drop hx), fun hp => ?_⟩
  · unfold tailA at h
    split at h
    · have := h2 h
      omega
    · cases a with
      | none => have := h2 rfl; omega
      | some a => cases h
  · obtain ⟨b, off, e2, hb, hF, hc⟩ := h5 (by omega)
    subst e2
    refine ⟨b, off + i * E.size, ?_, hb, hF, fun k x hx j u hu => ?_⟩
    · unfold tailA
      rw [if_neg (by omega), Option.map_some]
      congr 1
      unfold Addr.add
      split
      · rename_i h0
        rw [h0, Nat.add_zero]
      · rfl
    · rw [List.getElem?_drop] at hx
      have := hc (i + k) x hx j u hu
      rw [Nat.add_mul, ← Nat.add_assoc] at this
      exact this

end Go.Proofs.YtmdhjggijlhhgaaGreatDoor

namespace Go.Proofs.YtmdhjggijlhhgaaGreatDoor
set_option linter.unusedSimpArgs false
set_option linter.unusedVariables false

section
variable {P : Program} {ops : Array Oper} {Q : Exit → Act → World → Prop} {md : Region.Mode} {S : World → Prop} {n : Nat}

/-- Whatever order is picked from here on, and S holds behind every operation but number n. -/
def wpAnyM (P : Program) (md : Region.Mode) (ops : Array Oper) (Q : Exit → Act → World → Prop) (S : World → Prop) (n : Nat) : Nat → Array Bool → Act → World → Prop
  | 0, listed, a, w => Region.ready md ops listed = [] ∧ Q .normal a w
  | fuel + 1, listed, a, w =>
    (Region.ready md ops listed = [] → Q .normal a w) ∧
    ∀ i ∈ Region.ready md ops listed, wpOp P ops Q i (fun a' w' => (i ≠ n → S w') ∧ wpAnyM P md ops Q S n fuel (listed.setIfInBounds i true) a' w') a w

theorem wpAny_of_M : ∀ (fuel : Nat) (listed : Array Bool) (a : Act) (w : World), wpAnyM P md ops Q S n fuel listed a w → wpAny P md ops Q fuel listed a w
  | 0, _, _, _, h => h
  | fuel + 1, _, _, _, h => ⟨h.1, fun i hi => wpOp_mono (fun a' w' h' => wpAny_of_M fuel _ a' w' h'.2) (h.2 i hi)⟩

theorem wpAnyM_first {i : Nat} {oi : Oper} {v : Value} (hi : ops[i]? = some oi) (hsel : ∀ (j : Nat) (o : Oper) cs b, ops[j]? = some o → o.op ≠ .select cs b)
    (hQ : ∀ c a w, Q (.panic c) (a.put oi.dst v) w → Q (.panic c) a w)
    (hn : ∀ o, ops[n]? = some o → ∃ e ∈ o.after, Region.binds md e = true ∧ e.on = i) :
    ∀ (fuel : Nat) (listed : Array Bool) (a : Act) (w : World),
      (∀ j oj, ops[j]? = some oj → j ≠ i → listed.getD j true = false → (∀ e ∈ oj.after, Region.binds md e = true → e.on ≠ i) → oi.apart ops oj = true) →
      i ∈ Region.ready md ops listed → YieldsIf P ops S oi v a → S w →
      wpAnyM P md ops Q S n fuel (listed.setIfInBounds i true) (a.put oi.dst v) w → wpAnyM P md ops Q S n (fuel + 1) listed a w := by
  intro fuel
  induction fuel with
  | zero =>
    intro listed a w _ hr hy hS H
    refine ⟨fun h => (by rw [h] at hr; cases hr), fun j hj => ?_⟩
    by_cases hji : j = i
    · subst hji; exact hy.wpOp hi hS ⟨fun _ => hS, H⟩
    · have := ready_mono hj hji
      rw [H.1] at this
      cases this
  | succ fuel ih =>
    intro listed a w hfree hr hy hS H
    refine ⟨fun h => (by rw [h] at hr; cases hr), fun j hj => ?_⟩
    by_cases hji : j = i
    · subst hji; exact hy.wpOp hi hS ⟨fun _ => hS, H⟩
    · have h1 := H.2 j (ready_mono hj hji)
      obtain ⟨hjun, oj, hoj, hall⟩ := mem_ready.1 hj
      have hnot : ∀ e ∈ oj.after, Region.binds md e = true → e.on ≠ i := fun e he hb heq => by
        have h1 := hall e he hb
        have h0 := (mem_ready.1 hr).1
        rw [heq] at h1
        rcases Nat.lt_or_ge i listed.size with h' | h'
        · simp [h'] at h0 h1; rw [h0] at h1; cases h1
        · simp [Array.getElem?_eq_none h'] at h1
      have hjn : j ≠ n := fun e1 => by
        subst e1
        obtain ⟨e, he, hb, ho⟩ := hn oj hoj
        exact hnot e he hb ho
      have h2 := wpOp_putIf hoj (hfree j oj hoj hji hjun hnot) (fun cs b => hsel i oi cs b hi) (fun cs b => hsel j oj cs b hoj) hQ hy h1
      have hfree' : ∀ k ok, ops[k]? = some ok → k ≠ i → (listed.setIfInBounds j true).getD k true = false →
          (∀ e ∈ ok.after, Region.binds md e = true → e.on ≠ i) → oi.apart ops ok = true := fun k ok hk hki hun hno => by
        refine hfree k ok hk hki ?_ hno
        by_cases hjk : j = k
        · subst hjk; exact hjun
        · rw [getD_set_ne true hjk] at hun; exact hun
      refine wpOp_mono (fun a' w' h3 => ⟨h3.2.1, ih (listed.setIfInBounds j true) a' w' hfree' (ready_mono hr (Ne.symm hji)) h3.1 (h3.2.1 hjn) ?_⟩) h2
      rw [Array.setIfInBounds_comm _ _ hji]
      exact h3.2.2

/-- Does number n wait for number i? -/
def waitsFor (md : Region.Mode) (ops : Array Oper) (n i : Nat) : Bool := ((ops[n]?).map fun o => o.after.any fun e => Region.binds md e && e.on == i).getD false

theorem waitsFor_spec {i : Nat} (h : waitsFor md ops n i = true) : ∀ o, ops[n]? = some o → ∃ e ∈ o.after, Region.binds md e = true ∧ e.on = i := fun o ho => by
  simp only [waitsFor, ho, Option.map_some, Option.getD_some] at h
  obtain ⟨k, hk, h2⟩ := Array.any_eq_true.1 h
  simp only [Bool.and_eq_true, beq_iff_eq] at h2
  exact ⟨_, Array.getElem_mem hk, h2.1, h2.2⟩

/-- Take number i first. -/
theorem wpAnyM_take {i : Nat} {oi : Oper} {v : Value} {fuel : Nat} {listed : Array Bool} {a : Act} {w : World} (hi : ops[i]? = some oi)
    (hs : Region.noSelect ops = true) (hf : Region.free md ops listed i = true) (hr : (Region.ready md ops listed).contains i = true) (hn : waitsFor md ops n i = true)
    (hQ : ∀ c a w, Q (.panic c) (a.put oi.dst v) w → Q (.panic c) a w) (hS : S w) (hy : YieldsIf P ops S oi v a)
    (h : wpAnyM P md ops Q S n fuel (listed.setIfInBounds i true) (a.put oi.dst v) w) : wpAnyM P md ops Q S n (fuel + 1) listed a w :=
  wpAnyM_first hi (Region.noSelect_spec hs) hQ (waitsFor_spec hn) fuel listed a w (Region.free_spec hi hf) (by simpa using hr) hy hS h

/-- Only number i may come up. -/
theorem wpAnyM_one {i : Nat} {o : Oper} {fuel : Nat} {listed : Array Bool} {a : Act} {w : World} (hr : Region.ready md ops listed = [i]) (ho : ops[i]? = some o)
    (h : ∀ K' : Act → World → Prop, Shut (∀ a w, S w → (S w → wpAnyM P md ops Q S n fuel (listed.setIfInBounds i true) a w) → K' a w) → if Region.wanted o (yielded ops a.tmps) = true then Oper.wp P o a w K' Q else K' (a.put o.dst undef) w) :
    wpAnyM P md ops Q S n (fuel + 1) listed a w := by
  refine ⟨fun h0 => (by rw [h0] at hr; cases hr), fun j hj => ?_⟩
  rw [hr] at hj
  simp only [List.mem_singleton] at hj
  subst hj
  exact wpOp_step ho (fun K' hK => h K' (fun a w hS hW => hK a w ⟨fun _ => hS, hW hS⟩))

/-- Number n, the last one. -/
theorem wpAnyM_end {o : Oper} {fuel : Nat} {listed : Array Bool} {a : Act} {w : World} (hr : Region.ready md ops listed = [n]) (ho : ops[n]? = some o) (he : Region.ready md ops (listed.setIfInBounds n true) = [])
    (h : ∀ K' : Act → World → Prop, Shut (∀ a w, Q .normal a w → K' a w) → if Region.wanted o (yielded ops a.tmps) = true then Oper.wp P o a w K' Q else K' (a.put o.dst undef) w) :
    wpAnyM P md ops Q S n (fuel + 1) listed a w := by
  refine ⟨fun h0 => (by rw [h0] at hr; cases hr), fun j hj => ?_⟩
  rw [hr] at hj
  simp only [List.mem_singleton] at hj
  subst hj
  refine wpOp_step ho (fun K' hK => h K' (fun a w hQ => hK a w ⟨fun e => absurd rfl e, ?_⟩))
  cases fuel with
  | zero => exact ⟨he, hQ⟩
  | succ f => exact ⟨fun _ => hQ, by rw [he]; simp⟩

theorem wp_region_last {id : Nat} {a : Act} {w : World} (hm : P.follows .mixedOrders = true) (S : World → Prop) (n : Nat)
    (h : wpAnyM P .any ops Q S n ops.size (Array.replicate ops.size false) a w.drew) : (Code.region id ops true).wp P Q a w :=
  wp_region_any hm (wpAny_of_M _ _ _ _ h)
end
end Go.Proofs.YtmdhjggijlhhgaaGreatDoor

namespace Go.Proofs.YtmdhjggijlhhgaaGreatDoor
set_option linter.unusedSimpArgs false
set_option linter.unusedVariables false
open Go.RowKit

/-- A result's box, written last: the reader stands where it stood, and nothing else that was there has changed. -/
theorem fin_ahead {w w1 w2 : World} {p b : Nat} {ao : Option Addr} {cap : Nat} {L : List Tok} {c f : Int} {R0 r : List Tok} (h0 : Ahead w p ao cap L c f R0) (hA : Ahead w1 p ao cap L c f r) (ho : Only (fun k => k = p ∨ w.heap.size ≤ k) w w1) (ho2 : Only (fun k => k = b) w1 w2) (hb : w.heap.size ≤ b) :
    Ahead w2 p ao cap L c f r ∧ Only (fun k => k = p) w w2 :=
  ⟨h0.box hA (ho2.mono fun k _ (e : k = b) => by omega), only_drop (ho.trans (ho2.mono fun k _ (e : k = b) => .inr (by omega)))⟩
theorem fin_ok {α : Type} (E : El α) {w1 w2 : World} {b N n : Nat} {x : α} (hx : E.ok w1 (fun k => N ≤ k) x) (ho2 : Only (fun k => k = b) w1 w2) (hb : b < N) (hn : n ≤ N) : E.ok w2 (fun k => n ≤ k) x :=
  E.move hx fun k hk hF => ⟨by omega, ho2.block k hk (by omega)⟩
theorem only_wide {w W w1 : World} {p : Nat} (hb : Below w.heap.size w W) (ho : Only (fun k => k = p) W w1) : Only (fun k => k = p ∨ w.heap.size ≤ k) w w1 := (Only.of_below hb _).trans (ho.mono fun k _ e => .inl e)
theorem below2a (w : World) (x y : Obj) : Below w.heap.size w ((w.alloc x).alloc y) := belowt2 (belowA w x) (belowA _ y)
theorem only_three {w1 : World} (b : Nat) (u0 u1 u2 : Value) : Only (fun k => k = b) w1 (((w1.setCell ⟨b, 0, none⟩ u0).setCell ⟨b, 1, none⟩ u1).setCell ⟨b, 2, none⟩ u2) := (((Only.refl (fun k => k = b) w1).setCell (p := ⟨b, 0, none⟩) rfl _).setCell (p := ⟨b, 1, none⟩) rfl _).setCell (p := ⟨b, 2, none⟩) rfl _
theorem box3_cells {V : World} {b : Nat} {a0 a1 a2 : Value} (h : V.heap[b]? = some (.cells #[a0, a1, a2] 55 (0, 0))) : V.cell? ⟨b, 0, none⟩ = some a0 ∧ V.cell? ⟨b, 1, none⟩ = some a1 ∧ V.cell? ⟨b, 2, none⟩ = some a2 ∧ V.frozen? ⟨b, 0, none⟩ = false ∧ V.frozen? ⟨b, 1, none⟩ = false ∧ V.frozen? ⟨b, 2, none⟩ = false := by
  refine ⟨?_, ?_, ?_, ?_, ?_, ?_⟩ <;> simp [World.cell?, World.frozen?, h]
/-- The second of two new blocks, behind a call that moves the reader. -/
theorem second_box {w w1 : World} {p : Nat} {x y : Obj} (hp : p < w.heap.size) (ho : Only (fun k => k = p) ((w.alloc x).alloc y) w1) : w1.heap[w.heap.size + 1]? = some y := by
  have e1 : (w.alloc x).heap.size = w.heap.size + 1 := by simp
  rw [ho.block _ (by simp) (by omega), ← e1]
  exact heap_alloc_new (w.alloc x) _
theorem first_box {w w1 : World} {p : Nat} {x y : Obj} (hp : p < w.heap.size) (ho : Only (fun k => k = p) ((w.alloc x).alloc y) w1) : w1.heap[w.heap.size]? = some x := by
  rw [ho.block _ (by simp; omega) (by omega), (belowA (w.alloc x) y).block _ (by simp)]
  exact heap_alloc_new w _

theorem atomRes (W : World) (b : Nat) (u0 u1 u2 : Value) (tmps : Array Value) (ht : tmps[4]? = some (.pointer (some ⟨b, 0, none⟩))) (hb : W.heap[b]? = some (.cells #[u0, u1, u2] 55 (0, 0))) :
    (results Tryz.f65 tmps).run Tryz.prog W = .ok (.agg #[u0, u1, u2]) W := by
  obtain ⟨c0, c1, c2, -⟩ := box3_cells hb
  simp [results, Tryz.results65, go_sem, ht, c0, c1, c2]

theorem atmPost_bad {w w' : World} {p : Nat} {ao : Option Addr} {cap : Nat} {L : List Tok} {c f ec eo : Int} {e : Ending} (h : AtmPost w p ao cap L c f (.bad ec eo) e w') : e = PEnd ec eo ∧ Only (fun k => k = p) w w' := h
theorem atmPost_ok {w w' : World} {p : Nat} {ao : Option Addr} {cap : Nat} {L : List Tok} {c f : Int} {x : PAtom} {r : List Tok} {e : Ending} (h : AtmPost w p ao cap L c f (.ok x r) e w') : ∃ a : Atx, e = .returned a.val ∧ a.pur = x ∧ elAtx.ok w' (fun b => w.heap.size ≤ b) a ∧ Ahead w' p ao cap L c f r ∧ Only (fun k => k = p) w w' := h

set_option maxHeartbeats 1000000 in
set_option maxRecDepth 100000 in
theorem atom_any {w : World} {p : Nat} {ao : Option Addr} {cap : Nat} {L : List Tok} {c f : Int} {R : List Tok} (name : Tok) (h : Ahead w p ao cap L c f R) (hname : name.good) :
    Calls Tryz.prog 65 #[.pointer (some ⟨p, 0, none⟩), tokV name] w (AtmPost w p ao cap L c f (atomP c f termKs name R)) := by
  have HC := hide (fun (W : World) (hb : Below w.heap.size w W) => atomTerm name (h.kept hb) hname)
  have H0 := hide h
  have hp := h.lt
  clear h hname
  unfold tokV at *
  obtain ⟨res, hres⟩ : ∃ res, atomP c f termKs name R = res := ⟨_, rfl⟩
  rw [hres] at HC ⊢
  clear hres
  cases res with
  | bad ec eo =>
    unfold AtmPost
    go_enter Tryz.func65, Tryz.ntmps65
    go_wp2_with (go_at_call 52; refine (HC.out _ (below2a _ _ _)).mono ?_; intro e w1 hq; obtain ⟨rfl, ho⟩ := atmPost_bad hq; clear hq)
    exact ⟨rfl, rfl, only_drop (only_wide (below2a _ _ _) ho)⟩
  | ok x r =>
    unfold AtmPost
    go_enter Tryz.func65, Tryz.ntmps65
    go_wp2_with (go_at_call 52; refine (HC.out _ (below2a _ _ _)).mono ?_; intro e w1 hq; obtain ⟨a, rfl, hpur, hok, ha, ho⟩ := atmPost_ok hq; clear hq; have HPu := hide hpur; have HOk := hide hok; have HA := hide ha; have HO := hide ho; have HBx := hide (second_box hp ho); clear hpur hok ha ho; unfold Atx.val; obtain ⟨q0, q1, q2, q3, q4, q5⟩ := box3_cells HBx.out; obtain ⟨va, vc, hv, -⟩ := HOk.out.2.2.shape)
    obtain ⟨z1, z2⟩ := fin_ahead H0.out HA.out (only_wide (below2a _ _ _) HO.out) (only_three (w.heap.size + 1) (.string a.p) a.v (.int .i64 a.off)) (by omega)
    have z3 := fin_ok elAtx (n := w.heap.size) HOk.out (only_three (w.heap.size + 1) (.string a.p) a.v (.int .i64 a.off)) (by simp) (by simp; omega)
    rw [hv] at z1 z2 z3
    exact bodyPost_ret (atomRes _ (w.heap.size + 1) _ _ _ _ rfl (box3_put HBx.out _ _ _)) rfl ⟨a, by unfold Atx.val; rw [hv], HPu.out, z3, z1, z2⟩
end Go.Proofs.YtmdhjggijlhhgaaGreatDoor

namespace Go.Proofs.YtmdhjggijlhhgaaGreatDoor
set_option linter.unusedSimpArgs false
set_option linter.unusedVariables false
open Go.RowKit

/-- The answer's box, the atom's box, the terms so far. -/
structure RAt (w wr : World) (nt : ByteArray) (off : Int) (v : Value) (acc : List Trm) : Prop where
  hb : Below w.heap.size w wr
  b0 : wr.heap[w.heap.size]? = some (.cells #[.string ⟨#[]⟩, .slice none 0 0, .int .i64 0] 55 (0, 0))
  b1 : wr.heap[w.heap.size + 1]? = some (.cells #[.string nt, v, .int .i64 off] 55 (0, 0))
  gr : Grow elTrm 58 (w.heap.size + 2) wr v acc
section
variable {w wr wr' : World} {nt : ByteArray} {off : Int} {v v' : Value} {acc acc' : List Trm}
theorem RAt.hi (h : RAt w wr nt off v acc) : w.heap.size + 2 ≤ wr.heap.size := (Array.getElem?_eq_some_iff.1 h.b1).1
theorem RAt.kept (h : RAt w wr nt off v acc) (hb : Below wr.heap.size wr wr') : RAt w wr' nt off v acc :=
  ⟨belowt2 h.hb hb, by rw [hb.block _ (Array.getElem?_eq_some_iff.1 h.b0).1]; exact h.b0, by rw [hb.block _ (Array.getElem?_eq_some_iff.1 h.b1).1]; exact h.b1, h.gr.kept hb⟩
theorem RAt.drew (h : RAt w wr nt off v acc) : RAt w wr.drew nt off v acc := h.kept (Below.refl _ _).drew
theorem RAt.far (h : RAt w wr nt off v acc) (hg : wr.grownBy wr' v.ownBlock) : wr'.heap[w.heap.size + 1]? = some (.cells #[.string nt, v, .int .i64 off] 55 (0, 0)) := by
  have ho : Only (fun k => w.heap.size + 2 ≤ k) wr wr' := (Only.refl _ wr).grown hg (fun k hk _ => own_new h.gr.1 k hk)
  rw [ho.block _ (Array.getElem?_eq_some_iff.1 h.b1).1 (by omega)]; exact h.b1
theorem RAt.push (h : RAt w wr nt off v acc) (hg : wr.grownBy wr' v.ownBlock) (hG : Grow elTrm 58 (w.heap.size + 2) wr' v' acc') : RAt w (wr'.setCell ⟨w.heap.size + 1, 1, none⟩ v') nt off v' acc' := by
  have hh := h.hi
  have ho : Only (fun k => w.heap.size + 2 ≤ k) wr wr' := (Only.refl _ wr).grown hg (fun k hk _ => own_new h.gr.1 k hk)
  have ho2 : Only (fun k => k = w.heap.size + 1) wr' (wr'.setCell ⟨w.heap.size + 1, 1, none⟩ v') := (Only.refl (fun k => k = w.heap.size + 1) wr').setCell (p := ⟨w.heap.size + 1, 1, none⟩) rfl _
  have hs := ho.size
  have hs2 := h.hb.size
  refine ⟨(h.hb.trans (ho.below h.hb.size (fun k hk e => by omega))).trans (ho2.below (by omega) (fun k hk e => by omega)), ?_, ?_, hG.above fun b hb hlt => ho2.block b hlt (by omega)⟩
  · have e : wr'.heap[w.heap.size]? = some (.cells #[.string ⟨#[]⟩, .slice none 0 0, .int .i64 0] 55 (0, 0)) := by rw [ho.block _ (Array.getElem?_eq_some_iff.1 h.b0).1 (by omega)]; exact h.b0
    rw [ho2.block _ (Array.getElem?_eq_some_iff.1 e).1 (by omega)]; exact e
  · have := h.far hg
    simp [World.setCell, Array.getElem?_modify, this]
theorem RAt.fin (h : RAt w wr nt off v acc) (hl : acc.length < 1073741824) (hn : nt.size ≤ 140737488351232) (hof : I64 off) :
    (((wr.setCell ⟨w.heap.size, 0, none⟩ (.string nt)).setCell ⟨w.heap.size, 1, none⟩ v).setCell ⟨w.heap.size, 2, none⟩ (.int .i64 off)).heap[w.heap.size]? = some (.cells #[.string nt, v, .int .i64 off] 55 (0, 0)) ∧ Below w.heap.size w (((wr.setCell ⟨w.heap.size, 0, none⟩ (.string nt)).setCell ⟨w.heap.size, 1, none⟩ v).setCell ⟨w.heap.size, 2, none⟩ (.int .i64 off)) ∧ elAtx.ok (((wr.setCell ⟨w.heap.size, 0, none⟩ (.string nt)).setCell ⟨w.heap.size, 1, none⟩ v).setCell ⟨w.heap.size, 2, none⟩ (.int .i64 off)) (fun b => w.heap.size ≤ b) ⟨nt, v, off, acc⟩ := by
  have ho := only_three (w1 := wr) w.heap.size (.string nt) v (.int .i64 off)
  refine ⟨by simp [World.setCell, Array.getElem?_modify, h.b0], h.hb.trans (ho.below h.hb.size (fun k hk e => by omega)), hn, hof, (h.gr.new hl).move fun b hb hF => ⟨by omega, ho.block b hb (by omega)⟩⟩
theorem RAt.start (w : World) (nt : ByteArray) (off : Int) : RAt w ((w.alloc (.cells #[.string ⟨#[]⟩, .slice none 0 0, .int .i64 0] 55)).alloc (.cells #[.string nt, .slice none 0 0, .int .i64 off] 55)) nt off (.slice none 0 0) [] := by
  refine ⟨below2a w _ _, ?_, ?_, Grow.nil _ _ _ _⟩
  · rw [(belowA (w.alloc _) _).block _ (by simp)]; exact heap_alloc_new w _
  · have := heap_alloc_new (w.alloc (.cells #[.string ⟨#[]⟩, .slice none 0 0, .int .i64 0] 55)) (.cells #[.string nt, .slice none 0 0, .int .i64 off] 55)
    simpa using this
end
theorem ratRes (W : World) (b : Nat) (u0 u1 u2 : Value) (tmps : Array Value) (ht : tmps[2]? = some (.pointer (some ⟨b, 0, none⟩))) (hb : W.heap[b]? = some (.cells #[u0, u1, u2] 55 (0, 0))) :
    (results Tryz.f22 tmps).run Tryz.prog W = .ok (.agg #[u0, u1, u2]) W := by
  have c0 : W.cell? ⟨b, 0, none⟩ = some u0 := by simp [World.cell?, hb]
  have c1 : W.cell? ⟨b, 1, none⟩ = some u1 := by simp [World.cell?, hb]
  have c2 : W.cell? ⟨b, 2, none⟩ = some u2 := by simp [World.cell?, hb]
  simp [results, Tryz.results22, go_sem, ht, c0, c1, c2]
theorem tok6_cells {V : World} {b : Nat} {t : Tok} (h : V.heap[b]? = some (.cells #[.int .i64 t.k, .string t.t, .int .i64 t.n, .int .i64 t.op, .int .i64 (t.off : Int), .int .i64 (t.en : Int)] 85 (0, 0))) : V.cell? ⟨b, 0, none⟩ = some (.int .i64 t.k) ∧ V.cell? ⟨b, 1, none⟩ = some (.string t.t) ∧ V.cell? ⟨b, 2, none⟩ = some (.int .i64 t.n) ∧ V.cell? ⟨b, 3, none⟩ = some (.int .i64 t.op) ∧ V.cell? ⟨b, 4, none⟩ = some (.int .i64 (t.off : Int)) ∧ V.cell? ⟨b, 5, none⟩ = some (.int .i64 (t.en : Int)) := by
  refine ⟨?_, ?_, ?_, ?_, ?_, ?_⟩ <;> simp [World.cell?, h]
theorem szTok (V : World) : (sizeOf (Tryz.prog.elem 50)).run Tryz.prog V = .ok 6 V := by kernel_rfl
theorem elTokS : Tryz.prog.underlying 50 = some (.slice (Tryz.prog.elem 50)) := by kernel_rfl
theorem termP_ok2 {t : Tok} (h : t.good) : (termP t).ok := termP_ok h
theorem filter_take_snoc {r : List Tok} {j : Nat} {t : Tok} (h : r[j]? = some t) : ((r.take (j + 1)).filter fun t => isTermB t.k).map termP = ((r.take j).filter fun t => isTermB t.k).map termP ++ (if isTermB t.k then [termP t] else []) := by
  rw [List.take_add_one, h, List.filter_append, List.map_append]
  simp only [Option.toList]
  cases hb : isTermB t.k <;> simp [List.filter_cons, hb]

theorem kept_cell' {w w' : World} {a : Addr} {v : Value} (hb : Below w.heap.size w w') (h : w.cell? a = some v) : w'.cell? a = some v := kept_cell hb h

set_option maxRecDepth 100000 in
set_option maxHeartbeats 4000000 in
theorem ratom_any {w : World} {v : Value} {n : Tok} {r : List Tok} (h : Has elTok w v (n :: r)) (hL : (n :: r).length ≤ 100000) :
    Calls Tryz.prog 22 #[v] w fun e w' => ∃ a : Atx, e = .returned a.val ∧ a.pur = atomR (n :: r) ∧ elAtx.ok w' (fun b => w.heap.size ≤ b) a ∧ Below w.heap.size w w' := by
  obtain ⟨la, lc, rfl, hcap, -⟩ := h.shape
  obtain ⟨b2, o2, rfl, -, -, hr2⟩ := h.row (by simp)
  have y1 := hr2 0 n rfl 1 _ rfl
  have y4 := hr2 0 n rfl 4 _ rfl
  simp only [elTok, Nat.add_zero, Nat.zero_mul] at y1 y4
  have HG0 := hide (h.ok (x := n) (by simp))
  have htl := Lst.from h (i := 1) (by simp)
  rw [List.drop_succ_cons, List.drop_zero] at htl
  obtain ⟨q, hq⟩ : ∃ q, q = r.length := ⟨_, rfl⟩
  obtain ⟨ta, hta⟩ : ∃ ta, tailA (some ⟨b2, o2, none⟩) 1 lc 6 = ta := ⟨_, rfl⟩
  have hsl : ∀ V : World, (Instr.slice 50 (.slice (some ⟨b2, o2, none⟩) (q + 1) lc) (some (.int .i64 1)) none none).run Tryz.prog V = .ok (.slice ta q (lc - 1)) V := fun V => by
    have := run_from elTokS szTok (some ⟨b2, o2, none⟩) (q + 1) lc 1 (by omega) V
    rw [hta] at this
    exact this
  have e6 : elTok.size = 6 := rfl
  simp only [List.length_cons] at htl hcap hL ⊢
  rw [e6, hta, ← hq, Nat.add_sub_cancel] at htl
  rw [← hq] at hL hcap ⊢
  have HT := hide htl
  have HN := hide hq
  clear htl hq hta h hr2 e6
  generalize lc - 1 = tc at *
  go_enter Tryz.func22, Tryz.ntmps22
  go_upto_region 1 with fail
  have x1 := kept_cell (belowA w (.cells #[.string ⟨#[]⟩, .slice none 0 0, .int .i64 0] 55)) y1
  have x4 := kept_cell (belowA w (.cells #[.string ⟨#[]⟩, .slice none 0 0, .int .i64 0] 55)) y4
  have HS : Hid (∀ V : World, Below w.heap.size w V → V.cell? ⟨b2, o2 + 1, none⟩ = some (.string n.t) ∧ V.cell? ⟨b2, o2 + 4, none⟩ = some (.int .i64 (n.off : Int))) := fun V hV => ⟨kept_cell hV y1, kept_cell hV y4⟩
  clear y1 y4
  go_region_held3 (fun V => V.cell? ⟨b2, o2 + 1, none⟩ = some (.string n.t) ∧ V.cell? ⟨b2, o2 + 4, none⟩ = some (.int .i64 (n.off : Int)))
    (first
      | exact HS.out _ (belowA _ _)
      | exact HS.out _ (belowA _ _).drew
      | exact HS.out _ (below2a _ _ _)
      | exact HS.out _ (below2a _ _ _).drew)
    (fail)
  obtain ⟨W0, hW0⟩ : ∃ W0, W0 = ((w.alloc (.cells #[.string ⟨#[]⟩, .slice none 0 0, .int .i64 0] 55)).alloc (.cells #[.string n.t, .slice none 0 0, .int .i64 (n.off : Int)] 55)).drew := ⟨_, rfl⟩
  have HA0 : Hid (RAt w W0 n.t (n.off : Int) (.slice none 0 0) []) := by rw [hW0]; exact (RAt.start w n.t (n.off : Int)).drew
  rw [← hW0]
  clear hW0 HS x1 x4
  go_wp2
  go_loopw [18] (fun i wl => ∃ (j : Nat) (acc : List Trm) (va : Option Addr) (vc : Nat), j ≤ q ∧ i = .int .i64 j ∧ acc.length ≤ j ∧ Hid (acc = ((r.take j).filter fun t => isTermB t.k).map termP) ∧ Hid (RAt w wl n.t (n.off : Int) (.slice va acc.length vc) acc)) (fun i _ => q - (intOf i).toNat)
  case atStart => exact ⟨0, [], none, 0, by omega, rfl, by simp, rfl, HA0⟩
  case round =>
    clear HA0
    obtain ⟨j, acc, va, vc, hj, rfl, hal, HAc, HA⟩ := hrel
    by_cases hlt : j < q
    · have hi : (j : Int) < (q : Int) := by omega
      have hi0 : (0 : Int) ≤ (j : Int) := by omega
      obtain ⟨t, ht⟩ : ∃ t, r[j]? = some t := ⟨_, List.getElem?_eq_getElem (by rw [← HN.out]; exact hlt)⟩
      have HOk := hide (HT.out.ok (List.mem_of_getElem? ht))
      obtain ⟨b3, o3, rfl, -, -, hr3⟩ := HT.out.row (by rw [← HN.out]; omega)
      have y0 := kept_cell' HA.out.hb (hr3 j _ ht 0 _ rfl)
      have y1 := kept_cell' HA.out.hb (hr3 j _ ht 1 _ rfl)
      have y2 := kept_cell' HA.out.hb (hr3 j _ ht 2 _ rfl)
      have y3 := kept_cell' HA.out.hb (hr3 j _ ht 3 _ rfl)
      have y4 := kept_cell' HA.out.hb (hr3 j _ ht 4 _ rfl)
      have y5 := kept_cell' HA.out.hb (hr3 j _ ht 5 _ rfl)
      simp only [elTok, Nat.add_zero] at y0 y1 y2 y3 y4 y5
      have HF := hide (filter_take_snoc ht)
      have HIT := hide (fun W => isTerm_any t.k W)
      clear hr3 ht
      cases hb : isTermB t.k with
      | false =>
        rw [hb] at HF HIT
        clear hb
        go_wp2_with (go_at_call 41; refine (HIT.out _).mono ?_; rintro e w' ⟨rfl, hw'⟩; have hw' := hw'.symm; subst hw')
        go_roundw
        case rel => exact ⟨j + 1, acc, va, vc, by omega, by go_num, by omega, by show _ = _; rw [HF.out, HAc.out]; simp, HA.out.kept (belowA wr _)⟩
        case measure => simp [intOf]; omega
      | true =>
        rw [hb] at HF HIT
        clear hb
        have HTm := hide (fun W => rterm_any t HOk.out.2 W)
        go_upto_region 6 with (go_at_call 41; refine (HIT.out _).mono ?_; rintro e w' ⟨rfl, hw'⟩; have hw' := hw'.symm; subst hw')
        obtain ⟨Z, hZ⟩ : ∃ Z, Z = wr.alloc (.cells #[.int .i64 t.k, .string t.t, .int .i64 t.n, .int .i64 t.op, .int .i64 (t.off : Int), .int .i64 (t.en : Int)] 85) := ⟨_, rfl⟩
        have hTk : Z.heap[wr.heap.size]? = some (.cells #[.int .i64 t.k, .string t.t, .int .i64 t.n, .int .i64 t.op, .int .i64 (t.off : Int), .int .i64 (t.en : Int)] 85 (0, 0)) := by rw [hZ]; exact heap_alloc_new wr _
        have HZ : Hid (RAt w Z n.t (n.off : Int) (.slice va acc.length vc) acc) := by rw [hZ]; exact HA.out.kept (belowA wr _)
        have hbt : w.heap.size + 2 ≤ wr.heap.size := HA.out.hi
        have hob : ∀ k, (Value.slice va acc.length vc).ownBlock = some k → k < wr.heap.size := own_lt6 HA.out.gr.1
        rw [← hZ]
        clear hZ HA y0 y1 y2 y3 y4 y5 HIT
        generalize wr.heap.size = bt at *
        have HSof : Hid (∀ V : World, V.heap[w.heap.size + 1]? = some (.cells #[.string n.t, .slice va acc.length vc, .int .i64 (n.off : Int)] 55 (0, 0)) → V.heap[bt]? = some (.cells #[.int .i64 t.k, .string t.t, .int .i64 t.n, .int .i64 t.op, .int .i64 (t.off : Int), .int .i64 (t.en : Int)] 85 (0, 0)) → V.cell? ⟨w.heap.size + 1, 1, none⟩ = some (.slice va acc.length vc) ∧ V.cell? ⟨bt, 0, none⟩ = some (.int .i64 t.k) ∧ V.cell? ⟨bt, 1, none⟩ = some (.string t.t) ∧ V.cell? ⟨bt, 2, none⟩ = some (.int .i64 t.n) ∧ V.cell? ⟨bt, 3, none⟩ = some (.int .i64 t.op) ∧ V.cell? ⟨bt, 4, none⟩ = some (.int .i64 (t.off : Int)) ∧ V.cell? ⟨bt, 5, none⟩ = some (.int .i64 (t.en : Int))) := fun V h1 h2 => ⟨by simp [World.cell?, h1], tok6_cells h2⟩
        refine wp_region_last (by kernel_rfl) (fun V => V.cell? ⟨w.heap.size + 1, 1, none⟩ = some (.slice va acc.length vc) ∧ V.cell? ⟨bt, 0, none⟩ = some (.int .i64 t.k) ∧ V.cell? ⟨bt, 1, none⟩ = some (.string t.t) ∧ V.cell? ⟨bt, 2, none⟩ = some (.int .i64 t.n) ∧ V.cell? ⟨bt, 3, none⟩ = some (.int .i64 t.op) ∧ V.cell? ⟨bt, 4, none⟩ = some (.int .i64 (t.off : Int)) ∧ V.cell? ⟨bt, 5, none⟩ = some (.int .i64 (t.en : Int))) 7 ?_
        have HS1 := HSof.out Z.drew HZ.out.drew.b1 hTk
        refine wpAnyM_take (i := 0) (v := ?_) rfl (by kernel_rfl) (by kernel_rfl) (by kernel_rfl) (by kernel_rfl) (fun _ _ _ h => h) HS1 (Or.inl ⟨by rfl, ?_⟩) ?_
        rotate_left
        · (intro w hSw; (try dsimp only at hSw); go_simp; try with_reducible rfl)
        simp only [Act.put, List.setIfInBounds_toArray, List.set_cons_zero, List.set_cons_succ]
        refine wpAnyM_take (i := 1) (v := ?_) rfl (by kernel_rfl) (by kernel_rfl) (by kernel_rfl) (by kernel_rfl) (fun _ _ _ h => h) HS1 (Or.inl ⟨by rfl, ?_⟩) ?_
        rotate_left
        · (intro w hSw; (try dsimp only at hSw); go_simp; try with_reducible rfl)
        simp only [Act.put, List.setIfInBounds_toArray, List.set_cons_zero, List.set_cons_succ]
        refine wpAnyM_take (i := 2) (v := ?_) rfl (by kernel_rfl) (by kernel_rfl) (by kernel_rfl) (by kernel_rfl) (fun _ _ _ h => h) HS1 (Or.inl ⟨by rfl, ?_⟩) ?_
        rotate_left
        · (intro w hSw; (try dsimp only at hSw); go_simp; try with_reducible rfl)
        simp only [Act.put, List.setIfInBounds_toArray, List.set_cons_zero, List.set_cons_succ]
        refine wpAnyM_one (i := 3) (by kernel_rfl) rfl (fun K hK => ?_)
        go_simp
        refine (HTm.out _).mono ?_
        rintro e w3 ⟨rfl, hb3⟩
        have HZ3 := hide (HZ.out.drew.kept hb3)
        have hTk3 : w3.heap[bt]? = some (.cells #[.int .i64 t.k, .string t.t, .int .i64 t.n, .int .i64 t.op, .int .i64 (t.off : Int), .int .i64 (t.en : Int)] 85 (0, 0)) := by rw [hb3.block bt (Array.getElem?_eq_some_iff.1 hTk).1]; exact hTk
        have hlt3 := (Array.getElem?_eq_some_iff.1 hTk3).1
        have HZ4 := hide (HZ3.out.kept (belowA w3 (.cells #[.int .i64 (termP t).k, .int .i64 (termP t).n, .string (termP t).s, .int .i64 (termP t).off] 58)))
        have hTk4 : (w3.alloc (.cells #[.int .i64 (termP t).k, .int .i64 (termP t).n, .string (termP t).s, .int .i64 (termP t).off] 58)).heap[bt]? = some (.cells #[.int .i64 t.k, .string t.t, .int .i64 t.n, .int .i64 t.op, .int .i64 (t.off : Int), .int .i64 (t.en : Int)] 85 (0, 0)) := by rw [(belowA w3 (.cells #[.int .i64 (termP t).k, .int .i64 (termP t).n, .string (termP t).s, .int .i64 (termP t).off] 58)).block _ hlt3]; exact hTk3
        have HS3 := HSof.out w3 HZ3.out.b1 hTk3
        unfold Trm.val
        refine hK.out _ _ HS3 (fun _ => ?_)
        clear hK K HS1
        try simp only [Act.put, List.setIfInBounds_toArray, List.set_cons_zero, List.set_cons_succ]
        refine wpAnyM_one (i := 4) (by kernel_rfl) rfl (fun K hK => ?_)
        go_simp
        have HS4 := HSof.out _ HZ4.out.b1 hTk4
        refine hK.out _ _ HS4 (fun _ => ?_)
        clear hK K HS3
        refine wpAnyM_one (i := 5) (by kernel_rfl) rfl (fun K hK => ?_)
        obtain ⟨i0, hi0', hz0, hz1, hz2⟩ := info_parts Tryz.infoTerm
        refine step_push (w0 := w3.alloc (.cells #[.int .i64 (termP t).k, .int .i64 (termP t).n, .string (termP t).s, .int .i64 (termP t).off] 58)) elTrm (by rfl) _ _ _ (by rfl) (w.heap.size + 2) 58 i0 _ 40 Tryz.underlying53 hi0' hz0 hz1 hz2 rfl (by decide) (.slice va acc.length vc) acc acc.length rfl (by rfl) HZ4.out.gr (termP t) w3.heap.size 1 (by rfl) (fun j u hu => new_cells (cs := #[.int .i64 (termP t).k, .int .i64 (termP t).n, .string (termP t).s, .int .i64 (termP t).off]) j u hu) (termP_ok2 HOk.out.1) (by omega) (Below.refl _ _) HZ4.out.hi ?_
        intro g cap' w5 HG5 HB5 HGr
        clear HB5 hi0' hz0 hz1 hz2 i0
        have hb5 := HZ4.out.far HGr.out
        have hTk5 : w5.heap[bt]? = some (.cells #[.int .i64 t.k, .string t.t, .int .i64 t.n, .int .i64 t.op, .int .i64 (t.off : Int), .int .i64 (t.en : Int)] 85 (0, 0)) := by rw [HGr.out.block bt (Array.getElem?_eq_some_iff.1 hTk4).1 (fun e => by have := hob _ e.symm; omega)]; exact hTk4
        have HS5 := HSof.out w5 hb5 hTk5
        have HZ5 := hide (HZ4.out.push HGr.out HG5.out)
        refine hK.out _ _ HS5 (fun _ => ?_)
        clear hK K HS4 HSof HZ4 HZ3 HGr HG5
        have c5 : w5.cell? ⟨w.heap.size + 1, 1, none⟩ = some (.slice va acc.length vc) := by simp [World.cell?, hb5]
        have z5 : w5.frozen? ⟨w.heap.size + 1, 1, none⟩ = false := by simp [World.frozen?, hb5]
        clear hb5 hTk5 hTk4 hTk3 hTk hlt3
        try simp only [Act.put, List.setIfInBounds_toArray, List.set_cons_zero, List.set_cons_succ]
        refine wpAnyM_take (i := 6) (v := ?_) rfl (by kernel_rfl) (by kernel_rfl) (by kernel_rfl) (by kernel_rfl) (fun _ _ _ h => h) HS5 (Or.inl ⟨by rfl, ?_⟩) ?_
        rotate_left
        · (intro w hSw; (try dsimp only at hSw); go_simp; try with_reducible rfl)
        simp only [Act.put, List.setIfInBounds_toArray, List.set_cons_zero, List.set_cons_succ]
        clear HS5
        refine wpAnyM_end (by kernel_rfl) rfl (by kernel_rfl) (fun K hK => ?_)
        go_simp
        refine hK.out _ _ ?_
        clear hK K
        go_wp2
        go_roundw
        case rel => exact ⟨j + 1, acc ++ [termP t], some ⟨g, 0, none⟩, cap', by omega, by go_num, by simp; omega, by show _ = _; rw [HF.out, HAc.out]; simp, by simpa using HZ5⟩
        case measure => simp [intOf]; omega
    · obtain rfl : j = q := by omega
      have hi : ¬ (j : Int) < (j : Int) := by omega
      have hb0 := HA.out.b0
      have hb1 := HA.out.b1
      obtain ⟨k0, k1, k2, f0, f1, f2⟩ := box3_cells HA.out.b0
      obtain ⟨m0, m1, m2, -, -, -⟩ := box3_cells HA.out.b1
      clear hb0 hb1
      have hfin := HA.out.fin (by omega) (good_parts HG0.out.1).1 (good_parts HG0.out.1).2
      have HFin := hide hfin
      clear hfin
      go_wp2
      refine bodyPost_ret (ratRes _ w.heap.size (.string n.t) (.slice va acc.length vc) (.int .i64 (n.off : Int)) _ rfl HFin.out.1) rfl ⟨⟨n.t, .slice va acc.length vc, (n.off : Int), acc⟩, rfl, ?_, HFin.out.2.2, HFin.out.2.1⟩
      show (⟨n.t, acc, (n.off : Int)⟩ : PAtom) = ⟨n.t, _, (n.off : Int)⟩
      rw [HAc.out, List.take_of_length_le (by rw [← HN.out]; omega)]
end Go.Proofs.YtmdhjggijlhhgaaGreatDoor

namespace Go.Proofs.YtmdhjggijlhhgaaGreatDoor
set_option linter.unusedSimpArgs false
set_option linter.unusedVariables false
open Go.RowKit

def Lix.pur (x : Lix) : PLit := ⟨x.k, x.a.pur, x.op, x.l, x.r, x.off⟩
def Lix.val (c : Lix) : Value := .agg #[.int .i64 c.k, .string c.a.p, c.a.v, .int .i64 c.a.off, .int .i64 c.op, .int .i64 c.l.k, .int .i64 c.l.n, .string c.l.s, .int .i64 c.l.off, .int .i64 c.r.k, .int .i64 c.r.n, .string c.r.s, .int .i64 c.r.off, .int .i64 c.off]
def LitPost (w : World) (p : Nat) (ao : Option Addr) (cap : Nat) (L : List Tok) (c f : Int) (res : PR PLit) (e : Ending) (w' : World) : Prop :=
  match res with
  | .bad ec eo => e = PEnd ec eo ∧ Only (fun k => k = p) w w'
  | .ok x r => ∃ a : Lix, e = .returned a.val ∧ a.pur = x ∧ elLix.ok w' (fun b => w.heap.size ≤ b) a ∧ Ahead w' p ao cap L c f r ∧ Only (fun k => k = p) w w'
theorem litPost_bad {w w' : World} {p : Nat} {ao : Option Addr} {cap : Nat} {L : List Tok} {c f ec eo : Int} {e : Ending} (h : LitPost w p ao cap L c f (.bad ec eo) e w') : e = PEnd ec eo ∧ Only (fun k => k = p) w w' := h
theorem litPost_ok {w w' : World} {p : Nat} {ao : Option Addr} {cap : Nat} {L : List Tok} {c f : Int} {x : PLit} {r : List Tok} {e : Ending} (h : LitPost w p ao cap L c f (.ok x r) e w') : ∃ a : Lix, e = .returned a.val ∧ a.pur = x ∧ elLix.ok w' (fun b => w.heap.size ≤ b) a ∧ Ahead w' p ao cap L c f r ∧ Only (fun k => k = p) w w' := h

theorem boxL_cells {V : World} {b : Nat} {u0 u1 u2 u3 u4 u5 u6 u7 u8 u9 u10 u11 u12 u13 : Value} (h : V.heap[b]? = some (.cells #[u0, u1, u2, u3, u4, u5, u6, u7, u8, u9, u10, u11, u12, u13] 72 (0, 0))) : (V.cell? ⟨b, 0, none⟩ = some u0 ∧ V.cell? ⟨b, 1, none⟩ = some u1 ∧ V.cell? ⟨b, 2, none⟩ = some u2 ∧ V.cell? ⟨b, 3, none⟩ = some u3 ∧ V.cell? ⟨b, 4, none⟩ = some u4 ∧ V.cell? ⟨b, 5, none⟩ = some u5 ∧ V.cell? ⟨b, 6, none⟩ = some u6 ∧ V.cell? ⟨b, 7, none⟩ = some u7 ∧ V.cell? ⟨b, 8, none⟩ = some u8 ∧ V.cell? ⟨b, 9, none⟩ = some u9 ∧ V.cell? ⟨b, 10, none⟩ = some u10 ∧ V.cell? ⟨b, 11, none⟩ = some u11 ∧ V.cell? ⟨b, 12, none⟩ = some u12 ∧ V.cell? ⟨b, 13, none⟩ = some u13) ∧ (V.frozen? ⟨b, 0, none⟩ = false ∧ V.frozen? ⟨b, 1, none⟩ = false ∧ V.frozen? ⟨b, 2, none⟩ = false ∧ V.frozen? ⟨b, 3, none⟩ = false ∧ V.frozen? ⟨b, 4, none⟩ = false ∧ V.frozen? ⟨b, 5, none⟩ = false ∧ V.frozen? ⟨b, 6, none⟩ = false ∧ V.frozen? ⟨b, 7, none⟩ = false ∧ V.frozen? ⟨b, 8, none⟩ = false ∧ V.frozen? ⟨b, 9, none⟩ = false ∧ V.frozen? ⟨b, 10, none⟩ = false ∧ V.frozen? ⟨b, 11, none⟩ = false ∧ V.frozen? ⟨b, 12, none⟩ = false ∧ V.frozen? ⟨b, 13, none⟩ = false) := by
  refine ⟨⟨?_, ?_, ?_, ?_, ?_, ?_, ?_, ?_, ?_, ?_, ?_, ?_, ?_, ?_⟩, ⟨?_, ?_, ?_, ?_, ?_, ?_, ?_, ?_, ?_, ?_, ?_, ?_, ?_, ?_⟩⟩ <;> simp [World.cell?, World.frozen?, h]
theorem boxL_put {V : World} {b : Nat} {u0 u1 u2 u3 u4 u5 u6 u7 u8 u9 u10 u11 u12 u13 : Value} (h : V.heap[b]? = some (.cells #[u0, u1, u2, u3, u4, u5, u6, u7, u8, u9, u10, u11, u12, u13] 72 (0, 0))) (x0 x1 x2 x3 x4 x5 x6 x7 x8 x9 x10 x11 x12 x13 : Value) :
    ((((((((((((((V.setCell ⟨b, 0, none⟩ x0).setCell ⟨b, 1, none⟩ x1).setCell ⟨b, 2, none⟩ x2).setCell ⟨b, 3, none⟩ x3).setCell ⟨b, 4, none⟩ x4).setCell ⟨b, 5, none⟩ x5).setCell ⟨b, 6, none⟩ x6).setCell ⟨b, 7, none⟩ x7).setCell ⟨b, 8, none⟩ x8).setCell ⟨b, 9, none⟩ x9).setCell ⟨b, 10, none⟩ x10).setCell ⟨b, 11, none⟩ x11).setCell ⟨b, 12, none⟩ x12).setCell ⟨b, 13, none⟩ x13).heap[b]? = some (.cells #[x0, x1, x2, x3, x4, x5, x6, x7, x8, x9, x10, x11, x12, x13] 72 (0, 0)) := by
  simp [World.setCell, Array.getElem?_modify, h]
theorem boxL_only (V : World) (b : Nat) (x0 x1 x2 x3 x4 x5 x6 x7 x8 x9 x10 x11 x12 x13 : Value) : Only (fun k => k = b) V ((((((((((((((V.setCell ⟨b, 0, none⟩ x0).setCell ⟨b, 1, none⟩ x1).setCell ⟨b, 2, none⟩ x2).setCell ⟨b, 3, none⟩ x3).setCell ⟨b, 4, none⟩ x4).setCell ⟨b, 5, none⟩ x5).setCell ⟨b, 6, none⟩ x6).setCell ⟨b, 7, none⟩ x7).setCell ⟨b, 8, none⟩ x8).setCell ⟨b, 9, none⟩ x9).setCell ⟨b, 10, none⟩ x10).setCell ⟨b, 11, none⟩ x11).setCell ⟨b, 12, none⟩ x12).setCell ⟨b, 13, none⟩ x13) := ((((((((((((((Only.refl (fun k => k = b) V).setCell (p := ⟨b, 0, none⟩) rfl _).setCell (p := ⟨b, 1, none⟩) rfl _).setCell (p := ⟨b, 2, none⟩) rfl _).setCell (p := ⟨b, 3, none⟩) rfl _).setCell (p := ⟨b, 4, none⟩) rfl _).setCell (p := ⟨b, 5, none⟩) rfl _).setCell (p := ⟨b, 6, none⟩) rfl _).setCell (p := ⟨b, 7, none⟩) rfl _).setCell (p := ⟨b, 8, none⟩) rfl _).setCell (p := ⟨b, 9, none⟩) rfl _).setCell (p := ⟨b, 10, none⟩) rfl _).setCell (p := ⟨b, 11, none⟩) rfl _).setCell (p := ⟨b, 12, none⟩) rfl _).setCell (p := ⟨b, 13, none⟩) rfl _
theorem litRes (W : World) (b : Nat) (u0 u1 u2 u3 u4 u5 u6 u7 u8 u9 u10 u11 u12 u13 : Value) (tmps : Array Value) (ht : tmps[4]? = some (.pointer (some ⟨b, 0, none⟩))) (hb : W.heap[b]? = some (.cells #[u0, u1, u2, u3, u4, u5, u6, u7, u8, u9, u10, u11, u12, u13] 72 (0, 0))) :
    (results Tryz.f64 tmps).run Tryz.prog W = .ok (.agg #[u0, u1, u2, u3, u4, u5, u6, u7, u8, u9, u10, u11, u12, u13]) W := by
  obtain ⟨⟨c0, c1, c2, c3, c4, c5, c6, c7, c8, c9, c10, c11, c12, c13⟩, -⟩ := boxL_cells hb
  simp [results, Tryz.results64, go_sem, ht, c0, c1, c2, c3, c4, c5, c6, c7, c8, c9, c10, c11, c12, c13]
theorem tok_cells {V : World} {b : Nat} {t : Tok} (h : V.heap[b]? = some (.cells #[.int .i64 t.k, .string t.t, .int .i64 t.n, .int .i64 t.op, .int .i64 (t.off : Int), .int .i64 (t.en : Int)] 85 (0, 0))) :
    V.cell? ⟨b, 0, none⟩ = some (.int .i64 t.k) ∧ V.cell? ⟨b, 1, none⟩ = some (.string t.t) ∧ V.cell? ⟨b, 2, none⟩ = some (.int .i64 t.n) ∧ V.cell? ⟨b, 3, none⟩ = some (.int .i64 t.op) ∧ V.cell? ⟨b, 4, none⟩ = some (.int .i64 (t.off : Int)) ∧ V.cell? ⟨b, 5, none⟩ = some (.int .i64 (t.en : Int)) := by
  refine ⟨?_, ?_, ?_, ?_, ?_, ?_⟩ <;> simp [World.cell?, h]
theorem Ahead.drew {w : World} {p : Nat} {ao : Option Addr} {cap : Nat} {L : List Tok} {c f : Int} {R : List Tok} (h : Ahead w p ao cap L c f R) : Ahead w.drew p ao cap L c f R := h.kept (Below.refl _ _).drew
theorem ks_at {W : World} {g : Nat} (ks : List Int) (h : W.heap.size = g) : KsAt (W.alloc (.cells (ks.map (Value.int .i64)).toArray 3)).drew g ks := h ▸ (ks_new W ks).kept (Below.refl _ _).drew
/-- Two boxes of a function's own, the first and the second block behind what was there; beside them only the reader has moved. -/
structure TwoBox (w W : World) (p : Nat) (x y : Obj) : Prop where
  b0 : W.heap[w.heap.size]? = some x
  b1 : W.heap[w.heap.size + 1]? = some y
  on : Only (fun k => k = p ∨ w.heap.size ≤ k) w W
  pl : p < w.heap.size
theorem TwoBox.move {w W W' : World} {p : Nat} {x y : Obj} (h : TwoBox w W p x y) (ho : Only (fun k => k = p) W W') : TwoBox w W' p x y :=
  have hp := h.pl
  ⟨by rw [ho.block _ (Array.getElem?_eq_some_iff.1 h.b0).1 (by omega)]; exact h.b0, by rw [ho.block _ (Array.getElem?_eq_some_iff.1 h.b1).1 (by omega)]; exact h.b1, h.on.trans (ho.mono fun k _ e => .inl e), h.pl⟩
theorem TwoBox.below {w W W' : World} {p : Nat} {x y : Obj} (h : TwoBox w W p x y) (hb : Below W.heap.size W W') : TwoBox w W' p x y := h.move (Only.of_below hb _)
theorem TwoBox.drew {w W : World} {p : Nat} {x y : Obj} (h : TwoBox w W p x y) : TwoBox w W.drew p x y := h.below (Below.refl _ _).drew
theorem TwoBox.start {w : World} {p : Nat} (hp : p < w.heap.size) (x y : Obj) : TwoBox w ((w.alloc x).alloc y) p x y :=
  ⟨first_box hp (Only.refl _ _), second_box hp (Only.refl _ _), Only.of_below (below2a w x y) _, hp⟩
theorem TwoBox.lt {w W : World} {p : Nat} {x y : Obj} (h : TwoBox w W p x y) : w.heap.size + 2 ≤ W.heap.size := (Array.getElem?_eq_some_iff.1 h.b1).1
theorem i64_0 : I64 0 := by unfold I64; decide
theorem i64_1 : I64 1 := by unfold I64; decide
theorem i64_2 : I64 2 := by unfold I64; decide
theorem i64_3 : I64 3 := by unfold I64; decide
theorem zeroTrm_ok : zeroTrm.ok := ⟨⟨by unfold I64 zeroTrm Trm.con; decide, by unfold I64 zeroTrm Trm.con; decide, by unfold zeroTrm Trm.con; decide⟩, by unfold I64 zeroTrm; decide⟩
theorem lit_fin {w W : World} {p : Nat} {ao : Option Addr} {cap : Nat} {L : List Tok} {c f : Int} {R0 r : List Tok} {x y : Obj} (h0 : Ahead w p ao cap L c f R0) (hA : Ahead W p ao cap L c f r) (hB : TwoBox w W p x y) (a : Lix) (z : PLit) (hz : a.pur = z) {N : Nat} (hok : elLix.ok W (fun k => N ≤ k) a) (hN : w.heap.size + 2 ≤ N) (x0 x1 x2 x3 x4 x5 x6 x7 x8 x9 x10 x11 x12 x13 : Value) :
    LitPost w p ao cap L c f (.ok z r) (.returned a.val) ((((((((((((((W.setCell ⟨w.heap.size + 1, 0, none⟩ x0).setCell ⟨w.heap.size + 1, 1, none⟩ x1).setCell ⟨w.heap.size + 1, 2, none⟩ x2).setCell ⟨w.heap.size + 1, 3, none⟩ x3).setCell ⟨w.heap.size + 1, 4, none⟩ x4).setCell ⟨w.heap.size + 1, 5, none⟩ x5).setCell ⟨w.heap.size + 1, 6, none⟩ x6).setCell ⟨w.heap.size + 1, 7, none⟩ x7).setCell ⟨w.heap.size + 1, 8, none⟩ x8).setCell ⟨w.heap.size + 1, 9, none⟩ x9).setCell ⟨w.heap.size + 1, 10, none⟩ x10).setCell ⟨w.heap.size + 1, 11, none⟩ x11).setCell ⟨w.heap.size + 1, 12, none⟩ x12).setCell ⟨w.heap.size + 1, 13, none⟩ x13) := by
  have ho2 := boxL_only W (w.heap.size + 1) x0 x1 x2 x3 x4 x5 x6 x7 x8 x9 x10 x11 x12 x13
  obtain ⟨q1, q2⟩ := fin_ahead h0 hA hB.on ho2 (by omega)
  exact ⟨a, rfl, hz, fin_ok elLix hok ho2 (by omega) (by omega), q1, q2⟩
theorem KsAt.drew {w : World} {g : Nat} {ks : List Int} (h : KsAt w g ks) : KsAt w.drew g ks := h.kept (Below.refl _ _).drew

set_option maxHeartbeats 4000000 in
set_option maxRecDepth 100000 in
theorem lit_not {w : World} {p : Nat} {ao : Option Addr} {cap : Nat} {L : List Tok} {c f : Int} {R : List Tok} (first : Tok) (h : Ahead w p ao cap L c f R) (hname : first.good) (h10 : first.k = 10) :
    Calls Tryz.prog 64 #[.pointer (some ⟨p, 0, none⟩), tokV first] w (LitPost w p ao cap L c f (litP c f first R)) := by
  have e10 : (first.k == 10) = true := by simpa using h10
  have HE : litP c f first R = (match takeP c f [1] R with | .bad c o => .bad c o | .ok n r' => match atomP c f termKs n r' with | .bad c o => .bad c o | .ok a r'' => .ok ⟨2, a, 0, zeroTrm, zeroTrm, first.off⟩ r'') := by unfold litP; rw [if_pos h10]; rfl
  rw [HE]
  have H0 := hide h
  have hp := h.lt
  unfold tokV
  clear HE h10 h
  cases hT : takeP c f [1] R with
  | bad ec eo =>
    have HT := hide (fun (W : World) (g : Nat) (ha : Ahead W p ao cap L c f R) (hk : KsAt W g [1]) => take_fail g ha hk (by decide) hT)
    simp only []
    clear hT
    unfold LitPost
    go_enter Tryz.func64, Tryz.ntmps64
    go_wp2
    go_region_with (first
        | (go_at_call 36; refine (HT.out _ _ (by first | exact (H0.out.kept (below3a _ _ _ _)).drew | exact (H0.out.kept (below2a _ _ _)).drew) (by exact ks_at [1] (by simp))).mono ?_; rintro e w1 ⟨rfl, hb1⟩; refine panic_ends (P := Tryz.prog) (w := w1) ⟨rfl, rfl, by first | exact only_drop (Only.of_below (belowt2 (below3a _ _ _ _).drew hb1) _) | exact only_drop (Only.of_below (belowt2 (below2a _ _ _).drew hb1) _)⟩ ?_))
    all_goals trivial
  | ok n r1 =>
    have HT := hide (fun (W : World) (g : Nat) (ha : Ahead W p ao cap L c f R) (hk : KsAt W g [1]) => take_good g ha hk (by decide) hT)
    have hng : n.good := H0.out.good n (by rw [(take_eq hT).1]; exact List.mem_cons_self)
    simp only []
    obtain ⟨res, hres⟩ : ∃ res, atomP c f termKs n r1 = res := ⟨_, rfl⟩
    have HAt := hide (fun (W : World) (ha : Ahead W p ao cap L c f r1) => atom_any n ha hng)
    rw [hres] at HAt ⊢
    clear hT hres hng
    have HB := hide (TwoBox.start (w := w) hp (.cells #[.int .i64 first.k, .string first.t, .int .i64 first.n, .int .i64 first.op, .int .i64 (first.off : Int), .int .i64 (first.en : Int)] 85) (.cells #[.int .i64 0, .string ⟨#[]⟩, .slice none 0 0, .int .i64 0, .int .i64 0, .int .i64 0, .int .i64 0, .string ⟨#[]⟩, .int .i64 0, .int .i64 0, .int .i64 0, .string ⟨#[]⟩, .int .i64 0, .int .i64 0] 72))
    cases res with
    | bad ec eo =>
      simp only []
      unfold LitPost
      go_enter Tryz.func64, Tryz.ntmps64
      go_wp2
      go_region_with (first
        | (go_at_call 36; refine (HT.out _ _ (by first | exact (H0.out.kept (below3a _ _ _ _)).drew | exact (H0.out.kept (below2a _ _ _)).drew) (by exact ks_at [1] (by simp))).mono ?_; rintro e w1 ⟨rfl, ha1, ho1⟩; have HA1 := hide ha1; have HB1 := hide (((HB.out.below (belowA _ _)).drew).move ho1); clear ha1 ho1; obtain ⟨-, -, -, -, y4, -⟩ := tok_cells HB1.out.b0)
        | (go_at_call 65; refine (HAt.out _ (by first | exact HA1.out | exact HA1.out.drew)).mono ?_; intro e w2 hq; obtain ⟨rfl, ho2⟩ := atmPost_bad hq; clear hq; refine panic_ends (P := Tryz.prog) (w := w2) ⟨rfl, rfl, by first | exact only_drop (HB1.out.move ho2).on | exact only_drop (HB1.out.drew.move ho2).on⟩ ?_))
      all_goals trivial
    | ok a r2 =>
      simp only []
      unfold LitPost
      go_enter Tryz.func64, Tryz.ntmps64
      go_wp2
      go_region_held3 (fun w' => w'.cell? ⟨w.heap.size, 4, none⟩ = some (.int .i64 (first.off : Int)))
        (first | (with_reducible exact y4) | (with_reducible exact z4) | (go_keep; done))
        (first
        | (go_at_call 36; refine (HT.out _ _ (by first | exact (H0.out.kept (below3a _ _ _ _)).drew | exact (H0.out.kept (below2a _ _ _)).drew) (by exact ks_at [1] (by simp))).mono ?_; rintro e w1 ⟨rfl, ha1, ho1⟩; have HA1 := hide ha1; have HB1 := hide (((HB.out.below (belowA _ _)).drew).move ho1); clear ha1 ho1; obtain ⟨-, -, -, -, y4, -⟩ := tok_cells HB1.out.b0)
        | (go_at_call 65; refine (HAt.out _ (by first | exact HA1.out | exact HA1.out.drew)).mono ?_; intro e w2 hq; obtain ⟨⟨ap, av, aoff, ats⟩, rfl, hpur, hok, ha2, ho2⟩ := atmPost_ok hq; clear hq; obtain ⟨va, vc, rfl, -⟩ := (show Lst elTrm _ _ av ats from hok.2.2).shape; have HA2 := hide ha2; have HB2 := hide (HB1.out.move ho2); have HPu := hide hpur; have HOk := hide hok; clear ha2 ho2 hpur hok; obtain ⟨-, -, -, -, z4, -⟩ := tok_cells HB2.out.b0; obtain ⟨⟨k0, k1, k2, k3, k4, k5, k6, k7, k8, k9, k10, k11, k12, k13⟩, ⟨l0, l1, l2, l3, l4, l5, l6, l7, l8, l9, l10, l11, l12, l13⟩⟩ := boxL_cells HB2.out.b1; unfold Atx.val))
      go_wp2
      refine bodyPost_ret (litRes _ (w.heap.size + 1) _ _ _ _ _ _ _ _ _ _ _ _ _ _ _ rfl (boxL_put HB2.out.b1 _ _ _ _ _ _ _ _ _ _ _ _ _ _)) rfl ?_
      exact lit_fin H0.out HA2.out HB2.out ⟨2, ⟨ap, _, aoff, ats⟩, 0, zeroTrm, zeroTrm, first.off⟩ _ (by unfold Lix.pur; rw [HPu.out]) ⟨i64_2, HOk.out, i64_0, zeroTrm_ok, zeroTrm_ok, (good_parts hname).2⟩ HB1.out.lt _ _ _ _ _ _ _ _ _ _ _ _ _ _
end Go.Proofs.YtmdhjggijlhhgaaGreatDoor

namespace Go.Proofs.YtmdhjggijlhhgaaGreatDoor
set_option linter.unusedSimpArgs false
set_option linter.unusedVariables false
open Go.RowKit

/-- The answer's box, all else as it was. -/
def LB (w W : World) : Prop := Below w.heap.size w W ∧ W.heap[w.heap.size]? = some (.cells #[.int .i64 0, .string ⟨#[]⟩, .slice none 0 0, .int .i64 0, .int .i64 0, .int .i64 0, .int .i64 0, .string ⟨#[]⟩, .int .i64 0, .int .i64 0, .int .i64 0, .string ⟨#[]⟩, .int .i64 0, .int .i64 0] 72 (0, 0))
theorem LB.kept {w W W' : World} (h : LB w W) (hb : Below W.heap.size W W') : LB w W' := ⟨belowt2 h.1 hb, by rw [hb.block _ (Array.getElem?_eq_some_iff.1 h.2).1]; exact h.2⟩
theorem LB.bel {w W : World} (h : LB w W) : Below w.heap.size w W := h.1
theorem LB.drew {w W : World} (h : LB w W) : LB w W.drew := h.kept (Below.refl _ _).drew
theorem LB.start (w : World) : LB w (w.alloc (.cells #[.int .i64 0, .string ⟨#[]⟩, .slice none 0 0, .int .i64 0, .int .i64 0, .int .i64 0, .int .i64 0, .string ⟨#[]⟩, .int .i64 0, .int .i64 0, .int .i64 0, .string ⟨#[]⟩, .int .i64 0, .int .i64 0] 72)) := ⟨belowA w _, heap_alloc_new w _⟩
theorem LB.lt {w W : World} (h : LB w W) : w.heap.size + 1 ≤ W.heap.size := (Array.getElem?_eq_some_iff.1 h.2).1
theorem rlit_fin {w W : World} (h : LB w W) (a : Lix) {N : Nat} (hok : elLix.ok W (fun k => N ≤ k) a) (hN : w.heap.size + 1 ≤ N) (x0 x1 x2 x3 x4 x5 x6 x7 x8 x9 x10 x11 x12 x13 : Value) :
    ((((((((((((((W.setCell ⟨w.heap.size, 0, none⟩ x0).setCell ⟨w.heap.size, 1, none⟩ x1).setCell ⟨w.heap.size, 2, none⟩ x2).setCell ⟨w.heap.size, 3, none⟩ x3).setCell ⟨w.heap.size, 4, none⟩ x4).setCell ⟨w.heap.size, 5, none⟩ x5).setCell ⟨w.heap.size, 6, none⟩ x6).setCell ⟨w.heap.size, 7, none⟩ x7).setCell ⟨w.heap.size, 8, none⟩ x8).setCell ⟨w.heap.size, 9, none⟩ x9).setCell ⟨w.heap.size, 10, none⟩ x10).setCell ⟨w.heap.size, 11, none⟩ x11).setCell ⟨w.heap.size, 12, none⟩ x12).setCell ⟨w.heap.size, 13, none⟩ x13).heap[w.heap.size]? = some (.cells #[x0, x1, x2, x3, x4, x5, x6, x7, x8, x9, x10, x11, x12, x13] 72 (0, 0)) ∧ elLix.ok ((((((((((((((W.setCell ⟨w.heap.size, 0, none⟩ x0).setCell ⟨w.heap.size, 1, none⟩ x1).setCell ⟨w.heap.size, 2, none⟩ x2).setCell ⟨w.heap.size, 3, none⟩ x3).setCell ⟨w.heap.size, 4, none⟩ x4).setCell ⟨w.heap.size, 5, none⟩ x5).setCell ⟨w.heap.size, 6, none⟩ x6).setCell ⟨w.heap.size, 7, none⟩ x7).setCell ⟨w.heap.size, 8, none⟩ x8).setCell ⟨w.heap.size, 9, none⟩ x9).setCell ⟨w.heap.size, 10, none⟩ x10).setCell ⟨w.heap.size, 11, none⟩ x11).setCell ⟨w.heap.size, 12, none⟩ x12).setCell ⟨w.heap.size, 13, none⟩ x13) (fun b => w.heap.size ≤ b) a ∧ Below w.heap.size w ((((((((((((((W.setCell ⟨w.heap.size, 0, none⟩ x0).setCell ⟨w.heap.size, 1, none⟩ x1).setCell ⟨w.heap.size, 2, none⟩ x2).setCell ⟨w.heap.size, 3, none⟩ x3).setCell ⟨w.heap.size, 4, none⟩ x4).setCell ⟨w.heap.size, 5, none⟩ x5).setCell ⟨w.heap.size, 6, none⟩ x6).setCell ⟨w.heap.size, 7, none⟩ x7).setCell ⟨w.heap.size, 8, none⟩ x8).setCell ⟨w.heap.size, 9, none⟩ x9).setCell ⟨w.heap.size, 10, none⟩ x10).setCell ⟨w.heap.size, 11, none⟩ x11).setCell ⟨w.heap.size, 12, none⟩ x12).setCell ⟨w.heap.size, 13, none⟩ x13) := by
  have ho2 := boxL_only W w.heap.size x0 x1 x2 x3 x4 x5 x6 x7 x8 x9 x10 x11 x12 x13
  exact ⟨boxL_put h.2 x0 x1 x2 x3 x4 x5 x6 x7 x8 x9 x10 x11 x12 x13, fin_ok elLix hok ho2 (by omega) (by omega), h.1.trans (ho2.below h.1.size (fun k hk e => by omega))⟩
theorem rlitRes (W : World) (b : Nat) (u0 u1 u2 u3 u4 u5 u6 u7 u8 u9 u10 u11 u12 u13 : Value) (tmps : Array Value) (ht : tmps[2]? = some (.pointer (some ⟨b, 0, none⟩))) (hb : W.heap[b]? = some (.cells #[u0, u1, u2, u3, u4, u5, u6, u7, u8, u9, u10, u11, u12, u13] 72 (0, 0))) :
    (results Tryz.f47 tmps).run Tryz.prog W = .ok (.agg #[u0, u1, u2, u3, u4, u5, u6, u7, u8, u9, u10, u11, u12, u13]) W := by
  obtain ⟨⟨c0, c1, c2, c3, c4, c5, c6, c7, c8, c9, c10, c11, c12, c13⟩, -⟩ := boxL_cells hb
  simp [results, Tryz.results47, go_sem, ht, c0, c1, c2, c3, c4, c5, c6, c7, c8, c9, c10, c11, c12, c13]
theorem sets_bel {w W : World} (h : LB w W) (x0 x1 x2 x3 x4 x5 x6 x7 x8 x9 x10 x11 x12 x13 : Value) : Below w.heap.size w ((((((((((((((W.setCell ⟨w.heap.size, 0, none⟩ x0).setCell ⟨w.heap.size, 1, none⟩ x1).setCell ⟨w.heap.size, 2, none⟩ x2).setCell ⟨w.heap.size, 3, none⟩ x3).setCell ⟨w.heap.size, 4, none⟩ x4).setCell ⟨w.heap.size, 5, none⟩ x5).setCell ⟨w.heap.size, 6, none⟩ x6).setCell ⟨w.heap.size, 7, none⟩ x7).setCell ⟨w.heap.size, 8, none⟩ x8).setCell ⟨w.heap.size, 9, none⟩ x9).setCell ⟨w.heap.size, 10, none⟩ x10).setCell ⟨w.heap.size, 11, none⟩ x11).setCell ⟨w.heap.size, 12, none⟩ x12).setCell ⟨w.heap.size, 13, none⟩ x13) := h.1.trans ((boxL_only W w.heap.size x0 x1 x2 x3 x4 x5 x6 x7 x8 x9 x10 x11 x12 x13).below h.1.size (fun k hk e => by omega))
theorem litR_not {t : Tok} {r : List Tok} (h : t.k = 10) : litR (t :: r) = ⟨2, atomR r, 0, zeroTrm, zeroTrm, t.off⟩ := if_pos h
theorem litR_pos {t : Tok} {r : List Tok} (h10 : t.k ≠ 10) (h11 : ∀ o u, r = [o, u] → o.k ≠ 11) : litR (t :: r) = ⟨1, atomR (t :: r), 0, zeroTrm, zeroTrm, t.off⟩ := by
  refine (if_neg h10).trans ?_
  split
  · rename_i o u
    rw [if_neg (h11 o u rfl)]
  · rfl
theorem litR_test {t o u : Tok} (h10 : t.k ≠ 10) (h11 : o.k = 11) : litR [t, o, u] = ⟨3, zeroAtom, o.op, termP t, termP u, t.off⟩ := (if_neg h10).trans (if_pos h11)
theorem i64_off {t : Tok} (h : t.good) : I64 (t.off : Int) := (good_parts h).2

set_option maxRecDepth 100000 in
set_option maxHeartbeats 4000000 in
theorem rlit_not {w : World} {v : Value} {t : Tok} {r : List Tok} (h : Has elTok w v (t :: r)) (hL : (t :: r).length ≤ 100000) (h10 : t.k = 10) (hr : r ≠ []) :
    Calls Tryz.prog 47 #[v] w fun e w' => ∃ a : Lix, e = .returned a.val ∧ a.pur = litR (t :: r) ∧ elLix.ok w' (fun b => w.heap.size ≤ b) a ∧ Below w.heap.size w w' := by
  obtain ⟨n, r', rfl⟩ : ∃ n r', r = n :: r' := by cases r with | nil => exact absurd rfl hr | cons a b => exact ⟨a, b, rfl⟩
  obtain ⟨la, lc, rfl, hcap, -⟩ := h.shape
  obtain ⟨b2, o2, rfl, -, -, hr2⟩ := h.row (by simp)
  have y0 := hr2 0 t rfl 0 _ rfl
  have y4 := hr2 0 t rfl 4 _ rfl
  simp only [elTok, Nat.add_zero, Nat.zero_mul] at y0 y4
  have HG0 := hide (h.ok (x := t) (by simp))
  have htl := Lst.from h (i := 1) (by simp)
  rw [List.drop_succ_cons, List.drop_zero] at htl
  obtain ⟨m, hm⟩ : ∃ m, m = (t :: n :: r').length := ⟨_, rfl⟩
  obtain ⟨q, hq⟩ : ∃ q, q = m - 1 := ⟨_, rfl⟩
  obtain ⟨ta, hta⟩ : ∃ ta, tailA (some ⟨b2, o2, none⟩) 1 lc 6 = ta := ⟨_, rfl⟩
  have hm2 : 2 ≤ m := by rw [hm]; simp
  have hsl : ∀ V : World, (Instr.slice 50 (.slice (some ⟨b2, o2, none⟩) m lc) (some (.int .i64 1)) none none).run Tryz.prog V = .ok (.slice ta q (lc - 1)) V := fun V => by
    have := run_from elTokS szTok (some ⟨b2, o2, none⟩) m lc 1 (by omega) V
    rw [hta, ← hq] at this
    exact this
  have e6 : elTok.size = 6 := rfl
  rw [e6, hta, ← hm, ← hq] at htl
  have HAt := hide (fun (W : World) (hb : Below w.heap.size w W) => ratom_any (htl.kept hb) (by simp only [List.length_cons] at hL ⊢; omega))
  rw [← hm]
  rw [← hm] at hcap
  have e10 : (t.k == 10) = true := by simpa using h10
  have hm0 : (0 : Int) < (m : Int) := by omega
  have HK := hide h10
  clear htl hq hta h hr2 e6 hm hL h10 hr hm2
  generalize lc - 1 = tc at *
  go_enter Tryz.func47, Tryz.ntmps47
  go_upto_region 1 with fail
  obtain ⟨X0, hX0⟩ : ∃ X0, X0 = w.alloc (.cells #[.int .i64 0, .string ⟨#[]⟩, .slice none 0 0, .int .i64 0, .int .i64 0, .int .i64 0, .int .i64 0, .string ⟨#[]⟩, .int .i64 0, .int .i64 0, .int .i64 0, .string ⟨#[]⟩, .int .i64 0, .int .i64 0] 72) := ⟨_, rfl⟩
  have HB : Hid (LB w X0) := by rw [hX0]; exact LB.start w
  have x0 := kept_cell HB.out.1 y0
  have x4 := kept_cell HB.out.1 y4
  rw [← hX0]
  clear hX0 y0 y4
  go_wp2_with (go_at_call 22; refine (HAt.out _ HB.out.1).mono ?_; intro e w2 hq; obtain ⟨⟨ap, av, aoff, ats⟩, rfl, hpur, hok, hb2⟩ := hq; have HB2 := hide (HB.out.kept hb2); have HLt := hide HB.out.lt; have HPu := hide hpur; have HOk := hide hok; obtain ⟨xa, xc, rfl, -⟩ := (show Lst elTrm _ _ av ats from hok.2.2).shape; obtain ⟨⟨c0, c1, c2, c3, c4, c5, c6, c7, c8, c9, c10, c11, c12, c13⟩, f0, f1, f2, f3, f4, f5, f6, f7, f8, f9, f10, f11, f12, f13⟩ := boxL_cells HB2.out.2; unfold Atx.val; clear hpur hok hb2)
  have HFin := hide (rlit_fin HB2.out ⟨2, ⟨ap, .slice xa ats.length xc, aoff, ats⟩, 0, zeroTrm, zeroTrm, (t.off : Int)⟩ ⟨i64_2, HOk.out, i64_0, zeroTrm_ok, zeroTrm_ok, i64_off HG0.out.1⟩ HLt.out (.int .i64 2) (.string ap) (.slice xa ats.length xc) (.int .i64 aoff) (.int .i64 0) (.int .i64 0) (.int .i64 0) (.string ⟨#[]⟩) (.int .i64 0) (.int .i64 0) (.int .i64 0) (.string ⟨#[]⟩) (.int .i64 0) (.int .i64 (t.off : Int)))
  refine bodyPost_ret (rlitRes _ w.heap.size _ _ _ _ _ _ _ _ _ _ _ _ _ _ _ rfl HFin.out.1) rfl ⟨⟨2, ⟨ap, .slice xa ats.length xc, aoff, ats⟩, 0, zeroTrm, zeroTrm, (t.off : Int)⟩, rfl, ?_, HFin.out.2.1, HFin.out.2.2⟩
  rw [litR_not HK.out]
  unfold Lix.pur
  simp only
  rw [HPu.out]

set_option maxRecDepth 100000 in
set_option maxHeartbeats 4000000 in
theorem rlit_pos {w : World} {v : Value} {t : Tok} {r : List Tok} (h : Has elTok w v (t :: r)) (hL : (t :: r).length ≤ 100000) (h10 : t.k ≠ 10) (h11 : ∀ o u, r = [o, u] → o.k ≠ 11) :
    Calls Tryz.prog 47 #[v] w fun e w' => ∃ a : Lix, e = .returned a.val ∧ a.pur = litR (t :: r) ∧ elLix.ok w' (fun b => w.heap.size ≤ b) a ∧ Below w.heap.size w w' := by
  obtain ⟨la, lc, rfl, hcap, -⟩ := h.shape
  obtain ⟨b2, o2, rfl, -, -, hr2⟩ := h.row (by simp)
  have y0 := hr2 0 t rfl 0 _ rfl
  have y4 := hr2 0 t rfl 4 _ rfl
  simp only [elTok, Nat.add_zero, Nat.zero_mul] at y0 y4
  have HG0 := hide (h.ok (x := t) (by simp))
  have HP : Hid (litR (t :: r) = ⟨1, atomR (t :: r), 0, zeroTrm, zeroTrm, t.off⟩) := litR_pos h10 h11
  obtain ⟨m, hm⟩ : ∃ m, m = (t :: r).length := ⟨_, rfl⟩
  have hm1 : 1 ≤ m := by rw [hm]; simp
  have HAt0 := fun (W : World) (hb : Below w.heap.size w W) => ratom_any (h.kept hb) hL
  rw [← hm] at HAt0 hcap ⊢
  have HAt := hide HAt0
  have e10 : (t.k == 10) = false := by simpa using h10
  have hm0 : (0 : Int) < (m : Int) := by omega
  have hpick : (((m : Int) == 3) = false) ∨ (((m : Int) == 3) = true ∧ (1 : Int) < (m : Int) ∧ ∃ o : Tok, w.cell? ⟨b2, o2 + 6, none⟩ = some (.int .i64 o.k) ∧ (o.k == 11) = false) := by
    by_cases h3 : m = 3
    · refine .inr ⟨beq_iff_eq.2 (by omega), by omega, ?_⟩
      match r, hm, h11, hr2 with
      | [o, u], _, h11, hr2 =>
        have y := hr2 1 o rfl 0 _ rfl
        simp only [elTok, Nat.add_zero, Nat.one_mul] at y
        exact ⟨o, y, by simpa using h11 o u rfl⟩
      | [], hm, _, _ => simp at hm; omega
      | [_], hm, _, _ => simp at hm; omega
      | _ :: _ :: _ :: _, hm, _, _ => simp at hm; omega
    · exact .inl (beq_eq_false_iff_ne.2 (by omega))
  clear hr2 hm hL h10 h11 hm1 HAt0
  go_enter Tryz.func47, Tryz.ntmps47
  go_upto_region 1 with fail
  obtain ⟨X0, hX0⟩ : ∃ X0, X0 = w.alloc (.cells #[.int .i64 0, .string ⟨#[]⟩, .slice none 0 0, .int .i64 0, .int .i64 0, .int .i64 0, .int .i64 0, .string ⟨#[]⟩, .int .i64 0, .int .i64 0, .int .i64 0, .string ⟨#[]⟩, .int .i64 0, .int .i64 0] 72) := ⟨_, rfl⟩
  have HB : Hid (LB w X0) := by rw [hX0]; exact LB.start w
  have x0 := kept_cell HB.out.1 y0
  have x4 := kept_cell HB.out.1 y4
  rw [← hX0]
  rcases hpick with hp | ⟨hp, h1, o, yo, ho⟩
  · clear hX0 y0 y4 h
    go_wp2_with (go_at_call 22; refine (HAt.out _ HB.out.1).mono ?_; intro e w2 hq; obtain ⟨⟨ap, av, aoff, ats⟩, rfl, hpur, hok, hb2⟩ := hq; have HB2 := hide (HB.out.kept hb2); have HLt := hide HB.out.lt; have HPu := hide hpur; have HOk := hide hok; obtain ⟨xa, xc, rfl, -⟩ := (show Lst elTrm _ _ av ats from hok.2.2).shape; obtain ⟨⟨c0, c1, c2, c3, c4, c5, c6, c7, c8, c9, c10, c11, c12, c13⟩, f0, f1, f2, f3, f4, f5, f6, f7, f8, f9, f10, f11, f12, f13⟩ := boxL_cells HB2.out.2; unfold Atx.val; clear hpur hok hb2)
    have HFin := hide (rlit_fin HB2.out ⟨1, ⟨ap, .slice xa ats.length xc, aoff, ats⟩, 0, zeroTrm, zeroTrm, (t.off : Int)⟩ ⟨i64_1, HOk.out, i64_0, zeroTrm_ok, zeroTrm_ok, i64_off HG0.out.1⟩ HLt.out (.int .i64 1) (.string ap) (.slice xa ats.length xc) (.int .i64 aoff) (.int .i64 0) (.int .i64 0) (.int .i64 0) (.string ⟨#[]⟩) (.int .i64 0) (.int .i64 0) (.int .i64 0) (.string ⟨#[]⟩) (.int .i64 0) (.int .i64 (t.off : Int)))
    refine bodyPost_ret (rlitRes _ w.heap.size _ _ _ _ _ _ _ _ _ _ _ _ _ _ _ rfl HFin.out.1) rfl ⟨⟨1, ⟨ap, .slice xa ats.length xc, aoff, ats⟩, 0, zeroTrm, zeroTrm, (t.off : Int)⟩, rfl, ?_, HFin.out.2.1, HFin.out.2.2⟩
    rw [HP.out]
    unfold Lix.pur
    simp only
    rw [HPu.out]
  · have xo := kept_cell HB.out.1 yo
    clear hX0 y0 y4 yo h
    go_wp2_with (go_at_call 22; refine (HAt.out _ HB.out.1).mono ?_; intro e w2 hq; obtain ⟨⟨ap, av, aoff, ats⟩, rfl, hpur, hok, hb2⟩ := hq; have HB2 := hide (HB.out.kept hb2); have HLt := hide HB.out.lt; have HPu := hide hpur; have HOk := hide hok; obtain ⟨xa, xc, rfl, -⟩ := (show Lst elTrm _ _ av ats from hok.2.2).shape; obtain ⟨⟨c0, c1, c2, c3, c4, c5, c6, c7, c8, c9, c10, c11, c12, c13⟩, f0, f1, f2, f3, f4, f5, f6, f7, f8, f9, f10, f11, f12, f13⟩ := boxL_cells HB2.out.2; unfold Atx.val; clear hpur hok hb2)
    have HFin := hide (rlit_fin HB2.out ⟨1, ⟨ap, .slice xa ats.length xc, aoff, ats⟩, 0, zeroTrm, zeroTrm, (t.off : Int)⟩ ⟨i64_1, HOk.out, i64_0, zeroTrm_ok, zeroTrm_ok, i64_off HG0.out.1⟩ HLt.out (.int .i64 1) (.string ap) (.slice xa ats.length xc) (.int .i64 aoff) (.int .i64 0) (.int .i64 0) (.int .i64 0) (.string ⟨#[]⟩) (.int .i64 0) (.int .i64 0) (.int .i64 0) (.string ⟨#[]⟩) (.int .i64 0) (.int .i64 (t.off : Int)))
    refine bodyPost_ret (rlitRes _ w.heap.size _ _ _ _ _ _ _ _ _ _ _ _ _ _ _ rfl HFin.out.1) rfl ⟨⟨1, ⟨ap, .slice xa ats.length xc, aoff, ats⟩, 0, zeroTrm, zeroTrm, (t.off : Int)⟩, rfl, ?_, HFin.out.2.1, HFin.out.2.2⟩
    rw [HP.out]
    unfold Lix.pur
    simp only
    rw [HPu.out]

set_option maxRecDepth 100000 in
set_option maxHeartbeats 4000000 in
theorem rlit_test {w : World} {v : Value} {t o u : Tok} {r : List Tok} (h : Has elTok w v (t :: r)) (hr : r = [o, u]) (h10 : t.k ≠ 10) (h11 : o.k = 11) :
    Calls Tryz.prog 47 #[v] w fun e w' => ∃ a : Lix, e = .returned a.val ∧ a.pur = litR (t :: r) ∧ elLix.ok w' (fun b => w.heap.size ≤ b) a ∧ Below w.heap.size w w' := by
  subst hr
  obtain ⟨la, lc, rfl, hcap, -⟩ := h.shape
  obtain ⟨b2, o2, rfl, -, -, hr2⟩ := h.row (by simp)
  have HS : Hid (∀ V : World, Below w.heap.size w V → V.cell? ⟨b2, o2, none⟩ = some (.int .i64 t.k) ∧ V.cell? ⟨b2, o2 + 1, none⟩ = some (.string t.t) ∧ V.cell? ⟨b2, o2 + 2, none⟩ = some (.int .i64 t.n) ∧ V.cell? ⟨b2, o2 + 3, none⟩ = some (.int .i64 t.op) ∧ V.cell? ⟨b2, o2 + 4, none⟩ = some (.int .i64 (t.off : Int)) ∧ V.cell? ⟨b2, o2 + 5, none⟩ = some (.int .i64 (t.en : Int)) ∧ V.cell? ⟨b2, o2 + 6, none⟩ = some (.int .i64 o.k) ∧ V.cell? ⟨b2, o2 + 6 + 3, none⟩ = some (.int .i64 o.op) ∧ V.cell? ⟨b2, o2 + 12, none⟩ = some (.int .i64 u.k) ∧ V.cell? ⟨b2, o2 + 12 + 1, none⟩ = some (.string u.t) ∧ V.cell? ⟨b2, o2 + 12 + 2, none⟩ = some (.int .i64 u.n) ∧ V.cell? ⟨b2, o2 + 12 + 3, none⟩ = some (.int .i64 u.op) ∧ V.cell? ⟨b2, o2 + 12 + 4, none⟩ = some (.int .i64 (u.off : Int)) ∧ V.cell? ⟨b2, o2 + 12 + 5, none⟩ = some (.int .i64 (u.en : Int))) := fun V hV => by
    have z0 := kept_cell hV (hr2 0 t rfl 0 _ rfl)
    have z1 := kept_cell hV (hr2 0 t rfl 1 _ rfl)
    have z2 := kept_cell hV (hr2 0 t rfl 2 _ rfl)
    have z3 := kept_cell hV (hr2 0 t rfl 3 _ rfl)
    have z4 := kept_cell hV (hr2 0 t rfl 4 _ rfl)
    have z5 := kept_cell hV (hr2 0 t rfl 5 _ rfl)
    have a0 := kept_cell hV (hr2 1 o rfl 0 _ rfl)
    have a3 := kept_cell hV (hr2 1 o rfl 3 _ rfl)
    have d0 := kept_cell hV (hr2 2 u rfl 0 _ rfl)
    have d1 := kept_cell hV (hr2 2 u rfl 1 _ rfl)
    have d2 := kept_cell hV (hr2 2 u rfl 2 _ rfl)
    have d3 := kept_cell hV (hr2 2 u rfl 3 _ rfl)
    have d4 := kept_cell hV (hr2 2 u rfl 4 _ rfl)
    have d5 := kept_cell hV (hr2 2 u rfl 5 _ rfl)
    simp only [elTok, Nat.add_zero, Nat.zero_mul, Nat.one_mul] at z0 z1 z2 z3 z4 z5 a0 a3 d0 d1 d2 d3 d4 d5
    exact ⟨z0, z1, z2, z3, z4, z5, a0, a3, d0, d1, d2, d3, d4, d5⟩
  have HG0 := hide (h.ok (x := t) (by simp))
  have HG1 := hide (h.ok (x := o) (by simp))
  have HG2 := hide (h.ok (x := u) (by simp))
  have HP : Hid (litR [t, o, u] = ⟨3, zeroAtom, o.op, termP t, termP u, t.off⟩) := litR_test h10 h11
  have e10 : (t.k == 10) = false := by simpa using h10
  have e11 : (o.k == 11) = true := by simpa using h11
  have HTm := hide (fun (x : Tok) (hx : x.plain) W => rterm_any x hx W)
  clear hr2 h10 h11 h
  simp only [List.length_cons, List.length_nil, Nat.zero_add] at hcap ⊢
  go_enter Tryz.func47, Tryz.ntmps47
  go_upto_region 1 with fail
  obtain ⟨X0, hX0⟩ : ∃ X0, X0 = w.alloc (.cells #[.int .i64 0, .string ⟨#[]⟩, .slice none 0 0, .int .i64 0, .int .i64 0, .int .i64 0, .int .i64 0, .string ⟨#[]⟩, .int .i64 0, .int .i64 0, .int .i64 0, .string ⟨#[]⟩, .int .i64 0, .int .i64 0] 72) := ⟨_, rfl⟩
  have HB : Hid (LB w X0) := by rw [hX0]; exact LB.start w
  rw [← hX0]
  clear hX0
  obtain ⟨x0, -, -, -, x4, -, xo, -⟩ := HS.out X0 HB.out.1
  go_upto_region 5 with fail
  clear x0 x4 xo
  have HB0 := HB
  go_region_held3 (fun V => V.cell? ⟨b2, o2, none⟩ = some (.int .i64 t.k) ∧ V.cell? ⟨b2, o2 + 1, none⟩ = some (.string t.t) ∧ V.cell? ⟨b2, o2 + 2, none⟩ = some (.int .i64 t.n) ∧ V.cell? ⟨b2, o2 + 3, none⟩ = some (.int .i64 t.op) ∧ V.cell? ⟨b2, o2 + 4, none⟩ = some (.int .i64 (t.off : Int)) ∧ V.cell? ⟨b2, o2 + 5, none⟩ = some (.int .i64 (t.en : Int)) ∧ V.cell? ⟨b2, o2 + 6, none⟩ = some (.int .i64 o.k) ∧ V.cell? ⟨b2, o2 + 6 + 3, none⟩ = some (.int .i64 o.op) ∧ V.cell? ⟨b2, o2 + 12, none⟩ = some (.int .i64 u.k) ∧ V.cell? ⟨b2, o2 + 12 + 1, none⟩ = some (.string u.t) ∧ V.cell? ⟨b2, o2 + 12 + 2, none⟩ = some (.int .i64 u.n) ∧ V.cell? ⟨b2, o2 + 12 + 3, none⟩ = some (.int .i64 u.op) ∧ V.cell? ⟨b2, o2 + 12 + 4, none⟩ = some (.int .i64 (u.off : Int)) ∧ V.cell? ⟨b2, o2 + 12 + 5, none⟩ = some (.int .i64 (u.en : Int)))
    (first
      | (with_reducible exact HS.out _ HB.out.bel)
      | (with_reducible exact HS.out _ (sets_bel HB.out _ _ _ _ _ _ _ _ _ _ _ _ _ _))
      | (with_reducible exact HS.out _ HB.out.bel.drew))
    (first
      | (go_at_call 42; refine (HTm.out _ (by first | exact HG0.out.2 | exact HG2.out.2) _).mono ?_; rintro e w2 ⟨rfl, hb2⟩; have HB := hide (show LB w w2 from (by first | exact HB.out.kept hb2 | exact HB.out.drew.kept hb2)); unfold Trm.val; clear hb2; obtain ⟨⟨c0, c1, c2, c3, c4, c5, c6, c7, c8, c9, c10, c11, c12, c13⟩, f0, f1, f2, f3, f4, f5, f6, f7, f8, f9, f10, f11, f12, f13⟩ := boxL_cells HB.out.2))
  all_goals (
    have HFin := hide (rlit_fin HB.out ⟨3, ⟨⟨#[]⟩, .slice none 0 0, 0, []⟩, o.op, termP t, termP u, (t.off : Int)⟩ (N := w.heap.size + 1) ⟨i64_3, ⟨Nat.zero_le _, i64_0, Lst.nil _ _ _⟩, HG1.out.1.2.2.2.1, termP_ok HG0.out.1, termP_ok HG2.out.1, i64_off HG0.out.1⟩ (Nat.le_refl _) (.int .i64 3) (.string ⟨#[]⟩) (.slice none 0 0) (.int .i64 0) (.int .i64 o.op) (.int .i64 (termP t).k) (.int .i64 (termP t).n) (.string (termP t).s) (.int .i64 (termP t).off) (.int .i64 (termP u).k) (.int .i64 (termP u).n) (.string (termP u).s) (.int .i64 (termP u).off) (.int .i64 (t.off : Int)))
    go_wp2
    refine bodyPost_ret (rlitRes _ w.heap.size _ _ _ _ _ _ _ _ _ _ _ _ _ _ _ rfl HFin.out.1) rfl ⟨⟨3, ⟨⟨#[]⟩, .slice none 0 0, 0, []⟩, o.op, termP t, termP u, (t.off : Int)⟩, rfl, ?_, HFin.out.2.1, HFin.out.2.2⟩
    rw [HP.out]
    rfl)
theorem rlit_any {w : World} {v : Value} {P : List Tok} (h : Has elTok w v P) (hL : P.length ≤ 100000) (hP : LitOk P) :
    Calls Tryz.prog 47 #[v] w fun e w' => ∃ a : Lix, e = .returned a.val ∧ a.pur = litR P ∧ elLix.ok w' (fun b => w.heap.size ≤ b) a ∧ Below w.heap.size w w' := by
  match P, hP with
  | t :: r, hP =>
    by_cases h10 : t.k = 10
    · exact rlit_not h hL h10 (hP h10)
    · by_cases h11 : ∃ o u, r = [o, u] ∧ o.k = 11
      · obtain ⟨o, u, e, h11⟩ := h11
        exact rlit_test h e h10 h11
      · exact rlit_pos h hL h10 (fun o u e k => h11 ⟨o, u, e, k⟩)
end Go.Proofs.YtmdhjggijlhhgaaGreatDoor
