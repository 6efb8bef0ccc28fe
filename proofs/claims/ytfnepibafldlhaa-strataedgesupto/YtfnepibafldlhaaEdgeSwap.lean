/- Rules whose slots are not followed; the two kinds of atoms changed for one another in place. -/
import Derived.Test.YtfnepibafldlhaaAloneEdge
namespace Go.Proofs.Ytfnepibafldlhaa
set_option linter.unusedSimpArgs false
set_option linter.unusedVariables false
open Go.RowKit Go.Maps

theorem Lst.sub {α : Type} {E D : El α} (hs : E.size = D.size) (hc : ∀ x, E.cells x = D.cells x) {w : World} {F : Nat → Prop} {v : Value} {l : List α} (h : Lst E w F v l) (hok : ∀ x, E.ok w F x → D.ok w F x) : Lst D w F v l := by
  obtain ⟨ao, cap, e, h1, h2, h3, h4, h5⟩ := h
  refine ⟨ao, cap, e, h1, h2, h3, fun x hx => hok x (h4 x hx), fun hp => ?_⟩
  obtain ⟨b, off, e2, hb, hF, hcc⟩ := h5 hp
  exact ⟨b, off, e2, hb, hF, fun i x hx j u hu => by rw [← hs]; exact hcc i x hx j u (by rw [hc]; exact hu)⟩
theorem lst_slice {α : Type} {E : El α} {w : World} {F : Nat → Prop} {v : Value} {l : List α} (h : Lst E w F v l) : SliceV v := by
  obtain ⟨ao, cap, e, _⟩ := h.shape
  exact ⟨_, _, _, e⟩
theorem pq_of {w : World} {F : Nat → Prop} {c : Pat} (h : elPat.ok w F c) : elPq.ok w F c := ⟨(elPat_ok h).1, lst_slice (elPat_ok h).2⟩
theorem pqs_of {w : World} {F : Nat → Prop} {v : Value} {l : List Pat} (h : Lst elPat w F v l) : Lst elPq w F v l := Lst.sub (E := elPat) (D := elPq) rfl (fun _ => rfl) h fun _ hx => pq_of hx
theorem rqs_of {w : World} {F : Nat → Prop} {v : Value} {l : List Rul} (h : Lst elRul w F v l) : Lst elRq w F v l := Lst.sub (E := elRul) (D := elRq) rfl (fun _ => rfl) h fun _ hx => by
  have h2 := elRul_ok hx
  exact ⟨pq_of h2.1, pqs_of h2.2.1, lst_slice h2.2.2.1, pqs_of h2.2.2.2.1, lst_slice h2.2.2.2.2.1, h2.2.2.2.2.2⟩

/-- The rule with its positive atoms negated and the other way round. -/
def swapR (r : Rul) : Rul := ⟨r.h, r.nv, r.ns, r.tv, r.ts, r.pv, r.ps, r.vv, r.vs, r.c⟩
theorem rul_flat_set {r : Rul} : ∀ (l : List Rul) (i : Nat), l[i]? = some r → (l.set i (swapR r)).flatMap elRq.cells = ((l.flatMap elRq.cells).set (i * 7 + 2) r.nv).set (i * 7 + 4) r.pv
  | [], i, h => by simp at h
  | a :: l, 0, h => by
    simp only [List.getElem?_cons_zero, Option.some.injEq] at h
    subst h
    simp [elRq, swapR]
  | a :: l, i + 1, h => by
    rw [List.getElem?_cons_succ] at h
    rw [List.set_cons_succ, List.flatMap_cons, rul_flat_set l i h, List.flatMap_cons]
    rw [show (i + 1) * 7 + 2 = i * 7 + 2 + 1 + 1 + 1 + 1 + 1 + 1 + 1 by omega, show (i + 1) * 7 + 4 = i * 7 + 4 + 1 + 1 + 1 + 1 + 1 + 1 + 1 by omega]
    rfl
theorem edges_swap {r : Rul} : ∀ (l : List Rul) (k i : Nat), l[i]? = some r → (edgesFrom k (l.set i (swapR r))).length = (edgesFrom k l).length
  | [], k, i, h => by simp at h
  | a :: l, k, 0, h => by
    simp only [List.getElem?_cons_zero, Option.some.injEq] at h
    subst h
    simp only [List.set_cons_zero, edgesFrom, edgR, swapR, List.length_append, List.length_map]
    omega
  | a :: l, k, i + 1, h => by
    rw [List.getElem?_cons_succ] at h
    simp only [List.set_cons_succ, edgesFrom, List.length_append, edges_swap l (k + 1) i h]
theorem Grow.swapRul {e : TypeId} {base : Nat} {w : World} {g cap n : Nat} {l : List Rul} (h : Grow elRq e base w (.slice (some ⟨g, 0, none⟩) n cap) l) {i : Nat} {r : Rul} (hx : l[i]? = some r) :
    Grow elRq e base ((w.setCell ⟨g, i * 7 + 2, none⟩ r.nv).setCell ⟨g, i * 7 + 4, none⟩ r.pv) (.slice (some ⟨g, 0, none⟩) n cap) (l.set i (swapR r)) ∧
      (w.cell? ⟨g, i * 7 + 2, none⟩ = some r.pv ∧ w.cell? ⟨g, i * 7 + 4, none⟩ = some r.nv ∧ (w.setCell ⟨g, i * 7 + 2, none⟩ r.nv).cell? ⟨g, i * 7 + 4, none⟩ = some r.nv) ∧ (∀ j, w.frozen? ⟨g, j, none⟩ = false) ∧ (∀ j, (w.setCell ⟨g, i * 7 + 2, none⟩ r.nv).frozen? ⟨g, j, none⟩ = false) ∧ elRq.ok w (fun b => base ≤ b ∧ (Value.slice (some ⟨g, 0, none⟩) n cap).ownBlock ≠ some b) r := by
  have hn := grow_num h
  subst hn
  obtain ⟨a1, b1⟩ := h.1.stored (i * 7 + 2) r.nv
  obtain ⟨a2, b2⟩ := a1.stored (i * 7 + 4) r.pv
  have hr := h.2 r (List.mem_of_getElem? hx)
  have hm : ∀ z, elRq.ok w (fun b => base ≤ b ∧ (Value.slice (some ⟨g, 0, none⟩) l.length cap).ownBlock ≠ some b) z → elRq.ok ((w.setCell ⟨g, i * 7 + 2, none⟩ r.nv).setCell ⟨g, i * 7 + 4, none⟩ r.pv) (fun b => base ≤ b ∧ (Value.slice (some ⟨g, 0, none⟩) l.length cap).ownBlock ≠ some b) z := fun z hz => elRq.move hz fun b hb hF => ⟨hF, by
    have hne : b ≠ g := fun e => hF.2 (by rw [e]; rfl)
    rw [Below.heap_setCell _ _ _ _ hne, Below.heap_setCell _ _ _ _ hne]⟩
  refine ⟨⟨?_, fun z hz => ?_⟩, ⟨own_at h.1 (flatE_at elRq l i 2 r hx (by decide)), own_at h.1 (flatE_at elRq l i 4 r hx (by decide)), own_at a1 ?_⟩, fun j => h.1.frozenAt j, fun j => a1.frozenAt j, hr⟩
  · rw [rul_flat_set l i hx, List.length_set]; exact a2
  · rcases List.mem_or_eq_of_mem_set hz with h3 | h3
    · exact hm z (h.2 z h3)
    · rw [h3]
      have h4 := elRq_ok (hm r hr)
      exact ⟨h4.1, h4.2.2.2.1, h4.2.2.1, h4.2.1, h4.2.2.2.2.1, h4.2.2.2.2.2⟩
  · rw [List.getElem?_set_ne (by omega)]
    exact flatE_at elRq l i 4 r hx (by decide)
/-- The law's other rule. -/
def othR (s : Nat) : Rul := ⟨⟨0, .slice none 0 0, []⟩, .slice (some ⟨s, 0, none⟩) 1 1, [⟨1, .slice none 0 0, []⟩], .slice none 0 0, [], .slice (some ⟨s + 1, 0, none⟩) 1 1, [⟨2, .slice none 0 0, []⟩], .slice none 0 0, [], 3⟩
theorem oth_at (V : World) : Has elRq (((V.alloc (.cells #[.int .i64 1, .slice none 0 0] 28)).alloc (.cells #[.int .i64 2, .slice none 0 0] 28)).alloc (.cells #[.int .i64 0, .slice none 0 0, .slice (some ⟨V.heap.size, 0, none⟩) 1 1, .slice none 0 0, .slice (some ⟨V.heap.size + 1, 0, none⟩) 1 1, .slice none 0 0, .int .i64 3] 33)) (.slice (some ⟨V.heap.size + 1 + 1, 0, none⟩) 1 1) [othR V.heap.size] := by
  have hok : ∀ (W : World) (z : Int), (z = 1 ∨ z = 2) → ∀ x ∈ [(⟨z, .slice none 0 0, []⟩ : Pat)], elPq.ok W (fun _ => True) x := fun W z hz x hx => by
    simp only [List.mem_singleton] at hx
    subst hx
    refine ⟨?_, _, _, _, rfl⟩
    rcases hz with rfl | rfl <;> exact ⟨by decide, by decide⟩
  have hP := has_new elPq V 28 [⟨1, .slice none 0 0, []⟩] #[.int .i64 1, .slice none 0 0] rfl (F := fun _ => True) trivial (hok _ 1 (.inl rfl)) (by simp)
  generalize (Obj.cells #[Value.int .i64 1, .slice none 0 0] 28) = o at hP ⊢
  obtain ⟨W, hW⟩ : ∃ W, V.alloc o = W := ⟨_, rfl⟩
  have s : W.heap.size = V.heap.size + 1 := by rw [← hW]; simp
  rw [hW] at hP ⊢
  have hQ := has_new elPq W 28 [⟨2, .slice none 0 0, []⟩] #[.int .i64 2, .slice none 0 0] rfl (F := fun _ => True) trivial (hok _ 2 (.inr rfl)) (by simp)
  have hP2 := hP.kept (belo1 W (.cells #[.int .i64 2, .slice none 0 0] 28))
  generalize (Obj.cells #[Value.int .i64 2, .slice none 0 0] 28) = o2 at hQ hP2 ⊢
  obtain ⟨X, hX⟩ : ∃ X, W.alloc o2 = X := ⟨_, rfl⟩
  have s2 : X.heap.size = V.heap.size + 1 + 1 := by rw [← hX, ← s]; simp
  rw [hX] at hQ hP2 ⊢
  rw [s] at hQ
  have hR := has_new elRq X 33 [othR V.heap.size] #[.int .i64 0, .slice none 0 0, .slice (some ⟨V.heap.size, 0, none⟩) 1 1, .slice none 0 0, .slice (some ⟨V.heap.size + 1, 0, none⟩) 1 1, .slice none 0 0, .int .i64 3] rfl (F := fun _ => True) trivial (fun x hx => by
    simp only [List.mem_singleton] at hx
    subst hx
    exact ⟨⟨⟨by simp [othR], by simp [othR]⟩, _, _, _, rfl⟩, hP2.kept (belo1 _ _), ⟨_, _, _, rfl⟩, hQ.kept (belo1 _ _), ⟨_, _, _, rfl⟩, ⟨by simp [othR], by simp [othR]⟩⟩) (by simp)
  rw [s2] at hR
  exact hR
end Go.Proofs.Ytfnepibafldlhaa
