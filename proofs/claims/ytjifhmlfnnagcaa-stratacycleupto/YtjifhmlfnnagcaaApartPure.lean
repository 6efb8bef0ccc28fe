/- Components said over predicates: what the law of their being apart asks of them. -/
import Derived.Test.YtjifhmlfnnagcaaLawFit
import Derived.Test.YtjifhmlfnnagcaaLawFrom
namespace Go.Proofs.Ytjifhmlfnnagcaa
set_option linter.unusedSimpArgs false
set_option linter.unusedVariables false
open Go.RowKit Go.Maps

theorem Reach.rev {E : Nat → Nat → Prop} {a b : Nat} (h : Reach E a b) : Reach (fun x y => E y x) b a := by
  induction h with
  | refl => exact .refl _
  | tail h e ih => exact (Reach.one (E := fun x y => E y x) e).trans ih

theorem closed_in {E : Nat → Nat → Prop} {S : Nat → Bool} {a : Nat} (ha : S a = true) (hcl : ∀ u v, E u v → Mut E a u → Mut E a v → S u = true → S v = true) {c : Nat} (h : Reach E a c) : Reach E c a → S c = true := by
  induction h with
  | refl => exact fun _ => ha
  | tail h e ih =>
    intro hb
    have hb' := (Reach.one e).trans hb
    exact hcl _ _ e ⟨h, hb'⟩ ⟨h.tail e, hb⟩ (ih hb')

theorem lnk_edge {es : List Edg} {u v : Nat} (h : lnkT es u v = true) : ∃ e ∈ es, e.f = u ∧ e.t = v := by
  unfold lnkT at h
  obtain ⟨e, he, h1⟩ := List.any_eq_true.1 h
  unfold isE at h1
  simp at h1
  exact ⟨e, he, h1.1, h1.2⟩
theorem edge_lnk {es : List Edg} {u v : Nat} {e : Edg} (he : e ∈ es) (h1 : e.f = u) (h2 : e.t = v) : lnkT es u v = true := by
  unfold lnkT
  refine List.any_eq_true.2 ⟨e, he, ?_⟩
  unfold isE
  simp [h1, h2]

theorem from_closed {n : Nat} {es : List Edg} {H : Nat → Int} (back : Bool) (hH : ∀ v, v < n → LeastOf (Ed n (lnkT es)) v (H v)) {S I : Nat → Bool} {r : Int} {a c : Nat} (ha : a < n) (hc : c < n) (hHa : H a = r) (hHc : H c = r) (hI : ∀ p, p < n → H p = r → I p = true)
    (hS : S a = true ∧ ∀ x ∈ es, I (endU back x) = true → I (endV back x) = true → S (endU back x) = true → S (endV back x) = true) : S c = true := by
  have hm : Mut (Ed n (lnkT es)) a c := (least_eq (hH a ha) (hH c hc)).1 (by rw [hHa, hHc])
  have hIn : ∀ p, p < n → Mut (Ed n (lnkT es)) a p → I p = true := fun p hp h => hI p hp (by rw [← (least_eq (hH a ha) (hH p hp)).2 h, hHa])
  cases back with
  | false =>
    refine closed_in hS.1 (fun u v he hu hv hs => ?_) hm.1 hm.2
    obtain ⟨e, hee, e1, e2⟩ := lnk_edge he.2.2
    have h1 : endU false e = u := by unfold endU; simp [e1]
    have h2 : endV false e = v := by unfold endV; simp [e2]
    have := hS.2 e hee
    rw [h1, h2] at this
    exact this (hIn u he.1 hu) (hIn v he.2.1 hv) hs
  | true =>
    refine closed_in (E := fun x y => Ed n (lnkT es) y x) hS.1 (fun u v he hu hv hs => ?_) hm.2.rev hm.1.rev
    obtain ⟨e, hee, e1, e2⟩ := lnk_edge he.2.2
    have h1 : endU true e = u := by unfold endU; simp [e2]
    have h2 : endV true e = v := by unfold endV; simp [e1]
    have := hS.2 e hee
    rw [h1, h2] at this
    exact this (hIn u he.2.1 ⟨hu.2.rev, hu.1.rev⟩) (hIn v he.1 ⟨hv.2.rev, hv.1.rev⟩) hs

theorem idxOf_at : ∀ {l : List Nat} {i r : Nat}, l.Nodup → l[i]? = some r → l.idxOf r = i
  | [], _, _, _, h => by simp at h
  | a :: l, 0, r, _, h => by
    simp only [List.getElem?_cons_zero, Option.some.injEq] at h
    subst h
    simp [List.idxOf_cons]
  | a :: l, i + 1, r, nd, h => by
    simp only [List.getElem?_cons_succ] at h
    have hm : r ∈ l := List.mem_of_getElem? h
    have ne : a ≠ r := fun e => (List.nodup_cons.1 nd).1 (e ▸ hm)
    rw [List.idxOf_cons]
    have h2 : (a == r) = false := by simpa using ne
    rw [h2, idxOf_at (List.nodup_cons.1 nd).2 h]
    rfl

def whX (H : Nat → Int) (reps : List Nat) (p : Nat) : Int := (reps.idxOf (H p).toNat : Nat)
def whF (H : Nat → Int) (reps : List Nat) (D : Nat → Bool) (p : Nat) : Int := if D p then whX H reps p else -1
def dn (H : Nat → Int) (reps : List Nat) (i p : Nat) : Bool := (reps.take i).contains (H p).toNat
def dnL (D : Nat → Bool) (L : List Nat) (p : Nat) : Bool := D p || L.contains p
def cnt (n : Nat) (D : Nat → Bool) : Nat := (List.range n).countP D

theorem countP_one {f : Nat → Bool} {p : Nat} (hf : f p = false) : ∀ {l : List Nat}, l.Nodup → p ∈ l → l.countP (fun x => f x || x == p) = l.countP f + 1
  | [], _, h => by cases h
  | a :: l, nd, h => by
    rw [List.countP_cons, List.countP_cons]
    have nd' := List.nodup_cons.1 nd
    by_cases e : a = p
    · subst e
      have h1 : l.countP (fun x => f x || x == a) = l.countP f := List.countP_congr fun x hx => by
        have : x ≠ a := fun e => nd'.1 (e ▸ hx)
        simp [this]
      rw [h1, hf]
      simp
    · have hp : p ∈ l := (List.mem_cons.1 h).elim (fun h => absurd h.symm e) id
      rw [countP_one hf nd'.2 hp]
      have : (a == p) = false := by simpa using e
      rw [this, Bool.or_false]
      omega
theorem cnt_snoc {n : Nat} {D : Nat → Bool} {L : List Nat} {p : Nat} (hp : p < n) (h : dnL D L p = false) : cnt n (dnL D (L ++ [p])) = cnt n (dnL D L) + 1 := by
  unfold cnt
  rw [← countP_one h List.nodup_range (List.mem_range.2 hp)]
  refine List.countP_congr fun x _ => ?_
  unfold dnL
  by_cases e : x = p <;> simp [e]
theorem cnt_congr {n : Nat} {D E : Nat → Bool} (h : ∀ p, p < n → D p = E p) : cnt n D = cnt n E := by
  unfold cnt
  exact List.countP_congr fun x hx => by rw [h x (List.mem_range.1 hx)]
theorem cnt_all {n : Nat} {D : Nat → Bool} (h : ∀ p, p < n → D p = true) : cnt n D = n := by
  rw [cnt_congr (E := fun _ => true) h]
  unfold cnt
  simp
theorem cnt_le (n : Nat) (D : Nat → Bool) : cnt n D ≤ n := by
  unfold cnt
  have := List.countP_le_length (p := D) (l := List.range n)
  simpa using this
theorem whF_congr {n : Nat} {H : Nat → Int} {reps : List Nat} {D E : Nat → Bool} (h : ∀ p, p < n → D p = E p) : ∀ p, p < n → whF H reps D p = whF H reps E p := fun p hp => by unfold whF; rw [h p hp]

theorem mem_memL {H : Nat → Int} {n r p : Nat} : p ∈ memL H n r ↔ p < n ∧ H p = r := by
  unfold memL
  simp
theorem nd_memL (H : Nat → Int) (n r : Nat) : (memL H n r).Nodup := by
  unfold memL
  exact List.nodup_range.filter _

theorem dn_succ {n : Nat} {H : Nat → Int} {reps : List Nat} {i r : Nat} (hp0 : ∀ p, p < n → H p = ((H p).toNat : Nat)) (h : reps[i]? = some r) : ∀ p, p < n → dnL (dn H reps i) (memL H n r) p = dn H reps (i + 1) p := fun p hp => by
  unfold dnL dn
  rw [take_snoc8 h]
  have h0 := hp0 p hp
  have h1 : (memL H n r).contains p = ((H p).toNat == r) := by
    rw [Bool.eq_iff_iff]
    simp only [List.contains_iff_mem, mem_memL, beq_iff_eq]
    omega
  rw [h1]
  rw [Bool.eq_iff_iff]
  simp only [Bool.or_eq_true, List.contains_iff_mem, beq_iff_eq, List.mem_append, List.mem_singleton]
theorem dn_new {H : Nat → Int} {reps : List Nat} {i r : Nat} (hnd : reps.Nodup) (h : reps[i]? = some r) {L : List Nat} {p : Nat} (hp : H p = (r : Int)) (hL : p ∉ L) : dnL (dn H reps i) L p = false := by
  unfold dnL dn
  have h1 : (H p).toNat = r := by omega
  rw [h1]
  have h2 : r ∉ reps.take i := fun hm => by
    obtain ⟨j, hj, e⟩ := List.getElem_of_mem hm
    have hj' : j < i := by simp at hj; omega
    have e2 : reps[j]? = some r := by rw [← e, List.getElem_take]; exact List.getElem?_eq_getElem _
    have := idxOf_at hnd e2
    have := idxOf_at hnd h
    omega
  simp [h2, hL]
theorem whX_at {H : Nat → Int} {reps : List Nat} {i r : Nat} (hnd : reps.Nodup) (h : reps[i]? = some r) {p : Nat} (hp : H p = (r : Int)) : whX H reps p = i := by
  unfold whX
  have h1 : (H p).toNat = r := by omega
  rw [h1, idxOf_at hnd h]
theorem wh_le {n : Nat} {es : List Edg} {H : Nat → Int} {reps : List Nat} (hH : ∀ v, v < n → LeastOf (Ed n (lnkT es)) v (H v)) (hg : Greedy n (lnkT es) H reps) (hall : ∀ q, q < n → H q = q → q ∈ reps) {u v : Nat} (hu : u < n) (hv : v < n) (he : lnkT es u v = true) : whX H reps u ≤ whX H reps v := by
  by_cases e : H u = H v
  · unfold whX; rw [e]; exact Int.le_refl _
  · obtain ⟨h1, h2, h3, -⟩ := home_self hH hv
    obtain ⟨k, hk, hk2⟩ := List.getElem_of_mem (hall _ h1 h3)
    have hk3 : reps[k]? = some (H v).toNat := by rw [← hk2]; exact List.getElem?_eq_getElem _
    have h4 := (hg.step k _ hk3).1 u v hu hv he e h2
    obtain ⟨j, hj, e2⟩ := List.getElem_of_mem h4
    have hj' : j < k := by simp at hj; omega
    have e3 : reps[j]? = some (H u).toNat := by rw [← e2, List.getElem_take]; exact List.getElem?_eq_getElem _
    unfold whX
    rw [idxOf_at hg.nd hk3, idxOf_at hg.nd e3]
    omega
theorem dn_all {n : Nat} {es : List Edg} {H : Nat → Int} {reps : List Nat} (hH : ∀ v, v < n → LeastOf (Ed n (lnkT es)) v (H v)) (hall : ∀ q, q < n → H q = q → q ∈ reps) : ∀ p, p < n → dn H reps reps.length p = true := fun p hp => by
  obtain ⟨h1, h2, h3, -⟩ := home_self hH hp
  unfold dn
  rw [List.take_of_length_le (Nat.le_refl _)]
  simpa using hall _ h1 h3

/-- A list of its own: its cells. -/
theorem own_cells {w : World} {base : Nat} {e : TypeId} {v : Value} {l : List Value} (h : w.ownsRow base e 1 v l.length l) (hl : 0 < l.length) : ∃ g cap, v = .slice (some ⟨g, 0, none⟩) l.length cap ∧ l.length ≤ cap ∧ ∀ i x, l[i]? = some x → w.cell? ⟨g, i, none⟩ = some x := by
  rcases h.2 with ⟨_, h0⟩ | ⟨g, cap, cur, h1, h2, h3, h4, h5, h6, h7⟩
  · omega
  · refine ⟨g, cap, h1, h4, fun i x hi => ?_⟩
    have hil := (List.getElem?_eq_some_iff.1 hi).1
    have : cur.toList[i]? = some x := by
      rw [← h7, List.getElem?_take] at hi
      split at hi
      · exact hi
      · cases hi
    simp [World.cell?, h3]
    simpa using this
end Go.Proofs.Ytjifhmlfnnagcaa
