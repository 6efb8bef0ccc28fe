/- What taking a row back does to a Store in memory: lists and rows shortened by one, keys taken out. -/
import Derived.Test.YtcofoddjcgmmkaaStoreMem
namespace Go.Proofs.Ytcofoddjcgmmkaa
set_option linter.unusedSimpArgs false
set_option linter.unusedVariables false
open Go.RowKit Go.Maps
open Go.WideMaps (KeyLaw)

section
variable {P : Program} {tk te ty t e : TypeId} {w w' : World} {own own' : Own} {m n size : Nat} {L : Lit → List Int} {tl : Lit → Tag} {tm tag : Tag} {v : Value} {xs : List Value}

/-- x[:k]. -/
theorem RowIs.cut {ao : Option Addr} {cap k : Nat} (h : RowIs w own tag e size (.slice ao n cap) n xs) (hk : k ≤ n) (hn : 0 < n) : RowIs w own tag e size (.slice ao k cap) k (xs.take (k * size)) := by
  obtain ⟨⟨h1, h2⟩, h3⟩ := h
  have hks : k * size ≤ n * size := Nat.mul_le_mul_right _ hk
  rcases h2 with ⟨hv, h0⟩ | ⟨g, cap', cur, hv, hb, hh, r1, r2, r3, r4⟩
  · omega
  · simp only [Value.slice.injEq] at hv
    obtain ⟨rfl, _, rfl⟩ := hv
    refine ⟨⟨by rw [List.length_take, h1, Nat.min_eq_left hks], .inr ⟨g, cap, cur, rfl, hb, hh, by omega, r2, r3, ?_⟩⟩, fun g' hg' => h3 g' hg'⟩
    rw [← r4, List.take_take, Nat.min_eq_left hks]

theorem ints_take (l : List Int) (k : Nat) : (ints l).take k = ints (l.take k) := (List.map_take ..).symm

/-- The last of a key's list is taken out, and it is not the only one. -/
theorem LMap.less (h : LMap P tk ty w own tm tl m n L) (K : Keyed P tk) (ht : P.underlying t = some (.map tk te)) (hn : n < maxLen) (htl : ∀ a b, tl a = tl b → a = b) (htm : ∀ l, tl l ≠ tm) {key : Value} {l : Lit} (hkey : keyOf P tk key = some l)
    {zs : List Int} {x : Int} (hl : L l = zs ++ [x]) (hzs : zs ≠ []) {ao : Option Addr} {cap : Nat} (hv : RowIs w own (tl l) ty 1 (.slice ao (zs.length + 1) cap) (zs.length + 1) (ints (zs ++ [x]))) :
    ∃ w', (Instr.mapUpdate t (.map (some m)) key (.slice ao zs.length cap)).run P w = .ok () w' ∧ LMap P tk ty w' own tm tl m (n + 1) (setL L l zs) ∧ Turn (fun t => t = tm) own own w w' := by
  obtain ⟨h1, V, hV, hR⟩ := h
  obtain ⟨w', hrun, hM, hO⟩ := hV.store (t := t) K ht hn hkey (.slice ao zs.length cap)
  have hT : Turn (fun t => t = tm) own own w w' := ⟨hO.mono (fun k _ e => ⟨tm, by rw [e]; exact h1, rfl⟩), fun _ _ => rfl⟩
  have hc := hv.cut (k := zs.length) (by omega) (by omega)
  rw [Nat.mul_one, ints_take, List.take_left] at hc
  refine ⟨w', hrun, ⟨h1, _, hM, ?_⟩, hT⟩
  exact LMap.rows_after htl hzs hR hT (fun l' _ e => htm l' e) (hc.keep hT (fun e => htm l e))

/-- The only one of a key's list is taken out, and the key with it. -/
theorem LMap.gone (h : LMap P tk ty w own tm tl m n L) (K : Keyed P tk) (ht : P.underlying t = some (.map tk te)) (htm : ∀ l, tl l ≠ tm) {key : Value} {l : Lit} (hkey : keyOf P tk key = some l) (ty' : TypeId) :
    ∃ w', (Builtin.delete_ #[t, tk] ty' #[.map (some m), key]).run P w = .ok (.tuple #[]) w' ∧ LMap P tk ty w' own tm tl m n (setL L l []) ∧ Turn (fun t => t = tm) own own w w' := by
  obtain ⟨h1, V, hV, hR⟩ := h
  obtain ⟨w', hrun, hM, hO⟩ := hV.drop (t := t) K ht hkey ty'
  have hT : Turn (fun t => t = tm) own own w w' := ⟨hO.mono (fun k _ e => ⟨tm, by rw [e]; exact h1, rfl⟩), fun _ _ => rfl⟩
  refine ⟨w', hrun, ⟨h1, _, hM, fun l' => ?_⟩, hT⟩
  by_cases e : l' = l
  · subst e
    rw [setV_same, setL_same]
    exact .inl ⟨rfl, rfl⟩
  · rw [setV_other _ _ e, setL_other _ _ e]
    rcases hR l' with h2 | ⟨v, h2, h3, h4⟩
    · exact .inl h2
    · exact .inr ⟨v, h2, h3, h4.keep hT (fun e => htm l' e)⟩
end

section
variable {w w' w0 w1 : World} {own own' : Own} {p : Nat} {L : Loc} {S : Sto} {A : Tag → Prop}

/-- s.births = s.births[:k]. -/
theorem Raw.cut_births (h : Raw w own p L S) {ao : Option Addr} {cap k : Nat} (hv : L.vb = .slice ao S.bs.length cap) (hk : k ≤ S.bs.length) (hn : 0 < S.bs.length) :
    Raw (w.setCell ⟨p, 2, none⟩ (.slice ao k cap)) own p { L with vb := .slice ao k cap } { S with bs := S.bs.take k } ∧ Turn (fun t => t = .me) own own w (w.setCell ⟨p, 2, none⟩ (.slice ao k cap)) := by
  have hT : Turn (fun t => t = .me) own own w (w.setCell ⟨p, 2, none⟩ (.slice ao k cap)) := (Turn.refl (fun t => t = .me) _ _).setCell h.tme (by simp) _
  refine ⟨⟨?_, h.tme, h.ar.keep hT (by simp), h.rows.keep hT (by simp), ?_, h.backs.keep hT (by simp), fun i v hv => ?_, h.tnums, (numsKeep (L := L) (S := S) h hT (by simp) : MapIs Try.prog 56 3 _ L.m1 L.n1 S.N), h.of.keep hT (by simp) (by simp), h.wh.keep hT (by simp) (by simp)⟩, hT⟩
  · rw [me_set h.me]; simp
  · have hb := h.births
    rw [hv] at hb
    have := (hb.cut hk hn).keep hT (by simp)
    rw [Nat.mul_one, ints_take] at this
    have e : (S.bs.take k).length = k := by rw [List.length_take]; omega
    show RowIs _ _ _ _ _ (.slice ao k cap) (S.bs.take k).length (ints (S.bs.take k))
    rw [e]
    exact this
  · obtain ⟨c', h1, h2⟩ := h.bk i v hv
    exact ⟨c', h1, h2.keep hT (by simp)⟩

/-- s.rows = s.rows[:k]; s.backs[k] = nil; s.backs = s.backs[:k]. -/
theorem Raw.cut_last (h : Raw w own p L S) {C : List (List Int)} {c : List Int} {ks : List Value} {b : Value} (hC : S.C = C ++ [c]) (hc : ∀ x ∈ S.C, x.length = 9) (hks : S.ks = ks ++ [b]) (hl : ks.length = C.length) {k : Nat} (hk : C.length = k)
    {ao bo : Option Addr} {cap bcap : Nat} (hv : L.vr = .slice ao (k + 1) cap) (hb : L.vk = .slice bo (k + 1) bcap) {g : Nat} (hg : bo = some ⟨g, 0, none⟩) (u : Value) :
    Raw (((w.setCell ⟨p, 1, none⟩ (.slice ao k cap)).setCell ⟨g, k, none⟩ u).setCell ⟨p, 3, none⟩ (.slice bo k bcap)) own p { L with vr := .slice ao k cap, vk := .slice bo k bcap } { S with C := C, ks := ks } ∧
      Turn (fun t => t = .me ∨ t = .backs) own own w (((w.setCell ⟨p, 1, none⟩ (.slice ao k cap)).setCell ⟨g, k, none⟩ u).setCell ⟨p, 3, none⟩ (.slice bo k bcap)) := by
  have hbk := h.backs
  rw [hb, hks, List.length_append, List.length_singleton, hl, hk] at hbk
  have hrw := h.rows
  rw [hv, hC, List.length_append, List.length_singleton, hk] at hrw
  have hog : own g = some .backs := hbk.2 g (by rw [hg]; rfl)
  have hgp : g ≠ p := fun e => by rw [e, h.tme] at hog; cases hog
  have hlg : g < w.heap.size := by
    rcases hbk.1.2 with ⟨_, h0⟩ | ⟨g', cap', cur, e, hb', hh, _⟩
    · omega
    · simp only [Value.slice.injEq, hg, Option.some.injEq, Addr.mk.injEq, and_true] at e
      rw [e.1]; exact lt_of_block hh
  have hT : Turn (fun t => t = .me ∨ t = .backs) own own w (((w.setCell ⟨p, 1, none⟩ (.slice ao k cap)).setCell ⟨g, k, none⟩ u).setCell ⟨p, 3, none⟩ (.slice bo k bcap)) :=
    (((Turn.refl _ own w).setCell (q := ⟨p, 1, none⟩) h.tme (.inl rfl) _).setCell (q := ⟨g, k, none⟩) hog (.inr rfl) _).setCell (q := ⟨p, 3, none⟩) h.tme (.inl rfl) _
  have hCl : ∀ x ∈ C, (ints x).length = 9 := fun x hx => by rw [List.length_map]; exact hc x (by rw [hC]; simp [hx])
  have hfl : (C.flatMap ints).length = k * 9 := by
    have : ∀ D : List (List Int), (∀ x ∈ D, (ints x).length = 9) → (D.flatMap ints).length = D.length * 9 := fun D => by
      induction D with
      | nil => simp
      | cons a r ih =>
        intro hD
        rw [List.flatMap_cons, List.length_append, hD a (by simp), ih (fun x hx => hD x (by simp [hx])), List.length_cons, Nat.succ_mul]
        omega
    rw [this C hCl, hk]
  refine ⟨⟨?_, h.tme, h.ar.keep hT (by simp), ?_, h.births.keep hT (by simp), ?_, fun i v hv => ?_, h.tnums, (numsKeep (L := L) (S := S) h hT (by simp) : MapIs Try.prog 56 3 _ L.m1 L.n1 S.N), h.of.keep hT (by simp) (by simp), h.wh.keep hT (by simp) (by simp)⟩, hT⟩
  · have e1 := me_set (j := 1) h.me (.slice ao k cap)
    have e2 : ((w.setCell ⟨p, 1, none⟩ (.slice ao k cap)).setCell ⟨g, k, none⟩ u).heap[p]? = (w.setCell ⟨p, 1, none⟩ (.slice ao k cap)).heap[p]? := Below.heap_setCell _ _ _ _ (Ne.symm hgp)
    rw [e1] at e2
    rw [me_set e2]
    simp
  · have h2 := (hrw.cut (k := k) (by omega) (by omega)).keep hT (by simp)
    rw [List.flatMap_append, ← hfl, List.take_left] at h2
    show RowIs _ _ _ _ _ (.slice ao k cap) C.length (C.flatMap ints)
    rw [hk]
    exact h2
  · have h2 := hbk.cut (k := k) (by omega) (by omega)
    rw [Nat.mul_one, ← hk, ← hl, List.take_left] at h2
    show RowIs _ _ _ _ _ (.slice bo k bcap) ks.length ks
    rw [hl, hk] at h2 ⊢
    obtain ⟨⟨q1, q2⟩, q3⟩ := h2
    refine ⟨⟨q1, ?_⟩, q3⟩
    rcases q2 with ⟨e, h0⟩ | ⟨g', cap', cur, e, hb', hh, r1, r2, r3, r4⟩
    · exact .inl ⟨e, h0⟩
    · simp only [Value.slice.injEq, hg, Option.some.injEq, Addr.mk.injEq, and_true] at e
      obtain ⟨rfl, -, rfl⟩ := e
      refine .inr ⟨g, bcap, cur.setIfInBounds k u, by rw [hg], hb', ?_, r1, r2, by simpa using r3, ?_⟩
      · have e1 : (w.setCell ⟨p, 1, none⟩ (.slice ao k cap)).heap[g]? = some (.cells cur 1 (0, 0)) := by rw [Below.heap_setCell _ _ _ _ hgp]; exact hh
        rw [Below.heap_setCell _ _ _ _ hgp, me_set e1]
      · rw [← r4]
        apply List.ext_getElem?
        intro j
        rcases Nat.lt_or_ge j (k * 1) with hj | hj
        · rw [List.getElem?_take_of_lt hj, List.getElem?_take_of_lt hj]
          simp only [Array.getElem?_toList]
          rw [Array.getElem?_setIfInBounds_ne (by omega)]
        · rw [List.getElem?_eq_none (by rw [List.length_take]; omega), List.getElem?_eq_none (by rw [List.length_take]; omega)]
  · have hv' : ks[i]? = some v := hv
    have hi := (List.getElem?_eq_some_iff.1 hv').1
    obtain ⟨c', h1, h2⟩ := h.bk i v (by rw [hks, List.getElem?_append_left hi]; exact hv')
    refine ⟨c', ?_, h2.keep hT (by simp)⟩
    rw [hC, List.getElem?_append_left (by omega)] at h1
    exact h1
end
end Go.Proofs.Ytcofoddjcgmmkaa
