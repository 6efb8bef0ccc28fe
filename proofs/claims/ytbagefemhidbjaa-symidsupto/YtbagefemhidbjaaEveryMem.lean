/- What the two loops of edictlaw01's every keep. -/
import Derived.Test.YtbagefemhidbjaaCutShort
import Derived.Test.YtbagefemhidbjaaNewStr
namespace Go.Proofs.Ytbagefemhidbjaa
set_option linter.unusedSimpArgs false
set_option linter.unusedVariables false
open Go.RowKit Go.Maps Go.Shelf

/-- Are the ids that came 0, 1, 2, ..? -/
def okI (pre : List (Nat × ByteArray)) : Bool := pre.map (·.1) == List.range pre.length
theorem uptoS_take (ks : List ByteArray) {k : Nat} (h : k ≤ ks.length) : (uptoS ks k).map (·.2) = ks.take k := by
  apply List.ext_getElem
  · simp [uptoS, h]
  · intro i h1 h2
    have : i < ks.length := by simp at h2; omega
    simp [uptoS, this]
theorem okI_nil : okI [] = true := rfl
theorem okI_upto (ks : List ByteArray) (k : Nat) : okI (uptoS ks k) = true := by
  unfold okI
  rw [uptoS_length, beq_iff_eq]
  unfold uptoS
  rw [List.map_map]
  exact List.map_id _
theorem okI_snoc (pre : List (Nat × ByteArray)) (x : Nat × ByteArray) : okI (pre ++ [x]) = (okI pre && ((x.1 : Int) == (pre.length : Int))) := by
  unfold okI
  rw [List.map_append, List.length_append, List.length_singleton, List.range_succ]
  rw [Bool.eq_iff_iff]
  simp only [beq_iff_eq, Bool.and_eq_true]
  constructor
  · intro h
    obtain ⟨h1, h2⟩ := List.append_inj' h (by simp)
    simp only [List.map_cons, List.map_nil, List.cons.injEq, and_true] at h2
    exact ⟨h1, by omega⟩
  · rintro ⟨h1, h2⟩
    rw [h1, List.map_cons, List.map_nil, show x.1 = pre.length by omega]

theorem size_setCellS (W : World) (a : Addr) (v : Value) : (W.setCell a v).heap.size = W.heap.size := by simp [World.setCell]

/-- Behind an append and the store into the list's box another box is as it was. -/
theorem boxed_app {W w2 : World} {tmp : Obj} {v v' : Value} {B Bi : Nat} {t : TypeId} {u : Value} {xs : List Value} {n b : Nat} (h : Boxed W B t u) (ht : t ≠ 9) (hne : B ≠ Bi) (hrow : W.ownsRow b 9 1 v n xs) (hg : (W.alloc tmp).grownBy w2 v.ownBlock) : Boxed (w2.setCell ⟨Bi, 0, none⟩ v') B t u :=
  ((h.alloc tmp).kept hg (h.not_row ht hrow)).other hne v'

theorem only_app {W w2 : World} {S : Nat → Prop} {w0 : World} {tmp : Obj} {v v' : Value} {Bi b n : Nat} {xs : List Value} (h : Only S w0 W) (hrow : W.ownsRow b 9 1 v n xs) (hb : w0.heap.size ≤ b) (hS : S Bi) (hg : (W.alloc tmp).grownBy w2 v.ownBlock) : Only S w0 (w2.setCell ⟨Bi, 0, none⟩ v') :=
  ((h.alloc tmp).grown hg (fun k e hk => by have := (hrow.lt k e).1; omega)).setCell (p := ⟨Bi, 0, none⟩) hS v'

theorem own_mono1 {v : Value} {b b' : Nat} {W : World} {e : TypeId} {n : Nat} {xs : List Value} (h : W.ownsRow b e 1 v n xs) (hb : b' ≤ b) : W.ownsRow b' e 1 v n xs := by
  refine ⟨h.1, ?_⟩
  rcases h.2 with h0 | ⟨g, cap, cur, hv, hbase, rest⟩
  · exact .inl h0
  · exact .inr ⟨g, cap, cur, hv, by omega, rest⟩

theorem app2 {W w2 : World} {n₀ b Bi : Nat} {t : TypeId} {v v' : Value} {k m : Nat} {xs ys : List Value} {tmp : Obj}
    (hv : Boxed W Bi t v) (hte : t ≠ 9) (hrow : W.ownsRow b 9 1 v k xs) (hn₀ : n₀ ≤ W.heap.size) (hb : n₀ ≤ b) (hB : n₀ ≤ Bi) (hown' : w2.ownsRow b 9 1 v' m ys) (hgrow : (W.alloc tmp).grownBy w2 v.ownBlock) :
    Boxed w2 Bi t v ∧ Boxed (w2.setCell ⟨Bi, 0, none⟩ v') Bi t v' ∧ (w2.setCell ⟨Bi, 0, none⟩ v').ownsRow b 9 1 v' m ys ∧ KeepsOthers W (w2.setCell ⟨Bi, 0, none⟩ v') ∧ Below n₀ W (w2.setCell ⟨Bi, 0, none⟩ v') := by
  obtain ⟨h1, h2, h3, h4, h5⟩ := hv.appended hte (own_mono1 hrow hb) hn₀ hB (own_mono1 hown' hb) hgrow
  exact ⟨h1, h2, ownsRow_setCell_other hown' (a := ⟨Bi, 0, none⟩) (fun e => h1.not_row hte hown' e.symm) _, h4, h5⟩

theorem only_own {β : Type} {S : Nat → Prop} {w0 : World} : OwnFrom w0.heap.size (fun (_ : β) W => Only S w0 W) :=
  fun _ _ _ _ hs hg hr => hs.grown hg (fun k e hk => by have := (hr k e).1; omega)
end Go.Proofs.Ytbagefemhidbjaa
