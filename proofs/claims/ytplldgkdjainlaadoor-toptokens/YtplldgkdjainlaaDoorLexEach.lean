/- What lex.Each does with a function that collects. -/
import Derived.Test.YtplldgkdjainlaaDoorProg
import Derived.Test.YtplldgkdjainlaaDoorLexEachPure
import Derived.Test.YtplldgkdjainlaaDoorLexColl
import Derived.Deep.LoopGhost
namespace Go.Proofs.YtplldgkdjainlaaDoor
set_option linter.unusedSimpArgs false
set_option linter.unusedVariables false
open Go.RowKit

theorem Below.laid {w w' : World} {p : Nat} (h : LexLaid w) (hb : Below p w w') (hp : 2 < p ∧ 3 < p ∧ 4 < p) : LexLaid w' where
  syn := by obtain ⟨t, q, e⟩ := h.syn; exact ⟨t, q, below_cell hb e hp.2.1⟩
  rng := by obtain ⟨t, q, e⟩ := h.rng; exact ⟨t, q, below_cell hb e hp.2.2⟩
  marks i v hv := below_cell hb (h.marks i v hv) hp.1

/-- What a collecting function that is handed in does, called at a token. -/
def Collects (f : Nat) (cb : Array Value) (p : Nat) (ans : Nat → Bool) (w : World) : Prop :=
  ∀ (W : World) (v : Value) (L : List Tok) (t : Tok), Coll W p v L → L.length ≤ 65536 → Below p w W →
    Calls Tryd.prog f (#[t.val] ++ cb) W fun e W' => e = .returned (.bool (ans L.length)) ∧ ∃ v', Coll W' p v' (L ++ [t]) ∧ Step W W' p v v'

theorem Step.below {W W' : World} {p : Nat} {v v' : Value} {L : List Tok} (h : Step W W' p v v') (hc : Coll W p v L) : Below p W W' :=
  h.only.below (Nat.le_of_lt hc.lt) (fun k hk hs => by
    rcases hs with rfl | e
    · omega
    · have := (hc.blk e).1; omega)

def box3 (b : Nat) (W : World) (x y z : Int) : Prop := W.heap[b]? = some (.cells #[.int .i64 x, .int .i64 y, .int .i64 z] 25 (0, 0))

theorem box3.kept {b : Nat} {W W' : World} {x y z : Int} (h : box3 b W x y z) (hb : Below W.heap.size W W') : box3 b W' x y z := by
  unfold box3 at *
  rw [hb.block b (Array.getElem?_eq_some_iff.1 h).1]; exact h
theorem box3.step {b p : Nat} {W W' : World} {v v' : Value} {x y z : Int} (h : box3 b W x y z) (hs : Step W W' p v v') (h1 : b ≠ p) (h2 : v.ownBlock ≠ some b) : box3 b W' x y z := by
  unfold box3 at *
  rw [hs.only.block b (Array.getElem?_eq_some_iff.1 h).1 (fun e => by rcases e with e | e; exact h1 e; exact h2 e)]; exact h

theorem box3.cells {b : Nat} {W : World} {x y z : Int} (h : box3 b W x y z) : W.cell? ⟨b, 0, none⟩ = some (.int .i64 x) ∧ W.cell? ⟨b, 1, none⟩ = some (.int .i64 y) ∧ W.cell? ⟨b, 2, none⟩ = some (.int .i64 z) ∧
    W.frozen? ⟨b, 0, none⟩ = false ∧ W.frozen? ⟨b, 1, none⟩ = false ∧ W.frozen? ⟨b, 2, none⟩ = false ∧ b < W.heap.size := by
  unfold box3 at h
  refine ⟨?_, ?_, ?_, ?_, ?_, ?_, (Array.getElem?_eq_some_iff.1 h).1⟩ <;> simp [World.cell?, World.frozen?, h]

theorem box3.put {b : Nat} {X : World} {x y z : Int} (h : box3 b X x y z) (a c d : Int) : box3 b (((X.setCell ⟨b, 0, none⟩ (.int .i64 a)).setCell ⟨b, 1, none⟩ (.int .i64 c)).setCell ⟨b, 2, none⟩ (.int .i64 d)) a c d := by
  unfold box3 at *
  simp [World.setCell, Array.getElem?_modify, h]
theorem box3.two {b : Nat} {X : World} {x y z : Int} (h : box3 b X x y z) (o o' : Obj) : box3 b ((X.alloc o).alloc o') x y z := h.kept (below2 X o o')

theorem each_results {Z : World} {b : Nat} {c o : Int} (h : box3 b Z c 0 o) (tmps : Array Value) (ht : tmps.getD 4 undef = .pointer (some ⟨b, 0, none⟩)) :
    (results Tryd.f7 tmps).run Tryd.prog Z = .ok (.agg #[.int .i64 c, .int .i64 0, .int .i64 o]) Z := by
  obtain ⟨x0, x1, x2, _⟩ := h.cells
  have ht' : tmps[4]?.getD undef = .pointer (some ⟨b, 0, none⟩) := by rw [← ht]; simp [Array.getD_eq_getD_getElem?]
  simp [results, Tryd.results7, go_sem, ht', x0, x1, x2]

/-- Behind a store into Each's own box and two new blocks, nothing below the box is changed. -/
theorem Below.put {p b : Nat} {w X : World} (h : Below p w X) (hb : p ≤ b) (u1 u2 u3 : Value) (o o' : Obj) (hs : p ≤ X.heap.size) :
    Below p w (((((X.setCell ⟨b, 0, none⟩ u1).setCell ⟨b, 1, none⟩ u2).setCell ⟨b, 2, none⟩ u3).alloc o).alloc o') :=
  ((((h.setCell (p := ⟨b, 0, none⟩) hb _).setCell (p := ⟨b, 1, none⟩) hb _).setCell (p := ⟨b, 2, none⟩) hb _).alloc (by simp; exact hs) _).alloc (by simp; omega) _

theorem Coll.put {p b : Nat} {X : World} {v : Value} {L : List Tok} (h : Coll X p v L) (hb : b ≠ p) (hv : v.ownBlock ≠ some b) (u1 u2 u3 : Value) : Coll (((X.setCell ⟨b, 0, none⟩ u1).setCell ⟨b, 1, none⟩ u2).setCell ⟨b, 2, none⟩ u3) p v L := by
  have hk : ∀ j, j ≠ b → (((X.setCell ⟨b, 0, none⟩ u1).setCell ⟨b, 1, none⟩ u2).setCell ⟨b, 2, none⟩ u3).heap[j]? = X.heap[j]? := fun j hj => by
    rw [Below.heap_setCell _ _ _ _ hj, Below.heap_setCell _ _ _ _ hj, Below.heap_setCell _ _ _ _ hj]
  refine ⟨by rw [hk p (Ne.symm hb)]; exact h.box, h.row.1, ?_⟩
  rcases h.row.2 with h0 | ⟨g, cap, cur, rfl, hbase, hblk, rest⟩
  · exact .inl h0
  · refine .inr ⟨g, cap, cur, rfl, hbase, ?_, rest⟩
    rw [hk g (fun e => hv (by rw [e]; rfl))]; exact hblk

theorem tok_after {X Z : World} {p : Nat} {v v' : Value} {L : List Tok} {t : Tok} {o : Obj} (h : Coll X p v L)
    (hs : Step ((X.alloc (.cells #[.int .i64 t.k, .string t.t, .int .i64 t.n, .int .i64 t.op, .int .i64 (t.off : Int), .int .i64 (t.en : Int)] 32)).alloc o) Z p v v') :
    Z.cell? ⟨X.heap.size, 0, none⟩ = some (.int .i64 t.k) ∧ Z.cell? ⟨X.heap.size, 5, none⟩ = some (.int .i64 (t.en : Int)) := by
  have hb := hs.only.block X.heap.size (by simp; omega) (fun e => by
    rcases e with e | e
    · have := h.lt; omega
    · have := (h.blk e).2; omega)
  have hx : ((X.alloc (.cells #[.int .i64 t.k, .string t.t, .int .i64 t.n, .int .i64 t.op, .int .i64 (t.off : Int), .int .i64 (t.en : Int)] 32)).alloc o).heap[X.heap.size]? = some (.cells #[.int .i64 t.k, .string t.t, .int .i64 t.n, .int .i64 t.op, .int .i64 (t.off : Int), .int .i64 (t.en : Int)] 32 (0, 0)) := by
    have h1 : Below (X.alloc (.cells #[.int .i64 t.k, .string t.t, .int .i64 t.n, .int .i64 t.op, .int .i64 (t.off : Int), .int .i64 (t.en : Int)] 32)).heap.size _ _ := (Below.refl _ (X.alloc (.cells #[.int .i64 t.k, .string t.t, .int .i64 t.n, .int .i64 t.op, .int .i64 (t.off : Int), .int .i64 (t.en : Int)] 32))).alloc (Nat.le_refl _) o
    rw [h1.block X.heap.size (by simp)]
    exact heap_alloc_new X _
  rw [hx] at hb
  constructor <;> simp [World.cell?, hb]

theorem fresh_ne {X Z : World} {p b : Nat} {v v' : Value} {L : List Tok} {x y z : Int} {o o' : Obj} (h : Coll X p v L) (hb : box3 b X x y z) (hs : Step ((X.alloc o).alloc o') Z p v v') (hv : v.ownBlock ≠ some b) : v'.ownBlock ≠ some b := by
  intro e
  rcases hs.fresh b e with e | e
  · exact hv e
  · have := hb.cells.2.2.2.2.2.2
    simp at e
    omega

theorem func_ne (f : Nat) (cb : Array Value) (W : World) : (binOp .neq 35 (.func (.func f) #[] cb) .nilFunc).run Tryd.prog W = .ok (.bool true) W := by
  first | kernel_rfl | simp [binOp, go_sem] | rfl

set_option maxHeartbeats 4000000 in
set_option maxRecDepth 100000 in
theorem each_any (s : ByteArray) (f : Nat) (cb : Array Value) (p : Nat) (ans : Nat → Bool) (v0 : Value) (w : World) (eg : ∀ args w, (callFunc f args).run Tryd.prog w = .ok (.enter f args) w)
    (hY : Collects f cb p ans w) (hl : LexLaid w) (hp : 2 < p ∧ 3 < p ∧ 4 < p) (hs : s.size ≤ 140737488351232) (hC : Coll w p v0 []) :
    Calls Tryd.prog 7 #[.string s, .func (.func f) #[] cb] w fun e w' => e = .returned (faultVal (eachX ans s).2.1 (eachX ans s).2.2) ∧ ∃ v', Coll w' p v' (eachX ans s).1 ∧ Below p w w' := by
  by_cases hlong : (65536 : Int) < (s.size : Int)
  · rw [show eachX ans s = ([], 1, 0) from if_pos (by omega)]
    have HC := hide hC
    clear hC hl hY
    go_enter Tryd.func7, Tryd.ntmps7
    go_wp2
    have hb : Below w.heap.size w (w.alloc (.cells #[.int .i64 1, .int .i64 0, .int .i64 0] 25)) := (Below.refl _ _).alloc (Nat.le_refl _) _
    exact bodyPost_ret (v := faultVal 1 0) (by simp [results, Tryd.results7, go_sem, faultVal]) rfl ⟨rfl, v0, HC.out.kept hb, hb.mono (Nat.le_of_lt HC.out.lt)⟩
  have hX : eachX ans s = eachF ans s 0 [] := if_neg (by omega)
  obtain ⟨R, hR⟩ : ∃ R, eachX ans s = R := ⟨_, rfl⟩
  rw [hR]
  have HR : Hid (eachF ans s 0 [] = R) := hX.symm.trans hR
  clear hX hR
  have HC := hide hC
  have HL := hide hl
  have HY := hide hY
  have hplt := hC.lt
  obtain ⟨b4, hb4⟩ : ∃ b4, b4 = w.heap.size := ⟨_, rfl⟩
  clear hC hl hY
  go_enter Tryd.func7, Tryd.ntmps7
  go_wp2
  rw [← hb4]
  have hb4p : p < b4 := by omega
  replace hb4 := hide hb4
  go_loopg [5, 6, 7] s.size (fun g a _ _ wx => ∃ (o : Nat) (v : Value) (L : List Tok), o ≤ s.size ∧ g = s.size - o ∧ a = .int .i64 o ∧ L.length ≤ o ∧ Hid (eachF ans s o L = R) ∧ Hid (Coll wx p v L) ∧ Hid (box3 b4 wx 0 0 0) ∧ Hid (v.ownBlock ≠ some b4) ∧ Hid (Below p w wx))
  case atStart =>
    have hb : Below w.heap.size w (w.alloc (.cells #[.int .i64 0, .int .i64 0, .int .i64 0] 25)) := (Below.refl _ _).alloc (Nat.le_refl _) _
    refine ⟨0, v0, [], Nat.zero_le _, rfl, rfl, Nat.le_refl _, HR, HC.out.kept hb, ?_, ?_, hb.mono (Nat.le_of_lt hplt)⟩
    · show (w.alloc (.cells #[.int .i64 0, .int .i64 0, .int .i64 0] 25)).heap[b4]? = _
      rw [hb4.out]; exact heap_alloc_new w _
    · intro e
      have := (HC.out.blk e).2
      have := hb4.out
      omega
  case round =>
    obtain ⟨o, v, L, ho, hg, rfl, hLo, HE, HCx, HB4, HV4, HBx⟩ := hrel
    have HN := hide (next_any s o wr hs ho (Below.laid HL.out HBx.out hp))
    cases hn : nextX s o with
    | bad c f' =>
      rw [hn] at HN
      have hc0 : (c == 0) = false := by
        have := next_bad hn
        simp; omega
      have HF : Hid (R = (L, c, f')) := HE.out.symm.trans (eachF_bad hn)
      clear hn HE HY
      go_wp2_with (go_at_call 12; refine HN.out.mono ?_; unfold Nx.val tokZero faultVal; rintro e X ⟨rfl, hb⟩; have hx := box3.cells (HB4.out.kept hb); obtain ⟨x0, x1, x2, z0, z1, z2, x3⟩ := hx; have n1 : ¬ b4 = X.heap.size := (by omega); have n2 : ¬ b4 = X.heap.size + 1 := (by omega); have hb := hide hb)
      refine bodyPost_ret (each_results (((HB4.out.kept hb.out).put c 0 f').two _ _) _ rfl) rfl ⟨by rw [HF.out]; rfl, v, ?_, ?_⟩
      · rw [HF.out]
        exact (Coll.put (HCx.out.kept hb.out) (by omega) HV4.out _ _ _).kept (below2 _ _ _)
      · have hq := HBx.out.trans (hb.out.mono (Nat.le_of_lt HCx.out.lt))
        exact Below.put hq (by omega) _ _ _ _ _ (Nat.le_of_lt (HCx.out.kept hb.out).lt)
    | tok t =>
      rw [hn] at HN
      obtain ⟨-, -, hno, hcase⟩ := next_tok ho hn
      have hfn := func_ne f cb
      cases ha : ans L.length with
      | false =>
        have HF : Hid (R = (L ++ [t], 0, 0)) := HE.out.symm.trans (eachF_stop hn (.inl ha))
        replace HY : Hid (∀ (W : World) (v : Value) (t' : Tok), Coll W p v L → Below p w W → Calls Tryd.prog f (#[t'.val] ++ cb) W fun e W' => e = .returned (.bool false) ∧ ∃ v', Coll W' p v' (L ++ [t']) ∧ Step W W' p v v') := fun W v t' hc hB => by have := HY.out W v L t' hc (by omega) hB; rw [ha] at this; exact this
        clear hn HE ha hcase
        go_wp2_with (first
          | (go_at_call 12; refine HN.out.mono ?_; unfold Nx.val Tok.val faultVal; rintro e X ⟨rfl, hb⟩; have HCX := hide (HCx.out.kept hb); have HBX := hide (HB4.out.kept hb); have HPX := hide (HBx.out.trans (hb.mono (Nat.le_of_lt HCx.out.lt))); clear hb)
          | (go_at_fn f; refine (HY.out _ v t (HCX.out.kept (below2 _ _ _)) (HPX.out.trans ((below2 X _ _).mono (Nat.le_of_lt HCX.out.lt)))).mono ?_; rintro e Z ⟨rfl, v', hcz, hst⟩; obtain ⟨k0, k5⟩ := tok_after HCX.out hst; have HBZ := hide ((HBX.out.two _ _).step hst (by omega) HV4.out); have HCZ := hide hcz; have HST := hide hst; have hx := box3.cells HBZ.out; obtain ⟨x0, x1, x2, z0, z1, z2, x3⟩ := hx; clear hcz hst))
        refine bodyPost_ret (each_results (HBZ.out.put 0 0 0) _ rfl) rfl ⟨by rw [HF.out]; rfl, v', ?_, ?_⟩
        · rw [HF.out]
          exact Coll.put HCZ.out (by omega) (fresh_ne HCX.out HBX.out HST.out HV4.out) _ _ _
        · have hq := (HPX.out.trans ((below2 X _ _).mono (Nat.le_of_lt HCX.out.lt))).trans (HST.out.below (HCX.out.kept (below2 X _ _)))
          exact ((hq.setCell (p := ⟨b4, 0, none⟩) (Nat.le_of_lt hb4p) _).setCell (p := ⟨b4, 1, none⟩) (Nat.le_of_lt hb4p) _).setCell (p := ⟨b4, 2, none⟩) (Nat.le_of_lt hb4p) _
      | true =>
        replace HY : Hid (∀ (W : World) (v : Value) (t' : Tok), Coll W p v L → Below p w W → Calls Tryd.prog f (#[t'.val] ++ cb) W fun e W' => e = .returned (.bool true) ∧ ∃ v', Coll W' p v' (L ++ [t']) ∧ Step W W' p v v') := fun W v t' hc hB => by have := HY.out W v L t' hc (by omega) hB; rw [ha] at this; exact this
        by_cases hk : t.k = 0
        · have HF : Hid (R = (L ++ [t], 0, 0)) := HE.out.symm.trans (eachF_stop hn (.inr hk))
          have ek : (t.k == 0) = true := by simpa using hk
          clear hn HE ha hcase hk
          go_wp2_with (first
            | (go_at_call 12; refine HN.out.mono ?_; unfold Nx.val Tok.val faultVal; rintro e X ⟨rfl, hb⟩; have HCX := hide (HCx.out.kept hb); have HBX := hide (HB4.out.kept hb); have HPX := hide (HBx.out.trans (hb.mono (Nat.le_of_lt HCx.out.lt))); clear hb)
            | (go_at_fn f; refine (HY.out _ v t (HCX.out.kept (below2 _ _ _)) (HPX.out.trans ((below2 X _ _).mono (Nat.le_of_lt HCX.out.lt)))).mono ?_; rintro e Z ⟨rfl, v', hcz, hst⟩; obtain ⟨k0, k5⟩ := tok_after HCX.out hst; have HBZ := hide ((HBX.out.two _ _).step hst (by omega) HV4.out); have HCZ := hide hcz; have HST := hide hst; have hx := box3.cells HBZ.out; obtain ⟨x0, x1, x2, z0, z1, z2, x3⟩ := hx; clear hcz hst))
          refine bodyPost_ret (each_results (HBZ.out.put 0 0 0) _ rfl) rfl ⟨by rw [HF.out]; rfl, v', ?_, ?_⟩
          · rw [HF.out]
            exact Coll.put HCZ.out (by omega) (fresh_ne HCX.out HBX.out HST.out HV4.out) _ _ _
          · have hq := (HPX.out.trans ((below2 X _ _).mono (Nat.le_of_lt HCX.out.lt))).trans (HST.out.below (HCX.out.kept (below2 X _ _)))
            exact ((hq.setCell (p := ⟨b4, 0, none⟩) (Nat.le_of_lt hb4p) _).setCell (p := ⟨b4, 1, none⟩) (Nat.le_of_lt hb4p) _).setCell (p := ⟨b4, 2, none⟩) (Nat.le_of_lt hb4p) _
        · obtain ⟨hk1, hk2, hk3⟩ := hcase.resolve_left (fun h => hk h.1)
          have HF : Hid (eachF ans s t.en (L ++ [t]) = R) := (eachF_go hn (by rw [ha]; simp [hk]) (by omega) hk3).symm.trans HE.out
          have ek : (t.k == 0) = false := by simpa using hk
          clear hn HE ha hcase hk
          go_wp2_with (first
            | (go_at_call 12; refine HN.out.mono ?_; unfold Nx.val Tok.val faultVal; rintro e X ⟨rfl, hb⟩; have HCX := hide (HCx.out.kept hb); have HBX := hide (HB4.out.kept hb); have HPX := hide (HBx.out.trans (hb.mono (Nat.le_of_lt HCx.out.lt))); clear hb)
            | (go_at_fn f; refine (HY.out _ v t (HCX.out.kept (below2 _ _ _)) (HPX.out.trans ((below2 X _ _).mono (Nat.le_of_lt HCX.out.lt)))).mono ?_; rintro e Z ⟨rfl, v', hcz, hst⟩; obtain ⟨k0, k5⟩ := tok_after HCX.out hst; have HBZ := hide ((HBX.out.two _ _).step hst (by omega) HV4.out); have HCZ := hide hcz; have HST := hide hst; have hx := box3.cells HBZ.out; obtain ⟨x0, x1, x2, z0, z1, z2, x3⟩ := hx; clear hcz hst))
          go_roundg (s.size - t.en)
          case rel => exact ⟨t.en, v', L ++ [t], hk3, rfl, rfl, by simp; omega, HF, HCZ, HBZ, fresh_ne HCX.out HBX.out HST.out HV4.out, (HPX.out.trans ((below2 X _ _).mono (Nat.le_of_lt HCX.out.lt))).trans (HST.out.below (HCX.out.kept (below2 X _ _)))⟩
          case measure => omega

end Go.Proofs.YtplldgkdjainlaaDoor
