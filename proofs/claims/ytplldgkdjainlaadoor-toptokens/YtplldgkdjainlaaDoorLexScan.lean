/- What lex.Scan answers: the tokens, in a new list, and the fault. -/
import Derived.Test.YtplldgkdjainlaaDoorProg
import Derived.Test.YtplldgkdjainlaaDoorLexEach
namespace Go.Proofs.YtplldgkdjainlaaDoor
set_option linter.unusedSimpArgs false
set_option linter.unusedVariables false
open Go.RowKit

def scanX (s : ByteArray) : List Tok × Int × Nat := eachX (fun _ => true) s

theorem coll_start (w : World) (o : Obj) : Coll ((w.alloc o).alloc (.cells #[.slice none 0 0] 22)) (w.heap.size + 1) (.slice none 0 0) [] where
  box := by
    have := heap_alloc_new (w.alloc o) (.cells #[.slice none 0 0] 22)
    rw [show (w.alloc o).heap.size = w.heap.size + 1 from by simp] at this
    exact this
  row := World.ownsRow_nil _ _ _ _

theorem scan_results {Z : World} {b : Nat} {c o : Int} {v : Value} (h : box3 b Z c 0 o) (tmps : Array Value) (ht : tmps.getD 3 undef = .pointer (some ⟨b, 0, none⟩)) (ht2 : tmps.getD 2 undef = v) :
    (results Tryd.f4 tmps).run Tryd.prog Z = .ok (.tuple #[v, .agg #[.int .i64 c, .int .i64 0, .int .i64 o]]) Z := by
  obtain ⟨x0, x1, x2, _⟩ := h.cells
  have ht' : tmps[3]?.getD undef = .pointer (some ⟨b, 0, none⟩) := by rw [← ht]; simp [Array.getD_eq_getD_getElem?]
  have ht2' : tmps[2]?.getD undef = v := by rw [← ht2]; simp [Array.getD_eq_getD_getElem?]
  simp [results, Tryd.results4, go_sem, ht', ht2', x0, x1, x2]

theorem box3.drew {b : Nat} {W : World} {x y z : Int} (h : box3 b W x y z) : box3 b W.drew x y z := h
theorem own_drew {w : World} {base size n : Nat} {e : TypeId} {v : Value} {xs : List Value} (h : w.ownsRow base e size v n xs) : w.drew.ownsRow base e size v n xs := h
theorem own_mono {w : World} {base base' size n : Nat} {e : TypeId} {v : Value} {xs : List Value} (hb : base' ≤ base) (h : w.ownsRow base e size v n xs) : w.ownsRow base' e size v n xs := by
  refine ⟨h.1, ?_⟩
  rcases h.2 with h0 | ⟨g, cap, cur, hv, hbase, rest⟩
  · exact .inl h0
  · exact .inr ⟨g, cap, cur, hv, Nat.le_trans hb hbase, rest⟩

set_option maxHeartbeats 4000000 in
set_option maxRecDepth 100000 in
theorem scan_any (s : ByteArray) (w : World) (hl : LexLaid w) (hs : s.size ≤ 140737488351232) :
    Calls Tryd.prog 4 #[.string s] w fun e w' => ∃ v, e = .returned (.tuple #[v, faultVal (scanX s).2.1 (scanX s).2.2]) ∧ w'.ownsRow w.heap.size 32 6 v (scanX s).1.length ((scanX s).1.flatMap cells6) ∧ Below w.heap.size w w' := by
  have hg : 2 < w.heap.size ∧ 3 < w.heap.size ∧ 4 < w.heap.size := by
    refine ⟨lt_of_cell (hl.marks 0 _ rfl), ?_, ?_⟩
    · obtain ⟨t, q, e⟩ := hl.syn; exact lt_of_cell e
    · obtain ⟨t, q, e⟩ := hl.rng; exact lt_of_cell e
  have eg : ∀ args w, (callFunc 8 args).run Tryd.prog w = .ok (.enter 8 args) w := enters_of Tryd.func8 (by kernel_rfl) rfl
  have hY : Collects 8 #[.pointer (some ⟨w.heap.size + 1, 0, none⟩)] (w.heap.size + 1) (fun _ => true) ((w.alloc (.cells #[.int .i64 0, .int .i64 0, .int .i64 0] 25)).alloc (.cells #[.slice none 0 0] 22)) := fun W v L t h hL _ => scan1_any W _ v L t h hL
  have HE := hide (each_any s 8 #[.pointer (some ⟨w.heap.size + 1, 0, none⟩)] (w.heap.size + 1) (fun _ => true) (.slice none 0 0) _ eg hY (hl.kept (below2 w (.cells #[.int .i64 0, .int .i64 0, .int .i64 0] 25) (.cells #[.slice none 0 0] 22))) (by omega) hs (coll_start w _))
  have hb3 : box3 w.heap.size ((w.alloc (.cells #[.int .i64 0, .int .i64 0, .int .i64 0] 25)).alloc (.cells #[.slice none 0 0] 22)) 0 0 0 := by
    have h1 : box3 w.heap.size (w.alloc (.cells #[.int .i64 0, .int .i64 0, .int .i64 0] 25)) 0 0 0 := heap_alloc_new w _
    exact h1.kept ((Below.refl _ _).alloc (Nat.le_refl _) _)
  change Hid (Calls _ _ _ _ fun e w' => e = .returned (faultVal (scanX s).2.1 (scanX s).2.2) ∧ ∃ v', Coll w' (w.heap.size + 1) v' (scanX s).1 ∧ Below (w.heap.size + 1) _ w') at HE
  generalize scanX s = R at *
  obtain ⟨L, c, f⟩ := R
  have HB3 := hide hb3
  clear hl hY eg hg hb3
  unfold faultVal
  go_enter Tryd.func4, Tryd.ntmps4
  go_wp2_with (go_at_call 7; refine HE.out.mono ?_; unfold faultVal; rintro e X ⟨rfl, v', hcx, hbx⟩; have HCX := hide hcx; have HBX := hide hbx; clear hcx hbx)
  have hB : box3 w.heap.size X 0 0 0 := by
    have h := HB3.out
    unfold box3 at h ⊢
    rw [HBX.out.block w.heap.size (by omega)]; exact h
  have hcl := HCX.out.lt
  have hcc := HCX.out.cell
  obtain ⟨x0, x1, x2, z0, z1, z2, x3⟩ := hB.cells
  have HBB := hide hB
  have n1 : ¬ w.heap.size = X.heap.size := by omega
  have n2 : ¬ w.heap.size + 1 = X.heap.size := by omega
  clear hB
  go_region
  go_wp2
  have hCP := Coll.put HCX.out (b := w.heap.size) (by omega) (fun e => by have := (HCX.out.blk e).1; omega) (.int .i64 c) (.int .i64 0) (.int .i64 (f : Int))
  have hW0 : Below w.heap.size w X := (below2 w _ _).trans (HBX.out.mono (Nat.le_succ _))
  have hW1 := ((hW0.setCell (p := ⟨w.heap.size, 0, none⟩) (Nat.le_refl _) (.int .i64 c)).setCell (p := ⟨w.heap.size, 1, none⟩) (Nat.le_refl _) (.int .i64 0)).setCell (p := ⟨w.heap.size, 2, none⟩) (Nat.le_refl _) (.int .i64 (f : Int))
  refine bodyPost_ret (scan_results (v := v') (box3.drew (box3.kept (HBB.out.put c 0 f) ((Below.refl _ _).alloc (Nat.le_refl _) _))) _ rfl rfl) rfl ⟨v', rfl, ?_, ?_⟩
  · exact own_mono (Nat.le_succ _) (own_drew (World.ownsRow.alloc hCP.row _))
  · exact (hW1.alloc hW1.size _).drew

end Go.Proofs.YtplldgkdjainlaaDoor
