/- What the loop of an atom's terms keeps in memory. -/
import Derived.Test.YtnpmdepbfobebaaGreatDoorProg
import Derived.Test.YtnpmdepbfobebaaGreatDoorParseTerms
import Derived.Test.YtnpmdepbfobebaaGreatDoorForms
import Derived.Test.YtnpmdepbfobebaaGreatDoorPush
namespace Go.Proofs.YtnpmdepbfobebaaGreatDoor
set_option linter.unusedSimpArgs false
set_option linter.unusedVariables false
open Go.RowKit

def cellsT (t : Trm) : List Value := [.int .i64 t.k, .int .i64 t.n, .string t.s, .int .i64 t.off]

theorem Tryz.infoTerm : (Tryz.prog.info? 54).map (fun i => (i.zero, i.size, i.bytes)) = some (some (.agg #[.int .i64 0, .int .i64 0, .string ⟨#[]⟩, .int .i64 0]), 4, 40) := by kernel_rfl

theorem tok_kind (x0 x1 x2 x3 x4 x5 : Value) (W : World) : (Instr.field 116 (.agg #[x0, x1, x2, x3, x4, x5]) 0).run Tryz.prog W = .ok x0 W := by kernel_rfl
theorem tok_op (x0 x1 x2 x3 x4 x5 : Value) (W : World) : (Instr.field 116 (.agg #[x0, x1, x2, x3, x4, x5]) 3).run Tryz.prog W = .ok x3 W := by kernel_rfl

structure AtmLoop (w wr : World) (p : Nat) (ao : Option Addr) (cap : Nat) (L : List Tok) (c f : Int) (R : List Tok) (nt : ByteArray) (off : Int) (v : Value) (acc : List Trm) : Prop where
  ah : Ahead wr p ao cap L c f R
  ba : wr.heap[w.heap.size + 1 + 1]? = some (.cells #[.string nt, v, .int .i64 off] 42 (0, 0))
  br : wr.heap[w.heap.size + 1]? = some (.cells #[.string ⟨#[]⟩, .slice none 0 0, .int .i64 0] 42 (0, 0))
  ow : wr.ownsRow (w.heap.size + 3) 54 4 v acc.length (acc.flatMap cellsT)
  on : Only (fun k => k = p ∨ w.heap.size ≤ k) w wr
  pl : p < w.heap.size
  gd : ∀ x ∈ acc, x.ok
  tk : ∀ g, ao = some ⟨g, 0, none⟩ → 0 < L.length → g < w.heap.size

theorem own_only {S : Nat → Prop} {w w' : World} {base size n : Nat} {e : TypeId} {v : Value} {xs : List Value} (h : w.ownsRow base e size v n xs) (ho : Only S w w') (hs : ∀ k, base ≤ k → ¬ S k) : w'.ownsRow base e size v n xs := by
  refine ⟨h.1, ?_⟩
  rcases h.2 with h0 | ⟨g, cap, cur, hv, hbase, hblk, rest⟩
  · exact .inl h0
  · exact .inr ⟨g, cap, cur, hv, hbase, by rw [ho.block g (Array.getElem?_eq_some_iff.1 hblk).1 (hs g hbase)]; exact hblk, rest⟩

/-- A call that moves the reader alone. -/
theorem AtmLoop.move {w wr wr' : World} {p : Nat} {ao : Option Addr} {cap : Nat} {L : List Tok} {c f : Int} {R R' : List Tok} {nt : ByteArray} {off : Int} {v : Value} {acc : List Trm} (h : AtmLoop w wr p ao cap L c f R nt off v acc) (ho : Only (fun k => k = p) wr wr') (ha : Ahead wr' p ao cap L c f R') : AtmLoop w wr' p ao cap L c f R' nt off v acc :=
  have hp := h.pl
  ⟨ha, by rw [ho.block _ (Array.getElem?_eq_some_iff.1 h.ba).1 (by omega)]; exact h.ba, by rw [ho.block _ (Array.getElem?_eq_some_iff.1 h.br).1 (by omega)]; exact h.br,
    own_only h.ow ho (fun k hk e => by omega), h.on.trans (ho.mono fun k _ e => .inl e), h.pl, h.gd, h.tk⟩
theorem AtmLoop.below {w wr wr' : World} {p : Nat} {ao : Option Addr} {cap : Nat} {L : List Tok} {c f : Int} {R : List Tok} {nt : ByteArray} {off : Int} {v : Value} {acc : List Trm} (h : AtmLoop w wr p ao cap L c f R nt off v acc) (hb : Below wr.heap.size wr wr') : AtmLoop w wr' p ao cap L c f R nt off v acc :=
  h.move (Only.of_below hb _) (h.ah.kept hb)

theorem AtmLoop.cells {w wr : World} {p : Nat} {ao : Option Addr} {cap : Nat} {L : List Tok} {c f : Int} {R : List Tok} {nt : ByteArray} {off : Int} {v : Value} {acc : List Trm} (h : AtmLoop w wr p ao cap L c f R nt off v acc) :
    wr.cell? ⟨w.heap.size + 1 + 1, 0, none⟩ = some (.string nt) ∧ wr.cell? ⟨w.heap.size + 1 + 1, 1, none⟩ = some v ∧ wr.cell? ⟨w.heap.size + 1 + 1, 2, none⟩ = some (.int .i64 off) ∧ wr.frozen? ⟨w.heap.size + 1 + 1, 1, none⟩ = false := by
  refine ⟨?_, ?_, ?_, ?_⟩ <;> simp [World.cell?, World.frozen?, h.ba]
theorem AtmLoop.box {w wr : World} {p : Nat} {ao : Option Addr} {cap : Nat} {L : List Tok} {c f : Int} {R : List Tok} {nt : ByteArray} {off : Int} {v : Value} {acc : List Trm} (h : AtmLoop w wr p ao cap L c f R nt off v acc) :
    wr.cell? ⟨w.heap.size + 1, 0, none⟩ = some (.string ⟨#[]⟩) ∧ wr.cell? ⟨w.heap.size + 1, 1, none⟩ = some (.slice none 0 0) ∧ wr.cell? ⟨w.heap.size + 1, 2, none⟩ = some (.int .i64 0) ∧ wr.frozen? ⟨w.heap.size + 1, 0, none⟩ = false ∧ wr.frozen? ⟨w.heap.size + 1, 1, none⟩ = false ∧ wr.frozen? ⟨w.heap.size + 1, 2, none⟩ = false := by
  refine ⟨?_, ?_, ?_, ?_, ?_, ?_⟩ <;> simp [World.cell?, World.frozen?, h.br]

theorem AtmLoop.far {w wr w1 : World} {p : Nat} {ao : Option Addr} {cap : Nat} {L : List Tok} {c f : Int} {R : List Tok} {nt : ByteArray} {off : Int} {v : Value} {acc : List Trm} (h : AtmLoop w wr p ao cap L c f R nt off v acc) (hg : wr.grownBy w1 v.ownBlock) :
    w1.cell? ⟨w.heap.size + 1 + 1, 1, none⟩ = some v ∧ w1.frozen? ⟨w.heap.size + 1 + 1, 1, none⟩ = false := by
  have hvb : ∀ k, v.ownBlock = some k → w.heap.size + 3 ≤ k := fun k hk => by
    rcases h.ow.2 with ⟨e, _⟩ | ⟨g, cap', cur, e, hbase, _⟩
    · rw [e] at hk; cases hk
    · rw [e] at hk
      have : g = k := by simpa [Value.ownBlock] using hk
      omega
  have ho : Only (fun k => w.heap.size + 3 ≤ k) wr w1 := (Only.refl _ wr).grown hg (fun k hk _ => hvb k hk)
  have hba : w1.heap[w.heap.size + 1 + 1]? = some (.cells #[.string nt, v, .int .i64 off] 42 (0, 0)) := by
    rw [ho.block _ (Array.getElem?_eq_some_iff.1 h.ba).1 (by omega)]; exact h.ba
  refine ⟨?_, ?_⟩ <;> simp [World.cell?, World.frozen?, hba]

/-- A term more, behind an append and the store of the new slice. -/
theorem AtmLoop.push {w wr w1 : World} {p : Nat} {ao : Option Addr} {cap : Nat} {L : List Tok} {c f : Int} {R : List Tok} {nt : ByteArray} {off : Int} {v v' : Value} {acc : List Trm} {t : Trm} (h : AtmLoop w wr p ao cap L c f R nt off v acc)
    (ht : t.ok) (hg : wr.grownBy w1 v.ownBlock) (hown : w1.ownsRow (w.heap.size + 3) 54 4 v' (acc.length + 1) (acc.flatMap cellsT ++ cellsT t)) :
    AtmLoop w (w1.setCell ⟨w.heap.size + 1 + 1, 1, none⟩ v') p ao cap L c f R nt off v' (acc ++ [t]) := by
  have hp := h.pl
  have hvb : ∀ k, v.ownBlock = some k → w.heap.size + 3 ≤ k := fun k hk => by
    rcases h.ow.2 with ⟨e, _⟩ | ⟨g, cap', cur, e, hbase, _⟩
    · rw [e] at hk; cases hk
    · rw [e] at hk
      have : g = k := by simpa [Value.ownBlock] using hk
      omega
  have ho : Only (fun k => w.heap.size + 3 ≤ k) wr w1 := (Only.refl _ wr).grown hg (fun k hk _ => hvb k hk)
  have hba : w1.heap[w.heap.size + 1 + 1]? = some (.cells #[.string nt, v, .int .i64 off] 42 (0, 0)) := by
    rw [ho.block _ (Array.getElem?_eq_some_iff.1 h.ba).1 (by omega)]; exact h.ba
  have ho2 : Only (fun k => w.heap.size + 1 + 1 ≤ k) wr (w1.setCell ⟨w.heap.size + 1 + 1, 1, none⟩ v') := (ho.mono (fun k _ (e : w.heap.size + 3 ≤ k) => (by omega : w.heap.size + 1 + 1 ≤ k))).setCell (p := ⟨w.heap.size + 1 + 1, 1, none⟩) (Nat.le_refl _) _
  have h1 : Only (fun k => k = w.heap.size + 1 + 1) w1 (w1.setCell ⟨w.heap.size + 1 + 1, 1, none⟩ v') := (Only.refl (fun k => k = w.heap.size + 1 + 1) w1).setCell (p := ⟨w.heap.size + 1 + 1, 1, none⟩) rfl _
  refine ⟨?_, ?_, ?_, ?_, ?_, h.pl, fun x hx => (List.mem_append.1 hx).elim (h.gd x) (fun e => by simp only [List.mem_singleton] at e; subst e; exact ht), h.tk⟩
  · obtain ⟨i, q1, q2⟩ := h.ah
    refine ⟨i, q1.only ho2 (by omega) (fun g hg hl => ?_), q2⟩
    have := h.tk g hg hl
    omega
  · simp [World.setCell, Array.getElem?_modify, hba]
  · rw [ho2.block _ (Array.getElem?_eq_some_iff.1 h.br).1 (by omega)]; exact h.br
  · have := own_only hown h1 (fun k hk e => by omega)
    rw [List.length_append, List.flatMap_append]
    simpa using this
  · exact h.on.trans (ho2.mono fun k _ (e : w.heap.size + 1 + 1 ≤ k) => .inr (by omega))

theorem termP_ok {t : Tok} (h : t.good) : (termP t).ok := by
  obtain ⟨h1, h2, h3, h4, h5⟩ := h
  refine ⟨⟨?_, h3, ?_⟩, ?_⟩
  · unfold I64 termP kindT Trm.con; simp only; split <;> (try split) <;> (try split) <;> omega
  · show t.t.size ≤ _; omega
  · show I64 (t.off : Int); unfold I64; omega
theorem AtmLoop.grow {w wr : World} {p : Nat} {ao : Option Addr} {cap : Nat} {L : List Tok} {c f : Int} {R : List Tok} {nt : ByteArray} {off : Int} {v : Value} {acc : List Trm} (h : AtmLoop w wr p ao cap L c f R nt off v acc) : Grow elTrm 54 (w.heap.size + 3) wr v acc := ⟨h.ow, fun x hx => h.gd x hx⟩

theorem AtmLoop.base {w wr : World} {p : Nat} {ao : Option Addr} {cap : Nat} {L : List Tok} {c f : Int} {R : List Tok} {nt : ByteArray} {off : Int} {v : Value} {acc : List Trm} (h : AtmLoop w wr p ao cap L c f R nt off v acc) : w.heap.size + 3 ≤ wr.heap.size := by
  have := (Array.getElem?_eq_some_iff.1 h.ba).1
  omega

theorem AtmLoop.pushG {w wr w1 : World} {p : Nat} {ao : Option Addr} {cap : Nat} {L : List Tok} {c f : Int} {R : List Tok} {nt : ByteArray} {off : Int} {v v' : Value} {acc : List Trm} {t : Trm} (h : AtmLoop w wr p ao cap L c f R nt off v acc) (ht : t.ok)
    (hg : wr.grownBy w1 v.ownBlock) (hG : Grow elTrm 54 (w.heap.size + 3) w1 v' (acc ++ [t])) :
    AtmLoop w (w1.setCell ⟨w.heap.size + 1 + 1, 1, none⟩ v') p ao cap L c f R nt off v' (acc ++ [t]) := by
  refine h.push ht hg ?_
  have := hG.1
  rw [List.length_append, List.flatMap_append] at this
  show w1.ownsRow _ _ elTrm.size _ _ (acc.flatMap elTrm.cells ++ elTrm.cells t)
  simpa using this

theorem AtmLoop.fin {w wr : World} {p : Nat} {ao : Option Addr} {cap : Nat} {L : List Tok} {c f : Int} {R : List Tok} {nt : ByteArray} {off : Int} {v : Value} {acc : List Trm} (h : AtmLoop w wr p ao cap L c f R nt off v acc) (hl : acc.length ≤ 8) (u0 u1 u2 : Value) :
    Lst elTrm (((wr.setCell ⟨w.heap.size + 1, 0, none⟩ u0).setCell ⟨w.heap.size + 1, 1, none⟩ u1).setCell ⟨w.heap.size + 1, 2, none⟩ u2) (fun b => w.heap.size ≤ b) v acc ∧ Ahead (((wr.setCell ⟨w.heap.size + 1, 0, none⟩ u0).setCell ⟨w.heap.size + 1, 1, none⟩ u1).setCell ⟨w.heap.size + 1, 2, none⟩ u2) p ao cap L c f R ∧ Only (fun k => k = p) w (((wr.setCell ⟨w.heap.size + 1, 0, none⟩ u0).setCell ⟨w.heap.size + 1, 1, none⟩ u1).setCell ⟨w.heap.size + 1, 2, none⟩ u2) := by
  have hp := h.pl
  have ho : Only (fun k => k = w.heap.size + 1) wr (((wr.setCell ⟨w.heap.size + 1, 0, none⟩ u0).setCell ⟨w.heap.size + 1, 1, none⟩ u1).setCell ⟨w.heap.size + 1, 2, none⟩ u2) := (((Only.refl (fun k => k = w.heap.size + 1) wr).setCell (p := ⟨w.heap.size + 1, 0, none⟩) rfl _).setCell (p := ⟨w.heap.size + 1, 1, none⟩) rfl _).setCell (p := ⟨w.heap.size + 1, 2, none⟩) rfl _
  refine ⟨?_, ?_, ?_⟩
  · exact ((h.grow.above fun b hb hlt => ho.block b hlt (by omega)).new (by omega)).move fun b _ hF => ⟨by omega, rfl⟩
  · obtain ⟨i, q1, q2⟩ := h.ah
    exact ⟨i, q1.only ho (by omega) (fun g hg hl => by have := h.tk g hg hl; omega), q2⟩
  · exact (h.on.trans (ho.mono fun k _ (e : k = w.heap.size + 1) => .inr (by omega))).mono fun k hk e => e.elim id fun e => by omega

theorem take_eq {c f : Int} {ks : List Int} {R r : List Tok} {t : Tok} (h : takeP c f ks R = .ok t r) : R = t :: r ∧ t.k ∈ ks := by
  match R, h with
  | x :: r', h =>
    simp only [takeP] at h
    by_cases hm : x.k ∈ ks
    · rw [if_pos hm] at h; injection h with e1 e2; subst e1 e2; exact ⟨rfl, hm⟩
    · rw [if_neg hm] at h; cases h
theorem args_bad1 {c f ec eo : Int} {ks : List Int} {acc : List Trm} {R : List Tok} (h : takeP c f ks R = .bad ec eo) : argsP c f ks acc R = .bad ec eo := by
  match R, h with
  | [], h => simp only [takeP] at h; injection h with e1 e2; subst e1 e2; unfold argsP; rfl
  | x :: r', h =>
    simp only [takeP] at h
    by_cases hm : x.k ∈ ks
    · rw [if_pos hm] at h; cases h
    · rw [if_neg hm] at h; injection h with e1 e2; unfold argsP; rw [if_neg hm, e1, e2]
theorem args_lim {c f : Int} {ks : List Int} {acc : List Trm} {R r : List Tok} {t : Tok} (h : takeP c f ks R = .ok t r) (h8 : acc.length = 8) : argsP c f ks acc R = .bad 22 t.off := by
  obtain ⟨rfl, hm⟩ := take_eq h
  unfold argsP
  rw [if_pos hm, if_pos h8]
theorem args_next {c f : Int} {ks : List Int} {acc : List Trm} {R r : List Tok} {t : Tok} (h : takeP c f ks R = .ok t r) (h8 : acc.length ≠ 8) : argsP c f ks acc R = match takeP c f [7, 6] r with | .bad ec eo => .bad ec eo | .ok s r2 => if s.k = 7 then argsP c f ks (acc ++ [termP t]) r2 else .ok (acc ++ [termP t]) r2 := by
  obtain ⟨rfl, hm⟩ := take_eq h
  rw [argsP.eq_def]
  simp only
  rw [if_pos hm, if_neg h8]
  match r with
  | [] => rfl
  | s :: r' =>
    simp only [takeP]
    by_cases h7 : s.k = 7
    · simp [h7]
    · by_cases h6 : s.k = 6
      · simp [h6]
      · simp [h6, h7]
end Go.Proofs.YtnpmdepbfobebaaGreatDoor
