/- What the loop of an atom's terms keeps in memory. What a rule of parse's grammar leaves is no longer than what it began with. The tokens of a text: how many there are, and that their parts are small. A fault of parse's grammar is that of the tokens, or bears a number of parse's own. The first fault of the grammar hangs on the tokens up to the one at which it stands. Tokens as elements of lists. -/
import Derived.Test.YtjofiibfgfdleaaDoorProg
import Derived.Test.YtjofiibfgfdleaaDoorParseTerms
import Derived.Test.YtjofiibfgfdleaaDoorForms
import Derived.Test.YtjofiibfgfdleaaDoorPush
import Derived.Test.YtjofiibfgfdleaaDoorParseReader
import Derived.Test.YtjofiibfgfdleaaDoorPkA1
import Derived.Test.YtjofiibfgfdleaaDoorLists
import Derived.Test.YtjofiibfgfdleaaDoorLexRow

namespace Go.Proofs.YtjofiibfgfdleaaDoor
set_option linter.unusedSimpArgs false
set_option linter.unusedVariables false
open Go.RowKit

def cellsT (t : Trm) : List Value := [.int .i64 t.k, .int .i64 t.n, .string t.s, .int .i64 t.off]

theorem Tryd.infoTerm : (Tryd.prog.info? 65).map (fun i => (i.zero, i.size, i.bytes)) = some (some (.agg #[.int .i64 0, .int .i64 0, .string ⟨#[]⟩, .int .i64 0]), 4, 40) := by kernel_rfl

theorem tok_kind (x0 x1 x2 x3 x4 x5 : Value) (W : World) : (Instr.field 30 (.agg #[x0, x1, x2, x3, x4, x5]) 0).run Tryd.prog W = .ok x0 W := by kernel_rfl
theorem tok_op (x0 x1 x2 x3 x4 x5 : Value) (W : World) : (Instr.field 30 (.agg #[x0, x1, x2, x3, x4, x5]) 3).run Tryd.prog W = .ok x3 W := by kernel_rfl

structure AtmLoop (w wr : World) (p : Nat) (ao : Option Addr) (cap : Nat) (L : List Tok) (c f : Int) (R : List Tok) (nt : ByteArray) (off : Int) (v : Value) (acc : List Trm) : Prop where
  ah : Ahead wr p ao cap L c f R
  ba : wr.heap[w.heap.size + 1 + 1]? = some (.cells #[.string nt, v, .int .i64 off] 50 (0, 0))
  br : wr.heap[w.heap.size + 1]? = some (.cells #[.string ⟨#[]⟩, .slice none 0 0, .int .i64 0] 50 (0, 0))
  ow : wr.ownsRow (w.heap.size + 3) 65 4 v acc.length (acc.flatMap cellsT)
  on : Only (fun k => k = p ∨ w.heap.size ≤ k) w wr
  pl : p < w.heap.size
  gd : ∀ x ∈ acc, x.ok
  tk : ∀ g, ao = some ⟨g, 0, none⟩ → 0 < L.length → g < w.heap.size

theorem own_only {S : Nat → Prop} {w w' : World} {base size n : Nat} {e : TypeId} {v : Value} {xs : List Value} (h : w.ownsRow base e size v n xs) (ho : Only S w w') (hs : ∀ k, base ≤ k → ¬ S k) : w'.ownsRow base e size v n xs := by
  refine ⟨h.1, ?_⟩
  rcases h.2 with h0 | ⟨g, cap, cur, hv, hbase, hblk, rest⟩
  · exact .inl h0
  · exact .inr ⟨g, cap, cur, hv, hbase, by rw [ho.block g (Array.getElem?_eq_some_iff.1 hblk).1 (hs g hbase)]; exact hblk, rest⟩

/-- A call that moves the reader alone. -/
theorem AtmLoop.move {w wr wr' : World} {p : Nat} {ao : Option Addr} {cap : Nat} {L : List Tok} {c f : Int} {R R' : List Tok} {nt : ByteArray} {off : Int} {v : Value} {acc : List Trm} (h : AtmLoop w wr p ao cap L c f R nt off v acc) (ho : Only (fun k => k = p) wr wr') (ha : Ahead wr' p ao cap L c f R') : AtmLoop w wr' p ao cap L c f R' nt off v acc :=
  have hp := h.pl
  ⟨ha, by rw [ho.block _ (Array.getElem?_eq_some_iff.1 h.ba).1 (by omega)]; exact h.ba, by rw [ho.block _ (Array.getElem?_eq_some_iff.1 h.br).1 (by omega)]; exact h.br,
    own_only h.ow ho (fun k hk e => by omega), h.on.trans (ho.mono fun k _ e => .inl e), h.pl, h.gd, h.tk⟩
theorem AtmLoop.below {w wr wr' : World} {p : Nat} {ao : Option Addr} {cap : Nat} {L : List Tok} {c f : Int} {R : List Tok} {nt : ByteArray} {off : Int} {v : Value} {acc : List Trm} (h : AtmLoop w wr p ao cap L c f R nt off v acc) (hb : Below wr.heap.size wr wr') : AtmLoop w wr' p ao cap L c f R nt off v acc :=
  h.move (Only.of_below hb _) (h.ah.kept hb)

theorem AtmLoop.cells {w wr : World} {p : Nat} {ao : Option Addr} {cap : Nat} {L : List Tok} {c f : Int} {R : List Tok} {nt : ByteArray} {off : Int} {v : Value} {acc : List Trm} (h : AtmLoop w wr p ao cap L c f R nt off v acc) :
    wr.cell? ⟨w.heap.size + 1 + 1, 0, none⟩ = some (.string nt) ∧ wr.cell? ⟨w.heap.size + 1 + 1, 1, none⟩ = some v ∧ wr.cell? ⟨w.heap.size + 1 + 1, 2, none⟩ = some (.int .i64 off) ∧ wr.frozen? ⟨w.heap.size + 1 + 1, 1, none⟩ = false := by
  refine ⟨?_, ?_, ?_, ?_⟩ <;> simp [World.cell?, World.frozen?, h.ba]
theorem AtmLoop.box {w wr : World} {p : Nat} {ao : Option Addr} {cap : Nat} {L : List Tok} {c f : Int} {R : List Tok} {nt : ByteArray} {off : Int} {v : Value} {acc : List Trm} (h : AtmLoop w wr p ao cap L c f R nt off v acc) :
    wr.cell? ⟨w.heap.size + 1, 0, none⟩ = some (.string ⟨#[]⟩) ∧ wr.cell? ⟨w.heap.size + 1, 1, none⟩ = some (.slice none 0 0) ∧ wr.cell? ⟨w.heap.size + 1, 2, none⟩ = some (.int .i64 0) ∧ wr.frozen? ⟨w.heap.size + 1, 0, none⟩ = false ∧ wr.frozen? ⟨w.heap.size + 1, 1, none⟩ = false ∧ wr.frozen? ⟨w.heap.size + 1, 2, none⟩ = false := by
  refine ⟨?_, ?_, ?_, ?_, ?_, ?_⟩ <;> simp [World.cell?, World.frozen?, h.br]

theorem AtmLoop.far {w wr w1 : World} {p : Nat} {ao : Option Addr} {cap : Nat} {L : List Tok} {c f : Int} {R : List Tok} {nt : ByteArray} {off : Int} {v : Value} {acc : List Trm} (h : AtmLoop w wr p ao cap L c f R nt off v acc) (hg : wr.grownBy w1 v.ownBlock) :
    w1.cell? ⟨w.heap.size + 1 + 1, 1, none⟩ = some v ∧ w1.frozen? ⟨w.heap.size + 1 + 1, 1, none⟩ = false := by
  have hvb : ∀ k, v.ownBlock = some k → w.heap.size + 3 ≤ k := fun k hk => by
    rcases h.ow.2 with ⟨e, _⟩ | ⟨g, cap', cur, e, hbase, _⟩
    · rw [e] at hk; cases hk
    · rw [e] at hk
      have : g = k := by simpa [Value.ownBlock] using hk
      omega
  have ho : Only (fun k => w.heap.size + 3 ≤ k) wr w1 := (Only.refl _ wr).grown hg (fun k hk _ => hvb k hk)
  have hba : w1.heap[w.heap.size + 1 + 1]? = some (.cells #[.string nt, v, .int .i64 off] 50 (0, 0)) := by
    rw [ho.block _ (Array.getElem?_eq_some_iff.1 h.ba).1 (by omega)]; exact h.ba
  refine ⟨?_, ?_⟩ <;> simp [World.cell?, World.frozen?, hba]

/-- A term more, behind an append and the store of the new slice. -/
theorem AtmLoop.push {w wr w1 : World} {p : Nat} {ao : Option Addr} {cap : Nat} {L : List Tok} {c f : Int} {R : List Tok} {nt : ByteArray} {off : Int} {v v' : Value} {acc : List Trm} {t : Trm} (h : AtmLoop w wr p ao cap L c f R nt off v acc)
    (ht : t.ok) (hg : wr.grownBy w1 v.ownBlock) (hown : w1.ownsRow (w.heap.size + 3) 65 4 v' (acc.length + 1) (acc.flatMap cellsT ++ cellsT t)) :
    AtmLoop w (w1.setCell ⟨w.heap.size + 1 + 1, 1, none⟩ v') p ao cap L c f R nt off v' (acc ++ [t]) := by
  have hp := h.pl
  have hvb : ∀ k, v.ownBlock = some k → w.heap.size + 3 ≤ k := fun k hk => by
    rcases h.ow.2 with ⟨e, _⟩ | ⟨g, cap', cur, e, hbase, _⟩
    · rw [e] at hk; cases hk
    · rw [e] at hk
      have : g = k := by simpa [Value.ownBlock] using hk
      omega
  have ho : Only (fun k => w.heap.size + 3 ≤ k) wr w1 := (Only.refl _ wr).grown hg (fun k hk _ => hvb k hk)
  have hba : w1.heap[w.heap.size + 1 + 1]? = some (.cells #[.string nt, v, .int .i64 off] 50 (0, 0)) := by
    rw [ho.block _ (Array.getElem?_eq_some_iff.1 h.ba).1 (by omega)]; exact h.ba
  have ho2 : Only (fun k => w.heap.size + 1 + 1 ≤ k) wr (w1.setCell ⟨w.heap.size + 1 + 1, 1, none⟩ v') := (ho.mono (fun k _ (e : w.heap.size + 3 ≤ k) => (by omega : w.heap.size + 1 + 1 ≤ k))).setCell (p := ⟨w.heap.size + 1 + 1, 1, none⟩) (Nat.le_refl _) _
  have h1 : Only (fun k => k = w.heap.size + 1 + 1) w1 (w1.setCell ⟨w.heap.size + 1 + 1, 1, none⟩ v') := (Only.refl (fun k => k = w.heap.size + 1 + 1) w1).setCell (p := ⟨w.heap.size + 1 + 1, 1, none⟩) rfl _
  refine ⟨?_, ?_, ?_, ?_, ?_, h.pl, fun x hx => (List.mem_append.1 hx).elim (h.gd x) (fun e => by simp only [List.mem_singleton] at e; subst e; exact ht), h.tk⟩
  · obtain ⟨i, q1, q2⟩ := h.ah
    refine ⟨i, q1.only ho2 (by omega) (fun g hg hl => ?_), q2⟩
    have := h.tk g hg hl
    omega
  · simp [World.setCell, Array.getElem?_modify, hba]
  · rw [ho2.block _ (Array.getElem?_eq_some_iff.1 h.br).1 (by omega)]; exact h.br
  · have := own_only hown h1 (fun k hk e => by omega)
    rw [List.length_append, List.flatMap_append]
    simpa using this
  · exact h.on.trans (ho2.mono fun k _ (e : w.heap.size + 1 + 1 ≤ k) => .inr (by omega))

theorem termP_ok {t : Tok} (h : t.good) : (termP t).ok := by
  obtain ⟨h1, h2, h3, h4, h5⟩ := h
  refine ⟨⟨?_, h3, ?_⟩, ?_⟩
  · unfold I64 termP kindT Trm.con; simp only; split <;> (try split) <;> (try split) <;> omega
  · show t.t.size ≤ _; omega
  · show I64 (t.off : Int); unfold I64; omega
theorem AtmLoop.grow {w wr : World} {p : Nat} {ao : Option Addr} {cap : Nat} {L : List Tok} {c f : Int} {R : List Tok} {nt : ByteArray} {off : Int} {v : Value} {acc : List Trm} (h : AtmLoop w wr p ao cap L c f R nt off v acc) : Grow elTrm 65 (w.heap.size + 3) wr v acc := ⟨h.ow, fun x hx => h.gd x hx⟩

theorem AtmLoop.base {w wr : World} {p : Nat} {ao : Option Addr} {cap : Nat} {L : List Tok} {c f : Int} {R : List Tok} {nt : ByteArray} {off : Int} {v : Value} {acc : List Trm} (h : AtmLoop w wr p ao cap L c f R nt off v acc) : w.heap.size + 3 ≤ wr.heap.size := by
  have := (Array.getElem?_eq_some_iff.1 h.ba).1
  omega

theorem AtmLoop.pushG {w wr w1 : World} {p : Nat} {ao : Option Addr} {cap : Nat} {L : List Tok} {c f : Int} {R : List Tok} {nt : ByteArray} {off : Int} {v v' : Value} {acc : List Trm} {t : Trm} (h : AtmLoop w wr p ao cap L c f R nt off v acc) (ht : t.ok)
    (hg : wr.grownBy w1 v.ownBlock) (hG : Grow elTrm 65 (w.heap.size + 3) w1 v' (acc ++ [t])) :
    AtmLoop w (w1.setCell ⟨w.heap.size + 1 + 1, 1, none⟩ v') p ao cap L c f R nt off v' (acc ++ [t]) := by
  refine h.push ht hg ?_
  have := hG.1
  rw [List.length_append, List.flatMap_append] at this
  show w1.ownsRow _ _ elTrm.size _ _ (acc.flatMap elTrm.cells ++ elTrm.cells t)
  simpa using this

theorem AtmLoop.fin {w wr : World} {p : Nat} {ao : Option Addr} {cap : Nat} {L : List Tok} {c f : Int} {R : List Tok} {nt : ByteArray} {off : Int} {v : Value} {acc : List Trm} (h : AtmLoop w wr p ao cap L c f R nt off v acc) (hl : acc.length ≤ 8) (u0 u1 u2 : Value) :
    Lst elTrm (((wr.setCell ⟨w.heap.size + 1, 0, none⟩ u0).setCell ⟨w.heap.size + 1, 1, none⟩ u1).setCell ⟨w.heap.size + 1, 2, none⟩ u2) (fun b => w.heap.size ≤ b) v acc ∧ Ahead (((wr.setCell ⟨w.heap.size + 1, 0, none⟩ u0).setCell ⟨w.heap.size + 1, 1, none⟩ u1).setCell ⟨w.heap.size + 1, 2, none⟩ u2) p ao cap L c f R ∧ Only (fun k => k = p) w (((wr.setCell ⟨w.heap.size + 1, 0, none⟩ u0).setCell ⟨w.heap.size + 1, 1, none⟩ u1).setCell ⟨w.heap.size + 1, 2, none⟩ u2) := by
  have hp := h.pl
  have ho : Only (fun k => k = w.heap.size + 1) wr (((wr.setCell ⟨w.heap.size + 1, 0, none⟩ u0).setCell ⟨w.heap.size + 1, 1, none⟩ u1).setCell ⟨w.heap.size + 1, 2, none⟩ u2) := (((Only.refl (fun k => k = w.heap.size + 1) wr).setCell (p := ⟨w.heap.size + 1, 0, none⟩) rfl _).setCell (p := ⟨w.heap.size + 1, 1, none⟩) rfl _).setCell (p := ⟨w.heap.size + 1, 2, none⟩) rfl _
  refine ⟨?_, ?_, ?_⟩
  · exact ((h.grow.above fun b hb hlt => ho.block b hlt (by omega)).new (by omega)).move fun b _ hF => ⟨by omega, rfl⟩
  · obtain ⟨i, q1, q2⟩ := h.ah
    exact ⟨i, q1.only ho (by omega) (fun g hg hl => by have := h.tk g hg hl; omega), q2⟩
  · exact (h.on.trans (ho.mono fun k _ (e : k = w.heap.size + 1) => .inr (by omega))).mono fun k hk e => e.elim id fun e => by omega

theorem take_eq {c f : Int} {ks : List Int} {R r : List Tok} {t : Tok} (h : takeP c f ks R = .ok t r) : R = t :: r ∧ t.k ∈ ks := by
  match R, h with
  | x :: r', h =>
    simp only [takeP] at h
    by_cases hm : x.k ∈ ks
    · rw [if_pos hm] at h; injection h with e1 e2; subst e1 e2; exact ⟨rfl, hm⟩
    · rw [if_neg hm] at h; cases h
theorem args_bad1 {c f ec eo : Int} {ks : List Int} {acc : List Trm} {R : List Tok} (h : takeP c f ks R = .bad ec eo) : argsP c f ks acc R = .bad ec eo := by
  match R, h with
  | [], h => simp only [takeP] at h; injection h with e1 e2; subst e1 e2; unfold argsP; rfl
  | x :: r', h =>
    simp only [takeP] at h
    by_cases hm : x.k ∈ ks
    · rw [if_pos hm] at h; cases h
    · rw [if_neg hm] at h; injection h with e1 e2; unfold argsP; rw [if_neg hm, e1, e2]
theorem args_lim {c f : Int} {ks : List Int} {acc : List Trm} {R r : List Tok} {t : Tok} (h : takeP c f ks R = .ok t r) (h8 : acc.length = 8) : argsP c f ks acc R = .bad 22 t.off := by
  obtain ⟨rfl, hm⟩ := take_eq h
  unfold argsP
  rw [if_pos hm, if_pos h8]
theorem args_next {c f : Int} {ks : List Int} {acc : List Trm} {R r : List Tok} {t : Tok} (h : takeP c f ks R = .ok t r) (h8 : acc.length ≠ 8) : argsP c f ks acc R = match takeP c f [7, 6] r with | .bad ec eo => .bad ec eo | .ok s r2 => if s.k = 7 then argsP c f ks (acc ++ [termP t]) r2 else .ok (acc ++ [termP t]) r2 := by
  obtain ⟨rfl, hm⟩ := take_eq h
  rw [argsP.eq_def]
  simp only
  rw [if_pos hm, if_neg h8]
  match r with
  | [] => rfl
  | s :: r' =>
    simp only [takeP]
    by_cases h7 : s.k = 7
    · simp [h7]
    · by_cases h6 : s.k = 6
      · simp [h6]
      · simp [h6, h7]
end Go.Proofs.YtjofiibfgfdleaaDoor

namespace Go.Proofs.YtjofiibfgfdleaaDoor
set_option linter.unusedSimpArgs false
set_option linter.unusedVariables false
open Go.RowKit

theorem take_len {c f : Int} {ks : List Int} {R r : List Tok} {t : Tok} (h : takeP c f ks R = .ok t r) : r.length + 1 = R.length := by
  obtain ⟨rfl, _⟩ := take_eq h
  rfl
theorem args_len {c f : Int} {ks : List Int} : ∀ (n : Nat) (acc : List Trm) (R r : List Tok) (ts : List Trm), R.length = n → argsP c f ks acc R = .ok ts r → r.length < R.length := by
  intro n
  induction n using Nat.strongRecOn with
  | ind n ih =>
    intro acc R r ts hn h
    cases hT : takeP c f ks R with
    | bad ec eo => rw [args_bad1 hT] at h; cases h
    | ok t r1 =>
      have l1 := take_len hT
      by_cases h8 : acc.length = 8
      · rw [args_lim hT h8] at h; cases h
      · rw [args_next hT h8] at h
        cases hU : takeP c f [7, 6] r1 with
        | bad ec eo => rw [hU] at h; cases h
        | ok s r2 =>
          have l2 := take_len hU
          rw [hU] at h
          simp only at h
          by_cases h7 : s.k = 7
          · rw [if_pos h7] at h
            have := ih r2.length (by omega) _ r2 r ts rfl h
            omega
          · rw [if_neg h7] at h
            injection h with e1 e2
            subst e2
            omega
theorem atom_len {c f : Int} {ks : List Int} {name : Tok} {R r : List Tok} {a : PAtom} (h : atomP c f ks name R = .ok a r) : r.length ≤ R.length := by
  match R, h with
  | [], h => simp [atomP] at h
  | t :: r1, h =>
    unfold atomP at h
    simp only at h
    by_cases h5 : t.k = 5
    · rw [if_pos h5] at h
      cases hA : argsP c f ks [] r1 with
      | bad ec eo => rw [hA] at h; cases h
      | ok ts r2 =>
        rw [hA] at h
        injection h with e1 e2
        subst e2
        have := args_len _ _ _ _ _ rfl hA
        simp only [List.length_cons]
        omega
    · rw [if_neg h5] at h
      injection h with e1 e2
      subst e2
      exact Nat.le_refl _
theorem lit_len {c f : Int} {first : Tok} {R r : List Tok} {x : PLit} (h : litP c f first R = .ok x r) : r.length ≤ R.length := by
  have test : ∀ (q : PLit) (r : List Tok), (match takeP c f [11] R with
      | .bad c o => PR.bad c o
      | .ok o1 r' => match takeP c f termKs r' with
        | .bad c o => .bad c o
        | .ok t2 r'' => .ok ⟨3, zeroAtom, o1.op, termP first, termP t2, first.off⟩ r'') = PR.ok q r → r.length ≤ R.length := by
    intro q r h
    cases hT : takeP c f [11] R with
    | bad ec eo => rw [hT] at h; cases h
    | ok o1 r1 =>
      rw [hT] at h
      simp only at h
      cases hU : takeP c f termKs r1 with
      | bad ec eo => rw [hU] at h; cases h
      | ok t2 r2 =>
        rw [hU] at h
        injection h with e1 e2
        subst e2
        have := take_len hT
        have := take_len hU
        omega
  unfold litP at h
  by_cases h10 : first.k = 10
  · rw [if_pos h10] at h
    cases hT : takeP c f [1] R with
    | bad ec eo => rw [hT] at h; cases h
    | ok n r1 =>
      rw [hT] at h
      simp only at h
      cases hA : atomP c f termKs n r1 with
      | bad ec eo => rw [hA] at h; cases h
      | ok a r2 =>
        rw [hA] at h
        injection h with e1 e2
        subst e2
        have := take_len hT
        have := atom_len hA
        omega
  · rw [if_neg h10] at h
    simp only at h
    by_cases h1 : first.k = 1
    · rw [if_pos h1] at h
      cases R with
      | nil => cases h
      | cons t r1 =>
        simp only at h
        by_cases h11 : t.k = 11
        · rw [if_pos h11] at h; exact test _ _ h
        · rw [if_neg h11] at h
          cases hA : atomP c f termKs first (t :: r1) with
          | bad ec eo => rw [hA] at h; cases h
          | ok a r2 =>
            rw [hA] at h
            injection h with e1 e2
            subst e2
            exact atom_len hA
    · rw [if_neg h1] at h; exact test _ _ h
theorem body_len {c f : Int} : ∀ (n : Nat) (acc : List PLit) (R r : List Tok) (b : List PLit), bodyF c f n acc R = .ok b r → r.length < R.length := by
  intro n
  induction n with
  | zero => intro acc R r b h; cases h
  | succ n ih =>
    intro acc R r b h
    unfold bodyF at h
    cases hT : takeP c f [1, 10, 2, 3, 4] R with
    | bad ec eo => rw [hT] at h; cases h
    | ok t r1 =>
      rw [hT] at h
      simp only at h
      have l1 := take_len hT
      by_cases h16 : acc.length = 16
      · rw [if_pos h16] at h; cases h
      · rw [if_neg h16] at h
        cases hL : litP c f t r1 with
        | bad ec eo => rw [hL] at h; cases h
        | ok x r2 =>
          rw [hL] at h
          simp only at h
          have l2 := lit_len hL
          cases hU : takeP c f [7, 8] r2 with
          | bad ec eo => rw [hU] at h; cases h
          | ok s r3 =>
            rw [hU] at h
            simp only at h
            have l3 := take_len hU
            by_cases h8 : s.k = 8
            · rw [if_pos h8] at h
              injection h with e1 e2
              subst e2
              omega
            · rw [if_neg h8] at h
              have := ih _ _ _ _ h
              omega
section
variable {c f ec eo : Int} {n : Nat} {acc : List PLit} {R r1 r2 r3 : List Tok} {t s : Tok} {x : PLit}
theorem body_bad1 (hT : takeP c f [1, 10, 2, 3, 4] R = .bad ec eo) : bodyF c f (n + 1) acc R = .bad ec eo := by rw [bodyF, hT]
theorem body_lim (hT : takeP c f [1, 10, 2, 3, 4] R = .ok t r1) (h : acc.length = 16) : bodyF c f (n + 1) acc R = .bad 23 t.off := by rw [bodyF, hT]; simp only; rw [if_pos h]
theorem body_lit (hT : takeP c f [1, 10, 2, 3, 4] R = .ok t r1) (h : acc.length ≠ 16) (hL : litP c f t r1 = .bad ec eo) : bodyF c f (n + 1) acc R = .bad ec eo := by rw [bodyF, hT]; simp only; rw [if_neg h, hL]
theorem body_sep (hT : takeP c f [1, 10, 2, 3, 4] R = .ok t r1) (h : acc.length ≠ 16) (hL : litP c f t r1 = .ok x r2) (hU : takeP c f [7, 8] r2 = .bad ec eo) : bodyF c f (n + 1) acc R = .bad ec eo := by rw [bodyF, hT]; simp only; rw [if_neg h, hL]; simp only; rw [hU]
theorem body_end (hT : takeP c f [1, 10, 2, 3, 4] R = .ok t r1) (h : acc.length ≠ 16) (hL : litP c f t r1 = .ok x r2) (hU : takeP c f [7, 8] r2 = .ok s r3) (h8 : s.k = 8) : bodyF c f (n + 1) acc R = .ok (acc ++ [x]) r3 := by rw [bodyF, hT]; simp only; rw [if_neg h, hL]; simp only; rw [hU]; simp only; rw [if_pos h8]
theorem body_more (hT : takeP c f [1, 10, 2, 3, 4] R = .ok t r1) (h : acc.length ≠ 16) (hL : litP c f t r1 = .ok x r2) (hU : takeP c f [7, 8] r2 = .ok s r3) (h8 : s.k ≠ 8) : bodyF c f (n + 1) acc R = bodyF c f n (acc ++ [x]) r3 := by rw [bodyF, hT]; simp only; rw [if_neg h, hL]; simp only; rw [hU]; simp only; rw [if_neg h8]
end
theorem clause_len {c f : Int} {name : Tok} {R r : List Tok} {x : PCls} (h : clauseP c f name R = .ok x r) : r.length < R.length := by
  unfold clauseP at h
  cases hA : atomP c f termKs name R with
  | bad ec eo => rw [hA] at h; cases h
  | ok a r1 =>
    rw [hA] at h
    simp only at h
    have l1 := atom_len hA
    cases hT : takeP c f [8, 9] r1 with
    | bad ec eo => rw [hT] at h; cases h
    | ok s r2 =>
      rw [hT] at h
      simp only at h
      have l2 := take_len hT
      by_cases h9 : s.k = 9
      · rw [if_pos h9] at h
        cases hB : bodyP c f r2 with
        | bad ec eo => rw [hB] at h; cases h
        | ok b r3 =>
          rw [hB] at h
          injection h with e1 e2
          subst e2
          have := body_len _ _ _ _ _ hB
          omega
      · rw [if_neg h9] at h
        injection h with e1 e2
        subst e2
        omega
section
variable {c f ec eo : Int} {n : Nat} {acc : List PCls} {fs : List PAtom} {R r1 r2 r3 : List Tok} {t s : Tok} {x : PCls} {y : PAtom}
theorem prog_bad1 (hT : takeP c f [1, 0] R = .bad ec eo) : progF c f (n + 1) acc R = .bad ec eo := by rw [progF, hT]
theorem prog_end (hT : takeP c f [1, 0] R = .ok t r1) (h0 : t.k = 0) : progF c f (n + 1) acc R = .ok acc r1 := by rw [progF, hT]; simp only; rw [if_pos h0]
theorem prog_lim (hT : takeP c f [1, 0] R = .ok t r1) (h0 : t.k ≠ 0) (h : acc.length = 512) : progF c f (n + 1) acc R = .bad 24 t.off := by rw [progF, hT]; simp only; rw [if_neg h0, if_pos h]
theorem prog_cls (hT : takeP c f [1, 0] R = .ok t r1) (h0 : t.k ≠ 0) (h : acc.length ≠ 512) (hC : clauseP c f t r1 = .bad ec eo) : progF c f (n + 1) acc R = .bad ec eo := by rw [progF, hT]; simp only; rw [if_neg h0, if_neg h, hC]
theorem prog_more (hT : takeP c f [1, 0] R = .ok t r1) (h0 : t.k ≠ 0) (h : acc.length ≠ 512) (hC : clauseP c f t r1 = .ok x r2) : progF c f (n + 1) acc R = progF c f n (acc ++ [x]) r2 := by rw [progF, hT]; simp only; rw [if_neg h0, if_neg h, hC]
theorem facts_bad1 (hT : takeP c f [1, 0] R = .bad ec eo) : factsF c f (n + 1) fs R = .bad ec eo := by rw [factsF, hT]
theorem facts_end (hT : takeP c f [1, 0] R = .ok t r1) (h0 : t.k = 0) : factsF c f (n + 1) fs R = .ok fs r1 := by rw [factsF, hT]; simp only; rw [if_pos h0]
theorem facts_lim (hT : takeP c f [1, 0] R = .ok t r1) (h0 : t.k ≠ 0) (h : fs.length = 4096) : factsF c f (n + 1) fs R = .bad 24 t.off := by rw [factsF, hT]; simp only; rw [if_neg h0, if_pos h]
theorem facts_atom (hT : takeP c f [1, 0] R = .ok t r1) (h0 : t.k ≠ 0) (h : fs.length ≠ 4096) (hC : atomP c f valueKs t r1 = .bad ec eo) : factsF c f (n + 1) fs R = .bad ec eo := by rw [factsF, hT]; simp only; rw [if_neg h0, if_neg h, hC]
theorem facts_dot (hT : takeP c f [1, 0] R = .ok t r1) (h0 : t.k ≠ 0) (h : fs.length ≠ 4096) (hC : atomP c f valueKs t r1 = .ok y r2) (hD : takeP c f [8] r2 = .bad ec eo) : factsF c f (n + 1) fs R = .bad ec eo := by rw [factsF, hT]; simp only; rw [if_neg h0, if_neg h, hC]; simp only; rw [hD]
theorem facts_more (hT : takeP c f [1, 0] R = .ok t r1) (h0 : t.k ≠ 0) (h : fs.length ≠ 4096) (hC : atomP c f valueKs t r1 = .ok y r2) (hD : takeP c f [8] r2 = .ok s r3) : factsF c f (n + 1) fs R = factsF c f n (fs ++ [y]) r3 := by rw [factsF, hT]; simp only; rw [if_neg h0, if_neg h, hC]; simp only; rw [hD]
end
end Go.Proofs.YtjofiibfgfdleaaDoor

namespace Go.Proofs.YtjofiibfgfdleaaDoor
set_option linter.unusedSimpArgs false
set_option linter.unusedVariables false
open Go.RowKit

theorem parse_i64 {l : List UInt8} {v : Int} (h : Lib.parseIntB 64 l = .ok v) : I64 v := by
  unfold Lib.parseIntB at h
  cases l with
  | nil => cases h
  | cons c r =>
    simp only at h
    cases hu : Lib.parseUintB 64 (if c.toNat = 43 ∨ c.toNat = 45 then r else c :: r) with
    | «syntax» => rw [hu] at h; cases h
    | range => rw [hu] at h; cases h
    | ok u =>
      rw [hu] at h
      simp only at h
      by_cases h1 : ¬ c.toNat = 45 ∧ 2 ^ (64 - 1) ≤ u
      · rw [if_pos h1] at h; cases h
      · rw [if_neg h1] at h
        by_cases h2 : c.toNat = 45 ∧ 2 ^ (64 - 1) < u
        · rw [if_pos h2] at h; cases h
        · rw [if_neg h2] at h
          injection h with h
          subst h
          unfold I64
          by_cases h3 : c.toNat = 45
          · rw [if_pos h3]; simp only [h3, true_and] at h2; omega
          · rw [if_neg h3]; simp only [h3, not_false_eq_true, true_and] at h1; omega

theorem push_size (vs : List Int) : ∀ b : ByteArray, (vs.foldl (fun r n => r.push (UInt8.ofNat n.toNat)) b).size = b.size + vs.length := by
  induction vs with
  | nil => intro b; simp
  | cons a r ih => intro b; rw [List.foldl_cons, ih, ByteArray.size_push, List.length_cons]; omega
theorem strOf_size (vs : List Int) : (strOf vs).size = vs.length := by unfold strOf; rw [push_size]; simp

theorem textF_good (s : ByteArray) (o : Nat) : ∀ (n i : Nat) (vs : List Int) (t : Tok), s.size - i = n → vs.length ≤ 255 → textF s o i vs = .tok t → t.k = 4 ∧ t.n = 0 ∧ t.op = 0 ∧ t.t.size ≤ 255 := by
  intro n
  induction n using Nat.strongRecOn with
  | ind n ih =>
    intro i vs t hn hv h
    rw [textF] at h
    by_cases h1 : i < s.size
    · rw [dif_pos h1] at h
      by_cases h2 : (s[i].toNat : Int) < 32
      · rw [if_pos h2] at h; cases h
      rw [if_neg h2] at h
      by_cases h3 : (s[i].toNat : Int) = 34
      · rw [if_pos h3] at h
        injection h with h
        subst h
        exact ⟨rfl, rfl, rfl, by show (strOf vs).size ≤ 255; rw [strOf_size]; exact hv⟩
      rw [if_neg h3] at h
      by_cases h4 : (s[i].toNat : Int) = 92
      · rw [if_pos h4] at h
        by_cases h5 : (escX (s.extract i s.size)).2.toNat = 0
        · rw [dif_pos h5] at h; cases h
        rw [dif_neg h5] at h
        by_cases h6 : vs.length = 255
        · rw [if_pos h6] at h; cases h
        rw [if_neg h6] at h
        exact ih (s.size - (i + (escX (s.extract i s.size)).2.toNat)) (by omega) _ _ t rfl (by simp; omega) h
      rw [if_neg h4] at h
      by_cases h6 : vs.length = 255
      · rw [if_pos h6] at h; cases h
      rw [if_neg h6] at h
      exact ih (s.size - (i + 1)) (by omega) _ _ t rfl (by simp; omega) h
    · rw [dif_neg h1] at h; cases h

theorem i64_small {x : Int} (h : -100 ≤ x ∧ x ≤ 100) : I64 x := by unfold I64; omega
theorem punctL_good {l : List UInt8} {n : Nat} {k op : Int} : ∀ {ms : List (List UInt8 × Int × Int)}, (∀ m ∈ ms, (0 ≤ m.2.1 ∧ m.2.1 ≤ 100) ∧ (0 ≤ m.2.2 ∧ m.2.2 ≤ 100)) → punctL ms l = some (n, k, op) → (0 ≤ k ∧ k ≤ 100) ∧ (0 ≤ op ∧ op ≤ 100)
  | [], _, h => by simp [punctL] at h
  | m :: r, hm, h => by
    unfold punctL at h
    by_cases h1 : Lib.hasPrefix l m.1 = true
    · rw [if_pos h1] at h
      simp only [Option.some.injEq, Prod.mk.injEq] at h
      obtain ⟨-, rfl, rfl⟩ := h
      exact hm m List.mem_cons_self
    · rw [if_neg h1] at h
      exact punctL_good (fun m' hm' => hm m' (List.mem_cons_of_mem _ hm')) h

theorem tokAt_good {s : ByteArray} {g : Nat} {t : Tok} (hs : s.size ≤ 65536) (hg : g ≤ s.size) (h : tokAt s g = .tok t) : t.good := by
  have ho := (tokAt_en hg h).1
  have key : t.t.size ≤ 65536 ∧ I64 t.k ∧ I64 t.n ∧ I64 t.op := by
    unfold tokAt at h
    by_cases h0 : g < s.size
    · rw [dif_pos h0] at h
      split at h
      · unfold wordX at h
        simp only at h
        split at h
        · cases h
        · next hm =>
          have hz : (s.extract g (g + runC (rest s g))).size ≤ 65536 := by rw [ByteArray.size_extract]; omega
          split at h
          · injection h with h; subst h; exact ⟨by show (0 : Nat) ≤ 65536; omega, i64_small (by simp), i64_small (by simp), i64_small (by simp)⟩
          · split at h
            · injection h with h; subst h; exact ⟨hz, i64_small (by simp), i64_small (by simp), i64_small (by simp)⟩
            · injection h with h; subst h; exact ⟨hz, i64_small (by simp), i64_small (by simp), i64_small (by simp)⟩
      · split at h
        · unfold intX at h
          split at h
          · next v hv => injection h with h; subst h; exact ⟨by show (0 : Nat) ≤ 65536; omega, i64_small (by simp), parse_i64 hv, i64_small (by simp)⟩
          · cases h
        · split at h
          · obtain ⟨h1, h2, h3, h4⟩ := textF_good s g _ _ _ _ rfl (by simp) h
            exact ⟨by omega, by rw [h1]; exact i64_small (by simp), by rw [h2]; exact i64_small (by simp), by rw [h3]; exact i64_small (by simp)⟩
          · unfold punctX at h
            cases hp : punctL marksT (rest s g) with
            | none => rw [hp] at h; cases h
            | some x =>
              obtain ⟨n, k, op⟩ := x
              rw [hp] at h
              injection h with h
              subst h
              have := punctL_good (by decide) hp
              exact ⟨by show (0 : Nat) ≤ 65536; omega, i64_small (by show -100 ≤ k ∧ k ≤ 100; omega), i64_small (by simp), i64_small (by show -100 ≤ op ∧ op ≤ 100; omega)⟩
    · rw [dif_neg h0] at h
      injection h with h; subst h; exact ⟨by show (0 : Nat) ≤ 65536; omega, i64_small (by simp), i64_small (by simp), i64_small (by simp)⟩
  exact ⟨key.1, key.2.1, key.2.2.1, key.2.2.2, by omega⟩
theorem next_good {s : ByteArray} {o : Nat} {t : Tok} (hs : s.size ≤ 65536) (ho : o ≤ s.size) (h : nextX s o = .tok t) : t.good := by
  have h1 := next_tok ho h
  unfold nextX at h
  rw [if_pos h1.1] at h
  exact tokAt_good hs (gapW_le s o ho).2 h
theorem toks_good {s : ByteArray} (hs : s.size ≤ 65536) {o : Nat} {L : List Tok} {c : Int} {f : Nat} (h : Toks s o L c f) : (∀ t ∈ L, t.good) ∧ L.length + o ≤ s.size + 1 := by
  induction h with
  | bad ho hx => exact ⟨by simp, by simp; omega⟩
  | last ho hx hk => exact ⟨fun t ht => by simp only [List.mem_singleton] at ht; subst ht; exact next_good hs ho hx, by simp; omega⟩
  | more ho hx hk T ih =>
    obtain ⟨-, -, h1, h2⟩ := next_tok ho hx
    obtain ⟨_, h3, h4⟩ := h2.resolve_left (fun h => hk h.1)
    refine ⟨fun t ht => ?_, by simp only [List.length_cons]; omega⟩
    rcases List.mem_cons.1 ht with rfl | ht
    · exact next_good hs ho hx
    · exact ih.1 t ht
theorem scan_good (s : ByteArray) : (∀ t ∈ (scanX s).1, t.good) ∧ (scanX s).1.length ≤ 65538 := by
  by_cases hs : s.size ≤ 65536
  · have := toks_good hs (scan_toks s hs)
    exact ⟨this.1, by omega⟩
  · have e : scanX s = ([], 1, 0) := if_pos (by omega)
    rw [e]
    exact ⟨by simp, by simp⟩
end Go.Proofs.YtjofiibfgfdleaaDoor

namespace Go.Proofs.YtjofiibfgfdleaaDoor
set_option linter.unusedSimpArgs false
set_option linter.unusedVariables false
open Go.RowKit

def Cd {α : Type} (c : Int) : PR α → Prop
  | .bad ec _ => ec = c ∨ 20 ≤ ec
  | .ok _ _ => True
theorem misK_20 (k : Int) : 20 ≤ misK k := by unfold misK; split <;> decide
theorem take_cd {c f : Int} {ks : List Int} {R : List Tok} : Cd c (takeP c f ks R) := by
  match R with
  | [] => exact .inl rfl
  | t :: r =>
    simp only [takeP]
    by_cases hm : t.k ∈ ks
    · rw [if_pos hm]; trivial
    · rw [if_neg hm]; exact .inr (misK_20 _)
theorem cd_bad {α : Type} {c ec eo : Int} {x : PR α} (h : Cd c x) (e : x = .bad ec eo) : ec = c ∨ 20 ≤ ec := by subst e; exact h
theorem args_cd {c f : Int} {ks : List Int} : ∀ (n : Nat) (acc : List Trm) (R : List Tok), R.length = n → Cd c (argsP c f ks acc R) := by
  intro n
  induction n using Nat.strongRecOn with
  | ind n ih =>
    intro acc R hn
    cases hT : takeP c f ks R with
    | bad ec eo => rw [args_bad1 hT]; exact cd_bad take_cd hT
    | ok t r1 =>
      have l1 := take_len hT
      by_cases h8 : acc.length = 8
      · rw [args_lim hT h8]; exact .inr (by decide)
      · rw [args_next hT h8]
        cases hU : takeP c f [7, 6] r1 with
        | bad ec eo => exact cd_bad take_cd hU
        | ok s r2 =>
          have l2 := take_len hU
          simp only
          by_cases h7 : s.k = 7
          · rw [if_pos h7]; exact ih r2.length (by omega) _ r2 rfl
          · rw [if_neg h7]; trivial
theorem atom_cd {c f : Int} {ks : List Int} {name : Tok} {R : List Tok} : Cd c (atomP c f ks name R) := by
  match R with
  | [] => exact .inl rfl
  | t :: r1 =>
    unfold atomP
    simp only
    by_cases h5 : t.k = 5
    · rw [if_pos h5]
      cases hA : argsP c f ks [] r1 with
      | bad ec eo => exact cd_bad (args_cd _ _ _ rfl) hA
      | ok ts r2 => trivial
    · rw [if_neg h5]; trivial
theorem lit_cd {c f : Int} {first : Tok} {R : List Tok} : Cd c (litP c f first R) := by
  have test : Cd c (match takeP c f [11] R with
      | .bad c o => PR.bad c o
      | .ok o1 r' => match takeP c f termKs r' with
        | .bad c o => .bad c o
        | .ok t2 r'' => .ok (⟨3, zeroAtom, o1.op, termP first, termP t2, first.off⟩ : PLit) r'') := by
    cases hT : takeP c f [11] R with
    | bad ec eo => exact cd_bad take_cd hT
    | ok o1 r1 =>
      simp only
      cases hU : takeP c f termKs r1 with
      | bad ec eo => exact cd_bad take_cd hU
      | ok t2 r2 => trivial
  unfold litP
  by_cases h10 : first.k = 10
  · rw [if_pos h10]
    cases hT : takeP c f [1] R with
    | bad ec eo => exact cd_bad take_cd hT
    | ok n r1 =>
      simp only
      cases hA : atomP c f termKs n r1 with
      | bad ec eo => exact cd_bad atom_cd hA
      | ok a r2 => trivial
  · rw [if_neg h10]
    simp only
    by_cases h1 : first.k = 1
    · rw [if_pos h1]
      cases R with
      | nil => exact .inl rfl
      | cons t r1 =>
        simp only
        by_cases h11 : t.k = 11
        · rw [if_pos h11]; exact test
        · rw [if_neg h11]
          cases hA : atomP c f termKs first (t :: r1) with
          | bad ec eo => exact cd_bad atom_cd hA
          | ok a r2 => trivial
    · rw [if_neg h1]; exact test
theorem body_cd {c f : Int} : ∀ (n : Nat) (acc : List PLit) (R : List Tok), Cd c (bodyF c f n acc R) := by
  intro n
  induction n with
  | zero => intro acc R; exact .inl rfl
  | succ n ih =>
    intro acc R
    cases hT : takeP c f [1, 10, 2, 3, 4] R with
    | bad ec eo => rw [body_bad1 hT]; exact cd_bad take_cd hT
    | ok t r1 =>
      by_cases h16 : acc.length = 16
      · rw [body_lim hT h16]; exact .inr (by decide)
      · cases hL : litP c f t r1 with
        | bad ec eo => rw [body_lit hT h16 hL]; exact cd_bad lit_cd hL
        | ok x r2 =>
          cases hU : takeP c f [7, 8] r2 with
          | bad ec eo => rw [body_sep hT h16 hL hU]; exact cd_bad take_cd hU
          | ok s r3 =>
            by_cases h8 : s.k = 8
            · rw [body_end hT h16 hL hU h8]; trivial
            · rw [body_more hT h16 hL hU h8]; exact ih _ _
theorem clause_cd {c f : Int} {name : Tok} {R : List Tok} : Cd c (clauseP c f name R) := by
  unfold clauseP
  cases hA : atomP c f termKs name R with
  | bad ec eo => exact cd_bad atom_cd hA
  | ok a r1 =>
    simp only
    cases hT : takeP c f [8, 9] r1 with
    | bad ec eo => exact cd_bad take_cd hT
    | ok s r2 =>
      simp only
      by_cases h9 : s.k = 9
      · rw [if_pos h9]
        cases hB : bodyP c f r2 with
        | bad ec eo => exact cd_bad (body_cd _ _ _) hB
        | ok b r3 => trivial
      · rw [if_neg h9]; trivial
theorem prog_cd {c f : Int} : ∀ (n : Nat) (acc : List PCls) (R : List Tok), Cd c (progF c f n acc R) := by
  intro n
  induction n with
  | zero => intro acc R; exact .inl rfl
  | succ n ih =>
    intro acc R
    cases hT : takeP c f [1, 0] R with
    | bad e1 e2 => rw [prog_bad1 hT]; exact cd_bad take_cd hT
    | ok t r1 =>
      by_cases h0 : t.k = 0
      · rw [prog_end hT h0]; trivial
      · by_cases h5 : acc.length = 512
        · rw [prog_lim hT h0 h5]; exact .inr (by decide)
        · cases hC : clauseP c f t r1 with
          | bad e1 e2 => rw [prog_cls hT h0 h5 hC]; exact cd_bad clause_cd hC
          | ok x r2 => rw [prog_more hT h0 h5 hC]; exact ih _ _
theorem facts_cd {c f : Int} : ∀ (n : Nat) (acc : List PAtom) (R : List Tok), Cd c (factsF c f n acc R) := by
  intro n
  induction n with
  | zero => intro acc R; exact .inl rfl
  | succ n ih =>
    intro acc R
    cases hT : takeP c f [1, 0] R with
    | bad e1 e2 => rw [facts_bad1 hT]; exact cd_bad take_cd hT
    | ok t r1 =>
      by_cases h0 : t.k = 0
      · rw [facts_end hT h0]; trivial
      · by_cases h5 : acc.length = 4096
        · rw [facts_lim hT h0 h5]; exact .inr (by decide)
        · cases hC : atomP c f valueKs t r1 with
          | bad e1 e2 => rw [facts_atom hT h0 h5 hC]; exact cd_bad atom_cd hC
          | ok x r2 =>
            cases hD : takeP c f [8] r2 with
            | bad e1 e2 => rw [facts_dot hT h0 h5 hC hD]; exact cd_bad take_cd hD
            | ok s r3 => rw [facts_more hT h0 h5 hC hD]; exact ih _ _
theorem query_cd {c f : Int} {R : List Tok} : Cd c (queryP c f R) := by
  unfold queryP
  cases hB : bodyP c f R with
  | bad ec eo => exact cd_bad (body_cd _ _ _) hB
  | ok b r =>
    simp only
    cases hT : takeP c f [0] r with
    | bad ec eo => exact cd_bad take_cd hT
    | ok s r2 => trivial
theorem fact_cd {c f : Int} {R : List Tok} : Cd c (factP c f R) := by
  unfold factP
  cases hT : takeP c f [1] R with
  | bad ec eo => exact cd_bad take_cd hT
  | ok t r =>
    simp only
    cases hA : atomP c f valueKs t r with
    | bad ec eo => exact cd_bad atom_cd hA
    | ok a r2 =>
      simp only
      cases hD : takeP c f [0] r2 with
      | bad ec eo => exact cd_bad take_cd hD
      | ok s r3 => trivial
def fltP {α : Type} : PR α → Int × Int
  | .bad c o => (c, o)
  | .ok _ _ => (0, 0)
theorem flt_ne1 {α : Type} {c : Int} {x : PR α} (h : Cd c x) (hc : c ≠ 1) : (fltP x).1 ≠ 1 := by
  cases x with
  | bad ec eo => show ec ≠ 1; rcases h with h | h <;> omega
  | ok a r => show (0 : Int) ≠ 1; decide
theorem toks_c {s : ByteArray} {o : Nat} {L : List Tok} {c : Int} {f : Nat} (h : Toks s o L c f) : c ≠ 1 := by
  induction h with
  | bad ho hx => rcases next_bad hx with h | h <;> omega
  | last ho hx hk => decide
  | more ho hx hk T ih => exact ih
/-- The fault that each of the four readers tells. -/
def fOf (r : Nat) (s : ByteArray) : Int × Int :=
  if r = 0 then fltP (progP (scanX s).2.1 ((scanX s).2.2 : Int) (scanX s).1)
  else if r = 1 then fltP (factsP (scanX s).2.1 ((scanX s).2.2 : Int) (scanX s).1)
  else if r = 2 then fltP (queryP (scanX s).2.1 ((scanX s).2.2 : Int) (scanX s).1)
  else fltP (factP (scanX s).2.1 ((scanX s).2.2 : Int) (scanX s).1)
theorem fOf_short (r : Nat) {s : ByteArray} (h : s.size ≤ 65536) : (fOf r s).1 ≠ 1 := by
  have hc := toks_c (scan_toks s h)
  unfold fOf
  split
  · exact flt_ne1 (prog_cd _ _ _) hc
  · split
    · exact flt_ne1 (facts_cd _ _ _) hc
    · split
      · exact flt_ne1 query_cd hc
      · exact flt_ne1 fact_cd hc
theorem fOf_long (r : Nat) {s : ByteArray} (h : 65536 < s.size) : fOf r s = (1, 0) := by
  have e : scanX s = ([], 1, 0) := if_pos (by omega)
  unfold fOf
  rw [e]
  split
  · rfl
  · split
    · rfl
    · split <;> rfl
end Go.Proofs.YtjofiibfgfdleaaDoor

namespace Go.Proofs.YtjofiibfgfdleaaDoor
set_option linter.unusedSimpArgs false
set_option linter.unusedVariables false
open Go.RowKit

theorem toks_wf {s : ByteArray} {o : Nat} {L : List Tok} {c : Int} {f : Nat} (h : Toks s o L c f) : Wf c L := by
  induction h with
  | bad ho hx => unfold Wf; have := next_bad hx; omega
  | last ho hx hk => unfold Wf; rw [if_pos hk]; exact ⟨rfl, rfl⟩
  | more ho hx hk _ ih => unfold Wf; rw [if_neg hk]; exact ih
theorem scan_wf (s : ByteArray) : Wf (scanX s).2.1 (scanX s).1 := by
  by_cases h : s.size ≤ 65536
  · exact toks_wf (scan_toks s h)
  · rw [show scanX s = ([], 1, 0) from if_pos (by omega)]
    unfold Wf; decide
def fstR (r : Nat) : Int := if r = 0 then 0 else if r = 1 then 15 else if r = 2 then 5 else 20
def fltU : PR Unit → Int × Int
  | .bad x o => (x, o)
  | .ok _ _ => (0, 0)
theorem flt_meet {α : Type} {P : PR α} {Q : PR Unit} (h1 : ∀ x o, P = .bad x o → Q = .bad x o) (h2 : ∀ b r, P = .ok b r → Q = .ok () []) : fltP P = fltU Q := by
  cases P with
  | bad x o => rw [h1 x o rfl]; rfl
  | ok b r => rw [h2 b r rfl]; rfl
theorem fOf_chk (r : Nat) (hr : r < 4) (s : ByteArray) : fOf r s = fltU (chkR (scanX s).2.1 ((scanX s).2.2 : Int) (fstR r) (fstR r) ⟨0, 0, 0⟩ (scanX s).1) := by
  have hw := scan_wf s
  match r, hr with
  | 0, _ => exact flt_meet (prog_meet hw).1 fun b r h => ((prog_meet hw).2 b r h).1
  | 1, _ => exact flt_meet (facts_meet hw).1 fun b r h => ((facts_meet hw).2 b r h).1
  | 2, _ => exact flt_meet (query_meet hw).1 fun b r h => ((query_meet hw).2 b r h).1
  | 3, _ => exact flt_meet (fact_meet hw).1 fun b r h => ((fact_meet hw).2 b r h).1
theorem take_fin (first : Int) (c : Cnt) (s : Int) (h : moveP first s 0 ≠ -1) : takeC c s 0 = c := by
  have h5 : s ≠ 5 := fun e => by subst e; exact h (by unfold moveP moveBodyP isTermB; simp)
  have h2 : s ≠ 2 := fun e => by subst e; exact h (by unfold moveP moveHeadP isTermB; simp)
  have h9 : s ≠ 9 := fun e => by subst e; exact h (by unfold moveP moveBodyP isTermB; simp)
  have h17 : s ≠ 17 := fun e => by subst e; exact h (by unfold moveP moveFactP isValueB; simp)
  have h22 : s ≠ 22 := fun e => by subst e; exact h (by unfold moveP moveFactP isValueB; simp)
  unfold takeC
  simp [h5, h2, h9, h17, h22]
theorem over_code (first : Int) (c : Cnt) : overC first c = 0 ∨ (22 ≤ overC first c ∧ overC first c ≤ 24) := by
  unfold overC
  split
  · exact .inr (by decide)
  · split
    · exact .inr (by decide)
    · split
      · exact .inr (by decide)
      · exact .inl rfl
/-- A fault of the grammar stands at a token, whatever follows it. -/
theorem chk_at {ec eo first : Int} : ∀ (L : List Tok) (s : Int) (c : Cnt) (x o : Int), overC first c = 0 → chkR ec eo first s c L = .bad x o → (x = ec ∧ ec ≠ 0) ∨
    ∃ X t r, L = X ++ t :: r ∧ (t.off : Int) = o ∧ (x = 20 ∨ x = 21 ∨ (22 ≤ x ∧ x ≤ 24)) ∧ (x = 21 ↔ t.k = 0) ∧ ∀ (ec' eo' : Int) (r' : List Tok), chkR ec' eo' first s c (X ++ t :: r') = .bad x o
  | [], s, c, x, o, h0, h => by
    unfold chkR at h
    split at h
    · cases h
    · rename_i he; cases h; exact .inl ⟨rfl, he⟩
  | t :: r, s, c, x, o, h0, h => by
    unfold chkR at h
    split at h
    · rename_i hm
      injection h with e1 e2
      subst e1 e2
      refine .inr ⟨[], t, r, rfl, rfl, ?_, ?_, fun ec' eo' r' => ?_⟩
      · unfold misK; split <;> simp
      · unfold misK; split <;> simp_all
      · rw [List.nil_append]; exact chk_mis hm
    · rename_i hm
      split at h
      · rename_i hov
        injection h with e1 e2
        subst e1 e2
        have hc := (over_code first (takeC c s t.k)).resolve_left hov
        refine .inr ⟨[], t, r, rfl, rfl, .inr (.inr hc), ⟨fun e => by omega, fun e => ?_⟩, fun ec' eo' r' => ?_⟩
        · exfalso
          rw [e] at hm hov
          rw [take_fin first c s hm] at hov
          exact hov h0
        · rw [List.nil_append, chkR, if_neg hm, if_pos hov]
      · rename_i hov
        have hov0 : overC first (takeC c s t.k) = 0 := Decidable.not_not.1 hov
        rcases chk_at r _ _ x o hov0 h with h1 | ⟨X, u, q, h1, h2, h3, h4, h5⟩
        · exact .inl h1
        · refine .inr ⟨t :: X, u, q, by rw [h1]; rfl, h2, h3, h4, fun ec' eo' r' => ?_⟩
          rw [List.cons_append, chkR, if_neg hm, if_neg hov]
          exact h5 ec' eo' r'
theorem toks_ge {s : ByteArray} {o : Nat} {L : List Tok} {c : Int} {f : Nat} (h : Toks s o L c f) : ∀ u ∈ L, o ≤ u.off ∧ u.en ≤ s.size := by
  induction h with
  | bad ho hx => simp
  | last ho hx hk =>
    intro u hu
    simp only [List.mem_singleton] at hu; subst hu
    obtain ⟨-, -, h3, h4⟩ := next_tok ho hx
    exact ⟨h3, by rcases h4 with h | h <;> omega⟩
  | more ho hx hk _ ih =>
    intro u hu
    obtain ⟨-, -, h3, h4⟩ := next_tok ho hx
    rcases List.mem_cons.1 hu with rfl | hu
    · exact ⟨h3, by rcases h4 with h | h <;> omega⟩
    · have := ih u hu
      exact ⟨by rcases h4 with h | h <;> omega, this.2⟩
theorem toks_one {s : ByteArray} {o : Nat} {L : List Tok} {c : Int} {f : Nat} (h : Toks s o L c f) : ∀ u ∈ L, ∀ v ∈ L, u.off = v.off → u.off < u.en → v.off < v.en → u.en = v.en := by
  induction h with
  | bad ho hx => simp
  | last ho hx hk =>
    intro u hu v hv
    simp only [List.mem_singleton] at hu hv; subst hu hv
    intros; rfl
  | more ho hx hk hT ih =>
    rename_i o t r c f
    have hge := toks_ge hT
    obtain ⟨-, -, h3, h4⟩ := next_tok ho hx
    have h5 : t.off < t.en := by rcases h4 with h | h <;> omega
    intro u hu v hv e1 e2 e3
    rcases List.mem_cons.1 hu with hu' | hu'
    · rcases List.mem_cons.1 hv with hv' | hv'
      · rw [hu', hv']
      · have := (hge v hv').1; rw [hu'] at e1; omega
    · rcases List.mem_cons.1 hv with hv' | hv'
      · have := (hge u hu').1; rw [hv'] at e1; omega
      · exact ih u hu' v hv' e1 e2 e3
/-- The tokens up to one that ends where two texts part. -/
theorem toks_prefix {s s' : ByteArray} {o : Nat} {L : List Tok} {c : Int} {f : Nat} (h : Toks s o L c f) : ∀ X t r, L = X ++ t :: r → t.k ≠ 0 → Pre s s' t.en → (∃ r' c' f', Toks s' o (X ++ t :: r') c' f') ∧ t.off < t.en := by
  induction h with
  | bad ho hx => intro X t r he; exact absurd he (by simp)
  | last ho hx hk =>
    intro X t r he htk
    exfalso
    cases X with
    | nil => rw [List.nil_append] at he; injection he with e1 e2; subst e1; exact htk hk
    | cons a X => have := congrArg List.length he; simp at this
  | more ho hx hk hT ih =>
    rename_i o u q c f
    intro X t r he htk hp
    obtain ⟨-, -, h3, h4⟩ := next_tok ho hx
    have h5 : u.off < u.en := by rcases h4 with h | h <;> omega
    cases X with
    | nil =>
      rw [List.nil_append] at he
      injection he with e1 e2
      subst e1
      have hn := (hp.next ho hx hk (Nat.le_refl _)).1
      obtain ⟨r', c', f', -, T⟩ := each_toks s' _ u.en [] rfl hp.le'
      exact ⟨⟨r', c', f', .more (by have := hp.le'; omega) hn hk T⟩, h5⟩
    | cons a X =>
      rw [List.cons_append] at he
      injection he with e1 e2
      subst e1
      obtain ⟨⟨r', c', f', T⟩, h6⟩ := ih X t r e2 htk hp
      have hge := (toks_ge hT t (by rw [e2]; simp)).1
      have hn := (hp.next ho hx hk (by omega)).1
      refine ⟨⟨r', c', f', ?_⟩, h6⟩
      rw [List.cons_append]
      exact .more (by have := hp.le'; omega) hn hk T
def cutB (s : ByteArray) (e : Nat) (m : ByteArray) : ByteArray := s.extract 0 e ++ ⟨#[10]⟩ ++ m
theorem cut_size (s : ByteArray) (e : Nat) (m : ByteArray) (h : e ≤ s.size) : (cutB s e m).size = e + 1 + m.size := by
  unfold cutB
  rw [ByteArray.size_append, ByteArray.size_append, ByteArray.size_extract]
  show min e s.size - 0 + 1 + m.size = _
  omega
theorem cut_pre (s : ByteArray) (e : Nat) (m : ByteArray) (h : e ≤ s.size) : Pre s (cutB s e m) e := by
  have hl : (s.extract 0 e).data.toList = s.data.toList.take e := by
    rw [ByteArray.data_extract, Array.toList_extract, List.extract_eq_take_drop, List.drop_zero, Nat.sub_zero]
  have hlen : (s.data.toList.take e).length = e := by rw [List.length_take]; exact Nat.min_eq_left h
  have hd : (cutB s e m).data.toList = s.data.toList.take e ++ (10 :: m.data.toList) := by
    unfold cutB
    rw [ByteArray.data_append, ByteArray.data_append, Array.toList_append, Array.toList_append, hl, List.append_assoc]
    rfl
  refine ⟨h, by rw [cut_size s e m h]; omega, fun i hi => ?_, fun b hb => ?_⟩
  · rw [hd, List.getElem?_append_left (by rw [hlen]; exact hi), List.getElem?_take, if_pos hi]
  · rw [hd, List.getElem?_append_right (by rw [hlen]; exact Nat.le_refl _), hlen, Nat.sub_self] at hb
    exact .inr (.inl (Option.some.inj hb).symm)
theorem toks_code {s : ByteArray} {o : Nat} {L : List Tok} {c : Int} {f : Nat} (h : Toks s o L c f) : c ≤ 16 := by
  induction h with
  | bad ho hx => have := next_bad hx; omega
  | last => decide
  | more _ _ _ _ ih => exact ih
theorem scan_code (s : ByteArray) : (scanX s).2.1 ≤ 16 := by
  by_cases h : s.size ≤ 65536
  · exact toks_code (scan_toks s h)
  · rw [show scanX s = ([], 1, 0) from if_pos (by omega)]
    decide
/-- The fault of a text stays when it is cut off behind the token at which it stands, whatever follows. -/
theorem behind {r : Nat} (hr : r < 4) {s : ByteArray} {x o : Int} (h : fOf r s = (x, o)) (h20 : 20 ≤ x) (h21 : x ≠ 21) :
    ∃ t ∈ (scanX s).1, (t.off : Int) = o ∧ t.off < t.en ∧ t.en ≤ s.size ∧ (∀ u ∈ (scanX s).1, (u.off : Int) = o → u.off < u.en → u.en = t.en) ∧ ∀ m : ByteArray, t.en + 1 + m.size ≤ 65536 → fOf r (cutB s t.en m) = (x, o) := by
  have hsz : s.size ≤ 65536 := by
    rcases Nat.lt_or_ge 65536 s.size with hh | hh
    · exfalso
      rw [fOf_chk r hr, show scanX s = ([], 1, 0) from if_pos hh] at h
      have e : fltU (chkR 1 ((0 : Nat) : Int) (fstR r) (fstR r) ⟨0, 0, 0⟩ []) = (1, 0) := by unfold chkR; rfl
      simp only at h
      rw [e] at h
      injection h with h1 h2
      omega
    · exact hh
  have T := scan_toks s hsz
  rw [fOf_chk r hr] at h
  cases hC : chkR (scanX s).2.1 ((scanX s).2.2 : Int) (fstR r) (fstR r) ⟨0, 0, 0⟩ (scanX s).1 with
  | ok u q => rw [hC] at h; injection h with h1 h2; omega
  | bad x' o' =>
    rw [hC] at h
    injection h with h1 h2
    subst h1 h2
    have h00 : overC (fstR r) ⟨0, 0, 0⟩ = 0 := by unfold overC; simp
    rcases chk_at _ _ _ _ _ h00 hC with ⟨e1, -⟩ | ⟨X, t, q, e1, e2, e3, e4, e5⟩
    · have := scan_code s; omega
    · have htk : t.k ≠ 0 := fun e => h21 (e4.2 e)
      have hmem : t ∈ (scanX s).1 := by rw [e1]; simp
      have hen := (toks_ge T t hmem).2
      have hlt := (toks_prefix T X t q e1 htk (cut_pre s t.en ⟨#[]⟩ hen)).2
      refine ⟨t, hmem, e2, hlt, hen, fun u hu e6 e7 => ?_, fun m hm => ?_⟩
      · exact toks_one T u hu t hmem (by omega) e7 hlt
      · obtain ⟨⟨r', c', f', T'⟩, -⟩ := toks_prefix T X t q e1 htk (cut_pre s t.en m hen)
        rw [fOf_chk r hr, scan_eq (by rw [cut_size s t.en m hen]; exact hm) T']
        simp only
        rw [e5]
        rfl
end Go.Proofs.YtjofiibfgfdleaaDoor

namespace Go.Proofs.YtjofiibfgfdleaaDoor
set_option linter.unusedSimpArgs false
set_option linter.unusedVariables false
open Go.RowKit

def elTk : El Tok where
  cells := cells6
  size := 6
  pos := by decide
  len _ := rfl
  ok _ _ _ := True
  one _ u hu := by simp only [cells6, List.mem_cons, List.not_mem_nil, or_false] at hu; rcases hu with rfl | rfl | rfl | rfl | rfl | rfl <;> rfl
  move h _ := h
end Go.Proofs.YtjofiibfgfdleaaDoor
