/- What print writes of facts is read as these facts, but for places. Facts in memory, as arguments tell them. The laws' own facts of edictlaw04. The laws' own mod and lines of edictlaw04. What is asked of the texts of facts that are well formed. The laws' own alike of edictlaw04, at equal facts. The laws' own sameFact of edictlaw04, at equal facts. print.Fact: the text of what is well formed. -/
import Derived.Test.YtchhophblejmeaaGreatDoorPkB7
import Derived.Test.YtchhophblejmeaaGreatDoorPkAc
import Derived.Test.YtchhophblejmeaaGreatDoorOpen
import Derived.Test.YtchhophblejmeaaGreatDoorProg
import Derived.Test.YtchhophblejmeaaGreatDoorPkBm
import Derived.Test.YtchhophblejmeaaGreatDoorPkAb
import Derived.Test.YtchhophblejmeaaGreatDoorPkGa
import Derived.Test.YtchhophblejmeaaGreatDoorPkB4
import Derived.Test.YtchhophblejmeaaGreatDoorPkB8

namespace Go.Proofs.YtchhophblejmeaaGreatDoor
set_option linter.unusedSimpArgs false
set_option linter.unusedVariables false
open Go.RowKit

def conTrm (c : Con) : Trm := ⟨c.k, c.n, c.s, 0⟩
def okK (c : Con) : Prop := c.ok ∧ validC c = true
theorem okK_t {c : Con} (h : okK c) : okT (conTrm c) ∧ c.k ≠ 4 := by
  have hk : c.k ≠ 4 := by
    rcases valid_kind h.2 with h1 | h1 | ⟨h1, -⟩ <;> omega
  refine ⟨⟨⟨h.1, by show I64 0; unfold I64; omega⟩, ?_⟩, hk⟩
  unfold termE
  rw [if_neg (show ¬ (conTrm c).k = 4 from hk), if_pos (show validC (conTrm c).con = true from h.2)]
theorem conT_trm {c : Con} (h : okK c) : trmT (conTrm c) = conT c := by
  unfold trmT
  rw [if_neg (show ¬ (conTrm c).k = 4 from (okK_t h).2)]
  rfl
theorem con_kind {c : Con} (h : okK c) : (tX (conTrm c)).k ∈ valueKs := by
  unfold tX
  rw [if_neg (show ¬ (conTrm c).k = 4 from (okK_t h).2)]
  repeat' split
  all_goals (simp [valueKs])
theorem fctT_atm {p : ByteArray} {cs : List Con} (h : ∀ c ∈ cs, okK c) : fctT p cs = atmT p (cs.map conTrm) := by
  unfold fctT atmT
  rw [List.map_map]
  congr 2
  exact List.map_congr_left fun c hc => (conT_trm (h c hc)).symm
section
variable {e : List UInt8} {ks : List Int}
theorem args_madeK (K : List Pc) : ∀ (ts : List Trm) (o : Nat) (u : Tok), (∀ t ∈ ts, okT t ∧ (tX t).k ∈ ks) → u.k ∈ ks → ∃ X q ts', u :: tks o (argsPc ts K) e = X ++ tks q K e ∧ ArgsT ks X (termP u :: ts') ∧ ts'.map Trm.st = ts.map Trm.st
  | [], o, u, _, hu => ⟨[u, tkAtP ⟨6, ⟨#[]⟩, 0, 0, 0, 0⟩ (o + 0) 1], o + 0 + 1, [], rfl, .one u _ hu rfl, rfl⟩
  | t :: ts, o, u, ht, hu => by
    obtain ⟨X, q, ts', h1, h2, h3⟩ := args_madeK K ts (o + 0 + 1 + 1 + (trmT t).length) (tkAtP (tX t) (o + 0 + 1 + 1) (trmT t).length) (fun v hv => ht v (by simp [hv])) (ht t (by simp)).2
    refine ⟨u :: tkAtP ⟨7, ⟨#[]⟩, 0, 0, 0, 0⟩ (o + 0) 1 :: X, q, _ :: ts', ?_, .more u _ X _ hu rfl h2, ?_⟩
    · show u :: _ :: (tkAtP (tX t) _ _ :: tks _ (argsPc ts K) e) = u :: _ :: (X ++ _)
      exact congrArg (fun Z => u :: tkAtP ⟨7, ⟨#[]⟩, 0, 0, 0, 0⟩ (o + 0) 1 :: Z) h1
    · rw [List.map_cons, List.map_cons, h3, t_back (ht t (by simp)).1]
theorem atom_madeK (K : List Pc) (g : List UInt8) (p : ByteArray) (ts : List Trm) (o : Nat) (h8 : ts.length ≤ 8) (h3 : ∀ t ∈ ts, okT t ∧ (tX t).k ∈ ks) : ∃ X q a, tks o (atomPc g p ts K) e = X ++ tks q K e ∧ AtomT ks X a ∧ a.st = ⟨p, ts.map Trm.st, 0⟩ := by
  cases ts with
  | nil => exact ⟨[tkAtP ⟨1, p, 0, 0, 0, 0⟩ (o + g.length) p.data.toList.length], _, _, rfl, .bare _ rfl, rfl⟩
  | cons t ts =>
    obtain ⟨X, q, ts', h1, h2, h4⟩ := args_madeK (e := e) (ks := ks) K ts (o + g.length + p.data.toList.length + 0 + 1 + 0 + (trmT t).length) (tkAtP (tX t) (o + g.length + p.data.toList.length + 0 + 1 + 0) (trmT t).length) (fun v hv => h3 v (by simp [hv])) (h3 t (by simp)).2
    have hl : ts'.length = ts.length := by have := congrArg List.length h4; simpa using this
    refine ⟨tkAtP ⟨1, p, 0, 0, 0, 0⟩ (o + g.length) p.data.toList.length :: tkAtP ⟨5, ⟨#[]⟩, 0, 0, 0, 0⟩ (o + g.length + p.data.toList.length + 0) 1 :: X, q, _, ?_, .args _ _ X _ rfl rfl h2 (by simp only [List.length_cons] at *; omega), ?_⟩
    · show _ :: _ :: (tkAtP (tX t) _ _ :: tks _ (argsPc ts K) e) = _ :: _ :: (X ++ _)
      exact congrArg (fun Z => tkAtP ⟨1, p, 0, 0, 0, 0⟩ (o + g.length) p.data.toList.length :: tkAtP ⟨5, ⟨#[]⟩, 0, 0, 0, 0⟩ (o + g.length + p.data.toList.length + 0) 1 :: Z) h1
    · show (⟨p, _, 0⟩ : PAtom) = _
      rw [List.map_cons, List.map_cons, h4, t_back (h3 t (by simp)).1]
end
/-- A fact that is well formed. -/
def okF (f : Ftx) : Prop := isNameL f.p.toList = true ∧ f.cs.length ≤ 8 ∧ ∀ c ∈ f.cs, okK c
theorem okF_a {f : Ftx} (h : okF f) : okA f.p (f.cs.map conTrm) ∧ ∀ t ∈ f.cs.map conTrm, okT t ∧ (tX t).k ∈ valueKs := by
  refine ⟨⟨h.1, by rw [List.length_map]; exact h.2.1, fun t ht => ?_⟩, fun t ht => ?_⟩
  · obtain ⟨c, hc, rfl⟩ := List.mem_map.1 ht
    exact (okK_t (h.2.2 c hc)).1
  · obtain ⟨c, hc, rfl⟩ := List.mem_map.1 ht
    exact ⟨(okK_t (h.2.2 c hc)).1, con_kind (h.2.2 c hc)⟩
def fctSt (f : Ftx) : PAtom := ⟨f.p, (f.cs.map conTrm).map Trm.st, 0⟩
def fctsPc : List UInt8 → List Ftx → List Pc
  | _, [] => []
  | g, f :: fs => atomPc g f.p (f.cs.map conTrm) (dotP :: fctsPc [10] fs)
section
variable {e : List UInt8}
theorem fcts_pc : ∀ (fs : List Ftx) (g : List UInt8), Gp g → (∀ f ∈ fs, okF f) → PcOk e (fctsPc g fs)
  | [], _, _, _ => trivial
  | f :: fs, g, hg, h => atom_pc hg (okF_a (h f (by simp))).1 ⟨gp_nil, tk_dot, fun _ _ => rfl, fcts_pc fs [10] gp_nl fun u hu => h u (by simp [hu])⟩ (hd_of ⟨46, [], rfl, by decide⟩)
theorem fcts_txt : ∀ (fs : List Ftx) (g : List UInt8), (∀ f ∈ fs, okF f) → txt (fctsPc g fs) [10] = (if fs = [] then [10] else g ++ fctsT fs)
  | [], _, _ => rfl
  | f :: fs, g, h => by
    have hne : ¬ (f :: fs = []) := by simp
    show txt (atomPc g f.p (f.cs.map conTrm) (dotP :: fctsPc [10] fs)) [10] = _
    rw [txt_atom, ← fctT_atm (h f (by simp)).2.2, if_neg hne]
    show g ++ (fctT f.p f.cs ++ ([] ++ ([46] ++ txt (fctsPc [10] fs) [10]))) = _
    rw [fcts_txt fs [10] (fun u hu => h u (by simp [hu]))]
    unfold fctsT
    rw [List.flatMap_cons]
    by_cases h0 : fs = []
    · rw [if_pos h0, h0]; simp
    · rw [if_neg h0]
      simp only [List.append_assoc, List.nil_append, List.cons_append]
theorem fcts_made : ∀ (fs : List Ftx) (g : List UInt8) (o : Nat), (∀ f ∈ fs, okF f) → ∃ P, FactsT (tks o (fctsPc g fs) e) P ∧ P.map PAtom.st = fs.map fctSt
  | [], _, _, _ => ⟨[], .nil _ rfl, rfl⟩
  | f :: fs, g, o, h => by
    obtain ⟨h1, h2⟩ := okF_a (h f (by simp))
    obtain ⟨X, q, a, e1, e2, e3⟩ := atom_madeK (e := e) (ks := valueKs) (dotP :: fctsPc [10] fs) g f.p (f.cs.map conTrm) o h1.2.1 h2
    obtain ⟨P, p1, p2⟩ := fcts_made fs [10] (q + 0 + 1) fun u hu => h u (by simp [hu])
    refine ⟨a :: P, ?_, by rw [List.map_cons, List.map_cons, e3, p2]; rfl⟩
    show FactsT (tks o (atomPc g f.p (f.cs.map conTrm) _) e) _
    rw [e1]
    exact .more X a (tkAtP ⟨8, ⟨#[]⟩, 0, 0, 0, 0⟩ (q + 0) 1) _ P e2 rfl p1
end
/-- A facts text is read as the facts, but for places. -/
theorem prt_facts {T : ByteArray} {fs : List Ftx} (hT : T.data.toList = fctsT fs) (hf : ∀ f ∈ fs, okF f) (hn : fs.length ≤ 4096) (hs : T.size ≤ 65536) :
    ∃ P, factsP (scanX T).2.1 ((scanX T).2.2 : Int) (scanX T).1 = .ok P [] ∧ P.map PAtom.st = fs.map fctSt := by
  by_cases h0 : fs = []
  · subst h0
    have h := made_toks (T := T) gp_nil (fctsPc [] []) 0 (Nat.zero_le _) (by unfold rest; rw [List.drop_zero, hT]; rfl) trivial
    rw [scan_eq hs h]
    exact ⟨[], facts_fwd (.nil _ rfl) (by simp) _ _, rfl⟩
  · have h := made_toks (T := T) gp_nl (fctsPc [] fs) 0 (Nat.zero_le _) (by unfold rest; rw [List.drop_zero, hT, fcts_txt fs [] hf, if_neg h0]; rfl) (fcts_pc fs [] gp_nil hf)
    obtain ⟨P, h1, h2⟩ := fcts_made (e := [10]) fs [] 0 hf
    rw [scan_eq hs h]
    exact ⟨P, facts_fwd h1 (by have := congrArg List.length h2; simp only [List.length_map] at this; omega) _ _, h2⟩
/-- A fact's text alone. -/
theorem prt_fact {T : ByteArray} {f : Ftx} (hT : T.data.toList = fctT f.p f.cs) (hf : okF f) (hs : T.size ≤ 65536) :
    ∃ a, factP (scanX T).2.1 ((scanX T).2.2 : Int) (scanX T).1 = .ok a [] ∧ a.st = fctSt f := by
  obtain ⟨h1, h2⟩ := okF_a hf
  have h := made_toks (T := T) gp_nil (atomPc [] f.p (f.cs.map conTrm) []) 0 (Nat.zero_le _) (by unfold rest; rw [List.drop_zero, hT, txt_atom, ← fctT_atm hf.2.2]; simp [txt]) (atom_pc gp_nil h1 trivial (fun b hb => by cases hb))
  obtain ⟨X, q, a, e1, e2, e3⟩ := atom_madeK (e := []) (ks := valueKs) [] [] f.p (f.cs.map conTrm) 0 h1.2.1 h2
  rw [scan_eq hs h]
  simp only
  rw [e1]
  exact ⟨a, fact_fwd e2 rfl _ _, e3⟩
end Go.Proofs.YtchhophblejmeaaGreatDoor

namespace Go.Proofs.YtchhophblejmeaaGreatDoor
set_option linter.unusedSimpArgs false
set_option linter.unusedVariables false
open Go.RowKit

structure Fct where
  p : ByteArray
  ao : Option Addr
  len : Nat
  cap : Nat
  cs : List Con
def Fct.at (f : Fct) (w : World) : Prop := f.p.size ≤ 140737488351232 ∧ IsCons w f.ao f.len f.cs
def fctAt (w : World) (b off : Nat) (f : Fct) : Prop :=
  w.cell? ⟨b, off, none⟩ = some (.string f.p) ∧ w.cell? ⟨b, off + 1, none⟩ = some (.slice f.ao f.len f.cap)
def IsFcts (w : World) (ao : Option Addr) (len : Nat) (fs : List Fct) : Prop :=
  fs.length = len ∧ len * 40 ≤ 140737488351232 ∧ (∀ f ∈ fs, f.at w) ∧ (0 < len → ∃ b off, ao = some ⟨b, off, none⟩ ∧ ∀ i f, fs[i]? = some f → fctAt w b (off + i * 2) f)
theorem isCons_kept {w w' : World} {ao : Option Addr} {len : Nat} {cs : List Con} (h : IsCons w ao len cs) (hb : Below w.heap.size w w') : IsCons w' ao len cs :=
  ⟨h.1, h.2.1, h.2.2.1, fun hl => by obtain ⟨b, off, e, hr⟩ := h.2.2.2 hl; exact ⟨b, off, e, fun i c hc => ⟨kept_cell hb (hr i c hc).1, kept_cell hb (hr i c hc).2.1, kept_cell hb (hr i c hc).2.2⟩⟩⟩
theorem Fct.at.kept {w w' : World} {f : Fct} (h : f.at w) (hb : Below w.heap.size w w') : f.at w' := ⟨h.1, isCons_kept h.2 hb⟩
theorem fctAt.kept {w w' : World} {b off : Nat} {f : Fct} (h : fctAt w b off f) (hb : Below w.heap.size w w') : fctAt w' b off f := ⟨kept_cell hb h.1, kept_cell hb h.2⟩
theorem IsFcts.kept {w w' : World} {ao : Option Addr} {len : Nat} {fs : List Fct} (h : IsFcts w ao len fs) (hb : Below w.heap.size w w') : IsFcts w' ao len fs :=
  ⟨h.1, h.2.1, fun x hx => (h.2.2.1 x hx).kept hb, fun hl => by obtain ⟨b, off, e, hr⟩ := h.2.2.2 hl; exact ⟨b, off, e, fun i t ht => (hr i t ht).kept hb⟩⟩
end Go.Proofs.YtchhophblejmeaaGreatDoor

namespace Go.Proofs.YtchhophblejmeaaGreatDoor
set_option linter.unusedSimpArgs false
set_option linter.unusedVariables false
open Go.RowKit

theorem Tryz.infoFct4 : (Tryz.prog.info? 28).map (fun i => (i.zero, i.size, i.bytes)) = some (some (.agg #[.string ⟨#[]⟩, .slice none 0 0]), 2, 40) := by kernel_rfl
theorem Tryz.infoCon4 : (Tryz.prog.info? 68).map (fun i => (i.zero, i.size, i.bytes)) = some (some (.agg #[.int .i64 0, .int .i64 0, .string ⟨#[]⟩]), 3, 32) := by kernel_rfl
/-- A fact that is made: its own box and its constants so far; nothing that was there has changed. -/
structure FLoop (wr W : World) (b5 : Nat) (nt : ByteArray) (v : Value) (acc : List Con) : Prop where
  q5 : W.heap[b5]? = some (.cells #[.string nt, v] 28 (0, 0))
  gr : Grow elCon 68 (b5 + 1) W v acc
  on : Only (fun k => wr.heap.size ≤ k) wr W
  lo : wr.heap.size ≤ b5
section
variable {wr W W' : World} {b5 : Nat} {nt : ByteArray} {v v' : Value} {acc acc' : List Con}
theorem FLoop.hi (h : FLoop wr W b5 nt v acc) : b5 + 1 ≤ W.heap.size := (Array.getElem?_eq_some_iff.1 h.q5).1
theorem FLoop.kept (h : FLoop wr W b5 nt v acc) (hb : Below W.heap.size W W') : FLoop wr W' b5 nt v acc :=
  ⟨by rw [hb.block _ (Array.getElem?_eq_some_iff.1 h.q5).1]; exact h.q5, h.gr.kept hb, h.on.trans (Only.of_below hb _), h.lo⟩
theorem FLoop.bel (h : FLoop wr W b5 nt v acc) : Below wr.heap.size wr W := h.on.below (Nat.le_refl _) (fun k hk e => by omega)
theorem FLoop.far (h : FLoop wr W b5 nt v acc) (hg : W.grownBy W' v.ownBlock) : W'.heap[b5]? = some (.cells #[.string nt, v] 28 (0, 0)) := by
  have ho : Only (fun k => b5 + 1 ≤ k) W W' := (Only.refl _ W).grown hg (fun k hk _ => own_new h.gr.1 k hk)
  rw [ho.block _ (Array.getElem?_eq_some_iff.1 h.q5).1 (by omega)]; exact h.q5
theorem FLoop.push (h : FLoop wr W b5 nt v acc) (hg : W.grownBy W' v.ownBlock) (hG : Grow elCon 68 (b5 + 1) W' v' acc') : FLoop wr (W'.setCell ⟨b5, 1, none⟩ v') b5 nt v' acc' := by
  have hl := h.lo
  have ho : Only (fun k => b5 + 1 ≤ k) W W' := (Only.refl _ W).grown hg (fun k hk _ => own_new h.gr.1 k hk)
  have ho2 : Only (fun k => k = b5) W' (W'.setCell ⟨b5, 1, none⟩ v') := (Only.refl (fun k => k = b5) W').setCell (p := ⟨b5, 1, none⟩) rfl _
  have hf := h.far hg
  refine ⟨?_, hG.above fun b hb hlt => ho2.block b hlt (by omega), h.on.trans ((ho.mono fun k _ (e : b5 + 1 ≤ k) => (by omega : wr.heap.size ≤ k)).trans (ho2.mono fun k _ (e : k = b5) => (by omega : wr.heap.size ≤ k))), h.lo⟩
  simp [World.setCell, Array.getElem?_modify, hf]
theorem FLoop.start {w3 : World} (hb : Below wr.heap.size wr w3) : FLoop wr (w3.alloc (.cells #[.string nt, .slice none 0 0] 28)) w3.heap.size nt (.slice none 0 0) [] :=
  ⟨heap_alloc_new w3 _, Grow.nil _ _ _ _, Only.of_below (hb.trans ((belowA w3 _).mono hb.size)) _, hb.size⟩
end
theorem fct_cells {V : World} {b : Nat} {u0 u1 : Value} (h : V.heap[b]? = some (.cells #[u0, u1] 28 (0, 0))) : V.cell? ⟨b, 0, none⟩ = some u0 ∧ V.cell? ⟨b, 1, none⟩ = some u1 ∧ V.frozen? ⟨b, 1, none⟩ = false := by
  refine ⟨?_, ?_, ?_⟩ <;> simp [World.cell?, World.frozen?, h]
theorem con4_cells {V : World} {b : Nat} {u0 u1 u2 : Value} (h : V.heap[b]? = some (.cells #[u0, u1, u2] 68 (0, 0))) : V.cell? ⟨b, 0, none⟩ = some u0 ∧ V.cell? ⟨b, 1, none⟩ = some u1 ∧ V.cell? ⟨b, 2, none⟩ = some u2 := by
  refine ⟨?_, ?_, ?_⟩ <;> simp [World.cell?, h]

set_option maxRecDepth 100000 in
set_option maxHeartbeats 8000000 in
theorem facts4 (fs : List Fct) {w : World} {ao : Option Addr} {len : Nat} (cap : Nat) (hr : IsFcts w ao len fs) :
    Calls Tryz.prog 7 #[.slice ao len cap] w fun e w' => ∃ v, e = .returned v ∧ ∃ xs : List Ftx, (∀ f ∈ xs, okF f) ∧ xs.length ≤ 4096 ∧ Grow elFtx 28 w.heap.size w' v xs ∧ Below w.heap.size w w' := by
  have HR := hide hr
  have HC0 : Hid (Coll4 elFtx 28 w w w.heap.size (.slice none 0 0) []) := Coll4.start
  clear hr
  go_enter Tryz.func7, Tryz.ntmps7
  go_wp2
  go_loopw [3, 4] (fun ov i wl => ∃ (j : Nat) (xs : List Ftx), j ≤ min fs.length 4096 ∧ i = .int .i64 j ∧ Hid (xs.length = j) ∧ Hid (∀ f ∈ xs, okF f) ∧ Hid (Coll4 elFtx 28 w wl w.heap.size ov xs)) (fun _ i _ => 4096 - (intOf i).toNat)
  case atStart => exact ⟨0, [], by omega, rfl, rfl, by show ∀ f ∈ _, _; simp, HC0⟩
  case round =>
    clear HC0
    obtain ⟨m, xs, hm, rfl, HLn, HQ, HC⟩ := hrel
    have hn := HR.out.1
    obtain ⟨oa, oc, rfl, -⟩ := HC.out.gr.shape
    rw [HLn.out]
    rw [HLn.out] at HC
    by_cases hlt : m < min fs.length 4096
    · have hmi : (m : Int) < (len : Int) := by omega
      have hmi8 : (m : Int) < 4096 := by omega
      have hmi0 : (0 : Int) ≤ (m : Int) := by omega
      have hm4 : m < 4096 := by omega
      obtain ⟨f, ht⟩ : ∃ f, fs[m]? = some f := ⟨_, List.getElem?_eq_getElem (by omega)⟩
      obtain ⟨b3, o3, hao, hr3⟩ := HR.out.2.2.2 (by omega)
      have HFa := hide ((hr3 m f ht).kept HC.out.bel)
      have HAt := hide ((HR.out.2.2.1 f (List.mem_of_getElem? ht)).kept HC.out.bel)
      have HNm := hide (fun W => name4 f.p W HAt.out.1)
      have HNok := hide (nameM_ok f.p)
      have HNs := hide (nameM_size f.p)
      subst hao
      clear hr3 ht HR hn
      obtain ⟨fp, fao, flen, fcap, cs⟩ := f
      simp only at HNm HNok HNs
      generalize nameM fp = nt at *
      obtain ⟨c0, c1⟩ := HFa.out
      simp only at c0 c1
      go_wp2_with (go_at_call 25; refine (HNm.out _).mono ?_; rintro e w3 ⟨rfl, hb3⟩; have HB3 := hide hb3; clear hb3)
      have HF0 := hide (FLoop.start (nt := nt) HB3.out)
      clear HB3 c0 c1 HNm
      generalize w3.alloc (.cells #[.string nt, .slice none 0 0] 28) = W0 at *
      generalize w3.heap.size = b5 at *
      clear w3
      go_loopw [6] (fun i wl => ∃ (j : Nat) (acc : List Con) (va : Option Addr) (vc : Nat), j ≤ min cs.length 8 ∧ i = .int .i64 j ∧ Hid (acc.length = j) ∧ Hid (∀ c ∈ acc, okK c) ∧ Hid (FLoop wr wl b5 nt (.slice va j vc) acc)) (fun i _ => 8 - (intOf i).toNat)
      case atStart => exact ⟨0, [], none, 0, by omega, rfl, rfl, by show ∀ c ∈ _, _; simp, HF0⟩
      case round =>
        clear HF0
        obtain ⟨j, acc, va, vc, hj, rfl, HLi, HQi, HF⟩ := hrel
        have hcn := HAt.out.2.1
        simp only at hcn
        obtain ⟨c0, c1⟩ := HFa.out.kept HF.out.bel
        simp only at c0 c1
        by_cases hltj : j < min cs.length 8
        · have hji : (j : Int) < (flen : Int) := by omega
          have hji8 : (j : Int) < 8 := by omega
          have hji0 : (0 : Int) ≤ (j : Int) := by omega
          obtain ⟨c, htc⟩ : ∃ c, cs[j]? = some c := ⟨_, List.getElem?_eq_getElem (by omega)⟩
          obtain ⟨cb, co, hcao, hrc⟩ := HAt.out.2.2.2.2 (by show 0 < flen; omega)
          simp only at hcao
          have hcok := HAt.out.2.2.2.1 c (List.mem_of_getElem? htc)
          obtain ⟨g0, g1, g2⟩ := conAt_kept (hrc j c htc) HF.out.bel
          have HCm := hide (fun W => const4 c.k c.n c.s W hcok.2.2)
          have HKm := hide (conM_ok c.k c.n c.s hcok.2.1)
          subst hcao
          clear hrc htc hcok hcn
          generalize conM c.k c.n c.s = d at *
          obtain ⟨ck, cn, cx⟩ := c
          obtain ⟨dk, dn, dx⟩ := d
          simp only at HCm g0 g1 g2
          go_upto_region 10 with fail
          have HZ := hide (HF.out.kept (belowA wr (.cells #[.int .i64 ck, .int .i64 cn, .string cx] 68)))
          have hTk : (wr.alloc (.cells #[.int .i64 ck, .int .i64 cn, .string cx] 68)).heap[wr.heap.size]? = some (.cells #[.int .i64 ck, .int .i64 cn, .string cx] 68 (0, 0)) := heap_alloc_new wr _
          generalize (wr.alloc (.cells #[.int .i64 ck, .int .i64 cn, .string cx] 68)) = Z at *
          have hob : ∀ k, (Value.slice va j vc).ownBlock = some k → k < wr.heap.size := own_lt6 HF.out.gr.1
          clear c0 c1 g0 g1 g2
          have HSof : Hid (∀ V : World, V.heap[b5]? = some (.cells #[.string nt, .slice va j vc] 28 (0, 0)) → V.heap[wr.heap.size]? = some (.cells #[.int .i64 ck, .int .i64 cn, .string cx] 68 (0, 0)) → V.cell? ⟨b5, 1, none⟩ = some (.slice va j vc) ∧ V.cell? ⟨wr.heap.size, 0, none⟩ = some (.int .i64 ck) ∧ V.cell? ⟨wr.heap.size, 1, none⟩ = some (.int .i64 cn) ∧ V.cell? ⟨wr.heap.size, 2, none⟩ = some (.string cx)) := fun V h1 h2 => by
            obtain ⟨z0, z1, z2⟩ := con4_cells h2
            exact ⟨(fct_cells h1).2.1, z0, z1, z2⟩
          refine wp_region_last (by kernel_rfl) (fun V => V.cell? ⟨b5, 1, none⟩ = some (.slice va j vc) ∧ V.cell? ⟨wr.heap.size, 0, none⟩ = some (.int .i64 ck) ∧ V.cell? ⟨wr.heap.size, 1, none⟩ = some (.int .i64 cn) ∧ V.cell? ⟨wr.heap.size, 2, none⟩ = some (.string cx)) 12 ?_
          have HS1 := HSof.out Z.drew HZ.out.q5 hTk
          refine wpAnyM_take (i := 0) (v := ?_) rfl (by kernel_rfl) (by kernel_rfl) (by kernel_rfl) (by kernel_rfl) (fun _ _ _ h => h) HS1 (Or.inl ⟨by rfl, ?_⟩) ?_
          rotate_left
          · (intro w hSw; (try dsimp only at hSw); go_simp; try with_reducible rfl)
          simp only [Act.put, List.setIfInBounds_toArray, List.set_cons_zero, List.set_cons_succ]
          refine wpAnyM_take (i := 1) (v := ?_) rfl (by kernel_rfl) (by kernel_rfl) (by kernel_rfl) (by kernel_rfl) (fun _ _ _ h => h) HS1 (Or.inl ⟨by rfl, ?_⟩) ?_
          rotate_left
          · (intro w hSw; (try dsimp only at hSw); go_simp; try with_reducible rfl)
          simp only [Act.put, List.setIfInBounds_toArray, List.set_cons_zero, List.set_cons_succ]
          refine wpAnyM_take (i := 2) (v := ?_) rfl (by kernel_rfl) (by kernel_rfl) (by kernel_rfl) (by kernel_rfl) (fun _ _ _ h => h) HS1 (Or.inl ⟨by rfl, ?_⟩) ?_
          rotate_left
          · (intro w hSw; (try dsimp only at hSw); go_simp; try with_reducible rfl)
          simp only [Act.put, List.setIfInBounds_toArray, List.set_cons_zero, List.set_cons_succ]
          refine wpAnyM_take (i := 3) (v := ?_) rfl (by kernel_rfl) (by kernel_rfl) (by kernel_rfl) (by kernel_rfl) (fun _ _ _ h => h) HS1 (Or.inl ⟨by rfl, ?_⟩) ?_
          rotate_left
          · (intro w hSw; (try dsimp only at hSw); go_simp; try with_reducible rfl)
          simp only [Act.put, List.setIfInBounds_toArray, List.set_cons_zero, List.set_cons_succ]
          refine wpAnyM_take (i := 4) (v := ?_) rfl (by kernel_rfl) (by kernel_rfl) (by kernel_rfl) (by kernel_rfl) (fun _ _ _ h => h) HS1 (Or.inl ⟨by rfl, ?_⟩) ?_
          rotate_left
          · (intro w hSw; (try dsimp only at hSw); go_simp; try with_reducible rfl)
          simp only [Act.put, List.setIfInBounds_toArray, List.set_cons_zero, List.set_cons_succ]
          refine wpAnyM_take (i := 5) (v := ?_) rfl (by kernel_rfl) (by kernel_rfl) (by kernel_rfl) (by kernel_rfl) (fun _ _ _ h => h) HS1 (Or.inl ⟨by rfl, ?_⟩) ?_
          rotate_left
          · (intro w hSw; (try dsimp only at hSw); go_simp; try with_reducible rfl)
          simp only [Act.put, List.setIfInBounds_toArray, List.set_cons_zero, List.set_cons_succ]
          refine wpAnyM_take (i := 6) (v := ?_) rfl (by kernel_rfl) (by kernel_rfl) (by kernel_rfl) (by kernel_rfl) (fun _ _ _ h => h) HS1 (Or.inl ⟨by rfl, ?_⟩) ?_
          rotate_left
          · (intro w hSw; (try dsimp only at hSw); go_simp; try with_reducible rfl)
          simp only [Act.put, List.setIfInBounds_toArray, List.set_cons_zero, List.set_cons_succ]
          refine wpAnyM_take (i := 7) (v := ?_) rfl (by kernel_rfl) (by kernel_rfl) (by kernel_rfl) (by kernel_rfl) (fun _ _ _ h => h) HS1 (Or.inl ⟨by rfl, ?_⟩) ?_
          rotate_left
          · (intro w hSw; (try dsimp only at hSw); go_simp; try with_reducible rfl)
          simp only [Act.put, List.setIfInBounds_toArray, List.set_cons_zero, List.set_cons_succ]
          refine wpAnyM_one (i := 8) (by kernel_rfl) rfl (fun K hK => ?_)
          go_simp
          refine (HCm.out Z.drew).mono ?_
          rintro e w3 ⟨rfl, hb3⟩
          have HZ3 := hide (HZ.out.kept ((Below.refl _ _).drew.trans (hb3.mono (by simp))))
          have hTk3 : w3.heap[wr.heap.size]? = some (.cells #[.int .i64 ck, .int .i64 cn, .string cx] 68 (0, 0)) := (hb3.block _ (Array.getElem?_eq_some_iff.1 hTk).1).trans hTk
          have HS3 := HSof.out w3 HZ3.out.q5 hTk3
          refine hK.out _ _ HS3 (fun _ => ?_)
          clear hK K HS1 hb3
          try simp only [Act.put, List.setIfInBounds_toArray, List.set_cons_zero, List.set_cons_succ]
          have HZ4 := hide (HZ3.out.kept (belowA w3 (.cells #[.int .i64 dk, .int .i64 dn, .string dx] 68)))
          have hTk4 : (w3.alloc (.cells #[.int .i64 dk, .int .i64 dn, .string dx] 68)).heap[wr.heap.size]? = some (.cells #[.int .i64 ck, .int .i64 cn, .string cx] 68 (0, 0)) := ((belowA w3 _).block _ (Array.getElem?_eq_some_iff.1 hTk3).1).trans hTk3
          have HS4 := HSof.out _ HZ4.out.q5 hTk4
          refine wpAnyM_one (i := 9) (by kernel_rfl) rfl (fun K hK => ?_)
          go_simp
          refine hK.out _ _ HS4 (fun _ => ?_)
          clear hK K HS3
          refine wpAnyM_one (i := 10) (by kernel_rfl) rfl (fun K hK => ?_)
          obtain ⟨i0, hi0', hz0, hz1, hz2⟩ := info_parts Tryz.infoCon4
          refine step_push (w0 := w3.alloc (.cells #[.int .i64 dk, .int .i64 dn, .string dx] 68)) elCon (by rfl) _ _ _ (by rfl) (b5 + 1) 68 i0 _ 32 Tryz.underlying26 hi0' hz0 hz1 hz2 rfl (by decide) (.slice va j vc) acc j HLi.out (by rfl) HZ4.out.gr ⟨dk, dn, dx⟩ w3.heap.size 1 (by rfl) (fun j u hu => new_cells (cs := #[.int .i64 dk, .int .i64 dn, .string dx]) j u hu) HKm.out.1 (by omega) (Below.refl _ _) HZ4.out.hi ?_
          intro g cap' w5 HG5 HB5 HGr
          clear HB5 hi0' hz0 hz1 hz2 i0
          have hb5 := HZ4.out.far HGr.out
          have hc5 : w5.heap[wr.heap.size]? = some (.cells #[.int .i64 ck, .int .i64 cn, .string cx] 68 (0, 0)) := by rw [HGr.out.block _ (Array.getElem?_eq_some_iff.1 hTk4).1 (fun e => by have := hob _ e.symm; omega)]; exact hTk4
          have HS5 := HSof.out w5 hb5 hc5
          have HZ5 := hide (HZ4.out.push HGr.out HG5.out)
          refine hK.out _ _ HS5 (fun _ => ?_)
          clear hK K HS4 HSof HZ4 HZ3 HGr HG5
          obtain ⟨-, k5, z5⟩ := fct_cells hb5
          clear hb5 hc5 hTk hTk3 hTk4
          try simp only [Act.put, List.setIfInBounds_toArray, List.set_cons_zero, List.set_cons_succ]
          refine wpAnyM_take (i := 11) (v := ?_) rfl (by kernel_rfl) (by kernel_rfl) (by kernel_rfl) (by kernel_rfl) (fun _ _ _ h => h) HS5 (Or.inl ⟨by rfl, ?_⟩) ?_
          rotate_left
          · (intro w hSw; (try dsimp only at hSw); go_simp; try with_reducible rfl)
          simp only [Act.put, List.setIfInBounds_toArray, List.set_cons_zero, List.set_cons_succ]
          clear HS5
          refine wpAnyM_end (by kernel_rfl) rfl (by kernel_rfl) (fun K hK => ?_)
          go_simp
          refine hK.out _ _ ?_
          clear hK K
          go_wp2
          go_roundw
          case rel =>
            refine ⟨j + 1, acc ++ [⟨dk, dn, dx⟩], some ⟨g, 0, none⟩, cap', by omega, by go_num, ?_, ?_, HZ5⟩
            · show List.length _ = _; rw [List.length_append, HLi.out]; rfl
            · show ∀ c ∈ _, _
              intro c hc
              rcases List.mem_append.1 hc with h1 | h1
              · exact HQi.out c h1
              · simp only [List.mem_singleton] at h1; subst h1; exact ⟨HKm.out.1, HKm.out.2.1⟩
          case measure => simp [intOf]; omega
        · have hje : j = min cs.length 8 := by omega
          have HL8 : Hid (acc.length ≤ 8) := by have := HLi.out; show acc.length ≤ 8; omega
          obtain ⟨m0, m1, -⟩ := fct_cells HF.out.q5
          have HOkF : Hid (okF ⟨nt, .slice va j vc, acc⟩) := ⟨HNok.out, HL8.out, HQi.out⟩
          have HBel := hide HF.out.bel
          have HElF := hide (show elFtx.ok wr _ ⟨nt, .slice va j vc, acc⟩ from ⟨by show nt.size ≤ _; have := HNs.out; omega, (HF.out.gr.mono (Nat.le_trans HF.out.lo (Nat.le_succ _))).new (by have := HL8.out; omega)⟩)
          have HOk := hide (HC.out.gr.behind HC.out.hi elFtx HElF.out)
          have HC6 := hide ((HC.out.below HBel.out).below (belowA wr (.cells #[.string nt, .slice va j vc] 28)))
          have HOk6 := hide (elFtx.move HOk.out fun b hlt hF => ⟨hF, (belowA wr (.cells #[.string nt, .slice va j vc] 28)).block b hlt⟩)
          have hend : ¬ ((j : Int) < (flen : Int)) ∨ ((j : Int) < (flen : Int) ∧ ¬ (j : Int) < 8) := by omega
          clear hcn hj hltj hje HF HBel HElF HOk HC
          rcases hend with hi | ⟨hi, hi8⟩ <;>
          · go_wp2_with (at_builtin; obtain ⟨i0, hi0', hz0, hz1, hz2⟩ := info_parts Tryz.infoFct4; refine wpList_push (w0 := wr.alloc (.cells #[.string nt, .slice va j vc] 28)) elFtx rfl _ _ 22 rfl w.heap.size 28 i0 _ 40 Tryz.underlying22 hi0' hz0 hz1 hz2 rfl (by decide) _ xs m HLn.out rfl HC6.out.gr ⟨nt, .slice va j vc, acc⟩ wr.heap.size 1 rfl (fun q u hu => new_cells (cs := #[.string nt, .slice va j vc]) q u hu) HOk6.out (by omega) (Below.refl _ _) HC6.out.hi ?_; intro g cap' w7 HG7 HB7 HGr; clear HB7 hi0' hz0 hz1 hz2; have HC7 := hide (HC6.out.grown HGr.out HG7.out); clear HG7 HGr HC6 HOk6)
            go_roundw
            case rel =>
              refine ⟨m + 1, xs ++ [⟨nt, .slice va j vc, acc⟩], by omega, by go_num, ?_, ?_, HC7⟩
              · show List.length _ = _; rw [List.length_append, HLn.out]; rfl
              · show ∀ f ∈ _, _
                intro f hf
                rcases List.mem_append.1 hf with h1 | h1
                · exact HQ.out f h1
                · simp only [List.mem_singleton] at h1; subst h1; exact HOkF.out
            case measure => simp [intOf]; omega
    · have hme : m = min fs.length 4096 := by omega
      have hl4 : m ≤ 4096 := by omega
      have hend : ¬ ((m : Int) < (len : Int)) ∨ ((m : Int) < (len : Int) ∧ ¬ (m : Int) < 4096) := by omega
      clear hn hm hlt hme
      rcases hend with hi | ⟨hi, hi8⟩ <;>
      · go_wp2
        go_ret
        exact ⟨_, rfl, xs, HQ.out, by rw [HLn.out]; exact hl4, HC.out.gr, HC.out.bel⟩
end Go.Proofs.YtchhophblejmeaaGreatDoor

namespace Go.Proofs.YtchhophblejmeaaGreatDoor
set_option linter.unusedSimpArgs false
set_option linter.unusedVariables false
open Go.RowKit

def mod9 (n : Int) : Int := (n.tmod 9 + 9) % 9
set_option maxRecDepth 100000 in
set_option maxHeartbeats 1000000 in
theorem mod4_9 (n : Int) (w : World) : Calls Tryz.prog 15 #[.int .i64 n, .int .i64 9] w fun e w' => e = .returned (.int .i64 (mod9 n)) ∧ w' = w := by
  have h1 := Int.tmod_lt_of_pos n (show (0 : Int) < 9 by decide)
  have h2 := Int.lt_tmod_of_pos n (show (0 : Int) < 9 by decide)
  by_cases h0 : n.tmod 9 < 0
  · have HE : Hid (mod9 n = n.tmod 9 + 9) := by show _ = _; unfold mod9; omega
    have hw : wrap64 (n.tmod 9 + 9) = n.tmod 9 + 9 := by unfold wrap64; omega
    rw [HE.out]
    clear HE
    go_enter Tryz.func15, Tryz.ntmps15
    go_wp2
    go_ret
    exact ⟨rfl, rfl⟩
  · have HE : Hid (mod9 n = n.tmod 9) := by show _ = _; unfold mod9; omega
    rw [HE.out]
    clear HE
    go_enter Tryz.func15, Tryz.ntmps15
    go_wp2
    go_ret
    exact ⟨rfl, rfl⟩

theorem lnOk_at : ∀ (l : List UInt8) (p : UInt8), LnOk p l → ∀ (i : Nat) (b : UInt8), l[i]? = some b → (b = 10 ∧ ((i = 0 ∧ p = 46) ∨ (0 < i ∧ l[i - 1]? = some 46))) ∨ (b ≠ 10 ∧ 32 ≤ b.toNat ∧ b.toNat ≤ 126)
  | [], _, _, i, b, hb => by simp at hb
  | a :: r, p, h, 0, b, hb => by
    cases hb
    rcases h.1 with ⟨h1, h2⟩ | ⟨h1, h2⟩
    · exact .inl ⟨h1, .inl ⟨rfl, h2⟩⟩
    · exact .inr ⟨fun e => by subst e; exact absurd h1 (by decide), h1, h2⟩
  | a :: r, p, h, i + 1, b, hb => by
    rcases lnOk_at r a h.2 i b hb with ⟨h1, h2⟩ | h1
    · refine .inl ⟨h1, .inr ⟨by omega, ?_⟩⟩
      rcases h2 with ⟨rfl, rfl⟩ | ⟨h3, h4⟩
      · rfl
      · obtain ⟨j, rfl⟩ : ∃ j, i = j + 1 := ⟨i - 1, by omega⟩
        exact h4
    · exact .inr h1
/-- A text in lines, as the law asks. -/
structure Lined (s : ByteArray) (m : Nat) : Prop where
  at_ : ∀ (i : Nat) (h : i < s.size), (s[i] = 10 ∧ ∃ h0 : 0 < i, s[i - 1] = 46) ∨ (s[i] ≠ 10 ∧ 32 ≤ s[i].toNat ∧ s[i].toNat ≤ 126)
  num : s.data.toList.count 10 = m
  last : s.size = 0 ∨ ∃ h : 0 < s.size, s[s.size - 1] = 10
theorem get_data (s : ByteArray) (i : Nat) (h : i < s.size) : s.data.toList[i]? = some s[i] := by
  rw [Array.getElem?_toList]
  exact Array.getElem?_eq_getElem h
theorem lined_of {s : ByteArray} {m : Nat} (h : LnOk 0 s.data.toList) (hc : s.data.toList.count 10 = m) (hl : s.data.toList = [] ∨ s.data.toList.getLast? = some 10) : Lined s m where
  at_ i hi := by
    rcases lnOk_at _ _ h i s[i] (get_data s i hi) with ⟨h1, ⟨-, h2⟩ | ⟨h2, h3⟩⟩ | h1
    · exact absurd h2 (by decide)
    · refine .inl ⟨h1, h2, ?_⟩
      rw [get_data s (i - 1) (by omega)] at h3
      exact Option.some.inj h3
    · exact .inr h1
  num := hc
  last := by
    rcases hl with hl | hl
    · exact .inl (by have := congrArg List.length hl; exact this)
    · have h0 : 0 < s.size := by
        rcases Nat.eq_zero_or_pos s.size with h0 | h0
        · have : s.data.toList = [] := List.length_eq_zero_iff.1 h0
          rw [this] at hl; cases hl
        · exact h0
      refine .inr ⟨h0, ?_⟩
      rw [List.getLast?_eq_getElem?] at hl
      have := get_data s (s.size - 1) (by omega)
      have e : s.data.toList.length = s.size := rfl
      rw [e, this] at hl
      exact Option.some.inj hl
theorem count_take (s : ByteArray) (i : Nat) (h : i < s.size) : (s.data.toList.take (i + 1)).count 10 = (s.data.toList.take i).count 10 + (if s[i] = 10 then 1 else 0) := by
  rw [List.take_add_one, get_data s i h, Option.toList_some, List.count_append, List.count_singleton]
  by_cases hb : s[i] = 10
  · rw [hb]; rfl
  · rw [if_neg hb, if_neg (by simpa using hb)]

set_option maxRecDepth 100000 in
set_option maxHeartbeats 4000000 in
theorem lines_any (s : ByteArray) (m : Nat) (w : World) (h : Lined s m) (hs : s.size ≤ 140737488351232) :
    Calls Tryz.prog 9 #[.string s, .int .i64 m] w fun e w' => e = .returned (.bool true) ∧ w' = w := by
  have HH := hide h
  have hm : m ≤ s.size := by rw [← h.num]; exact List.count_le_length
  clear h
  go_enter Tryz.func9, Tryz.ntmps9
  go_wp2
  go_loopw [1, 5] (fun nv i wl => ∃ k c : Nat, k ≤ s.size ∧ c ≤ m ∧ nv = .int .i64 ((m : Int) - c) ∧ i = .int .i64 k ∧ Hid (c = (s.data.toList.take k).count 10) ∧ wl = w) (fun _ i _ => s.size - (intOf i).toNat)
  case atStart => exact ⟨0, 0, by omega, by omega, by simp, rfl, rfl, rfl⟩
  case round =>
    obtain ⟨k, c, hk, hc, rfl, rfl, HC, rfl⟩ := hrel
    by_cases hlt : k < s.size
    · have hi : (k : Int) < (s.size : Int) := by omega
      have hi0 : (0 : Int) ≤ (k : Int) := by omega
      have HT := hide (count_take s k hlt)
      have hle : (s.data.toList.take (k + 1)).count 10 ≤ m := by
        rw [← HH.out.num]
        exact List.Sublist.count_le 10 (List.take_sublist _ _)
      rcases HH.out.at_ k hlt with ⟨h10, h0, h46⟩ | ⟨h10, h32, h126⟩
      · have HC2 : Hid (c + 1 = (s.data.toList.take (k + 1)).count 10) := by show _ = _; rw [HT.out, if_pos h10, HC.out]
        have hcm : c + 1 ≤ m := by rw [HC2.out]; exact hle
        obtain ⟨x, hx⟩ : ∃ x : Int, x = (s[k].toNat : Int) := ⟨_, rfl⟩
        obtain ⟨y, hy⟩ : ∃ y : Int, y = (s[k - 1].toNat : Int) := ⟨_, rfl⟩
        have e1 : (x == 10) = true := by rw [hx, h10]; rfl
        have e2 : (y != 46) = false := by rw [hy, h46]; rfl
        have e3 : ((k : Int) == 0) = false := by simp; omega
        have hw1 : wrap64 ((m : Int) - c - 1) = (m : Int) - (c + 1 : Nat) := by unfold wrap64; omega
        go_wp2
        go_roundw
        case rel => exact ⟨k + 1, c + 1, by omega, hcm, by go_num, by go_num, HC2, trivial⟩
        case measure => simp [intOf]; omega
      · have HC2 : Hid (c = (s.data.toList.take (k + 1)).count 10) := by show _ = _; rw [HT.out, if_neg h10, HC.out]; rfl
        have hne : ¬ (s[k].toNat : Int) = 10 := by
          intro e
          apply h10
          apply UInt8.toNat_inj.1
          have e2 : s[k].toNat = 10 := by omega
          rw [e2]
          rfl
        have e1 : ((s[k].toNat : Int) == 10) = false := by simpa using hne
        have e2 : ¬ (s[k].toNat : Int) < 32 := by omega
        have e3 : ¬ (126 : Int) < (s[k].toNat : Int) := by omega
        go_wp2
        go_roundw
        case rel => exact ⟨k + 1, c, by omega, hc, rfl, by go_num, HC2, trivial⟩
        case measure => simp [intOf]; omega
    · obtain rfl : k = s.size := by omega
      have hi : ¬ (s.size : Int) < (s.size : Int) := by omega
      have hcm : c = m := by rw [HC.out, ← HH.out.num, List.take_of_length_le (show s.data.toList.length ≤ s.size from Nat.le_refl _)]
      subst hcm
      have e0 : (c : Int) - c = 0 := by omega
      rw [e0]
      rcases HH.out.last with h0 | ⟨h0, hl⟩
      · have e1 : (s.toList == []) = true := by
          have : s.data.toList = [] := List.length_eq_zero_iff.1 h0
          rw [ByteArray.toList_eq, this]; rfl
        clear HC
        go_wp2
        go_ret
        exact ⟨rfl, rfl⟩
      · have e1 : (s.toList == []) = false := by
          cases hq : (s.toList == []) with
          | false => rfl
          | true =>
            have : s.data.toList = [] := by rw [← ByteArray.toList_eq]; simpa using hq
            have e : s.data.toList.length = s.size := rfl
            have h9 : s.size = 0 := by rw [← e, this]; rfl
            omega
        clear HC
        go_wp2
        go_ret
        exact ⟨rfl, rfl⟩
end Go.Proofs.YtchhophblejmeaaGreatDoor

namespace Go.Proofs.YtchhophblejmeaaGreatDoor
set_option linter.unusedSimpArgs false
set_option linter.unusedVariables false
open Go.RowKit

def strF (l : List UInt8) : ByteArray := ⟨l.toArray⟩
theorem ftx_zero {f : Ftx} (h : okF f) : ftxE f = 0 := by
  unfold ftxE factE
  rw [if_pos h.1, if_neg (by have := h.2.1; omega)]
  refine firstE_zero fun c hc => ?_
  unfold conE
  exact if_pos (h.2.2 c hc).2
theorem ftxs_zero {fs : List Ftx} (h : ∀ f ∈ fs, okF f) : firstE ftxE fs = 0 := firstE_zero fun f hf => ftx_zero (h f hf)
theorem fct_prn {f : Ftx} (h : okF f) : Prn (fctT f.p f.cs) ∧ (fctT f.p f.cs).length ≤ 20000 := by
  rw [fctT_atm h.2.2]
  exact atm_prn (okF_a h).1
theorem fcts_lines : ∀ (fs : List Ftx), (∀ f ∈ fs, okF f) → ∀ p, LnOk p (fctsT fs)
  | [], _, _ => trivial
  | f :: fs, h, p => by
    have e2 : fctsT (f :: fs) = fctT f.p f.cs ++ 46 :: 10 :: fctsT fs := by
      unfold fctsT
      rw [List.flatMap_cons]
      simp
    rw [e2]
    exact lnOk_prn _ p _ (fct_prn (h f (by simp))).1 ⟨.inl ⟨rfl, rfl⟩, fcts_lines fs (fun u hu => h u (by simp [hu])) 10⟩
theorem fcts_count : ∀ (fs : List Ftx), (∀ f ∈ fs, okF f) → (fctsT fs).count 10 = fs.length ∧ (fctsT fs = [] ∨ (fctsT fs).getLast? = some 10) ∧ (fctsT fs).length ≤ fs.length * 30000
  | [], _ => ⟨rfl, .inl rfl, by simp [fctsT]⟩
  | f :: fs, h => by
    obtain ⟨hl, hn⟩ := fct_prn (h f (by simp))
    obtain ⟨h1, h2, h3⟩ := fcts_count fs fun u hu => h u (by simp [hu])
    have e2 : fctsT (f :: fs) = fctT f.p f.cs ++ ([46, 10] ++ fctsT fs) := by
      unfold fctsT
      rw [List.flatMap_cons]
      simp
    rw [e2]
    refine ⟨?_, .inr ?_, ?_⟩
    · rw [List.count_append, List.count_append, prn_count hl, h1]
      simp [Nat.add_comm]
    · rw [List.getLast?_append, List.getLast?_append]
      rcases h2 with h2 | h2
      · rw [h2]; rfl
      · rw [h2]; rfl
    · simp only [List.length_append, List.length_cons, List.length_nil, Nat.succ_mul]
      omega
theorem fcts_lined {fs : List Ftx} (h : ∀ f ∈ fs, okF f) (hn : fs.length ≤ 4096) : (fctsT fs).length ≤ 100000000000000 ∧ Lined (strF (fctsT fs)) fs.length := by
  obtain ⟨c1, c2, c3⟩ := fcts_count fs h
  have h2 : (strF (fctsT fs)).data.toList = fctsT fs := by simp [strF]
  refine ⟨?_, lined_of ?_ ?_ ?_⟩
  · have : fs.length * 30000 ≤ 4096 * 30000 := Nat.mul_le_mul_right _ hn
    omega
  · rw [h2]; exact fcts_lines fs h 0
  · rw [h2]; exact c1
  · rw [h2]; exact c2
/-- What is read of a fact's text is the fact. -/
theorem fct_same {a : PAtom} {f : Ftx} (h : a.st = fctSt f) : a.p = f.p ∧ a.ts.map Trm.st = (f.cs.map conTrm).map Trm.st ∧ f.cs = a.ts.map Trm.con := by
  have h1 : a.p = f.p := congrArg PAtom.p h
  have h2 : a.ts.map Trm.st = (f.cs.map conTrm).map Trm.st := congrArg PAtom.ts h
  refine ⟨h1, h2, ?_⟩
  have h3 := congrArg (List.map Trm.con) h2
  simp only [List.map_map] at h3
  have e1 : (Trm.con ∘ Trm.st) = Trm.con := rfl
  have e2 : ((Trm.con ∘ Trm.st) ∘ conTrm) = id := rfl
  have e3 : (Trm.con ∘ Trm.st ∘ conTrm) = id := rfl
  rw [e1, e3, List.map_id] at h3
  exact h3.symm
end Go.Proofs.YtchhophblejmeaaGreatDoor

namespace Go.Proofs.YtchhophblejmeaaGreatDoor
set_option linter.unusedSimpArgs false
set_option linter.unusedVariables false
open Go.RowKit

theorem neqConSame (a : Con) (w : World) : (binOp .neq 68 (.agg #[.int .i64 a.k, .int .i64 a.n, .string a.s]) (.agg #[.int .i64 a.k, .int .i64 a.n, .string a.s])).run Tryz.prog w = .ok (.bool false) w := by
  have h1 := run_equalIn_struct (P := Tryz.prog) w 9999 68 #[.int .i64 a.k, .int .i64 a.n, .string a.s] #[.int .i64 a.k, .int .i64 a.n, .string a.s] (by kernel_rfl) (by kernel_rfl)
  simp only [binOp]
  simp only [Op.equal, Op.maxDepth, Sem.run_bind]
  go_simp

set_option maxRecDepth 100000 in
set_option maxHeartbeats 2000000 in
theorem alike4 {w : World} {F G : Nat → Prop} (pr : ByteArray) (ts us : List Con) (v1 v2 : Value) (h1 : Lst elCon w F v1 ts) (h2 : Lst elCon w G v2 us) (he : ts = us) :
    Calls Tryz.prog 12 #[.agg #[.string pr, v1], .agg #[.string pr, v2]] w fun e w' => e = .returned (.bool true) ∧ Below w.heap.size w w' := by
  obtain ⟨a1, c1, rfl, -, -, hlen⟩ := h1.shape
  obtain ⟨a2, c2, rfl, -⟩ := h2.shape
  have hl : us.length = ts.length := by rw [he]
  have HE := hide he
  have HL := hide hl
  rw [hl] at h2 ⊢
  have HH1 := hide h1
  have HH2 := hide h2
  clear h1 h2 he hl
  obtain ⟨n, hn⟩ : ∃ n, n = ts.length := ⟨_, rfl⟩
  rw [← hn] at HL HH1 HH2 hlen ⊢
  have HN := hide hn
  clear hn
  have hps : (pr.toList != pr.toList) = false := by simp
  have hnn : ((n : Int) != (n : Int)) = false := by simp
  go_enter Tryz.func12, Tryz.ntmps12
  go_wp2
  obtain ⟨Y, hY⟩ : ∃ Y, Y = (w.alloc (.cells #[.string pr, .slice a1 n c1] 28)).alloc (.cells #[.string pr, .slice a2 n c2] 28) := ⟨_, rfl⟩
  have HB0 : Hid (Below w.heap.size w Y) := by rw [hY]; exact below2a _ _ _
  have HP : Hid (Y.cell? ⟨w.heap.size, 1, none⟩ = some (.slice a1 n c1) ∧ Y.cell? ⟨w.heap.size + 1, 1, none⟩ = some (.slice a2 n c2)) := by
    show _ ∧ _
    rw [hY]
    constructor <;> simp
  rw [← hY]
  clear hY
  go_loopw [5] (fun i wl => ∃ k : Nat, k ≤ n ∧ i = .int .i64 k ∧ Hid (Below Y.heap.size Y wl)) (fun i _ => n - (intOf i).toNat)
  case atStart => exact ⟨0, by omega, rfl, Below.refl _ _⟩
  case round =>
    obtain ⟨k, hk, rfl, HB⟩ := hrel
    have HBw := hide (HB0.out.trans (HB.out.mono HB0.out.size))
    have p1 := kept_cell HB.out HP.out.1
    have p2 := kept_cell HB.out HP.out.2
    by_cases hlt : k < n
    · have hi : (k : Int) < (n : Int) := by omega
      have hi0 : (0 : Int) ≤ (k : Int) := by omega
      rw [HN.out] at HH1
      rw [← HL.out] at HH2
      obtain ⟨b1, q1, rfl, -, -, hr1⟩ := HH1.out.row (by have := HN.out; omega)
      obtain ⟨b2, q2, rfl, -, -, hr2⟩ := HH2.out.row (by have := HL.out; omega)
      obtain ⟨x, hx⟩ : ∃ x, ts[k]? = some x := ⟨_, List.getElem?_eq_getElem (by have := HN.out; omega)⟩
      obtain ⟨y, hy⟩ : ∃ y, us[k]? = some y := ⟨_, List.getElem?_eq_getElem (by have := HL.out; omega)⟩
      have hst : x = y := by
        have := HE.out
        rw [this, hy] at hx
        exact (Option.some.inj hx).symm
      subst hst
      have hs := neqConSame x
      have x0 := over_cell (kept_cell HBw.out (hr1 k x hx 0 _ rfl))
      have x1 := over_cell (kept_cell HBw.out (hr1 k x hx 1 _ rfl))
      have x2 := over_cell (kept_cell HBw.out (hr1 k x hx 2 _ rfl))
      have y0 := over_cell (kept_cell HBw.out (hr2 k x hy 0 _ rfl))
      have y1 := over_cell (kept_cell HBw.out (hr2 k x hy 1 _ rfl))
      have y2 := over_cell (kept_cell HBw.out (hr2 k x hy 2 _ rfl))
      simp only [elCon, Nat.add_zero] at x0 x1 x2 y0 y1 y2
      clear hr1 hr2 hx hy
      go_wp2
      refine wp_region_over (fun W => W = wr) (by kernel_rfl) (by kernel_rfl) rfl ?_
      rintro W rfl
      have p1' := over_cell p1
      have p2' := over_cell p2
      clear p1 p2
      repeat (go_big_quiet_step (first | fail))
      refine wpQuiet_nil ?_
      rintro _ ⟨z, rfl⟩
      have HB3 := hide (HB.out.trans ((over_below W z).mono HB.out.size))
      clear x0 x1 x2 y0 y1 y2 p1' p2'
      go_wp2
      go_roundw
      case rel => exact ⟨k + 1, by omega, by go_num, HB3⟩
      case measure => simp [intOf]; omega
    · obtain rfl : k = n := by omega
      have hi : ¬ (k : Int) < (k : Int) := by omega
      go_wp2
      go_ret
      exact ⟨rfl, HBw.out⟩
end Go.Proofs.YtchhophblejmeaaGreatDoor

namespace Go.Proofs.YtchhophblejmeaaGreatDoor
set_option linter.unusedSimpArgs false
set_option linter.unusedVariables false
open Go.RowKit

set_option maxRecDepth 100000 in
set_option maxHeartbeats 2000000 in
theorem sameFact4 {w : World} {F G : Nat → Prop} (pr : ByteArray) (o1 : Int) (ts : List Trm) (us : List Con) (v1 v2 : Value) (h1 : Lst elTrm w F v1 ts) (h2 : Lst elCon w G v2 us) (he : ts.map Trm.st = (us.map conTrm).map Trm.st) :
    Calls Tryz.prog 14 #[.agg #[.string pr, v1, .int .i64 o1], .agg #[.string pr, v2]] w fun e w' => e = .returned (.bool true) ∧ Below w.heap.size w w' := by
  obtain ⟨a1, c1, rfl, -, -, hlen⟩ := h1.shape
  obtain ⟨a2, c2, rfl, -⟩ := h2.shape
  have hl : us.length = ts.length := by have := congrArg List.length he; simpa using this.symm
  have HE := hide he
  have HL := hide hl
  rw [hl] at h2 ⊢
  have HH1 := hide h1
  have HH2 := hide h2
  clear h1 h2 he hl
  obtain ⟨n, hn⟩ : ∃ n, n = ts.length := ⟨_, rfl⟩
  rw [← hn] at HL HH1 HH2 hlen ⊢
  have HN := hide hn
  clear hn
  have hps : (pr.toList != pr.toList) = false := by simp
  have hnn : ((n : Int) != (n : Int)) = false := by simp
  go_enter Tryz.func14, Tryz.ntmps14
  go_wp2
  obtain ⟨Y, hY⟩ : ∃ Y, Y = (w.alloc (.cells #[.string pr, .slice a1 n c1, .int .i64 o1] 42)).alloc (.cells #[.string pr, .slice a2 n c2] 28) := ⟨_, rfl⟩
  have HB0 : Hid (Below w.heap.size w Y) := by rw [hY]; exact below2a _ _ _
  have HP : Hid (Y.cell? ⟨w.heap.size, 1, none⟩ = some (.slice a1 n c1) ∧ Y.cell? ⟨w.heap.size + 1, 1, none⟩ = some (.slice a2 n c2)) := by
    show _ ∧ _
    rw [hY]
    constructor <;> simp
  rw [← hY]
  clear hY
  go_loopw [5] (fun i wl => ∃ k : Nat, k ≤ n ∧ i = .int .i64 k ∧ Hid (Below Y.heap.size Y wl)) (fun i _ => n - (intOf i).toNat)
  case atStart => exact ⟨0, by omega, rfl, Below.refl _ _⟩
  case round =>
    obtain ⟨k, hk, rfl, HB⟩ := hrel
    have HBw := hide (HB0.out.trans (HB.out.mono HB0.out.size))
    have p1 := kept_cell HB.out HP.out.1
    have p2 := kept_cell HB.out HP.out.2
    by_cases hlt : k < n
    · have hi : (k : Int) < (n : Int) := by omega
      have hi0 : (0 : Int) ≤ (k : Int) := by omega
      rw [HN.out] at HH1
      rw [← HL.out] at HH2
      obtain ⟨b1, q1, rfl, -, -, hr1⟩ := HH1.out.row (by have := HN.out; omega)
      obtain ⟨b2, q2, rfl, -, -, hr2⟩ := HH2.out.row (by have := HL.out; omega)
      obtain ⟨x, hx⟩ : ∃ x, ts[k]? = some x := ⟨_, List.getElem?_eq_getElem (by have := HN.out; omega)⟩
      obtain ⟨y, hy⟩ : ∃ y, us[k]? = some y := ⟨_, List.getElem?_eq_getElem (by have := HL.out; omega)⟩
      have hst : x.st = (conTrm y).st := by
        have := congrArg (fun l => l[k]?) HE.out
        simp only [List.getElem?_map, hx, hy, Option.map_some, Option.some.injEq] at this
        exact this
      have x0 := kept_cell HBw.out (hr1 k x hx 0 _ rfl)
      have x1 := kept_cell HBw.out (hr1 k x hx 1 _ rfl)
      have x2 := kept_cell HBw.out (hr1 k x hx 2 _ rfl)
      have x3 := kept_cell HBw.out (hr1 k x hx 3 _ rfl)
      have y0 := kept_cell HBw.out (hr2 k y hy 0 _ rfl)
      have y1 := kept_cell HBw.out (hr2 k y hy 1 _ rfl)
      have y2 := kept_cell HBw.out (hr2 k y hy 2 _ rfl)
      simp only [elTrm, elCon, Nat.add_zero] at x0 x1 x2 x3 y0 y1 y2
      obtain ⟨tk, tn, tt, tf⟩ := x
      obtain ⟨yk, yn, yt⟩ := y
      simp only [Trm.st, conTrm, Trm.mk.injEq] at hst
      obtain ⟨rfl, rfl, rfl, -⟩ := hst
      have hs := neqConSame ⟨tk, tn, tt⟩
      clear hr1 hr2 hx hy
      go_wp2
      obtain ⟨W2, hW2⟩ : ∃ W2, W2 = wr.alloc (.cells #[.int .i64 tk, .int .i64 tn, .string tt, .int .i64 tf] 54) := ⟨_, rfl⟩
      have HB2 : Hid (Below wr.heap.size wr W2) := by rw [hW2]; exact below1 _ _
      have hb2 : W2.heap[wr.heap.size]? = some (.cells #[.int .i64 tk, .int .i64 tn, .string tt, .int .i64 tf] 54 (0, 0)) := by rw [hW2]; exact heap_alloc_new wr _
      rw [← hW2]
      clear hW2
      have t0 : W2.cell? ⟨wr.heap.size, 0, none⟩ = some (.int .i64 tk) := by rw [Lib.cell_of_heap hb2]; rfl
      have t1 : W2.cell? ⟨wr.heap.size, 1, none⟩ = some (.int .i64 tn) := by rw [Lib.cell_of_heap hb2]; rfl
      have t2 : W2.cell? ⟨wr.heap.size, 2, none⟩ = some (.string tt) := by rw [Lib.cell_of_heap hb2]; rfl
      have z0 := kept_cell HB2.out y0
      have z1 := kept_cell HB2.out y1
      have z2 := kept_cell HB2.out y2
      have p3 := kept_cell HB2.out p2
      have HBy := hide (HB.out.trans (HB2.out.mono HB.out.size))
      clear x0 x1 x2 x3 y0 y1 y2 p1 p2 hb2 HB2
      generalize wr.heap.size = g at *
      refine wp_region_over (fun W => W = W2) (by kernel_rfl) (by kernel_rfl) rfl ?_
      rintro W rfl
      have t0 := over_cell t0
      have t1 := over_cell t1
      have t2 := over_cell t2
      have z0 := over_cell z0
      have z1 := over_cell z1
      have z2 := over_cell z2
      have p3 := over_cell p3
      repeat (go_big_quiet_step (first | fail))
      refine wpQuiet_nil ?_
      rintro _ ⟨z, rfl⟩
      have HB3 := hide (HBy.out.trans ((over_below W z).mono HBy.out.size))
      clear t0 t1 t2 z0 z1 z2 p3
      go_wp2
      go_roundw
      case rel => exact ⟨k + 1, by omega, by go_num, HB3⟩
      case measure => simp [intOf]; omega
    · obtain rfl : k = n := by omega
      have hi : ¬ (k : Int) < (k : Int) := by omega
      go_wp2
      go_ret
      exact ⟨rfl, HBw.out⟩
end Go.Proofs.YtchhophblejmeaaGreatDoor

namespace Go.Proofs.YtchhophblejmeaaGreatDoor
set_option linter.unusedSimpArgs false
set_option linter.unusedVariables false
open Go.RowKit

set_option maxRecDepth 100000 in
set_option maxHeartbeats 4000000 in
theorem printFact {w0 W : World} (f : Ftx) (hx : elFtx.ok w0 (fun _ => True) f) (ht : TabLaid w0) (hW : Below w0.heap.size w0 W) (he : ftxE f = 0) (hl : (fctT f.p f.cs).length ≤ 100000000000000) :
    Calls Tryz.prog 11 #[.agg #[.string f.p, f.v]] W fun e w' => e = .returned (.string ⟨(fctT f.p f.cs).toArray⟩) ∧ Below W.heap.size W w' := by
  obtain ⟨va, vc, hv, -, -, hlen⟩ := (elFtx_ok hx).2.shape
  have HW : Hid (Wr w0 (.iface 78 (.agg #[.string f.p, f.v])) (fctT f.p f.cs)) := wr_fact f hx ht
  have HT := hide (fun V (hb : Below W.heap.size W V) => textOf_any HW.out (hW.trans (hb.mono hW.size)) hl)
  rw [hv] at HT ⊢
  have HR : Hid (∀ V, Below W.heap.size W V → Calls Tryz.prog 29 #[.agg #[.string f.p, .slice va f.cs.length vc]] V fun e w' => e = .returned (.int .i64 0) ∧ Below V.heap.size V w') := fun V hb => by
    have := whyFact f V (elFtx.kept hx (hW.trans (hb.mono hW.size)))
    rw [hv, show factE f.p f.cs = 0 from he] at this
    exact this
  clear hx ht hW he hl hv HW
  generalize fctT f.p f.cs = T at *
  generalize f.cs.length = n at *
  generalize f.p = pr at *
  go_enter Tryz.func11, Tryz.ntmps11
  go_wp2_with fail
  obtain ⟨bx, hbx⟩ : ∃ bx, bx = W.heap.size := ⟨_, rfl⟩
  have hbk : (W.alloc (.cells #[.string pr, .slice va n vc] 28)).heap[bx]? = some (.cells #[.string pr, .slice va n vc] 28 (0, 0)) := by rw [hbx]; exact heap_alloc_new W _
  have HW1 : Hid (Below W.heap.size W (W.alloc (.cells #[.string pr, .slice va n vc] 28))) := below1 _ _
  rw [← hbx]
  clear hbx
  generalize W.alloc (.cells #[.string pr, .slice va n vc] 28) = W1 at *
  have x0 : W1.cell? ⟨bx, 0, none⟩ = some (.string pr) := by rw [Lib.cell_of_heap hbk]; rfl
  have x1 : W1.cell? ⟨bx, 1, none⟩ = some (.slice va n vc) := by rw [Lib.cell_of_heap hbk]; rfl
  clear hbk
  have HRb : Hid (∀ V, V = W1 ∨ V = W1.drew → Calls Tryz.prog 29 #[.agg #[.string pr, .slice va n vc]] V fun e w' => e = .returned (.int .i64 0) ∧ Below W1.heap.size W1 w') := fun V hV => by
    rcases hV with rfl | rfl
    · exact (HR.out _ HW1.out).mono fun e w' ⟨h1, h3⟩ => ⟨h1, h3⟩
    · exact (HR.out _ HW1.out.drew).mono fun e w' ⟨h1, h3⟩ => ⟨h1, ((Below.refl W1.heap.size W1).drew).trans h3⟩
  clear HR
  go_region_with (first
    | (go_at_call 29; refine (HRb.out _ (by first | exact .inl rfl | exact .inr rfl)).mono ?_; rintro e w2 ⟨rfl, hb2⟩; have z0 := kept_cell hb2 x0; have z1 := kept_cell hb2 x1; have HB2 := hide hb2; clear hb2)
    | (go_at_call 27; refine (HT.out _ (HW1.out.trans (HB2.out.mono HW1.out.size))).mono ?_; rintro e w3 ⟨rfl, h3⟩; have H3 := hide (belowt (HW1.out.trans (HB2.out.mono HW1.out.size)) h3); clear h3))
  all_goals (try go_wp2)
  all_goals go_ret
  all_goals exact ⟨rfl, H3.out⟩
end Go.Proofs.YtchhophblejmeaaGreatDoor
