/- The maker puts a term and tells what it must be read as. The maker puts an atom. The maker puts a literal. -/
import Derived.Test.YtilckhdaijfddaaDoorProg
import Derived.Test.YtilckhdaijfddaaDoorPkM3
import Derived.Test.YtilckhdaijfddaaDoorParseLiteral
import Derived.Test.YtilckhdaijfddaaDoorRegionLast
import Derived.Test.YtilckhdaijfddaaDoorPush
import Derived.Test.YtilckhdaijfddaaDoorPkM1
import Derived.Test.YtilckhdaijfddaaDoorParseLit3

namespace Go.Proofs.YtilckhdaijfddaaDoor
set_option linter.unusedSimpArgs false
set_option linter.unusedVariables false
open Go.RowKit

theorem dt0 {t : DT} (q : Nat) (h : modM t.k 4 = 0) : dtAt t q = ⟨1, t.n, ⟨#[]⟩, (q : Int)⟩ := by
  unfold dtAt tkAt tmX termP kindT
  simp [h]
theorem dt1 {t : DT} (q : Nat) (h : modM t.k 4 = 1) : dtAt t q = ⟨2, 0, ⟨(nm t.n).toArray⟩, (q : Int)⟩ := by
  unfold dtAt tkAt tmX termP kindT
  simp [h]
theorem dt2 {t : DT} (q : Nat) (h : modM t.k 4 = 2) : dtAt t q = ⟨3, 0, ⟨(textV (modM t.n 8) (mil t.n)).toArray⟩, (q : Int)⟩ := by
  unfold dtAt tkAt tmX termP kindT
  simp [h]
theorem dt3 {t : DT} (q : Nat) (h : modM t.k 4 = 3) : dtAt t q = ⟨4, 0, ⟨(varL (modM t.n 8) (mil t.n)).toArray⟩, (q : Int)⟩ := by
  unfold dtAt tkAt tmX termP kindT
  simp [h]
theorem long_len (c : UInt8) : (longL c).length = 64 := rfl
theorem nm_len (n : Int) : (nm n).length ≤ 100 := by
  have hd := dec_short (mil_lt n)
  unfold nm nameL
  repeat' split
  all_goals first | (show (longL _).length ≤ 100; rw [long_len]; omega) | (simp; done) | (simp only [List.length_cons]; omega)
theorem var_len (n : Int) {m : Nat} (hm : m < 1000) : (varL n m).length ≤ 100 := by
  have hd := dec_short hm
  unfold varL
  repeat' split
  all_goals first | (show (longL _).length ≤ 100; rw [long_len]; omega) | (simp; done) | (simp only [List.length_cons]; omega)
theorem textL_len (n : Int) {m : Nat} (hm : m < 1000) : (textL n m).length ≤ 100 := by
  have hd := dec_short hm
  unfold textL
  repeat' split
  all_goals first | (simp; done) | (simp only [List.length_cons, List.length_append, List.length_nil]; omega)
theorem intL_len (n : Int) (h : I64 n) : (intL n).length ≤ 100 := by
  unfold I64 at h
  have h1 := Go.Lib.itoa_length_le n (by omega) (by omega)
  unfold intL
  split
  · simp only [List.length_cons]; omega
  · split
    · rename_i h2
      have h3 := Go.Lib.itoa_length_le (-n) (by omega) (by omega)
      have e : Go.Lib.itoa (-n) = Go.Lib.decDigits n.natAbs := by
        unfold Go.Lib.itoa
        rw [if_neg (by omega), show (-n).toNat = n.natAbs by omega]
      rw [e] at h3
      simp only [List.length_cons]; omega
    · omega
theorem tm_len (t : DT) (h : I64 t.n) : (tmS t).length ≤ 100 := by
  unfold tmS
  split
  · exact intL_len _ h
  split
  · exact nm_len _
  split
  · exact textL_len _ (mil_lt _)
  · exact var_len _ (mil_lt _)
theorem termRes (W : World) (b : Nat) (u0 u1 u2 u3 : Value) (tmps : Array Value) (ht : tmps[4]? = some (.pointer (some ⟨b, 0, none⟩))) (hb : W.heap[b]? = some (.cells #[u0, u1, u2, u3] 73 (0, 0))) :
    (results Tryd.f20 tmps).run Tryd.prog W = .ok (.agg #[u0, u1, u2, u3]) W := by
  obtain ⟨c0, c1, c2, c3, -⟩ := box4_cells hb
  simp [results, Tryd.results20, go_sem, ht, c0, c1, c2, c3]
theorem only_four {w1 : World} (b : Nat) (u0 u1 u2 u3 : Value) : Only (fun k => k = b) w1 ((((w1.setCell ⟨b, 0, none⟩ u0).setCell ⟨b, 1, none⟩ u1).setCell ⟨b, 2, none⟩ u2).setCell ⟨b, 3, none⟩ u3) := (only_three b u0 u1 u2).setCell (p := ⟨b, 3, none⟩) rfl _
theorem t_cells {V : World} {b : Nat} {u0 u1 : Value} (h : V.heap[b]? = some (.cells #[u0, u1] 70 (0, 0))) : V.cell? ⟨b, 0, none⟩ = some u0 ∧ V.cell? ⟨b, 1, none⟩ = some u1 ∧ V.frozen? ⟨b, 0, none⟩ = false := by
  refine ⟨?_, ?_, ?_⟩ <;> simp [World.cell?, World.frozen?, h]
theorem MkS.fin {E : MkEnv} {w w1 w2 : World} {p b : Nat} {s : St} (h : MkS E w1 p s) (hp : p < w.heap.size) (ho : Only (fun k => k = p ∨ w.heap.size ≤ k) w w1) (ho2 : Only (fun k => k = b) w1 w2) (hb : w.heap.size ≤ b) :
    MkS E w2 p s ∧ Only (fun k => k = p) w w2 :=
  ⟨h.other ho2 (by omega) (fun j hj e => by have := h.1.lo; omega), only_drop (ho.trans (ho2.mono fun k _ (e : k = b) => .inr (by omega)))⟩
/-- The maker puts tokens, whatever the world. -/
def Puts (E : MkEnv) (p : Nat) : Prop := ∀ (W : World) (s : St), MkS E W p s → s.k < 1000000 → ∀ tok : List UInt8, tok.length ≤ 100 → Calls Tryd.prog 9 #[.pointer (some ⟨p, 0, none⟩), .string ⟨tok.toArray⟩] W fun e w' => e = .returned (.int .i64 (s.off E.G : Int)) ∧ MkS E w' p (s.put E.G tok) ∧ Only (fun j => j = p) W w'


set_option maxRecDepth 100000 in
set_option maxHeartbeats 4000000 in
theorem term_0 {E : MkEnv} (hE : E.ok) {w : World} {p : Nat} {s : St} (h : MkS E w p s) (hk : s.k < 1000000) (t : DT) (ht : I64 t.n) (hm : modM t.k 4 = 0) (hP : Puts E p) :
    Calls Tryd.prog 20 #[.pointer (some ⟨p, 0, none⟩), .agg #[.int .i64 t.k, .int .i64 t.n]] w fun e w' => e = .returned (dtAt t (s.off E.G)).val ∧ MkS E w' p (s.put E.G (tmS t)) ∧ Only (fun j => j = p) w w' := by
  have hp := h.lt
  have HM := hide (fun W => mod_4 t.k W)
  rw [hm] at HM
  have HF := hide (fun (W : World) (hI : ItoaOk W) => intOf_any t.n ht W hI)
  have HP := hide hP
  have HS := hide (h.kept (below2a w (.cells #[.int .i64 t.k, .int .i64 t.n] 70) (.cells #[.int .i64 0, .int .i64 0, .string ⟨#[]⟩, .int .i64 0] 73)))
  have HB := hide (TwoBox.start hp (.cells #[.int .i64 t.k, .int .i64 t.n] 70) (.cells #[.int .i64 0, .int .i64 0, .string ⟨#[]⟩, .int .i64 0] 73))
  have HI := hide (fun (W : World) (q : St) (hq : MkS E W p q) => hq.1.itoa hE)
  have e1 : tmS t = (intL t.n) := by unfold tmS; simp [hm]; try rfl
  have HL : Hid (List.length (intL t.n) ≤ 100) := by rw [← e1]; exact tm_len t ht
  rw [dt0 _ hm, e1]
  unfold Trm.val
  clear h ht hm hE e1 hP
  go_enter Tryd.func20, Tryd.ntmps20
  go_wp2_with (first
    | (go_at_call 19; refine (HM.out _).mono ?_; rintro e w1 ⟨rfl, hw⟩; have hw := hw.symm; subst hw)
    | (go_at_call 34; refine (HF.out _ (HI.out _ _ HS.out)).mono ?_; rintro e w3 ⟨rfl, hb3⟩; have HS3 := hide (HS.out.kept hb3); have HB3 := hide (HB.out.below hb3); clear hb3; obtain ⟨x0, x1, x2⟩ := t_cells HB3.out.b0)
    | (go_at_call 9; refine (HP.out _ _ (by exact HS3.out) hk _ HL.out).mono ?_; rintro e w4 ⟨rfl, hm4, ho4⟩; have HM4 := hide hm4; have HB4 := hide ((HB3.out).move ho4); clear hm4 ho4; obtain ⟨x0, x1, x2⟩ := t_cells HB4.out.b0; obtain ⟨k0, k1, k2, k3, l0, l1, l2, l3⟩ := box4_cells HB4.out.b1))
  obtain ⟨z1, z2⟩ := HM4.out.fin hp HB4.out.on (only_four (w.heap.size + 1) (.int .i64 1) (.int .i64 t.n) (.string ⟨#[]⟩) (.int .i64 (s.off E.G : Int))) (by omega)
  exact bodyPost_ret (termRes _ (w.heap.size + 1) _ _ _ _ _ rfl (box4_put HB4.out.b1 _ _ _ _)) rfl ⟨rfl, z1, z2⟩

set_option maxRecDepth 100000 in
set_option maxHeartbeats 4000000 in
theorem term_1 {E : MkEnv} (hE : E.ok) {w : World} {p : Nat} {s : St} (h : MkS E w p s) (hk : s.k < 1000000) (t : DT) (ht : I64 t.n) (hm : modM t.k 4 = 1) (hP : Puts E p) :
    Calls Tryd.prog 20 #[.pointer (some ⟨p, 0, none⟩), .agg #[.int .i64 t.k, .int .i64 t.n]] w fun e w' => e = .returned (dtAt t (s.off E.G)).val ∧ MkS E w' p (s.put E.G (tmS t)) ∧ Only (fun j => j = p) w w' := by
  have hp := h.lt
  have HM := hide (fun W => mod_4 t.k W)
  rw [hm] at HM
  have HF := hide (fun (W : World) (hI : ItoaOk W) => nameOf_any t.n W hI)
  have HP := hide hP
  have HS := hide (h.kept (below2a w (.cells #[.int .i64 t.k, .int .i64 t.n] 70) (.cells #[.int .i64 0, .int .i64 0, .string ⟨#[]⟩, .int .i64 0] 73)))
  have HB := hide (TwoBox.start hp (.cells #[.int .i64 t.k, .int .i64 t.n] 70) (.cells #[.int .i64 0, .int .i64 0, .string ⟨#[]⟩, .int .i64 0] 73))
  have HI := hide (fun (W : World) (q : St) (hq : MkS E W p q) => hq.1.itoa hE)
  have e1 : tmS t = (nameL (modM t.n 12) (mil t.n)) := by unfold tmS; simp [hm]; rfl
  have HL : Hid (List.length (nameL (modM t.n 12) (mil t.n)) ≤ 100) := by rw [← e1]; exact tm_len t ht
  rw [dt1 _ hm, e1]
  unfold Trm.val
  clear h ht hm hE e1 hP
  go_enter Tryd.func20, Tryd.ntmps20
  go_wp2_with (first
    | (go_at_call 19; refine (HM.out _).mono ?_; rintro e w1 ⟨rfl, hw⟩; have hw := hw.symm; subst hw)
    | (go_at_call 18; (with_reducible refine (HF.out _ (HI.out _ _ HM4.out)).mono ?_); rintro e w5 ⟨rfl, hb5⟩; have HM5 := hide (HM4.out.kept hb5); have HB5 := hide (HB4.out.below hb5); clear hb5; obtain ⟨k0, k1, k2, k3, l0, l1, l2, l3⟩ := box4_cells HB5.out.b1)
    | (go_at_call 18; refine (HF.out _ (HI.out _ _ HS.out)).mono ?_; rintro e w3 ⟨rfl, hb3⟩; have HS3 := hide (HS.out.kept hb3); have HB3 := hide (HB.out.below hb3); clear hb3; obtain ⟨x0, x1, x2⟩ := t_cells HB3.out.b0)
    | (go_at_call 9; refine (HP.out _ _ (by exact HS3.out) hk _ HL.out).mono ?_; rintro e w4 ⟨rfl, hm4, ho4⟩; have HM4 := hide hm4; have HB4 := hide ((HB3.out).move ho4); clear hm4 ho4; obtain ⟨x0, x1, x2⟩ := t_cells HB4.out.b0; obtain ⟨k0, k1, k2, k3, l0, l1, l2, l3⟩ := box4_cells HB4.out.b1))
  obtain ⟨z1, z2⟩ := HM5.out.fin hp HB5.out.on (only_four (w.heap.size + 1) (.int .i64 2) (.int .i64 0) (.string ⟨(nameL (modM t.n 12) (mil t.n)).toArray⟩) (.int .i64 (s.off E.G : Int))) (by omega)
  exact bodyPost_ret (termRes _ (w.heap.size + 1) _ _ _ _ _ rfl (box4_put HB5.out.b1 _ _ _ _)) rfl ⟨rfl, z1, z2⟩

set_option maxRecDepth 100000 in
set_option maxHeartbeats 4000000 in
theorem term_2 {E : MkEnv} (hE : E.ok) {w : World} {p : Nat} {s : St} (h : MkS E w p s) (hk : s.k < 1000000) (t : DT) (ht : I64 t.n) (hm : modM t.k 4 = 2) (hP : Puts E p) :
    Calls Tryd.prog 20 #[.pointer (some ⟨p, 0, none⟩), .agg #[.int .i64 t.k, .int .i64 t.n]] w fun e w' => e = .returned (dtAt t (s.off E.G)).val ∧ MkS E w' p (s.put E.G (tmS t)) ∧ Only (fun j => j = p) w w' := by
  have hp := h.lt
  have HM := hide (fun W => mod_4 t.k W)
  rw [hm] at HM
  have HF := hide (fun (W : World) (hI : ItoaOk W) => textOf_any t.n W hI)
  have HP := hide hP
  have HS := hide (h.kept (below2a w (.cells #[.int .i64 t.k, .int .i64 t.n] 70) (.cells #[.int .i64 0, .int .i64 0, .string ⟨#[]⟩, .int .i64 0] 73)))
  have HB := hide (TwoBox.start hp (.cells #[.int .i64 t.k, .int .i64 t.n] 70) (.cells #[.int .i64 0, .int .i64 0, .string ⟨#[]⟩, .int .i64 0] 73))
  have HI := hide (fun (W : World) (q : St) (hq : MkS E W p q) => hq.1.itoa hE)
  have e1 : tmS t = (textL (modM t.n 8) (mil t.n)) := by unfold tmS; simp [hm]; try rfl
  have HL : Hid (List.length (textL (modM t.n 8) (mil t.n)) ≤ 100) := by rw [← e1]; exact tm_len t ht
  rw [dt2 _ hm, e1]
  unfold Trm.val
  clear h ht hm hE e1 hP
  go_enter Tryd.func20, Tryd.ntmps20
  go_wp2_with (first
    | (go_at_call 19; refine (HM.out _).mono ?_; rintro e w1 ⟨rfl, hw⟩; have hw := hw.symm; subst hw)
    | (go_at_call 35; refine (HF.out _ (HI.out _ _ HS.out)).mono ?_; rintro e w3 ⟨rfl, hb3⟩; have HS3 := hide (HS.out.kept hb3); have HB3 := hide (HB.out.below hb3); clear hb3)
    | (go_at_call 9; refine (HP.out _ _ (by exact HS3.out) hk _ HL.out).mono ?_; rintro e w4 ⟨rfl, hm4, ho4⟩; have HM4 := hide hm4; have HB4 := hide ((HB3.out).move ho4); clear hm4 ho4; obtain ⟨x0, x1, x2⟩ := t_cells HB4.out.b0; obtain ⟨k0, k1, k2, k3, l0, l1, l2, l3⟩ := box4_cells HB4.out.b1))
  obtain ⟨z1, z2⟩ := HM4.out.fin hp HB4.out.on (only_four (w.heap.size + 1) (.int .i64 3) (.int .i64 0) (.string ⟨(textV (modM t.n 8) (mil t.n)).toArray⟩) (.int .i64 (s.off E.G : Int))) (by omega)
  exact bodyPost_ret (termRes _ (w.heap.size + 1) _ _ _ _ _ rfl (box4_put HB4.out.b1 _ _ _ _)) rfl ⟨rfl, z1, z2⟩

set_option maxRecDepth 100000 in
set_option maxHeartbeats 4000000 in
theorem term_3 {E : MkEnv} (hE : E.ok) {w : World} {p : Nat} {s : St} (h : MkS E w p s) (hk : s.k < 1000000) (t : DT) (ht : I64 t.n) (hm : modM t.k 4 = 3) (hP : Puts E p) :
    Calls Tryd.prog 20 #[.pointer (some ⟨p, 0, none⟩), .agg #[.int .i64 t.k, .int .i64 t.n]] w fun e w' => e = .returned (dtAt t (s.off E.G)).val ∧ MkS E w' p (s.put E.G (tmS t)) ∧ Only (fun j => j = p) w w' := by
  have hp := h.lt
  have HM := hide (fun W => mod_4 t.k W)
  rw [hm] at HM
  have HF := hide (fun (W : World) (hI : ItoaOk W) => varOf_any t.n W hI)
  have HP := hide hP
  have HS := hide (h.kept (below2a w (.cells #[.int .i64 t.k, .int .i64 t.n] 70) (.cells #[.int .i64 0, .int .i64 0, .string ⟨#[]⟩, .int .i64 0] 73)))
  have HB := hide (TwoBox.start hp (.cells #[.int .i64 t.k, .int .i64 t.n] 70) (.cells #[.int .i64 0, .int .i64 0, .string ⟨#[]⟩, .int .i64 0] 73))
  have HI := hide (fun (W : World) (q : St) (hq : MkS E W p q) => hq.1.itoa hE)
  have e1 : tmS t = (varL (modM t.n 8) (mil t.n)) := by unfold tmS; simp [hm]; try rfl
  have HL : Hid (List.length (varL (modM t.n 8) (mil t.n)) ≤ 100) := by rw [← e1]; exact tm_len t ht
  rw [dt3 _ hm, e1]
  unfold Trm.val
  clear h ht hm hE e1 hP
  go_enter Tryd.func20, Tryd.ntmps20
  go_wp2_with (first
    | (go_at_call 19; refine (HM.out _).mono ?_; rintro e w1 ⟨rfl, hw⟩; have hw := hw.symm; subst hw)
    | (go_at_call 36; (with_reducible refine (HF.out _ (HI.out _ _ HM4.out)).mono ?_); rintro e w5 ⟨rfl, hb5⟩; have HM5 := hide (HM4.out.kept hb5); have HB5 := hide (HB4.out.below hb5); clear hb5; obtain ⟨k0, k1, k2, k3, l0, l1, l2, l3⟩ := box4_cells HB5.out.b1)
    | (go_at_call 36; refine (HF.out _ (HI.out _ _ HS.out)).mono ?_; rintro e w3 ⟨rfl, hb3⟩; have HS3 := hide (HS.out.kept hb3); have HB3 := hide (HB.out.below hb3); clear hb3; obtain ⟨x0, x1, x2⟩ := t_cells HB3.out.b0)
    | (go_at_call 9; refine (HP.out _ _ (by exact HS3.out) hk _ HL.out).mono ?_; rintro e w4 ⟨rfl, hm4, ho4⟩; have HM4 := hide hm4; have HB4 := hide ((HB3.out).move ho4); clear hm4 ho4; obtain ⟨x0, x1, x2⟩ := t_cells HB4.out.b0; obtain ⟨k0, k1, k2, k3, l0, l1, l2, l3⟩ := box4_cells HB4.out.b1))
  obtain ⟨z1, z2⟩ := HM5.out.fin hp HB5.out.on (only_four (w.heap.size + 1) (.int .i64 4) (.int .i64 0) (.string ⟨(varL (modM t.n 8) (mil t.n)).toArray⟩) (.int .i64 (s.off E.G : Int))) (by omega)
  exact bodyPost_ret (termRes _ (w.heap.size + 1) _ _ _ _ _ rfl (box4_put HB5.out.b1 _ _ _ _)) rfl ⟨rfl, z1, z2⟩

theorem term_any {E : MkEnv} (hE : E.ok) {w : World} {p : Nat} {s : St} (h : MkS E w p s) (hk : s.k < 1000000) (t : DT) (ht : I64 t.n) :
    Calls Tryd.prog 20 #[.pointer (some ⟨p, 0, none⟩), .agg #[.int .i64 t.k, .int .i64 t.n]] w fun e w' => e = .returned (dtAt t (s.off E.G)).val ∧ MkS E w' p (s.put E.G (tmS t)) ∧ Only (fun j => j = p) w w' := by
  have hP : Puts E p := fun W s h hk tok hl => put_any hE h hk tok hl
  have hm := modM_lt t.k (k := 4) (by decide)
  have h4 : modM t.k 4 = 0 ∨ modM t.k 4 = 1 ∨ modM t.k 4 = 2 ∨ modM t.k 4 = 3 := by omega
  rcases h4 with e | e | e | e
  · exact term_0 hE h hk t ht e hP
  · exact term_1 hE h hk t ht e hP
  · exact term_2 hE h hk t ht e hP
  · exact term_3 hE h hk t ht e hP
end Go.Proofs.YtilckhdaijfddaaDoor

namespace Go.Proofs.YtilckhdaijfddaaDoor
set_option linter.unusedSimpArgs false
set_option linter.unusedVariables false
open Go.RowKit

/-- At most the first eight terms of a list of the law's data. -/
structure RowT (w0 : World) (ao : Option Addr) (len : Nat) (ts : List DT) : Prop where
  n : ts.length = min len 8
  ok : ∀ t ∈ ts, I64 t.n
  row : 0 < len → ∃ b off, ao = some ⟨b, off, none⟩ ∧ ∀ i t, ts[i]? = some t → w0.cell? ⟨b, off + i * 2, none⟩ = some (.int .i64 t.k) ∧ w0.cell? ⟨b, off + i * 2 + 1, none⟩ = some (.int .i64 t.n)
def gT (gr : Bool) (t : DT) : DT := if gr then ⟨modM t.k 3, t.n⟩ else t
def gA (gr : Bool) (a : DA) : DA := ⟨a.p, a.ts.map (gT gr)⟩
theorem gA_false (a : DA) : gA false a = a := by
  obtain ⟨p, ts⟩ := a
  show (⟨p, ts.map (gT false)⟩ : DA) = _
  have : gT false = id := by funext t; rfl
  rw [this, List.map_id]
theorem gT_n (gr : Bool) (t : DT) : (gT gr t).n = t.n := by unfold gT; split <;> rfl
section
variable {G : Nat → Int}
theorem argsS_snoc (s : St) (l : List DT) (t : DT) : argsS G s (l ++ [t]) = argS G (argsS G s l) t := by unfold argsS; rw [List.foldl_append]; rfl
theorem argsS_len (s : St) (l : List DT) : (argsS G s l).2.length = l.length := by
  rw [(argsS_run (G := G) (e := []) l [] s).2.2.1, argsTr_len]
theorem argsS_k (s : St) (l : List DT) : (argsS G s l).1.k = s.k + 2 * l.length := (argsS_run (G := G) (e := []) l [] s).2.1
end

structure ALoop (E : MkEnv) (w W : World) (p b7 : Nat) (st : St) (ap : Int) (ao : Option Addr) (len cap : Nat) (nt : ByteArray) (off : Int) (v : Value) (acc : List Trm) : Prop where
  ms : MkS E W p st
  q4 : W.heap[w.heap.size]? = some (.cells #[.int .i64 ap, .slice ao len cap] 36 (0, 0))
  q6 : W.heap[w.heap.size + 1]? = some (.cells #[.string ⟨#[]⟩, .slice none 0 0, .int .i64 0] 32 (0, 0))
  q7 : W.heap[b7]? = some (.cells #[.string nt, v, .int .i64 off] 32 (0, 0))
  gr : Grow elTrm 73 (b7 + 1) W v acc
  on : Only (fun k => k = p ∨ w.heap.size ≤ k) w W
  pl : p < w.heap.size
  lo : w.heap.size + 2 ≤ b7
section
variable {E : MkEnv} {w W W' : World} {p b7 : Nat} {st st' : St} {ap : Int} {ao : Option Addr} {len cap : Nat} {nt : ByteArray} {off : Int} {v v' : Value} {acc acc' : List Trm}
theorem ALoop.hi (h : ALoop E w W p b7 st ap ao len cap nt off v acc) : b7 + 1 ≤ W.heap.size := (Array.getElem?_eq_some_iff.1 h.q7).1
theorem ALoop.move (h : ALoop E w W p b7 st ap ao len cap nt off v acc) (ho : Only (fun k => k = p) W W') (hm : MkS E W' p st') : ALoop E w W' p b7 st' ap ao len cap nt off v acc :=
  have hp := h.pl
  have hl := h.lo
  ⟨hm, by rw [ho.block _ (Array.getElem?_eq_some_iff.1 h.q4).1 (by omega)]; exact h.q4, by rw [ho.block _ (Array.getElem?_eq_some_iff.1 h.q6).1 (by omega)]; exact h.q6, by rw [ho.block _ (Array.getElem?_eq_some_iff.1 h.q7).1 (by omega)]; exact h.q7,
    h.gr.above fun b hb hlt => ho.block b hlt (by omega), h.on.trans (ho.mono fun k _ e => .inl e), h.pl, h.lo⟩
theorem ALoop.kept (h : ALoop E w W p b7 st ap ao len cap nt off v acc) (hb : Below W.heap.size W W') : ALoop E w W' p b7 st ap ao len cap nt off v acc := h.move (Only.of_below hb _) (h.ms.kept hb)
theorem ALoop.drew (h : ALoop E w W p b7 st ap ao len cap nt off v acc) : ALoop E w W.drew p b7 st ap ao len cap nt off v acc := h.kept (Below.refl _ _).drew
theorem ALoop.far (h : ALoop E w W p b7 st ap ao len cap nt off v acc) (hg : W.grownBy W' v.ownBlock) : W'.heap[b7]? = some (.cells #[.string nt, v, .int .i64 off] 32 (0, 0)) := by
  have ho : Only (fun k => b7 + 1 ≤ k) W W' := (Only.refl _ W).grown hg (fun k hk _ => own_new h.gr.1 k hk)
  rw [ho.block _ (Array.getElem?_eq_some_iff.1 h.q7).1 (by omega)]; exact h.q7
theorem ALoop.push (h : ALoop E w W p b7 st ap ao len cap nt off v acc) (hg : W.grownBy W' v.ownBlock) (hG : Grow elTrm 73 (b7 + 1) W' v' acc') : ALoop E w (W'.setCell ⟨b7, 1, none⟩ v') p b7 st ap ao len cap nt off v' acc' := by
  have hp := h.pl
  have hl := h.lo
  have hE := h.ms.1.lo
  have ho : Only (fun k => b7 + 1 ≤ k) W W' := (Only.refl _ W).grown hg (fun k hk _ => own_new h.gr.1 k hk)
  have ho2 : Only (fun k => k = b7) W' (W'.setCell ⟨b7, 1, none⟩ v') := (Only.refl (fun k => k = b7) W').setCell (p := ⟨b7, 1, none⟩) rfl _
  have hf := h.far hg
  have ho3 : Only (fun k => b7 ≤ k) W (W'.setCell ⟨b7, 1, none⟩ v') := (ho.mono fun k _ (e : b7 + 1 ≤ k) => (by omega : b7 ≤ k)).trans (ho2.mono fun k _ (e : k = b7) => (by omega : b7 ≤ k))
  refine ⟨h.ms.other ho3 (by omega) (fun j hj e => by omega), ?_, ?_, ?_, hG.above fun b hb hlt => ho2.block b hlt (by omega), h.on.trans (ho3.mono fun k _ (e : b7 ≤ k) => .inr (by omega)), h.pl, h.lo⟩
  · rw [ho3.block _ (Array.getElem?_eq_some_iff.1 h.q4).1 (by omega)]; exact h.q4
  · rw [ho3.block _ (Array.getElem?_eq_some_iff.1 h.q6).1 (by omega)]; exact h.q6
  · simp [World.setCell, Array.getElem?_modify, hf]
theorem ALoop.fin (h : ALoop E w W p b7 st ap ao len cap nt off v acc) (hl : acc.length < 1073741824) (hn : nt.size ≤ 140737488351232) (hof : I64 off) :
    (((W.setCell ⟨w.heap.size + 1, 0, none⟩ (.string nt)).setCell ⟨w.heap.size + 1, 1, none⟩ v).setCell ⟨w.heap.size + 1, 2, none⟩ (.int .i64 off)).heap[w.heap.size + 1]? = some (.cells #[.string nt, v, .int .i64 off] 32 (0, 0)) ∧ MkS E (((W.setCell ⟨w.heap.size + 1, 0, none⟩ (.string nt)).setCell ⟨w.heap.size + 1, 1, none⟩ v).setCell ⟨w.heap.size + 1, 2, none⟩ (.int .i64 off)) p st ∧ Only (fun k => k = p) w (((W.setCell ⟨w.heap.size + 1, 0, none⟩ (.string nt)).setCell ⟨w.heap.size + 1, 1, none⟩ v).setCell ⟨w.heap.size + 1, 2, none⟩ (.int .i64 off)) ∧ elAtx.ok (((W.setCell ⟨w.heap.size + 1, 0, none⟩ (.string nt)).setCell ⟨w.heap.size + 1, 1, none⟩ v).setCell ⟨w.heap.size + 1, 2, none⟩ (.int .i64 off)) (fun b => w.heap.size ≤ b) ⟨nt, v, off, acc⟩ := by
  have ho := only_three (w1 := W) (w.heap.size + 1) (.string nt) v (.int .i64 off)
  have hlo := h.lo
  obtain ⟨z1, z2⟩ := h.ms.fin h.pl h.on ho (by omega)
  exact ⟨by simp [World.setCell, Array.getElem?_modify, h.q6], z1, z2, hn, hof, (h.gr.new hl).move fun b hb hF => ⟨by omega, ho.block b hb (by omega)⟩⟩
theorem ALoop.start {w3 w4 : World} (hm : MkS E w4 p st) (hp : p < w.heap.size) (hB : TwoBox w w4 p (.cells #[.int .i64 ap, .slice ao len cap] 36) (.cells #[.string ⟨#[]⟩, .slice none 0 0, .int .i64 0] 32)) (hb : w4.heap[b7]? = some (.cells #[.string nt, .slice none 0 0, .int .i64 0] 32 (0, 0))) (hlo : w.heap.size + 2 ≤ b7) :
    ALoop E w (w4.setCell ⟨b7, 2, none⟩ (.int .i64 off)) p b7 st ap ao len cap nt off (.slice none 0 0) [] := by
  have hE := hm.1.lo
  have ho2 : Only (fun k => k = b7) w4 (w4.setCell ⟨b7, 2, none⟩ (.int .i64 off)) := (Only.refl (fun k => k = b7) w4).setCell (p := ⟨b7, 2, none⟩) rfl _
  refine ⟨hm.other ho2 (by omega) (fun j hj e => by omega), ?_, ?_, ?_, Grow.nil _ _ _ _, hB.on.trans (ho2.mono fun k _ (e : k = b7) => .inr (by omega)), hp, hlo⟩
  · rw [ho2.block _ (Array.getElem?_eq_some_iff.1 hB.b0).1 (by omega)]; exact hB.b0
  · rw [ho2.block _ (Array.getElem?_eq_some_iff.1 hB.b1).1 (by omega)]; exact hB.b1
  · simp [World.setCell, Array.getElem?_modify, hb]
end
theorem atomMRes (W : World) (b : Nat) (u0 u1 u2 : Value) (tmps : Array Value) (ht : tmps[6]? = some (.pointer (some ⟨b, 0, none⟩))) (hb : W.heap[b]? = some (.cells #[u0, u1, u2] 32 (0, 0))) :
    (results Tryd.f6 tmps).run Tryd.prog W = .ok (.agg #[u0, u1, u2]) W := by
  obtain ⟨c0, c1, c2, -⟩ := box3_cells hb
  simp [results, Tryd.results6, go_sem, ht, c0, c1, c2]
theorem a_cells {V : World} {b : Nat} {u0 u1 : Value} (h : V.heap[b]? = some (.cells #[u0, u1] 36 (0, 0))) : V.cell? ⟨b, 0, none⟩ = some u0 ∧ V.cell? ⟨b, 1, none⟩ = some u1 := by
  refine ⟨?_, ?_⟩ <;> simp [World.cell?, h]
def Terms (E : MkEnv) (p : Nat) : Prop := ∀ (W : World) (s : St), MkS E W p s → s.k < 1000000 → ∀ t : DT, I64 t.n → Calls Tryd.prog 20 #[.pointer (some ⟨p, 0, none⟩), .agg #[.int .i64 t.k, .int .i64 t.n]] W fun e w' => e = .returned (dtAt t (s.off E.G)).val ∧ MkS E w' p (s.put E.G (tmS t)) ∧ Only (fun j => j = p) W w'
theorem dtAt_ok {t : DT} {q : Nat} (h : I64 t.n) (hq : q ≤ 1000000000) : (dtAt t q).ok := by
  have hz : I64 (0 : Int) := i64_0
  have hd := dec_short (mil_lt t.n)
  have hv : (textV (modM t.n 8) (mil t.n)).length ≤ 100 := by
    unfold textV
    repeat' split
    all_goals first | (simp; done) | (simp only [List.length_cons, List.length_append, List.length_nil]; omega)
  have hi : ∀ n : Nat, n ≤ 4 → I64 (n : Int) := fun n h => by unfold I64; omega
  have hm := modM_lt t.k (k := 4) (by decide)
  have h4 : modM t.k 4 = 0 ∨ modM t.k 4 = 1 ∨ modM t.k 4 = 2 ∨ modM t.k 4 = 3 := by omega
  rcases h4 with e | e | e | e
  · rw [dt0 q e]; exact ⟨⟨hi 1 (by omega), h, by show (0 : Nat) ≤ _; omega⟩, by unfold I64; show _ ≤ (q : Int) ∧ (q : Int) ≤ _; omega⟩
  · rw [dt1 q e]; exact ⟨⟨hi 2 (by omega), hz, by show (⟨(nm t.n).toArray⟩ : ByteArray).size ≤ _; rw [arr_size]; have := nm_len t.n; omega⟩, by unfold I64; show _ ≤ (q : Int) ∧ (q : Int) ≤ _; omega⟩
  · rw [dt2 q e]; exact ⟨⟨hi 3 (by omega), hz, by show (⟨(textV (modM t.n 8) (mil t.n)).toArray⟩ : ByteArray).size ≤ _; rw [arr_size]; omega⟩, by unfold I64; show _ ≤ (q : Int) ∧ (q : Int) ≤ _; omega⟩
  · rw [dt3 q e]; exact ⟨⟨hi 4 (by omega), hz, by show (⟨(varL (modM t.n 8) (mil t.n)).toArray⟩ : ByteArray).size ≤ _; rw [arr_size]; have := var_len (modM t.n 8) (mil_lt t.n); omega⟩, by unfold I64; show _ ≤ (q : Int) ∧ (q : Int) ≤ _; omega⟩

set_option maxRecDepth 100000 in
set_option maxHeartbeats 8000000 in
theorem atom_false {E : MkEnv} (hE : E.ok) {w : World} {p : Nat} {s : St} (h : MkS E w p s) (hk : s.k < 900000) (a : DA) {ao : Option Addr} {len : Nat} (cap : Nat) (hr : RowT E.w0 ao len a.ts) (hP : Puts E p) (hT : Terms E p) :
    Calls Tryd.prog 6 #[.pointer (some ⟨p, 0, none⟩), .agg #[.int .i64 a.p, .slice ao len cap], .bool false] w fun e w' => ∃ x : Atx, e = .returned x.val ∧ x.pur = (atomS E.G s (gA false a)).2 ∧ elAtx.ok w' (fun b => w.heap.size ≤ b) x ∧ MkS E w' p (atomS E.G s (gA false a)).1 ∧ Only (fun j => j = p) w w' := by
  have hp := h.lt
  have HF : Hid (∀ W : World, ItoaOk W → Calls Tryd.prog 18 #[.int .i64 a.p] W fun e w' => e = .returned (.string ⟨(nm a.p).toArray⟩) ∧ Below W.heap.size W w') := fun W hI => nameOf_any a.p W hI
  have HP := hide hP
  have HT := hide hT
  have HS := hide (h.kept (below2a w (.cells #[.int .i64 a.p, .slice ao len cap] 36) (.cells #[.string ⟨#[]⟩, .slice none 0 0, .int .i64 0] 32)))
  have HB := hide (TwoBox.start hp (.cells #[.int .i64 a.p, .slice ao len cap] 36) (.cells #[.string ⟨#[]⟩, .slice none 0 0, .int .i64 0] 32))
  have HI := hide (fun (W : World) (q : St) (hq : MkS E W p q) => hq.1.itoa hE)
  have HNl := hide (nm_len a.p)
  have HOff : Hid (I64 (s.off E.G : Int)) := by
    show I64 _
    have h1 := h.2
    have h2 := gl_le (G := E.G) s.k
    unfold St.off I64
    omega
  have HR := hide hr
  have HPost : Hid (∀ (acc : List Trm) (st : St) (v : Value), argsS E.G (s.put E.G (nm a.p)) (a.ts.map (gT false)) = (st, acc) → (⟨⟨(nm a.p).toArray⟩, acc, (s.off E.G : Int)⟩ : PAtom) = (atomS E.G s (gA false a)).2 ∧ (a.ts = [] → (atomS E.G s (gA false a)).1 = st) ∧ (a.ts ≠ [] → (atomS E.G s (gA false a)).1 = st.put E.G [41])) := fun acc st v hq => by
    unfold atomS gA
    simp only
    rw [hq]
    refine ⟨rfl, fun h0 => ?_, fun h0 => ?_⟩
    · rw [if_pos (by rw [h0]; rfl)]
      rw [h0] at hq
      exact congrArg Prod.fst hq
    · rw [if_neg (by simpa using h0)]
  clear h hE hP hT
  go_enter Tryd.func6, Tryd.ntmps6
  go_upto_region 3 with (first
    | (go_at_call 18; refine (HF.out _ (HI.out _ _ HS.out)).mono ?_; rintro e w3 ⟨rfl, hb3⟩; have HS3 := hide ((HS.out.kept hb3).kept (belowA w3 (.cells #[.string ⟨(nm a.p).toArray⟩, .slice none 0 0, .int .i64 0] 32))); have HB3 := hide ((HB.out.below hb3).below (belowA w3 (.cells #[.string ⟨(nm a.p).toArray⟩, .slice none 0 0, .int .i64 0] 32))); have HL3 : Hid (w.heap.size + 2 ≤ w3.heap.size) := (HB.out.below hb3).lt; clear hb3)
    | (go_at_call 9; refine (HP.out _ _ HS3.out (by omega) _ HNl.out).mono ?_; rintro e w4 ⟨rfl, hm4, ho4⟩; have HM4 := hide hm4; have HB4 := hide (HB3.out.move ho4); have HL4 := HL3.out; have HN4 : Hid (w4.heap[w3.heap.size]? = some (.cells #[.string ⟨(nm a.p).toArray⟩, .slice none 0 0, .int .i64 0] 32 (0, 0))) := (ho4.block _ (by simp) (by omega)).trans (heap_alloc_new w3 _); clear hm4 ho4; obtain ⟨k0, k1, k2, l0, l1, l2⟩ := box3_cells HN4.out))
  obtain ⟨W0, hW0⟩ : ∃ W0, W0 = w4.setCell ⟨w3.heap.size, 2, none⟩ (.int .i64 (s.off E.G : Int)) := ⟨_, rfl⟩
  have HA0 : Hid (ALoop E w W0 p w3.heap.size (s.put E.G (nm a.p)) a.p ao len cap ⟨(nm a.p).toArray⟩ (s.off E.G : Int) (.slice none 0 0) []) := by rw [hW0]; exact ALoop.start (w3 := w3) HM4.out hp HB4.out HN4.out HL3.out
  rw [← hW0]
  clear hW0 HM4 HB4 HN4 HS3 HB3 HL3 k0 k1 k2 l0 l1 l2 HS HB HI HF HL4
  generalize w3.heap.size = b7 at *
  clear w3 w4
  go_wp2
  go_loopw [8] (fun i wl => ∃ (j : Nat) (st : St) (acc : List Trm) (va : Option Addr) (vc : Nat), j ≤ a.ts.length ∧ i = .int .i64 j ∧ st.k = s.k + 1 + 2 * j ∧ Hid (acc.length = j) ∧ Hid (argsS E.G (s.put E.G (nm a.p)) ((a.ts.take j).map (gT false)) = (st, acc)) ∧ Hid (ALoop E w wl p b7 st a.p ao len cap ⟨(nm a.p).toArray⟩ (s.off E.G : Int) (.slice va j vc) acc)) (fun i _ => a.ts.length - (intOf i).toNat)
  case atStart => exact ⟨0, s.put E.G (nm a.p), [], none, 0, by omega, rfl, rfl, rfl, rfl, HA0⟩
  case round =>
    clear HA0
    obtain ⟨j, st, acc, va, vc, hj, rfl, hsk, HLn, HQ, HA⟩ := hrel
    have hn := HR.out.n
    obtain ⟨a0, a1⟩ := a_cells HA.out.q4
    by_cases hlt : j < a.ts.length
    · have hi : (j : Int) < (len : Int) := by omega
      have hi8 : (j : Int) < 8 := by omega
      have hi0 : (0 : Int) ≤ (j : Int) := by omega
      obtain ⟨t, ht⟩ : ∃ t, a.ts[j]? = some t := ⟨_, List.getElem?_eq_getElem hlt⟩
      have HOk := hide (HR.out.ok t (List.mem_of_getElem? ht))
      obtain ⟨b3, o3, hao, hr3⟩ := HR.out.row (by omega)
      obtain ⟨c0, c1⟩ := hr3 j t ht
      have HSn : Hid ((a.ts.take (j + 1)).map (gT false) = (a.ts.take j).map (gT false) ++ [gT false t]) := by show _ = _; rw [List.take_add_one, ht, List.map_append]; rfl
      have HMd := hide (fun W => mod_3 t.k W)
      subst hao
      clear hr3 ht hr HPost HNl HOff HR
      rcases Nat.eq_zero_or_pos j with hj0 | hj0
      · have ej : ((j : Int) == 0) = true := by simp; omega
        have HJ0 := hide hj0
        clear hj0
        go_upto_region 12 with (go_at_call 9; refine (HP.out _ _ HA.out.ms (by omega) _ (by decide)).mono ?_; rintro e w4 ⟨rfl, hm4, ho4⟩; have HA4 := hide (HA.out.move ho4 hm4); clear hm4 ho4; obtain ⟨a0, a1⟩ := a_cells HA4.out.q4; have y0 := kept_cell HA4.out.ms.1.bel c0; have y1 := kept_cell HA4.out.ms.1.bel c1)
        obtain ⟨Z, hZ⟩ : ∃ Z, Z = w4.alloc (.cells #[.int .i64 t.k, .int .i64 t.n] 70) := ⟨_, rfl⟩
        have hTk : Z.heap[w4.heap.size]? = some (.cells #[.int .i64 t.k, .int .i64 t.n] 70 (0, 0)) := by rw [hZ]; exact heap_alloc_new w4 _
        have HZ := hide (HA4.out.kept (belowA w4 (.cells #[.int .i64 t.k, .int .i64 t.n] 70)))
        rw [← hZ] at HZ
        have hob : ∀ k, (Value.slice va j vc).ownBlock = some k → k < w4.heap.size := own_lt6 HA4.out.gr.1
        have hb4 : b7 + 1 ≤ w4.heap.size := HA4.out.hi
        rw [← hZ]
        clear hZ HA HA4 y0 y1 a0 a1
        generalize w4.heap.size = bt at *
        clear w4
        have HSof : Hid (∀ V : World, V.heap[b7]? = some (.cells #[.string ⟨(nm a.p).toArray⟩, .slice va j vc, .int .i64 (s.off E.G : Int)] 32 (0, 0)) → V.heap[bt]? = some (.cells #[.int .i64 t.k, .int .i64 t.n] 70 (0, 0)) → V.cell? ⟨b7, 1, none⟩ = some (.slice va j vc) ∧ V.cell? ⟨bt, 0, none⟩ = some (.int .i64 t.k) ∧ V.cell? ⟨bt, 1, none⟩ = some (.int .i64 t.n)) := fun V h1 h2 => ⟨by simp [World.cell?, h1], (t_cells h2).1, (t_cells h2).2.1⟩
        refine wp_region_last (by kernel_rfl) (fun V => V.cell? ⟨b7, 1, none⟩ = some (.slice va j vc) ∧ V.cell? ⟨bt, 0, none⟩ = some (.int .i64 t.k) ∧ V.cell? ⟨bt, 1, none⟩ = some (.int .i64 t.n)) 8 ?_
        have HS1 := HSof.out Z.drew HZ.out.drew.q7 hTk
        refine wpAnyM_take (i := 0) (v := ?_) rfl (by kernel_rfl) (by kernel_rfl) (by kernel_rfl) (by kernel_rfl) (fun _ _ _ h => h) HS1 (Or.inl ⟨by rfl, ?_⟩) ?_
        rotate_left
        · (intro w hSw; (try dsimp only at hSw); go_simp; try with_reducible rfl)
        simp only [Act.put, List.setIfInBounds_toArray, List.set_cons_zero, List.set_cons_succ]
        refine wpAnyM_take (i := 1) (v := ?_) rfl (by kernel_rfl) (by kernel_rfl) (by kernel_rfl) (by kernel_rfl) (fun _ _ _ h => h) HS1 (Or.inl ⟨by rfl, ?_⟩) ?_
        rotate_left
        · (intro w hSw; (try dsimp only at hSw); go_simp; try with_reducible rfl)
        simp only [Act.put, List.setIfInBounds_toArray, List.set_cons_zero, List.set_cons_succ]
        refine wpAnyM_take (i := 2) (v := ?_) rfl (by kernel_rfl) (by kernel_rfl) (by kernel_rfl) (by kernel_rfl) (fun _ _ _ h => h) HS1 (Or.inl ⟨by rfl, ?_⟩) ?_
        rotate_left
        · (intro w hSw; (try dsimp only at hSw); go_simp; try with_reducible rfl)
        simp only [Act.put, List.setIfInBounds_toArray, List.set_cons_zero, List.set_cons_succ]
        refine wpAnyM_take (i := 3) (v := ?_) rfl (by kernel_rfl) (by kernel_rfl) (by kernel_rfl) (by kernel_rfl) (fun _ _ _ h => h) HS1 (Or.inl ⟨by rfl, ?_⟩) ?_
        rotate_left
        · (intro w hSw; (try dsimp only at hSw); go_simp; try with_reducible rfl)
        simp only [Act.put, List.setIfInBounds_toArray, List.set_cons_zero, List.set_cons_succ]
        refine wpAnyM_one (i := 4) (by kernel_rfl) rfl (fun K hK => ?_)
        go_simp
        refine (HT.out _ _ HZ.out.drew.ms (by show st.k + 1 < _; omega) (gT false t) (by rw [gT_n]; exact HOk.out)).mono ?_
        rintro e w3 ⟨rfl, hm3, ho3⟩
        have HZ3 := hide (HZ.out.drew.move ho3 hm3)
        have hpb : bt ≠ p := by have h1 := HZ.out.pl; have h2 := HZ.out.lo; omega
        have hTk3 : w3.heap[bt]? = some (.cells #[.int .i64 t.k, .int .i64 t.n] 70 (0, 0)) := by rw [ho3.block bt (Array.getElem?_eq_some_iff.1 hTk).1 hpb]; exact hTk
        have hlt3 := (Array.getElem?_eq_some_iff.1 hTk3).1
        have HZ4 := hide (HZ3.out.kept (belowA w3 (.cells #[.int .i64 (dtAt (gT false t) (St.off E.G (st.put E.G [40]))).k, .int .i64 (dtAt (gT false t) (St.off E.G (st.put E.G [40]))).n, .string (dtAt (gT false t) (St.off E.G (st.put E.G [40]))).s, .int .i64 (dtAt (gT false t) (St.off E.G (st.put E.G [40]))).off] 73)))
        have hTk4 : (w3.alloc (.cells #[.int .i64 (dtAt (gT false t) (St.off E.G (st.put E.G [40]))).k, .int .i64 (dtAt (gT false t) (St.off E.G (st.put E.G [40]))).n, .string (dtAt (gT false t) (St.off E.G (st.put E.G [40]))).s, .int .i64 (dtAt (gT false t) (St.off E.G (st.put E.G [40]))).off] 73)).heap[bt]? = some (.cells #[.int .i64 t.k, .int .i64 t.n] 70 (0, 0)) := by rw [(belowA w3 (.cells #[.int .i64 (dtAt (gT false t) (St.off E.G (st.put E.G [40]))).k, .int .i64 (dtAt (gT false t) (St.off E.G (st.put E.G [40]))).n, .string (dtAt (gT false t) (St.off E.G (st.put E.G [40]))).s, .int .i64 (dtAt (gT false t) (St.off E.G (st.put E.G [40]))).off] 73)).block _ hlt3]; exact hTk3
        have HS3 := HSof.out w3 HZ3.out.q7 hTk3
        unfold Trm.val
        refine hK.out _ _ HS3 (fun _ => ?_)
        clear hK K HS1 hm3 ho3
        try simp only [Act.put, List.setIfInBounds_toArray, List.set_cons_zero, List.set_cons_succ]
        refine wpAnyM_one (i := 5) (by kernel_rfl) rfl (fun K hK => ?_)
        go_simp
        have HS4 := HSof.out _ HZ4.out.q7 hTk4
        refine hK.out _ _ HS4 (fun _ => ?_)
        clear hK K HS3
        refine wpAnyM_one (i := 6) (by kernel_rfl) rfl (fun K hK => ?_)
        obtain ⟨i0, hi0', hz0, hz1, hz2⟩ := info_parts Tryd.infoTerm
        refine step_push (w0 := w3.alloc (.cells #[.int .i64 (dtAt (gT false t) (St.off E.G (st.put E.G [40]))).k, .int .i64 (dtAt (gT false t) (St.off E.G (st.put E.G [40]))).n, .string (dtAt (gT false t) (St.off E.G (st.put E.G [40]))).s, .int .i64 (dtAt (gT false t) (St.off E.G (st.put E.G [40]))).off] 73)) elTrm (by rfl) _ _ _ (by rfl) (b7 + 1) 73 i0 _ 40 Tryd.underlying30 hi0' hz0 hz1 hz2 rfl (by decide) (.slice va j vc) acc j HLn.out (by rfl) HZ4.out.gr (dtAt (gT false t) (St.off E.G (st.put E.G [40]))) w3.heap.size 1 (by rfl) (fun j u hu => new_cells (cs := #[.int .i64 (dtAt (gT false t) (St.off E.G (st.put E.G [40]))).k, .int .i64 (dtAt (gT false t) (St.off E.G (st.put E.G [40]))).n, .string (dtAt (gT false t) (St.off E.G (st.put E.G [40]))).s, .int .i64 (dtAt (gT false t) (St.off E.G (st.put E.G [40]))).off]) j u hu) (dtAt_ok (by rw [gT_n]; exact HOk.out) (by have h1 := HZ.out.ms.2; have h2 := gl_le (G := E.G) (st.put E.G [40]).k; have h3 : (st.put E.G [40]).k = st.k + 1 := rfl; unfold St.off; omega)) (by omega) (Below.refl _ _) HZ4.out.hi ?_
        intro g cap' w5 HG5 HB5 HGr
        clear HB5 hi0' hz0 hz1 hz2 i0
        have hb5 := HZ4.out.far HGr.out
        have hTk5 : w5.heap[bt]? = some (.cells #[.int .i64 t.k, .int .i64 t.n] 70 (0, 0)) := by rw [HGr.out.block bt (Array.getElem?_eq_some_iff.1 hTk4).1 (fun e => by have := hob _ e.symm; omega)]; exact hTk4
        have HS5 := HSof.out w5 hb5 hTk5
        have HZ5 := hide (HZ4.out.push HGr.out HG5.out)
        refine hK.out _ _ HS5 (fun _ => ?_)
        clear hK K HS4 HSof HZ4 HZ3 HGr HG5
        have c5 : w5.cell? ⟨b7, 1, none⟩ = some (.slice va j vc) := by simp [World.cell?, hb5]
        have z5 : w5.frozen? ⟨b7, 1, none⟩ = false := by simp [World.frozen?, hb5]
        clear hb5 hTk5 hTk4 hTk3 hTk hlt3
        try simp only [Act.put, List.setIfInBounds_toArray, List.set_cons_zero, List.set_cons_succ]
        refine wpAnyM_take (i := 7) (v := ?_) rfl (by kernel_rfl) (by kernel_rfl) (by kernel_rfl) (by kernel_rfl) (fun _ _ _ h => h) HS5 (Or.inl ⟨by rfl, ?_⟩) ?_
        rotate_left
        · (intro w hSw; (try dsimp only at hSw); go_simp; try with_reducible rfl)
        simp only [Act.put, List.setIfInBounds_toArray, List.set_cons_zero, List.set_cons_succ]
        clear HS5
        refine wpAnyM_end (by kernel_rfl) rfl (by kernel_rfl) (fun K hK => ?_)
        go_simp
        refine hK.out _ _ ?_
        clear hK K
        go_wp2
        go_roundw
        case rel =>
          refine ⟨j + 1, (st.put E.G [40]).put E.G (tmS (gT false t)), acc ++ [dtAt (gT false t) (St.off E.G (st.put E.G [40]))], some ⟨g, 0, none⟩, cap', by omega, by go_num, ?_, ?_, ?_, HZ5⟩
          · show st.k + 1 + 1 = _; omega
          · show List.length _ = _; rw [List.length_append, HLn.out]; rfl
          · show argsS E.G _ _ = _
            rw [HSn.out, argsS_snoc, HQ.out]
            unfold argS
            simp only
            rw [if_pos (List.length_eq_zero_iff.1 (HLn.out.trans HJ0.out))]
        case measure => simp [intOf]; omega
      · have ej : ((j : Int) == 0) = false := by simp; omega
        have HJ0 := hide hj0
        clear hj0
        go_upto_region 12 with (go_at_call 9; refine (HP.out _ _ HA.out.ms (by omega) _ (by decide)).mono ?_; rintro e w4 ⟨rfl, hm4, ho4⟩; have HA4 := hide (HA.out.move ho4 hm4); clear hm4 ho4; obtain ⟨a0, a1⟩ := a_cells HA4.out.q4; have y0 := kept_cell HA4.out.ms.1.bel c0; have y1 := kept_cell HA4.out.ms.1.bel c1)
        obtain ⟨Z, hZ⟩ : ∃ Z, Z = w4.alloc (.cells #[.int .i64 t.k, .int .i64 t.n] 70) := ⟨_, rfl⟩
        have hTk : Z.heap[w4.heap.size]? = some (.cells #[.int .i64 t.k, .int .i64 t.n] 70 (0, 0)) := by rw [hZ]; exact heap_alloc_new w4 _
        have HZ := hide (HA4.out.kept (belowA w4 (.cells #[.int .i64 t.k, .int .i64 t.n] 70)))
        rw [← hZ] at HZ
        have hob : ∀ k, (Value.slice va j vc).ownBlock = some k → k < w4.heap.size := own_lt6 HA4.out.gr.1
        have hb4 : b7 + 1 ≤ w4.heap.size := HA4.out.hi
        rw [← hZ]
        clear hZ HA HA4 y0 y1 a0 a1
        generalize w4.heap.size = bt at *
        clear w4
        have HSof : Hid (∀ V : World, V.heap[b7]? = some (.cells #[.string ⟨(nm a.p).toArray⟩, .slice va j vc, .int .i64 (s.off E.G : Int)] 32 (0, 0)) → V.heap[bt]? = some (.cells #[.int .i64 t.k, .int .i64 t.n] 70 (0, 0)) → V.cell? ⟨b7, 1, none⟩ = some (.slice va j vc) ∧ V.cell? ⟨bt, 0, none⟩ = some (.int .i64 t.k) ∧ V.cell? ⟨bt, 1, none⟩ = some (.int .i64 t.n)) := fun V h1 h2 => ⟨by simp [World.cell?, h1], (t_cells h2).1, (t_cells h2).2.1⟩
        refine wp_region_last (by kernel_rfl) (fun V => V.cell? ⟨b7, 1, none⟩ = some (.slice va j vc) ∧ V.cell? ⟨bt, 0, none⟩ = some (.int .i64 t.k) ∧ V.cell? ⟨bt, 1, none⟩ = some (.int .i64 t.n)) 8 ?_
        have HS1 := HSof.out Z.drew HZ.out.drew.q7 hTk
        refine wpAnyM_take (i := 0) (v := ?_) rfl (by kernel_rfl) (by kernel_rfl) (by kernel_rfl) (by kernel_rfl) (fun _ _ _ h => h) HS1 (Or.inl ⟨by rfl, ?_⟩) ?_
        rotate_left
        · (intro w hSw; (try dsimp only at hSw); go_simp; try with_reducible rfl)
        simp only [Act.put, List.setIfInBounds_toArray, List.set_cons_zero, List.set_cons_succ]
        refine wpAnyM_take (i := 1) (v := ?_) rfl (by kernel_rfl) (by kernel_rfl) (by kernel_rfl) (by kernel_rfl) (fun _ _ _ h => h) HS1 (Or.inl ⟨by rfl, ?_⟩) ?_
        rotate_left
        · (intro w hSw; (try dsimp only at hSw); go_simp; try with_reducible rfl)
        simp only [Act.put, List.setIfInBounds_toArray, List.set_cons_zero, List.set_cons_succ]
        refine wpAnyM_take (i := 2) (v := ?_) rfl (by kernel_rfl) (by kernel_rfl) (by kernel_rfl) (by kernel_rfl) (fun _ _ _ h => h) HS1 (Or.inl ⟨by rfl, ?_⟩) ?_
        rotate_left
        · (intro w hSw; (try dsimp only at hSw); go_simp; try with_reducible rfl)
        simp only [Act.put, List.setIfInBounds_toArray, List.set_cons_zero, List.set_cons_succ]
        refine wpAnyM_take (i := 3) (v := ?_) rfl (by kernel_rfl) (by kernel_rfl) (by kernel_rfl) (by kernel_rfl) (fun _ _ _ h => h) HS1 (Or.inl ⟨by rfl, ?_⟩) ?_
        rotate_left
        · (intro w hSw; (try dsimp only at hSw); go_simp; try with_reducible rfl)
        simp only [Act.put, List.setIfInBounds_toArray, List.set_cons_zero, List.set_cons_succ]
        refine wpAnyM_one (i := 4) (by kernel_rfl) rfl (fun K hK => ?_)
        go_simp
        refine (HT.out _ _ HZ.out.drew.ms (by show st.k + 1 < _; omega) (gT false t) (by rw [gT_n]; exact HOk.out)).mono ?_
        rintro e w3 ⟨rfl, hm3, ho3⟩
        have HZ3 := hide (HZ.out.drew.move ho3 hm3)
        have hpb : bt ≠ p := by have h1 := HZ.out.pl; have h2 := HZ.out.lo; omega
        have hTk3 : w3.heap[bt]? = some (.cells #[.int .i64 t.k, .int .i64 t.n] 70 (0, 0)) := by rw [ho3.block bt (Array.getElem?_eq_some_iff.1 hTk).1 hpb]; exact hTk
        have hlt3 := (Array.getElem?_eq_some_iff.1 hTk3).1
        have HZ4 := hide (HZ3.out.kept (belowA w3 (.cells #[.int .i64 (dtAt (gT false t) (St.off E.G (st.put E.G [44]))).k, .int .i64 (dtAt (gT false t) (St.off E.G (st.put E.G [44]))).n, .string (dtAt (gT false t) (St.off E.G (st.put E.G [44]))).s, .int .i64 (dtAt (gT false t) (St.off E.G (st.put E.G [44]))).off] 73)))
        have hTk4 : (w3.alloc (.cells #[.int .i64 (dtAt (gT false t) (St.off E.G (st.put E.G [44]))).k, .int .i64 (dtAt (gT false t) (St.off E.G (st.put E.G [44]))).n, .string (dtAt (gT false t) (St.off E.G (st.put E.G [44]))).s, .int .i64 (dtAt (gT false t) (St.off E.G (st.put E.G [44]))).off] 73)).heap[bt]? = some (.cells #[.int .i64 t.k, .int .i64 t.n] 70 (0, 0)) := by rw [(belowA w3 (.cells #[.int .i64 (dtAt (gT false t) (St.off E.G (st.put E.G [44]))).k, .int .i64 (dtAt (gT false t) (St.off E.G (st.put E.G [44]))).n, .string (dtAt (gT false t) (St.off E.G (st.put E.G [44]))).s, .int .i64 (dtAt (gT false t) (St.off E.G (st.put E.G [44]))).off] 73)).block _ hlt3]; exact hTk3
        have HS3 := HSof.out w3 HZ3.out.q7 hTk3
        unfold Trm.val
        refine hK.out _ _ HS3 (fun _ => ?_)
        clear hK K HS1 hm3 ho3
        try simp only [Act.put, List.setIfInBounds_toArray, List.set_cons_zero, List.set_cons_succ]
        refine wpAnyM_one (i := 5) (by kernel_rfl) rfl (fun K hK => ?_)
        go_simp
        have HS4 := HSof.out _ HZ4.out.q7 hTk4
        refine hK.out _ _ HS4 (fun _ => ?_)
        clear hK K HS3
        refine wpAnyM_one (i := 6) (by kernel_rfl) rfl (fun K hK => ?_)
        obtain ⟨i0, hi0', hz0, hz1, hz2⟩ := info_parts Tryd.infoTerm
        refine step_push (w0 := w3.alloc (.cells #[.int .i64 (dtAt (gT false t) (St.off E.G (st.put E.G [44]))).k, .int .i64 (dtAt (gT false t) (St.off E.G (st.put E.G [44]))).n, .string (dtAt (gT false t) (St.off E.G (st.put E.G [44]))).s, .int .i64 (dtAt (gT false t) (St.off E.G (st.put E.G [44]))).off] 73)) elTrm (by rfl) _ _ _ (by rfl) (b7 + 1) 73 i0 _ 40 Tryd.underlying30 hi0' hz0 hz1 hz2 rfl (by decide) (.slice va j vc) acc j HLn.out (by rfl) HZ4.out.gr (dtAt (gT false t) (St.off E.G (st.put E.G [44]))) w3.heap.size 1 (by rfl) (fun j u hu => new_cells (cs := #[.int .i64 (dtAt (gT false t) (St.off E.G (st.put E.G [44]))).k, .int .i64 (dtAt (gT false t) (St.off E.G (st.put E.G [44]))).n, .string (dtAt (gT false t) (St.off E.G (st.put E.G [44]))).s, .int .i64 (dtAt (gT false t) (St.off E.G (st.put E.G [44]))).off]) j u hu) (dtAt_ok (by rw [gT_n]; exact HOk.out) (by have h1 := HZ.out.ms.2; have h2 := gl_le (G := E.G) (st.put E.G [44]).k; have h3 : (st.put E.G [44]).k = st.k + 1 := rfl; unfold St.off; omega)) (by omega) (Below.refl _ _) HZ4.out.hi ?_
        intro g cap' w5 HG5 HB5 HGr
        clear HB5 hi0' hz0 hz1 hz2 i0
        have hb5 := HZ4.out.far HGr.out
        have hTk5 : w5.heap[bt]? = some (.cells #[.int .i64 t.k, .int .i64 t.n] 70 (0, 0)) := by rw [HGr.out.block bt (Array.getElem?_eq_some_iff.1 hTk4).1 (fun e => by have := hob _ e.symm; omega)]; exact hTk4
        have HS5 := HSof.out w5 hb5 hTk5
        have HZ5 := hide (HZ4.out.push HGr.out HG5.out)
        refine hK.out _ _ HS5 (fun _ => ?_)
        clear hK K HS4 HSof HZ4 HZ3 HGr HG5
        have c5 : w5.cell? ⟨b7, 1, none⟩ = some (.slice va j vc) := by simp [World.cell?, hb5]
        have z5 : w5.frozen? ⟨b7, 1, none⟩ = false := by simp [World.frozen?, hb5]
        clear hb5 hTk5 hTk4 hTk3 hTk hlt3
        try simp only [Act.put, List.setIfInBounds_toArray, List.set_cons_zero, List.set_cons_succ]
        refine wpAnyM_take (i := 7) (v := ?_) rfl (by kernel_rfl) (by kernel_rfl) (by kernel_rfl) (by kernel_rfl) (fun _ _ _ h => h) HS5 (Or.inl ⟨by rfl, ?_⟩) ?_
        rotate_left
        · (intro w hSw; (try dsimp only at hSw); go_simp; try with_reducible rfl)
        simp only [Act.put, List.setIfInBounds_toArray, List.set_cons_zero, List.set_cons_succ]
        clear HS5
        refine wpAnyM_end (by kernel_rfl) rfl (by kernel_rfl) (fun K hK => ?_)
        go_simp
        refine hK.out _ _ ?_
        clear hK K
        go_wp2
        go_roundw
        case rel =>
          refine ⟨j + 1, (st.put E.G [44]).put E.G (tmS (gT false t)), acc ++ [dtAt (gT false t) (St.off E.G (st.put E.G [44]))], some ⟨g, 0, none⟩, cap', by omega, by go_num, ?_, ?_, ?_, HZ5⟩
          · show st.k + 1 + 1 = _; omega
          · show List.length _ = _; rw [List.length_append, HLn.out]; rfl
          · show argsS E.G _ _ = _
            rw [HSn.out, argsS_snoc, HQ.out]
            unfold argS
            simp only
            rw [if_neg (fun e => by have h1 := HLn.out; have h2 := HJ0.out; rw [e, List.length_nil] at h1; omega)]
        case measure => simp [intOf]; omega
    · obtain rfl : j = a.ts.length := by omega
      rw [List.take_of_length_le (Nat.le_refl _)] at HQ
      obtain ⟨hq1, hq2, hq3⟩ := HPost.out acc st (.bool true) HQ.out
      have HQ1 := hide hq1
      obtain ⟨m0, m1, m2, -, -, -⟩ := box3_cells HA.out.q7
      obtain ⟨k0, k1, k2, l0, l1, l2⟩ := box3_cells HA.out.q6
      have hend : ¬ ((a.ts.length : Int) < (len : Int)) ∨ ((a.ts.length : Int) < (len : Int) ∧ ¬ (a.ts.length : Int) < 8) := by omega
      have hl9 : a.ts.length ≤ 8 := by omega
      by_cases h0 : a.ts = []
      · have HQ2 := hide (hq2 h0)
        have e0 : ¬ (0 : Int) < (a.ts.length : Int) := by rw [h0]; simp
        have e1 : a.ts.length = 0 := by rw [h0]; rfl
        have hi : ¬ ((a.ts.length : Int) < (len : Int)) := by omega
        clear e1
        clear h0 hend
        have HFin := hide (HA.out.fin (by rw [HLn.out]; omega) (by rw [arr_size]; have := HNl.out; omega) HOff.out)
        clear hq1 hq2 hq3 hn HR hr HPost
        · go_wp2
          exact bodyPost_ret (atomMRes _ (w.heap.size + 1) _ _ _ _ rfl HFin.out.1) rfl ⟨⟨⟨(nm a.p).toArray⟩, .slice va a.ts.length vc, (s.off E.G : Int), acc⟩, rfl, HQ1.out, HFin.out.2.2.2, by rw [HQ2.out]; exact HFin.out.2.1, HFin.out.2.2.1⟩
      · have HQ2 := hide (hq3 h0)
        have e0 : (0 : Int) < (a.ts.length : Int) := by have := List.length_pos_iff.2 h0; omega
        clear h0
        clear hq1 hq2 hq3 hn HR hr HPost
        rcases hend with hi | ⟨hi, hi8⟩ <;>
        · go_wp2_with (go_at_call 9; refine (HP.out _ _ HA.out.ms (by omega) _ (by decide)).mono ?_; rintro e w4 ⟨rfl, hm4, ho4⟩; have HA4 := hide (HA.out.move ho4 hm4); clear hm4 ho4; obtain ⟨q0, q1, q2, -, -, -⟩ := box3_cells HA4.out.q7; obtain ⟨r0, r1, r2, s0, s1, s2⟩ := box3_cells HA4.out.q6; have HFin := hide (HA4.out.fin (by rw [HLn.out]; omega) (by rw [arr_size]; have := HNl.out; omega) HOff.out))
          exact bodyPost_ret (atomMRes _ (w.heap.size + 1) _ _ _ _ rfl HFin.out.1) rfl ⟨⟨⟨(nm a.p).toArray⟩, .slice va a.ts.length vc, (s.off E.G : Int), acc⟩, rfl, HQ1.out, HFin.out.2.2.2, by rw [HQ2.out]; exact HFin.out.2.1, HFin.out.2.2.1⟩

set_option maxRecDepth 100000 in
set_option maxHeartbeats 8000000 in
theorem atom_true {E : MkEnv} (hE : E.ok) {w : World} {p : Nat} {s : St} (h : MkS E w p s) (hk : s.k < 900000) (a : DA) {ao : Option Addr} {len : Nat} (cap : Nat) (hr : RowT E.w0 ao len a.ts) (hP : Puts E p) (hT : Terms E p) :
    Calls Tryd.prog 6 #[.pointer (some ⟨p, 0, none⟩), .agg #[.int .i64 a.p, .slice ao len cap], .bool true] w fun e w' => ∃ x : Atx, e = .returned x.val ∧ x.pur = (atomS E.G s (gA true a)).2 ∧ elAtx.ok w' (fun b => w.heap.size ≤ b) x ∧ MkS E w' p (atomS E.G s (gA true a)).1 ∧ Only (fun j => j = p) w w' := by
  have hp := h.lt
  have HF : Hid (∀ W : World, ItoaOk W → Calls Tryd.prog 18 #[.int .i64 a.p] W fun e w' => e = .returned (.string ⟨(nm a.p).toArray⟩) ∧ Below W.heap.size W w') := fun W hI => nameOf_any a.p W hI
  have HP := hide hP
  have HT := hide hT
  have HS := hide (h.kept (below2a w (.cells #[.int .i64 a.p, .slice ao len cap] 36) (.cells #[.string ⟨#[]⟩, .slice none 0 0, .int .i64 0] 32)))
  have HB := hide (TwoBox.start hp (.cells #[.int .i64 a.p, .slice ao len cap] 36) (.cells #[.string ⟨#[]⟩, .slice none 0 0, .int .i64 0] 32))
  have HI := hide (fun (W : World) (q : St) (hq : MkS E W p q) => hq.1.itoa hE)
  have HNl := hide (nm_len a.p)
  have HOff : Hid (I64 (s.off E.G : Int)) := by
    show I64 _
    have h1 := h.2
    have h2 := gl_le (G := E.G) s.k
    unfold St.off I64
    omega
  have HR := hide hr
  have HPost : Hid (∀ (acc : List Trm) (st : St) (v : Value), argsS E.G (s.put E.G (nm a.p)) (a.ts.map (gT true)) = (st, acc) → (⟨⟨(nm a.p).toArray⟩, acc, (s.off E.G : Int)⟩ : PAtom) = (atomS E.G s (gA true a)).2 ∧ (a.ts = [] → (atomS E.G s (gA true a)).1 = st) ∧ (a.ts ≠ [] → (atomS E.G s (gA true a)).1 = st.put E.G [41])) := fun acc st v hq => by
    unfold atomS gA
    simp only
    rw [hq]
    refine ⟨rfl, fun h0 => ?_, fun h0 => ?_⟩
    · rw [if_pos (by rw [h0]; rfl)]
      rw [h0] at hq
      exact congrArg Prod.fst hq
    · rw [if_neg (by simpa using h0)]
  clear h hE hP hT
  go_enter Tryd.func6, Tryd.ntmps6
  go_upto_region 3 with (first
    | (go_at_call 18; refine (HF.out _ (HI.out _ _ HS.out)).mono ?_; rintro e w3 ⟨rfl, hb3⟩; have HS3 := hide ((HS.out.kept hb3).kept (belowA w3 (.cells #[.string ⟨(nm a.p).toArray⟩, .slice none 0 0, .int .i64 0] 32))); have HB3 := hide ((HB.out.below hb3).below (belowA w3 (.cells #[.string ⟨(nm a.p).toArray⟩, .slice none 0 0, .int .i64 0] 32))); have HL3 : Hid (w.heap.size + 2 ≤ w3.heap.size) := (HB.out.below hb3).lt; clear hb3)
    | (go_at_call 9; refine (HP.out _ _ HS3.out (by omega) _ HNl.out).mono ?_; rintro e w4 ⟨rfl, hm4, ho4⟩; have HM4 := hide hm4; have HB4 := hide (HB3.out.move ho4); have HL4 := HL3.out; have HN4 : Hid (w4.heap[w3.heap.size]? = some (.cells #[.string ⟨(nm a.p).toArray⟩, .slice none 0 0, .int .i64 0] 32 (0, 0))) := (ho4.block _ (by simp) (by omega)).trans (heap_alloc_new w3 _); clear hm4 ho4; obtain ⟨k0, k1, k2, l0, l1, l2⟩ := box3_cells HN4.out))
  obtain ⟨W0, hW0⟩ : ∃ W0, W0 = w4.setCell ⟨w3.heap.size, 2, none⟩ (.int .i64 (s.off E.G : Int)) := ⟨_, rfl⟩
  have HA0 : Hid (ALoop E w W0 p w3.heap.size (s.put E.G (nm a.p)) a.p ao len cap ⟨(nm a.p).toArray⟩ (s.off E.G : Int) (.slice none 0 0) []) := by rw [hW0]; exact ALoop.start (w3 := w3) HM4.out hp HB4.out HN4.out HL3.out
  rw [← hW0]
  clear hW0 HM4 HB4 HN4 HS3 HB3 HL3 k0 k1 k2 l0 l1 l2 HS HB HI HF HL4
  generalize w3.heap.size = b7 at *
  clear w3 w4
  go_wp2
  go_loopw [8] (fun i wl => ∃ (j : Nat) (st : St) (acc : List Trm) (va : Option Addr) (vc : Nat), j ≤ a.ts.length ∧ i = .int .i64 j ∧ st.k = s.k + 1 + 2 * j ∧ Hid (acc.length = j) ∧ Hid (argsS E.G (s.put E.G (nm a.p)) ((a.ts.take j).map (gT true)) = (st, acc)) ∧ Hid (ALoop E w wl p b7 st a.p ao len cap ⟨(nm a.p).toArray⟩ (s.off E.G : Int) (.slice va j vc) acc)) (fun i _ => a.ts.length - (intOf i).toNat)
  case atStart => exact ⟨0, s.put E.G (nm a.p), [], none, 0, by omega, rfl, rfl, rfl, rfl, HA0⟩
  case round =>
    clear HA0
    obtain ⟨j, st, acc, va, vc, hj, rfl, hsk, HLn, HQ, HA⟩ := hrel
    have hn := HR.out.n
    obtain ⟨a0, a1⟩ := a_cells HA.out.q4
    by_cases hlt : j < a.ts.length
    · have hi : (j : Int) < (len : Int) := by omega
      have hi8 : (j : Int) < 8 := by omega
      have hi0 : (0 : Int) ≤ (j : Int) := by omega
      obtain ⟨t, ht⟩ : ∃ t, a.ts[j]? = some t := ⟨_, List.getElem?_eq_getElem hlt⟩
      have HOk := hide (HR.out.ok t (List.mem_of_getElem? ht))
      obtain ⟨b3, o3, hao, hr3⟩ := HR.out.row (by omega)
      obtain ⟨c0, c1⟩ := hr3 j t ht
      have HSn : Hid ((a.ts.take (j + 1)).map (gT true) = (a.ts.take j).map (gT true) ++ [gT true t]) := by show _ = _; rw [List.take_add_one, ht, List.map_append]; rfl
      have HMd := hide (fun W => mod_3 t.k W)
      subst hao
      clear hr3 ht hr HPost HNl HOff HR
      rcases Nat.eq_zero_or_pos j with hj0 | hj0
      · have ej : ((j : Int) == 0) = true := by simp; omega
        have HJ0 := hide hj0
        clear hj0
        go_upto_region 12 with (first
          | (go_at_call 9; refine (HP.out _ _ HA.out.ms (by omega) _ (by decide)).mono ?_; rintro e w4 ⟨rfl, hm4, ho4⟩; have HA4 := hide (HA.out.move ho4 hm4); clear hm4 ho4; obtain ⟨a0, a1⟩ := a_cells HA4.out.q4; have y0 := kept_cell HA4.out.ms.1.bel c0; have y1 := kept_cell HA4.out.ms.1.bel c1)
          | (go_at_call 19; refine (HMd.out _).mono ?_; rintro e w5 ⟨rfl, hw⟩; have hw := hw.symm; subst hw))
        obtain ⟨Z, hZ⟩ : ∃ Z, Z = w4.alloc (.cells #[.int .i64 (modM t.k 3), .int .i64 t.n] 70) := ⟨_, rfl⟩
        have hTk : Z.heap[w4.heap.size]? = some (.cells #[.int .i64 (modM t.k 3), .int .i64 t.n] 70 (0, 0)) := by rw [hZ]; exact heap_alloc_new w4 _
        have HZ := hide (HA4.out.kept (belowA w4 (.cells #[.int .i64 (modM t.k 3), .int .i64 t.n] 70)))
        rw [← hZ] at HZ
        have hob : ∀ k, (Value.slice va j vc).ownBlock = some k → k < w4.heap.size := own_lt6 HA4.out.gr.1
        have hb4 : b7 + 1 ≤ w4.heap.size := HA4.out.hi
        rw [← hZ]
        clear hZ HA HA4 y0 y1 a0 a1
        generalize w4.heap.size = bt at *
        clear w4
        have HSof : Hid (∀ V : World, V.heap[b7]? = some (.cells #[.string ⟨(nm a.p).toArray⟩, .slice va j vc, .int .i64 (s.off E.G : Int)] 32 (0, 0)) → V.heap[bt]? = some (.cells #[.int .i64 (modM t.k 3), .int .i64 t.n] 70 (0, 0)) → V.cell? ⟨b7, 1, none⟩ = some (.slice va j vc) ∧ V.cell? ⟨bt, 0, none⟩ = some (.int .i64 (modM t.k 3)) ∧ V.cell? ⟨bt, 1, none⟩ = some (.int .i64 t.n)) := fun V h1 h2 => ⟨by simp [World.cell?, h1], (t_cells h2).1, (t_cells h2).2.1⟩
        refine wp_region_last (by kernel_rfl) (fun V => V.cell? ⟨b7, 1, none⟩ = some (.slice va j vc) ∧ V.cell? ⟨bt, 0, none⟩ = some (.int .i64 (modM t.k 3)) ∧ V.cell? ⟨bt, 1, none⟩ = some (.int .i64 t.n)) 8 ?_
        have HS1 := HSof.out Z.drew HZ.out.drew.q7 hTk
        refine wpAnyM_take (i := 0) (v := ?_) rfl (by kernel_rfl) (by kernel_rfl) (by kernel_rfl) (by kernel_rfl) (fun _ _ _ h => h) HS1 (Or.inl ⟨by rfl, ?_⟩) ?_
        rotate_left
        · (intro w hSw; (try dsimp only at hSw); go_simp; try with_reducible rfl)
        simp only [Act.put, List.setIfInBounds_toArray, List.set_cons_zero, List.set_cons_succ]
        refine wpAnyM_take (i := 1) (v := ?_) rfl (by kernel_rfl) (by kernel_rfl) (by kernel_rfl) (by kernel_rfl) (fun _ _ _ h => h) HS1 (Or.inl ⟨by rfl, ?_⟩) ?_
        rotate_left
        · (intro w hSw; (try dsimp only at hSw); go_simp; try with_reducible rfl)
        simp only [Act.put, List.setIfInBounds_toArray, List.set_cons_zero, List.set_cons_succ]
        refine wpAnyM_take (i := 2) (v := ?_) rfl (by kernel_rfl) (by kernel_rfl) (by kernel_rfl) (by kernel_rfl) (fun _ _ _ h => h) HS1 (Or.inl ⟨by rfl, ?_⟩) ?_
        rotate_left
        · (intro w hSw; (try dsimp only at hSw); go_simp; try with_reducible rfl)
        simp only [Act.put, List.setIfInBounds_toArray, List.set_cons_zero, List.set_cons_succ]
        refine wpAnyM_take (i := 3) (v := ?_) rfl (by kernel_rfl) (by kernel_rfl) (by kernel_rfl) (by kernel_rfl) (fun _ _ _ h => h) HS1 (Or.inl ⟨by rfl, ?_⟩) ?_
        rotate_left
        · (intro w hSw; (try dsimp only at hSw); go_simp; try with_reducible rfl)
        simp only [Act.put, List.setIfInBounds_toArray, List.set_cons_zero, List.set_cons_succ]
        refine wpAnyM_one (i := 4) (by kernel_rfl) rfl (fun K hK => ?_)
        go_simp
        refine (HT.out _ _ HZ.out.drew.ms (by show st.k + 1 < _; omega) (gT true t) (by rw [gT_n]; exact HOk.out)).mono ?_
        rintro e w3 ⟨rfl, hm3, ho3⟩
        have HZ3 := hide (HZ.out.drew.move ho3 hm3)
        have hpb : bt ≠ p := by have h1 := HZ.out.pl; have h2 := HZ.out.lo; omega
        have hTk3 : w3.heap[bt]? = some (.cells #[.int .i64 (modM t.k 3), .int .i64 t.n] 70 (0, 0)) := by rw [ho3.block bt (Array.getElem?_eq_some_iff.1 hTk).1 hpb]; exact hTk
        have hlt3 := (Array.getElem?_eq_some_iff.1 hTk3).1
        have HZ4 := hide (HZ3.out.kept (belowA w3 (.cells #[.int .i64 (dtAt (gT true t) (St.off E.G (st.put E.G [40]))).k, .int .i64 (dtAt (gT true t) (St.off E.G (st.put E.G [40]))).n, .string (dtAt (gT true t) (St.off E.G (st.put E.G [40]))).s, .int .i64 (dtAt (gT true t) (St.off E.G (st.put E.G [40]))).off] 73)))
        have hTk4 : (w3.alloc (.cells #[.int .i64 (dtAt (gT true t) (St.off E.G (st.put E.G [40]))).k, .int .i64 (dtAt (gT true t) (St.off E.G (st.put E.G [40]))).n, .string (dtAt (gT true t) (St.off E.G (st.put E.G [40]))).s, .int .i64 (dtAt (gT true t) (St.off E.G (st.put E.G [40]))).off] 73)).heap[bt]? = some (.cells #[.int .i64 (modM t.k 3), .int .i64 t.n] 70 (0, 0)) := by rw [(belowA w3 (.cells #[.int .i64 (dtAt (gT true t) (St.off E.G (st.put E.G [40]))).k, .int .i64 (dtAt (gT true t) (St.off E.G (st.put E.G [40]))).n, .string (dtAt (gT true t) (St.off E.G (st.put E.G [40]))).s, .int .i64 (dtAt (gT true t) (St.off E.G (st.put E.G [40]))).off] 73)).block _ hlt3]; exact hTk3
        have HS3 := HSof.out w3 HZ3.out.q7 hTk3
        unfold Trm.val
        refine hK.out _ _ HS3 (fun _ => ?_)
        clear hK K HS1 hm3 ho3
        try simp only [Act.put, List.setIfInBounds_toArray, List.set_cons_zero, List.set_cons_succ]
        refine wpAnyM_one (i := 5) (by kernel_rfl) rfl (fun K hK => ?_)
        go_simp
        have HS4 := HSof.out _ HZ4.out.q7 hTk4
        refine hK.out _ _ HS4 (fun _ => ?_)
        clear hK K HS3
        refine wpAnyM_one (i := 6) (by kernel_rfl) rfl (fun K hK => ?_)
        obtain ⟨i0, hi0', hz0, hz1, hz2⟩ := info_parts Tryd.infoTerm
        refine step_push (w0 := w3.alloc (.cells #[.int .i64 (dtAt (gT true t) (St.off E.G (st.put E.G [40]))).k, .int .i64 (dtAt (gT true t) (St.off E.G (st.put E.G [40]))).n, .string (dtAt (gT true t) (St.off E.G (st.put E.G [40]))).s, .int .i64 (dtAt (gT true t) (St.off E.G (st.put E.G [40]))).off] 73)) elTrm (by rfl) _ _ _ (by rfl) (b7 + 1) 73 i0 _ 40 Tryd.underlying30 hi0' hz0 hz1 hz2 rfl (by decide) (.slice va j vc) acc j HLn.out (by rfl) HZ4.out.gr (dtAt (gT true t) (St.off E.G (st.put E.G [40]))) w3.heap.size 1 (by rfl) (fun j u hu => new_cells (cs := #[.int .i64 (dtAt (gT true t) (St.off E.G (st.put E.G [40]))).k, .int .i64 (dtAt (gT true t) (St.off E.G (st.put E.G [40]))).n, .string (dtAt (gT true t) (St.off E.G (st.put E.G [40]))).s, .int .i64 (dtAt (gT true t) (St.off E.G (st.put E.G [40]))).off]) j u hu) (dtAt_ok (by rw [gT_n]; exact HOk.out) (by have h1 := HZ.out.ms.2; have h2 := gl_le (G := E.G) (st.put E.G [40]).k; have h3 : (st.put E.G [40]).k = st.k + 1 := rfl; unfold St.off; omega)) (by omega) (Below.refl _ _) HZ4.out.hi ?_
        intro g cap' w5 HG5 HB5 HGr
        clear HB5 hi0' hz0 hz1 hz2 i0
        have hb5 := HZ4.out.far HGr.out
        have hTk5 : w5.heap[bt]? = some (.cells #[.int .i64 (modM t.k 3), .int .i64 t.n] 70 (0, 0)) := by rw [HGr.out.block bt (Array.getElem?_eq_some_iff.1 hTk4).1 (fun e => by have := hob _ e.symm; omega)]; exact hTk4
        have HS5 := HSof.out w5 hb5 hTk5
        have HZ5 := hide (HZ4.out.push HGr.out HG5.out)
        refine hK.out _ _ HS5 (fun _ => ?_)
        clear hK K HS4 HSof HZ4 HZ3 HGr HG5
        have c5 : w5.cell? ⟨b7, 1, none⟩ = some (.slice va j vc) := by simp [World.cell?, hb5]
        have z5 : w5.frozen? ⟨b7, 1, none⟩ = false := by simp [World.frozen?, hb5]
        clear hb5 hTk5 hTk4 hTk3 hTk hlt3
        try simp only [Act.put, List.setIfInBounds_toArray, List.set_cons_zero, List.set_cons_succ]
        refine wpAnyM_take (i := 7) (v := ?_) rfl (by kernel_rfl) (by kernel_rfl) (by kernel_rfl) (by kernel_rfl) (fun _ _ _ h => h) HS5 (Or.inl ⟨by rfl, ?_⟩) ?_
        rotate_left
        · (intro w hSw; (try dsimp only at hSw); go_simp; try with_reducible rfl)
        simp only [Act.put, List.setIfInBounds_toArray, List.set_cons_zero, List.set_cons_succ]
        clear HS5
        refine wpAnyM_end (by kernel_rfl) rfl (by kernel_rfl) (fun K hK => ?_)
        go_simp
        refine hK.out _ _ ?_
        clear hK K
        go_wp2
        go_roundw
        case rel =>
          refine ⟨j + 1, (st.put E.G [40]).put E.G (tmS (gT true t)), acc ++ [dtAt (gT true t) (St.off E.G (st.put E.G [40]))], some ⟨g, 0, none⟩, cap', by omega, by go_num, ?_, ?_, ?_, HZ5⟩
          · show st.k + 1 + 1 = _; omega
          · show List.length _ = _; rw [List.length_append, HLn.out]; rfl
          · show argsS E.G _ _ = _
            rw [HSn.out, argsS_snoc, HQ.out]
            unfold argS
            simp only
            rw [if_pos (List.length_eq_zero_iff.1 (HLn.out.trans HJ0.out))]
        case measure => simp [intOf]; omega
      · have ej : ((j : Int) == 0) = false := by simp; omega
        have HJ0 := hide hj0
        clear hj0
        go_upto_region 12 with (first
          | (go_at_call 9; refine (HP.out _ _ HA.out.ms (by omega) _ (by decide)).mono ?_; rintro e w4 ⟨rfl, hm4, ho4⟩; have HA4 := hide (HA.out.move ho4 hm4); clear hm4 ho4; obtain ⟨a0, a1⟩ := a_cells HA4.out.q4; have y0 := kept_cell HA4.out.ms.1.bel c0; have y1 := kept_cell HA4.out.ms.1.bel c1)
          | (go_at_call 19; refine (HMd.out _).mono ?_; rintro e w5 ⟨rfl, hw⟩; have hw := hw.symm; subst hw))
        obtain ⟨Z, hZ⟩ : ∃ Z, Z = w4.alloc (.cells #[.int .i64 (modM t.k 3), .int .i64 t.n] 70) := ⟨_, rfl⟩
        have hTk : Z.heap[w4.heap.size]? = some (.cells #[.int .i64 (modM t.k 3), .int .i64 t.n] 70 (0, 0)) := by rw [hZ]; exact heap_alloc_new w4 _
        have HZ := hide (HA4.out.kept (belowA w4 (.cells #[.int .i64 (modM t.k 3), .int .i64 t.n] 70)))
        rw [← hZ] at HZ
        have hob : ∀ k, (Value.slice va j vc).ownBlock = some k → k < w4.heap.size := own_lt6 HA4.out.gr.1
        have hb4 : b7 + 1 ≤ w4.heap.size := HA4.out.hi
        rw [← hZ]
        clear hZ HA HA4 y0 y1 a0 a1
        generalize w4.heap.size = bt at *
        clear w4
        have HSof : Hid (∀ V : World, V.heap[b7]? = some (.cells #[.string ⟨(nm a.p).toArray⟩, .slice va j vc, .int .i64 (s.off E.G : Int)] 32 (0, 0)) → V.heap[bt]? = some (.cells #[.int .i64 (modM t.k 3), .int .i64 t.n] 70 (0, 0)) → V.cell? ⟨b7, 1, none⟩ = some (.slice va j vc) ∧ V.cell? ⟨bt, 0, none⟩ = some (.int .i64 (modM t.k 3)) ∧ V.cell? ⟨bt, 1, none⟩ = some (.int .i64 t.n)) := fun V h1 h2 => ⟨by simp [World.cell?, h1], (t_cells h2).1, (t_cells h2).2.1⟩
        refine wp_region_last (by kernel_rfl) (fun V => V.cell? ⟨b7, 1, none⟩ = some (.slice va j vc) ∧ V.cell? ⟨bt, 0, none⟩ = some (.int .i64 (modM t.k 3)) ∧ V.cell? ⟨bt, 1, none⟩ = some (.int .i64 t.n)) 8 ?_
        have HS1 := HSof.out Z.drew HZ.out.drew.q7 hTk
        refine wpAnyM_take (i := 0) (v := ?_) rfl (by kernel_rfl) (by kernel_rfl) (by kernel_rfl) (by kernel_rfl) (fun _ _ _ h => h) HS1 (Or.inl ⟨by rfl, ?_⟩) ?_
        rotate_left
        · (intro w hSw; (try dsimp only at hSw); go_simp; try with_reducible rfl)
        simp only [Act.put, List.setIfInBounds_toArray, List.set_cons_zero, List.set_cons_succ]
        refine wpAnyM_take (i := 1) (v := ?_) rfl (by kernel_rfl) (by kernel_rfl) (by kernel_rfl) (by kernel_rfl) (fun _ _ _ h => h) HS1 (Or.inl ⟨by rfl, ?_⟩) ?_
        rotate_left
        · (intro w hSw; (try dsimp only at hSw); go_simp; try with_reducible rfl)
        simp only [Act.put, List.setIfInBounds_toArray, List.set_cons_zero, List.set_cons_succ]
        refine wpAnyM_take (i := 2) (v := ?_) rfl (by kernel_rfl) (by kernel_rfl) (by kernel_rfl) (by kernel_rfl) (fun _ _ _ h => h) HS1 (Or.inl ⟨by rfl, ?_⟩) ?_
        rotate_left
        · (intro w hSw; (try dsimp only at hSw); go_simp; try with_reducible rfl)
        simp only [Act.put, List.setIfInBounds_toArray, List.set_cons_zero, List.set_cons_succ]
        refine wpAnyM_take (i := 3) (v := ?_) rfl (by kernel_rfl) (by kernel_rfl) (by kernel_rfl) (by kernel_rfl) (fun _ _ _ h => h) HS1 (Or.inl ⟨by rfl, ?_⟩) ?_
        rotate_left
        · (intro w hSw; (try dsimp only at hSw); go_simp; try with_reducible rfl)
        simp only [Act.put, List.setIfInBounds_toArray, List.set_cons_zero, List.set_cons_succ]
        refine wpAnyM_one (i := 4) (by kernel_rfl) rfl (fun K hK => ?_)
        go_simp
        refine (HT.out _ _ HZ.out.drew.ms (by show st.k + 1 < _; omega) (gT true t) (by rw [gT_n]; exact HOk.out)).mono ?_
        rintro e w3 ⟨rfl, hm3, ho3⟩
        have HZ3 := hide (HZ.out.drew.move ho3 hm3)
        have hpb : bt ≠ p := by have h1 := HZ.out.pl; have h2 := HZ.out.lo; omega
        have hTk3 : w3.heap[bt]? = some (.cells #[.int .i64 (modM t.k 3), .int .i64 t.n] 70 (0, 0)) := by rw [ho3.block bt (Array.getElem?_eq_some_iff.1 hTk).1 hpb]; exact hTk
        have hlt3 := (Array.getElem?_eq_some_iff.1 hTk3).1
        have HZ4 := hide (HZ3.out.kept (belowA w3 (.cells #[.int .i64 (dtAt (gT true t) (St.off E.G (st.put E.G [44]))).k, .int .i64 (dtAt (gT true t) (St.off E.G (st.put E.G [44]))).n, .string (dtAt (gT true t) (St.off E.G (st.put E.G [44]))).s, .int .i64 (dtAt (gT true t) (St.off E.G (st.put E.G [44]))).off] 73)))
        have hTk4 : (w3.alloc (.cells #[.int .i64 (dtAt (gT true t) (St.off E.G (st.put E.G [44]))).k, .int .i64 (dtAt (gT true t) (St.off E.G (st.put E.G [44]))).n, .string (dtAt (gT true t) (St.off E.G (st.put E.G [44]))).s, .int .i64 (dtAt (gT true t) (St.off E.G (st.put E.G [44]))).off] 73)).heap[bt]? = some (.cells #[.int .i64 (modM t.k 3), .int .i64 t.n] 70 (0, 0)) := by rw [(belowA w3 (.cells #[.int .i64 (dtAt (gT true t) (St.off E.G (st.put E.G [44]))).k, .int .i64 (dtAt (gT true t) (St.off E.G (st.put E.G [44]))).n, .string (dtAt (gT true t) (St.off E.G (st.put E.G [44]))).s, .int .i64 (dtAt (gT true t) (St.off E.G (st.put E.G [44]))).off] 73)).block _ hlt3]; exact hTk3
        have HS3 := HSof.out w3 HZ3.out.q7 hTk3
        unfold Trm.val
        refine hK.out _ _ HS3 (fun _ => ?_)
        clear hK K HS1 hm3 ho3
        try simp only [Act.put, List.setIfInBounds_toArray, List.set_cons_zero, List.set_cons_succ]
        refine wpAnyM_one (i := 5) (by kernel_rfl) rfl (fun K hK => ?_)
        go_simp
        have HS4 := HSof.out _ HZ4.out.q7 hTk4
        refine hK.out _ _ HS4 (fun _ => ?_)
        clear hK K HS3
        refine wpAnyM_one (i := 6) (by kernel_rfl) rfl (fun K hK => ?_)
        obtain ⟨i0, hi0', hz0, hz1, hz2⟩ := info_parts Tryd.infoTerm
        refine step_push (w0 := w3.alloc (.cells #[.int .i64 (dtAt (gT true t) (St.off E.G (st.put E.G [44]))).k, .int .i64 (dtAt (gT true t) (St.off E.G (st.put E.G [44]))).n, .string (dtAt (gT true t) (St.off E.G (st.put E.G [44]))).s, .int .i64 (dtAt (gT true t) (St.off E.G (st.put E.G [44]))).off] 73)) elTrm (by rfl) _ _ _ (by rfl) (b7 + 1) 73 i0 _ 40 Tryd.underlying30 hi0' hz0 hz1 hz2 rfl (by decide) (.slice va j vc) acc j HLn.out (by rfl) HZ4.out.gr (dtAt (gT true t) (St.off E.G (st.put E.G [44]))) w3.heap.size 1 (by rfl) (fun j u hu => new_cells (cs := #[.int .i64 (dtAt (gT true t) (St.off E.G (st.put E.G [44]))).k, .int .i64 (dtAt (gT true t) (St.off E.G (st.put E.G [44]))).n, .string (dtAt (gT true t) (St.off E.G (st.put E.G [44]))).s, .int .i64 (dtAt (gT true t) (St.off E.G (st.put E.G [44]))).off]) j u hu) (dtAt_ok (by rw [gT_n]; exact HOk.out) (by have h1 := HZ.out.ms.2; have h2 := gl_le (G := E.G) (st.put E.G [44]).k; have h3 : (st.put E.G [44]).k = st.k + 1 := rfl; unfold St.off; omega)) (by omega) (Below.refl _ _) HZ4.out.hi ?_
        intro g cap' w5 HG5 HB5 HGr
        clear HB5 hi0' hz0 hz1 hz2 i0
        have hb5 := HZ4.out.far HGr.out
        have hTk5 : w5.heap[bt]? = some (.cells #[.int .i64 (modM t.k 3), .int .i64 t.n] 70 (0, 0)) := by rw [HGr.out.block bt (Array.getElem?_eq_some_iff.1 hTk4).1 (fun e => by have := hob _ e.symm; omega)]; exact hTk4
        have HS5 := HSof.out w5 hb5 hTk5
        have HZ5 := hide (HZ4.out.push HGr.out HG5.out)
        refine hK.out _ _ HS5 (fun _ => ?_)
        clear hK K HS4 HSof HZ4 HZ3 HGr HG5
        have c5 : w5.cell? ⟨b7, 1, none⟩ = some (.slice va j vc) := by simp [World.cell?, hb5]
        have z5 : w5.frozen? ⟨b7, 1, none⟩ = false := by simp [World.frozen?, hb5]
        clear hb5 hTk5 hTk4 hTk3 hTk hlt3
        try simp only [Act.put, List.setIfInBounds_toArray, List.set_cons_zero, List.set_cons_succ]
        refine wpAnyM_take (i := 7) (v := ?_) rfl (by kernel_rfl) (by kernel_rfl) (by kernel_rfl) (by kernel_rfl) (fun _ _ _ h => h) HS5 (Or.inl ⟨by rfl, ?_⟩) ?_
        rotate_left
        · (intro w hSw; (try dsimp only at hSw); go_simp; try with_reducible rfl)
        simp only [Act.put, List.setIfInBounds_toArray, List.set_cons_zero, List.set_cons_succ]
        clear HS5
        refine wpAnyM_end (by kernel_rfl) rfl (by kernel_rfl) (fun K hK => ?_)
        go_simp
        refine hK.out _ _ ?_
        clear hK K
        go_wp2
        go_roundw
        case rel =>
          refine ⟨j + 1, (st.put E.G [44]).put E.G (tmS (gT true t)), acc ++ [dtAt (gT true t) (St.off E.G (st.put E.G [44]))], some ⟨g, 0, none⟩, cap', by omega, by go_num, ?_, ?_, ?_, HZ5⟩
          · show st.k + 1 + 1 = _; omega
          · show List.length _ = _; rw [List.length_append, HLn.out]; rfl
          · show argsS E.G _ _ = _
            rw [HSn.out, argsS_snoc, HQ.out]
            unfold argS
            simp only
            rw [if_neg (fun e => by have h1 := HLn.out; have h2 := HJ0.out; rw [e, List.length_nil] at h1; omega)]
        case measure => simp [intOf]; omega
    · obtain rfl : j = a.ts.length := by omega
      rw [List.take_of_length_le (Nat.le_refl _)] at HQ
      obtain ⟨hq1, hq2, hq3⟩ := HPost.out acc st (.bool true) HQ.out
      have HQ1 := hide hq1
      obtain ⟨m0, m1, m2, -, -, -⟩ := box3_cells HA.out.q7
      obtain ⟨k0, k1, k2, l0, l1, l2⟩ := box3_cells HA.out.q6
      have hend : ¬ ((a.ts.length : Int) < (len : Int)) ∨ ((a.ts.length : Int) < (len : Int) ∧ ¬ (a.ts.length : Int) < 8) := by omega
      have hl9 : a.ts.length ≤ 8 := by omega
      by_cases h0 : a.ts = []
      · have HQ2 := hide (hq2 h0)
        have e0 : ¬ (0 : Int) < (a.ts.length : Int) := by rw [h0]; simp
        have e1 : a.ts.length = 0 := by rw [h0]; rfl
        have hi : ¬ ((a.ts.length : Int) < (len : Int)) := by omega
        clear e1
        clear h0 hend
        have HFin := hide (HA.out.fin (by rw [HLn.out]; omega) (by rw [arr_size]; have := HNl.out; omega) HOff.out)
        clear hq1 hq2 hq3 hn HR hr HPost
        · go_wp2
          exact bodyPost_ret (atomMRes _ (w.heap.size + 1) _ _ _ _ rfl HFin.out.1) rfl ⟨⟨⟨(nm a.p).toArray⟩, .slice va a.ts.length vc, (s.off E.G : Int), acc⟩, rfl, HQ1.out, HFin.out.2.2.2, by rw [HQ2.out]; exact HFin.out.2.1, HFin.out.2.2.1⟩
      · have HQ2 := hide (hq3 h0)
        have e0 : (0 : Int) < (a.ts.length : Int) := by have := List.length_pos_iff.2 h0; omega
        clear h0
        clear hq1 hq2 hq3 hn HR hr HPost
        rcases hend with hi | ⟨hi, hi8⟩ <;>
        · go_wp2_with (go_at_call 9; refine (HP.out _ _ HA.out.ms (by omega) _ (by decide)).mono ?_; rintro e w4 ⟨rfl, hm4, ho4⟩; have HA4 := hide (HA.out.move ho4 hm4); clear hm4 ho4; obtain ⟨q0, q1, q2, -, -, -⟩ := box3_cells HA4.out.q7; obtain ⟨r0, r1, r2, s0, s1, s2⟩ := box3_cells HA4.out.q6; have HFin := hide (HA4.out.fin (by rw [HLn.out]; omega) (by rw [arr_size]; have := HNl.out; omega) HOff.out))
          exact bodyPost_ret (atomMRes _ (w.heap.size + 1) _ _ _ _ rfl HFin.out.1) rfl ⟨⟨⟨(nm a.p).toArray⟩, .slice va a.ts.length vc, (s.off E.G : Int), acc⟩, rfl, HQ1.out, HFin.out.2.2.2, by rw [HQ2.out]; exact HFin.out.2.1, HFin.out.2.2.1⟩

theorem atomM_any {E : MkEnv} (hE : E.ok) {w : World} {p : Nat} {s : St} (h : MkS E w p s) (hk : s.k < 900000) (a : DA) {ao : Option Addr} {len : Nat} (cap : Nat) (hr : RowT E.w0 ao len a.ts) (gr : Bool) :
    Calls Tryd.prog 6 #[.pointer (some ⟨p, 0, none⟩), .agg #[.int .i64 a.p, .slice ao len cap], .bool gr] w fun e w' => ∃ x : Atx, e = .returned x.val ∧ x.pur = (atomS E.G s (gA gr a)).2 ∧ elAtx.ok w' (fun b => w.heap.size ≤ b) x ∧ MkS E w' p (atomS E.G s (gA gr a)).1 ∧ Only (fun j => j = p) w w' := by
  have hP : Puts E p := fun W s h hk tok hl => put_any hE h hk tok hl
  have hT : Terms E p := fun W s h hk t ht => term_any hE h hk t ht
  cases gr with
  | false => exact atom_false hE h hk a cap hr hP hT
  | true => exact atom_true hE h hk a cap hr hP hT
end Go.Proofs.YtilckhdaijfddaaDoor

namespace Go.Proofs.YtilckhdaijfddaaDoor
set_option linter.unusedSimpArgs false
set_option linter.unusedVariables false
open Go.RowKit

theorem litMRes (W : World) (b : Nat) (u0 u1 u2 u3 u4 u5 u6 u7 u8 u9 u10 u11 u12 u13 : Value) (tmps : Array Value) (ht : tmps[4]? = some (.pointer (some ⟨b, 0, none⟩))) (hb : W.heap[b]? = some (.cells #[u0, u1, u2, u3, u4, u5, u6, u7, u8, u9, u10, u11, u12, u13] 86 (0, 0))) :
    (results Tryd.f27 tmps).run Tryd.prog W = .ok (.agg #[u0, u1, u2, u3, u4, u5, u6, u7, u8, u9, u10, u11, u12, u13]) W := by
  obtain ⟨⟨c0, c1, c2, c3, c4, c5, c6, c7, c8, c9, c10, c11, c12, c13⟩, -⟩ := boxL_cells hb
  simp [results, Tryd.results27, go_sem, ht, c0, c1, c2, c3, c4, c5, c6, c7, c8, c9, c10, c11, c12, c13]
theorem l_cells {V : World} {b : Nat} {u0 u1 u2 u3 u4 u5 u6 u7 : Value} (h : V.heap[b]? = some (.cells #[u0, u1, u2, u3, u4, u5, u6, u7] 90 (0, 0))) : V.cell? ⟨b, 0, none⟩ = some u0 ∧ V.cell? ⟨b, 1, none⟩ = some u1 ∧ V.cell? ⟨b, 2, none⟩ = some u2 ∧ V.cell? ⟨b, 3, none⟩ = some u3 ∧ V.cell? ⟨b, 4, none⟩ = some u4 ∧ V.cell? ⟨b, 5, none⟩ = some u5 ∧ V.cell? ⟨b, 6, none⟩ = some u6 ∧ V.cell? ⟨b, 7, none⟩ = some u7 := by
  refine ⟨?_, ?_, ?_, ?_, ?_, ?_, ?_, ?_⟩ <;> simp [World.cell?, h]
def LitMPost (E : MkEnv) (w : World) (p : Nat) (st : St) (z : PLit) (e : Ending) (w' : World) : Prop := ∃ x : Lix, e = .returned x.val ∧ x.pur = z ∧ elLix.ok w' (fun b => w.heap.size ≤ b) x ∧ MkS E w' p st ∧ Only (fun j => j = p) w w'
theorem litm_fin {E : MkEnv} {w W : World} {p : Nat} {st : St} {x y : Obj} (hm : MkS E W p st) (hB : TwoBox w W p x y) (a : Lix) (z : PLit) (hz : a.pur = z) {N : Nat} (hok : elLix.ok W (fun k => N ≤ k) a) (hN : w.heap.size + 2 ≤ N) (x0 x1 x2 x3 x4 x5 x6 x7 x8 x9 x10 x11 x12 x13 : Value) :
    LitMPost E w p st z (.returned a.val) ((((((((((((((W.setCell ⟨w.heap.size + 1, 0, none⟩ x0).setCell ⟨w.heap.size + 1, 1, none⟩ x1).setCell ⟨w.heap.size + 1, 2, none⟩ x2).setCell ⟨w.heap.size + 1, 3, none⟩ x3).setCell ⟨w.heap.size + 1, 4, none⟩ x4).setCell ⟨w.heap.size + 1, 5, none⟩ x5).setCell ⟨w.heap.size + 1, 6, none⟩ x6).setCell ⟨w.heap.size + 1, 7, none⟩ x7).setCell ⟨w.heap.size + 1, 8, none⟩ x8).setCell ⟨w.heap.size + 1, 9, none⟩ x9).setCell ⟨w.heap.size + 1, 10, none⟩ x10).setCell ⟨w.heap.size + 1, 11, none⟩ x11).setCell ⟨w.heap.size + 1, 12, none⟩ x12).setCell ⟨w.heap.size + 1, 13, none⟩ x13) := by
  have ho2 := boxL_only W (w.heap.size + 1) x0 x1 x2 x3 x4 x5 x6 x7 x8 x9 x10 x11 x12 x13
  obtain ⟨q1, q2⟩ := hm.fin hB.pl hB.on ho2 (by omega)
  exact ⟨a, rfl, hz, fin_ok elLix hok ho2 (by omega) (by omega), q1, q2⟩
theorem off_i64 {E : MkEnv} {w : World} {p : Nat} {s : St} (h : MkS E w p s) (hk : s.k < 1000000) : I64 (s.off E.G : Int) := by
  have h1 := h.2
  have h2 := gl_le (G := E.G) s.k
  unfold St.off I64
  omega
theorem off_le {E : MkEnv} {w : World} {p : Nat} {s : St} (h : MkS E w p s) (hk : s.k < 1000000) : s.off E.G ≤ 1000000000 := by
  have h1 := h.2
  have h2 := gl_le (G := E.G) s.k
  unfold St.off
  omega
def Atoms (E : MkEnv) (p : Nat) : Prop := ∀ (W : World) (s : St), MkS E W p s → s.k < 900000 → ∀ (a : DA) (ao : Option Addr) (len cap : Nat), RowT E.w0 ao len a.ts → Calls Tryd.prog 6 #[.pointer (some ⟨p, 0, none⟩), .agg #[.int .i64 a.p, .slice ao len cap], .bool false] W fun e w' => ∃ x : Atx, e = .returned x.val ∧ x.pur = (atomS E.G s a).2 ∧ elAtx.ok w' (fun b => W.heap.size ≤ b) x ∧ MkS E w' p (atomS E.G s a).1 ∧ Only (fun j => j = p) W w'
/-- A blank behind 'not'. -/
theorem sp_mks {E : MkEnv} {W : World} {p : Nat} {s : St} (hs : s.b.length ≤ 128 * s.k) (h : MkS E W p (s.put E.G [110, 111, 116])) : MkS E (W.setCell ⟨p, 0, none⟩ (.string ⟨((s.put E.G [110, 111, 116]).b ++ [32]).toArray⟩)) p (s.put E.G [110, 111, 116]).sp := by
  refine ⟨h.1.text _, ?_⟩
  show ((s.put E.G [110, 111, 116]).b ++ [32]).length ≤ 128 * (s.k + 1)
  have hl := put_len (G := E.G) s [110, 111, 116]
  have hg := gl_le (G := E.G) s.k
  simp only [List.length_cons, List.length_nil] at hl
  rw [List.length_append, hl]
  simp only [List.length_cons, List.length_nil]
  omega

set_option maxRecDepth 100000 in
set_option maxHeartbeats 8000000 in
theorem litM_0 {E : MkEnv} {w : World} {p : Nat} {s : St} (h : MkS E w p s) (hk : s.k < 800000) (l : DL) (hl : I64 l.l.n ∧ I64 l.r.n) {ao : Option Addr} {len : Nat} (cap : Nat) (hr : RowT E.w0 ao len l.a.ts) (hm : modM l.k 3 = 0) (hP : Puts E p) (hT : Terms E p) (hA : Atoms E p) :
    Calls Tryd.prog 27 #[.pointer (some ⟨p, 0, none⟩), .agg #[.int .i64 l.k, .int .i64 l.a.p, .slice ao len cap, .int .i64 l.op, .int .i64 l.l.k, .int .i64 l.l.n, .int .i64 l.r.k, .int .i64 l.r.n]] w fun e w' => ∃ x : Lix, e = .returned x.val ∧ x.pur = (litS E.G s l).2 ∧ elLix.ok w' (fun b => w.heap.size ≤ b) x ∧ MkS E w' p (litS E.G s l).1 ∧ Only (fun j => j = p) w w' := by
  have hp := h.lt
  have HM := hide (fun W => mod_3 l.k W)
  rw [hm] at HM
  have HP := hide hP
  have HS := hide (h.kept (below2a w (.cells #[.int .i64 l.k, .int .i64 l.a.p, .slice ao len cap, .int .i64 l.op, .int .i64 l.l.k, .int .i64 l.l.n, .int .i64 l.r.k, .int .i64 l.r.n] 90) (.cells #[.int .i64 0, .string ⟨#[]⟩, .slice none 0 0, .int .i64 0, .int .i64 0, .int .i64 0, .int .i64 0, .string ⟨#[]⟩, .int .i64 0, .int .i64 0, .int .i64 0, .string ⟨#[]⟩, .int .i64 0, .int .i64 0] 86)))
  have HB := hide (TwoBox.start hp (.cells #[.int .i64 l.k, .int .i64 l.a.p, .slice ao len cap, .int .i64 l.op, .int .i64 l.l.k, .int .i64 l.l.n, .int .i64 l.r.k, .int .i64 l.r.n] 90) (.cells #[.int .i64 0, .string ⟨#[]⟩, .slice none 0 0, .int .i64 0, .int .i64 0, .int .i64 0, .int .i64 0, .string ⟨#[]⟩, .int .i64 0, .int .i64 0, .int .i64 0, .string ⟨#[]⟩, .int .i64 0, .int .i64 0] 86))
  have HAt := hide hA
  have HR := hide hr
  have HOff := hide (off_i64 h (by omega))
  have HEq : Hid (litS E.G s l = ((atomS E.G s l.a).1, ⟨1, (atomS E.G s l.a).2, 0, zeroTrm, zeroTrm, (atomS E.G s l.a).2.off⟩)) := by show _ = _; unfold litS; rw [if_pos hm]
  have hk1 : s.k < 900000 := by omega
  rw [HEq.out]
  show Calls _ _ _ _ (LitMPost E w p _ _)
  clear h hm hP hT hA HEq hr hl
  go_enter Tryd.func27, Tryd.ntmps27
  go_wp2_with (first
    | (go_at_call 19; refine (HM.out _).mono ?_; rintro e w1 ⟨rfl, hw⟩; have hw := hw.symm; subst hw)
    | (go_at_call 6; refine (HAt.out _ _ HS.out (by first | exact hk1 | omega) l.a ao len cap HR.out).mono ?_; intro e w3 hq; obtain ⟨⟨ap, av, aoff, ats⟩, rfl, hpur, hok, hm3, ho3⟩ := hq; obtain ⟨va, vc, rfl, -⟩ := (show Lst elTrm _ _ av ats from hok.2.2).shape; have HM3 := hide (hm3.kept (belowA w3 (.cells #[.string ap, .slice va ats.length vc, .int .i64 aoff] 32))); have HB3 := hide (((HB.out).move ho3).below (belowA w3 (.cells #[.string ap, .slice va ats.length vc, .int .i64 aoff] 32))); have HPu := hide hpur; have HOk := hide (elAtx.move hok (G := fun b => w.heap.size + 2 ≤ b) fun b hb hF => ⟨Nat.le_trans (HB.out).lt hF, (belowA w3 (.cells #[.string ap, .slice va ats.length vc, .int .i64 aoff] 32)).block b hb⟩); clear hm3 ho3 hpur hok; obtain ⟨⟨k0, k1, k2, k3, k4, k5, k6, k7, k8, k9, k10, k11, k12, k13⟩, ⟨l0, l1, l2, l3, l4, l5, l6, l7, l8, l9, l10, l11, l12, l13⟩⟩ := boxL_cells HB3.out.b1; unfold Atx.val))
  refine bodyPost_ret (litMRes _ (w.heap.size + 1) _ _ _ _ _ _ _ _ _ _ _ _ _ _ _ rfl (boxL_put HB3.out.b1 _ _ _ _ _ _ _ _ _ _ _ _ _ _)) rfl ?_
  exact litm_fin HM3.out HB3.out ⟨1, ⟨ap, _, aoff, ats⟩, 0, zeroTrm, zeroTrm, aoff⟩ _ (by unfold Lix.pur; rw [HPu.out, ← HPu.out]; rfl) ⟨i64_1, HOk.out, i64_0, zeroTrm_ok, zeroTrm_ok, HOk.out.2.1⟩ (Nat.le_refl _) _ _ _ _ _ _ _ _ _ _ _ _ _ _

set_option maxRecDepth 100000 in
set_option maxHeartbeats 8000000 in
theorem litM_1 {E : MkEnv} {w : World} {p : Nat} {s : St} (h : MkS E w p s) (hk : s.k < 800000) (l : DL) (hl : I64 l.l.n ∧ I64 l.r.n) {ao : Option Addr} {len : Nat} (cap : Nat) (hr : RowT E.w0 ao len l.a.ts) (hm : modM l.k 3 = 1) (hP : Puts E p) (hT : Terms E p) (hA : Atoms E p) :
    Calls Tryd.prog 27 #[.pointer (some ⟨p, 0, none⟩), .agg #[.int .i64 l.k, .int .i64 l.a.p, .slice ao len cap, .int .i64 l.op, .int .i64 l.l.k, .int .i64 l.l.n, .int .i64 l.r.k, .int .i64 l.r.n]] w fun e w' => ∃ x : Lix, e = .returned x.val ∧ x.pur = (litS E.G s l).2 ∧ elLix.ok w' (fun b => w.heap.size ≤ b) x ∧ MkS E w' p (litS E.G s l).1 ∧ Only (fun j => j = p) w w' := by
  have hp := h.lt
  have HM := hide (fun W => mod_3 l.k W)
  rw [hm] at HM
  have HP := hide hP
  have HS := hide (h.kept (below2a w (.cells #[.int .i64 l.k, .int .i64 l.a.p, .slice ao len cap, .int .i64 l.op, .int .i64 l.l.k, .int .i64 l.l.n, .int .i64 l.r.k, .int .i64 l.r.n] 90) (.cells #[.int .i64 0, .string ⟨#[]⟩, .slice none 0 0, .int .i64 0, .int .i64 0, .int .i64 0, .int .i64 0, .string ⟨#[]⟩, .int .i64 0, .int .i64 0, .int .i64 0, .string ⟨#[]⟩, .int .i64 0, .int .i64 0] 86)))
  have HB := hide (TwoBox.start hp (.cells #[.int .i64 l.k, .int .i64 l.a.p, .slice ao len cap, .int .i64 l.op, .int .i64 l.l.k, .int .i64 l.l.n, .int .i64 l.r.k, .int .i64 l.r.n] 90) (.cells #[.int .i64 0, .string ⟨#[]⟩, .slice none 0 0, .int .i64 0, .int .i64 0, .int .i64 0, .int .i64 0, .string ⟨#[]⟩, .int .i64 0, .int .i64 0, .int .i64 0, .string ⟨#[]⟩, .int .i64 0, .int .i64 0] 86))
  have HAt := hide hA
  have HR := hide hr
  have HOff := hide (off_i64 h (by omega))
  have HSb := hide h.2
  have HEq : Hid (litS E.G s l = ((atomS E.G (s.put E.G [110, 111, 116]).sp l.a).1, ⟨2, (atomS E.G (s.put E.G [110, 111, 116]).sp l.a).2, 0, zeroTrm, zeroTrm, ((s.off E.G : Nat) : Int)⟩)) := by show _ = _; unfold litS; rw [if_neg (by omega), if_pos hm]
  have hk1 : (s.put E.G [110, 111, 116]).sp.k < 900000 := by show s.k + 1 < _; omega
  rw [HEq.out]
  have hcat : ∀ W : World, (Op.stringOp .add ⟨(s.put E.G [110, 111, 116]).b.toArray⟩ ⟨#[32]⟩).run Tryd.prog W = .ok (.string ⟨((s.put E.G [110, 111, 116]).b ++ [32]).toArray⟩) W := fun W => by
    have h1 := h.2
    have hl := put_len (G := E.G) s [110, 111, 116]
    have hg := gl_le (G := E.G) s.k
    simp only [List.length_cons, List.length_nil] at hl
    rw [big_cat _ _ (by rw [arr_size]; show _ + 1 ≤ _; omega), show (⟨#[32]⟩ : ByteArray) = ⟨([32] : List UInt8).toArray⟩ from rfl, cat_arr]
  show Calls _ _ _ _ (LitMPost E w p _ _)
  have HCat := hide hcat
  have hpe : ∀ b : List UInt8, b = (s.put E.G [110, 111, 116]).b → ∀ W : World, (Op.stringOp .add ⟨b.toArray⟩ ⟨#[32]⟩).run Tryd.prog W = .ok (.string ⟨(b ++ [32]).toArray⟩) W := fun b hb W => by rw [hb]; exact HCat.out W
  clear h hm hP hT hA HEq hr hl
  go_enter Tryd.func27, Tryd.ntmps27
  go_upto_region 7 with (first
    | (go_at_call 19; refine (HM.out _).mono ?_; rintro e w1 ⟨rfl, hw⟩; have hw := hw.symm; subst hw)
    | (go_at_call 9; refine (HP.out _ _ HS.out (by omega) _ (by decide)).mono ?_; rintro e w2 ⟨rfl, hm2, ho2⟩; have HM2 := hide hm2; have HB2 := hide (HB.out.move ho2); clear hm2 ho2; obtain ⟨⟨d0, d1, d2⟩, y0, y2⟩ := mk_cells HM2.out.1.blk))
  have HSp := hide (sp_mks HSb.out HM2.out)
  have HBp : Hid (TwoBox w (w2.setCell ⟨p, 0, none⟩ (.string ⟨((s.put E.G [110, 111, 116]).b ++ [32]).toArray⟩)) p (.cells #[.int .i64 l.k, .int .i64 l.a.p, .slice ao len cap, .int .i64 l.op, .int .i64 l.l.k, .int .i64 l.l.n, .int .i64 l.r.k, .int .i64 l.r.n] 90) (.cells #[.int .i64 0, .string ⟨#[]⟩, .slice none 0 0, .int .i64 0, .int .i64 0, .int .i64 0, .int .i64 0, .string ⟨#[]⟩, .int .i64 0, .int .i64 0, .int .i64 0, .string ⟨#[]⟩, .int .i64 0, .int .i64 0] 86)) := HB2.out.move ((Only.refl (fun k => k = p) w2).setCell (p := ⟨p, 0, none⟩) rfl _)
  go_upto_region 8 with fail
  obtain ⟨V, hV⟩ : ∃ V, V = w2.setCell ⟨p, 0, none⟩ (.string ⟨((s.put E.G [110, 111, 116]).b ++ [32]).toArray⟩) := ⟨_, rfl⟩
  rw [← hV] at HSp HBp ⊢
  clear hV HM2 HB2 d0 d1 d2 y0 y2 hcat hpe HCat
  obtain ⟨b0, b1, b2, b3, b4, b5, b6, b7⟩ := l_cells HBp.out.b0
  go_wp2_with (first
    | (go_at_call 6; refine (HAt.out _ _ HSp.out (by first | exact hk1 | omega) l.a ao len cap HR.out).mono ?_; intro e w3 hq; obtain ⟨⟨ap, av, aoff, ats⟩, rfl, hpur, hok, hm3, ho3⟩ := hq; obtain ⟨va, vc, rfl, -⟩ := (show Lst elTrm _ _ av ats from hok.2.2).shape; have HM3 := hide (hm3.kept (belowA w3 (.cells #[.string ap, .slice va ats.length vc, .int .i64 aoff] 32))); have HB3 := hide (((HBp.out).move ho3).below (belowA w3 (.cells #[.string ap, .slice va ats.length vc, .int .i64 aoff] 32))); have HPu := hide hpur; have HOk := hide (elAtx.move hok (G := fun b => w.heap.size + 2 ≤ b) fun b hb hF => ⟨Nat.le_trans (HBp.out).lt hF, (belowA w3 (.cells #[.string ap, .slice va ats.length vc, .int .i64 aoff] 32)).block b hb⟩); clear hm3 ho3 hpur hok; obtain ⟨⟨k0, k1, k2, k3, k4, k5, k6, k7, k8, k9, k10, k11, k12, k13⟩, ⟨l0, l1, l2, l3, l4, l5, l6, l7, l8, l9, l10, l11, l12, l13⟩⟩ := boxL_cells HB3.out.b1; unfold Atx.val))
  refine bodyPost_ret (litMRes _ (w.heap.size + 1) _ _ _ _ _ _ _ _ _ _ _ _ _ _ _ rfl (boxL_put HB3.out.b1 _ _ _ _ _ _ _ _ _ _ _ _ _ _)) rfl ?_
  exact litm_fin HM3.out HB3.out ⟨2, ⟨ap, _, aoff, ats⟩, 0, zeroTrm, zeroTrm, ((s.off E.G : Nat) : Int)⟩ _ (by unfold Lix.pur; rw [HPu.out]) ⟨i64_2, HOk.out, i64_0, zeroTrm_ok, zeroTrm_ok, HOff.out⟩ (Nat.le_refl _) _ _ _ _ _ _ _ _ _ _ _ _ _ _

set_option maxRecDepth 100000 in
set_option maxHeartbeats 8000000 in
theorem litM_2 {E : MkEnv} {w : World} {p : Nat} {s : St} (h : MkS E w p s) (hk : s.k < 800000) (l : DL) (hl : I64 l.l.n ∧ I64 l.r.n) {ao : Option Addr} {len : Nat} (cap : Nat) (hr : RowT E.w0 ao len l.a.ts) (hm : modM l.k 3 = 2) (hP : Puts E p) (hT : Terms E p) (hA : Atoms E p) :
    Calls Tryd.prog 27 #[.pointer (some ⟨p, 0, none⟩), .agg #[.int .i64 l.k, .int .i64 l.a.p, .slice ao len cap, .int .i64 l.op, .int .i64 l.l.k, .int .i64 l.l.n, .int .i64 l.r.k, .int .i64 l.r.n]] w fun e w' => ∃ x : Lix, e = .returned x.val ∧ x.pur = (litS E.G s l).2 ∧ elLix.ok w' (fun b => w.heap.size ≤ b) x ∧ MkS E w' p (litS E.G s l).1 ∧ Only (fun j => j = p) w w' := by
  have hp := h.lt
  have HM := hide (fun W => mod_3 l.k W)
  rw [hm] at HM
  have HP := hide hP
  have HS := hide (h.kept (below2a w (.cells #[.int .i64 l.k, .int .i64 l.a.p, .slice ao len cap, .int .i64 l.op, .int .i64 l.l.k, .int .i64 l.l.n, .int .i64 l.r.k, .int .i64 l.r.n] 90) (.cells #[.int .i64 0, .string ⟨#[]⟩, .slice none 0 0, .int .i64 0, .int .i64 0, .int .i64 0, .int .i64 0, .string ⟨#[]⟩, .int .i64 0, .int .i64 0, .int .i64 0, .string ⟨#[]⟩, .int .i64 0, .int .i64 0] 86)))
  have HB := hide (TwoBox.start hp (.cells #[.int .i64 l.k, .int .i64 l.a.p, .slice ao len cap, .int .i64 l.op, .int .i64 l.l.k, .int .i64 l.l.n, .int .i64 l.r.k, .int .i64 l.r.n] 90) (.cells #[.int .i64 0, .string ⟨#[]⟩, .slice none 0 0, .int .i64 0, .int .i64 0, .int .i64 0, .int .i64 0, .string ⟨#[]⟩, .int .i64 0, .int .i64 0, .int .i64 0, .string ⟨#[]⟩, .int .i64 0, .int .i64 0] 86))
  have HT := hide hT
  have HOff := hide (off_i64 h (by omega))
  have HOl := hide (off_le h (by omega))
  have HLn := hide hl.1
  have HRn := hide hl.2
  obtain ⟨dl, hdl⟩ : ∃ dl, dl = (dtAt l.l (s.off E.G)) := ⟨_, rfl⟩
  obtain ⟨dr, hdr⟩ : ∃ dr, dr = (dtAt l.r (St.off E.G ((s.put E.G (tmS l.l)).put E.G (opL (modM l.op 6))))) := ⟨_, rfl⟩
  have hop := modM_lt l.op (k := 6) (by decide)
  have HOp : Hid (I64 (modM l.op 6 + 1)) := by show I64 _; unfold I64; omega
  have HWr : Hid (IntKind.i64.wrap (1 + modM l.op 6) = modM l.op 6 + 1) := by
    show IntKind.i64.wrap (1 + modM l.op 6) = modM l.op 6 + 1
    rw [IntKind.wrap_i64]
    omega
  have hopl : (opL (modM l.op 6)).length ≤ 100 := by unfold opL; repeat' split
                                                     all_goals decide
  have HOpl := hide hopl
  have HEq : Hid (litS E.G s l = ((((s.put E.G (tmS l.l)).put E.G (opL (modM l.op 6))).put E.G (tmS l.r)), ⟨3, zeroAtom, modM l.op 6 + 1, dl, dr, ((s.off E.G : Nat) : Int)⟩)) := by show _ = _; unfold litS; rw [if_neg (by omega), if_neg (by omega), hdl, hdr]
  have HDl : Hid (∀ (W : World), MkS E W p s → Calls Tryd.prog 20 #[.pointer (some ⟨p, 0, none⟩), .agg #[.int .i64 l.l.k, .int .i64 l.l.n]] W fun e w' => e = .returned (.agg #[.int .i64 dl.k, .int .i64 dl.n, .string dl.s, .int .i64 dl.off]) ∧ MkS E w' p (s.put E.G (tmS l.l)) ∧ Only (fun j => j = p) W w') := fun W hW => by rw [hdl]; exact HT.out W s hW (by omega) l.l HLn.out
  have HDr : Hid (∀ (W : World), MkS E W p ((s.put E.G (tmS l.l)).put E.G (opL (modM l.op 6))) → Calls Tryd.prog 20 #[.pointer (some ⟨p, 0, none⟩), .agg #[.int .i64 l.r.k, .int .i64 l.r.n]] W fun e w' => e = .returned (.agg #[.int .i64 dr.k, .int .i64 dr.n, .string dr.s, .int .i64 dr.off]) ∧ MkS E w' p (((s.put E.G (tmS l.l)).put E.G (opL (modM l.op 6))).put E.G (tmS l.r)) ∧ Only (fun j => j = p) W w') := fun W hW => by rw [hdr]; exact HT.out W _ hW (by show s.k + 1 + 1 < _; omega) l.r HRn.out
  have HKl : Hid (dl.ok ∧ dl.off = ((s.off E.G : Nat) : Int)) := by
    rw [hdl]
    exact ⟨dtAt_ok hl.1 HOl.out, rfl⟩
  have HKr : Hid (∀ W : World, MkS E W p ((s.put E.G (tmS l.l)).put E.G (opL (modM l.op 6))) → dr.ok) := fun W hW => by rw [hdr]; exact dtAt_ok hl.2 (off_le hW (by show s.k + 1 + 1 < _; omega))
  have HOo := hide (fun W => opOf_any l.op W)
  have HM6 := hide (fun W => mod_6 l.op W)
  rw [HEq.out]
  show Calls _ _ _ _ (LitMPost E w p _ _)
  clear h hm hP hT hA HEq hr hl hopl hop hdl hdr
  go_enter Tryd.func27, Tryd.ntmps27
  go_upto_region 13 with (first
    | (go_at_call 19; refine (HM.out _).mono ?_; rintro e w1 ⟨rfl, hw⟩; have hw := hw.symm; subst hw)
    | (go_at_call 20; (with_reducible refine (HDl.out _ HS.out).mono ?_); rintro e w2 ⟨rfl, hm2, ho2⟩; have HM2 := hide (hm2.kept (belowA w2 (.cells #[.int .i64 dl.k, .int .i64 dl.n, .string dl.s, .int .i64 dl.off] 73))); have HB2 := hide ((HB.out.move ho2).below (belowA w2 (.cells #[.int .i64 dl.k, .int .i64 dl.n, .string dl.s, .int .i64 dl.off] 73))); have HN2 : Hid ((w2.alloc (.cells #[.int .i64 dl.k, .int .i64 dl.n, .string dl.s, .int .i64 dl.off] 73)).heap[w2.heap.size]? = some (.cells #[.int .i64 dl.k, .int .i64 dl.n, .string dl.s, .int .i64 dl.off] 73 (0, 0))) := heap_alloc_new w2 _; have HL2 : Hid (w.heap.size + 2 ≤ w2.heap.size) := (HB.out.move ho2).lt; clear hm2 ho2; obtain ⟨b0, b1, b2, b3, b4, b5, b6, b7⟩ := l_cells HB2.out.b0)
    | (go_at_call 43; refine (HOo.out _).mono ?_; rintro e w3 ⟨rfl, hw3⟩; have hw3 := hw3.symm; subst hw3)
    | (go_at_call 9; refine (HP.out _ _ HM2.out (by show s.k + 1 < _; omega) _ HOpl.out).mono ?_; rintro e w4 ⟨rfl, hm4, ho4⟩; have HM4 := hide hm4; have HB4 := hide (HB2.out.move ho4); have hl2 := HL2.out; have HN4 : Hid (w4.heap[w2.heap.size]? = some (.cells #[.int .i64 dl.k, .int .i64 dl.n, .string dl.s, .int .i64 dl.off] 73 (0, 0))) := (ho4.block _ (by simp) (by omega)).trans HN2.out; clear hm4 ho4; obtain ⟨b0, b1, b2, b3, b4, b5, b6, b7⟩ := l_cells HB4.out.b0)
    | (go_at_call 20; (with_reducible refine (HDr.out _ HM4.out).mono ?_); rintro e w5 ⟨rfl, hm5, ho5⟩; have HM5 := hide (hm5.kept (belowA w5 (.cells #[.int .i64 dr.k, .int .i64 dr.n, .string dr.s, .int .i64 dr.off] 73))); have HB5 := hide ((HB4.out.move ho5).below (belowA w5 (.cells #[.int .i64 dr.k, .int .i64 dr.n, .string dr.s, .int .i64 dr.off] 73))); have HN5 : Hid ((w5.alloc (.cells #[.int .i64 dr.k, .int .i64 dr.n, .string dr.s, .int .i64 dr.off] 73)).heap[w5.heap.size]? = some (.cells #[.int .i64 dr.k, .int .i64 dr.n, .string dr.s, .int .i64 dr.off] 73 (0, 0))) := heap_alloc_new w5 _; have HL5 : Hid (w2.heap.size < w5.heap.size) := Nat.lt_of_lt_of_le (Array.getElem?_eq_some_iff.1 HN4.out).1 ho5.size; have HN6 : Hid ((w5.alloc (.cells #[.int .i64 dr.k, .int .i64 dr.n, .string dr.s, .int .i64 dr.off] 73)).heap[w2.heap.size]? = some (.cells #[.int .i64 dl.k, .int .i64 dl.n, .string dl.s, .int .i64 dl.off] 73 (0, 0))) := ((belowA w5 (.cells #[.int .i64 dr.k, .int .i64 dr.n, .string dr.s, .int .i64 dr.off] 73)).block _ HL5.out).trans ((ho5.block _ (Array.getElem?_eq_some_iff.1 HN4.out).1 (by have := HB4.out.pl; omega)).trans HN4.out); clear hm5 ho5))
  obtain ⟨Z, hZ⟩ : ∃ Z, Z = w5.alloc (.cells #[.int .i64 dr.k, .int .i64 dr.n, .string dr.s, .int .i64 dr.off] 73) := ⟨_, rfl⟩
  rw [← hZ] at HM5 HB5 HN5 HN6 ⊢
  have hKr := HKr.out _ HM4.out
  have HKr2 := hide hKr
  clear hZ HM2 HB2 HN2 HM4 HB4 HN4 hKr HKr HL5 b0 b1 b2 b3 b4 b5 b6 b7 hl2
  generalize w2.heap.size = b8 at *
  generalize w5.heap.size = b9 at *
  refine wp_region_last (by kernel_rfl) (fun V => V.cell? ⟨w.heap.size, 3, none⟩ = some (.int .i64 l.op) ∧ V.cell? ⟨b8, 0, none⟩ = some (.int .i64 dl.k) ∧ V.cell? ⟨b8, 1, none⟩ = some (.int .i64 dl.n) ∧ V.cell? ⟨b8, 2, none⟩ = some (.string dl.s) ∧ V.cell? ⟨b8, 3, none⟩ = some (.int .i64 dl.off) ∧ V.cell? ⟨b9, 0, none⟩ = some (.int .i64 dr.k) ∧ V.cell? ⟨b9, 1, none⟩ = some (.int .i64 dr.n) ∧ V.cell? ⟨b9, 2, none⟩ = some (.string dr.s) ∧ V.cell? ⟨b9, 3, none⟩ = some (.int .i64 dr.off)) 9 ?_
  obtain ⟨Y, hY⟩ : ∃ Y, Y = Z.drew := ⟨_, rfl⟩
  have HB6 : Hid (TwoBox w Y p (.cells #[.int .i64 l.k, .int .i64 l.a.p, .slice ao len cap, .int .i64 l.op, .int .i64 l.l.k, .int .i64 l.l.n, .int .i64 l.r.k, .int .i64 l.r.n] 90) (.cells #[.int .i64 0, .string ⟨#[]⟩, .slice none 0 0, .int .i64 0, .int .i64 0, .int .i64 0, .int .i64 0, .string ⟨#[]⟩, .int .i64 0, .int .i64 0, .int .i64 0, .string ⟨#[]⟩, .int .i64 0, .int .i64 0] 86)) := by rw [hY]; exact HB5.out.drew
  have HM6' : Hid (MkS E Y p (((s.put E.G (tmS l.l)).put E.G (opL (modM l.op 6))).put E.G (tmS l.r))) := by rw [hY]; exact HM5.out.kept (Below.refl _ _).drew
  have hN5 : Y.heap[b9]? = some (.cells #[.int .i64 dr.k, .int .i64 dr.n, .string dr.s, .int .i64 dr.off] 73 (0, 0)) := by rw [hY]; exact HN5.out
  have hN6 : Y.heap[b8]? = some (.cells #[.int .i64 dl.k, .int .i64 dl.n, .string dl.s, .int .i64 dl.off] 73 (0, 0)) := by rw [hY]; exact HN6.out
  rw [← hY]
  clear hY HB5 HM5 HN5 HN6
  have HS1 : Y.cell? ⟨w.heap.size, 3, none⟩ = some (.int .i64 l.op) ∧ Y.cell? ⟨b8, 0, none⟩ = some (.int .i64 dl.k) ∧ Y.cell? ⟨b8, 1, none⟩ = some (.int .i64 dl.n) ∧ Y.cell? ⟨b8, 2, none⟩ = some (.string dl.s) ∧ Y.cell? ⟨b8, 3, none⟩ = some (.int .i64 dl.off) ∧ Y.cell? ⟨b9, 0, none⟩ = some (.int .i64 dr.k) ∧ Y.cell? ⟨b9, 1, none⟩ = some (.int .i64 dr.n) ∧ Y.cell? ⟨b9, 2, none⟩ = some (.string dr.s) ∧ Y.cell? ⟨b9, 3, none⟩ = some (.int .i64 dr.off) := ⟨(l_cells HB6.out.b0).2.2.2.1, (box4_cells hN6).1, (box4_cells hN6).2.1, (box4_cells hN6).2.2.1, (box4_cells hN6).2.2.2.1, (box4_cells hN5).1, (box4_cells hN5).2.1, (box4_cells hN5).2.2.1, (box4_cells hN5).2.2.2.1⟩
  clear hN5 hN6
  refine wpAnyM_take (i := 0) (v := ?_) rfl (by kernel_rfl) (by kernel_rfl) (by kernel_rfl) (by kernel_rfl) (fun _ _ _ h => h) HS1 (Or.inl ⟨by rfl, ?_⟩) ?_
  rotate_left
  · (intro w hSw; (try dsimp only at hSw); go_simp; try with_reducible rfl)
  simp only [Act.put, List.setIfInBounds_toArray, List.set_cons_zero, List.set_cons_succ]
  refine wpAnyM_take (i := 1) (v := ?_) rfl (by kernel_rfl) (by kernel_rfl) (by kernel_rfl) (by kernel_rfl) (fun _ _ _ h => h) HS1 (Or.inl ⟨by rfl, ?_⟩) ?_
  rotate_left
  · (intro w hSw; (try dsimp only at hSw); go_simp; try with_reducible rfl)
  simp only [Act.put, List.setIfInBounds_toArray, List.set_cons_zero, List.set_cons_succ]
  refine wpAnyM_take (i := 4) (v := ?_) rfl (by kernel_rfl) (by kernel_rfl) (by kernel_rfl) (by kernel_rfl) (fun _ _ _ h => h) HS1 (Or.inl ⟨by rfl, ?_⟩) ?_
  rotate_left
  · (intro w hSw; (try dsimp only at hSw); go_simp; try with_reducible rfl)
  simp only [Act.put, List.setIfInBounds_toArray, List.set_cons_zero, List.set_cons_succ]
  refine wpAnyM_take (i := 5) (v := ?_) rfl (by kernel_rfl) (by kernel_rfl) (by kernel_rfl) (by kernel_rfl) (fun _ _ _ h => h) HS1 (Or.inl ⟨by rfl, ?_⟩) ?_
  rotate_left
  · (intro w hSw; (try dsimp only at hSw); go_simp; try with_reducible rfl)
  simp only [Act.put, List.setIfInBounds_toArray, List.set_cons_zero, List.set_cons_succ]
  refine wpAnyM_take (i := 6) (v := ?_) rfl (by kernel_rfl) (by kernel_rfl) (by kernel_rfl) (by kernel_rfl) (fun _ _ _ h => h) HS1 (Or.inl ⟨by rfl, ?_⟩) ?_
  rotate_left
  · (intro w hSw; (try dsimp only at hSw); go_simp; try with_reducible rfl)
  simp only [Act.put, List.setIfInBounds_toArray, List.set_cons_zero, List.set_cons_succ]
  refine wpAnyM_take (i := 7) (v := ?_) rfl (by kernel_rfl) (by kernel_rfl) (by kernel_rfl) (by kernel_rfl) (fun _ _ _ h => h) HS1 (Or.inl ⟨by rfl, ?_⟩) ?_
  rotate_left
  · (intro w hSw; (try dsimp only at hSw); go_simp; try with_reducible rfl)
  simp only [Act.put, List.setIfInBounds_toArray, List.set_cons_zero, List.set_cons_succ]
  refine wpAnyM_one (i := 2) (by kernel_rfl) rfl (fun K hK => ?_)
  go_simp
  refine (HM6.out _).mono ?_
  rintro e w3 ⟨rfl, hw⟩
  have hw := hw.symm
  subst hw
  refine hK.out _ _ HS1 (fun _ => ?_)
  clear hK K
  try simp only [Act.put, List.setIfInBounds_toArray, List.set_cons_zero, List.set_cons_succ]
  refine wpAnyM_take (i := 3) (v := ?_) rfl (by kernel_rfl) (by kernel_rfl) (by kernel_rfl) (by kernel_rfl) (fun _ _ _ h => h) HS1 (Or.inl ⟨by rfl, ?_⟩) ?_
  rotate_left
  · (intro w hSw; (try dsimp only at hSw); go_simp; try with_reducible rfl)
  simp only [Act.put, List.setIfInBounds_toArray, List.set_cons_zero, List.set_cons_succ]
  refine wpAnyM_take (i := 8) (v := ?_) rfl (by kernel_rfl) (by kernel_rfl) (by kernel_rfl) (by kernel_rfl) (fun _ _ _ h => h) HS1 (Or.inl ⟨by rfl, ?_⟩) ?_
  rotate_left
  · (intro w hSw; (try dsimp only at hSw); go_simp; try with_reducible rfl)
  simp only [Act.put, List.setIfInBounds_toArray, List.set_cons_zero, List.set_cons_succ]
  obtain ⟨⟨k0, k1, k2, k3, k4, k5, k6, k7, k8, k9, k10, k11, k12, k13⟩, ⟨l0, l1, l2, l3, l4, l5, l6, l7, l8, l9, l10, l11, l12, l13⟩⟩ := boxL_cells HB6.out.b1
  clear HS1
  refine wpAnyM_end (by kernel_rfl) rfl (by kernel_rfl) (fun K hK => ?_)
  go_simp
  refine hK.out _ _ ?_
  clear hK K
  go_wp2
  refine bodyPost_ret (litMRes _ (w.heap.size + 1) _ _ _ _ _ _ _ _ _ _ _ _ _ _ _ rfl (boxL_put HB6.out.b1 _ _ _ _ _ _ _ _ _ _ _ _ _ _)) rfl ?_
  exact litm_fin HM6'.out HB6.out ⟨3, zeroAtx, IntKind.i64.wrap (1 + modM l.op 6), dl, dr, dl.off⟩ _ (by unfold Lix.pur; simp only; rw [HKl.out.2, HWr.out]; rfl) ⟨i64_3, zeroAtx_ok _ _, by show I64 (IntKind.i64.wrap (1 + modM l.op 6)); rw [HWr.out]; exact HOp.out, HKl.out.1, HKr2.out, by show I64 dl.off; rw [HKl.out.2]; exact HOff.out⟩ (Nat.le_refl (w.heap.size + 2)) _ _ _ _ _ _ _ _ _ _ _ _ _ _

theorem litM_any {E : MkEnv} (hE : E.ok) {w : World} {p : Nat} {s : St} (h : MkS E w p s) (hk : s.k < 800000) (l : DL) (hl : I64 l.l.n ∧ I64 l.r.n) {ao : Option Addr} {len : Nat} (cap : Nat) (hr : RowT E.w0 ao len l.a.ts) :
    Calls Tryd.prog 27 #[.pointer (some ⟨p, 0, none⟩), .agg #[.int .i64 l.k, .int .i64 l.a.p, .slice ao len cap, .int .i64 l.op, .int .i64 l.l.k, .int .i64 l.l.n, .int .i64 l.r.k, .int .i64 l.r.n]] w fun e w' => ∃ x : Lix, e = .returned x.val ∧ x.pur = (litS E.G s l).2 ∧ elLix.ok w' (fun b => w.heap.size ≤ b) x ∧ MkS E w' p (litS E.G s l).1 ∧ Only (fun j => j = p) w w' := by
  have hP : Puts E p := fun W s h hk tok hl => put_any hE h hk tok hl
  have hT : Terms E p := fun W s h hk t ht => term_any hE h hk t ht
  have hA : Atoms E p := fun W s h hk a ao len cap hr => by
    have := atomM_any hE h hk a cap hr false
    rw [gA_false] at this
    exact this
  have hm := modM_lt l.k (k := 3) (by decide)
  have h3 : modM l.k 3 = 0 ∨ modM l.k 3 = 1 ∨ modM l.k 3 = 2 := by omega
  rcases h3 with e | e | e
  · exact litM_0 h hk l hl cap hr e hP hT hA
  · exact litM_1 h hk l hl cap hr e hP hT hA
  · exact litM_2 h hk l hl cap hr e hP hT hA
end Go.Proofs.YtilckhdaijfddaaDoor
