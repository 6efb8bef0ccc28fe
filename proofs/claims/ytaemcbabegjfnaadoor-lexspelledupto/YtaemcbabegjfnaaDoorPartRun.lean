/- LexSpelled's text as it grows: lex makes of it just the tokens that were put. -/
import Derived.Test.YtaemcbabegjfnaaDoorPartPure
namespace Go.Proofs.YtaemcbabegjfnaaDoor
set_option linter.unusedSimpArgs false
set_option linter.unusedVariables false
open Go.RowKit

/-- A byte that may follow a byte at which a token ends. -/
def LastOk (c b : UInt8) : Prop := ¬ (bWord (c.toNat : Int) = true ∧ bWord (b.toNat : Int) = true) ∧ ¬ ((c = 60 ∨ c = 62) ∧ b = 61)
theorem word_last {c b : UInt8} (hc : bWord (c.toNat : Int) = true) (h : LastOk c b) : okWord b = true := by
  unfold okWord
  cases hb : bWord (b.toNat : Int) with
  | false => rfl
  | true => exact absurd ⟨hc, hb⟩ h.1
theorem eq_last {c b : UInt8} (hc : c = 60 ∨ c = 62) (h : LastOk c b) : okEq b = true := by
  unfold okEq
  have : b ≠ 61 := fun e => h.2 ⟨hc, e⟩
  simpa using this
theorem arr_back (w : ByteArray) : (⟨w.data.toList.toArray⟩ : ByteArray) = w := by
  have e : w.data.toList.toArray = w.data := Array.toArray_toList
  rw [e]
theorem nil_head {P : UInt8 → Prop} : ∀ b : UInt8, (txt [] []).head? = some b → P b := fun b (hb : ([] : List UInt8).head? = some b) => by cases hb
theorem spell_tkn {p : Prt} (hn : I64 p.n) {s : List UInt8} {x : Tok} (h : spellP p = some (s, x)) : ∃ ok, Tkn s x ok ∧ ∀ c, s.getLast? = some c → ∀ b, LastOk c b → ok b = true := by
  unfold spellP at h
  by_cases k1 : p.k = 1
  · rw [if_pos k1] at h
    by_cases hw : wordB p.w.data.toList true = true
    · rw [if_pos hw] at h
      cases h
      obtain ⟨h1, h2⟩ := wordB_name hw
      rw [arr_back] at h1
      exact ⟨okWord, h1, fun c hc b hb => word_last (h2 c (List.mem_of_getLast? hc)) hb⟩
    · rw [if_neg hw] at h
      cases h
  rw [if_neg k1] at h
  by_cases k2 : p.k = 2
  · rw [if_pos k2] at h
    by_cases hw : wordB p.w.data.toList false = true
    · rw [if_pos hw] at h
      cases h
      obtain ⟨h1, h2⟩ := wordB_var hw
      rw [arr_back] at h1
      exact ⟨okWord, h1, fun c hc b hb => word_last (h2 c (List.mem_of_getLast? hc)) hb⟩
    · rw [if_neg hw] at h
      cases h
  rw [if_neg k2] at h
  by_cases k3 : p.k = 3
  · rw [if_pos k3] at h
    cases h
    refine ⟨okWord, intZ_tkn _ _ hn, fun c hc b hb => ?_⟩
    obtain ⟨d, h1, h2⟩ := intZ_last p.n p.st
    rw [h1] at hc
    cases hc
    exact word_last h2 hb
  rw [if_neg k3] at h
  by_cases k4 : p.k = 4
  · rw [if_pos k4] at h
    by_cases hl : p.w.size ≤ 255
    · rw [if_pos hl] at h
      cases h
      have := writ_tkn p.w.data.toList p.st hl
      rw [arr_back] at this
      exact ⟨okAny, this, fun c hc b hb => rfl⟩
    · rw [if_neg hl] at h
      cases h
  rw [if_neg k4] at h
  by_cases k5 : p.k = 5
  · rw [if_pos k5] at h
    cases h; exact ⟨okAny, tk_open, fun c hc b hb => rfl⟩
  rw [if_neg k5] at h
  by_cases k6 : p.k = 6
  · rw [if_pos k6] at h
    cases h; exact ⟨okAny, tk_shut, fun c hc b hb => rfl⟩
  rw [if_neg k6] at h
  by_cases k7 : p.k = 7
  · rw [if_pos k7] at h
    cases h; exact ⟨okAny, tk_com, fun c hc b hb => rfl⟩
  rw [if_neg k7] at h
  by_cases k8 : p.k = 8
  · rw [if_pos k8] at h
    cases h; exact ⟨okAny, tk_dot, fun c hc b hb => rfl⟩
  rw [if_neg k8] at h
  by_cases k9 : p.k = 9
  · rw [if_pos k9] at h
    cases h; exact ⟨okAny, tk_arrow, fun c hc b hb => rfl⟩
  rw [if_neg k9] at h
  by_cases k10 : p.k = 10
  · rw [if_pos k10] at h
    cases h
    refine ⟨okWord, word_tkn (b := 110) (r := [111, 116]) (by decide) (by decide) (by decide), fun c hc b hb => ?_⟩
    cases hc
    exact word_last (by decide) hb
  rw [if_neg k10] at h
  by_cases k11 : p.k = 11
  · rw [if_pos k11] at h
    by_cases ho : 1 ≤ p.op ∧ p.op ≤ 6
    · rw [if_pos ho] at h
      cases h
      have h6 : p.op = 1 ∨ p.op = 2 ∨ p.op = 3 ∨ p.op = 4 ∨ p.op = 5 ∨ p.op = 6 := by omega
      rcases h6 with e | e | e | e | e | e <;> rw [e]
      · exact ⟨okAny, tk_eq, fun c hc b hb => rfl⟩
      · exact ⟨okAny, tk_ne, fun c hc b hb => rfl⟩
      · exact ⟨okEq, tk_lt, fun c hc b hb => by cases hc; exact eq_last (.inl rfl) hb⟩
      · exact ⟨okAny, tk_le, fun c hc b hb => rfl⟩
      · exact ⟨okEq, tk_gt, fun c hc b hb => by cases hc; exact eq_last (.inr rfl) hb⟩
      · exact ⟨okAny, tk_ge, fun c hc b hb => rfl⟩
    · rw [if_neg ho] at h
      cases h
  rw [if_neg k11] at h
  cases h
theorem gp2 : Gp gap2 := by
  intro R hR
  have h := gp_blank (b := 10) (by decide) gp_nil R hR
  have e : gap2 ++ R = [37, 32, 34, 32, 47, 42, 32, 110, 111, 116, 13] ++ 10 :: R := rfl
  have hi : item ([37, 32, 34, 32, 47, 42, 32, 110, 111, 116, 13] ++ 10 :: R) = .go 11 := rfl
  rw [e, gapN_go hi (by decide) (by simp)]
  have e2 : List.drop 11 (([37, 32, 34, 32, 47, 42, 32, 110, 111, 116, 13] : List UInt8) ++ 10 :: R) = [10] ++ R := rfl
  rw [e2, h]
  rfl
theorem gp3 : Gp gap3 := by
  have := gp_go (p := gap3) (fun R => by rfl) (by decide) gp_nil
  rw [List.append_nil] at this
  exact this
theorem betw_ok (c b : UInt8) (g : Int) : Gp (betwL c b g) ∧ ∀ (r : List UInt8) (h : UInt8), (betwL c b g ++ b :: r).head? = some h → LastOk c h := by
  have hlo : ∀ h : UInt8, bWord (h.toNat : Int) = false → h ≠ 61 → LastOk c h := fun h h1 h2 => ⟨fun e => by rw [h1] at e; exact absurd e.2 (by decide), fun e => h2 e.2⟩
  unfold betwL
  split
  · exact ⟨gp_blank (by decide) gp_nil, fun r h hh => by cases hh; exact hlo _ (by decide) (by decide)⟩
  split
  · exact ⟨gp2, fun r h hh => by cases hh; exact hlo _ (by decide) (by decide)⟩
  split
  · exact ⟨gp3, fun r h hh => by cases hh; exact hlo _ (by decide) (by decide)⟩
  split
  · exact ⟨gp_blank (by decide) gp_nil, fun r h hh => by cases hh; exact hlo _ (by decide) (by decide)⟩
  split
  · exact ⟨gp_blank (by decide) gp_nil, fun r h hh => by cases hh; exact hlo _ (by decide) (by decide)⟩
  · next hw =>
    split
    · exact ⟨gp_blank (by decide) gp_nil, fun r h hh => by cases hh; exact hlo _ (by decide) (by decide)⟩
    · next he =>
      refine ⟨gp_nil, fun r h hh => ?_⟩
      cases hh
      refine ⟨fun e => hw (by rw [e.1, e.2]; rfl), fun e => he ?_⟩
      rw [e.2]
      rcases e.1 with e | e <;> rw [e] <;> rfl
/-- The pieces' tokens without the end. -/
def tkl : Nat → List Pc → List Tok
  | _, [] => []
  | o, p :: ps => ⟨p.x.k, p.x.t, p.x.n, p.x.op, o + p.g.length, o + p.g.length + p.s.length⟩ :: tkl (o + p.g.length + p.s.length) ps
theorem tks_tkl : ∀ (ps : List Pc) (o : Nat), tks o ps [] = tkl o ps ++ [endTok (o + (txt ps []).length)]
  | [], o => rfl
  | p :: ps, o => by
    show _ :: tks _ ps [] = _ :: (tkl _ ps ++ _)
    rw [tks_tkl ps]
    have : (txt (p :: ps) []).length = p.g.length + (p.s.length + (txt ps []).length) := by show (p.g ++ (p.s ++ txt ps [])).length = _; simp only [List.length_append]
    rw [this]
    congr 4
    omega
theorem txt_snoc : ∀ (ps : List Pc) (q : Pc), txt (ps ++ [q]) [] = txt ps [] ++ (q.g ++ q.s)
  | [], q => by show q.g ++ (q.s ++ []) = _; simp [txt]
  | p :: ps, q => by show p.g ++ (p.s ++ txt (ps ++ [q]) []) = (p.g ++ (p.s ++ txt ps [])) ++ _; rw [txt_snoc ps]; simp only [List.append_assoc]
theorem tkl_snoc : ∀ (ps : List Pc) (o : Nat) (q : Pc), tkl o (ps ++ [q]) = tkl o ps ++ [⟨q.x.k, q.x.t, q.x.n, q.x.op, o + (txt ps []).length + q.g.length, o + (txt ps []).length + q.g.length + q.s.length⟩]
  | [], o, q => rfl
  | p :: ps, o, q => by
    show _ :: tkl _ (ps ++ [q]) = _ :: (tkl _ ps ++ _)
    rw [tkl_snoc ps]
    have : (txt (p :: ps) []).length = p.g.length + (p.s.length + (txt ps []).length) := by show (p.g ++ (p.s ++ txt ps [])).length = _; simp only [List.length_append]
    rw [this]
    simp only [show o + p.g.length + p.s.length + (txt ps []).length = o + (p.g.length + (p.s.length + (txt ps []).length)) by omega]
theorem head_in {g s R : List UInt8} (hs : s ≠ []) : (g ++ (s ++ R)).head? = (g ++ s).head? := by
  cases g with
  | cons a g => rfl
  | nil =>
    cases s with
    | nil => exact absurd rfl hs
    | cons a s => rfl
theorem tkn_ne {s : List UInt8} {x : Tok} {ok : UInt8 → Bool} (h : Tkn s x ok) : s ≠ [] := by
  obtain ⟨b, r, e, -⟩ := h.head
  rw [e]; simp
theorem pc_snoc : ∀ (ps : List Pc) (q : Pc), PcOk [] ps → Gp q.g → Tkn q.s q.x q.ok → (∀ r, ps.getLast? = some r → ∀ b, (q.g ++ q.s).head? = some b → r.ok b = true) → PcOk [] (ps ++ [q])
  | [], q, _, hg, ht, _ => ⟨hg, ht, nil_head, trivial⟩
  | [r], q, h, hg, ht, hl => ⟨h.1, h.2.1, fun b hb => hl r rfl b (by have hb' : (q.g ++ (q.s ++ [])).head? = some b := hb; rw [List.append_nil] at hb'; exact hb'), hg, ht, nil_head, trivial⟩
  | r :: r2 :: rs, q, h, hg, ht, hl => by
    refine ⟨h.1, h.2.1, fun b hb => h.2.2.1 b ?_, pc_snoc (r2 :: rs) q h.2.2.2 hg ht fun u hu b hb => hl u (by rw [List.getLast?_cons_cons]; exact hu) b hb⟩
    have hne := tkn_ne h.2.2.2.2.1
    have e1 : txt (r2 :: rs ++ [q]) [] = r2.g ++ (r2.s ++ txt (rs ++ [q]) []) := rfl
    have e2 : txt (r2 :: rs) [] = r2.g ++ (r2.s ++ txt rs []) := rfl
    have hb' : (txt (r2 :: rs ++ [q]) []).head? = some b := hb
    rw [e1, head_in hne] at hb'
    rw [e2, head_in hne]
    exact hb'
structure SpInv (q : Sp) : Prop where
  has : ∃ ps : List Pc, q.t = txt ps [] ∧ PcOk [] ps ∧ q.w = tkl 0 ps ∧ ∀ r, ps.getLast? = some r → ∀ c, q.t.getLast? = some c → ∀ b, LastOk c b → r.ok b = true
  ne : q.t ≠ []
  sz : q.t.length ≤ 65536
  wl : q.w.length ≤ q.t.length
theorem sp_start : SpInv ⟨[97], [⟨1, ⟨#[97]⟩, 0, 0, 0, 1⟩]⟩ :=
  ⟨⟨[⟨[], [97], ⟨1, ⟨#[97]⟩, 0, 0, 0, 0⟩, okWord⟩], rfl, ⟨gp_nil, name_ofP, nil_head, trivial⟩, rfl, fun r hr c hc b hb => by cases hr; cases hc; exact word_last (by decide) hb⟩, by simp, by simp, by simp⟩
where name_ofP : Tkn [97] ⟨1, ⟨#[97]⟩, 0, 0, 0, 0⟩ okWord := (wordB_name (w := [97]) (by decide)).1
theorem last_app {a s : List UInt8} (hs : s ≠ []) : (a ++ s).getLast? = s.getLast? := by
  rw [List.getLast?_append]
  cases h : s.getLast? with
  | none => exact absurd (List.getLast?_eq_none_iff.1 h) hs
  | some c => rfl
theorem sp_one {q : Sp} (h : SpInv q) {p : Prt} (hn : I64 p.n) {s : List UInt8} {x : Tok} (hs : spellP p = some (s, x)) : SpInv (spOne q s x (betwL (q.t.getLastD 0) (s.headD 0) p.g)) := by
  obtain ⟨ok, hT, hL⟩ := spell_tkn hn hs
  obtain ⟨b, r, e, hst⟩ := hT.head
  have hne := tkn_ne hT
  unfold spOne
  by_cases hz : 65536 < q.t.length + (betwL (q.t.getLastD 0) (s.headD 0) p.g).length + s.length
  · rw [if_pos hz]; exact h
  · rw [if_neg hz]
    obtain ⟨⟨ps, h1, h2, h3, h4⟩, h5, h6, h7⟩ := h
    obtain ⟨c, hc⟩ : ∃ c, q.t.getLast? = some c := by
      cases hh : q.t.getLast? with
      | none => exact absurd (List.getLast?_eq_none_iff.1 hh) h5
      | some c => exact ⟨c, rfl⟩
    have hcd : q.t.getLastD 0 = c := by rw [List.getLastD_eq_getLast?, hc]; rfl
    have hsd : s.headD 0 = b := by rw [e]; rfl
    rw [hcd, hsd] at hz ⊢
    obtain ⟨g1, g2⟩ := betw_ok c b p.g
    refine ⟨⟨ps ++ [⟨betwL c b p.g, s, x, ok⟩], ?_, ?_, ?_, ?_⟩, ?_, ?_, ?_⟩
    · rw [txt_snoc, ← h1]; simp only [List.append_assoc]
    · refine pc_snoc ps _ h2 g1 hT fun r' hr' b' hb' => ?_
      refine h4 r' hr' c hc b' (g2 r b' ?_)
      rw [← e]; exact hb'
    · rw [tkl_snoc, ← h3, ← h1]
      simp only [Nat.zero_add]
    · intro r' hr' c' hc' b' hb'
      rw [List.getLast?_append] at hr'
      cases hr'
      have : (q.t ++ betwL c b p.g ++ s).getLast? = s.getLast? := last_app hne
      exact hL c' (by rw [← this]; exact hc') b' hb'
    · intro e0
      exact hne (List.append_eq_nil_iff.1 e0).2
    · simp only [List.length_append]; omega
    · have : 0 < s.length := List.length_pos_iff.2 hne
      simp only [List.length_append, List.length_cons, List.length_nil]; omega
theorem sp_step {q : Sp} (h : SpInv q) {p : Prt} (hn : I64 p.n) : SpInv (spStep q p) := by
  unfold spStep
  cases hs : spellP p with
  | none => exact h
  | some z => obtain ⟨s, x⟩ := z; exact sp_one h hn hs
theorem sp_run : ∀ (ps : List Prt) (q : Sp), SpInv q → (∀ p ∈ ps, I64 p.n) → SpInv (ps.foldl spStep q)
  | [], q, h, _ => h
  | p :: ps, q, h, hp => by rw [List.foldl_cons]; exact sp_run ps _ (sp_step h (hp p (by simp))) fun u hu => hp u (by simp [hu])
theorem sp_scan {q : Sp} (h : SpInv q) : scanX ⟨q.t.toArray⟩ = (q.w ++ [endTok q.t.length], 0, 0) := by
  obtain ⟨⟨ps, h1, h2, h3, -⟩, -, h6, -⟩ := h
  have hz : (⟨q.t.toArray⟩ : ByteArray).size = q.t.length := by show q.t.toArray.size = _; simp
  have := made_toks (T := ⟨q.t.toArray⟩) gp_nil ps 0 (Nat.zero_le _) (by unfold rest; rw [List.drop_zero]; show q.t.toArray.toList = _; simp [h1]) h2
  rw [scan_eq (by rw [hz]; exact h6) this, tks_tkl, ← h3, ← h1, Nat.zero_add]
end Go.Proofs.YtaemcbabegjfnaaDoor
