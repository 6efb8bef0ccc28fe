/- The walk's step back, and a component told. -/
import Derived.Test.YtjifhmlfnnagcaaTarjanPure
namespace Go.Proofs.Ytjifhmlfnnagcaa
set_option linter.unusedSimpArgs false
set_option linter.unusedVariables false

section
variable {n : Nat} {E : Nat → Nat → Prop} {s : Tj} {P : List Nat} {a : Nat}

theorem TInv.low_le (h : TInv n E s) {v : Nat} (hv : v ∈ s.opn) : 0 ≤ s.low v ∧ s.low v ≤ s.place v := by
  by_cases hp : v ∈ s.path
  · have := h.gray v hp
    have := (h.mem hv).1
    omega
  · have := h.back v hv hp
    omega

theorem TInv.last (h : TInv n E s) (hP : s.path = P ++ [a]) : a ∈ s.path ∧ a ∈ s.opn ∧ (∀ g ∈ P, s.place g < s.place a) ∧ a ∉ P := by
  have h1 : a ∈ s.path := by rw [hP]; simp
  have hu := h.up
  rw [hP, List.pairwise_append] at hu
  have h2 : ∀ g ∈ P, s.place g < s.place a := fun g hg => hu.2.2 g hg a (by simp)
  exact ⟨h1, h.sub a h1, h2, fun hm => by have := h2 a hm; omega⟩

theorem TInv.leave (h : TInv n E s) (hE : ∀ a b, E a b → a < n ∧ b < n) (hP : s.path = P ++ [a]) (hmet : ∀ p, E a p → 0 ≤ s.place p) {ℓ : Int} (h1 : ℓ ≤ s.place a) (h2 : ∀ t, E a t → s.home t < 0 → t ≠ a → ℓ ≤ s.low t)
    (h3 : ℓ = s.place a ∨ ∃ t, t ≠ a ∧ E a t ∧ s.home t < 0 ∧ ℓ = s.low t) (hne : ℓ ≠ s.place a) : TInv n E { s with path := P, low := updI s.low a ℓ } := by
  obtain ⟨hap, hao, hPl, haP⟩ := h.last hP
  have hsub : ∀ v ∈ P, v ∈ s.path := fun v hv => by rw [hP]; exact List.mem_append_left _ hv
  have hpath : ∀ v ∈ s.path, v ∈ P ∨ v = a := fun v hv => by rw [hP] at hv; simpa using hv
  have hopn : ∀ t, E a t → s.home t < 0 → t ∈ s.opn := fun t ht hh => by
    rcases h.met t (hE a t ht).2 (hmet t ht) with h4 | h4
    · exact h4
    · omega
  obtain ⟨t0, ht0, hEt, hht, hlt⟩ := h3.resolve_left hne
  have hto := hopn t0 hEt hht
  have hl0 : 0 ≤ ℓ := by rw [hlt]; exact (h.low_le hto).1
  have han := (h.mem hao).2.2.1
  refine ⟨h.at_, h.met, h.set, fun v hv => h.sub v (hsub v hv), ?_, ?_, ?_, ?_, ?_, ?_, h.clos, h.least, h.len, ?_, h.pl, ?_, h.ho⟩
  · have hu := h.up
    rw [hP, List.pairwise_append] at hu
    exact hu.1
  · intro v hv h0
    dsimp only at hv h0 ⊢
    obtain ⟨u, hu, hEu, hlu, hdom, hor⟩ := h.par v hv h0
    refine ⟨u, hu, hEu, hlu, fun g hg hgl => hdom g (hsub g hg) hgl, ?_⟩
    by_cases hua : u = a
    · subst hua
      have hva : v ≠ u := fun e => by rw [e] at hlu; omega
      right
      refine ⟨fun hm => by have := hPl v hm; omega, ?_⟩
      rw [updI_at, updI_ne _ _ hva]
      exact h2 v hEu (h.mem hv).2.1 hva
    · rcases hor with h4 | ⟨h4, h5⟩
      · rcases hpath u h4 with h6 | h6
        · exact .inl h6
        · exact absurd h6 hua
      · have hva : v ≠ a := fun e => by rw [e] at h4; exact h4 hap
        right
        exact ⟨fun hm => h4 (hsub v hm), by rw [updI_ne _ _ hua, updI_ne _ _ hva]; exact h5⟩
  · intro v hv
    dsimp only at hv ⊢
    have hp := h.root v hv
    rcases hpath v hp with h6 | h6
    · exact h6
    · subst h6
      have := (h.at_ 0 v hv).1
      omega
  · intro v hv hn
    dsimp only at hv hn ⊢
    by_cases hva : v = a
    · subst hva
      rw [updI_at]
      refine ⟨hl0, by omega, ?_⟩
      by_cases ht : t0 ∈ s.path
      · exact ⟨t0, hto, by rw [hlt]; exact (h.gray t0 ht).symm, .one hEt⟩
      · obtain ⟨_, _, u, hu, g3, g4⟩ := h.back t0 hto ht
        exact ⟨u, hu, by rw [hlt]; exact g3, (Reach.one hEt).trans g4⟩
    · rw [updI_ne _ _ hva]
      refine h.back v hv fun hm => ?_
      rcases hpath v hm with h6 | h6
      · exact hn h6
      · exact hva h6
  · intro v hv hn u hEu
    dsimp only at hv hn ⊢
    by_cases hva : v = a
    · subst hva
      rw [updI_at]
      refine ⟨hmet u hEu, fun hh => ?_⟩
      by_cases huv : u = v
      · rw [huv]; exact h1
      · have := h2 u hEu hh huv
        have := (h.low_le (hopn u hEu hh)).2
        omega
    · rw [updI_ne _ _ hva]
      refine h.done v hv (fun hm => ?_) u hEu
      rcases hpath v hm with h6 | h6
      · exact hn h6
      · exact hva h6
  · intro v hv
    dsimp only at hv ⊢
    have hva : v ≠ a := fun e => by rw [e] at hv; exact haP hv
    rw [updI_ne _ _ hva]
    exact h.gray v (hsub v hv)
  · have := h.lens
    rw [hP] at this
    simp at this
    show P.length ≤ n
    omega
  · intro v hv
    dsimp only
    by_cases hva : v = a
    · rw [hva, updI_at]
      have := h.pl a han
      omega
    · rw [updI_ne _ _ hva]; exact h.lo v hv

/-- What stands open from a's place on, where nothing of it reaches lower. -/
theorem TInv.comp (h : TInv n E s) (hE : ∀ a b, E a b → a < n ∧ b < n) (hP : s.path = P ++ [a]) (hmet : ∀ p, E a p → 0 ≤ s.place p) (h2 : ∀ t, E a t → s.home t < 0 → t ≠ a → s.place a ≤ s.low t) :
    (∀ v ∈ s.opn, s.place a ≤ s.place v → Mut E a v) ∧ ∀ v ∈ s.opn, s.place a ≤ s.place v → ∀ u, E v u → 0 ≤ s.home u ∨ (u ∈ s.opn ∧ s.place a ≤ s.place u) := by
  obtain ⟨hap, hao, hPl, haP⟩ := h.last hP
  have hpath : ∀ v ∈ s.path, v ∈ P ∨ v = a := fun v hv => by rw [hP] at hv; simpa using hv
  have hgr : ∀ v ∈ s.path, s.place a ≤ s.place v → v = a := fun v hv hl => by
    rcases hpath v hv with h6 | h6
    · have := hPl v h6; omega
    · exact h6
  have key : ∀ (k : Nat) (v : Nat), v ∈ s.opn → s.place a ≤ s.place v → (s.place v).toNat = k → Reach E a v ∧ (v ≠ a → s.place a ≤ s.low v) := by
    intro k
    induction k using Nat.strongRecOn with
    | ind k ih =>
      intro v hv hl hk
      by_cases hva : v = a
      · subst hva; exact ⟨.refl _, fun e => absurd rfl e⟩
      · have hlt : s.place a < s.place v := by
          rcases Int.lt_or_eq_of_le hl with h5 | h5
          · exact h5
          · exact absurd (h.inj hao hv h5).symm hva
        have h0 := (h.mem hao).1
        obtain ⟨u, hu, hEu, hlu, hdom, hor⟩ := h.par v hv (by omega)
        have hau := hdom a hap hlt
        have hu0 := (h.mem hu).1
        obtain ⟨r1, r2⟩ := ih (s.place u).toNat (by omega) u hu hau rfl
        refine ⟨r1.tail hEu, fun _ => ?_⟩
        by_cases hua : u = a
        · subst hua; exact h2 v hEu (h.mem hv).2.1 hva
        · rcases hor with h4 | ⟨h4, h5⟩
          · exact absurd (hgr u h4 hau) hua
          · have := r2 hua; omega
  have key2 : ∀ (k : Nat) (v : Nat), v ∈ s.opn → s.place a ≤ s.place v → (s.place v).toNat = k → Reach E v a := by
    intro k
    induction k using Nat.strongRecOn with
    | ind k ih =>
      intro v hv hl hk
      by_cases hva : v = a
      · subst hva; exact .refl _
      · have hnp : v ∉ s.path := fun hm => hva (hgr v hm hl)
        obtain ⟨g1, g2, u, hu, g3, g4⟩ := h.back v hv hnp
        have := (key _ v hv hl rfl).2 hva
        exact g4.trans (ih (s.place u).toNat (by omega) u hu (by omega) rfl)
  refine ⟨fun v hv hl => ⟨(key _ v hv hl rfl).1, key2 _ v hv hl rfl⟩, fun v hv hl u hEu => ?_⟩
  rcases Int.lt_or_le (s.home u) 0 with hh | hh
  · right
    by_cases hva : v = a
    · subst hva
      have huo : u ∈ s.opn := by
        rcases h.met u (hE v u hEu).2 (hmet u hEu) with h4 | h4
        · exact h4
        · omega
      refine ⟨huo, ?_⟩
      by_cases hua : u = v
      · rw [hua]; exact Int.le_refl _
      · have := h2 u hEu hh hua
        have := (h.low_le huo).2
        omega
    · have hnp : v ∉ s.path := fun hm => hva (hgr v hm hl)
      obtain ⟨g1, g2⟩ := h.done v hv hnp u hEu
      have huo : u ∈ s.opn := by
        rcases h.met u (hE v u hEu).2 g1 with h4 | h4
        · exact h4
        · omega
      have := (key _ v hv hl rfl).2 hva
      have := g2 hh
      exact ⟨huo, by omega⟩
  · exact .inl hh

def setH (f : Nat → Int) (l : List Nat) (m : Int) : Nat → Int := fun v => if v ∈ l then m else f v

theorem TInv.settle (h : TInv n E s) (hE : ∀ a b, E a b → a < n ∧ b < n) (hP : s.path = P ++ [a]) (hmet : ∀ p, E a p → 0 ≤ s.place p) (h2 : ∀ t, E a t → s.home t < 0 → t ≠ a → s.place a ≤ s.low t) {m : Nat}
    (hm : m ∈ s.opn.drop (s.place a).toNat) (hmin : ∀ v ∈ s.opn.drop (s.place a).toNat, m ≤ v) :
    TInv n E { s with path := P, low := updI s.low a (s.place a), opn := s.opn.take (s.place a).toNat, home := setH s.home (s.opn.drop (s.place a).toNat) m } := by
  obtain ⟨hap, hao, hPl, haP⟩ := h.last hP
  obtain ⟨c1, c2⟩ := h.comp hE hP hmet h2
  have h0 := (h.mem hao).1
  have hpath : ∀ v ∈ s.path, v ∈ P ∨ v = a := fun v hv => by rw [hP] at hv; simpa using hv
  have hsubP : ∀ v ∈ P, v ∈ s.path := fun v hv => by rw [hP]; exact List.mem_append_left _ hv
  have hdrop : ∀ v, v ∈ s.opn.drop (s.place a).toNat ↔ v ∈ s.opn ∧ s.place a ≤ s.place v := fun v => by
    constructor
    · intro hv
      have hvo := List.mem_of_mem_drop hv
      refine ⟨hvo, ?_⟩
      obtain ⟨i, hi⟩ := List.mem_iff_getElem?.1 hv
      rw [List.getElem?_drop] at hi
      have := (h.at_ _ v hi).1
      omega
    · rintro ⟨hv, hl⟩
      have h4 := (h.mem hv).2.2.2
      have h5 := (h.mem hv).1
      rw [List.mem_iff_getElem?]
      refine ⟨(s.place v).toNat - (s.place a).toNat, ?_⟩
      rw [List.getElem?_drop, show (s.place a).toNat + ((s.place v).toNat - (s.place a).toNat) = (s.place v).toNat by omega]
      exact h4
  have htake : ∀ v, v ∈ s.opn.take (s.place a).toNat ↔ v ∈ s.opn ∧ s.place v < s.place a := fun v => by
    constructor
    · intro hv
      have hvo := List.mem_of_mem_take hv
      refine ⟨hvo, ?_⟩
      obtain ⟨i, hi⟩ := List.mem_iff_getElem?.1 hv
      rw [List.getElem?_take] at hi
      split at hi
      · have := (h.at_ _ v hi).1
        omega
      · cases hi
    · rintro ⟨hv, hl⟩
      have h4 := (h.mem hv).2.2.2
      have h5 := (h.mem hv).1
      rw [List.mem_iff_getElem?]
      refine ⟨(s.place v).toNat, ?_⟩
      rw [List.getElem?_take, if_pos (by omega)]
      exact h4
  have hin : ∀ v, v ∈ s.opn.drop (s.place a).toNat → setH s.home (s.opn.drop (s.place a).toNat) m v = m := fun v hv => by simp [setH, hv]
  have hout : ∀ v, v ∉ s.opn.drop (s.place a).toNat → setH s.home (s.opn.drop (s.place a).toNat) m v = s.home v := fun v hv => by simp [setH, hv]
  have hnd : ∀ v, v ∈ s.opn.take (s.place a).toNat → v ∉ s.opn.drop (s.place a).toNat := fun v hv hd => by
    have := ((htake v).1 hv).2
    have := ((hdrop v).1 hd).2
    omega
  have hnew : ∀ v, 0 ≤ s.home v → 0 ≤ setH s.home (s.opn.drop (s.place a).toNat) m v := fun v hv => by
    by_cases hd : v ∈ s.opn.drop (s.place a).toNat
    · rw [hin v hd]; omega
    · rw [hout v hd]; exact hv
  have hmn : m < n := (h.mem ((hdrop m).1 hm).1).2.2.1
  have hle : s.opn.length ≤ n := h.len
  refine ⟨?_, ?_, ?_, ?_, ?_, ?_, ?_, ?_, ?_, ?_, ?_, ?_, ?_, ?_, h.pl, ?_, ?_⟩
  · intro i v hi
    dsimp only at hi ⊢
    have hv := List.mem_of_getElem? hi
    rw [hout v (hnd v hv)]
    rw [List.getElem?_take] at hi
    split at hi
    · exact h.at_ i v hi
    · cases hi
  · intro v hv hp
    dsimp only at hp ⊢
    rcases h.met v hv hp with h4 | h4
    · rcases Int.lt_or_le (s.place v) (s.place a) with h5 | h5
      · exact .inl ((htake v).2 ⟨h4, h5⟩)
      · right; rw [hin v ((hdrop v).2 ⟨h4, h5⟩)]; omega
    · exact .inr (hnew v h4)
  · intro v hv hh
    dsimp only at hh ⊢
    by_cases hd : v ∈ s.opn.drop (s.place a).toNat
    · exact (h.mem ((hdrop v).1 hd).1).1
    · rw [hout v hd] at hh; exact h.set v hv hh
  · intro v hv
    dsimp only at hv ⊢
    exact (htake v).2 ⟨h.sub v (hsubP v hv), hPl v hv⟩
  · have hu := h.up
    rw [hP, List.pairwise_append] at hu
    exact hu.1
  · intro v hv hp
    dsimp only at hv hp ⊢
    obtain ⟨hvo, hva⟩ := (htake v).1 hv
    obtain ⟨u, hu, hEu, hlu, hdom, hor⟩ := h.par v hvo hp
    have hua : u ≠ a := fun e => by rw [e] at hlu; omega
    have hva' : v ≠ a := fun e => by rw [e] at hva; omega
    refine ⟨u, (htake u).2 ⟨hu, by omega⟩, hEu, hlu, fun g hg hgl => hdom g (hsubP g hg) hgl, ?_⟩
    rcases hor with h4 | ⟨h4, h5⟩
    · rcases hpath u h4 with h6 | h6
      · exact .inl h6
      · exact absurd h6 hua
    · right
      exact ⟨fun hm => h4 (hsubP v hm), by rw [updI_ne _ _ hua, updI_ne _ _ hva']; exact h5⟩
  · intro v hv
    dsimp only at hv ⊢
    have hv' := (htake v).1 (List.mem_of_getElem? hv)
    rw [List.getElem?_take] at hv
    split at hv
    · rcases hpath v (h.root v hv) with h6 | h6
      · exact h6
      · rw [h6] at hv'; omega
    · cases hv
  · intro v hv hn
    dsimp only at hv hn ⊢
    obtain ⟨hvo, hva⟩ := (htake v).1 hv
    have hva' : v ≠ a := fun e => by rw [e] at hva; omega
    rw [updI_ne _ _ hva']
    have hnp : v ∉ s.path := fun hm => by
      rcases hpath v hm with h6 | h6
      · exact hn h6
      · exact hva' h6
    obtain ⟨g1, g2, u, hu, g3, g4⟩ := h.back v hvo hnp
    exact ⟨g1, g2, u, (htake u).2 ⟨hu, by omega⟩, g3, g4⟩
  · intro v hv hn u hEu
    dsimp only at hv hn ⊢
    obtain ⟨hvo, hva⟩ := (htake v).1 hv
    have hva' : v ≠ a := fun e => by rw [e] at hva; omega
    rw [updI_ne _ _ hva']
    have hnp : v ∉ s.path := fun hm => by
      rcases hpath v hm with h6 | h6
      · exact hn h6
      · exact hva' h6
    obtain ⟨g1, g2⟩ := h.done v hvo hnp u hEu
    refine ⟨g1, fun hh => g2 ?_⟩
    rcases Int.lt_or_le (s.home u) 0 with h7 | h7
    · exact h7
    · have := hnew u h7; omega
  · intro v hv
    dsimp only at hv ⊢
    have hva : v ≠ a := fun e => by rw [e] at hv; exact haP hv
    rw [updI_ne _ _ hva]
    exact h.gray v (hsubP v hv)
  · intro v u hv hh hEu
    dsimp only at hh ⊢
    by_cases hd : v ∈ s.opn.drop (s.place a).toNat
    · obtain ⟨hvo, hl⟩ := (hdrop v).1 hd
      rcases c2 v hvo hl u hEu with h7 | h7
      · exact hnew u h7
      · rw [hin u ((hdrop u).2 h7)]; omega
    · rw [hout v hd] at hh
      exact hnew u (h.clos v u hv hh hEu)
  · intro v hv hh
    dsimp only at hh ⊢
    by_cases hd : v ∈ s.opn.drop (s.place a).toNat
    · obtain ⟨hvo, hl⟩ := (hdrop v).1 hd
      obtain ⟨hmo, hml⟩ := (hdrop m).1 hm
      rw [hin v hd]
      refine ⟨m, rfl, (c1 v hvo hl).symm.trans (c1 m hmo hml), fun u hu => hmin u ?_⟩
      have hS : ∀ x y, ((x < n ∧ 0 ≤ s.home x) ∨ (x ∈ s.opn ∧ s.place a ≤ s.place x)) → E x y → ((y < n ∧ 0 ≤ s.home y) ∨ (y ∈ s.opn ∧ s.place a ≤ s.place y)) := fun x y hx hxy => by
        rcases hx with h7 | h7
        · exact .inl ⟨(hE x y hxy).2, h.clos x y h7.1 h7.2 hxy⟩
        · rcases c2 x h7.1 h7.2 y hxy with h8 | h8
          · exact .inl ⟨(hE x y hxy).2, h8⟩
          · exact .inr h8
      rcases hu.1.closed hS (.inr ⟨hvo, hl⟩) with h7 | h7
      · have h9 := hu.2.closed (S := fun x => x < n ∧ 0 ≤ s.home x) (fun x y hx hxy => ⟨(hE x y hxy).2, h.clos x y hx.1 hx.2 hxy⟩) h7
        have := (h.mem hvo).2.1
        omega
      · exact (hdrop u).2 h7
    · rw [hout v hd] at hh ⊢
      exact h.least v hv hh
  · show (s.opn.take _).length ≤ n
    rw [List.length_take]; omega
  · have := h.lens
    rw [hP] at this
    simp at this
    show P.length ≤ n
    omega
  · intro v hv
    dsimp only
    by_cases hva : v = a
    · rw [hva, updI_at]
      have := h.pl a (h.mem hao).2.2.1
      omega
    · rw [updI_ne _ _ hva]; exact h.lo v hv
  · intro v hv
    dsimp only
    by_cases hd : v ∈ s.opn.drop (s.place a).toNat
    · rw [hin v hd]; omega
    · rw [hout v hd]; exact h.ho v hv

/-- At its end every predicate's home is the least of its component. -/
theorem TInv.ends (h : TInv n E s) (hp : s.path = []) (hw : ∀ v, v < n → 0 ≤ s.place v) : ∀ v, v < n → LeastOf E v (s.home v) := by
  intro v hv
  have ho : s.opn = [] := by
    cases e : s.opn with
    | nil => rfl
    | cons a r => have := h.root a (by rw [e]; rfl); rw [hp] at this; cases this
  rcases h.met v hv (hw v hv) with h1 | h1
  · rw [ho] at h1; cases h1
  · exact h.least v hv h1
end

theorem least_eq {E : Nat → Nat → Prop} {u v : Nat} {x y : Int} (hu : LeastOf E u x) (hv : LeastOf E v y) : x = y ↔ Mut E u v := by
  obtain ⟨m, rfl, h1, h2⟩ := hu
  obtain ⟨k, rfl, h3, h4⟩ := hv
  constructor
  · intro e
    have : m = k := by omega
    subst this
    exact h1.trans h3.symm
  · intro e
    have a1 := h2 k (e.trans h3)
    have a2 := h4 m (e.symm.trans h1)
    omega
end Go.Proofs.Ytjifhmlfnnagcaa
