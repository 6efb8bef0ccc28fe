/- Which edges may be: strata.fit and the document's Fit. (By mk_fit.py.) -/
import Derived.Test.YtjifhmlfnnagcaaEdgeMem
import Derived.Test.YtjifhmlfnnagcaaOverAt
namespace Go.Proofs.Ytjifhmlfnnagcaa
set_option linter.unusedSimpArgs false
set_option linter.unusedVariables false
open Go.RowKit

def inB (x n : Int) : Bool := decide (0 ≤ x) && decide (x < n)
def eIn (n : Int) (e : Edg) : Bool := inB e.f n && inB e.t n
def eOut (n : Int) (e : Edg) : Bool := !eIn n e
def fitP (n : Int) (es : List Edg) : Bool := decide (0 ≤ n) && (decide (n ≤ 128) && !es.any (eOut n))

/-- What slices.IndexFunc answers. -/
def findI {α : Type} (p : α → Bool) (l : List α) : Int := match l.findIdx? p with | none => -1 | some k => k
theorem findI_at {α : Type} {p : α → Bool} {l : List α} {k : Nat} {x : α} (hx : l[k]? = some x) (ha : ∀ y ∈ l.take k, p y = false) (he : p x = true) : findI p l = k := by
  have hk : k < l.length := (List.getElem?_eq_some_iff.1 hx).1
  have h1 : l = l.take k ++ (x :: l.drop (k + 1)) := by
    have := (List.take_append_drop (k + 1) l).symm
    rw [take_snoc8 hx] at this
    simpa using this
  have h2 : l.findIdx? p = some k := by
    rw [h1, List.findIdx?_append, List.findIdx?_eq_none_iff.2 (fun y hy => by simpa using ha y hy)]
    simp [List.findIdx?_cons, he]
    omega
  unfold findI
  rw [h2]
theorem findI_no {α : Type} {p : α → Bool} {l : List α} (ha : ∀ y ∈ l.take l.length, p y = false) : findI p l = -1 := by
  rw [List.take_of_length_le (Nat.le_refl _)] at ha
  unfold findI
  rw [List.findIdx?_eq_none_iff.2 (fun y hy => by simpa using ha y hy)]
theorem all_snoc {α : Type} {p : α → Bool} {l : List α} {k : Nat} {x : α} (hx : l[k]? = some x) (ha : ∀ y ∈ l.take k, p y = false) (he : p x = false) : ∀ y ∈ l.take (k + 1), p y = false := by
  rw [take_snoc8 hx]
  intro y hy
  rcases List.mem_append.1 hy with h1 | h1
  · exact ha y h1
  · simp only [List.mem_singleton] at h1; rw [h1]; exact he
theorem findI_any {α : Type} (p : α → Bool) (l : List α) : decide (0 ≤ findI p l) = l.any p := by
  unfold findI
  cases h : l.findIdx? p with
  | none =>
    rw [List.findIdx?_eq_none_iff] at h
    have : l.any p = false := by rw [List.any_eq_false]; intro y hy; simp [h y hy]
    rw [this]; rfl
  | some k =>
    have : l.any p = true := by
      rw [← List.findIdx?_isSome, h]; rfl
    rw [this]; simp

theorem within_any (x n : Int) (w : World) : Calls Try.prog 32 #[.int .i64 x, .int .i64 n] w fun e w' => e = .returned (.bool (inB x n)) ∧ w' = w := by
  unfold inB
  by_cases h : 0 ≤ x
  · by_cases h2 : x < n
    · go_enter Try.func32, Try.ntmps32
      go_wp2
      go_ret
      simp [h, h2]
    · go_enter Try.func32, Try.ntmps32
      go_wp2
      go_ret
      simp [h, h2]
  · go_enter Try.func32, Try.ntmps32
    go_wp2
    go_ret
    have h' : ¬ 0 ≤ x := by omega
    simp [h']

set_option maxHeartbeats 1000000 in
theorem astray_any {w : World} {bn : Nat} {n : Int} (hn : w.cell? ⟨bn, 0, none⟩ = some (.int .i64 n)) (x : Edg) :
    Calls Try.prog 31 #[.agg #[.int .i64 x.f, .int .i64 x.t, .bool x.neg, .int .i64 x.r], .pointer (some ⟨bn, 0, none⟩)] w fun e w' => e = .returned (.bool (eOut n x)) ∧ Below w.heap.size w w' := by
  obtain ⟨f, t, g, r⟩ := x
  have hb := belo1 w (.cells #[.int .i64 f, .int .i64 t, .bool g, .int .i64 r] 25)
  have hc := kept_cell hb hn
  have HB := hide hb
  unfold eOut eIn
  clear hb hn
  have w1 := fun V : World => within_any f n V
  have w2 := fun V : World => within_any t n V
  obtain ⟨p, hp⟩ : ∃ p, inB f n = p := ⟨_, rfl⟩
  obtain ⟨q, hq⟩ : ∃ q, inB t n = q := ⟨_, rfl⟩
  dsimp only
  rw [hp] at w1 ⊢
  rw [hq] at w2 ⊢
  clear hp hq
  cases p
  · go_enter Try.func31, Try.ntmps31
    go_wp2_with (go_at_call 32; refine (w1 _).mono ?_; clear w1; rintro e v2 ⟨rfl, hw⟩; have hw := hw.symm; subst hw)
    go_ret
    exact ⟨rfl, HB.out⟩
  · cases q
    · go_enter Try.func31, Try.ntmps31
      go_wp2_with (first | (go_at_call 32; refine (w1 _).mono ?_; clear w1; rintro e v2 ⟨rfl, hw⟩; have hw := hw.symm; subst hw) | (go_at_call 32; refine (w2 _).mono ?_; clear w2; rintro e v2 ⟨rfl, hw⟩; have hw := hw.symm; subst hw))
      go_ret
      exact ⟨rfl, HB.out⟩
    · go_enter Try.func31, Try.ntmps31
      go_wp2_with (first | (go_at_call 32; refine (w1 _).mono ?_; clear w1; rintro e v2 ⟨rfl, hw⟩; have hw := hw.symm; subst hw) | (go_at_call 32; refine (w2 _).mono ?_; clear w2; rintro e v2 ⟨rfl, hw⟩; have hw := hw.symm; subst hw))
      go_ret
      exact ⟨rfl, HB.out⟩

set_option maxHeartbeats 1000000 in
theorem idx_fit {w : World} {v : Value} {es : List Edg} {bn : Nat} {n : Int} (h : Has elEdg w v es)
    (hf : ∀ V : World, Below w.heap.size w V → ∀ x ∈ es, Calls Try.prog 31 #[.agg #[.int .i64 x.f, .int .i64 x.t, .bool x.neg, .int .i64 x.r], .pointer (some ⟨bn, 0, none⟩)] V fun e w' => e = .returned (.bool (eOut n x)) ∧ Below V.heap.size V w') :
    Calls Try.prog 38 #[v, .func (.func 31) #[] #[.pointer (some ⟨bn, 0, none⟩)]] w fun e w' => e = .returned (.int .i64 (findI (eOut n) es)) ∧ Below w.heap.size w w' := by
  obtain ⟨va, vc, rfl, -, -, hlen⟩ := h.shape
  have HL := hide h
  have HF := hide hf
  clear h hf
  go_enter Try.func38, Try.ntmps38
  go_wp2
  go_loopw [5, 8] (fun _ i wl => ∃ k : Nat, k ≤ es.length ∧ i = .int .i64 k ∧ Hid (∀ x ∈ es.take k, eOut n x = false) ∧ Hid (Below w.heap.size w wl)) (fun _ i _ => es.length - (intOf i).toNat)
  case atStart => exact ⟨0, by omega, rfl, by show ∀ x ∈ es.take 0, eOut n x = false; simp, Below.refl _ _⟩
  case round =>
    obtain ⟨k, hk, rfl, HK, HB⟩ := hrel
    by_cases hlt : k < es.length
    · have hi : (k : Int) < (es.length : Int) := by omega
      have hi0 : (0 : Int) ≤ (k : Int) := by omega
      obtain ⟨b, off, rfl, -, -, hrow⟩ := HL.out.row (by omega)
      obtain ⟨x, hx⟩ : ∃ x, es[k]? = some x := ⟨_, List.getElem?_eq_getElem hlt⟩
      have y0 := kept_cell HB.out (hrow k x hx 0 _ rfl)
      have y1 := kept_cell HB.out (hrow k x hx 1 _ rfl)
      have y2 := kept_cell HB.out (hrow k x hx 2 _ rfl)
      have y3 := kept_cell HB.out (hrow k x hx 3 _ rfl)
      simp only [elEdg, Nat.add_zero] at y0 y1 y2 y3
      have HX := hide hx
      have HC := hide (HF.out wr HB.out x (List.mem_of_getElem? hx))
      clear hrow hx
      cases he : eOut n x with
      | true =>
        rw [he] at HC
        have HR := hide (findI_at HX.out HK.out he)
        go_wp2_with (go_at_call 31; refine HC.out.mono ?_; rintro e w2 ⟨rfl, h2⟩; have HB2 := hide (HB.out.trans (h2.mono HB.out.size)); clear h2)
        go_ret
        exact ⟨by rw [HR.out]; rfl, HB2.out⟩
      | false =>
        rw [he] at HC
        have HF2 := hide (all_snoc HX.out HK.out he)
        go_wp2_with (go_at_call 31; refine HC.out.mono ?_; rintro e w2 ⟨rfl, h2⟩; have HB2 := hide (HB.out.trans (h2.mono HB.out.size)); clear h2)
        go_roundw
        case rel => exact ⟨k + 1, by omega, by go_num, HF2, HB2⟩
        case measure => simp [intOf]; omega
    · obtain rfl : k = es.length := by omega
      have hi : ¬ (es.length : Int) < (es.length : Int) := by omega
      have HR := hide (findI_no HK.out)
      go_wp2
      go_ret
      exact ⟨by rw [HR.out]; rfl, HB.out⟩

theorem contains_fit {w : World} {v : Value} {es : List Edg} {bn : Nat} {n : Int} (h : Has elEdg w v es)
    (hf : ∀ V : World, Below w.heap.size w V → ∀ x ∈ es, Calls Try.prog 31 #[.agg #[.int .i64 x.f, .int .i64 x.t, .bool x.neg, .int .i64 x.r], .pointer (some ⟨bn, 0, none⟩)] V fun e w' => e = .returned (.bool (eOut n x)) ∧ Below V.heap.size V w') :
    Calls Try.prog 33 #[v, .func (.func 31) #[] #[.pointer (some ⟨bn, 0, none⟩)]] w fun e w' => e = .returned (.bool (es.any (eOut n))) ∧ Below w.heap.size w w' := by
  have HI := hide (idx_fit h hf)
  clear h hf
  have HR := hide (findI_any (eOut n) es)
  obtain ⟨r, hr⟩ : ∃ r, findI (eOut n) es = r := ⟨_, rfl⟩
  rw [hr] at HI HR
  clear hr
  go_enter Try.func33, Try.ntmps33
  by_cases h0 : 0 ≤ r
  · go_wp2_with (go_at_call 38; refine HI.out.mono ?_; rintro e w2 ⟨rfl, h2⟩; have HB2 := hide h2; clear h2)
    go_ret
    exact ⟨by rw [← HR.out]; simp [h0], HB2.out⟩
  · go_wp2_with (go_at_call 38; refine HI.out.mono ?_; rintro e w2 ⟨rfl, h2⟩; have HB2 := hide h2; clear h2)
    go_ret
    exact ⟨by rw [← HR.out]; simp [h0], HB2.out⟩

set_option maxHeartbeats 1000000 in
theorem fit_any {w : World} {v : Value} {es : List Edg} (h : Has elEdg w v es) (n : Int) :
    Calls Try.prog 24 #[.int .i64 n, v] w fun e w' => e = .returned (.bool (fitP n es)) ∧ Below w.heap.size w w' := by
  have hb := belo1 w (.cells #[.int .i64 n] 3)
  have hc : (w.alloc (.cells #[.int .i64 n] 3)).cell? ⟨w.heap.size, 0, none⟩ = some (.int .i64 n) := by simp
  have HC := hide (contains_fit (h.kept hb) (bn := w.heap.size) (n := n) (fun V hV x _ => astray_any (kept_cell hV hc) x))
  have HB := hide hb
  obtain ⟨va, vc, rfl, -, -, hlen⟩ := h.shape
  unfold fitP
  clear h hb
  obtain ⟨a, ha⟩ : ∃ a, es.any (eOut n) = a := ⟨_, rfl⟩
  rw [ha] at HC ⊢
  clear ha
  by_cases h0 : 0 ≤ n
  · by_cases h1 : n ≤ 128
    · go_enter Try.func24, Try.ntmps24
      go_wp2_with (go_at_call 33; refine HC.out.mono ?_; rintro e v2 ⟨rfl, h2⟩; have HB2 := hide (HB.out.trans (h2.mono HB.out.size)); clear h2)
      go_ret
      exact ⟨by simp [h0, h1], HB2.out⟩
    · go_enter Try.func24, Try.ntmps24
      go_wp2
      go_ret
      exact ⟨by simp [show ¬ n ≤ 128 by omega], HB.out⟩
  · go_enter Try.func24, Try.ntmps24
    go_wp2
    go_ret
    exact ⟨by simp [show ¬ 0 ≤ n by omega], HB.out⟩
end Go.Proofs.Ytjifhmlfnnagcaa
