/- strconv.unquote at a string that begins with a double quote. -/
import Derived.Test.YtoppnjpajeipdaaGreatDoorProg
import Derived.Test.YtoppnjpajeipdaaGreatDoorUnqUtf
import Derived.Test.YtoppnjpajeipdaaGreatDoorUnqChar
import Derived.Test.YtoppnjpajeipdaaGreatDoorReadPure
import Derived.Shelf.Utf8.AppendRunePlain
namespace Go.Proofs.YtoppnjpajeipdaaGreatDoor
set_option linter.unusedSimpArgs false
set_option linter.unusedVariables false
open Go.RowKit

theorem apprune_any (B : Nat) (v : Value) (vs : List Int) (r : Int) (hr : -2147483648 ≤ r ∧ r ≤ 2147483647) (w : World) (hown : w.ownsRow B 5 1 v vs.length (vs.map (Value.int .u8))) (hlen : vs.length ≤ 100000000) (hB : B ≤ w.heap.size) :
    Calls Tryz.prog 76 #[v, .int .i32 r] w fun e w' => ∃ v' us, e = .returned v' ∧ us.length ≤ 4 ∧ w'.ownsRow B 5 1 v' (vs ++ us).length ((vs ++ us).map (Value.int .u8)) ∧ Below B w w' :=
  (Any.utf8_AppendRune_plain Tryz.lays242 Tryz.infoByte B v vs.length (vs.map (Value.int .u8)) r hr.1 hr.2 w hown (by omega) hB).mono fun e w' ⟨v', he, ho, o, hg⟩ => by
    refine ⟨v', Lib.encodeRuneZ r, he, (Lib.encodeRuneZ_length r).2, ?_, grown_below (Below.refl _ _) hB hown hg⟩
    rw [List.length_append, List.map_append]
    have e : Lib.runeCells r = (Lib.encodeRuneZ r).map (Value.int .u8) := rfl
    rw [e] at ho
    have ho : w'.ownsRow B 5 1 v' (vs.length + (List.map (Value.int .u8) (Lib.encodeRuneZ r)).length) (List.map (Value.int .u8) vs ++ List.map (Value.int .u8) (Lib.encodeRuneZ r)) := ho
    simpa using ho

/-- What the call answers. -/
def QAns (s : ByteArray) (e : Ending) : Prop :=
  (∃ out rm, e = .returned (.tuple #[.string out, .string rm, .nilIface]) ∧ out.size ≤ 4 * s.size ∧ rm.size ≤ s.size ∧ ∀ T, Byt T → Quo T s → intsOf out = T ∧ rm.size = 0) ∨
  (∃ out rm ty p, e = .returned (.tuple #[.string out, .string rm, .iface ty p]) ∧ rm.size ≤ s.size ∧ ∀ T, Byt T → ¬ Quo T s)

def strLen : Value → Nat
  | .string s => s.size
  | _ => 0

/-- The loop's own: what is left, what was read. -/
def Left (s t : ByteArray) (vs : List Int) : Prop := ∀ T, Byt T → Quo T s → ∃ T2, T = vs ++ T2 ∧ intsOf t = T2.flatMap escI ++ [34]

theorem Left.start {s : ByteArray} : Left s (s.extract 1 s.size) [] := fun T _ h => ⟨T, rfl, h.tail⟩
theorem Left.ok {s t t' : ByteArray} {vs : List Int} {v : Int} {mb : Bool} (h : Left s t vs) (hu : UOk t v mb t') (h0 : 0 < t.size) (h1 : t[0].toNat ≠ 34) :
    (mb = false → Left s t' (vs ++ [v % 256])) ∧ (mb = true → ∀ us, Left s t' (vs ++ us)) := by
  have key : ∀ T, Byt T → Quo T s → ∃ b T2, T = vs ++ b :: T2 ∧ v = b ∧ mb = false ∧ intsOf t' = T2.flatMap escI ++ [34] ∧ 0 ≤ b ∧ b ≤ 255 := by
    intro T hT hq
    obtain ⟨T2, rfl, e⟩ := h T hT hq
    cases T2 with
    | nil =>
      obtain ⟨_, hx⟩ := head_at (show intsOf t = 34 :: [] from e)
      omega
    | cons b r =>
      have hb := hT b (by simp)
      rw [List.flatMap_cons, List.append_assoc] at e
      obtain ⟨e1, e2, e3⟩ := hu.2.2 b _ hb e
      exact ⟨b, r, rfl, e1, e2, e3, hb.1, hb.2⟩
  refine ⟨fun hm T hT hq => ?_, fun hm us T hT hq => ?_⟩
  · obtain ⟨b, T2, rfl, rfl, _, e, g1, g2⟩ := key T hT hq
    refine ⟨T2, ?_, e⟩
    rw [show v % 256 = v from by omega]
    simp
  · obtain ⟨b, T2, _, _, hm2, _⟩ := key T hT hq
    rw [hm] at hm2; cases hm2

theorem QAns.okk {s : ByteArray} {e : Ending} (out rm : ByteArray) (he : e = .returned (.tuple #[.string out, .string rm, .nilIface])) (h : out.size ≤ 4 * s.size ∧ rm.size ≤ s.size ∧ ∀ T, Byt T → Quo T s → intsOf out = T ∧ rm.size = 0) : QAns s e := .inl ⟨out, rm, he, h⟩
theorem QAns.bad {s : ByteArray} {e : Ending} (out rm : ByteArray) (ty : TypeId) (p : Value) (he : e = .returned (.tuple #[.string out, .string rm, .iface ty p])) (h : rm.size ≤ s.size ∧ ∀ T, Byt T → ¬ Quo T s) : QAns s e := .inr ⟨out, rm, ty, p, he, h⟩

theorem Left.quote {s t : ByteArray} {vs : List Int} (h : Left s t vs) (h0 : 0 < t.size) (h1 : t[0].toNat = 34) : ∀ T, Byt T → Quo T s → intsOf (strOf vs) = T ∧ (t.extract 1 t.size).size = 0 := by
  intro T hT hq
  obtain ⟨T2, rfl, e⟩ := h T hT hq
  cases T2 with
  | nil =>
    rw [List.append_nil] at hT ⊢
    refine ⟨intsOf_strOf hT, ?_⟩
    have := congrArg List.length e
    rw [intsOf_len] at this
    rw [ByteArray.size_extract]
    simp at this
    omega
  | cons b r =>
    obtain ⟨x, m, hx, h34, _⟩ := esc_head (hT b (by simp))
    rw [List.flatMap_cons, hx] at e
    obtain ⟨_, hy⟩ := head_at (show intsOf t = x :: (m ++ r.flatMap escI ++ [34]) from e)
    omega
theorem Left.none {s t : ByteArray} {vs : List Int} (h : Left s t vs) (h0 : t.size = 0) : ∀ T, Byt T → ¬ Quo T s := by
  intro T hT hq
  obtain ⟨T2, rfl, e⟩ := h T hT hq
  have := congrArg List.length e
  rw [intsOf_len] at this
  simp at this
  omega
theorem Left.bad {s t : ByteArray} {vs : List Int} (h : Left s t vs) (h0 : 0 < t.size) (h1 : t[0].toNat ≠ 34) (hb : UBad t ∨ t[0].toNat = 10) : ∀ T, Byt T → ¬ Quo T s := by
  intro T hT hq
  obtain ⟨T2, rfl, e⟩ := h T hT hq
  cases T2 with
  | nil =>
    obtain ⟨_, hx⟩ := head_at (show intsOf t = 34 :: [] from e)
    omega
  | cons b r =>
    rw [List.flatMap_cons, List.append_assoc] at e
    have hbb := hT b (by simp)
    rcases hb with hb | hb
    · exact hb b _ hbb e
    · obtain ⟨x, m, hx, _, h10, _⟩ := esc_head hbb
      rw [hx] at e
      obtain ⟨_, hy⟩ := head_at (show intsOf t = x :: (m ++ (r.flatMap escI ++ [34])) from e)
      omega

end Go.Proofs.YtoppnjpajeipdaaGreatDoor
