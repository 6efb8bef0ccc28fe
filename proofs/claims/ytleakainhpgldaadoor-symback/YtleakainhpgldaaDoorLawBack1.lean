/- edictlaw01.SymBack returns true at every two constants. -/
import Derived.Test.YtleakainhpgldaaDoorProg
import Derived.Test.YtleakainhpgldaaDoorReadAny
import Derived.Test.YtleakainhpgldaaDoorMadeOk
namespace Go.Proofs.YtleakainhpgldaaDoor
set_option linter.unusedSimpArgs false
set_option linter.unusedVariables false
open Go.RowKit

/-- Whatever a text's bytes are, they can be shown. -/
theorem text_seen {d : Con} (hd : d.ok) (hv : validC d = true) : ∀ i (h : i < (textC d).size), 32 ≤ (textC d)[i].toNat ∧ (textC d)[i].toNat ≤ 126 := by
  intro i h
  have hm : ((textC d)[i].toNat : Int) ∈ intsOf (textC d) := List.mem_of_getElem? (intsOf_at _ i h)
  have key : ∀ x ∈ intsOf (textC d), 32 ≤ x ∧ x ≤ 126 := by
    intro x hx
    rcases valid_kind hv with hk | hk | ⟨hk, _⟩
    · obtain ⟨e1, _⟩ := text_int hv hk
      rw [e1, itoa_ints] at hx
      obtain ⟨b, hb, rfl⟩ := List.mem_map.1 hx
      have := itoa_byt _ b hb
      omega
    · obtain ⟨e1, _, hn⟩ := text_name hv hk
      rw [e1] at hx
      unfold isNameL isWordL at hn
      simp only [Bool.and_eq_true, List.all_eq_true] at hn
      obtain ⟨⟨_, _, hall⟩, _⟩ := hn
      unfold intsOf at hx
      obtain ⟨b, hb, rfl⟩ := List.mem_map.1 hx
      rw [ByteArray.toList_eq] at hall
      have := hall b hb
      unfold wordB wordN lowN upN digN at this
      simp at this
      omega
    · obtain ⟨e1, _⟩ := text_text hv hk
      rw [e1, ints_quot] at hx
      rcases List.mem_cons.1 hx with rfl | hx
      · decide
      rcases List.mem_append.1 hx with hx | hx
      · obtain ⟨b, hb, hx⟩ := List.mem_flatMap.1 hx
        have hbb := intsOf_byt d.s b hb
        unfold escI at hx
        have h1 := hexI_byt (b / 16).toNat (by omega)
        have h2 := hexI_byt (b % 16).toNat (by omega)
        repeat' split at hx
        all_goals simp only [List.mem_cons, List.not_mem_nil, or_false] at hx
        all_goals omega
      · simp at hx; omega
  have := key _ hm
  omega

theorem back_read {c x : Con} {e : Int} (hc : c.ok) (hv : validC c = true) (h : ReadR (textC c) x e) : x = c ∧ e = 0 :=
  readR_uniq h (.inl ⟨rfl, hc, hv, rfl⟩)

theorem eqSelf (c : Con) (w : World) : (binOp .eql 23 (.agg #[.int .i64 c.k, .int .i64 c.n, .string c.s]) (.agg #[.int .i64 c.k, .int .i64 c.n, .string c.s])).run Tryd.prog w = .ok (.bool true) w := by
  have := eqCon c c w
  rw [conEq_refl] at this
  exact this
end Go.Proofs.YtleakainhpgldaaDoor
