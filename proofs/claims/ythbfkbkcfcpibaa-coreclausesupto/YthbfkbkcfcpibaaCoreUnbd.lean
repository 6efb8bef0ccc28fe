/- What core.Unbound answers. -/
import Derived.Test.YthbfkbkcfcpibaaCoreUnb
namespace Go.Proofs.Ythbfkbkcfcpibaa
set_option linter.unusedSimpArgs false
set_option linter.unusedVariables false
open Go.RowKit Go.Maps

def unbO (hd : List Trm) (ls : List Lix) : Int := match unbP hd ls with | some t => t.off | none => -1

set_option maxHeartbeats 1000000 in
theorem unbound_any {w : World} {p : ByteArray} {hv bv : Value} {off : Int} {hd : List Trm} {ls : List Lix} (hh : Has elTrm w hv hd) (hl : Has elLix w bv ls) (hs : hd.length + (sumT ls + 2 * ls.length) < 500000000) :
    Calls Try.prog 14 #[.agg #[.string p, hv, .int .i64 off, bv]] w fun e w' => e = .returned (.int .i64 (unbO hd ls)) ∧ Below w.heap.size w w' := by
  obtain ⟨ha, hc, rfl, -, -, -⟩ := hh.shape
  obtain ⟨ba, bc, rfl, -, -, hlen⟩ := hl.shape
  have HE : Hid (unbO hd ls = match unbP hd ls with | some t => t.off | none => -1) := rfl
  have HC := hide (firstUnbound_any (w := w.alloc (.cells #[.string p, .slice ha hd.length hc, .int .i64 off, .slice ba ls.length bc] 33)) (p := p) (off := off) (hh.kept (belo1 _ _)) (hl.kept (belo1 _ _)) hs)
  have HB := hide (belo1 w (.cells #[.string p, .slice ha hd.length hc, .int .i64 off, .slice ba ls.length bc] 33))
  clear hh hl
  go_enter Try.func14, Try.ntmps14
  go_wp2_with fail
  refine HC.out.mono ?_
  rintro e w1 ⟨rfl, h1⟩
  have HB1 := hide (HB.out.trans (h1.mono HB.out.size))
  clear h1
  cases hu : unbP hd ls with
  | none =>
    rw [hu] at HE
    dsimp only [Option.getD, zeroT, Trm.val, Option.isSome]
    go_wp2_with fail
    go_ret
    exact ⟨by rw [HE.out]; rfl, HB1.out.alloc (by have := HB1.out.size; omega) _⟩
  | some t =>
    rw [hu] at HE
    obtain ⟨tk, tn, tx, tq⟩ := t
    dsimp only [Option.getD, Trm.val, Option.isSome]
    go_wp2_with fail
    go_ret
    exact ⟨by rw [HE.out]; rfl, HB1.out.alloc (by have := HB1.out.size; omega) _⟩

end Go.Proofs.Ythbfkbkcfcpibaa
