/- strconv.UnquoteChar at a double quote, at every string that is not empty. -/
import Derived.Test.YtleakainhpgldaaDoorProg
import Derived.Test.YtleakainhpgldaaDoorUnqChar
import Derived.Test.YtleakainhpgldaaDoorUnqChar2
import Derived.Test.YtleakainhpgldaaDoorUnqChar3
import Derived.Test.YtleakainhpgldaaDoorUnqChar4
import Derived.Test.YtleakainhpgldaaDoorUnqChar5
namespace Go.Proofs.YtleakainhpgldaaDoor
set_option linter.unusedSimpArgs false
set_option linter.unusedVariables false
open Go.RowKit

theorem uchar_any (s : ByteArray) (w : World) (hs : s.size ≤ 140737488351232) (h0 : 0 < s.size) (hl : SynLaid w) (hu : UtfLaid w) :
    Calls Tryd.prog 47 #[.string s, .int .u8 34] w fun e w' => UAns s e ∧ Below w.heap.size w w' := by
  by_cases a1 : s[0].toNat = 34
  · exact uchar_quote s w hs h0 a1 hl
  by_cases a2 : 128 ≤ s[0].toNat
  · exact uchar_high s w hs h0 a2 hu hl
  by_cases a3 : s[0].toNat = 92
  · by_cases a4 : s.size ≤ 1
    · exact uchar_short s w hs h0 a3 a4 hl
    · have h1 : 1 < s.size := by omega
      by_cases c1 : s[1].toNat = 97
      · exact uchar_a s w hs h1 a3 c1 hl
      by_cases c2 : s[1].toNat = 98
      · exact uchar_b s w hs h1 a3 c2 hl
      by_cases c3 : s[1].toNat = 102
      · exact uchar_f s w hs h1 a3 c3 hl
      by_cases c4 : s[1].toNat = 110
      · exact uchar_n s w hs h1 a3 c4 hl
      by_cases c5 : s[1].toNat = 114
      · exact uchar_r s w hs h1 a3 c5 hl
      by_cases c6 : s[1].toNat = 116
      · exact uchar_t s w hs h1 a3 c6 hl
      by_cases c7 : s[1].toNat = 118
      · exact uchar_v s w hs h1 a3 c7 hl
      by_cases c8 : s[1].toNat = 92
      · exact uchar_bs s w hs h1 a3 c8 hl
      by_cases c9 : s[1].toNat = 34
      · exact uchar_dq s w hs h1 a3 c9 hl
      by_cases c10 : s[1].toNat = 39
      · exact uchar_sq s w hs h1 a3 c10 hl
      by_cases c11 : s[1].toNat = 120
      · by_cases q : s.size < 4
        · exact uchar_x_short s w hs h1 a3 c11 q hl
        · exact uchar_x s w hs h1 a3 c11 (by omega) hl
      by_cases c12 : s[1].toNat = 117
      · by_cases q : s.size < 6
        · exact uchar_u_short s w hs h1 a3 c12 q hl
        · exact uchar_u s w hs h1 a3 c12 (by omega) hl
      by_cases c13 : s[1].toNat = 85
      · by_cases q : s.size < 10
        · exact uchar_U_short s w hs h1 a3 c13 q hl
        · exact uchar_U s w hs h1 a3 c13 (by omega) hl
      by_cases d0 : s[1].toNat = 48
      · exact uchar_o0 s w hs h1 a3 d0 hl
      by_cases d1 : s[1].toNat = 49
      · exact uchar_o1 s w hs h1 a3 d1 hl
      by_cases d2 : s[1].toNat = 50
      · exact uchar_o2 s w hs h1 a3 d2 hl
      by_cases d3 : s[1].toNat = 51
      · exact uchar_o3 s w hs h1 a3 d3 hl
      by_cases d4 : s[1].toNat = 52
      · exact uchar_o4 s w hs h1 a3 d4 hl
      by_cases d5 : s[1].toNat = 53
      · exact uchar_o5 s w hs h1 a3 d5 hl
      by_cases d6 : s[1].toNat = 54
      · exact uchar_o6 s w hs h1 a3 d6 hl
      by_cases d7 : s[1].toNat = 55
      · exact uchar_o7 s w hs h1 a3 d7 hl
      exact uchar_none s w hs h1 a3 ⟨c1, c2, c3, c4, c5, c6, c7, c11, c12, c13, by omega, c8, c10, c9⟩ hl
  · exact uchar_plain s w hs h0 (by omega) a1 a3 hl
end Go.Proofs.YtleakainhpgldaaDoor
