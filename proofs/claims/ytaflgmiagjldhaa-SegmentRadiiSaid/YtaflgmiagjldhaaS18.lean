/- The law SegmentRadii. -/
import Derived.Test.YtaflgmiagjldhaaS18a
import Derived.Test.YtaflgmiagjldhaaS18b
import Derived.Test.YtaflgmiagjldhaaS18c
set_option linter.unusedVariables false
set_option linter.unusedSimpArgs false
namespace Go.Proofs.Ytaflgmiagjldhaa
open Go Go.RowKit Hd

theorem Radii_any (a b c d x0 y0 x1 y1 n : Int) (n0 : 0 ≤ n) (n1 : n ≤ 65535) (w : World) : Calls Try.prog 11 #[.agg #[.int .i64 a, .int .i64 b, .int .i64 c, .int .i64 d], .agg #[.int .i64 x0, .int .i64 y0, .int .i64 x1, .int .i64 y1], .int .u16 n] w fun e w' => e = .returned (.bool true) ∧ Below w.heap.size w w' := by
  by_cases hr : OkR x0 y0 x1 y1
  · by_cases ha : OkC a
    · by_cases hb : OkC b
      · by_cases hc : OkC c
        · by_cases hd : OkC d
          · by_cases hw : -1024 ≤ a - c ∧ a - c ≤ 1024
            · by_cases hv : -1024 ≤ b - d ∧ b - d ≤ 1024
              · by_cases hs : To a b c d x0 y0 x1 y1 (n % 1024)
                · by_cases g0 : gapM a b x0 y0 x1 y1 = 0
                  · exact Radii_vtp a b c d x0 y0 x1 y1 n n0 n1 hr ha hb hc hd hw hv hs g0 w
                  by_cases g1 : gapM c d x0 y0 x1 y1 = 0
                  · exact Radii_vtq a b c d x0 y0 x1 y1 n n0 n1 hr ha hb hc hd hw hv hs g0 g1 w
                  by_cases g2 : Cr a b c d x0 y0 x1 y1
                  · exact Radii_vtc a b c d x0 y0 x1 y1 n n0 n1 hr ha hb hc hd hw hv hs g0 g1 g2 w
                  by_cases g3 : Cr a b c d x0 y1 x1 y0
                  · exact Radii_vte a b c d x0 y0 x1 y1 n n0 n1 hr ha hb hc hd hw hv hs g0 g1 g2 g3 w
                  · exact Radii_vtn a b c d x0 y0 x1 y1 n n0 n1 hr ha hb hc hd hw hv hs g0 g1 g2 g3 w
                · by_cases g0 : gapM a b x0 y0 x1 y1 = 0
                  · exact Radii_vfp a b c d x0 y0 x1 y1 n n0 n1 hr ha hb hc hd hw hv hs g0 w
                  by_cases g1 : gapM c d x0 y0 x1 y1 = 0
                  · exact Radii_vfq a b c d x0 y0 x1 y1 n n0 n1 hr ha hb hc hd hw hv hs g0 g1 w
                  by_cases g2 : Cr a b c d x0 y0 x1 y1
                  · exact Radii_vfc a b c d x0 y0 x1 y1 n n0 n1 hr ha hb hc hd hw hv hs g0 g1 g2 w
                  by_cases g3 : Cr a b c d x0 y1 x1 y0
                  · exact Radii_vfe a b c d x0 y0 x1 y1 n n0 n1 hr ha hb hc hd hw hv hs g0 g1 g2 g3 w
                  · exact Radii_vfn a b c d x0 y0 x1 y1 n n0 n1 hr ha hb hc hd hw hv hs g0 g1 g2 g3 w
              · exact Radii_v a b c d x0 y0 x1 y1 n n0 n1 hr ha hb hc hd hw hv w
            · exact Radii_w a b c d x0 y0 x1 y1 n n0 n1 hr ha hb hc hd hw w
          · exact Radii_d a b c d x0 y0 x1 y1 n n0 n1 hr ha hb hc hd w
        · exact Radii_c a b c d x0 y0 x1 y1 n n0 n1 hr ha hb hc w
      · exact Radii_b a b c d x0 y0 x1 y1 n n0 n1 hr ha hb w
    · exact Radii_a a b c d x0 y0 x1 y1 n n0 n1 hr ha w
  · exact Radii_r a b c d x0 y0 x1 y1 n n0 n1 hr w
end Go.Proofs.Ytaflgmiagjldhaa
