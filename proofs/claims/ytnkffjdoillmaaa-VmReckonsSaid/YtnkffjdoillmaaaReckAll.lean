/- VmReckons: any two numbers, each way of reckoning. -/
import Derived.Test.YtnkffjdoillmaaaReck0
import Derived.Test.YtnkffjdoillmaaaReck1
import Derived.Test.YtnkffjdoillmaaaReck2
import Derived.Test.YtnkffjdoillmaaaReck3z
import Derived.Test.YtnkffjdoillmaaaReck3n
import Derived.Test.YtnkffjdoillmaaaReck4
import Derived.Test.YtnkffjdoillmaaaReck5
import Derived.Test.YtnkffjdoillmaaaReck6
import Derived.Test.YtnkffjdoillmaaaReck7
import Derived.Test.YtnkffjdoillmaaaReck10
namespace Go.Proofs.Ytnkffjdoillmaaa
open Go.RowKit
theorem walk_vmReckons (a b k : Int) (w : World) (h0 : (Lit.int .u32 a).wf = true) (h1 : (Lit.int .u32 b).wf = true) (h2 : (Lit.int .u8 k).wf = true) :
    Calls Try.prog 4 #[.int .u32 a, .int .u32 b, .int .u8 k] w (Yes w) := by
  obtain ⟨l0, u0⟩ := bounds_u32 h0
  obtain ⟨l1, u1⟩ := bounds_u32 h1
  obtain ⟨l2, u2⟩ := bounds_u8 h2
  obtain ⟨n0, rfl⟩ := Int.eq_ofNat_of_zero_le l0
  obtain ⟨n1, rfl⟩ := Int.eq_ofNat_of_zero_le l1
  obtain ⟨n2, rfl⟩ := Int.eq_ofNat_of_zero_le l2
  have b0 : n0 < 4294967296 := by omega
  have b1 : n1 < 4294967296 := by omega
  have b2 : n2 < 256 := by omega
  rcases (by omega : n2 % 9 = 0 ∨ n2 % 9 = 1 ∨ n2 % 9 = 2 ∨ n2 % 9 = 3 ∨ n2 % 9 = 4 ∨ n2 % 9 = 5 ∨ n2 % 9 = 6 ∨ n2 % 9 = 7 ∨ n2 % 9 = 8) with e | e | e | e | e | e | e | e | e
  · exact reckons_0 n0 n1 n2 w b0 b1 b2 e
  · exact reckons_1 n0 n1 n2 w b0 b1 b2 e
  · exact reckons_2 n0 n1 n2 w b0 b1 b2 e
  · by_cases hz : n1 = 0
    · exact reckons_3z n0 n1 n2 w b0 b1 b2 e hz
    · exact reckons_3n n0 n1 n2 w b0 b1 b2 e hz
  · exact reckons_4 n0 n1 n2 w b0 b1 b2 e
  · exact reckons_5 n0 n1 n2 w b0 b1 b2 e
  · exact reckons_6 n0 n1 n2 w b0 b1 b2 e
  · exact reckons_7 n0 n1 n2 w b0 b1 b2 e
  · exact reckons_10 n0 n1 n2 w b0 b1 b2 e
end Go.Proofs.Ytnkffjdoillmaaa
