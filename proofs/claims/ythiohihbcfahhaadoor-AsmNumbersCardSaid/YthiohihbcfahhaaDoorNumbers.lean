/- AsmNumbers: the walk. -/
import Derived.Test.YthiohihbcfahhaaDoorNumLong
import Derived.Test.YthiohihbcfahhaaDoorNumHex
import Derived.Test.YthiohihbcfahhaaDoorNumDec
namespace Go.Proofs.YthiohihbcfahhaaDoor
open Go.RowKit Go.ChangeShapes Go.WideShapes Go.ChangeAt Go.WideElems
theorem walk_asmNumbers (n : Int) (s : ByteArray) (w : World) (h0 : (Lit.int .u64 n).wf = true) (h1 : s.size ≤ maxLen) (hE : Env w) : Calls Tryd.prog 3 #[.int .u64 n, .string s] w (Yes w) := by
  obtain ⟨l0, u0⟩ := bounds_u64 h0
  obtain ⟨n0, rfl⟩ := Int.eq_ofNat_of_zero_le l0
  have hn : n0 < 18446744073709551616 := by omega
  by_cases h40 : 40 < s.size
  · exact walk_numLong n0 s w hn h1 hE h40
  · cases hx : hexed s.data.toList with
    | true => exact walk_numHex n0 s w hn h1 hE h40 hx
    | false => exact walk_numDec n0 s w hn h1 hE h40 hx
end Go.Proofs.YthiohihbcfahhaaDoor
