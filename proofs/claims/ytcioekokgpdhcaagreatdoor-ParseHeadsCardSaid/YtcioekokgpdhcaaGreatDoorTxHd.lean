/- ParseHeads: the walk, of parameters as the law's frame hands them in. -/
import Derived.Test.YtcioekokgpdhcaaGreatDoorParZ
import Derived.Test.YtcioekokgpdhcaaGreatDoorTxWrap
import Derived.Test.YtcioekokgpdhcaaGreatDoorGp
namespace Go.Proofs.YtcioekokgpdhcaaGreatDoor.Tx
open Go.RowKit Pa
theorem walk_parseHeads (what : Int) (s : ByteArray) (w : World) (h1 : (Lit.int .u8 what).wf = true) (_ : s.size ≤ maxLen) (hE : E2 w) :
    Calls Tryz.prog 6 #[.int .u8 what, .string s] w fun e w' => e = .returned (.bool true) ∧ Below w.heap.size w w' := by
  obtain ⟨l1, u1⟩ := bounds_u8 h1
  obtain ⟨k, rfl⟩ := Int.eq_ofNat_of_zero_le l1
  exact walk_heads k (by omega) s w hE.g
end Go.Proofs.YtcioekokgpdhcaaGreatDoor.Tx
