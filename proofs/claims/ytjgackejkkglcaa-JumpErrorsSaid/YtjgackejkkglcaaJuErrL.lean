/- JumpErrors: over the law's own numbers. -/
import Derived.Test.YtjgackejkkglcaaJuErr
import Derived.Test.YtjgackejkkglcaaJuO
import Derived.OpenShut
namespace Go.Proofs.Ytjgackejkkglcaa.JuL
open Go.RowKit Go.Proofs.Ytjgackejkkglcaa.Ju
/-- An instruction of zeros. -/
def zeroIns : Value := .agg #[.int .u16 0, .int .u8 0, .int .u8 0, .int .u32 0]
theorem walk_jumpErrors (x : Ins) (a1 a2 a3 : Int) (W : World) (w0 : x.ok) (w1 : (Lit.int .u8 a1).wf = true) (w2 : (Lit.int .u8 a2).wf = true) (w3 : (Lit.int .i64 a3).wf = true) :
    Calls Try.prog 6 #[.agg x.cells.toArray, .int .u8 a1, .int .u8 a2, .int .i64 a3] W (RetB true W) := by
  obtain ⟨h1, l1⟩ := bounds_u8 w1
  obtain ⟨h2, l2⟩ := bounds_u8 w2
  obtain ⟨h3, l3⟩ := bounds_i64 w3
  obtain ⟨n1, rfl⟩ := Int.eq_ofNat_of_zero_le h1
  obtain ⟨n2, rfl⟩ := Int.eq_ofNat_of_zero_le h2
  exact Ju.walk_jumpErrors x n1 n2 a3 W w0 (by omega) (by omega) ⟨by omega, by omega⟩
end Go.Proofs.Ytjgackejkkglcaa.JuL
