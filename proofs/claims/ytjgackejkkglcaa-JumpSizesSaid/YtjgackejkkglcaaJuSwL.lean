/- JumpSizes: over the law's own numbers. -/
import Derived.Test.YtjgackejkkglcaaJuSw
import Derived.OpenShut
namespace Go.Proofs.Ytjgackejkkglcaa.JuL
open Go.RowKit Go.Proofs.Ytjgackejkkglcaa.Ju
theorem walk_jumpSizes (a0 a1 a2 : Int) (W : World) (w0 : (Lit.int .u16 a0).wf = true) (w1 : (Lit.int .u16 a1).wf = true) (w2 : (Lit.int .u8 a2).wf = true) :
    Calls Try.prog 4 #[.int .u16 a0, .int .u16 a1, .int .u8 a2] W (RetB true W) := by
  obtain ⟨h0, l0⟩ := bounds_u16 w0
  obtain ⟨h1, l1⟩ := bounds_u16 w1
  obtain ⟨h2, l2⟩ := bounds_u8 w2
  obtain ⟨n0, rfl⟩ := Int.eq_ofNat_of_zero_le h0
  obtain ⟨n1, rfl⟩ := Int.eq_ofNat_of_zero_le h1
  obtain ⟨n2, rfl⟩ := Int.eq_ofNat_of_zero_le h2
  exact sizes_any n0 n1 n2 W (by omega) (by omega) (by omega)
end Go.Proofs.Ytjgackejkkglcaa.JuL
