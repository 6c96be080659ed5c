/- JumpNames: over the law's own numbers. -/
import Derived.Test.YtjgackejkkglcaaJuNa
import Derived.Test.YtjgackejkkglcaaJuO
import Derived.OpenShut
namespace Go.Proofs.Ytjgackejkkglcaa.JuL
open Go.RowKit Go.Proofs.Ytjgackejkkglcaa.Ju
theorem walk_jumpNames (A : Option Addr) (n cap : Nat) (a1 a2 : Int) (W : World) (w0 : SmsIn W A n cap) (w1 : (Lit.int .u8 a1).wf = true) (w2 : (Lit.int .u8 a2).wf = true) :
    Calls Try.prog 7 #[.slice A n cap, .int .u8 a1, .int .u8 a2] W (RetB true W) := by
  obtain ⟨h1, l1⟩ := bounds_u8 w1
  obtain ⟨h2, l2⟩ := bounds_u8 w2
  obtain ⟨n1, rfl⟩ := Int.eq_ofNat_of_zero_le h1
  obtain ⟨n2, rfl⟩ := Int.eq_ofNat_of_zero_le h2
  obtain ⟨l, hl, hok, hr, hm, _⟩ := w0
  exact names_any l n A cap n1 n2 W hl hm (by omega) (by omega) hok hr
end Go.Proofs.Ytjgackejkkglcaa.JuL
