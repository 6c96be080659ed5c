/- JumpTidies: over the law's own numbers. -/
import Derived.Test.YtjgackejkkglcaaJuTw
import Derived.Test.YtjgackejkkglcaaJuO
import Derived.OpenShut
namespace Go.Proofs.Ytjgackejkkglcaa.JuL
open Go.RowKit Go.Proofs.Ytjgackejkkglcaa.Ju
theorem walk_jumpTidies (A : Option Addr) (n cap : Nat) (a1 : Int) (W : World) (w0 : SmsIn W A n cap) (w1 : (Lit.int .u8 a1).wf = true) :
    Calls Try.prog 5 #[.slice A n cap, .int .u8 a1] W (RetB true W) := by
  obtain ⟨h1, l1⟩ := bounds_u8 w1
  obtain ⟨n1, rfl⟩ := Int.eq_ofNat_of_zero_le h1
  obtain ⟨l, hl, hok, hr, hm, _⟩ := w0
  exact tidies_any l n A cap n1 W hl hm (by omega) hok hr
end Go.Proofs.Ytjgackejkkglcaa.JuL
