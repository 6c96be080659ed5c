/- JumpMakes: over the law's own numbers. -/
import Derived.Test.YtcageojoafkojaaJuMk
import Derived.Test.YtcageojoafkojaaJuO
import Derived.OpenShut
namespace Go.Proofs.Ytcageojoafkojaa.JuL
open Go.RowKit Go.Proofs.Ytcageojoafkojaa.Ju
/-- Records handed in. -/
def RecsIn (w : World) (A : Option Addr) (n c : Nat) : Prop := ∃ l : List (List Nat), l.length = n ∧ (∀ b ∈ l, Rec.IsRec b) ∧ Rd w 9 n A (l.flatMap Rec.recL) ∧ n ≤ maxLen ∧ c = c
section
variable {H : Type} {enc : TypeId × Value → H} {w : World} {base : Nat} {spare : Nat → Bool} {held : Bool} {fuel : Nat} {x : DataW H × List MemPlace} {A : Option Addr} {len cap : Nat}
theorem open_rcs (h : DataW.trod enc Try.prog w base spare held fuel 64 [.slice A len cap] = some x) : RecsIn w A len cap := by
  obtain ⟨l, h1, h2, h3, h4⟩ := open_records h
  exact ⟨l, h1, h2, h3, h4, rfl⟩
end
theorem walk_jumpMakes (A : Option Addr) (n cap : Nat) (a1 : Int) (A2 : Option Addr) (m c2 : Nat) (W : World) (w0 : SmsIn W A n cap) (w1 : (Lit.int .u8 a1).wf = true) (w2 : RecsIn W A2 m c2) :
    Calls Try.prog 5 #[.slice A n cap, .int .u8 a1, .slice A2 m c2] W (RetB true W) := by
  obtain ⟨h1, l1⟩ := bounds_u8 w1
  obtain ⟨n1, rfl⟩ := Int.eq_ofNat_of_zero_le h1
  obtain ⟨l, hl, hok, hr, hm, _⟩ := w0
  obtain ⟨rs, hrl, hrec, hrr, _, _⟩ := w2
  exact makes_any l n A cap n1 rs m A2 c2 W hl hm (by omega) hok hr hrl hrec hrr
end Go.Proofs.Ytcageojoafkojaa.JuL
