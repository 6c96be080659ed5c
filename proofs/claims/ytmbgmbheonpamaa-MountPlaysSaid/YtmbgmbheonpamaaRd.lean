/- Slices that read as lists: whosever they are, nil let in. -/
import Derived.Test.YtmbgmbheonpamaaProg
import Derived.WalkKit
import Derived.Below
import Derived.Lib.Hide
import Derived.Laws.OwnMore
import Derived.Deep.AppendLies
import Derived.Deep.Onto
namespace Go.Proofs.Ytmbgmbheonpamaa
open Go.RowKit
/-- A slice of n elements of z cells each, which are xs. -/
structure Rd (w : World) (z n : Nat) (A : Option Addr) (xs : List Value) : Prop where
  len : xs.length = n * z
  at_ : n = 0 ∨ ∃ b o, A = some ⟨b, o, none⟩ ∧ b < w.heap.size ∧ ∀ j u, xs[j]? = some u → w.cell? ⟨b, o + j, none⟩ = some u
section
variable {w w' : World} {z n : Nat} {A : Option Addr} {xs : List Value}
theorem Rd.below (h : Rd w z n A xs) (hb : Below w.heap.size w w') : Rd w' z n A xs :=
  ⟨h.len, h.at_.imp id fun ⟨b, o, e, hl, hc⟩ => ⟨b, o, e, Nat.lt_of_lt_of_le hl hb.size, fun j u hu => (hb.cell (p := ⟨b, o + j, none⟩) hl).trans (hc j u hu)⟩⟩
theorem Rd.kept {B : Nat} (h : Rd w z n A xs) (hB : B = w.heap.size) (hb : Below B w w') : Rd w' z n A xs := h.below (hB ▸ hb)
theorem Rd.pos (h : Rd w z n A xs) (hn : 0 < n) : ∃ b o, A = some ⟨b, o, none⟩ ∧ b < w.heap.size ∧ ∀ j u, xs[j]? = some u → w.cell? ⟨b, o + j, none⟩ = some u := by
  rcases h.at_ with e | e
  · omega
  · exact e
theorem Rd.nil (w : World) (z : Nat) (A : Option Addr) : Rd w z 0 A [] := ⟨by simp, .inl rfl⟩
end
/-- What a call owns reads so. -/
theorem own_form {w : World} {base : Nat} {e : TypeId} {z n : Nat} {v : Value} {xs : List Value} (h : w.ownsRow base e z v n xs) :
    ∃ A c, v = .slice A n c ∧ n ≤ c ∧ Rd w z n A xs := by
  rcases h.2 with ⟨rfl, rfl⟩ | ⟨g, cap, cur, rfl, hb, hh, hn, hm, hs, rfl⟩
  · exact ⟨none, 0, rfl, Nat.le_refl _, h.1, .inl rfl⟩
  · refine ⟨_, cap, rfl, hn, h.1, .inr ⟨g, 0, rfl, (Array.getElem?_eq_some_iff.1 hh).1, fun j u hu => ?_⟩⟩
    have := h.cells (g := g) rfl j u hu
    rw [← this]
    simp [Addr.add]
    by_cases hj : j = 0 <;> simp [hj]
theorem own_below {w w' : World} {base : Nat} {e : TypeId} {z n : Nat} {v : Value} {xs : List Value} (h : w.ownsRow base e z v n xs) (hb : Below w.heap.size w w') : w'.ownsRow base e z v n xs := by
  refine ⟨h.1, h.2.imp id fun ⟨g, cap, cur, e, h1, h2, h3⟩ => ⟨g, cap, cur, e, h1, ?_, h3⟩⟩
  rw [hb.block g (Array.getElem?_eq_some_iff.1 h2).1]; exact h2
end Go.Proofs.Ytmbgmbheonpamaa

