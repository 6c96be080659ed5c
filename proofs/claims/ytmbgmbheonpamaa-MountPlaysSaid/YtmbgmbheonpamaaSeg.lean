/- Slices that a call made: where they lie; what stays of them. -/
import Derived.Test.YtmbgmbheonpamaaBk
import Derived.Test.YtmbgmbheonpamaaRd
import Derived.OwnWalk
import Derived.LoopTactic
namespace Go.Proofs.Ytmbgmbheonpamaa
open Go.RowKit
/-- A slice of n elements of z cells each, which are xs, in a block from B on. -/
structure Seg (w : World) (B z n : Nat) (A : Option Addr) (xs : List Value) : Prop where
  len : xs.length = n * z
  at_ : n = 0 ∨ ∃ b o, A = some ⟨b, o, none⟩ ∧ B ≤ b ∧ b < w.heap.size ∧ ∀ j u, xs[j]? = some u → w.cell? ⟨b, o + j, none⟩ = some u
section
variable {w w' : World} {B z n : Nat} {A : Option Addr} {xs : List Value}
theorem Seg.rd (h : Seg w B z n A xs) : Rd w z n A xs := ⟨h.len, h.at_.imp id fun ⟨b, o, e, _, h1, h2⟩ => ⟨b, o, e, h1, h2⟩⟩
theorem Rd.seg (h : Rd w z n A xs) : Seg w 0 z n A xs := ⟨h.len, h.at_.imp id fun ⟨b, o, e, h1, h2⟩ => ⟨b, o, e, Nat.zero_le _, h1, h2⟩⟩
theorem Seg.below (h : Seg w B z n A xs) (hb : Below w.heap.size w w') : Seg w' B z n A xs :=
  ⟨h.len, h.at_.imp id fun ⟨b, o, e, h0, hl, hc⟩ => ⟨b, o, e, h0, Nat.lt_of_lt_of_le hl hb.size, fun j u hu => (hb.cell (p := ⟨b, o + j, none⟩) hl).trans (hc j u hu)⟩⟩
theorem Seg.pos (h : Seg w B z n A xs) (hn : 0 < n) : ∃ b o, A = some ⟨b, o, none⟩ ∧ B ≤ b ∧ b < w.heap.size ∧ ∀ j u, xs[j]? = some u → w.cell? ⟨b, o + j, none⟩ = some u := by
  rcases h.at_ with e | e
  · omega
  · exact e
theorem Seg.nil (w : World) (B z : Nat) (A : Option Addr) : Seg w B z 0 A [] := ⟨by simp, .inl rfl⟩
end
theorem own_seg {w : World} {base : Nat} {e : TypeId} {z n : Nat} {v : Value} {xs : List Value} (h : w.ownsRow base e z v n xs) :
    ∃ A c, v = .slice A n c ∧ n ≤ c ∧ Seg w base z n A xs := by
  rcases h.2 with ⟨rfl, rfl⟩ | ⟨g, cap, cur, rfl, hb, hh, hn, hm, hs, rfl⟩
  · exact ⟨none, 0, rfl, Nat.le_refl _, h.1, .inl rfl⟩
  · refine ⟨_, cap, rfl, hn, h.1, .inr ⟨g, 0, rfl, hb, (Array.getElem?_eq_some_iff.1 hh).1, fun j u hu => ?_⟩⟩
    have := h.cells (g := g) rfl j u hu
    rw [← this]
    simp [Addr.add]
    by_cases hj : j = 0 <;> simp [hj]
/-- A row that was made full is just its cells. -/
theorem bk_full {w : World} {base : Nat} {e : TypeId} {z n g : Nat} {xs : List Value} (h : w.ownsRow base e z (.slice (some ⟨g, 0, none⟩) n n) n xs) : Bk w g e xs := by
  rcases h.2 with ⟨h1, _⟩ | ⟨g', cap, cur, h1, hb, hh, hn, hm, hs, rfl⟩
  · cases h1
  · simp only [Value.slice.injEq, Option.some.injEq, Addr.mk.injEq, and_true, true_and] at h1
    obtain ⟨rfl, rfl⟩ := h1
    unfold Bk
    rw [hh, List.take_of_length_le (by simp [hs])]
theorem bk_own {w : World} {e : TypeId} {z n g base : Nat} {xs : List Value} (h : Bk w g e xs) (hl : xs.length = n * z) (hn : n ≤ maxLen) (hb : base ≤ g) : w.ownsRow base e z (.slice (some ⟨g, 0, none⟩) n n) n xs :=
  ⟨hl, .inr ⟨g, n, xs.toArray, rfl, hb, h, Nat.le_refl _, hn, by simpa using hl, by simp [List.take_of_length_le (Nat.le_of_eq hl)]⟩⟩
theorem Bk.seg {w : World} {e z n g B : Nat} {xs : List Value} (h : Bk w g e xs) (hl : xs.length = n * z) (hb : B ≤ g) : Seg w B z n (some ⟨g, 0, none⟩) xs :=
  ⟨hl, .inr ⟨g, 0, rfl, hb, h.lt, fun j u hu => by rw [Nat.zero_add]; exact h.cell j hu⟩⟩
theorem Seg.grown {w w' : World} {B z n g : Nat} {A : Option Addr} {xs : List Value} (h : Seg w B z n A xs) (hg : w.grownBy w' (some g)) (hB : g < B) : Seg w' B z n A xs :=
  ⟨h.len, h.at_.imp id fun ⟨b, o, e, h0, hl, hc⟩ => ⟨b, o, e, h0, Nat.lt_of_lt_of_le hl hg.size, fun j u hu => by
    rw [← hc j u hu]
    unfold World.cell?
    rw [hg.block b hl (fun e => by cases e; omega)]⟩⟩
def ints (l : List Nat) : List Value := l.map fun (x : Nat) => Value.int .i64 x
theorem ints_at {l : List Nat} {k x : Nat} (h : l[k]? = some x) : (ints l)[k]? = some (.int .i64 x) := by simp [ints, h]
theorem ints_len (l : List Nat) : (ints l).length = l.length := by simp [ints]
end Go.Proofs.Ytmbgmbheonpamaa

