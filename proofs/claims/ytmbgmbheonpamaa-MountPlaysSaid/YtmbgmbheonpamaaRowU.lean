/- Whole numbers that a law is handed, as the card's frame opens them. -/
import Derived.Test.YtmbgmbheonpamaaSeg
import Derived.ProofKit
import Derived.OpenShut
import Derived.SliceStrings
import Derived.ChangeOld
namespace Go.Proofs.Ytmbgmbheonpamaa
open Go.RowKit Go.ChangeShapes Go.WideShapes Go.ChangeAt Go.WideElems
theorem add_at' (b o j : Nat) : (⟨b, o, none⟩ : Addr).add j = ⟨b, o + j, none⟩ := by unfold Addr.add; split <;> simp_all
theorem cell_lt {w : World} {a : Addr} {v : Value} (h : w.cell? a = some v) : a.block < w.heap.size ∧ a.spot = none := by
  refine ⟨?_, ?_⟩
  · unfold World.cell? at h
    split at h
    · rename_i h2; exact (Array.getElem?_eq_some_iff.1 h2).1
    · cases h
  · unfold World.cell? at h
    split at h
    · split at h
      · cases h
      · rename_i h3; simpa using h3
    · cases h
theorem rd_of {w : World} {z n : Nat} {a : Addr} {xs : List Value} (hl : xs.length = n * z) (hz : 0 < z) (h : ∀ j u, xs[j]? = some u → w.cell? (a.add j) = some u) : Rd w z n (some a) xs := by
  refine ⟨hl, ?_⟩
  rcases Nat.eq_zero_or_pos n with h0 | h0
  · exact .inl h0
  · right
    have hp : 0 < xs.length := by rw [hl]; exact Nat.mul_pos h0 hz
    obtain ⟨h1, h2⟩ := cell_lt (h 0 _ (List.getElem?_eq_getElem hp))
    obtain ⟨b, o, spot⟩ := a
    have hs : spot = none := by simpa [Addr.add] using h2
    subst hs
    exact ⟨b, o, rfl, by simpa [Addr.add] using h1, fun j u hu => by rw [← add_at']; exact h j u hu⟩
/-- A list of whole numbers that the law is handed, as the card's frame opens it. -/
def IsRow (k : IntKind) (w : World) (A : Option Addr) (len cap : Nat) (zs : List Int) : Prop :=
  (A = none ∧ len = 0 ∧ cap = 0 ∧ zs = []) ∨ ∃ a, A = some a ∧ len ≤ cap ∧ cap ≤ maxLen ∧ zs.length = cap ∧ (∀ i, i < zs.length → w.cell? (a.add i) = some (.int k (zs.getD i 0))) ∧ ∀ n ∈ zs, (Lit.int k n).wf = true
theorem row_u8 {w : World} {A : Option Addr} {len cap : Nat} {zs : List Int} (h : IsRow .u8 w A len cap zs) : ∃ l : List Nat, l.length = len ∧ (∀ x ∈ l, x < 256) ∧ Rd w 1 len A (u8s l) ∧ len ≤ maxLen := by
  rcases h with ⟨rfl, rfl, rfl, rfl⟩ | ⟨a, rfl, h1, h2, h3, h4, h5⟩
  · exact ⟨[], rfl, by simp, Rd.nil _ _ _, by unfold maxLen; omega⟩
  · have hb : ∀ z ∈ zs, 0 ≤ z ∧ z < 256 := fun z hz => by have := bounds_u8 (h5 z hz); omega
    refine ⟨(zs.take len).map Int.toNat, by simp; omega, fun x hx => ?_, rd_of (by simp [u8s]; omega) (by omega) (fun j u hu => ?_), by omega⟩
    · obtain ⟨z, hz, rfl⟩ := List.mem_map.1 hx
      have := hb z (List.mem_of_mem_take hz)
      omega
    · unfold u8s at hu
      rw [List.map_map, List.getElem?_map] at hu
      cases hz : (zs.take len)[j]? with
      | none => rw [hz] at hu; simp at hu
      | some z =>
        rw [hz] at hu
        simp only [Option.map_some, Function.comp_apply, Option.some.injEq] at hu
        have hm := hb z (List.mem_of_mem_take (List.mem_of_getElem? hz))
        have hz2 : zs[j]? = some z := by
          rw [List.getElem?_take] at hz
          split at hz
          · exact hz
          · cases hz
        have hj := (List.getElem?_eq_some_iff.1 hz2).1
        rw [h4 j hj, ← hu]
        have : zs.getD j 0 = z := by rw [List.getD, hz2]; rfl
        rw [this]
        have : ((z.toNat : Nat) : Int) = z := by omega
        rw [this]
end Go.Proofs.Ytmbgmbheonpamaa
