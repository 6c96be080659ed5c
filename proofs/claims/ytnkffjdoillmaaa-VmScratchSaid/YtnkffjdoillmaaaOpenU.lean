/- What the laws are handed: numbers of thirty-two bits. -/
import Derived.Test.YtnkffjdoillmaaaOpenR
namespace Go.Proofs.Ytnkffjdoillmaaa
set_option maxRecDepth 100000
open Go.ChangeShapes Go.WideShapes Go.ChangeAt Go.RowKit Go.Deep
theorem open_u32s {H : Type} {enc : TypeId × Value → H} {w : World} {base : Nat} {spare : Nat → Bool} {held : Bool} {fuel : Nat} {x : DataW H × List MemPlace} {A : Option Addr} {len cap : Nat}
    (h : DataW.trod enc Try.prog w base spare held fuel 62 [.slice A len cap] = some x) :
    ∃ l : List Nat, l.length = len ∧ (∀ b ∈ l, b < 4294967296) ∧ Rd w 1 len A (u32s l) ∧ len ≤ maxLen := by
  rcases Go.Deep.open_slice Try.underlying62 h with ⟨hcs, _⟩ | ⟨a, len', cap', m, n, D, Pl, hcs, hb, hl, hm, hmm, hx, hi⟩
  · simp only [List.cons.injEq, Value.slice.injEq, and_true] at hcs
    obtain ⟨rfl, rfl, rfl⟩ := hcs
    exact ⟨[], rfl, by simp, Rd.nil _ _ _, by unfold maxLen; omega⟩
  · simp only [List.cons.injEq, Value.slice.injEq, and_true] at hcs
    obtain ⟨rfl, rfl, rfl⟩ := hcs
    have hle : len ≤ m := by rw [hmm]; split <;> omega
    have hC : Try.prog.cellsOf 35 = 1 := by kernel_rfl
    rw [hC] at hi
    have each : ∀ i, i < len → ∃ y : Nat, y < 4294967296 ∧ w.cell? (a.add i) = some (.int .u32 y) := by
      intro i hil
      obtain ⟨cs', hc, ht⟩ := hi i (by omega)
      obtain ⟨_, hcl, hat⟩ := World.cells?_some hc
      match cs', hcl with
      | [v], _ =>
        obtain ⟨y, rfl, hy⟩ := Rec.u32_of ⟨_, ht⟩
        have h1 := hat 0 (by simp)
        rw [Go.Deep.add_add, Nat.mul_one, Nat.add_zero] at h1
        exact ⟨y, hy, h1⟩
    obtain ⟨l, hl1, hl2⟩ := list_of len each
    refine ⟨l, hl1, fun i hi => ?_, rd_of (by simp [u32s, hl1]) (by omega) (fun q u hu => ?_), Nat.le_trans hl hm⟩
    · obtain ⟨j, hj⟩ := List.getElem?_of_mem hi
      exact (hl2 j i hj).1
    · simp only [u32s, List.getElem?_map, Option.map_eq_some_iff] at hu
      obtain ⟨y, hy, rfl⟩ := hu
      exact (hl2 q y hy).2
end Go.Proofs.Ytnkffjdoillmaaa
