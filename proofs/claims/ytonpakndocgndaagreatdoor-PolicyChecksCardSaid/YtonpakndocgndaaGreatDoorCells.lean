/- Instructions as cells: four each. -/
import Derived.Test.YtonpakndocgndaaGreatDoorMath
import Derived.Test.YtonpakndocgndaaGreatDoorRd
import Derived.OwnWalk
import Derived.LoopTactic
namespace Go.Proofs.YtonpakndocgndaaGreatDoor
open Go.RowKit
def Yes (w : World) (e : Ending) (w' : World) : Prop := e = .returned (.bool true) ∧ Below w.heap.size w w'
def Ins.cells (i : Ins) : List Value := [.int .u16 i.c, .int .u8 i.t, .int .u8 i.f, .int .u32 i.k]
theorem cells_at : ∀ (l : List Ins) (k j : Nat), j < 4 → (l.flatMap Ins.cells)[k * 4 + j]? = (l[k]?).bind (fun x => x.cells[j]?)
  | [], k, j, _ => by simp
  | x :: l, k, j, hj => by
    rw [List.flatMap_cons]
    cases k with
    | zero => rw [List.getElem?_append_left (by simp [Ins.cells]; omega)]; simp
    | succ k =>
      rw [List.getElem?_append_right (by simp [Ins.cells]; omega), show (x.cells).length = 4 from rfl, show (k + 1) * 4 + j - 4 = k * 4 + j from by omega, cells_at l k j hj]
      simp
/-- The four cells of the k-th. -/
theorem four_cells {w : World} {l : List Ins} {b o k : Nat} {x : Ins} (h : ∀ j u, (l.flatMap Ins.cells)[j]? = some u → w.cell? ⟨b, o + j, none⟩ = some u) (hx : l[k]? = some x) :
    w.cell? ⟨b, o + k * 4, none⟩ = some (.int .u16 x.c) ∧ w.cell? ⟨b, o + k * 4 + 1, none⟩ = some (.int .u8 x.t) ∧ w.cell? ⟨b, o + k * 4 + 2, none⟩ = some (.int .u8 x.f) ∧ w.cell? ⟨b, o + k * 4 + 3, none⟩ = some (.int .u32 x.k) := by
  have hh : ∀ j, j < 4 → ∀ u, x.cells[j]? = some u → w.cell? ⟨b, o + k * 4 + j, none⟩ = some u := fun j hj u hu => by
    rw [Nat.add_assoc]; exact h _ _ (by rw [cells_at l k j hj, hx]; exact hu)
  exact ⟨hh 0 (by omega) _ rfl, hh 1 (by omega) _ rfl, hh 2 (by omega) _ rfl, hh 3 (by omega) _ rfl⟩
theorem take_snoc' {α : Type} (l : List α) (k : Nat) (x : α) (h : l[k]? = some x) : l.take (k + 1) = l.take k ++ [x] := by
  have hl := (List.getElem?_eq_some_iff.1 h)
  rw [List.take_succ_eq_append_getElem hl.1, hl.2]
theorem four_new (w : World) (T : TypeId) (c t f k : Nat) (j : Nat) (u : Value) (h : (Ins.cells ⟨c, t, f, k⟩)[j]? = some u) :
    (w.alloc (.cells #[.int .u16 c, .int .u8 t, .int .u8 f, .int .u32 k] T)).cell? ((⟨w.heap.size, 0, none⟩ : Addr).add j) = some u := by
  have hj : j < 4 := by
    have := (List.getElem?_eq_some_iff.1 h).1
    simpa [Ins.cells] using this
  rcases (by omega : j = 0 ∨ j = 1 ∨ j = 2 ∨ j = 3) with rfl | rfl | rfl | rfl <;>
    (simp [Ins.cells] at h; subst h; simp [Addr.add])
theorem cells_one (x : Ins) : ∀ u ∈ x.cells, u.oneCell' = true := by
  intro u hu
  simp only [Ins.cells, List.mem_cons, List.not_mem_nil, or_false] at hu
  rcases hu with rfl | rfl | rfl | rfl <;> rfl
theorem two_below (w : World) (o o' : Obj) : Below w.heap.size w ((w.alloc o).alloc o') := ((Below.refl _ _).alloc (Nat.le_refl _) _).alloc (by simp) _
end Go.Proofs.YtonpakndocgndaaGreatDoor



