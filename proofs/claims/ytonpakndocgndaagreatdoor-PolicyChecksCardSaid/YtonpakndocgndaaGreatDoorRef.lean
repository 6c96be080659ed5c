/- The document's own list of calls, looked through by name, by number. -/
import Derived.Test.YtonpakndocgndaaGreatDoorNamed
namespace Go.Proofs.YtonpakndocgndaaGreatDoor
open Go.RowKit Go.Maps

def refCells (r : Row) : List Value := [.int .i64 r.1, .string ⟨r.2.1.toArray⟩, .int .i64 r.2.2]
def refV (r : Row) : Value := .agg #[.int .i64 r.1, .string ⟨r.2.1.toArray⟩, .int .i64 r.2.2]
def refTable : Array Value := (rows.flatMap refCells).toArray
def RefSrc (w : World) (t : Nat) : Prop := w.heap[t]? = some (.cells refTable 95 (0, 0))

set_option maxRecDepth 100000 in
set_option maxHeartbeats 1000000 in
theorem ref_calls (w : World) : Calls Tryz.prog 15 #[] w fun e w' =>
    e = .returned (.slice (some ⟨w.heap.size, 0, none⟩) 30 30) ∧ w' = w.alloc (.cells refTable 95) := by
  go_enter Tryz.func15, Tryz.ntmps15
  go_wp2
  go_ret
  exact ⟨by kernel_rfl, by kernel_rfl⟩

theorem ref_at (k j : Nat) (hk : k < 30) (hj : j < 3) : refTable[k * 3 + j]? = (refCells (rowAt k))[j]? := by
  have hl : k < rows.length := by rw [rows_len]; exact hk
  have h := flat_at refCells (fun _ => rfl) rows k j hj
  unfold refTable
  rw [List.getElem?_toArray, h, List.getElem?_eq_getElem hl, rowAt, List.getD_eq_getElem?_getD, List.getElem?_eq_getElem hl]
  rfl
theorem RefSrc.cell {w : World} {t : Nat} (h : RefSrc w t) (k : Nat) (hk : k < 30) :
    w.cell? ⟨t, k * 3, none⟩ = some (.int .i64 (rowAt k).1) ∧ w.cell? ⟨t, k * 3 + 1, none⟩ = some (.string ⟨(rowAt k).2.1.toArray⟩) ∧ w.cell? ⟨t, k * 3 + 2, none⟩ = some (.int .i64 (rowAt k).2.2) := by
  simp only [RefSrc] at h
  have h0 : refTable[k * 3]? = _ := ref_at k 0 hk (by omega)
  have h1 := ref_at k 1 hk (by omega)
  have h2 := ref_at k 2 hk (by omega)
  simp only [World.cell?, h]
  exact ⟨h0, h1, h2⟩
end Go.Proofs.YtonpakndocgndaaGreatDoor

