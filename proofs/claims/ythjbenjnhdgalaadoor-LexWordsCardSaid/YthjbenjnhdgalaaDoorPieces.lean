/- The given pieces in memory. -/
import Derived.Test.YthjbenjnhdgalaaDoorWordsM
import Derived.Test.YthjbenjnhdgalaaDoorBlank
namespace Go.Proofs.YthjbenjnhdgalaaDoor
open Go.RowKit
def Pc.cells (x : Pc) : List Value := [.string ⟨x.t.toArray⟩, .int .u8 x.k, .int .i64 x.e]
theorem pc_at : ∀ (l : List Pc) (k j : Nat), j < 3 → (l.flatMap Pc.cells)[k * 3 + j]? = (l[k]?).bind (fun x => x.cells[j]?)
  | [], k, j, _ => by simp
  | x :: l, k, j, hj => by
    rw [List.flatMap_cons]
    cases k with
    | zero => rw [List.getElem?_append_left (by simp [Pc.cells]; omega)]; simp
    | succ k =>
      rw [List.getElem?_append_right (by simp [Pc.cells]; omega), show (x.cells).length = 3 from rfl, show (k + 1) * 3 + j - 3 = k * 3 + j from by omega, pc_at l k j hj]
      simp
theorem three_cells {w : World} {l : List Pc} {b k T : Nat} {x : Pc} (h : Bk w b T (l.flatMap Pc.cells)) (hx : l[k]? = some x) :
    w.cell? ⟨b, k * 3, none⟩ = some (.string ⟨x.t.toArray⟩) ∧ w.cell? ⟨b, k * 3 + 1, none⟩ = some (.int .u8 x.k) ∧ w.cell? ⟨b, k * 3 + 2, none⟩ = some (.int .i64 x.e) := by
  have hh : ∀ j, j < 3 → ∀ u, x.cells[j]? = some u → w.cell? ⟨b, k * 3 + j, none⟩ = some u := fun j hj u hu => h.cell _ (by rw [pc_at l k j hj, hx]; exact hu)
  exact ⟨hh 0 (by omega) _ rfl, hh 1 (by omega) _ rfl, hh 2 (by omega) _ rfl⟩
def PcPost (l : List Pc) (n : Nat) (w : World) (e : Ending) (w' : World) : Prop :=
  ∃ b, b = w.heap.size ∧ e = .returned (.slice (some ⟨b, 0, none⟩) n n) ∧ Bk w' b 30 (l.flatMap Pc.cells) ∧ Below w.heap.size w w'
set_option maxHeartbeats 2000000 in
set_option maxRecDepth 100000 in
theorem pieces_any (w : World) : Calls Tryd.prog 8 #[] w (PcPost goodP 14 w) := by
  go_enter Tryd.func8, Tryd.ntmps8
  go_wp2_with fail
  go_ret
  exact ⟨_, rfl, rfl, Bk.new w _ _ rfl, (Below.refl _ _).alloc (Nat.le_refl _) _⟩
set_option maxHeartbeats 2000000 in
set_option maxRecDepth 100000 in
theorem wrong_any (w : World) : Calls Tryd.prog 9 #[] w (PcPost badP 11 w) := by
  go_enter Tryd.func9, Tryd.ntmps9
  go_wp2_with fail
  go_ret
  exact ⟨_, rfl, rfl, Bk.new w _ _ rfl, (Below.refl _ _).alloc (Nat.le_refl _) _⟩
end Go.Proofs.YthjbenjnhdgalaaDoor
