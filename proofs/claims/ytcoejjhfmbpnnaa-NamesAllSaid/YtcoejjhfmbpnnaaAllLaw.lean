/- All calls, by their numbers, each found by both; and they are the document's. -/
import Derived.Test.YtcoejjhfmbpnnaaOnceLaw
import Derived.Deep.QuietTactic
import Derived.BigQuiet
import Derived.StillTailTactics
namespace Go.Proofs.Ytcoejjhfmbpnnaa
open Go.RowKit

theorem byName_row (k : Nat) (hk : k < 30) : byName (rowAt k).2.1 = some (rowAt k) := by
  have : ∀ k, k < 30 → byName (rowAt k).2.1 = some (rowAt k) := by decide
  exact this k hk
theorem byNum_row (k : Nat) (hk : k < 30) : byNum (rowAt k).1 = some (rowAt k) := by
  have : ∀ k, k < 30 → byNum (rowAt k).1 = some (rowAt k) := by decide
  exact this k hk
theorem row_rises (k : Nat) (hk : k < 30) (h0 : k ≠ 0) : (rowAt (k - 1)).1 < (rowAt k).1 := by
  have : ∀ k, k < 30 → k ≠ 0 → (rowAt (k - 1)).1 < (rowAt k).1 := by decide
  exact this k hk h0

/-- A list of all rows in memory: its cells. -/
theorem holds_cells {w : World} {g : Nat} (h : Sort.HoldsK rowCells 3 w g 0 rows.toArray) (k : Nat) (hk : k < 30) :
    w.cell? ⟨g, k * 3, none⟩ = some (.int .u32 (rowAt k).1) ∧ w.cell? ⟨g, k * 3 + 1, none⟩ = some (.string ⟨(rowAt k).2.1.toArray⟩) ∧ w.cell? ⟨g, k * 3 + 2, none⟩ = some (.int .i64 (rowAt k).2.2) := by
  have hi : k < rows.toArray.size := by simpa [rows_len] using hk
  have hl : k < rows.length := by rw [rows_len]; exact hk
  have e : rows.toArray[k]! = rowAt k := by
    rw [getElem!_pos rows.toArray k hi, rowAt, List.getD_eq_getElem?_getD, List.getElem?_eq_getElem hl]; simp
  have h0 := (Sort.HoldsK.cell h hi (c := 0) (by omega)).1
  have h1 := (Sort.HoldsK.cell h hi (c := 1) (by omega)).1
  have h2 := (Sort.HoldsK.cell h hi (c := 2) (by omega)).1
  rw [e] at h0 h1 h2
  simp only [Nat.zero_add, Nat.add_zero] at h0 h1 h2
  exact ⟨h0, h1, h2⟩

/-- A row of ninety cells that may be written. -/
def Free (w : World) (g : Nat) : Prop := ∀ j, j < 90 → (∃ v, w.cell? ⟨g, j, none⟩ = some v) ∧ w.frozen? ⟨g, j, none⟩ = false
theorem free_of_holds {w : World} {g : Nat} (h : Sort.HoldsK rowCells 3 w g 0 rows.toArray) : Free w g := by
  intro j hj
  have hs : (Sort.flatK rowCells 3 rows.toArray).size = 90 := by rw [Sort.size_flatK, List.size_toArray, rows_len]
  have hj' : j < (Sort.flatK rowCells 3 rows.toArray).size := by rw [hs]; exact hj
  have h' : Sort.Holds id w g 0 (Sort.flatK rowCells 3 rows.toArray) := h
  obtain ⟨h1, h2⟩ := h' j hj'
  rw [Nat.zero_add] at h1 h2
  exact ⟨⟨_, h1⟩, h2⟩
theorem cells_of_free {w : World} {g : Nat} (h : Free w g) : ∃ cs t fz, w.heap[g]? = some (.cells cs t fz) := by
  obtain ⟨⟨v, hv⟩, _⟩ := h 0 (by omega)
  simp only [World.cell?] at hv
  split at hv
  · rename_i cs t fz hb; exact ⟨cs, t, fz, hb⟩
  · cases hv
theorem free_set {w : World} {g : Nat} (h : Free w g) (i : Nat) (v : Value) : Free (w.setCell ⟨g, i, none⟩ v) g := by
  intro j hj
  obtain ⟨⟨u, hu⟩, hf⟩ := h j hj
  refine ⟨?_, by rw [World.frozen?_setCell]; exact hf⟩
  by_cases e : (⟨g, j, none⟩ : Addr) = ⟨g, i, none⟩
  · rw [← e]; exact ⟨v, World.cell?_setCell_same _ _ _ hu⟩
  · exact ⟨u, (World.cell?_setCell_other w ⟨g, i, none⟩ ⟨g, j, none⟩ v (fun h => e h.symm)).trans hu⟩

structure AllLaw (w : World) (tb g : Nat) (asked : Int) (wr : World) : Prop where
  once : OnceRel w tb asked wr
  made : Made wr tb asked
  ne : g ≠ tb
  ge : w.heap.size ≤ g
  lt : g < wr.heap.size
  holds : Sort.HoldsK rowCells 3 wr g 0 rows.toArray

theorem holds_kept {w w' : World} {g : Nat} {r : Option Nat} (h : Sort.HoldsK rowCells 3 w g 0 rows.toArray) (hg : w.grownBy w' r) (hl : g < w.heap.size) (hr : some g ≠ r) : Sort.HoldsK rowCells 3 w' g 0 rows.toArray := by
  intro j hj
  obtain ⟨h1, h2⟩ := h j hj
  have hb := hg.block g hl hr
  exact ⟨by rw [← h1]; exact World.cell?_of_block hb, by rw [← h2]; exact World.frozen?_of_block hb⟩

theorem allLaw_step {w : World} {tb g : Nat} {asked asked' : Int} {wr wr' : World} (h : AllLaw w tb g asked wr) (hm : Made wr' tb asked') (hg : wr.grownBy wr' (some tb)) : AllLaw w tb g asked' wr' :=
  ⟨once_step h.once hm hg, hm, h.ne, h.ge, Nat.lt_of_lt_of_le h.lt hg.size, holds_kept h.holds hg h.lt (fun e => h.ne (by cases e; rfl))⟩
theorem allLaw_alloc {w : World} {tb g : Nat} {asked : Int} {wr : World} (h : AllLaw w tb g asked wr) (o : Obj) : AllLaw w tb g asked (wr.alloc o) := by
  have hg := World.grownBy_alloc wr o none
  have hk := holds_kept h.holds hg h.lt (by intro e; cases e)
  exact { once := once_alloc h.once o, made := h.made.kept hg rfl, ne := h.ne, ge := h.ge, lt := Nat.lt_of_lt_of_le h.lt hg.size, holds := hk }

theorem allLaw_drewN {w : World} {tb g : Nat} {asked : Int} {wr : World} (h : AllLaw w tb g asked wr) (n : Nat) : AllLaw w tb g asked (wr.drewN n) := by
  have hg : wr.grownBy (wr.drewN n) none := ⟨rfl, rfl, rfl, Nat.le_refl _, fun _ _ _ => rfl⟩
  have hm := h.made.kept hg rfl
  have hk := holds_kept h.holds hg h.lt (by intro e; cases e)
  exact { once := ⟨h.once.below.grown hg h.once.below.size (fun k hk => by cases hk), .inr hm, h.once.new⟩, made := hm, ne := h.ne, ge := h.ge, lt := h.lt, holds := hk }

theorem allLaw_below {w : World} {tb g : Nat} {asked : Int} {wr w' : World} (h : AllLaw w tb g asked wr) (hb : Below wr.heap.size wr w') : AllLaw w tb g asked w' := by
  have hg := grown_of_below hb
  have hm := h.made.kept hg rfl
  have hk := holds_kept h.holds hg h.lt (by intro e; cases e)
  exact { once := ⟨h.once.below.grown hg h.once.below.size (fun k hk => by cases hk), .inr hm, h.once.new⟩, made := hm, ne := h.ne, ge := h.ge, lt := Nat.lt_of_lt_of_le h.lt hg.size, holds := hk }

/-- While the names are overwritten. -/
structure Mid (w : World) (tb g : Nat) (wr : World) : Prop where
  below : Below w.heap.size w wr
  made : Made wr tb 61
  ne : g ≠ tb
  ge : w.heap.size ≤ g
  free : Free wr g
theorem mid_set {w : World} {tb g : Nat} {wr : World} (h : Mid w tb g wr) (i : Nat) (v : Value) : Mid w tb g (wr.setCell ⟨g, i, none⟩ v) := by
  obtain ⟨cs, t, fz, hb⟩ := cells_of_free h.free
  exact { below := h.below.setCell (p := ⟨g, i, none⟩) h.ge v, made := h.made.setOther h.ne hb ⟨g, i, none⟩ rfl v, ne := h.ne, ge := h.ge, free := free_set h.free i v }

theorem ne_row (r : Row) (w : World) : (binOp .neq 27 (.agg #[.int .u32 r.1, .string ⟨r.2.1.toArray⟩, .int .i64 r.2.2]) (.agg #[.int .u32 r.1, .string ⟨r.2.1.toArray⟩, .int .i64 r.2.2])).run Try.prog w = .ok (.bool false) w := by
  rw [run_neq_struct]
  rw [run_equalIn_struct w 9999 27 _ _ (by kernel_rfl) (by kernel_rfl)]
  rw [show Try.prog.fieldsOf 27 = _ from by unfold Program.fieldsOf; rw [Try.underlying27]]
  simp [Op.eqFields, go_sem]
end Go.Proofs.Ytcoejjhfmbpnnaa
