/- The tables of lines in memory: read whole, read by place. -/
import Derived.Test.YthiohihbcfahhaaDoorFlds
import Derived.Laws.Rows
import Derived.OwnWalk
namespace Go.Proofs.YthiohihbcfahhaaDoor
open Go.RowKit
def Ln.cells (l : Ln) : List Value := [.string ⟨l.w.toArray⟩, .int .u16 l.c, .int .u8 l.s]
def tabC : List Value := tab.flatMap Ln.cells
def tabV : Value := .agg tabC.toArray
structure TabAt (w : World) : Prop where
  lines : ∀ j u, tabC[j]? = some u → w.cell? ⟨0, j, none⟩ = some u
  raw : ∀ j u, rawL.cells[j]? = some u → w.cell? ⟨1, j, none⟩ = some u
theorem cell_below {w w' : World} {b o : Nat} {v : Value} (h : w.cell? ⟨b, o, none⟩ = some v) (hb : Below w.heap.size w w') : w'.cell? ⟨b, o, none⟩ = some v := by
  have hl : b < w.heap.size := by
    rcases Nat.lt_or_ge b w.heap.size with h' | h'
    · exact h'
    · simp [World.cell?, Array.getElem?_eq_none h'] at h
  exact (hb.cell (p := ⟨b, o, none⟩) hl).trans h
theorem TabAt.below {w w' : World} (h : TabAt w) (hb : Below w.heap.size w w') : TabAt w' :=
  ⟨fun j u hj => cell_below (h.lines j u hj) hb, fun j u hj => cell_below (h.raw j u hj) hb⟩
theorem tabC_len : tabC.length = 123 := by kernel_rfl
theorem tab_load (w : World) (h : TabAt w) : (loadVar 118 ⟨0, 0, none⟩).run Tryd.prog w = .ok tabV w := by
  have hl : (loadCells ⟨0, 0, none⟩ 123).run Tryd.prog w = .ok tabC.toArray w := by
    have := run_loadCells_list (P := Tryd.prog) w ⟨0, 0, none⟩ tabC (fun j u hj => by
      have hadd : (⟨0, 0, none⟩ : Addr).add j = ⟨0, j, none⟩ := by unfold Addr.add; split <;> simp_all
      rw [hadd]; exact h.lines j u hj)
    rwa [tabC_len] at this
  have hq : (Tryd.prog.info? 118).map (·.size) = some 123 := by kernel_rfl
  cases hi : Tryd.prog.info? 118 with
  | none => simp [hi] at hq
  | some i =>
    have hs : i.size = 123 := by simpa [hi] using hq
    have hagg : (isAgg 118).run Tryd.prog w = .ok true w := by
      unfold isAgg
      rw [Sem.run_bind, run_underlying Tryd.underlying118 w]
      rfl
    simp only [loadVar, Sem.run_bind, hagg, sizeOf, typeInfo]
    simp [hi, hs, hl, tabV]
theorem wpList_load_tab {ops : Array Oper} {rest : List Oper} {o : Oper} {a : Act} {w : World} {Q : Exit → Act → World → Prop} (hgd : o.guard = none) (x : Operand) (ho : o.op = .load 118 x)
    (hx : a.eval x = .pointer (some ⟨0, 0, none⟩)) (hN : TabAt w) (h : wpList Tryd.prog ops Q rest (a.put o.dst tabV) w) : wpList Tryd.prog ops Q (o :: rest) a w :=
  wpList_plain hgd fun _ hK => by
    unfold Oper.wp execOp
    simp only [ho, hx, Instr.loadAt, Instr.sureAddr, Sem.run_bind, Sem.run_pure, Result.andThen_ok, tab_load w hN]
    exact hK _ _ h
def lnAt (k : Nat) : Ln := tab.getD k noL
def lnV (l : Ln) : Value := .agg #[.string ⟨l.w.toArray⟩, .int .u16 l.c, .int .u8 l.s]
theorem tab_index (w : World) (k : Nat) (h : k < 41) : (Instr.index 118 tabV (.int .i64 (k : Int))).run Tryd.prog w = .ok (.agg #[.string ⟨(lnAt k).w.toArray⟩, .int .u16 (lnAt k).c, .int .u8 (lnAt k).s]) w := by
  rcases (by omega : k = 0 ∨ k = 1 ∨ k = 2 ∨ k = 3 ∨ k = 4 ∨ k = 5 ∨ k = 6 ∨ k = 7 ∨ k = 8 ∨ k = 9 ∨ k = 10 ∨ k = 11 ∨ k = 12 ∨ k = 13 ∨ k = 14 ∨ k = 15 ∨ k = 16 ∨ k = 17 ∨ k = 18 ∨ k = 19 ∨ k = 20 ∨ k = 21 ∨ k = 22 ∨ k = 23 ∨ k = 24 ∨ k = 25 ∨ k = 26 ∨ k = 27 ∨ k = 28 ∨ k = 29 ∨ k = 30 ∨ k = 31 ∨ k = 32 ∨ k = 33 ∨ k = 34 ∨ k = 35 ∨ k = 36 ∨ k = 37 ∨ k = 38 ∨ k = 39 ∨ k = 40) with rfl | rfl | rfl | rfl | rfl | rfl | rfl | rfl | rfl | rfl | rfl | rfl | rfl | rfl | rfl | rfl | rfl | rfl | rfl | rfl | rfl | rfl | rfl | rfl | rfl | rfl | rfl | rfl | rfl | rfl | rfl | rfl | rfl | rfl | rfl | rfl | rfl | rfl | rfl | rfl | rfl <;> kernel_rfl
theorem lnAt_get (k : Nat) (h : k < 41) : tab[k]? = some (lnAt k) := by
  unfold lnAt; rw [List.getD, List.getElem?_eq_getElem (by rw [tab_len]; exact h)]; rfl
theorem tab_ok : ∀ l ∈ tab, l.c < 65536 ∧ l.s < 5 ∧ l.w.length < 100 ∧ 0 < l.w.length := by decide
theorem lnAt_ok (k : Nat) (h : k < 41) : (lnAt k).c < 65536 ∧ (lnAt k).s < 5 ∧ (lnAt k).w.length < 100 ∧ 0 < (lnAt k).w.length := tab_ok _ (List.mem_of_getElem? (lnAt_get k h))
end Go.Proofs.YthiohihbcfahhaaDoor
