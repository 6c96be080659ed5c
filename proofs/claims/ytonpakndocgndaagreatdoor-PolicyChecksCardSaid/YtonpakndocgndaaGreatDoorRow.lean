/- Whole blocks, loaded and stored at once. -/
import Derived.Test.YtonpakndocgndaaGreatDoorBk
import Derived.Laws.Rows
import Derived.Laws.Tables
namespace Go.Proofs.YtonpakndocgndaaGreatDoor
open Go.RowKit
theorem Bk.row {w : World} {g t : Nat} {l : List Value} (h : Bk w g t l) (l' : List Value) : Bk (w.setRow g l'.toArray) g t l' := setRow_heap w g l.toArray l'.toArray t (0, 0) h
theorem only_row (w : World) (g : Nat) (cs : Array Value) : w.grownBy (w.setRow g cs) (some g) :=
  ⟨rfl, rfl, rfl, by simp [World.setRow], fun i _ hn => by
    simp only [World.setRow, Array.getElem?_modify]
    rw [if_neg (fun e => hn (by rw [e]))]⟩
section
variable {w : World} {g t ty n e : Nat} {l l' : List Value} {ops : Array Oper} {rest : List Oper} {o : Oper} {a : Act} {Q : Exit → Act → World → Prop}
/-- An array that is a whole block, loaded. -/
theorem ld_row (h : Bk w g t l) (hgd : o.guard = none) (x : Operand) (ho : o.op = .load ty x) (hx : a.eval x = .pointer (some ⟨g, 0, none⟩)) (hu : Tryz.prog.underlying ty = some (.array n e)) (hi : (Tryz.prog.info? ty).map (·.size) = some n) (hl : l.length = n)
    (hK : wpList Tryz.prog ops Q rest (a.put o.dst (.agg l.toArray)) w) : wpList Tryz.prog ops Q (o :: rest) a w :=
  wpList_load_row hgd ty x ho g hx t l.toArray (0, 0) _ h hu rfl (by rw [hi, List.size_toArray, hl]) hK
/-- An array that is a whole block, stored. -/
theorem st_row (h : Bk w g t l) (hgd : o.guard = none) (x y : Operand) (ho : o.op = .store ty x y) (hx : a.eval x = .pointer (some ⟨g, 0, none⟩)) (hy : a.eval y = .agg l'.toArray) (hi : (Tryz.prog.info? ty).map (·.size) = some n) (hl : l.length = n) (hl' : l'.length = n) (h1 : l'.toArray.all (·.oneCell') = true)
    (hK : wpList Tryz.prog ops Q rest (a.put o.dst undef) (w.setRow g l'.toArray)) : wpList Tryz.prog ops Q (o :: rest) a w :=
  wpList_store_row hgd ty x y ho g l'.toArray hx hy t l.toArray h (by rw [hi, List.size_toArray, hl']) (by rw [List.size_toArray, List.size_toArray, hl, hl']) h1 hK
theorem var_row (h : Bk w g t l) (hu : Tryz.prog.underlying ty = some (.array n e)) (hi : (Tryz.prog.info? ty).map (·.size) = some n) (hl : l.length = n) : (loadVar ty ⟨g, 0, none⟩).run Tryz.prog w = .ok (.agg l.toArray) w :=
  run_loadVar_row w g t ty l.toArray (0, 0) _ h hu rfl (by rw [hi, List.size_toArray, hl])
end
section
variable {w : World} {g t ty n e : Nat} {l : List Value}
/-- What a call answers that lies in a block of its own. -/
theorem res_row {fn : Func} {p : Tmp} (hf : fn.results = #[.cell p ty]) (tmps : Array Value) (hp : tmps.getD p undef = .pointer (some ⟨g, 0, none⟩)) (h : Bk w g t l) (hu : Tryz.prog.underlying ty = some (.array n e)) (hi : (Tryz.prog.info? ty).map (·.size) = some n) (hl : l.length = n) :
    (results fn tmps).run Tryz.prog w = .ok (.agg l.toArray) w :=
  results_cell_row hf tmps w g t l.toArray (0, 0) _ hp h hu rfl (by rw [hi, List.size_toArray, hl])
end
end Go.Proofs.YtonpakndocgndaaGreatDoor


