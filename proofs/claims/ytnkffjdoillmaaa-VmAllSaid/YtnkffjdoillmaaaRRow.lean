/- Whole blocks, loaded and stored at once. -/
import Derived.Test.YtnkffjdoillmaaaRow
import Derived.Laws.Rows
import Derived.Laws.Tables
namespace Go.Proofs.Ytnkffjdoillmaaa.Rec
open Go.RowKit
theorem Bk.row {w : World} {g t : Nat} {l : List Value} (h : Bk w g t l) (l' : List Value) : Bk (w.setRow g l'.toArray) g t l' := setRow_heap w g l.toArray l'.toArray t (0, 0) h
theorem only_row (w : World) (g : Nat) (cs : Array Value) : w.grownBy (w.setRow g cs) (some g) :=
  ⟨rfl, rfl, rfl, by simp [World.setRow], fun i _ hn => by
    simp only [World.setRow, Array.getElem?_modify]
    rw [if_neg (fun e => hn (by rw [e]))]⟩
section
variable {w : World} {g t ty n e : Nat} {l l' : List Value} {ops : Array Oper} {rest : List Oper} {o : Oper} {a : Act} {Q : Exit → Act → World → Prop}
/-- An array that is a whole block, loaded. -/
theorem ld_row (h : Bk w g t l) (hgd : o.guard = none) (x : Operand) (ho : o.op = .load ty x) (hx : a.eval x = .pointer (some ⟨g, 0, none⟩)) (hu : Try.prog.underlying ty = some (.array n e)) (hi : (Try.prog.info? ty).map (·.size) = some n) (hl : l.length = n)
    (hK : wpList Try.prog ops Q rest (a.put o.dst (.agg l.toArray)) w) : wpList Try.prog ops Q (o :: rest) a w :=
  wpList_load_row hgd ty x ho g hx t l.toArray (0, 0) _ h hu rfl (by rw [hi, List.size_toArray, hl]) hK
/-- An array that is a whole block, stored. -/
theorem st_row (h : Bk w g t l) (hgd : o.guard = none) (x y : Operand) (ho : o.op = .store ty x y) (hx : a.eval x = .pointer (some ⟨g, 0, none⟩)) (hy : a.eval y = .agg l'.toArray) (hi : (Try.prog.info? ty).map (·.size) = some n) (hl : l.length = n) (hl' : l'.length = n) (h1 : l'.toArray.all (·.oneCell') = true)
    (hK : wpList Try.prog ops Q rest (a.put o.dst undef) (w.setRow g l'.toArray)) : wpList Try.prog ops Q (o :: rest) a w :=
  wpList_store_row hgd ty x y ho g l'.toArray hx hy t l.toArray h (by rw [hi, List.size_toArray, hl']) (by rw [List.size_toArray, List.size_toArray, hl, hl']) h1 hK
theorem var_row (h : Bk w g t l) (hu : Try.prog.underlying ty = some (.array n e)) (hi : (Try.prog.info? ty).map (·.size) = some n) (hl : l.length = n) : (loadVar ty ⟨g, 0, none⟩).run Try.prog w = .ok (.agg l.toArray) w :=
  run_loadVar_row w g t ty l.toArray (0, 0) _ h hu rfl (by rw [hi, List.size_toArray, hl])
end
theorem size64 : (Try.prog.info? 118).map (·.size) = some 64 := by kernel_rfl
theorem u8s_len {bs : List Nat} (h : bs.length = 64) : (u8s bs).length = 64 := by simp [u8s, h]
theorem u8s_all (bs : List Nat) : (u8s bs).toArray.all (·.oneCell') = true := by
  simp only [u8s, List.all_toArray, List.all_map, List.all_eq_true]
  intro x _
  rfl
section
variable {w : World} {g t ty n : Nat} {d : Array Field} {l l' : List Value} {ops : Array Oper} {rest : List Oper} {o : Oper} {a : Act} {Q : Exit → Act → World → Prop}
/-- A struct or an array that is a whole block, loaded. -/
theorem ld_any (h : Bk w g t l) (hgd : o.guard = none) (x : Operand) (ho : o.op = .load ty x) (hx : a.eval x = .pointer (some ⟨g, 0, none⟩)) (hu : Try.prog.underlying ty = some (.struct d)) (hi : (Try.prog.info? ty).map (·.size) = some n) (hl : l.length = n)
    (hK : wpList Try.prog ops Q rest (a.put o.dst (.agg l.toArray)) w) : wpList Try.prog ops Q (o :: rest) a w :=
  wpList_load_row hgd ty x ho g hx t l.toArray (0, 0) _ h hu rfl (by rw [hi, List.size_toArray, hl]) hK
/-- What a call answers that lies in a block of its own. -/
theorem res_any {fn : Func} {p : Tmp} (hf : fn.results = #[.cell p ty]) (tmps : Array Value) (hp : tmps.getD p undef = .pointer (some ⟨g, 0, none⟩)) (h : Bk w g t l) (hu : Try.prog.underlying ty = some (.struct d)) (hi : (Try.prog.info? ty).map (·.size) = some n) (hl : l.length = n) :
    (results fn tmps).run Try.prog w = .ok (.agg l.toArray) w :=
  results_cell_row hf tmps w g t l.toArray (0, 0) _ hp h hu rfl (by rw [hi, List.size_toArray, hl])
end
/-- A load whose run is known, as an operation. -/
theorem exec_load {P : Program} {o : Oper} {ρ : Operand → Value} {w : World} {v : Value} {ty : TypeId} {x : Operand} {g : Nat} (ho : o.op = .load ty x) (hx : ρ x = .pointer (some ⟨g, 0, none⟩))
    (h : (Instr.loadAt ty (.pointer (some ⟨g, 0, none⟩))).run P w = .ok v w) : (execOp ρ o).run P w = .ok (.value v) w := by
  unfold execOp
  simp only [ho, hx, Sem.run_bind, h, Sem.run_pure, Result.andThen_ok]
/-- A piece of code whose ways all come to one end. -/
def OnlyTo (fr : Act) (wd : World) : Exit → Act → World → Prop
  | .normal, a, w => a = fr ∧ w = wd
  | _, _, _ => False
theorem OnlyTo.here (fr : Act) (wd : World) : OnlyTo fr wd .normal fr wd := ⟨rfl, rfl⟩
theorem wp_once {P : Program} {c : Code} {Q : Exit → Act → World → Prop} {a : Act} {w : World} (fr : Act) (wd : World) (h : c.wp P (OnlyTo fr wd) a w) (hK : Q .normal fr wd) : c.wp P Q a w :=
  Code.wp_mono (fun e a w h => by
    cases e with
    | normal => obtain ⟨rfl, rfl⟩ := h; exact hK
    | _ => exact (h : False).elim) h
theorem size9 : (Try.prog.info? 39).map (·.size) = some 9 := by kernel_rfl
theorem size16 : (Try.prog.info? 48).map (·.size) = some 16 := by kernel_rfl
end Go.Proofs.Ytnkffjdoillmaaa.Rec
