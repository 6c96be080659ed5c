/- Names' maps, as lists; a text's lists of parts in memory. -/
import Derived.Test.YtcageojoafkojaaJuM
import Derived.Deep.CutRange
import Derived.Deep.CutBlock
import Derived.StillTailTactics
import Derived.Outline
import Derived.Deep.RegionHeld3
import Derived.Deep.RegionLaw
import Derived.OwnWalk
import Derived.Deep.LoopGhost
import Derived.Laws.RangeAny
import Derived.Laws.OwnMore
import Derived.Deep.QuietTactic
import Derived.BigQuiet
import Derived.DeepKeys4
import Derived.Maps.OwnSet
import Derived.Maps.OwnOps
import Derived.Maps.Views
namespace Go.Proofs.Ytcageojoafkojaa.Ju
open Go.RowKit Go.Maps Go.WideMaps Go.WideElems Go.ChangeMaps
def mD (o : List (Int × Int)) : DataW Unit := o.foldr (fun p d => d.put (.int .i64 p.1) (.lit (.int .i64 p.2))) (.map [])
theorem mD_cons (n v : Int) (o : List (Int × Int)) : mD ((n, v) :: o) = (mD o).put (.int .i64 n) (.lit (.int .i64 v)) := rfl
theorem mD_map : ∀ o : List (Int × Int), IsMap (mD o)
  | [] => ⟨[], rfl⟩
  | _ :: o => (mD_map o).put _ _
theorem key_ne {n m : Int} (h : m ≠ n) : Lit.int .i64 n ≠ Lit.int .i64 m := fun e => by injection e with _ e; exact h e.symm
theorem mD_has : ∀ (o : List (Int × Int)) (n : Int), has (mD o) (.int .i64 n) = (lk n o).isSome
  | [], n => rfl
  | (m, v) :: o, n => by
    rw [mD_cons, lk_cons]
    by_cases h : m = n
    · subst h; rw [if_pos rfl, has_put_same (mD_map _) (show WideAt.IsKeyLit (Lit.int .i64 m) from trivial)]; rfl
    · rw [if_neg h, has_put_other (key_ne h)]; exact mD_has o n
theorem mD_at : ∀ (o : List (Int × Int)) (n : Int) (z : DataW Unit), (mD o).atKey (.int .i64 n) z = match lk n o with | some v => .lit (.int .i64 v) | none => z
  | [], n, z => rfl
  | (m, v) :: o, n, z => by
    rw [mD_cons, lk_cons]
    by_cases h : m = n
    · subst h; rw [if_pos rfl, atKey_put_same (mD_map _) (show WideAt.IsKeyLit (Lit.int .i64 m) from trivial)]
    · rw [if_neg h, atKey_put_other (key_ne h)]; exact mD_at o n z
/-- How many names there are. -/
def cnt : List (Int × Int) → Nat
  | [] => 0
  | (n, _) :: o => if (lk n o).isSome = true then cnt o else cnt o + 1
theorem cnt_le : ∀ o : List (Int × Int), cnt o ≤ o.length
  | [] => Nat.le_refl _
  | (n, _) :: o => by unfold cnt; have := cnt_le o; split <;> simp <;> omega
theorem wfI {a : Int} (h1 : -9223372036854775808 ≤ a) (h2 : a ≤ 9223372036854775807) : (Lit.int .i64 a).wf = true := by
  show (decide ((-9223372036854775808 : Int) ≤ a) && decide (a ≤ (9223372036854775807 : Int))) = true
  rw [decide_eq_true (by omega), decide_eq_true (by omega)]; rfl
theorem nameKeyed : Keyed Try.prog 115 := int_keyed Try.underlying115
theorem om_lt {w : World} {P : Program} {T : TypeId} {R : Value → Option (DataW Unit × List MemPlace)} {b n : Nat} {D : DataW Unit} (h : w.ownsMap P T R b n D) : b < w.heap.size := by obtain ⟨es, c, h1, _⟩ := h; exact (Array.getElem?_eq_some_iff.1 h1).1
theorem om_block {w w' : World} {P : Program} {T : TypeId} {R : Value → Option (DataW Unit × List MemPlace)} {b n : Nat} {D : DataW Unit} (h : w.ownsMap P T R b n D) (hb : w'.heap[b]? = w.heap[b]?) : w'.ownsMap P T R b n D := by obtain ⟨es, c, h1, h2⟩ := h; exact ⟨es, c, hb.trans h1, h2⟩
theorem mD_size {w : World} {R : Value → Option (DataW Unit × List MemPlace)} {b n : Nat} {o : List (Int × Int)} (h : w.ownsMap Try.prog 115 R b n (mD o)) : Tidy (mD o) := h.tidy nameKeyed
/-- A map from names to numbers, in block m. -/
def NMap (w : World) (e : TypeId) (m : Nat) (o : List (Int × Int)) : Prop := w.ownsMap Try.prog 115 (plainElem Try.prog e) m o.length (mD o)
theorem NMap.lt {w : World} {e : TypeId} {m : Nat} {o : List (Int × Int)} (h : NMap w e m o) : m < w.heap.size := om_lt h
theorem NMap.block {w w' : World} {e : TypeId} {m : Nat} {o : List (Int × Int)} (h : NMap w e m o) (hb : w'.heap[m]? = w.heap[m]?) : NMap w' e m o := om_block h hb
theorem NMap.below {w w' : World} {e : TypeId} {m : Nat} {o : List (Int × Int)} (h : NMap w e m o) (hb : Below w.heap.size w w') : NMap w' e m o := om_block h (hb.block _ h.lt)
theorem NMap.grown {w w' : World} {e : TypeId} {m : Nat} {o : List (Int × Int)} {r : Option Nat} (h : NMap w e m o) (hb : w.grownBy w' r) (hr : some m ≠ r) : NMap w' e m o := om_block h (hb.block _ h.lt hr)
theorem NMap.made (w : World) (e : TypeId) : NMap (w.alloc (.map #[] 0)) e w.heap.size [] := World.ownsMap_made (H := Unit) w Try.prog 115 (plainElem Try.prog e)
theorem NMap.put {w : World} {e : TypeId} {m : Nat} {o : List (Int × Int)} {n v : Int} (h : w.ownsMap Try.prog 115 (plainElem Try.prog e) m (o.length + 1) ((mD o).put (.int .i64 n) (.lit (.int .i64 v)))) : NMap w e m ((n, v) :: o) := h
/-! Parts in memory. -/
theorem infoPart : (Try.prog.info? 125).map (fun i => (i.zero, i.size, i.bytes)) = some (some (.agg #[.int .u8 0, .int .i64 0, .int .i64 0, .int .u16 0, .int .u8 0, .int .u8 0, .int .u32 0]), 7, 32) := by kernel_rfl
theorem pt_len (p : PtM) : p.cells.length = 7 := rfl
theorem pt_one (p : PtM) : ∀ u ∈ p.cells, u.oneCell' = true := fun u hu => by
  simp only [PtM.cells, List.mem_cons, List.not_mem_nil, or_false] at hu
  rcases hu with rfl | rfl | rfl | rfl | rfl | rfl | rfl <;> rfl
theorem seven_cells {w : World} {b o k : Nat} {l : List PtM} {x : PtM} (hc : ∀ k x, l[k]? = some x → ∀ j v, (PtM.cells x)[j]? = some v → w.cell? ⟨b, o + (k * 7 + j), none⟩ = some v) (h : l[k]? = some x) :
    w.cell? ⟨b, o + k * 7, none⟩ = some (.int .u8 x.kd) ∧ w.cell? ⟨b, o + k * 7 + 1, none⟩ = some (.int .i64 x.to) ∧ w.cell? ⟨b, o + k * 7 + 2, none⟩ = some (.int .i64 x.el) ∧ w.cell? ⟨b, o + k * 7 + 3, none⟩ = some (.int .u16 x.i.c) ∧ w.cell? ⟨b, o + k * 7 + 4, none⟩ = some (.int .u8 x.i.t) ∧ w.cell? ⟨b, o + k * 7 + 5, none⟩ = some (.int .u8 x.i.f) ∧ w.cell? ⟨b, o + k * 7 + 6, none⟩ = some (.int .u32 x.i.k) := by
  have hj := fun j v hv => hc k x h j v hv
  simp only [← Nat.add_assoc] at hj
  exact ⟨hj 0 _ rfl, hj 1 _ rfl, hj 2 _ rfl, hj 3 _ rfl, hj 4 _ rfl, hj 5 _ rfl, hj 6 _ rfl⟩
theorem op_append {o : Oper} {a : Act} {w : World} {K : Act → World → Prop} {Q : Exit → Act → World → Prop} (s x : Operand) (t : TypeId) (ho : o.op = .call { callee := .builtin .append, args := #[s, x], argTypes := #[t, t] })
    (v y v' : Value) (w' : World) (hs : a.eval s = v) (hx : a.eval x = y) (hr : (Builtin.append_ #[t, t] o.type #[v, y]).run Try.prog w = .ok v' w') (h : K (a.put o.dst v') w') : Oper.wp Try.prog o a w K Q := by
  unfold Oper.wp execOp
  simp only [ho, resolve, invoke, builtin, Sem.run_bind, Sem.run_pure, Result.andThen_ok, List.map_toArray, List.map_cons, List.map_nil, hs, hx, hr]
  exact h
end Go.Proofs.Ytcageojoafkojaa.Ju

