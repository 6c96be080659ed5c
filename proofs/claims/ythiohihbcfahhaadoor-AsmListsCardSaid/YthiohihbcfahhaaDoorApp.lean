/- One list of instructions behind another one: append of any slice; what AsmBack and AsmLists put together. -/
import Derived.Test.YthiohihbcfahhaaDoorAwake
import Derived.Test.YthiohihbcfahhaaDoorMany
import Derived.Test.YthiohihbcfahhaaDoorPool
import Derived.Test.YthiohihbcfahhaaDoorOpen5
import Derived.Laws.AppendOwnNone
namespace Go.Proofs.YthiohihbcfahhaaDoor
open Go.RowKit Go.ChangeShapes Go.WideShapes Go.ChangeAt Go.WideElems
theorem one_below (w : World) (o : Obj) : Below w.heap.size w (w.alloc o) := (Below.refl _ _).alloc (Nat.le_refl _) _
theorem flat_one (L : List Ins) : ∀ u ∈ L.flatMap Ins.cells, u.oneCell' = true := by
  intro u hu
  obtain ⟨x, _, hx⟩ := List.mem_flatMap.1 hu
  exact cells_one x u hx
theorem add_at' (b o j : Nat) : (⟨b, o, none⟩ : Addr).add j = ⟨b, o + j, none⟩ := by unfold Addr.add; split <;> simp_all
theorem append_any {w : World} {ops : Array Oper} {rest : List Oper} {o : Oper} {a : Act} {Q : Exit → Act → World → Prop} (hgd : o.guard = none) (s x : Operand)
    (ho : o.op = .call { callee := .builtin .append, args := #[s, x], argTypes := #[28, 28] }) (base : Nat) (v : Value) (n : Nat) (xs : List Value) (hs : a.eval s = v) (hown : w.ownsRow base 38 4 v n xs)
    (L : List Ins) (A : Option Addr) (m c : Nat) (hm : L.length = m) (hx : a.eval x = .slice A m c) (hR : Rd w 4 m A (L.flatMap Ins.cells)) (hnil : A = none → c = 0) (hn : n + m ≤ 10000) (hbase : base ≤ w.heap.size)
    (h : ∀ v' w', w'.ownsRow base 38 4 v' (n + m) (xs ++ L.flatMap Ins.cells) → w.grownBy w' v.ownBlock → wpList Tryd.prog ops Q rest (a.put o.dst v') w') : wpList Tryd.prog ops Q (o :: rest) a w := by
  obtain ⟨i0, hi, hz0, hz1, hz2⟩ := info_parts infoIns4
  subst hm
  cases A with
  | none =>
    obtain rfl := hnil rfl
    have hL : L = [] := by
      rcases hR.at_ with e | ⟨b, o, e, _⟩
      · exact List.length_eq_zero_iff.1 e
      · cases e
    subst hL
    refine wpList_append_own_none hgd s x 28 ho base 38 i0 4 Tryd.underlying28 hi v n xs hs hown hx ?_
    exact h v w (by simpa using hown) (only_refl w _)
  | some ad =>
    refine wpList_append_own w hgd s x 28 ho base 38 i0 _ 4 8 Tryd.underlying28 hi hz0 hz1 hz2 rfl (by decide) v n xs hs hown ad L.length c (L.flatMap Ins.cells) hx (by rw [flat_len]) ?_ (flat_one L) (by unfold maxLen; omega) (by omega) hbase (fun v' w' h1 h2 _ => h v' w' h1 h2)
    rcases hR.at_ with e | ⟨b, o, e, _, hc⟩
    · have hL : L = [] := List.length_eq_zero_iff.1 e
      subst hL
      intro j u hu
      simp at hu
    · cases e
      intro j u hu
      rw [add_at']
      exact hc j u hu
section
variable {H : Type} {enc : TypeId × Value → H} {w : World} {base : Nat} {spare : Nat → Bool} {held : Bool} {fuel : Nat} {A : Option Addr} {len cap : Nat} {x : DataW H × List MemPlace}
theorem open_list (h : DataW.trod enc Tryd.prog w base spare held fuel 28 [.slice A len cap] = some x) :
    ∃ l : List Ins, l.length = len ∧ (∀ i ∈ l, i.ok) ∧ Rd w 4 len A (l.flatMap Ins.cells) ∧ (A = none → cap = 0) := by
  obtain ⟨l, h1, h2, h3⟩ := open_insns h
  refine ⟨l, h1, h2, h3, fun hA => ?_⟩
  rcases Go.Deep.open_slice Tryd.underlying28 h with ⟨hcs, _⟩ | ⟨a, len', cap', m, n, D, Pl, hcs, _⟩
  · simp only [List.cons.injEq, Value.slice.injEq, and_true] at hcs
    exact hcs.2.2
  · simp only [List.cons.injEq, Value.slice.injEq, and_true] at hcs
    rw [hA] at hcs
    cases hcs.1
end
end Go.Proofs.YthiohihbcfahhaaDoor
