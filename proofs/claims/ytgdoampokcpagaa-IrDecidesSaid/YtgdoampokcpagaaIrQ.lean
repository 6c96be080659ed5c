/- The conditions that have to be asked: the walk's facts. -/
import Derived.Test.YtgdoampokcpagaaIrN
import Derived.Test.YtgdoampokcpagaaGs
import Derived.Test.YtgdoampokcpagaaMeR
namespace Go.Proofs.Ytgdoampokcpagaa.Ir
open Go.RowKit Go.Maps Go.WideMaps Go.WideElems Go.ChangeMaps
theorem bel_grow (w : World) (os : Array Obj) : Below w.heap.size w (Sort.grow w os) := ⟨rfl, rfl, rfl, by rw [Sort.size_grow]; omega, fun k hk => Sort.heap_grow_old _ _ hk⟩
section
variable {w w' : World} {P : Program} {T : TypeId} {R : Value → Option (DataW Unit × List MemPlace)} {b n : Nat} {D : DataW Unit}
theorem om_lt (h : w.ownsMap P T R b n D) : b < w.heap.size := by obtain ⟨es, c, h1, _⟩ := h; exact (Array.getElem?_eq_some_iff.1 h1).1
theorem om_block (h : w.ownsMap P T R b n D) (hb : w'.heap[b]? = w.heap[b]?) : w'.ownsMap P T R b n D := by obtain ⟨es, c, h1, h2⟩ := h; exact ⟨es, c, hb.trans h1, h2⟩
theorem or_block {e : TypeId} {z : Nat} {v : Value} {xs : List Value} {B : Nat} (h : w.ownsRow B e z v n xs) (hb : ∀ g, B ≤ g → g < w.heap.size → v.ownBlock = some g → w'.heap[g]? = w.heap[g]?) : w'.ownsRow B e z v n xs := by
  obtain ⟨h1, ⟨h2, h3⟩ | ⟨g, cap, cur, h2, h3, h4, h5⟩⟩ := h
  · exact ⟨h1, Or.inl ⟨h2, h3⟩⟩
  · subst h2
    exact ⟨h1, Or.inr ⟨g, cap, cur, rfl, h3, (hb g h3 (Array.getElem?_eq_some_iff.1 h4).1 rfl).trans h4, h5⟩⟩
theorem own_ge {e : TypeId} {z : Nat} {v : Value} {xs : List Value} {B : Nat} (h : w.ownsRow B e z v n xs) : ∀ g, v.ownBlock = some g → B ≤ g := by
  intro g hg
  obtain ⟨h1, ⟨h2, h3⟩ | ⟨g', cap, cur, h2, h3, h4, h5⟩⟩ := h
  · subst h2; cases hg
  · subst h2; cases hg; exact h3
end
/-- The state of 'needed': its two maps, the row that it lays. -/
structure NW (w wr : World) (ks : List CondM) (E : List (Int × Nat)) (v : Value) (left : List CondM) (i : Nat) : Prop where
  bel : Below w.heap.size w wr
  th : wr.ownsMap Try.prog 66 unitElem w.heap.size i (unD (ks.map condK) : DataW Unit)
  eq : wr.ownsMap Try.prog 3 (plainElem Try.prog 46) (w.heap.size + 1) i (eqD E : DataW Unit)
  row : wr.ownsRow (w.heap.size + 2) 66 4 v left.length (left.flatMap CondM.cells)
section
variable {w wr w' : World} {ks left : List CondM} {E : List (Int × Nat)} {v : Value} {i : Nat}
theorem NW.size (h : NW w wr ks E v left i) : w.heap.size + 2 ≤ wr.heap.size := by have := om_lt h.eq; omega
theorem NW.kept (h : NW w wr ks E v left i) (hb : Below wr.heap.size wr w') : NW w w' ks E v left i :=
  ⟨h.bel.trans (hb.mono h.bel.size), om_block h.th (hb.block _ (om_lt h.th)), om_block h.eq (hb.block _ (om_lt h.eq)), or_block h.row fun g _ hg _ => hb.block g hg⟩
theorem NW.mono (h : NW w wr ks E v left i) {j : Nat} (hj : i ≤ j) : NW w wr ks E v left j := ⟨h.bel, h.th.mono hj, h.eq.mono hj, h.row⟩
theorem bel_grown {B : Nat} {r : Nat} (hg : wr.grownBy w' (some r)) (hr : B ≤ r) (hB : B ≤ wr.heap.size) : Below B wr w' :=
  ⟨hg.os, hg.tape, hg.output, hg.size, fun k hk => hg.block k (by omega) (fun e => by injection e with e; omega)⟩
theorem NW.addTh (h : NW w wr ks E v left i) {c : CondM} (hm : w'.ownsMap Try.prog 66 unitElem w.heap.size (i + 1) ((unD (ks.map condK) : DataW Unit).put (condK c) (.agg []))) (hg : wr.grownBy w' (some w.heap.size)) : NW w w' (ks ++ [c]) E v left (i + 1) := by
  refine ⟨h.bel.trans (bel_grown hg (Nat.le_refl _) h.bel.size), ?_, ?_, ?_⟩
  · rw [List.map_append, List.map_cons, List.map_nil, unD_snoc]; exact hm
  · exact (om_block h.eq (hg.block _ (om_lt h.eq) (fun e => by injection e with e; omega))).mono (by omega)
  · exact or_block h.row fun g hB hl _ => hg.block g hl (fun e => by injection e with e; omega)
theorem NW.addEq (h : NW w wr ks E v left i) {a : Int} {x : Nat} (hm : w'.ownsMap Try.prog 3 (plainElem Try.prog 46) (w.heap.size + 1) (i + 1) ((eqD E : DataW Unit).put (.int .i64 a) (.lit (.int .u64 (x : Nat))))) (hg : wr.grownBy w' (some (w.heap.size + 1))) : NW w w' ks (E ++ [(a, x)]) v left (i + 1) := by
  refine ⟨h.bel.trans (bel_grown hg (by omega) h.bel.size), ?_, ?_, ?_⟩
  · exact (om_block h.th (hg.block _ (om_lt h.th) (fun e => by injection e with e; omega))).mono (by omega)
  · rw [eqD_snoc]; exact hm
  · exact or_block h.row fun g hB hl _ => hg.block g hl (fun e => by injection e with e; omega)
theorem NW.addRow (h : NW w wr ks E v left i) {c : CondM} {v' : Value} (hr : w'.ownsRow (w.heap.size + 2) 66 4 v' (left.length + 1) (left.flatMap CondM.cells ++ CondM.cells c)) (hg : wr.grownBy w' v.ownBlock) : NW w w' ks E v' (left ++ [c]) i := by
  have hge := own_ge h.row
  have hne : ∀ k, k < wr.heap.size → k < w.heap.size + 2 → w'.heap[k]? = wr.heap[k]? := fun k h1 h2 => hg.block k h1 (fun e => by have := hge k e.symm; omega)
  have hlt := om_lt h.eq
  refine ⟨⟨hg.os.trans h.bel.os, hg.tape.trans h.bel.tape, hg.output.trans h.bel.output, Nat.le_trans h.bel.size hg.size, fun k hk => (hne k (by omega) (by omega)).trans (h.bel.block k hk)⟩, om_block h.th (hne _ (by omega) (by omega)), om_block h.eq (hne _ hlt (by omega)), ?_⟩
  rw [List.length_append, List.flatMap_append]
  simpa using hr
end
theorem nw_start (w : World) : NW w ((w.alloc (.map #[] 0)).alloc (.map #[] 0)) [] [] (.slice none 0 0) [] 0 := by
  have h1 := World.ownsMap_made (H := Unit) w Try.prog 66 unitElem
  have h2 := World.ownsMap_made (H := Unit) (w.alloc (.map #[] 0)) Try.prog 3 (plainElem Try.prog 46)
  have hs : (w.alloc (.map #[] 0)).heap.size = w.heap.size + 1 := by simp
  rw [hs] at h2
  refine ⟨((Below.refl w.heap.size w).alloc (Nat.le_refl _) _).trans ((Below.refl w.heap.size _).alloc (by rw [hs]; omega) _), om_block h1 (Below.heap_alloc _ _ _ (by rw [hs]; omega)), h2, World.ownsRow_nil _ _ _ _⟩
/-- What comes of it. -/
def NeedPost (l : List CondM) (w : World) (e : Ending) (w' : World) : Prop :=
  Below w.heap.size w w' ∧ match needF [] [] l with
  | none => e = .returned (.tuple #[.slice none 0 0, .bool false])
  | some left => ∃ A cp, e = .returned (.tuple #[.slice A left.length cp, .bool true]) ∧ w'.ownsRow w.heap.size 66 4 (.slice A left.length cp) left.length (left.flatMap CondM.cells)
theorem own_base {w : World} {e : TypeId} {z n : Nat} {v : Value} {xs : List Value} {B B' : Nat} (h : w.ownsRow B e z v n xs) (hB : B' ≤ B) : w.ownsRow B' e z v n xs := by
  obtain ⟨h1, h2 | ⟨g, cap, cur, h2, h3, h4⟩⟩ := h
  · exact ⟨h1, Or.inl h2⟩
  · exact ⟨h1, Or.inr ⟨g, cap, cur, h2, by omega, h4⟩⟩
theorem need_none {l : List CondM} {w wr w' : World} {ks left : List CondM} {E : List (Int × Nat)} {v : Value} {i : Nat} (h : NW w wr ks E v left i) (hb : Below wr.heap.size wr w') (hF : needF [] [] l = none) : NeedPost l w (.returned (.tuple #[.slice none 0 0, .bool false])) w' := by
  unfold NeedPost; rw [hF]; exact ⟨(h.kept hb).bel, rfl⟩
theorem need_some {l : List CondM} {w wr : World} {ks left : List CondM} {E : List (Int × Nat)} {A : Option Addr} {cp : Nat} {i : Nat} (h : NW w wr ks E (.slice A left.length cp) left i) (hF : needF [] [] l = some left) : NeedPost l w (.returned (.tuple #[.slice A left.length cp, .bool true])) wr := by
  unfold NeedPost; rw [hF]; exact ⟨h.bel, A, cp, rfl, own_base h.row (by omega)⟩
/-! The rounds, as lists. -/
theorem need_never {l left : List CondM} {E : List (Int × Nat)} {i : Nat} {c : CondM} {r : Option (List CondM)} (h : r = needF E left (l.drop i)) (hc : l[i]? = some c) (hn : neverB c = true) : r = none := by
  rw [h, List.drop_eq_getElem?_toList_append, hc]; simp [needF, hn]
theorem need_end {l left : List CondM} {E : List (Int × Nat)} {i : Nat} {r : Option (List CondM)} (h : r = needF E left (l.drop i)) (hi : l.length ≤ i) : r = some left := by
  rw [h, List.drop_of_length_le hi]; rfl
theorem need_bad {l left : List CondM} {E : List (Int × Nat)} {i : Nat} {c : CondM} {r : Option (List CondM)} (h : r = needF E left (l.drop i)) (hc : l[i]? = some c) (ho : c.op = 1) (h1 : ¬ ((c.arg, c.val) ∈ E ∨ ∀ e ∈ E, e.1 ≠ c.arg)) : r = none := by
  rw [h, List.drop_eq_getElem?_toList_append, hc]
  simp only [Option.toList_some, List.singleton_append, needF, ho, h1, if_true, if_false, ite_self]
theorem need_on {l left : List CondM} {E : List (Int × Nat)} {i : Nat} {c : CondM} {r : Option (List CondM)} (h : r = needF E left (l.drop i)) (hc : l[i]? = some c) (hn : neverB c = false) (h1 : c.op = 1 → (c.arg, c.val) ∈ E ∨ ∀ e ∈ E, e.1 ≠ c.arg) :
    r = needF (if c.op = 1 then E ++ [(c.arg, c.val)] else E) (if c ∈ left ∨ alwaysB c = true then left else left ++ [c]) (l.drop (i + 1)) := by
  rw [h, List.drop_eq_getElem?_toList_append, hc]
  simp only [Option.toList_some, List.singleton_append, needF, hn, Bool.false_eq_true, if_false]
  by_cases ho : c.op = 1
  · rw [if_pos ho, if_pos ho, if_pos (h1 ho)]
  · rw [if_neg ho, if_neg ho]
end Go.Proofs.Ytgdoampokcpagaa.Ir

