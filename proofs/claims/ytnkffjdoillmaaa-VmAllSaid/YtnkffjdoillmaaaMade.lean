/- VmAll: the filters that the law makes. -/
import Derived.Test.YtnkffjdoillmaaaAllN
import Derived.Test.YtnkffjdoillmaaaLoadT
import Derived.OpenShut
namespace Go.Proofs.Ytnkffjdoillmaaa
open Go.RowKit Go.Shelf
theorem infoPtrF : (Try.prog.info? 28).map (fun i => (i.zero, i.size, i.bytes)) = some (some (.pointer none), 1, 8) := by kernel_rfl
/-- The row of pointers. -/
def ptrs (P : Nat → Nat) (k : Nat) : List Value := (List.range k).map fun j => .pointer (some ⟨P j, 0, none⟩)
structure Made (w wr : World) (L : List Nat) (k : Nat) (v : Value) (P q o c : Nat → Nat) : Prop where
  fil : ∀ j, j < k → Fil wr wr.heap.size (P j) (q j) (o j) (c j) [ret (L.getD j 0)] 0 0
  typ : ∀ j, j < k → ∃ cs fr, wr.heap[q j]? = some (.cells cs 60 fr)
  pp : ∀ i j, i < k → j < k → i ≠ j → P i ≠ P j
  low : ∀ j, j < k → w.heap.size < P j ∧ w.heap.size < q j
  own : wr.ownsRow w.heap.size 28 1 v k (ptrs P k)
theorem own_ty {w : World} {base : Nat} {e : TypeId} {z n : Nat} {v : Value} {xs : List Value} (h : w.ownsRow base e z v n xs) (g : Nat) (cs : Array Value) (t : TypeId) (fr : Nat × Nat) (hg : w.heap[g]? = some (.cells cs t fr)) (ht : t ≠ e) : some g ≠ v.ownBlock := by
  rcases h.2 with ⟨rfl, _⟩ | ⟨g', cap, cur, rfl, hb, hh, hn, hm, hs, _⟩
  · simp [Value.ownBlock]
  · simp only [Value.ownBlock]
    intro e'
    cases e'
    rw [hh] at hg
    cases hg
    exact ht rfl
theorem made_step {w wr wz w4 : World} {L : List Nat} {k p b fo fc : Nat} {v v' : Value} {P q o c : Nat → Nat} (h : Made w wr L k v P q o c) (hb : Below wr.heap.size wr wz) (hw : w.heap.size < wr.heap.size) (hF : Fil wz wz.heap.size p b fo fc [ret (L.getD k 0)] 0 0)
    (ht : ∃ cs fr, wz.heap[b]? = some (.cells cs 60 fr)) (hp : wr.heap.size ≤ p) (hb' : wr.heap.size ≤ b) (hown : w4.ownsRow w.heap.size 28 1 v' (k + 1) (ptrs P k ++ [.pointer (some ⟨p, 0, none⟩)])) (hg : wz.grownBy w4 v.ownBlock) :
    ∃ P' q' o' c', Made w w4 L (k + 1) v' P' q' o' c' := by
  have hz := own_below h.own hb
  have hfil : ∀ j, j < k → Fil wz wz.heap.size (P j) (q j) (o j) (c j) [ret (L.getD j 0)] 0 0 := fun j hj => ((h.fil j hj).below hb).more hb.size (Nat.le_refl _)
  have htyp : ∀ j, j < k → ∃ cs fr, wz.heap[q j]? = some (.cells cs 60 fr) := fun j hj => by
    obtain ⟨cs, fr, e⟩ := h.typ j hj
    exact ⟨cs, fr, (hb.block _ (h.fil j hj).lb).trans e⟩
  have hgo : ∀ {p b fo fc : Nat} {l : List Ins}, Fil wz wz.heap.size p b fo fc l 0 0 → (∃ cs fr, wz.heap[b]? = some (.cells cs 60 fr)) → Fil w4 w4.heap.size p b fo fc l 0 0 ∧ ∃ cs fr, w4.heap[b]? = some (.cells cs 60 fr) := by
    intro p b fo fc l hf hty
    obtain ⟨cs, fr, e⟩ := hty
    have n1 := own_ty hz p _ _ _ hf.bk (by decide)
    have n2 := own_ty hz b _ _ _ e (by decide)
    exact ⟨(hf.grown hg n1 n2).more hg.size (Nat.le_refl _), cs, fr, (hg.block b hf.lb n2).trans e⟩
  refine ⟨fun j => if j < k then P j else p, fun j => if j < k then q j else b, fun j => if j < k then o j else fo, fun j => if j < k then c j else fc, ?_, ?_, ?_, ?_, ?_⟩
  · intro j hj
    by_cases hjk : j < k
    · simp only [hjk, if_true]; exact (hgo (hfil j hjk) (htyp j hjk)).1
    · obtain rfl : j = k := by omega
      simp only [Nat.lt_irrefl, if_false]; exact (hgo hF ht).1
  · intro j hj
    by_cases hjk : j < k
    · simp only [hjk, if_true]; exact (hgo (hfil j hjk) (htyp j hjk)).2
    · simp only [hjk, if_false]; exact (hgo hF ht).2
  · intro i j hi hj hij
    have e1 : ∀ j, j < k → P j < wr.heap.size := fun j hj => (h.fil j hj).lp
    by_cases hik : i < k
    · by_cases hjk : j < k
      · simp only [hik, hjk, if_true]; exact h.pp i j hik hjk hij
      · simp only [hik, hjk, if_true, if_false]; have := e1 i hik; omega
    · by_cases hjk : j < k
      · simp only [hik, hjk, if_true, if_false]; have := e1 j hjk; omega
      · omega
  · intro j hj
    by_cases hjk : j < k
    · simp only [hjk, if_true]; exact h.low j hjk
    · simp only [hjk, if_false]; omega
  · have e : ptrs (fun j => if j < k then P j else p) (k + 1) = ptrs P k ++ [.pointer (some ⟨p, 0, none⟩)] := by
      unfold ptrs
      rw [List.range_succ, List.map_append]
      congr 1
      · refine List.map_congr_left fun j hj => ?_
        rw [List.mem_range] at hj
        simp only [hj, if_true]
      · simp
    rw [e]; exact hown
theorem made_nil (w wr : World) (L : List Nat) : Made w wr L 0 (.slice none 0 0) (fun _ => 0) (fun _ => 0) (fun _ => 0) (fun _ => 0) :=
  ⟨fun _ hj => absurd hj (Nat.not_lt_zero _), fun _ hj => absurd hj (Nat.not_lt_zero _), fun _ _ hi => absurd hi (Nat.not_lt_zero _), fun _ hj => absurd hj (Nat.not_lt_zero _), World.ownsRow_nil _ _ _ _⟩
theorem made_fils {bs : List Nat} {w wr w' : World} {L : List Nat} {k : Nat} {v : Value} {P q o c : Nat → Nat} {D b : Nat} (h : Made w wr L k v P q o c) (hL : ∀ a ∈ L, a < 4294967296) (hb : Below wr.heap.size wr w') (hlt : w.heap.size < wr.heap.size) (hD : D ≤ w.heap.size + 1) (hbq : v.ownBlock = some b) :
    Fils bs w' wr.heap.size D b k P q o c (fun j => [ret (L.getD j 0)]) (fun j => L.getD j 0) := by
  have hlt' : ∀ j, L.getD j 0 < 4294967296 := fun j => by
    rw [List.getD_eq_getElem?_getD]
    cases hj : L[j]? with
    | none => simp
    | some a => simpa using hL a (List.mem_of_getElem? hj)
  refine ⟨fun j hj => (h.fil j hj).below hb, fun j _ => ret_good _, fun j _ => ret_ok (hlt' j), fun j _ => (ret_run _ _).1, fun j _ => by rw [(ret_run _ _).2]; omega, fun j _ => hlt' j, h.pp, fun i j hi hj => ?_, fun j hj => ?_, fun j hj => Nat.le_trans hD (h.low j hj).1, by have := hb.size; omega⟩
  · intro e
    obtain ⟨cs, fr, h1⟩ := h.typ i hi
    have h2 := (h.fil j hj).bk
    simp only [Bk] at h2
    rw [e, h2] at h1
    cases h1
  · intro e
    exact own_ty h.own _ _ _ _ (h.fil j hj).bk (by decide) (by rw [e, hbq])
end Go.Proofs.Ytnkffjdoillmaaa
