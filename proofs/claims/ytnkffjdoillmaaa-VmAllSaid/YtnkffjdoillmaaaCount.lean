/- Count: how many of each class. Clone: the same list anew. -/
import Derived.Test.YtnkffjdoillmaaaReach
import Derived.Test.YtnkffjdoillmaaaRow
import Derived.WalkSpells
namespace Go.Proofs.Ytnkffjdoillmaaa
open Go.RowKit
/-- How many of a class. -/
def ofClass (l : List Ins) (q : Nat) : Nat := (l.filter fun i => i.c % 8 == q).length
def counts (l : List Ins) : List Nat := [ofClass l 0, ofClass l 1, ofClass l 2, ofClass l 3, ofClass l 4, ofClass l 5, ofClass l 6, ofClass l 7]
theorem ofClass_snoc (l : List Ins) (i : Ins) (q : Nat) : ofClass (l ++ [i]) q = if i.c % 8 = q then ofClass l q + 1 else ofClass l q := by
  unfold ofClass
  rw [List.filter_append, List.length_append]
  by_cases h : i.c % 8 = q
  · simp [h]
  · simp [h]
theorem counts_at (l : List Ins) (q : Nat) (hq : q < 8) : (counts l)[q]? = some (ofClass l q) := by
  rcases (by omega : q = 0 ∨ q = 1 ∨ q = 2 ∨ q = 3 ∨ q = 4 ∨ q = 5 ∨ q = 6 ∨ q = 7) with rfl | rfl | rfl | rfl | rfl | rfl | rfl | rfl <;> rfl
theorem counts_snoc (l : List Ins) (i : Ins) : counts (l ++ [i]) = (counts l).set (i.c % 8) (ofClass l (i.c % 8) + 1) := by
  have hq : i.c % 8 < 8 := Nat.mod_lt _ (by omega)
  unfold counts
  simp only [ofClass_snoc]
  obtain ⟨q, hqd⟩ : ∃ q, q = i.c % 8 := ⟨_, rfl⟩
  rw [← hqd] at hq ⊢
  clear hqd
  rcases (by omega : q = 0 ∨ q = 1 ∨ q = 2 ∨ q = 3 ∨ q = 4 ∨ q = 5 ∨ q = 6 ∨ q = 7) with rfl | rfl | rfl | rfl | rfl | rfl | rfl | rfl <;> rfl
theorem ofClass_le (l : List Ins) (q : Nat) : ofClass l q ≤ l.length := List.length_filter_le _ _
theorem ints_set (l : List Nat) (j v : Nat) : (ints l).set j (.int .i64 v) = ints (l.set j v) := by simp [ints, List.map_set]
def CountPost (l : List Ins) (w : World) (e : Ending) (w' : World) : Prop := e = .returned (.agg (ints (counts l)).toArray) ∧ Below w.heap.size w w'
set_option maxRecDepth 100000 in
theorem clone_nil (n : Nat) (cp : Nat) (w : World) : Calls Try.prog 35 #[.slice none n cp] w fun e w' => e = .returned (.slice none 0 0) ∧ w = w' := by
  have hnil := fun (w : World) (n c : Nat) => Lib.run_eql_slice_nil (P := Try.prog) w 22 60 none n c 0 0 Try.underlying22
  go_enter Try.func35, Try.ntmps35
  go_wp2_with fail
  go_ret
  exact ⟨rfl, rfl⟩
def ClonePost (l : List Ins) (w : World) (e : Ending) (w' : World) : Prop :=
  ∃ A cp, e = .returned (.slice A l.length cp) ∧ Seg w' w.heap.size 4 l.length A (l.flatMap Ins.cells) ∧ Below w.heap.size w w'
theorem cells_len (l : List Ins) : (l.flatMap Ins.cells).length = l.length * 4 := by
  induction l with
  | nil => rfl
  | cons i l ih => simp only [List.flatMap_cons, List.length_append, List.length_cons, ih, Ins.cells]; simp; omega
theorem cells_all (l : List Ins) : ∀ u ∈ l.flatMap Ins.cells, u.oneCell' = true := by
  intro u hu
  obtain ⟨i, _, hi⟩ := List.mem_flatMap.1 hu
  exact cells_one i u hi
set_option maxRecDepth 100000 in
set_option maxHeartbeats 1000000 in
theorem clone_some (l : List Ins) (n : Nat) (a : Addr) (cp : Nat) (w : World) (hl : l.length = n) (hr : Rd w 4 n (some a) (l.flatMap Ins.cells)) (hn : n ≤ 65536) :
    Calls Try.prog 35 #[.slice (some a) n cp] w (ClonePost l w) := by
  obtain ⟨i0, hi, hz0, hz1, hz2⟩ := info_parts infoIns
  have Hl := Lib.hid hl
  have Hcell := Lib.hid (show ∀ j u, (l.flatMap Ins.cells)[j]? = some u → w.cell? (a.add j) = some u from fun j u hu => by
    rcases Nat.eq_zero_or_pos n with h0 | h0
    · have := (List.getElem?_eq_some_iff.1 hu).1
      rw [cells_len, hl, h0] at this; omega
    · obtain ⟨b, o, he, _, hc⟩ := hr.pos h0
      cases he
      rw [show (⟨b, o, none⟩ : Addr).add j = ⟨b, o + j, none⟩ by unfold Addr.add; split <;> simp_all]
      exact hc j u hu)
  have Hblk := Lib.hid (show 0 < n → a.block < w.heap.size ∧ a.spot = none from fun h0 => by
    obtain ⟨b, o, he, h1, hc⟩ := hr.pos h0
    cases he
    exact ⟨h1, rfl⟩)
  clear hl hr
  have hnil := fun (w : World) (a : Addr) (n c : Nat) => Lib.run_eql_slice_nil (P := Try.prog) w 22 60 (some a) n c 0 0 Try.underlying22
  go_enter Try.func35, Try.ntmps35
  have Hown := Lib.hid (World.ownsRow_lit (base := w.heap.size) (e := 60) (size := 4) w #[] 0 (Nat.le_refl _) (by unfold maxLen; omega) rfl)
  have Hc2 := Lib.hid (show ∀ j u, (l.flatMap Ins.cells)[j]? = some u → (w.alloc (.cells #[] 60)).cell? (a.add j) = some u from fun j u hu => by
    have h1 := Hcell.out j u hu
    have h2 := (Hblk.out (by
      rcases Nat.eq_zero_or_pos n with h0 | h0
      · have := (List.getElem?_eq_some_iff.1 hu).1
        rw [cells_len, Hl.out, h0] at this; omega
      · exact h0)).1
    rw [← h1]
    exact ((Below.refl w.heap.size w).alloc (Nat.le_refl _) _).cell (p := a.add j) (by unfold Addr.add; split <;> exact h2))
  have hlen := cells_len l
  rw [Hl.out] at hlen
  have HB1 := Lib.hid (one_below w (.cells #[] 60))
  go_wp2_with (at_builtin; refine wpList_append_own _ rfl (.tmp 5) (.tmp 6) 22 rfl w.heap.size 60 i0 _ 4 8 Try.underlying22 hi hz0 hz1 hz2 rfl (by decide) _ 0 [] rfl Hown.out a n cp (l.flatMap Ins.cells) rfl hlen Hc2.out (cells_all l) (by unfold maxLen; omega) (by omega) HB1.out.size ?_; intro v' w4 hown' hgrow _; obtain ⟨A', c', rfl, hnc', Hseg⟩ := own_seg hown'; clear hown')
  go_ret
  rw [Nat.zero_add] at *
  exact ⟨A', c', (by rw [Hl.out]; rfl), (by rw [Hl.out]; exact Hseg), HB1.out.grown hgrow HB1.out.size (fun k hk => by cases hk; exact Nat.le_refl _)⟩
theorem clone_any (l : List Ins) (n : Nat) (A : Option Addr) (cp : Nat) (w : World) (hl : l.length = n) (hr : Rd w 4 n A (l.flatMap Ins.cells)) (hn : n ≤ 65536) :
    Calls Try.prog 35 #[.slice A n cp] w (ClonePost l w) := by
  cases A with
  | none =>
    obtain rfl : n = 0 := by
      rcases hr.at_ with h | ⟨b, o, h, _⟩
      · exact h
      · cases h
    obtain rfl : l = [] := List.eq_nil_of_length_eq_zero hl
    refine (clone_nil 0 cp w).mono ?_
    rintro e w' ⟨rfl, rfl⟩
    exact ⟨none, 0, rfl, Seg.nil _ _ _ _, Below.refl _ _⟩
  | some a => exact clone_some l n a cp w hl hr hn
end Go.Proofs.Ytnkffjdoillmaaa

