/- slices.Clone of rules (policy.Policy.Clone serves its callers, ir.Of its own). -/
import Derived.Test.YtgdoampokcpagaaGs
namespace Go.Proofs.Ytgdoampokcpagaa.Ir
open Go.RowKit
theorem one_alloc (w : World) (o : Obj) : Below w.heap.size w (w.alloc o) := (Below.refl w.heap.size w).alloc (Nat.le_refl _) o
theorem infoClRule : (Try.prog.info? 56).map (fun i => (i.zero, i.size, i.bytes)) = some (some (.agg #[.int .u32 0, .int .u32 0, .slice none 0 0]), 3, 32) := by kernel_rfl
theorem clOneRule (l : List (RuleV)) : ∀ u ∈ l.flatMap RuleV.cells, u.oneCell' = true := by
  intro u hu
  obtain ⟨x, _, hx⟩ := List.mem_flatMap.1 hu
  simp only [RuleV.cells, List.mem_cons, List.not_mem_nil, or_false] at hx
  rcases hx with rfl | rfl | rfl <;> rfl
def ClPRule (l : List (RuleV)) (w : World) (e : Ending) (w' : World) : Prop :=
  ∃ A cp, e = .returned (.slice A l.length cp) ∧ w'.ownsRow w.heap.size 56 3 (.slice A l.length cp) l.length (l.flatMap RuleV.cells) ∧ Below w.heap.size w w'
set_option maxRecDepth 100000 in
set_option maxHeartbeats 1000000 in
theorem cloneRule_any (l : List (RuleV)) (n : Nat) (A : Option Addr) (cp : Nat) (w : World) (hl : l.length = n) (hr : Rd w 3 n A (l.flatMap RuleV.cells)) (hn : n ≤ 65536) (hA : A = none → n = 0) :
    Calls Try.prog 22 #[.slice A n cp] w (ClPRule l w) := by
  cases A with
  | none =>
    have h0 := hA rfl
    have hnil := fun (w : World) (n c : Nat) => Lib.run_eql_slice_nil (P := Try.prog) w 24 56 none n c 0 0 Try.underlying24
    obtain rfl : l = [] := List.length_eq_zero_iff.1 (by omega)
    clear hr hl hA hn
    go_enter Try.func22, Try.ntmps22
    go_wp2_with fail
    go_ret
    exact ⟨none, 0, rfl, World.ownsRow_nil _ _ _ _, Below.refl _ _⟩
  | some a =>
    obtain ⟨i0, hi, hz0, hz1, hz2⟩ := info_parts infoClRule
    have Hl := Lib.hid hl
    have hlen := flatz_len RuleV.cells 3 (fun _ => rfl) l
    rw [hl] at hlen
    have Hlen := Lib.hid hlen
    have Hcell := Lib.hid (show ∀ j u, (l.flatMap RuleV.cells)[j]? = some u → w.cell? (a.add j) = some u from fun j u hu => by
      rcases Nat.eq_zero_or_pos n with h0 | h0
      · have := (List.getElem?_eq_some_iff.1 hu).1
        rw [hlen, h0] at this; omega
      · obtain ⟨b, o, he, _, hc⟩ := hr.pos h0
        cases he
        rw [show (⟨b, o, none⟩ : Addr).add j = ⟨b, o + j, none⟩ by unfold Addr.add; split <;> simp_all]
        exact hc j u hu)
    have Hblk := Lib.hid (show 0 < n → a.block < w.heap.size from fun h0 => by
      obtain ⟨b, o, he, h1, hc⟩ := hr.pos h0
      cases he
      exact h1)
    clear hl hr hA
    have hnil := fun (w : World) (a : Addr) (n c : Nat) => Lib.run_eql_slice_nil (P := Try.prog) w 24 56 (some a) n c 0 0 Try.underlying24
    go_enter Try.func22, Try.ntmps22
    have Hown := Lib.hid (World.ownsRow_lit (base := w.heap.size) (e := 56) (size := 3) w #[] 0 (Nat.le_refl _) (by unfold maxLen; omega) rfl)
    have Hc2 := Lib.hid (show ∀ j u, (l.flatMap RuleV.cells)[j]? = some u → (w.alloc (.cells #[] 56)).cell? (a.add j) = some u from fun j u hu => by
      have h1 := Hcell.out j u hu
      have h2 := Hblk.out (by
        rcases Nat.eq_zero_or_pos n with h0 | h0
        · have := (List.getElem?_eq_some_iff.1 hu).1
          rw [Hlen.out, h0] at this; omega
        · exact h0)
      rw [← h1]
      exact (one_alloc w _).cell (p := a.add j) (by unfold Addr.add; split <;> exact h2))
    have HB1 := Lib.hid (one_alloc w (.cells #[] 56))
    clear hlen
    go_wp2_with (at_builtin; refine wpList_append_own _ rfl (.tmp 5) (.tmp 6) 24 rfl w.heap.size 56 i0 _ 3 32 Try.underlying24 hi hz0 hz1 hz2 rfl (by decide) _ 0 [] rfl Hown.out a n cp (l.flatMap RuleV.cells) rfl Hlen.out Hc2.out (clOneRule l) (by unfold maxLen; omega) (by omega) HB1.out.size ?_; intro v' w4 hown' hgrow _; obtain ⟨A', c', rfl, hnc', -, -, -⟩ := own_typed hown'; have Hw := Lib.hid hown'; clear hown')
    go_ret
    rw [Nat.zero_add] at *
    have hw := Hw.out
    simp only [List.nil_append] at hw
    exact ⟨A', c', (by rw [Hl.out]; rfl), (by rw [Hl.out]; exact hw), HB1.out.grown hgrow HB1.out.size (fun k hk => by cases hk; exact Nat.le_refl _)⟩
end Go.Proofs.Ytgdoampokcpagaa.Ir

