/- Instructions cloned: the clone may be written. -/
import Derived.Test.YtnkffjdoillmaaaLoad
namespace Go.Proofs.Ytnkffjdoillmaaa
open Go.RowKit
theorem own_free {w : World} {base : Nat} {e : TypeId} {z n c : Nat} {A : Option Addr} {xs : List Value} (h : w.ownsRow base e z (.slice A n c) n xs) : ∀ b o, A = some ⟨b, o, none⟩ → ∀ j, w.frozen? ⟨b, j, none⟩ = false := by
  intro b o hA j
  rcases h.2 with ⟨h1, _⟩ | ⟨g, cap, cur, h1, hb, hh, hn, hm, hs, rfl⟩
  · cases h1; cases hA
  · cases h1
    cases hA
    simp [World.frozen?, hh]
def FreePost (l : List Ins) (w : World) (e : Ending) (w' : World) : Prop :=
  ∃ A cp, e = .returned (.slice A l.length cp) ∧ Seg w' w.heap.size 4 l.length A (l.flatMap Ins.cells) ∧ (∀ b o, A = some ⟨b, o, none⟩ → ∀ j, w'.frozen? ⟨b, j, none⟩ = false) ∧ Below w.heap.size w w'
set_option maxRecDepth 100000 in
set_option maxHeartbeats 1000000 in
theorem clone_free (l : List Ins) (n : Nat) (a : Addr) (cp : Nat) (w : World) (hl : l.length = n) (hr : Rd w 4 n (some a) (l.flatMap Ins.cells)) (hn : n ≤ 65536) :
    Calls Try.prog 35 #[.slice (some a) n cp] w (FreePost l w) := by
  obtain ⟨i0, hi, hz0, hz1, hz2⟩ := info_parts infoIns
  have Hl := Lib.hid hl
  have Hcell := Lib.hid (show ∀ j u, (l.flatMap Ins.cells)[j]? = some u → w.cell? (a.add j) = some u from fun j u hu => by
    rcases Nat.eq_zero_or_pos n with h0 | h0
    · have := (List.getElem?_eq_some_iff.1 hu).1
      rw [cells_len, hl, h0] at this; omega
    · obtain ⟨b, o, he, _, hc⟩ := hr.pos h0
      cases he
      rw [show (⟨b, o, none⟩ : Addr).add j = ⟨b, o + j, none⟩ by unfold Addr.add; split <;> simp_all]
      exact hc j u hu)
  have Hblk := Lib.hid (show 0 < n → a.block < w.heap.size ∧ a.spot = none from fun h0 => by
    obtain ⟨b, o, he, h1, hc⟩ := hr.pos h0
    cases he
    exact ⟨h1, rfl⟩)
  clear hl hr
  have hnil := fun (w : World) (a : Addr) (n c : Nat) => Lib.run_eql_slice_nil (P := Try.prog) w 22 60 (some a) n c 0 0 Try.underlying22
  go_enter Try.func35, Try.ntmps35
  have Hown := Lib.hid (World.ownsRow_lit (base := w.heap.size) (e := 60) (size := 4) w #[] 0 (Nat.le_refl _) (by unfold maxLen; omega) rfl)
  have Hc2 := Lib.hid (show ∀ j u, (l.flatMap Ins.cells)[j]? = some u → (w.alloc (.cells #[] 60)).cell? (a.add j) = some u from fun j u hu => by
    have h1 := Hcell.out j u hu
    have h2 := (Hblk.out (by
      rcases Nat.eq_zero_or_pos n with h0 | h0
      · have := (List.getElem?_eq_some_iff.1 hu).1
        rw [cells_len, Hl.out, h0] at this; omega
      · exact h0)).1
    rw [← h1]
    exact ((Below.refl w.heap.size w).alloc (Nat.le_refl _) _).cell (p := a.add j) (by unfold Addr.add; split <;> exact h2))
  have hlen := cells_len l
  rw [Hl.out] at hlen
  have HB1 := Lib.hid (one_below w (.cells #[] 60))
  go_wp2_with (at_builtin; refine wpList_append_own _ rfl (.tmp 5) (.tmp 6) 22 rfl w.heap.size 60 i0 _ 4 8 Try.underlying22 hi hz0 hz1 hz2 rfl (by decide) _ 0 [] rfl Hown.out a n cp (l.flatMap Ins.cells) rfl hlen Hc2.out (cells_all l) (by unfold maxLen; omega) (by omega) HB1.out.size ?_; intro v' w4 hown' hgrow _; obtain ⟨A', c', rfl, hnc', Hseg⟩ := own_seg hown'; have Hfr := Lib.hid (own_free hown'); clear hown')
  go_ret
  rw [Nat.zero_add] at *
  exact ⟨A', c', (by rw [Hl.out]; rfl), (by rw [Hl.out]; exact Hseg), Hfr.out, HB1.out.grown hgrow HB1.out.size (fun k hk => by cases hk; exact Nat.le_refl _)⟩
set_option maxRecDepth 100000 in
theorem insns_free (w : World) (B p b o c : Nat) (l : List Ins) (rn st : Nat) (h : Fil w B p b o c l rn st) (hn : l.length ≤ 65536) : Calls Try.prog 21 #[.pointer (some ⟨p, 0, none⟩)] w (FreePost l w) := by
  have c0 := h.bk.cell 0 rfl
  have Cl := Lib.hid (clone_free l l.length ⟨b, o, none⟩ c w rfl h.rd hn)
  unfold FreePost at Cl ⊢
  clear h hn
  go_enter Try.func21, Try.ntmps21
  go_wp2_with fail
  refine Cl.out.mono ?_
  rintro e1 w1 ⟨A', cp', rfl, h4, h6, h5⟩
  have H4 := Lib.hid h4
  have H5 := Lib.hid h5
  have H6 := Lib.hid h6
  clear h4 h5 h6
  go_wp2_with fail
  go_ret
  exact ⟨A', cp', rfl, H4.out, H6.out, H5.out⟩
end Go.Proofs.Ytnkffjdoillmaaa
