/- Loaded: the instructions' block is one of instructions. -/
import Derived.Test.YtnkffjdoillmaaaLoad
namespace Go.Proofs.Ytnkffjdoillmaaa
open Go.RowKit
theorem own_typed {w : World} {base : Nat} {e : TypeId} {z n c : Nat} {A : Option Addr} {xs : List Value} (h : w.ownsRow base e z (.slice A n c) n xs) : ∀ b o, A = some ⟨b, o, none⟩ → ∃ cs fr, w.heap[b]? = some (.cells cs e fr) := by
  intro b o hA
  rcases h.2 with ⟨h1, _⟩ | ⟨g, cap, cur, h1, hb, hh, hn, hm, hs, rfl⟩
  · cases h1; cases hA
  · cases h1
    cases hA
    exact ⟨_, _, hh⟩
def TypedPost (l : List Ins) (w : World) (e : Ending) (w' : World) : Prop :=
  ∃ A cp, e = .returned (.slice A l.length cp) ∧ Seg w' w.heap.size 4 l.length A (l.flatMap Ins.cells) ∧ (∀ b o, A = some ⟨b, o, none⟩ → ∃ cs fr, w'.heap[b]? = some (.cells cs 60 fr)) ∧ Below w.heap.size w w'
/-- A filter anew, whose instructions lie in a block of instructions. -/
def LoadT (l : List Ins) (w : World) (e : Ending) (w' : World) : Prop :=
  ∃ p b o c cs fr, w.heap.size ≤ p ∧ w.heap.size ≤ b ∧ e = .returned (.tuple #[.pointer (some ⟨p, 0, none⟩), .agg #[.int .i64 0, .int .i64 0]]) ∧ Fil w' w'.heap.size p b o c l 0 0 ∧ w'.heap[b]? = some (.cells cs 60 fr) ∧ Below w.heap.size w w'
set_option maxRecDepth 100000 in
set_option maxHeartbeats 1000000 in
theorem clone_typed (l : List Ins) (n : Nat) (a : Addr) (cp : Nat) (w : World) (hl : l.length = n) (hr : Rd w 4 n (some a) (l.flatMap Ins.cells)) (hn : n ≤ 65536) :
    Calls Try.prog 35 #[.slice (some a) n cp] w (TypedPost l w) := by
  obtain ⟨i0, hi, hz0, hz1, hz2⟩ := info_parts infoIns
  have Hl := Lib.hid hl
  have Hcell := Lib.hid (show ∀ j u, (l.flatMap Ins.cells)[j]? = some u → w.cell? (a.add j) = some u from fun j u hu => by
    rcases Nat.eq_zero_or_pos n with h0 | h0
    · have := (List.getElem?_eq_some_iff.1 hu).1
      rw [cells_len, hl, h0] at this; omega
    · obtain ⟨b, o, he, _, hc⟩ := hr.pos h0
      cases he
      rw [show (⟨b, o, none⟩ : Addr).add j = ⟨b, o + j, none⟩ by unfold Addr.add; split <;> simp_all]
      exact hc j u hu)
  have Hblk := Lib.hid (show 0 < n → a.block < w.heap.size ∧ a.spot = none from fun h0 => by
    obtain ⟨b, o, he, h1, hc⟩ := hr.pos h0
    cases he
    exact ⟨h1, rfl⟩)
  clear hl hr
  have hnil := fun (w : World) (a : Addr) (n c : Nat) => Lib.run_eql_slice_nil (P := Try.prog) w 22 60 (some a) n c 0 0 Try.underlying22
  go_enter Try.func35, Try.ntmps35
  have Hown := Lib.hid (World.ownsRow_lit (base := w.heap.size) (e := 60) (size := 4) w #[] 0 (Nat.le_refl _) (by unfold maxLen; omega) rfl)
  have Hc2 := Lib.hid (show ∀ j u, (l.flatMap Ins.cells)[j]? = some u → (w.alloc (.cells #[] 60)).cell? (a.add j) = some u from fun j u hu => by
    have h1 := Hcell.out j u hu
    have h2 := (Hblk.out (by
      rcases Nat.eq_zero_or_pos n with h0 | h0
      · have := (List.getElem?_eq_some_iff.1 hu).1
        rw [cells_len, Hl.out, h0] at this; omega
      · exact h0)).1
    rw [← h1]
    exact ((Below.refl w.heap.size w).alloc (Nat.le_refl _) _).cell (p := a.add j) (by unfold Addr.add; split <;> exact h2))
  have hlen := cells_len l
  rw [Hl.out] at hlen
  have HB1 := Lib.hid (one_below w (.cells #[] 60))
  go_wp2_with (at_builtin; refine wpList_append_own _ rfl (.tmp 5) (.tmp 6) 22 rfl w.heap.size 60 i0 _ 4 8 Try.underlying22 hi hz0 hz1 hz2 rfl (by decide) _ 0 [] rfl Hown.out a n cp (l.flatMap Ins.cells) rfl hlen Hc2.out (cells_all l) (by unfold maxLen; omega) (by omega) HB1.out.size ?_; intro v' w4 hown' hgrow _; obtain ⟨A', c', rfl, hnc', Hseg⟩ := own_seg hown'; have Hty := Lib.hid (own_typed hown'); clear hown')
  go_ret
  rw [Nat.zero_add] at *
  exact ⟨A', c', (by rw [Hl.out]; rfl), (by rw [Hl.out]; exact Hseg), Hty.out, HB1.out.grown hgrow HB1.out.size (fun k hk => by cases hk; exact Nat.le_refl _)⟩
theorem load_yesT {l : List Ins} {w w2 : World} {b o cp' : Nat} (hb2 : Below w.heap.size w w2) (h1 : b < w2.heap.size) (h2 : w.heap.size ≤ b) (h3 : ∀ j u, (l.flatMap Ins.cells)[j]? = some u → w2.cell? ⟨b, o + j, none⟩ = some u) (h4 : w.heap.size + 2 ≤ b) (ht : ∃ cs fr, w2.heap[b]? = some (.cells cs 60 fr)) :
    LoadT l w (.returned (.tuple #[.pointer (some ⟨w2.heap.size, 0, none⟩), .agg #[.int .i64 0, .int .i64 0]])) (((w2.setCell ⟨w.heap.size, 0, none⟩ (.int .i64 0)).setCell ⟨w.heap.size, 1, none⟩ (.int .i64 0)).alloc (.cells #[.slice (some ⟨b, o, none⟩) l.length cp', .int .i64 0, .int .i64 0] 96)) := by
  have HE := agg_below (v0 := .int .i64 0) (v1 := .int .i64 0) hb2
  have es : ((w2.setCell ⟨w.heap.size, 0, none⟩ (.int .i64 0)).setCell ⟨w.heap.size, 1, none⟩ (.int .i64 0)).heap.size = w2.heap.size := by simp [World.setCell]
  have HP := Bk.new (l := [.slice (some ⟨b, o, none⟩) l.length cp', .int .i64 0, .int .i64 0]) ((w2.setCell ⟨w.heap.size, 0, none⟩ (.int .i64 0)).setCell ⟨w.heap.size, 1, none⟩ (.int .i64 0)) 96 _ rfl
  rw [es] at HP
  have hsz := hb2.size
  obtain ⟨cs, fr, ht⟩ := ht
  have hbel' := (Below.refl w2.heap.size ((w2.setCell ⟨w.heap.size, 0, none⟩ (.int .i64 0)).setCell ⟨w.heap.size, 1, none⟩ (.int .i64 0))).alloc (by rw [es]; exact Nat.le_refl _) (.cells #[.slice (some ⟨b, o, none⟩) l.length cp', .int .i64 0, .int .i64 0] 96)
  have hg3 := only_trans (only_set w2 w.heap.size 0 (.int .i64 0)) (only_set _ w.heap.size 1 (.int .i64 0))
  refine ⟨_, b, o, cp', cs, fr, hsz, h2, rfl, ?_, (hbel'.block b h1).trans ((hg3.block b h1 (fun e => by cases e; omega)).trans ht), HE.alloc (by rw [es]; exact hsz) _⟩
  refine ⟨HP.lt, Nat.lt_trans h1 HP.lt, by omega, Nat.le_refl _, HP, fun j u hu => ?_⟩
  rw [← h3 j u hu]
  have hbel := (Below.refl w2.heap.size ((w2.setCell ⟨w.heap.size, 0, none⟩ (.int .i64 0)).setCell ⟨w.heap.size, 1, none⟩ (.int .i64 0))).alloc (by rw [es]; exact Nat.le_refl _) (.cells #[.slice (some ⟨b, o, none⟩) l.length cp', .int .i64 0, .int .i64 0] 96)
  rw [hbel.cell (p := ⟨b, o + j, none⟩) h1]
  have hg2 := only_trans (only_set w2 w.heap.size 0 (.int .i64 0)) (only_set _ w.heap.size 1 (.int .i64 0))
  unfold World.cell?
  rw [hg2.block b h1 (fun e => by cases e; omega)]
set_option maxRecDepth 100000 in
set_option maxHeartbeats 1000000 in
theorem load_typed (l : List Ins) (n : Nat) (a : Addr) (cp : Nat) (w : World) (hl : l.length = n) (hok : ∀ i ∈ l, i.ok) (hr : Rd w 4 n (some a) (l.flatMap Ins.cells)) (hm : n ≤ maxLen) (hgood : Good l) :
    Calls Try.prog 12 #[.slice (some a) n cp] w (LoadT l w) := by
  have Ck := Lib.hid (fun w' h => check_any l n (some a) cp w' hl hok (hr.below h) hm)
  have Cl := Lib.hid (fun w' h hn => clone_typed l n a cp w' hl (hr.below h) hn)
  have Hl := Lib.hid hl
  have Hgd := Lib.hid hgood
  clear hl hok hr hm hgood
  have es : (w.alloc (.cells #[.int .i64 0, .int .i64 0] 31)).heap.size = w.heap.size + 1 := by simp
  have HB0 := Lib.hid (one_below w (.cells #[.int .i64 0, .int .i64 0] 31))
  have HA0 := Lib.hid (Bk.new (l := [.int .i64 0, .int .i64 0]) w 31 _ rfl)
  clear es
  go_enter Try.func12, Try.ntmps12
  go_wp2_with fail
  refine (Ck.out _ HB0.out).mono ?_
  rintro e w1 ⟨aa, er, rfl, hc, hb1⟩
  obtain rfl : er = 0 := hc.good_iff.2 Hgd.out
  have HA1 := Lib.hid (HA0.out.kept hb1)
  have HB1 := Lib.hid (HB0.out.trans (hb1.mono HB0.out.size))
  have hlt : w.heap.size < w1.heap.size := HA1.out.lt
  have HC := Lib.hid hc
  clear hc hb1
  · obtain rfl : aa = 0 := Chk.zero HC.out
    have Hg := Lib.hid Hgd.out
    have hn : n ≤ 65536 := by have := Hg.out.many; have := Hl.out; omega
    go_wp2_with fail
    refine (Cl.out _ (HB1.out.alloc HB1.out.size _) hn).mono ?_
    rintro e w2 ⟨A', cp', rfl, hs2, hty, hb2⟩
    obtain ⟨b, o, rfl, hb, hbl, hcs⟩ := hs2.pos (by have := Hg.out.pos; omega)
    have Hty := Lib.hid (hty b o rfl)
    have HB2 := Lib.hid ((HB1.out.alloc HB1.out.size _).trans (hb2.mono (by have := HB1.out.size; simp; omega)))
    have HA2 := Lib.hid ((HA1.out.alloc (.cells #[.int .i64 0, .int .i64 0] 31)).kept hb2)
    have HS := Lib.hid (show b < w2.heap.size ∧ w.heap.size ≤ b ∧ (∀ j u, (l.flatMap Ins.cells)[j]? = some u → w2.cell? ⟨b, o + j, none⟩ = some u) ∧ w.heap.size + 2 ≤ b from ⟨hbl, by have := HB1.out.size; simp at hb; omega, hcs, by simp at hb; omega⟩)
    have c0 := HA2.out.cell 0 rfl
    have c1 := HA2.out.cell 1 rfl
    have f0 := HA2.out.fz 0
    have f1 := HA2.out.fz 1
    have hlt2 := HA2.out.lt
    have HP := Lib.hid (Bk.new (l := [.slice (some ⟨b, o, none⟩) l.length cp', .int .i64 0, .int .i64 0]) ((w2.setCell ⟨w.heap.size, 0, none⟩ (.int .i64 0)).setCell ⟨w.heap.size, 1, none⟩ (.int .i64 0)) 96 _ rfl)
    have HE := Lib.hid (agg_below (v0 := .int .i64 0) (v1 := .int .i64 0) HB2.out)
    have HA3 := Lib.hid (((HA2.out.set 0 (.int .i64 0)).set 1 (.int .i64 0)).alloc (.cells #[.slice (some ⟨b, o, none⟩) l.length cp', .int .i64 0, .int .i64 0] 96))
    clear hs2 hty hb hbl hcs hb2 hlt hn
    go_wp2_with fail
    have r0 := HA3.out.cell 0 rfl
    have r1 := HA3.out.cell 1 rfl
    refine bodyPost_ret (v := .tuple #[.pointer (some ⟨w2.heap.size, 0, none⟩), .agg #[.int .i64 0, .int .i64 0]]) (by simp [results, Try.results12, go_sem, r0, r1]) rfl ?_
    exact load_yesT HB2.out HS.out.1 HS.out.2.1 HS.out.2.2.1 HS.out.2.2.2 Hty.out
end Go.Proofs.Ytnkffjdoillmaaa
