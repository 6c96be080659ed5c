/- Count: how many of each class. Clone: the same list anew. -/
import Derived.Test.YtelflegcghcecaaReach
import Derived.Test.YtelflegcghcecaaRow
import Derived.WalkSpells
namespace Go.Proofs.Ytelflegcghcecaa
open Go.RowKit
/-- How many of a class. -/
def ofClass (l : List Ins) (q : Nat) : Nat := (l.filter fun i => i.c % 8 == q).length
def counts (l : List Ins) : List Nat := [ofClass l 0, ofClass l 1, ofClass l 2, ofClass l 3, ofClass l 4, ofClass l 5, ofClass l 6, ofClass l 7]
theorem ofClass_snoc (l : List Ins) (i : Ins) (q : Nat) : ofClass (l ++ [i]) q = if i.c % 8 = q then ofClass l q + 1 else ofClass l q := by
  unfold ofClass
  rw [List.filter_append, List.length_append]
  by_cases h : i.c % 8 = q
  · simp [h]
  · simp [h]
theorem counts_at (l : List Ins) (q : Nat) (hq : q < 8) : (counts l)[q]? = some (ofClass l q) := by
  rcases (by omega : q = 0 ∨ q = 1 ∨ q = 2 ∨ q = 3 ∨ q = 4 ∨ q = 5 ∨ q = 6 ∨ q = 7) with rfl | rfl | rfl | rfl | rfl | rfl | rfl | rfl <;> rfl
theorem counts_snoc (l : List Ins) (i : Ins) : counts (l ++ [i]) = (counts l).set (i.c % 8) (ofClass l (i.c % 8) + 1) := by
  have hq : i.c % 8 < 8 := Nat.mod_lt _ (by omega)
  unfold counts
  simp only [ofClass_snoc]
  obtain ⟨q, hqd⟩ : ∃ q, q = i.c % 8 := ⟨_, rfl⟩
  rw [← hqd] at hq ⊢
  clear hqd
  rcases (by omega : q = 0 ∨ q = 1 ∨ q = 2 ∨ q = 3 ∨ q = 4 ∨ q = 5 ∨ q = 6 ∨ q = 7) with rfl | rfl | rfl | rfl | rfl | rfl | rfl | rfl <;> rfl
theorem ofClass_le (l : List Ins) (q : Nat) : ofClass l q ≤ l.length := List.length_filter_le _ _
structure CtMem (w wr : World) (l : List Ins) : Prop where
  c : Bk wr (w.heap.size + 1) 44 (ints (counts l))
  ans : Bk wr w.heap.size 44 (ints [0, 0, 0, 0, 0, 0, 0, 0])
  bel : Below w.heap.size w wr
theorem ints_set (l : List Nat) (j v : Nat) : (ints l).set j (.int .i64 v) = ints (l.set j v) := by simp [ints, List.map_set]
def CountPost (l : List Ins) (w : World) (e : Ending) (w' : World) : Prop := e = .returned (.agg (ints (counts l)).toArray) ∧ Below w.heap.size w w'
set_option maxRecDepth 100000 in
set_option maxHeartbeats 2000000 in
theorem count_any (l : List Ins) (n : Nat) (A : Option Addr) (cp : Nat) (w : World) (hl : l.length = n) (hok : ∀ i ∈ l, i.ok) (hr : Rd w 4 n A (l.flatMap Ins.cells)) (hn : n ≤ 65536) :
    Calls Try.prog 17 #[.slice A n cp] w (CountPost l w) := by
  have Hl := Lib.hid hl
  have Hok := Lib.hid hok
  have Hr := Lib.hid hr
  clear hl hok hr
  go_enter Try.func17, Try.ntmps17
  go_wp2_with fail
  have HM0 := Lib.hid (show CtMem w ((w.alloc (.cells #[.int .i64 0, .int .i64 0, .int .i64 0, .int .i64 0, .int .i64 0, .int .i64 0, .int .i64 0, .int .i64 0] 44)).alloc (.cells #[.int .i64 0, .int .i64 0, .int .i64 0, .int .i64 0, .int .i64 0, .int .i64 0, .int .i64 0, .int .i64 0] 44)) (l.take 0) from ⟨by
    have := Bk.new (w.alloc (.cells #[.int .i64 0, .int .i64 0, .int .i64 0, .int .i64 0, .int .i64 0, .int .i64 0, .int .i64 0, .int .i64 0] 44)) 44 #[.int .i64 0, .int .i64 0, .int .i64 0, .int .i64 0, .int .i64 0, .int .i64 0, .int .i64 0, .int .i64 0] rfl
    rw [World.size_alloc] at this
    exact this, (Bk.new _ _ _ rfl).alloc _, ((Below.refl _ _).alloc (Nat.le_refl _) _).alloc (by simp) _⟩)
  go_loopw [8] (fun i wr => ∃ k : Nat, k ≤ n ∧ i = .int .i64 k ∧ Hid (CtMem w wr (l.take k))) (fun i _ => n - (intOf i).toNat)
  case atStart => exact ⟨0, by omega, rfl, HM0⟩
  case round =>
    obtain ⟨k, hk, rfl, HM⟩ := hrel
    clear HM0
    by_cases hlt : k < n
    · obtain ⟨x, hx⟩ : ∃ x, l[k]? = some x := ⟨_, List.getElem?_eq_getElem (by have := Hl.out; omega)⟩
      obtain ⟨b, o, hA, hbl, hcells⟩ := Hr.out.pos (by omega)
      obtain ⟨q0, q1, q2, q3⟩ := four_cells hcells hx
      have hkeep : ∀ j, wr.cell? ⟨b, j, none⟩ = w.cell? ⟨b, j, none⟩ := fun j => HM.out.bel.cell (p := ⟨b, j, none⟩) hbl
      rw [← hkeep] at q0 q1 q2 q3
      have Cl := Lib.hid (fun w => class_any x.c w (Hok.out x (List.mem_of_getElem? hx)).1)
      obtain ⟨q, hq⟩ : ∃ q, q = x.c % 8 := ⟨_, rfl⟩
      have hq8 : q < 8 := by omega
      obtain ⟨V, hV⟩ : ∃ V, V = ofClass (l.take k) q := ⟨_, rfl⟩
      have hVl : V ≤ 65536 := by rw [hV]; exact Nat.le_trans (ofClass_le _ _) (by rw [List.length_take]; omega)
      have c0 : wr.cell? ⟨w.heap.size + 1, q, none⟩ = some (.int .i64 V) := by rw [hV]; exact HM.out.c.cell q (ints_at (counts_at _ q hq8))
      have hnext : counts (l.take (k + 1)) = (counts (l.take k)).set q (V + 1) := by rw [take_snoc' l k x hx, counts_snoc, ← hq, ← hV]
      rw [← hq] at Cl
      have Hx := Lib.hid (And.intro hx (And.intro hq hV))
      have hsz := HM.out.c.lt
      obtain ⟨c, t, f, y⟩ := x
      dsimp only at *
      have hal := (Below.refl wr.heap.size wr).alloc (Nat.le_refl _) (.cells #[.int .u16 c, .int .u8 t, .int .u8 f, .int .u32 y] 27)
      have c0' := (hal.cell (p := ⟨w.heap.size + 1, q, none⟩) hsz).trans c0
      have f0' := (HM.out.c.alloc (.cells #[.int .u16 c, .int .u8 t, .int .u8 f, .int .u32 y] 27)).fz q
      have HE := Lib.hid (show CtMem w ((wr.setCell ⟨w.heap.size + 1, q, none⟩ (.int .i64 (V + 1 : Nat))).alloc (.cells #[.int .u16 c, .int .u8 t, .int .u8 f, .int .u32 y] 27)) (l.take (k + 1)) from by
        have hg := only_set wr (w.heap.size + 1) q (.int .i64 (V + 1 : Nat))
        have hb := only_below HM.out.bel hg HM.out.bel.size (by omega)
        refine ⟨?_, (HM.out.ans.grown hg (by simp)).alloc _, hb.alloc hb.size _⟩
        rw [hnext, ← ints_set]
        exact (HM.out.c.set q _).alloc _)
      subst hA
      have hqi : (q : Int) < 8 := by omega
      have hq0 : (0 : Int) ≤ (q : Int) := by omega
      clear hkeep hcells hx hq hV hal hnext HM
      go_wp2_with fail
      refine (Cl.out _).mono ?_
      rintro e w' ⟨rfl, rfl⟩
      go_wp2_with fail
      go_roundw
      case rel => exact ⟨k + 1, by omega, by go_num, HE⟩
      case measure => simp [intOf]; omega
    · obtain rfl : k = n := by omega
      have HE := Lib.hid (show CtMem w wr l from by have := HM.out; rw [List.take_of_length_le (by have := Hl.out; omega)] at this; exact this)
      clear HM
      have hz1 : (Try.prog.info? 44).map (·.size) = some 8 := by kernel_rfl
      have hz2 : (ints (counts l)).length = 8 := rfl
      have hz3 : (ints [0, 0, 0, 0, 0, 0, 0, 0]).length = 8 := rfl
      have hz4 : (ints (counts l)).toArray.all (·.oneCell') = true := by simp [ints, Value.oneCell']
      have HF := Lib.hid (show Bk (wr.setRow w.heap.size (ints (counts l)).toArray) w.heap.size 44 (ints (counts l)) ∧ Below w.heap.size w (wr.setRow w.heap.size (ints (counts l)).toArray) from ⟨HE.out.ans.row _, only_below HE.out.bel (only_row wr w.heap.size _) HE.out.bel.size (Nat.le_refl _)⟩)
      obtain ⟨L, hL⟩ : ∃ L, L = ints (counts l) := ⟨_, rfl⟩
      have HEc := Lib.hid HE.out.c
      rw [← hL] at hz2 hz4 HF HEc
      have HLd := Lib.hid hL
      clear hL
      go_wp2_with (first | (refine ld_row HEc.out rfl _ rfl rfl Try.underlying44 hz1 hz2 ?_) | (refine st_row HE.out.ans rfl _ _ rfl rfl rfl hz1 hz3 hz2 hz4 ?_))
      exact bodyPost_ret (v := .agg L.toArray) (res_row Try.results17 _ rfl HF.out.1 Try.underlying44 hz1 hz2) rfl ⟨(by rw [HLd.out]), HF.out.2⟩
set_option maxRecDepth 100000 in
theorem clone_nil (n : Nat) (cp : Nat) (w : World) : Calls Try.prog 25 #[.slice none n cp] w fun e w' => e = .returned (.slice none 0 0) ∧ w = w' := by
  have hnil := fun (w : World) (n c : Nat) => Lib.run_eql_slice_nil (P := Try.prog) w 24 27 none n c 0 0 Try.underlying24
  go_enter Try.func25, Try.ntmps25
  go_wp2_with fail
  go_ret
  exact ⟨rfl, rfl⟩
def ClonePost (l : List Ins) (w : World) (e : Ending) (w' : World) : Prop :=
  ∃ A cp, e = .returned (.slice A l.length cp) ∧ Seg w' w.heap.size 4 l.length A (l.flatMap Ins.cells) ∧ Below w.heap.size w w'
theorem cells_len (l : List Ins) : (l.flatMap Ins.cells).length = l.length * 4 := by
  induction l with
  | nil => rfl
  | cons i l ih => simp only [List.flatMap_cons, List.length_append, List.length_cons, ih, Ins.cells]; simp; omega
theorem cells_all (l : List Ins) : ∀ u ∈ l.flatMap Ins.cells, u.oneCell' = true := by
  intro u hu
  obtain ⟨i, _, hi⟩ := List.mem_flatMap.1 hu
  exact cells_one i u hi
set_option maxRecDepth 100000 in
set_option maxHeartbeats 1000000 in
theorem clone_some (l : List Ins) (n : Nat) (a : Addr) (cp : Nat) (w : World) (hl : l.length = n) (hr : Rd w 4 n (some a) (l.flatMap Ins.cells)) (hn : n ≤ 65536) :
    Calls Try.prog 25 #[.slice (some a) n cp] w (ClonePost l w) := by
  obtain ⟨i0, hi, hz0, hz1, hz2⟩ := info_parts infoIns
  have Hl := Lib.hid hl
  have Hcell := Lib.hid (show ∀ j u, (l.flatMap Ins.cells)[j]? = some u → w.cell? (a.add j) = some u from fun j u hu => by
    rcases Nat.eq_zero_or_pos n with h0 | h0
    · have := (List.getElem?_eq_some_iff.1 hu).1
      rw [cells_len, hl, h0] at this; omega
    · obtain ⟨b, o, he, _, hc⟩ := hr.pos h0
      cases he
      rw [show (⟨b, o, none⟩ : Addr).add j = ⟨b, o + j, none⟩ by unfold Addr.add; split <;> simp_all]
      exact hc j u hu)
  have Hblk := Lib.hid (show 0 < n → a.block < w.heap.size ∧ a.spot = none from fun h0 => by
    obtain ⟨b, o, he, h1, hc⟩ := hr.pos h0
    cases he
    exact ⟨h1, rfl⟩)
  clear hl hr
  have hnil := fun (w : World) (a : Addr) (n c : Nat) => Lib.run_eql_slice_nil (P := Try.prog) w 24 27 (some a) n c 0 0 Try.underlying24
  go_enter Try.func25, Try.ntmps25
  have Hown := Lib.hid (World.ownsRow_lit (base := w.heap.size) (e := 27) (size := 4) w #[] 0 (Nat.le_refl _) (by unfold maxLen; omega) rfl)
  have Hc2 := Lib.hid (show ∀ j u, (l.flatMap Ins.cells)[j]? = some u → (w.alloc (.cells #[] 27)).cell? (a.add j) = some u from fun j u hu => by
    have h1 := Hcell.out j u hu
    have h2 := (Hblk.out (by
      rcases Nat.eq_zero_or_pos n with h0 | h0
      · have := (List.getElem?_eq_some_iff.1 hu).1
        rw [cells_len, Hl.out, h0] at this; omega
      · exact h0)).1
    rw [← h1]
    exact ((Below.refl w.heap.size w).alloc (Nat.le_refl _) _).cell (p := a.add j) (by unfold Addr.add; split <;> exact h2))
  have hlen := cells_len l
  rw [Hl.out] at hlen
  have HB1 := Lib.hid (one_below w (.cells #[] 27))
  go_wp2_with (at_builtin; refine wpList_append_own _ rfl (.tmp 5) (.tmp 6) 24 rfl w.heap.size 27 i0 _ 4 8 Try.underlying24 hi hz0 hz1 hz2 rfl (by decide) _ 0 [] rfl Hown.out a n cp (l.flatMap Ins.cells) rfl hlen Hc2.out (cells_all l) (by unfold maxLen; omega) (by omega) HB1.out.size ?_; intro v' w4 hown' hgrow _; obtain ⟨A', c', rfl, hnc', Hseg⟩ := own_seg hown'; clear hown')
  go_ret
  rw [Nat.zero_add] at *
  exact ⟨A', c', (by rw [Hl.out]; rfl), (by rw [Hl.out]; exact Hseg), HB1.out.grown hgrow HB1.out.size (fun k hk => by cases hk; exact Nat.le_refl _)⟩
theorem clone_any (l : List Ins) (n : Nat) (A : Option Addr) (cp : Nat) (w : World) (hl : l.length = n) (hr : Rd w 4 n A (l.flatMap Ins.cells)) (hn : n ≤ 65536) :
    Calls Try.prog 25 #[.slice A n cp] w (ClonePost l w) := by
  cases A with
  | none =>
    obtain rfl : n = 0 := by
      rcases hr.at_ with h | ⟨b, o, h, _⟩
      · exact h
      · cases h
    obtain rfl : l = [] := List.eq_nil_of_length_eq_zero hl
    refine (clone_nil 0 cp w).mono ?_
    rintro e w' ⟨rfl, rfl⟩
    exact ⟨none, 0, rfl, Seg.nil _ _ _ _, Below.refl _ _⟩
  | some a => exact clone_some l n a cp w hl hr hn
end Go.Proofs.Ytelflegcghcecaa
