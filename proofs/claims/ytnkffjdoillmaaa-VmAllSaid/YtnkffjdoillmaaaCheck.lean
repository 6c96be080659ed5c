/- Check: what is wrong first; may it be loaded? -/
import Derived.Test.YtnkffjdoillmaaaUnst
import Derived.ChangeKeysEq
import Derived.Laws.StructEq
namespace Go.Proofs.Ytnkffjdoillmaaa
open Go.RowKit
def ChkPost (l : List Ins) (w : World) (e : Ending) (w' : World) : Prop :=
  ∃ a er : Nat, e = .returned (.agg #[.int .i64 a, .int .i64 er]) ∧ Chk l a er ∧ Below w.heap.size w w'
theorem agg_below {w wb : World} {v0 v1 : Value} (h : Below w.heap.size w wb) : Below w.heap.size w ((wb.setCell ⟨w.heap.size, 0, none⟩ v0).setCell ⟨w.heap.size, 1, none⟩ v1) :=
  only_below (only_below h (only_set wb w.heap.size 0 v0) h.size (Nat.le_refl _)) (only_set (wb.setCell ⟨w.heap.size, 0, none⟩ v0) w.heap.size 1 v1) (Nat.le_trans h.size (only_set _ _ _ _).size) (Nat.le_refl _)
set_option maxRecDepth 100000 in
theorem check_none (n : Nat) (A : Option Addr) (cp : Nat) (w : World) (l : List Ins) (hl : l.length = n) (hn : n = 0) : Calls Try.prog 13 #[.slice A n cp] w (ChkPost l w) := by
  subst hn
  have H := Lib.hid (Chk.none hl)
  clear hl
  go_enter Try.func13, Try.ntmps13
  go_wp2_with fail
  exact bodyPost_ret (v := .agg #[.int .i64 0, .int .i64 203]) (by simp [results, Try.results13, go_sem]) rfl ⟨0, 203, rfl, H.out, one_below _ _⟩
set_option maxRecDepth 100000 in
theorem check_many (n : Nat) (A : Option Addr) (cp : Nat) (w : World) (l : List Ins) (hl : l.length = n) (hn : 4096 < n) (_hm : n ≤ maxLen) : Calls Try.prog 13 #[.slice A n cp] w (ChkPost l w) := by
  have H := Lib.hid (Chk.many (l := l) (by omega))
  have h0 : ((n : Int) == 0) = false := by simp; omega
  have h1 : (4096 : Int) < (n : Int) := by omega
  clear hl
  go_enter Try.func13, Try.ntmps13
  go_wp2_with fail
  exact bodyPost_ret (v := .agg #[.int .i64 4096, .int .i64 205]) (by simp [results, Try.results13, go_sem]) rfl ⟨4096, 205, rfl, H.out, one_below _ _⟩
/-- The memory of a round. -/
structure CMem (w wr : World) : Prop where
  ans : Bk wr w.heap.size 31 [.int .i64 0, .int .i64 0]
  bel : Below w.heap.size w wr
theorem CMem.alloc {w wr : World} (h : CMem w wr) (o : Obj) : CMem w (wr.alloc o) := ⟨h.ans.alloc _, h.bel.alloc h.bel.size _⟩
theorem CMem.kept {w wr w' : World} (h : CMem w wr) (hb : Below wr.heap.size wr w') : CMem w w' := ⟨h.ans.kept hb, h.bel.trans (hb.mono h.bel.size)⟩
set_option maxRecDepth 100000 in
set_option maxHeartbeats 2000000 in
theorem check_some (l : List Ins) (n : Nat) (A : Option Addr) (cp : Nat) (w : World) (hl : l.length = n) (hok : ∀ i ∈ l, i.ok) (hr : Rd w 4 n A (l.flatMap Ins.cells)) (hn0 : 0 < n) (hn : n ≤ 4096) :
    Calls Try.prog 13 #[.slice A n cp] w (ChkPost l w) := by
  have Hl := Lib.hid hl
  have Hok := Lib.hid hok
  have Hr := Lib.hid hr
  have h0 : ((n : Int) == 0) = false := by simp; omega
  have h1 : ¬ (4096 : Int) < (n : Int) := by omega
  clear hl hok hr
  go_enter Try.func13, Try.ntmps13
  go_wp2_with fail
  have HM0 := Lib.hid (show CMem w (w.alloc (.cells #[.int .i64 0, .int .i64 0] 31)) from ⟨Bk.new _ _ _ rfl, one_below _ _⟩)
  clear h0 h1
  go_loopw [17] (fun i wr => ∃ k : Nat, k ≤ n ∧ i = .int .i64 k ∧ Hid (CMem w wr) ∧ Hid (∀ (j : Nat) (x : Ins), j < k → l[j]? = some x → alone x (l.length - j - 1) = 0)) (fun i _ => n - (intOf i).toNat)
  case atStart => exact ⟨0, by omega, rfl, HM0, fun j x hj => by omega⟩
  case round =>
    obtain ⟨k, hk, rfl, HM, HN⟩ := hrel
    clear HM0
    by_cases hlt : k < n
    · obtain ⟨x, hx⟩ : ∃ x, l[k]? = some x := ⟨_, List.getElem?_eq_getElem (by have := Hl.out; omega)⟩
      obtain ⟨b, o, hA, hbl, hcells⟩ := Hr.out.pos (by omega)
      obtain ⟨q0, q1, q2, q3⟩ := four_cells hcells hx
      have hkeep : ∀ j, wr.cell? ⟨b, j, none⟩ = w.cell? ⟨b, j, none⟩ := fun j => HM.out.bel.cell (p := ⟨b, j, none⟩) hbl
      rw [← hkeep] at q0 q1 q2 q3
      have Al := Lib.hid (fun w => alone_any x k n w (Hok.out x (List.mem_of_getElem? hx)) hlt (by omega))
      have Hx := Lib.hid hx
      obtain ⟨E, hE⟩ : ∃ E, E = alone x (n - k - 1) := ⟨_, rfl⟩
      have hEl : E < 300 := hE ▸ alone_lt _ _
      rw [← hE] at Al
      have HE := Lib.hid hE
      obtain ⟨c, t, f, y⟩ := x
      dsimp only at *
      subst hA
      clear hkeep hcells hx hE
      go_wp2_with fail
      refine (Al.out _).mono ?_
      rintro e w2 ⟨rfl, hb2⟩
      have HM2 := Lib.hid ((HM.out.alloc _).kept hb2)
      clear HM hb2 q0 q1 q2 q3
      by_cases hE0 : E = 0
      · have e1 : ((E : Int) != 0) = false := by simp; omega
        have e2 : ((E : Int) == 0) = true := by simp; omega
        have HN1 := Lib.hid (show ∀ (j : Nat) (x : Ins), j < k + 1 → l[j]? = some x → alone x (l.length - j - 1) = 0 from fun j x hj hx => by
          rcases (by omega : j < k ∨ j = k) with h | rfl
          · exact HN.out j x h hx
          · rw [Hx.out] at hx
            cases hx
            rw [Hl.out, ← HE.out]; exact hE0)
        clear hE0
        go_wp2_with fail
        go_roundw
        case rel => exact ⟨k + 1, by omega, by go_num, HM2, HN1⟩
        case measure => simp [intOf]; omega
      · have e1 : ((E : Int) != 0) = true := by simp; omega
        have e2 : ((E : Int) == 0) = false := by simp; omega
        have H := Lib.hid (Chk.each k ⟨c, t, f, y⟩ E (by have := Hl.out; omega) (by have := Hl.out; omega) HN.out Hx.out (by rw [Hl.out]; exact HE.out.symm) hE0)
        have HA2 := (HM2.out.ans.set 0 (.int .i64 k)).set 1 (.int .i64 E)
        have a0 := HA2.cell 0 rfl
        have a1 := HA2.cell 1 rfl
        have b0 := HM2.out.ans.cell 0 rfl
        have b1 := HM2.out.ans.cell 1 rfl
        have f0 := HM2.out.ans.fz 0
        have f1 := HM2.out.ans.fz 1
        clear HA2 hE0
        go_wp2_with fail
        exact bodyPost_ret (v := .agg #[.int .i64 k, .int .i64 E]) (by simp [results, Try.results13, go_sem, a0, a1]) rfl ⟨k, E, rfl, H.out, agg_below HM2.out.bel⟩
    · obtain rfl : k = n := by omega
      have Hall := Lib.hid (show ∀ (j : Nat) (x : Ins), l[j]? = some x → alone x (l.length - j - 1) = 0 from fun j x hx => HN.out j x (by have := (List.getElem?_eq_some_iff.1 hx).1; have := Hl.out; omega) hx)
      obtain ⟨p, rfl⟩ : ∃ p, k = p + 1 := ⟨k - 1, by omega⟩
      obtain ⟨x, hx⟩ : ∃ x, l[p]? = some x := ⟨_, List.getElem?_eq_getElem (by have := Hl.out; omega)⟩
      obtain ⟨b, o, hA, hbl, hcells⟩ := Hr.out.pos (by omega)
      obtain ⟨q0, q1, q2, q3⟩ := four_cells hcells hx
      have hkeep : ∀ j, wr.cell? ⟨b, j, none⟩ = w.cell? ⟨b, j, none⟩ := fun j => HM.out.bel.cell (p := ⟨b, j, none⟩) hbl
      rw [← hkeep] at q0 q1 q2 q3
      have Cl := Lib.hid (fun w => class_any x.c w (Hok.out x (List.mem_of_getElem? hx)).1)
      have Uns := Lib.hid (fun (h6 : x.c % 8 = 6) => unstored_any l (p + 1) A cp wr Hl.out Hok.out (Hr.out.below HM.out.bel) (by omega) hn
        (inr_of Hall.out (fun y hy => by rw [Hl.out] at hy; simp only [Nat.add_sub_cancel] at hy; rw [hx] at hy; cases hy; exact h6)) (fun i hi => by
          obtain ⟨j, hj⟩ := List.getElem?_of_mem hi
          exact (alone_zero.1 (Hall.out j i hj)).2.2))
      have Hx := Lib.hid (show l[l.length - 1]? = some x by rw [Hl.out]; exact hx)
      obtain ⟨c, t, f, y⟩ := x
      dsimp only at *
      obtain ⟨r, hr⟩ : ∃ r, r = c % 8 := ⟨_, rfl⟩
      rw [← hr] at Cl Uns
      have HR := Lib.hid hr
      subst hA
      clear hkeep hcells hx hr
      by_cases h6 : r = 6
      · subst h6
        have Uns2 := Lib.hid (Uns.out rfl)
        clear Uns
        go_wp2_with fail
        refine (Cl.out _).mono ?_
        rintro e w' ⟨rfl, rfl⟩
        go_wp2_with fail
        refine Uns2.out.mono ?_
        rintro e w3 ⟨a, er, rfl, hb3, hor⟩
        have HM3 := Lib.hid (HM.out.kept hb3)
        have H := Lib.hid (show Chk l a er from by
          have hends : ∀ (x : Ins), l[l.length - 1]? = some x → x.c % 8 = 6 := fun x hx => by rw [Hx.out] at hx; cases hx; exact HR.out.symm
          have hl0 := Hl.out
          rcases hor with ⟨rfl, rfl, hnb⟩ | ⟨rfl, hnb, i, hi, ht, hu⟩
          · exact Chk.good ⟨by omega, by omega, Hall.out, hends, fun a i hi ht => hnb a i (List.getElem?_eq_some_iff.1 hi).1 hi ht⟩
          · exact Chk.scr a i (by omega) (by omega) Hall.out hends hnb hi ht hu)
        have HA2 := (HM3.out.ans.set 0 (.int .i64 a)).set 1 (.int .i64 er)
        have a0 := HA2.cell 0 rfl
        have a1 := HA2.cell 1 rfl
        have b0 := HM3.out.ans.cell 0 rfl
        have b1 := HM3.out.ans.cell 1 rfl
        have f0 := HM3.out.ans.fz 0
        have f1 := HM3.out.ans.fz 1
        clear HA2 hor hb3 q0 q1 q2 q3
        go_wp2_with fail
        exact bodyPost_ret (v := .agg #[.int .i64 a, .int .i64 er]) (by simp [results, Try.results13, go_sem, a0, a1]) rfl ⟨a, er, rfl, H.out, agg_below HM3.out.bel⟩
      · have e1 : ((r : Int) != 6) = true := by simp; omega
        have e2 : ((r : Int) == 6) = false := by simp; omega
        have H := Lib.hid (show Chk l p 209 from by
          have := Chk.ends ⟨c, t, f, y⟩ (by have := Hl.out; omega) (by have := Hl.out; omega) Hall.out Hx.out (by show c % 8 ≠ 6; rw [← HR.out]; exact h6)
          rw [Hl.out] at this; exact this)
        have HA2 := (HM.out.ans.set 0 (.int .i64 p)).set 1 (.int .i64 209)
        have a0 := HA2.cell 0 rfl
        have a1 := HA2.cell 1 rfl
        have b0 := HM.out.ans.cell 0 rfl
        have b1 := HM.out.ans.cell 1 rfl
        have f0 := HM.out.ans.fz 0
        have f1 := HM.out.ans.fz 1
        clear HA2 h6 Uns
        go_wp2_with fail
        refine (Cl.out _).mono ?_
        rintro e w' ⟨rfl, rfl⟩
        go_wp2_with fail
        exact bodyPost_ret (v := .agg #[.int .i64 p, .int .i64 209]) (by simp [results, Try.results13, go_sem, a0, a1]) rfl ⟨p, 209, rfl, H.out, agg_below HM.out.bel⟩
theorem check_any (l : List Ins) (n : Nat) (A : Option Addr) (cp : Nat) (w : World) (hl : l.length = n) (hok : ∀ i ∈ l, i.ok) (hr : Rd w 4 n A (l.flatMap Ins.cells)) (hm : n ≤ maxLen) :
    Calls Try.prog 13 #[.slice A n cp] w (ChkPost l w) := by
  by_cases h0 : n = 0
  · exact check_none n A cp w l hl h0
  · by_cases h1 : n ≤ 4096
    · exact check_some l n A cp w hl hok hr (by omega) h1
    · exact check_many n A cp w l hl (by omega) hm
set_option maxRecDepth 100000 in
theorem loadable_any (l : List Ins) (n : Nat) (A : Option Addr) (cp : Nat) (w : World) (hl : l.length = n) (hok : ∀ i ∈ l, i.ok) (hr : Rd w 4 n A (l.flatMap Ins.cells)) (hm : n ≤ maxLen) :
    Calls Try.prog 44 #[.slice A n cp] w fun e w' => ∃ b : Bool, e = .returned (.bool b) ∧ (b = true ↔ Good l) ∧ Below w.heap.size w w' := by
  have C := Lib.hid (check_any l n A cp w hl hok hr hm)
  clear hl hok hr
  go_enter Try.func44, Try.ntmps44
  go_wp2_with fail
  refine C.out.mono ?_
  rintro e w2 ⟨a, er, rfl, hc, hb⟩
  have Hb := Lib.hid hb
  clear hb
  by_cases h0 : er = 0
  · subst h0
    obtain rfl := hc.zero
    have Hc := Lib.hid hc
    clear hc
    go_wp2_with fail
    go_ret
    exact ⟨true, rfl, ⟨fun _ => Hc.out.good_iff.1 rfl, fun _ => rfl⟩, Hb.out⟩
  · have e1 : ((er : Int) == 0) = false := by simp; omega
    have hcl := hc.lt
    have Hc := Lib.hid (fun h => h0 (hc.good_iff.2 h))
    clear hc h0
    go_wp2_with fail
    all_goals
      go_ret
      exact ⟨false, rfl, ⟨(fun h => absurd h (by decide)), (fun h => absurd h Hc.out)⟩, Hb.out⟩
end Go.Proofs.Ytnkffjdoillmaaa

