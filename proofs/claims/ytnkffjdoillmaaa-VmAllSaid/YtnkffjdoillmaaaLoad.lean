/- Loaded, or not; run; how long; its instructions; its counts. -/
import Derived.Test.YtnkffjdoillmaaaFollow
import Derived.Test.YtnkffjdoillmaaaCount
import Derived.ChangeKeysEq
import Derived.Laws.StructEq
namespace Go.Proofs.Ytnkffjdoillmaaa
open Go.RowKit
/-- A filter anew, from block D on. -/
def LoadPost (l : List Ins) (w : World) (e : Ending) (w' : World) : Prop :=
  ∃ a er : Nat, Chk l a er ∧ Below w.heap.size w w' ∧
    ((Good l ∧ a = 0 ∧ er = 0 ∧ ∃ p b o c, w.heap.size ≤ p ∧ w.heap.size ≤ b ∧ e = .returned (.tuple #[.pointer (some ⟨p, 0, none⟩), .agg #[.int .i64 0, .int .i64 0]]) ∧ Fil w' w'.heap.size p b o c l 0 0) ∨
     (¬ Good l ∧ er ≠ 0 ∧ e = .returned (.tuple #[.pointer none, .agg #[.int .i64 a, .int .i64 er]])))
theorem load_yes {l : List Ins} {w w2 : World} {b o cp' : Nat} (hc : Chk l 0 0) (hg : Good l) (hb2 : Below w.heap.size w w2) (h1 : b < w2.heap.size) (h2 : w.heap.size ≤ b) (h3 : ∀ j u, (l.flatMap Ins.cells)[j]? = some u → w2.cell? ⟨b, o + j, none⟩ = some u) (h4 : w.heap.size + 2 ≤ b) :
    LoadPost l w (.returned (.tuple #[.pointer (some ⟨w2.heap.size, 0, none⟩), .agg #[.int .i64 0, .int .i64 0]])) (((w2.setCell ⟨w.heap.size, 0, none⟩ (.int .i64 0)).setCell ⟨w.heap.size, 1, none⟩ (.int .i64 0)).alloc (.cells #[.slice (some ⟨b, o, none⟩) l.length cp', .int .i64 0, .int .i64 0] 96)) := by
  have HE := agg_below (v0 := .int .i64 0) (v1 := .int .i64 0) hb2
  have es : ((w2.setCell ⟨w.heap.size, 0, none⟩ (.int .i64 0)).setCell ⟨w.heap.size, 1, none⟩ (.int .i64 0)).heap.size = w2.heap.size := by simp [World.setCell]
  have HP := Bk.new (l := [.slice (some ⟨b, o, none⟩) l.length cp', .int .i64 0, .int .i64 0]) ((w2.setCell ⟨w.heap.size, 0, none⟩ (.int .i64 0)).setCell ⟨w.heap.size, 1, none⟩ (.int .i64 0)) 96 _ rfl
  rw [es] at HP
  have hsz := hb2.size
  refine ⟨0, 0, hc, HE.alloc (by rw [es]; exact hsz) _, .inl ⟨hg, rfl, rfl, _, b, o, cp', hsz, h2, rfl, ?_⟩⟩
  refine ⟨HP.lt, Nat.lt_trans h1 HP.lt, by omega, Nat.le_refl _, HP, fun j u hu => ?_⟩
  rw [← h3 j u hu]
  have hbel := (Below.refl w2.heap.size ((w2.setCell ⟨w.heap.size, 0, none⟩ (.int .i64 0)).setCell ⟨w.heap.size, 1, none⟩ (.int .i64 0))).alloc (by rw [es]; exact Nat.le_refl _) (.cells #[.slice (some ⟨b, o, none⟩) l.length cp', .int .i64 0, .int .i64 0] 96)
  rw [hbel.cell (p := ⟨b, o + j, none⟩) h1]
  have hg2 := only_trans (only_set w2 w.heap.size 0 (.int .i64 0)) (only_set _ w.heap.size 1 (.int .i64 0))
  unfold World.cell?
  rw [hg2.block b h1 (fun e => by cases e; omega)]
set_option maxRecDepth 100000 in
set_option maxHeartbeats 1000000 in
theorem load_any (l : List Ins) (n : Nat) (A : Option Addr) (cp : Nat) (w : World) (hl : l.length = n) (hok : ∀ i ∈ l, i.ok) (hr : Rd w 4 n A (l.flatMap Ins.cells)) (hm : n ≤ maxLen) :
    Calls Try.prog 12 #[.slice A n cp] w (LoadPost l w) := by
  have Ck := Lib.hid (fun w' h => check_any l n A cp w' hl hok (hr.below h) hm)
  have Cl := Lib.hid (fun w' h hn => clone_any l n A cp w' hl (hr.below h) hn)
  have Hl := Lib.hid hl
  clear hl hok hr hm
  have es : (w.alloc (.cells #[.int .i64 0, .int .i64 0] 31)).heap.size = w.heap.size + 1 := by simp
  have HB0 := Lib.hid (one_below w (.cells #[.int .i64 0, .int .i64 0] 31))
  have HA0 := Lib.hid (Bk.new (l := [.int .i64 0, .int .i64 0]) w 31 _ rfl)
  clear es
  go_enter Try.func12, Try.ntmps12
  go_wp2_with fail
  refine (Ck.out _ HB0.out).mono ?_
  rintro e w1 ⟨a, er, rfl, hc, hb1⟩
  have HA1 := Lib.hid (HA0.out.kept hb1)
  have HB1 := Lib.hid (HB0.out.trans (hb1.mono HB0.out.size))
  have hlt : w.heap.size < w1.heap.size := HA1.out.lt
  have HC := Lib.hid hc
  clear hc hb1
  by_cases h0 : er = 0
  · subst h0
    obtain rfl : a = 0 := Chk.zero HC.out
    have g := (HC.out.good_iff).1 rfl
    have Hg := Lib.hid g
    clear g
    have hn : n ≤ 65536 := by have := Hg.out.many; have := Hl.out; omega
    go_wp2_with fail
    refine (Cl.out _ (HB1.out.alloc HB1.out.size _) hn).mono ?_
    rintro e w2 ⟨A', cp', rfl, hs2, hb2⟩
    obtain ⟨b, o, rfl, hb, hbl, hcs⟩ := hs2.pos (by have := Hg.out.pos; omega)
    have HB2 := Lib.hid ((HB1.out.alloc HB1.out.size _).trans (hb2.mono (by have := HB1.out.size; simp; omega)))
    have HA2 := Lib.hid ((HA1.out.alloc (.cells #[.int .i64 0, .int .i64 0] 31)).kept hb2)
    have HS := Lib.hid (show b < w2.heap.size ∧ w.heap.size ≤ b ∧ (∀ j u, (l.flatMap Ins.cells)[j]? = some u → w2.cell? ⟨b, o + j, none⟩ = some u) ∧ w.heap.size + 2 ≤ b from ⟨hbl, by have := HB1.out.size; simp at hb; omega, hcs, by simp at hb; omega⟩)
    have c0 := HA2.out.cell 0 rfl
    have c1 := HA2.out.cell 1 rfl
    have f0 := HA2.out.fz 0
    have f1 := HA2.out.fz 1
    have hlt2 := HA2.out.lt
    have HP := Lib.hid (Bk.new (l := [.slice (some ⟨b, o, none⟩) l.length cp', .int .i64 0, .int .i64 0]) ((w2.setCell ⟨w.heap.size, 0, none⟩ (.int .i64 0)).setCell ⟨w.heap.size, 1, none⟩ (.int .i64 0)) 96 _ rfl)
    have HE := Lib.hid (agg_below (v0 := .int .i64 0) (v1 := .int .i64 0) HB2.out)
    have HA3 := Lib.hid (((HA2.out.set 0 (.int .i64 0)).set 1 (.int .i64 0)).alloc (.cells #[.slice (some ⟨b, o, none⟩) l.length cp', .int .i64 0, .int .i64 0] 96))
    clear hs2 hb hbl hcs hb2 hlt hn
    go_wp2_with fail
    have r0 := HA3.out.cell 0 rfl
    have r1 := HA3.out.cell 1 rfl
    refine bodyPost_ret (v := .tuple #[.pointer (some ⟨w2.heap.size, 0, none⟩), .agg #[.int .i64 0, .int .i64 0]]) (by simp [results, Try.results12, go_sem, r0, r1]) rfl ?_
    exact load_yes HC.out Hg.out HB2.out HS.out.1 HS.out.2.1 HS.out.2.2.1 HS.out.2.2.2
  · have e1 : ((er : Int) == 0) = false := by simp; omega
    have e2 : ((er : Int) != 0) = true := by simp; omega
    have Hng := Lib.hid (fun g => h0 (HC.out.good_iff.2 g))
    have H0 := Lib.hid h0
    clear h0
    have HB2 := Lib.hid (HB1.out.alloc HB1.out.size (.cells #[.int .i64 a, .int .i64 er] 31))
    have c0 := HA1.out.cell 0 rfl
    have c1 := HA1.out.cell 1 rfl
    have f0 := HA1.out.fz 0
    have f1 := HA1.out.fz 1
    have HA3 := Lib.hid (((HA1.out.set 0 (.int .i64 a)).set 1 (.int .i64 er)).alloc (.cells #[.int .i64 a, .int .i64 er] 31))
    go_wp2_with fail
    all_goals
      go_region
      all_goals
        go_wp2_with fail
        have r0 := HA3.out.cell 0 rfl
        have r1 := HA3.out.cell 1 rfl
        refine bodyPost_ret (v := .tuple #[.pointer none, .agg #[.int .i64 a, .int .i64 er]]) (by simp [results, Try.results12, go_sem, r0, r1]) rfl ?_
        refine ⟨a, er, HC.out, ?_, .inr ⟨Hng.out, H0.out, rfl⟩⟩
        exact (((agg_below (v0 := .int .i64 a) (v1 := .int .i64 er) HB1.out).alloc (by have := HB1.out.size; simpa [World.setCell] using this) _)).drew
set_option maxRecDepth 100000 in
theorem run_any (bs : List Nat) (l : List Ins) (B p b o c rn st : Nat) (w : World) (hF : Fil w B p b o c l rn st) (g : Good l) (hok : ∀ i ∈ l, i.ok) (hb : Rec.IsRec bs) (h1 : Small40 rn) (h2 : Small40 st) :
    Calls Try.prog 14 #[.pointer (some ⟨p, 0, none⟩), .agg (Rec.recL bs).toArray] w (RunTo bs l B p b o c rn st w) := by
  have Fo := Lib.hid (fun w' h => follow_run bs l B p b o c rn st w' h g hok hb h1 h2)
  have HF := Lib.hid hF
  have HR := Lib.hid (recL_len bs)
  obtain ⟨x, hx⟩ : ∃ x, x = runN (recW bs) l := ⟨_, rfl⟩
  unfold RunTo at Fo ⊢
  rw [← hx] at Fo ⊢
  obtain ⟨R, hR⟩ : ∃ R, R = Rec.recL bs := ⟨_, rfl⟩
  rw [← hR] at Fo HR ⊢
  have Hbx := Lib.hid (Bk.new w 39 R.toArray rfl)
  clear hF g hok hb h1 h2 hx hR
  go_enter Try.func14, Try.ntmps14
  go_wp2_with (refine Rec.ld_any Hbx.out rfl _ rfl rfl Try.underlying39 Rec.size9 HR.out ?_)
  refine (Fo.out _ (HF.out.below ((Below.refl B w).alloc HF.out.le _))).mono ?_
  rintro e1 w1 ⟨rfl, h4, h5⟩
  have H4 := Lib.hid h4
  have H5 := Lib.hid (only_trans (only_of (one_below w _) p) h5)
  clear h4 h5
  go_wp2_with fail
  go_ret2
  exact ⟨rfl, H4.out, H5.out⟩
set_option maxRecDepth 100000 in
theorem run_nil (bs : List Nat) (w : World) : Calls Try.prog 14 #[.pointer none, .agg (Rec.recL bs).toArray] w fun e w' => e = .returned (.tuple #[.int .u32 2147483648, .int .i64 0]) ∧ Below w.heap.size w w' := by
  have HR := Lib.hid (recL_len bs)
  obtain ⟨R, hR⟩ : ∃ R, R = Rec.recL bs := ⟨_, rfl⟩
  rw [← hR] at HR ⊢
  have Fo : Hid (∀ w : World, Calls Try.prog 38 #[.pointer none, .agg R.toArray, .func (.func 39) #[] #[]] w fun e w' => e = .returned (.tuple #[.int .u32 2147483648, .int .i64 0]) ∧ Below w.heap.size w w') := Lib.hid (fun w => by
    clear HR hR
    go_enter Try.func38, Try.ntmps38
    go_wp2_with fail
    go_ret2
    exact ⟨rfl, one_below _ _⟩)
  have Hbx := Lib.hid (Bk.new w 39 R.toArray rfl)
  clear hR
  go_enter Try.func14, Try.ntmps14
  go_wp2_with (refine Rec.ld_any Hbx.out rfl _ rfl rfl Try.underlying39 Rec.size9 HR.out ?_)
  refine (Fo.out _).mono ?_
  rintro e1 w1 ⟨rfl, h5⟩
  have H5 := Lib.hid ((one_below w _).trans (h5.mono (by simp)))
  clear h5
  go_wp2_with fail
  go_ret2
  exact ⟨rfl, H5.out⟩
set_option maxRecDepth 100000 in
theorem len_any (w : World) (B p b o c : Nat) (l : List Ins) (rn st : Nat) (h : Fil w B p b o c l rn st) : Calls Try.prog 20 #[.pointer (some ⟨p, 0, none⟩)] w fun e w' => e = .returned (.int .i64 l.length) ∧ w = w' := by
  have c0 := h.bk.cell 0 rfl
  clear h
  go_enter Try.func20, Try.ntmps20
  go_wp2_with fail
  go_ret
  exact ⟨rfl, rfl⟩
theorem len_nil (w : World) : Calls Try.prog 20 #[.pointer none] w fun e w' => e = .returned (.int .i64 0) ∧ w = w' := by
  go_enter Try.func20, Try.ntmps20
  go_wp2_with fail
  go_ret
  exact ⟨rfl, rfl⟩
theorem Fil.rd {w : World} {B p b o c : Nat} {l : List Ins} {rn st : Nat} (h : Fil w B p b o c l rn st) : Rd w 4 l.length (some ⟨b, o, none⟩) (l.flatMap Ins.cells) :=
  ⟨cells_len l, .inr ⟨b, o, rfl, Nat.lt_of_lt_of_le h.lb h.le, h.cs⟩⟩
set_option maxRecDepth 100000 in
theorem insns_any (w : World) (B p b o c : Nat) (l : List Ins) (rn st : Nat) (h : Fil w B p b o c l rn st) (hn : l.length ≤ 65536) : Calls Try.prog 21 #[.pointer (some ⟨p, 0, none⟩)] w (ClonePost l w) := by
  have c0 := h.bk.cell 0 rfl
  have Cl := Lib.hid (clone_any l l.length (some ⟨b, o, none⟩) c w rfl h.rd hn)
  unfold ClonePost at Cl ⊢
  clear h hn
  go_enter Try.func21, Try.ntmps21
  go_wp2_with fail
  refine Cl.out.mono ?_
  rintro e1 w1 ⟨A', cp', rfl, h4, h5⟩
  have H4 := Lib.hid h4
  have H5 := Lib.hid h5
  clear h4 h5
  go_wp2_with fail
  go_ret
  exact ⟨A', cp', rfl, H4.out, H5.out⟩
theorem insns_nil (w : World) : Calls Try.prog 21 #[.pointer none] w fun e w' => e = .returned (.slice none 0 0) ∧ w = w' := by
  go_enter Try.func21, Try.ntmps21
  go_wp2_with fail
  go_ret
  exact ⟨rfl, rfl⟩
set_option maxRecDepth 100000 in
theorem counts_any (w : World) (B p b o c : Nat) (l : List Ins) (rn st : Nat) (h : Fil w B p b o c l rn st) : Calls Try.prog 19 #[.pointer (some ⟨p, 0, none⟩)] w fun e w' => e = .returned (.tuple #[.int .i64 rn, .int .i64 st]) ∧ w = w' := by
  have L1 := Lib.hid (load_i64 ⟨p, 1, none⟩ rn w (h.bk.cell 1 rfl))
  have L2 := Lib.hid (load_i64 ⟨p, 2, none⟩ st w (h.bk.cell 2 rfl))
  clear h
  go_enter Try.func19, Try.ntmps19
  go_wp2_with fail
  refine L1.out.mono ?_
  rintro e1 w1 ⟨rfl, rfl⟩
  go_wp2_with fail
  refine L2.out.mono ?_
  rintro e1 w1 ⟨rfl, rfl⟩
  go_wp2_with fail
  go_ret2
  exact ⟨rfl, rfl⟩
theorem counts_nil (w : World) : Calls Try.prog 19 #[.pointer none] w fun e w' => e = .returned (.tuple #[.int .i64 0, .int .i64 0]) ∧ w = w' := by
  go_enter Try.func19, Try.ntmps19
  go_wp2_with fail
  go_ret2
  exact ⟨rfl, rfl⟩
end Go.Proofs.Ytnkffjdoillmaaa
