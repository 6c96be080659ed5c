/- A filter in memory; what it counts. -/
import Derived.Test.YtnkffjdoillmaaaStep
import Derived.Laws.LoneSync
namespace Go.Proofs.Ytnkffjdoillmaaa
open Go.RowKit
/-- A filter in block p: its instructions, how often it ran, how many steps that took. -/
structure Fil (w : World) (B p b o c : Nat) (l : List Ins) (rn st : Nat) : Prop where
  lp : p < B
  lb : b < B
  ne : b ≠ p
  le : B ≤ w.heap.size
  bk : Bk w p 96 [.slice (some ⟨b, o, none⟩) l.length c, .int .i64 rn, .int .i64 st]
  cs : ∀ j u, (l.flatMap Ins.cells)[j]? = some u → w.cell? ⟨b, o + j, none⟩ = some u
section
variable {w w' : World} {B B' p b o c : Nat} {l : List Ins} {rn st : Nat}
theorem Fil.below (h : Fil w B p b o c l rn st) (hb : Below B w w') : Fil w' B p b o c l rn st :=
  ⟨h.lp, h.lb, h.ne, Nat.le_trans h.le hb.size, (hb.block p h.lp).trans h.bk, fun j u hu => by
    rw [hb.cell (p := ⟨b, o + j, none⟩) h.lb]; exact h.cs j u hu⟩
theorem Fil.more (h : Fil w B p b o c l rn st) (h1 : B ≤ B') (h2 : B' ≤ w.heap.size) : Fil w B' p b o c l rn st :=
  ⟨Nat.lt_of_lt_of_le h.lp h1, Nat.lt_of_lt_of_le h.lb h1, h.ne, h2, h.bk, h.cs⟩
theorem Fil.less (h : Fil w B' p b o c l rn st) (h1 : p < B) (h2 : b < B) (h3 : B ≤ w.heap.size) : Fil w B p b o c l rn st := ⟨h1, h2, h.ne, h3, h.bk, h.cs⟩
theorem Fil.other {q : Nat} (h : Fil w B p b o c l rn st) (hg : w.grownBy w' (some q)) (h1 : p ≠ q) (h2 : b ≠ q) : Fil w' B p b o c l rn st := by
  have hp := Nat.lt_of_lt_of_le h.lp h.le
  have hb := Nat.lt_of_lt_of_le h.lb h.le
  refine ⟨h.lp, h.lb, h.ne, Nat.le_trans h.le hg.size, (hg.block p hp (fun e => h1 (by cases e; rfl))).trans h.bk, fun j u hu => ?_⟩
  rw [← h.cs j u hu]
  unfold World.cell?
  rw [hg.block b hb (fun e => h2 (by cases e; rfl))]
theorem Fil.told (h : Fil w B p b o c l rn st) (rn' st' : Nat) : Fil ((w.setCell ⟨p, 2, none⟩ (.int .i64 st')).setCell ⟨p, 1, none⟩ (.int .i64 rn')) B p b o c l rn' st' := by
  have hg := only_trans (only_set w p 2 (.int .i64 st')) (only_set _ p 1 (.int .i64 rn'))
  have hb := Nat.lt_of_lt_of_le h.lb h.le
  refine ⟨h.lp, h.lb, h.ne, Nat.le_trans h.le hg.size, (h.bk.set 2 _).set 1 _, fun j u hu => ?_⟩
  rw [← h.cs j u hu]
  unfold World.cell?
  rw [hg.block b hb (fun e => h.ne (by cases e; rfl))]
end
theorem add_i64 (a : Addr) (n y s : Int) (w : World) (hc : w.cell? a = some (.int .i64 n)) (hz : w.frozen? a = false) (hs : IntKind.i64.wrap (n + y) = s) :
    Calls Try.prog 80 #[.pointer (some a), .int .i64 y] w fun e w' => e = .returned (.int .i64 s) ∧ w' = w.setCell a (.int .i64 s) := by
  have hadd := run_call_add (P := Try.prog) Try.func88 (by kernel_rfl) (by kernel_rfl) (by kernel_rfl) .i64 (by kernel_rfl) (y := y) (s := s) hc hz (by simp [go_sem, hs])
  clear hs
  go_enter Try.func80, Try.ntmps80
  go_wp2
  go_ret
  exact ⟨rfl, rfl⟩
theorem load_i64 (a : Addr) (n : Int) (w : World) (hc : w.cell? a = some (.int .i64 n)) :
    Calls Try.prog 47 #[.pointer (some a)] w fun e w' => e = .returned (.int .i64 n) ∧ w = w' := by
  have hl := run_call_load (P := Try.prog) Try.func67 (by kernel_rfl) (by kernel_rfl) (by kernel_rfl) .i64 (by kernel_rfl) hc
  go_enter Try.func47, Try.ntmps47
  go_wp2
  go_ret
  exact ⟨rfl, rfl⟩
/-- More than any run counts here. -/
def Small40 (n : Nat) : Prop := n < 1099511627776
set_option maxRecDepth 100000 in
theorem count_any (w : World) (B p b o c : Nat) (l : List Ins) (rn st n : Nat) (h : Fil w B p b o c l rn st) (h1 : Small40 rn) (h2 : Small40 st) (h3 : n ≤ 5000) :
    Calls Try.prog 64 #[.pointer (some ⟨p, 0, none⟩), .int .i64 n] w fun e w' => e = .returned (.tuple #[]) ∧ (Fil w' B p b o c l (rn + 1) (st + n) ∧ w.grownBy w' (some p)) := by
  unfold Small40 at h1 h2
  obtain ⟨r1, hr1, hr2⟩ : ∃ r1 : Nat, IntKind.i64.wrap ((rn : Int) + 1) = (r1 : Int) ∧ r1 = rn + 1 := ⟨rn + 1, by rw [IntWalk.i64_in _ (by omega)]; omega, rfl⟩
  obtain ⟨s1, hs1, hs2⟩ : ∃ s1 : Nat, IntKind.i64.wrap ((st : Int) + n) = (s1 : Int) ∧ s1 = st + n := ⟨st + n, by rw [IntWalk.i64_in _ (by omega)]; omega, rfl⟩
  rw [← hr2, ← hs2]
  have HF := Lib.hid (h.told r1 s1)
  have HG := Lib.hid (only_trans (only_set w p 2 (.int .i64 s1)) (only_set _ p 1 (.int .i64 r1)))
  have A2 := Lib.hid (add_i64 ⟨p, 2, none⟩ st n s1 w (h.bk.cell 2 rfl) (h.bk.fz 2) hs1)
  have A1 := Lib.hid (add_i64 ⟨p, 1, none⟩ rn 1 r1 (w.setCell ⟨p, 2, none⟩ (.int .i64 s1)) ((h.bk.set 2 _).cell 1 rfl) ((h.bk.set 2 _).fz 1) hr1)
  clear h h1 h2 h3 hr1 hr2 hs1 hs2
  go_enter Try.func64, Try.ntmps64
  go_wp2_with fail
  refine A2.out.mono ?_
  rintro e1 w1 ⟨rfl, rfl⟩
  go_wp2_with fail
  refine A1.out.mono ?_
  rintro e1 w1 ⟨rfl, rfl⟩
  go_wp2_with fail
  go_end0
  exact ⟨rfl, HF.out, HG.out⟩
end Go.Proofs.Ytnkffjdoillmaaa
