/- Fields of an instruction: which a line tells, how great each may be, read and set. -/
import Derived.Test.YthiohihbcfahhaaDoorTabM
import Derived.Test.YthiohihbcfahhaaDoorSeg
import Derived.Test.YthiohihbcfahhaaDoorRow
import Derived.WalkKit
import Derived.Below
import Derived.Lib.Hide
namespace Go.Proofs.YthiohihbcfahhaaDoor
open Go.RowKit
theorem most_any (f : Nat) (w : World) (hf : f < 4) : Calls Tryd.prog 48 #[.int .u8 f] w fun e w' => e = .returned (.int .u64 (most f : Nat)) ∧ w = w' := by
  rcases (by omega : f = 0 ∨ f = 1 ∨ f = 2 ∨ f = 3) with rfl | rfl | rfl | rfl
  all_goals
    go_enter Tryd.func48, Tryd.ntmps48
    go_wp2
    go_ret
    exact ⟨rfl, rfl⟩
def insV (i : Ins) : Value := .agg #[.int .u16 i.c, .int .u8 i.t, .int .u8 i.f, .int .u32 i.k]
theorem sizeIns4 : (Tryd.prog.info? 38).map (·.size) = some 4 := by kernel_rfl
theorem of_any (f : Nat) (i : Ins) (w : World) (hf : f < 4) (hi : i.ok) : Calls Tryd.prog 41 #[.int .u8 f, .agg #[.int .u16 i.c, .int .u8 i.t, .int .u8 i.f, .int .u32 i.k]] w fun e w' => e = .returned (.int .u64 (getF f i : Nat)) ∧ Below w.heap.size w w' := by
  obtain ⟨c, t, f', k⟩ := i
  obtain ⟨h1, h2, h3, h4⟩ := hi
  simp only at h1 h2 h3 h4
  rcases (by omega : f = 0 ∨ f = 1 ∨ f = 2 ∨ f = 3) with rfl | rfl | rfl | rfl
  all_goals
    go_enter Tryd.func41, Tryd.ntmps41
    go_wp2
    go_ret
    exact ⟨rfl, (Below.refl _ _).alloc (Nat.le_refl _) _⟩
theorem set_any (f : Nat) (i : Ins) (n : Nat) (w : World) (hf : f < 4) (hi : i.ok) (hn : n ≤ most f) : Calls Tryd.prog 49 #[.int .u8 f, .agg #[.int .u16 i.c, .int .u8 i.t, .int .u8 i.f, .int .u32 i.k], .int .u64 n] w fun e w' => e = .returned (.agg #[.int .u16 (setF f i n).c, .int .u8 (setF f i n).t, .int .u8 (setF f i n).f, .int .u32 (setF f i n).k]) ∧ Below w.heap.size w w' := by
  obtain ⟨c, t, f', k⟩ := i
  obtain ⟨h1, h2, h3, h4⟩ := hi
  simp only at h1 h2 h3 h4
  rcases (by omega : f = 0 ∨ f = 1 ∨ f = 2 ∨ f = 3) with rfl | rfl | rfl | rfl
  · replace hn : n ≤ 65535 := hn
    go_enter Tryd.func49, Tryd.ntmps49
    go_wp2
    exact bodyPost_ret (v := .agg #[.int .u16 n, .int .u8 t, .int .u8 f', .int .u32 k]) (by simp [results, Tryd.results49, go_sem]) rfl ⟨rfl, two_below w _ _⟩
  · replace hn : n ≤ 255 := hn
    go_enter Tryd.func49, Tryd.ntmps49
    go_wp2
    exact bodyPost_ret (v := .agg #[.int .u16 c, .int .u8 n, .int .u8 f', .int .u32 k]) (by simp [results, Tryd.results49, go_sem]) rfl ⟨rfl, two_below w _ _⟩
  · replace hn : n ≤ 255 := hn
    go_enter Tryd.func49, Tryd.ntmps49
    go_wp2
    exact bodyPost_ret (v := .agg #[.int .u16 c, .int .u8 t, .int .u8 n, .int .u32 k]) (by simp [results, Tryd.results49, go_sem]) rfl ⟨rfl, two_below w _ _⟩
  · replace hn : n ≤ 4294967295 := hn
    go_enter Tryd.func49, Tryd.ntmps49
    go_wp2
    exact bodyPost_ret (v := .agg #[.int .u16 c, .int .u8 t, .int .u8 f', .int .u32 n]) (by simp [results, Tryd.results49, go_sem]) rfl ⟨rfl, two_below w _ _⟩
/-- A shape's fields, as a slice. -/
def FldsPost (s : Nat) (w : World) (e : Ending) (w' : World) : Prop :=
  ∃ (A : Option Addr) (cp : Nat), e = .returned (.slice A (flds s).length cp) ∧ (flds s).length ≤ cp ∧ Seg w' w.heap.size 1 (flds s).length A (u8s (flds s)) ∧ Below w.heap.size w w'
theorem fields_any (s : Nat) (w : World) (hs : s < 5) : Calls Tryd.prog 40 #[.int .u8 s] w (FldsPost s w) := by
  rcases (by omega : s = 0 ∨ s = 1 ∨ s = 2 ∨ s = 3 ∨ s = 4) with rfl | rfl | rfl | rfl | rfl
  · go_enter Tryd.func40, Tryd.ntmps40
    go_wp2
    go_ret
    exact ⟨none, 0, rfl, Nat.le_refl _, Seg.nil _ _ _ _, Below.refl _ _⟩
  all_goals
    go_enter Tryd.func40, Tryd.ntmps40
    go_wp2
    go_ret
    refine ⟨_, _, rfl, ?_, (Bk.new _ _ _ ?_).seg rfl (Nat.le_refl _), (Below.refl _ _).alloc (Nat.le_refl _) _⟩
  all_goals first | exact Nat.le_refl _ | rfl
end Go.Proofs.YthiohihbcfahhaaDoor
