/- The order by which the calls are sorted. -/
import Derived.Test.YtcoejjhfmbpnnaaShelf
import Derived.Test.YtcoejjhfmbpnnaaAllMath
import Derived.OpenShut
namespace Go.Proofs.Ytcoejjhfmbpnnaa
open Go.RowKit Go.Maps Go.Shelf Go.Sort

theorem isnan_any (x : Int) (w : World) : Calls Try.prog 32 #[.int .u32 x] w fun e w' => e = .returned (.bool false) ∧ w = w' := by
  go_enter Try.func32, Try.ntmps32
  go_wp2
  go_ret
  exact ⟨by simp, rfl⟩

theorem compare_any (x y : Int) (w : World) : Calls Try.prog 23 #[.int .u32 x, .int .u32 y] w fun e w' => e = .returned (.int .i64 (if x < y then -1 else if y < x then 1 else 0)) ∧ w = w' := by
  by_cases h1 : x < y
  · rw [if_pos h1]
    go_enter Try.func23, Try.ntmps23
    go_wp2_with (go_at_call 32; refine (isnan_any _ _).mono ?_; rintro e w1 ⟨rfl, rfl⟩)
    go_ret
    exact ⟨rfl, rfl⟩
  · rw [if_neg h1]
    by_cases h2 : y < x
    · rw [if_pos h2]
      go_enter Try.func23, Try.ntmps23
      go_wp2_with (go_at_call 32; refine (isnan_any _ _).mono ?_; rintro e w1 ⟨rfl, rfl⟩)
      go_ret
      exact ⟨rfl, rfl⟩
    · rw [if_neg h2]
      go_enter Try.func23, Try.ntmps23
      go_wp2_with (go_at_call 32; refine (isnan_any _ _).mono ?_; rintro e w1 ⟨rfl, rfl⟩)
      go_ret
      exact ⟨rfl, rfl⟩

theorem closure_any (x y : Row) (W : World) : Calls Try.prog 22 #[.agg #[.int .u32 x.1, .string ⟨x.2.1.toArray⟩, .int .i64 x.2.2], .agg #[.int .u32 y.1, .string ⟨y.2.1.toArray⟩, .int .i64 y.2.2]] W fun e w' => e = .returned (.int .i64 (cmpF x y)) ∧ ∃ q os', w' = grow (W.drewN q) os' := by
  have hcon := fun W' => compare_any x.1 y.1 W'
  unfold cmpF
  generalize (if (x.1 : Int) < y.1 then (-1 : Int) else if (y.1 : Int) < x.1 then 1 else 0) = r at hcon ⊢
  go_enter Try.func22, Try.ntmps22
  go_wp2_with (go_at_call 23; refine (hcon _).mono ?_; rintro e w' ⟨rfl, rfl⟩)
  go_ret
  exact ⟨rfl, 0, _, by rw [alloc_eq_grow, alloc_eq_grow, grow_grow]; rfl⟩

theorem cmpLays (blk off size : Nat) (w : World) : CmpLays Try.prog 22 #[] rowCells 3 cmpF blk off size w :=
  fun _ _ _ _ x y => closure_any x y _

theorem isAggCall : ∀ w, (isAgg 27).run Try.prog w = .ok true w := fun _ => by kernel_rfl
theorem sizeOfCall : ∀ w, (Go.sizeOf 27).run Try.prog w = .ok 3 w := fun _ => by kernel_rfl

/-- The calls gathered, sorted: the rows in their order. -/
theorem sort_any (blk cap : Nat) (l : List Row) (left : Lit → Bool) (hg : Got left l) (hl : ∀ z, left z = false) (w : World) (hH : HoldsK rowCells 3 w blk 0 l.toArray) (hblk : blk < w.heap.size) (hsz : l.length < 4611686018427387904) :
    Calls Try.prog 21 #[.slice (some ⟨blk, 0, none⟩) l.length cap, .func (.func 22) #[] #[]] w fun e w' =>
      e = .returned (.tuple #[]) ∧ l.length = 30 ∧ ∃ n os, w' = sortWorldK rowCells 3 w blk 0 n rows.toArray os := by
  have eg : ∀ args w, (callFunc 22 args).run Try.prog w = .ok (.enter 22 args) w := enters_of Try.func22 (by kernel_rfl) rfl
  have h := AnyQ.slices_SortFunc Try.sortCalls 3 isAggCall sizeOfCall rowCells (fun _ => rfl) (fun x v hv => by simp [rowCells] at hv; rcases hv with rfl | rfl | rfl <;> rfl) cmpF swo_cmpF 22 #[] blk 0 cap l.toArray w eg (cmpLays blk 0 _ w) hH hblk (by simpa using hsz)
  refine Calls.mono h ?_
  rintro e w' ⟨rfl, d', n, os, hp, hs, rfl⟩
  have e := sorted_is_rows l left hg hl d' hp hs
  have hl30 : l.length = 30 := by
    have := hp.1
    rw [e] at this
    simpa [rows_len] using this.symm
  rw [e]
  exact ⟨rfl, hl30, n, os, rfl⟩
end Go.Proofs.Ytcoejjhfmbpnnaa
