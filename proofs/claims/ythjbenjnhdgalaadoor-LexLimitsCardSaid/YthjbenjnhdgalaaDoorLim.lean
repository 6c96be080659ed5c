/- Long paths, long texts; names' parts; bytes of paths. -/
import Derived.Test.YthjbenjnhdgalaaDoorLimM
import Derived.Test.YthjbenjnhdgalaaDoorBlank
namespace Go.Proofs.YthjbenjnhdgalaaDoor
open Go.RowKit
set_option maxHeartbeats 1000000 in
theorem refWord_a (w : World) : Calls Tryd.prog 14 #[.string ⟨#[97]⟩] w (Says true w) := by
  go_enter Tryd.func14, Tryd.ntmps14
  go_wp2
  go_loop [3] (fun i => ∃ k : Nat, k ≤ 1 ∧ i = .int .i64 k) (fun i => 1 - (intOf i).toNat)
  case atStart => exact ⟨0, by omega, rfl⟩
  case round =>
    obtain ⟨k, hk, rfl⟩ := hrel
    by_cases h0 : k = 0
    · subst h0
      go_wp2_with fail
      go_round
      case rel => exact ⟨1, by omega, rfl⟩
      case measure => decide
    · obtain rfl : k = 1 := by omega
      go_wp2_with fail
      go_ret
      exact ⟨rfl, rfl⟩
def TSplitPost (k : Nat) (w : World) (e : Ending) (w' : World) : Prop := ∃ (A : Nat), e = .returned (.slice (some ⟨A, 0, none⟩) k k) ∧ Below w.heap.size w w'
theorem tsplit_any (l : List Nat) (hl : l.length ≤ 20) (k n ln col : Nat) (w : World) (hE : Env w) :
    Calls Tryd.prog 12 #[.agg #[.int .u8 k, .string ⟨(nmB l).toArray⟩, .int .u64 n, .int .i64 ln, .int .i64 col]] w (TSplitPost (evs l + 1) w) := by
  have hb := (Below.refl w.heap.size w).alloc (Nat.le_refl _) (.cells #[.int .u8 k, .string ⟨(nmB l).toArray⟩, .int .u64 n, .int .i64 ln, .int .i64 col] 35)
  have HB := Lib.hid hb
  obtain ⟨m, hm⟩ := (hE.below hb).ml
  have h0 := nmB_len l
  have hc := Tryd.strings_Split ⟨(nmB l).toArray⟩ ⟨#[44]⟩ m _ (by rw [Lib.size_eq]; show (nmB l).length < _; omega) hm (by decide)
  have hk : Lib.countB ⟨(nmB l).toArray⟩ ⟨#[44]⟩ = evs l := name_count l
  rw [hk] at hc
  have HC := Lib.hid hc
  clear hb hm h0 hc hk
  generalize nmB l = T at *
  go_enter Tryd.func12, Tryd.ntmps12
  go_wp2_with fail
  refine HC.out.mono ?_
  rintro e w1 ⟨rfl, hw1⟩
  have HB1 := Lib.hid (show Below w.heap.size w w1 by rw [hw1]; exact HB.out.alloc HB.out.size _)
  clear hw1
  go_wp2_with fail
  go_ret
  exact ⟨_, rfl, HB1.out⟩
end Go.Proofs.YthjbenjnhdgalaaDoor
