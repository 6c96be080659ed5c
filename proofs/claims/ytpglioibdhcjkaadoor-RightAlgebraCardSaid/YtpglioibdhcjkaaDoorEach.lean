/- Each: the bits one by one; New. -/
import Derived.Test.YtpglioibdhcjkaaDoorText
namespace Go.Proofs.YtpglioibdhcjkaaDoor
open Go.RowKit
set_option maxRecDepth 100000 in
theorem new_any (w : World) : Calls Tryd.prog 9 #[] w fun e w' => e = .returned (.pointer (some ⟨w.heap.size, 0, none⟩)) ∧ Below w.heap.size w w' := by
  go_enter Tryd.func9, Tryd.ntmps9
  go_wp2
  go_ret
  exact ⟨rfl, (Below.refl _ _).alloc (Nat.le_refl _) _⟩
theorem infoSet : (Tryd.prog.info? 26).map (fun i => (i.zero, i.size, i.bytes)) = some (some (.int .u16 0), 1, 2) := by kernel_rfl

/-- The bits below k that a set has. -/
def Eb (n k : Nat) : List Nat := (List.range k).filter n.testBit
theorem Eb_hit (n k : Nat) (h2 : n.testBit k = true) : Eb n (k + 1) = Eb n k ++ [k] := by
  rw [Eb, Eb, List.range_succ, List.filter_append]; simp [h2]
theorem Eb_miss (n k : Nat) (h : n.testBit k = false) : Eb n (k + 1) = Eb n k := by
  rw [Eb, Eb, List.range_succ, List.filter_append]; simp [h]
theorem Eb_le (n k : Nat) : (Eb n k).length ≤ k := by
  have := List.length_filter_le n.testBit (List.range k)
  rw [List.length_range] at this; exact this
theorem cnt_le (n : Nat) : cnt n ≤ 16 := Eb_le n 16

/-- A slice that owns the set's bits, each alone. -/
def EachPost (n : Nat) (w : World) (e : Ending) (w' : World) : Prop :=
  ∃ v, e = .returned v ∧ w'.ownsRow w.heap.size 26 1 v (Eb n 16).length ((Eb n 16).map fun i => Value.int .u16 ((2 ^ i : Nat) : Int)) ∧ Below w.heap.size w w'
set_option maxRecDepth 100000 in
set_option maxHeartbeats 1000000 in
theorem each_any (n : Nat) (w : World) (hn : n < 65536) : Calls Tryd.prog 17 #[.int .u16 n] w (EachPost n w) := by
  obtain ⟨i0, hi, hz0, hz1, hz2⟩ := info_parts infoSet
  have hc := cnt_le n
  go_enter Tryd.func17, Tryd.ntmps17
  go_wp2_with (first | (go_at_call 18; refine (count_any _ _ hn).mono ?_; rintro e w' ⟨rfl, nn, rfl⟩) | (at_make; refine wpList_make_own _ rfl _ _ 42 rfl w.heap.size 26 i0 (.int .u16 0) 1 Tryd.underlying42 hi hz0 hz1 .i64 .i64 _ (cnt n) rfl rfl rfl (by rw [hz2]; omega) (by unfold maxLen; omega) (Nat.le_refl _) ?_; intro w2 hrow2 hg2))
  have Hrow := Lib.hid hrow2
  have Hg := Lib.hid (show Below w.heap.size w w2 from (below_drewN (Below.refl _ _) nn).grown hg2 (Nat.le_refl _) (fun k hk => by cases hk))
  clear hrow2 hg2
  go_loopw [3, 8] (fun v i wr => ∃ k : Nat, k ≤ 16 ∧ i = .int .i64 k ∧ Hid (wr.ownsRow w.heap.size 26 1 v (Eb n k).length ((Eb n k).map fun i => Value.int .u16 ((2 ^ i : Nat) : Int))) ∧ Hid (Below w.heap.size w wr)) (fun _ i _ => 16 - (intOf i).toNat)
  case atStart => exact ⟨0, by omega, rfl, Hrow.out, Hg⟩
  case round =>
    obtain ⟨k, hk, rfl, Hown, Hb⟩ := hrel
    by_cases hlt : k < 16
    · have hpw := pow_lt k hlt
      have hle := Eb_le n k
      have hbw : w.heap.size ≤ wr.heap.size := Hb.out.size
      cases htb : n.testBit k
      · have hhas : hasB n (2 ^ k) = false := by rw [hasB_bit, htb]
        have Hk := Lib.hid (Eb_miss n k htb)
        clear htb
        go_wp2_with (first | (go_at_call 24; refine (bit_any _ _ hlt).mono ?_; rintro e w' ⟨rfl, rfl⟩) | (go_at_call 20; refine (has_any _ _ _ hn hpw).mono ?_; rintro e w' ⟨rfl, rfl⟩))
        go_roundw
        case rel => exact ⟨k + 1, by omega, by go_num, by rw [Hk.out]; exact Hown, Hb⟩
        case measure => simp [intOf]; omega
      · have hhas : hasB n (2 ^ k) = true := by rw [hasB_bit, htb]
        have Hk := Lib.hid (Eb_hit n k htb)
        clear htb
        go_wp2_with (first | (go_at_call 24; refine (bit_any _ _ hlt).mono ?_; rintro e w' ⟨rfl, rfl⟩) | (go_at_call 20; refine (has_any _ _ _ hn hpw).mono ?_; rintro e w' ⟨rfl, rfl⟩) | (at_builtin; refine wpList_append_own _ rfl _ _ 42 rfl w.heap.size 26 i0 (.int .u16 0) 1 2 Tryd.underlying42 hi hz0 hz1 hz2 rfl (by decide) _ _ _ rfl (Hown.out.alloc _) ⟨wr.heap.size, 0, none⟩ 1 1 [Value.int .u16 ((2 ^ k : Nat) : Int)] rfl rfl (by intro j u hj; match j, hj with | 0, hj => (simp at hj; subst hj; simp [Addr.add])) (by intro u hu; simp at hu; subst hu; rfl) (by unfold maxLen; omega) (by omega) (by simp; omega) ?_; intro v' w1 hown' hgrow _))
        have Hown' := Lib.hid hown'
        have Hb' := Lib.hid (show Below w.heap.size w w1 from (Hb.out.alloc hbw _).grown hgrow (by simp; omega) (fun k hk => (Hown.out.lt k hk).1))
        clear hown' hgrow
        go_wp2
        go_roundw
        case rel => exact ⟨k + 1, by omega, by go_num, by rw [Hk.out, List.map_append, List.length_append]; exact Hown', Hb'⟩
        case measure => simp [intOf]; omega
    · obtain rfl : k = 16 := by omega
      go_wp2_with fail
      go_ret
      exact ⟨_, rfl, Hown.out, Hb.out⟩
end Go.Proofs.YtpglioibdhcjkaaDoor
