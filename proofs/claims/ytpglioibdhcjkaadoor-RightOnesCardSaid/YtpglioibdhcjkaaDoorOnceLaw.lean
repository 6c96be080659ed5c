/- Once: asked again and again; a nil one. -/
import Derived.Test.YtpglioibdhcjkaaDoorLaws1
namespace Go.Proofs.YtpglioibdhcjkaaDoor
open Go.RowKit

set_option maxRecDepth 100000 in
set_option maxHeartbeats 400000 in
theorem once_nat (m : Nat) (s : ByteArray) (w : World) (hm : m < 256) (hs : s.size ≤ maxLen) (h : NamesAt w) :
    Calls Tryd.prog 6 #[.int .u8 m, .string s] w fun e w' => e = .returned (.bool true) ∧ Below w.heap.size w w' := by
  have H := Lib.hid h
  clear h
  go_enter Tryd.func6, Tryd.ntmps6
  go_wp2_with fail
  refine (awake_any _ H.out).mono ?_
  rintro e w1 ⟨rfl, hb1⟩
  have Hb1 := Lib.hid hb1
  have HN1 := Lib.hid (H.out.below hb1)
  clear hb1
  go_wp2_with fail
  refine (new_any _).mono ?_
  rintro e w2 ⟨rfl, hb2⟩
  have Hb2 := Lib.hid (Hb1.out.trans (hb2.mono Hb1.out.size))
  have HN2 := Lib.hid (HN1.out.below hb2)
  clear hb2
  have hone := Lib.hid (one_some ⟨#[114, 101, 102, 101, 114]⟩ w2 HN2.out ⟨w1.heap.size, 0, none⟩ 9 (by decide))
  go_wp2_with fail
  go_loop [19] (fun iv => ∃ k : Nat, k ≤ m % 5 ∧ iv = .int .i64 k) (fun iv => m % 5 - (intOf iv).toNat)
  case atStart => exact ⟨0, by omega, rfl⟩
  case round =>
    obtain ⟨k, hk, rfl⟩ := hrel
    by_cases hlt : k < m % 5
    · have hlt' : (k : Int) < (m : Int) % 5 := by omega
      go_wp2_with (go_at_call 14; refine hone.out.mono ?_; rintro e w' ⟨rfl, rfl⟩)
      go_round
      case rel => exact ⟨k + 1, by omega, by go_num⟩
      case measure => simp [intOf]; omega
    · have hlt' : ¬ (k : Int) < (m : Int) % 5 := by omega
      go_wp2_with (first | (go_at_call 14; refine (one_nil _ _).mono ?_; rintro e w' ⟨rfl, rfl⟩) | (go_at_call 10; refine (parse_nil _ _).mono ?_; rintro e w' ⟨rfl, rfl⟩))
      go_ret
      exact ⟨rfl, Hb2.out⟩
end Go.Proofs.YtpglioibdhcjkaaDoor
