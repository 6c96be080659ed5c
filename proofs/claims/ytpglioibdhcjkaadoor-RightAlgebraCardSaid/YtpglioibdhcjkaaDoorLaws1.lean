/- The fixed fact; texts, fits, once. -/
import Derived.Test.YtpglioibdhcjkaaDoorRefParse
namespace Go.Proofs.YtpglioibdhcjkaaDoor
open Go.RowKit

theorem pars_awake : pars 0 (words [119, 114, 105, 116, 101, 44, 114, 101, 97, 100]) = (6, 0) := by decide
theorem text_awake : textL 6 = [119, 114, 105, 116, 101, 44, 114, 101, 97, 100] := by decide

set_option maxRecDepth 100000 in
set_option maxHeartbeats 1000000 in
theorem awake_any (w : World) (h : NamesAt w) : Calls Tryd.prog 8 #[] w fun e w' => e = .returned (.bool true) ∧ Below w.heap.size w w' := by
  have H := Lib.hid h
  clear h
  go_enter Tryd.func8, Tryd.ntmps8
  go_wp2_with fail
  refine (new_any _).mono ?_
  rintro e w1 ⟨rfl, hb1⟩
  have Hb1 := Lib.hid hb1
  have HN1 := Lib.hid (H.out.below hb1)
  clear hb1
  have hp := parse_any ⟨#[119, 114, 105, 116, 101, 44, 114, 101, 97, 100]⟩ w1 (by decide) HN1.out ⟨w.heap.size, 0, none⟩
  rw [show pars 0 (words (ByteArray.mk #[119, 114, 105, 116, 101, 44, 114, 101, 97, 100]).data.toList) = (6, 0) from pars_awake] at hp
  go_wp2_with fail
  refine hp.mono ?_
  clear hp
  rintro e w2 ⟨rfl, n, rfl⟩
  have ht := text_any 6 (w1.drewN n) (by omega) (HN1.out.drewN n)
  rw [text_awake] at ht
  go_wp2_with fail
  refine ht.mono ?_
  clear ht
  rintro e w3 ⟨rfl, hb3⟩
  have Hb3 := Lib.hid (hb3.mono Hb1.out.size)
  clear hb3
  go_wp2_with fail
  go_ret
  exact ⟨rfl, (below_drewN Hb1.out n).trans Hb3.out⟩

set_option maxRecDepth 100000 in
set_option maxHeartbeats 1000000 in
theorem texts_nat (s : ByteArray) (n : Nat) (w : World) (hs : s.size ≤ maxLen) (hn : n < 65536) (h : NamesAt w) :
    Calls Tryd.prog 3 #[.string s, .int .u16 n] w fun e w' => e = .returned (.bool true) ∧ Below w.heap.size w w' := by
  have H := Lib.hid h
  clear h
  unfold maxLen at hs
  by_cases hlen : s.size ≤ 200
  · have hl : ¬ (200 : Int) < (s.size : Int) := by omega
    go_enter Tryd.func3, Tryd.ntmps3
    go_wp2_with fail
    refine (awake_any _ H.out).mono ?_
    rintro e w1 ⟨rfl, hb1⟩
    have Hb1 := Lib.hid hb1
    have HN1 := Lib.hid (H.out.below hb1)
    clear hb1
    go_wp2_with fail
    refine (new_any _).mono ?_
    rintro e w2 ⟨rfl, hb2⟩
    have Hb2 := Lib.hid (Hb1.out.trans (hb2.mono Hb1.out.size))
    have HN2 := Lib.hid (HN1.out.below hb2)
    clear hb2
    have hlt := pars_lt (words s.data.toList) 0 (by omega)
    have hp := parse_any s w2 (by unfold maxLen; omega) HN2.out ⟨w1.heap.size, 0, none⟩
    have hr := fun w => refParse_any s w hlen
    obtain ⟨R, hR⟩ : ∃ R, R = pars 0 (words s.data.toList) := ⟨_, rfl⟩
    rw [← hR] at hp hlt
    have hr2 : ∀ w : World, Calls Tryd.prog 11 #[.string s] w fun e w' => e = .returned (.tuple #[.int .i64 (R.1 : Nat), .int .i64 (R.2 : Nat)]) ∧ Below w.heap.size w w' := by rw [hR]; exact hr
    clear hr hR
    have Hr2 := Lib.hid hr2
    clear hr2
    go_wp2_with fail
    refine hp.mono ?_
    clear hp
    rintro e w3 ⟨rfl, n3, rfl⟩
    have Hb3 := Lib.hid (below_drewN Hb2.out n3)
    have HN3 := Lib.hid (HN2.out.drewN n3)
    go_wp2_with fail
    refine (Hr2.out _).mono ?_
    rintro e w4 ⟨rfl, hb4⟩
    have Hb4 := Lib.hid (Hb3.out.trans (hb4.mono Hb3.out.size))
    have HN4 := Lib.hid (HN3.out.below hb4)
    clear hb4
    go_wp2_with fail
    refine (text_any n _ hn HN4.out).mono ?_
    rintro e w5 ⟨rfl, hb5⟩
    have Hb5 := Lib.hid (Hb4.out.trans (hb5.mono Hb4.out.size))
    have HN5 := Lib.hid (HN4.out.below hb5)
    clear hb5
    go_wp2_with fail
    refine (refText_any n _ hn).mono ?_
    rintro e w6 ⟨rfl, hb6⟩
    have Hb6 := Lib.hid (Hb5.out.trans (hb6.mono Hb5.out.size))
    have HN6 := Lib.hid (HN5.out.below hb6)
    clear hb6
    go_wp2_with fail
    refine (text_any n _ hn HN6.out).mono ?_
    rintro e w7 ⟨rfl, hb7⟩
    have Hb7 := Lib.hid (Hb6.out.trans (hb7.mono Hb6.out.size))
    have HN7 := Lib.hid (HN6.out.below hb7)
    clear hb7
    have hp := parse_any ⟨(textL n).toArray⟩ w7 (by rw [Lib.size_eq]; exact Nat.le_trans (text_size n) (by decide)) HN7.out ⟨w1.heap.size, 0, none⟩
    rw [show pars 0 (words (ByteArray.mk (textL n).toArray).data.toList) = _ from pars_text n] at hp
    have hand := u16_and_nat n 51199 hn (by omega)
    have hkl : n &&& 51199 < 65536 := Nat.and_lt_two_pow (n := 16) _ (by decide)
    obtain ⟨K, hK⟩ : ∃ K, K = n &&& 51199 := ⟨_, rfl⟩
    rw [← hK] at hp hand hkl
    have hand2 : bits .and .u16 (n : Int) 51199 = (K : Int) := hand
    have HK := Lib.hid hK
    clear hand
    clear hK
    by_cases hz : K = 0
    · rw [if_pos hz] at hp
      have hz1 : ((K : Int) == 0) = true := by simp; omega
      have hz2 : ((K : Int) != 0) = false := by simp; omega
      have Hz := Lib.hid hz
      clear hz
      have Hp := Lib.hid hp
      clear hp
      go_wp2_with fail
      refine Hp.out.mono ?_
      rintro e w8 ⟨rfl, n8, rfl⟩
      go_wp2_with fail
      go_ret
      exact ⟨rfl, below_drewN Hb7.out n8⟩
    · rw [if_neg hz] at hp
      have hz1 : ((K : Int) == 0) = false := by simp; omega
      have hz2 : ((K : Int) != 0) = true := by simp; omega
      have Hp := Lib.hid hp
      clear hp
      go_wp2_with fail
      refine Hp.out.mono ?_
      rintro e w8 ⟨rfl, n8, rfl⟩
      go_wp2_with fail
      go_ret
      exact ⟨rfl, below_drewN Hb7.out n8⟩
  · have hl : (200 : Int) < (s.size : Int) := by omega
    go_enter Tryd.func3, Tryd.ntmps3
    go_wp2_with fail
    refine (awake_any _ H.out).mono ?_
    rintro e w1 ⟨rfl, hb1⟩
    have Hb1 := Lib.hid hb1
    clear hb1
    go_wp2_with fail
    go_ret
    exact ⟨rfl, Hb1.out⟩
end Go.Proofs.YtpglioibdhcjkaaDoor
