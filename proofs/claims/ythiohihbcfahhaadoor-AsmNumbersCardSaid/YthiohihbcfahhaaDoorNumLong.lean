/- AsmNumbers' walk: a text of more than forty bytes. -/
import Derived.Test.YthiohihbcfahhaaDoorNumLem
namespace Go.Proofs.YthiohihbcfahhaaDoor
open Go.RowKit Go.ChangeShapes Go.WideShapes Go.ChangeAt Go.WideElems
set_option maxRecDepth 100000 in
set_option maxHeartbeats 8000000 in
theorem walk_numLong (n : Nat) (s : ByteArray) (w : World) (hn : n < 18446744073709551616) (hs : s.size ≤ maxLen) (hE : Env w) (h40 : 40 < s.size) : Calls Tryd.prog 3 #[.int .u64 n, .string s] w (Yes w) := by
  unfold maxLen at hs
  have HE := Lib.hid hE
  have Hn := Lib.hid hn
  obtain ⟨T, hT⟩ : ∃ T, T = Lib.decDigits n := ⟨_, rfl⟩
  have hTl : T.length ≤ 20 := by rw [hT]; exact dec_len20 hn
  have HN1 := Lib.hid (num_is ⟨T.toArray⟩ n (by rw [Lib.size_eq]; show T.toArray.toList.length ≤ _; rw [List.toList_toArray]; omega) (by rw [hT]; exact number_dec n hn))
  have HP := Lib.hid (fun W => refPrinted_any n hn W)
  have HQ := Lib.hid (fun W E => printed_any n hn W E)
  rw [← hT] at HP HQ
  have HL := Lib.hid (hex_len n hn)
  have HX := Lib.hid (number_hex n hn)
  clear hE hn hT
  go_enter Tryd.func3, Tryd.ntmps3
  go_wp2_with fail
  refine (awake_any _ HE.out).mono ?_
  rintro e w1 ⟨rfl, hb1⟩
  have HB1 := Lib.hid hb1
  clear hb1
  go_wp2_with fail
  refine (HP.out _).mono ?_
  rintro e w2 ⟨rfl, hb2⟩
  have HB2 := Lib.hid (HB1.out.trans (hb2.mono HB1.out.size))
  clear hb2
  go_wp2_with fail
  refine (HN1.out _ (HE.out.below HB2.out)).mono ?_
  rintro e w3 ⟨rfl, hb3⟩
  have HB3 := Lib.hid (HB2.out.trans (hb3.mono HB2.out.size))
  clear hb3 HB1 HB2 HP HN1
  go_wp2_with fail
  go_loopw [8, 9] (fun h x wr => ∃ (m : Nat) (t : Bs), h = .string ⟨t.toArray⟩ ∧ x = .int .u64 m ∧ m < 18446744073709551616 ∧ Hid (hexD n = hexD m ++ t) ∧ Hid (Below w.heap.size w wr)) (fun _ x _ => (intOf x).toNat)
  case atStart => exact ⟨n, [], rfl, rfl, Hn.out, by simp [Hid], HB3.out⟩
  case round =>
    obtain ⟨m, t, rfl, rfl, hm, HD, HB⟩ := hrel
    have htl : t.length ≤ 16 := by have h1 := congrArg List.length HD.out; have h2 := HL.out; rw [List.length_append] at h1; omega
    obtain ⟨d, hd⟩ : ∃ d, d = m % 16 := ⟨_, rfl⟩
    have ed : (m : Int) % 16 = (d : Int) := by omega
    have hd16 : d < 16 := by omega
    have hix := fun W => hx_index d hd16 W
    have hcv := fun W => hx_conv d hd16 W
    by_cases h16 : m < 16
    · have HD2 := Lib.hid (show hexD n = hx d :: t by rw [HD.out, hex_last h16, hd]; rfl)
      clear hd
      have HN2 := Lib.hid (num_is ((⟨#[48, 120]⟩ : ByteArray) ++ ((⟨#[hx d]⟩ : ByteArray) ++ ⟨t.toArray⟩)) n (by
        rw [Lib.size_eq, app_list, app_list, List.length_append, List.length_append]
        show 2 + (1 + t.toArray.toList.length) ≤ _
        rw [List.toList_toArray]
        omega) (by
        rw [app_list, app_list]
        show number (48 :: 120 :: (hx d :: t)) = _
        rw [← HD2.out]
        exact HX.out))
      go_wp2_with fail
      refine (HN2.out _ (HE.out.below HB.out)).mono ?_
      rintro e w4 ⟨rfl, hb4⟩
      have HB4 := Lib.hid (HB.out.trans (hb4.mono HB.out.size))
      clear hb4 hix hcv
      go_wp2_with fail
      refine (HQ.out _ (HE.out.below HB4.out).pow).mono ?_
      rintro e w5 ⟨rfl, hb5⟩
      have HB5 := Lib.hid (HB4.out.trans (hb5.mono HB4.out.size))
      clear hb5 HB4
      have t1 : (40 : Int) < (s.size : Int) := by omega
      go_wp2_with fail
      go_ret
      exact ⟨rfl, HB5.out⟩
    · have HD2 := Lib.hid (show hexD n = hexD (m / 16) ++ (hx d :: t) by rw [HD.out, hex_step h16, hd]; simp)
      obtain ⟨q, hq⟩ : ∃ q, q = m / 16 := ⟨_, rfl⟩
      have eq0 : (m : Int) / 16 = (q : Int) := by omega
      have hqm : q < m := by omega
      have HQ2 := Lib.hid hq
      clear hd hq
      go_wp2_with fail
      go_roundw
      case rel => exact ⟨q, hx d :: t, rfl, rfl, by omega, by rw [HQ2.out]; exact HD2.out, HB.out⟩
      case measure => simp [intOf]; omega
end Go.Proofs.YthiohihbcfahhaaDoor
