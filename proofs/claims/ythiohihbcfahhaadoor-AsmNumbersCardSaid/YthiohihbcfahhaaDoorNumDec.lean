/- AsmNumbers' walk: base ten. -/
import Derived.Test.YthiohihbcfahhaaDoorNumLem
namespace Go.Proofs.YthiohihbcfahhaaDoor
open Go.RowKit Go.ChangeShapes Go.WideShapes Go.ChangeAt Go.WideElems
set_option maxRecDepth 100000 in
set_option maxHeartbeats 8000000 in
theorem walk_numDec (n : Nat) (s : ByteArray) (w : World) (hn : n < 18446744073709551616) (hs : s.size ≤ maxLen) (hE : Env w) (h40 : ¬ 40 < s.size) (hxf : hexed s.data.toList = false) : Calls Tryd.prog 3 #[.int .u64 n, .string s] w (Yes w) := by
  unfold maxLen at hs
  have HE := Lib.hid hE
  have Hn := Lib.hid hn
  obtain ⟨T, hT⟩ : ∃ T, T = Lib.decDigits n := ⟨_, rfl⟩
  have hTl : T.length ≤ 20 := by rw [hT]; exact dec_len20 hn
  have HN1 := Lib.hid (num_is ⟨T.toArray⟩ n (by rw [Lib.size_eq]; show T.toArray.toList.length ≤ _; rw [List.toList_toArray]; omega) (by rw [hT]; exact number_dec n hn))
  have HP := Lib.hid (fun W => refPrinted_any n hn W)
  have HQ := Lib.hid (fun W E => printed_any n hn W E)
  rw [← hT] at HP HQ
  have HL := Lib.hid (hex_len n hn)
  have HX := Lib.hid (number_hex n hn)
  clear hE hn hT
  go_enter Tryd.func3, Tryd.ntmps3
  go_wp2_with fail
  refine (awake_any _ HE.out).mono ?_
  rintro e w1 ⟨rfl, hb1⟩
  have HB1 := Lib.hid hb1
  clear hb1
  go_wp2_with fail
  refine (HP.out _).mono ?_
  rintro e w2 ⟨rfl, hb2⟩
  have HB2 := Lib.hid (HB1.out.trans (hb2.mono HB1.out.size))
  clear hb2
  go_wp2_with fail
  refine (HN1.out _ (HE.out.below HB2.out)).mono ?_
  rintro e w3 ⟨rfl, hb3⟩
  have HB3 := Lib.hid (HB2.out.trans (hb3.mono HB2.out.size))
  clear hb3 HB1 HB2 HP HN1
  go_wp2_with fail
  go_loopw [8, 9] (fun h x wr => ∃ (m : Nat) (t : Bs), h = .string ⟨t.toArray⟩ ∧ x = .int .u64 m ∧ m < 18446744073709551616 ∧ Hid (hexD n = hexD m ++ t) ∧ Hid (Below w.heap.size w wr)) (fun _ x _ => (intOf x).toNat)
  case atStart => exact ⟨n, [], rfl, rfl, Hn.out, by simp [Hid], HB3.out⟩
  case round =>
    obtain ⟨m, t, rfl, rfl, hm, HD, HB⟩ := hrel
    have htl : t.length ≤ 16 := by have h1 := congrArg List.length HD.out; have h2 := HL.out; rw [List.length_append] at h1; omega
    obtain ⟨d, hd⟩ : ∃ d, d = m % 16 := ⟨_, rfl⟩
    have ed : (m : Int) % 16 = (d : Int) := by omega
    have hd16 : d < 16 := by omega
    have hix := fun W => hx_index d hd16 W
    have hcv := fun W => hx_conv d hd16 W
    by_cases h16 : m < 16
    · have HD2 := Lib.hid (show hexD n = hx d :: t by rw [HD.out, hex_last h16, hd]; rfl)
      clear hd
      have HN2 := Lib.hid (num_is ((⟨#[48, 120]⟩ : ByteArray) ++ ((⟨#[hx d]⟩ : ByteArray) ++ ⟨t.toArray⟩)) n (by
        rw [Lib.size_eq, app_list, app_list, List.length_append, List.length_append]
        show 2 + (1 + t.toArray.toList.length) ≤ _
        rw [List.toList_toArray]
        omega) (by
        rw [app_list, app_list]
        show number (48 :: 120 :: (hx d :: t)) = _
        rw [← HD2.out]
        exact HX.out))
      go_wp2_with fail
      refine (HN2.out _ (HE.out.below HB.out)).mono ?_
      rintro e w4 ⟨rfl, hb4⟩
      have HB4 := Lib.hid (HB.out.trans (hb4.mono HB.out.size))
      clear hb4 hix hcv
      go_wp2_with fail
      refine (HQ.out _ (HE.out.below HB4.out).pow).mono ?_
      rintro e w5 ⟨rfl, hb5⟩
      have HB5 := Lib.hid (HB4.out.trans (hb5.mono HB4.out.size))
      clear hb5 HB4
      have t1 : ¬ (40 : Int) < (s.size : Int) := by omega
      have HNm := Lib.hid (show number s.data.toList = numD 10 s.data.toList by rw [number_eq]; unfold base digits; rw [hxf]; rfl)
      have hDs : s.size ≤ 40 := by omega
      have hpr := hexed_no hxf
      clear hxf
      go_upto_region 16 with fail
      go_cut [81] from 73 (fun x wx => x = .bool false ∧ wx = w5)
      case first =>
        by_cases h2 : 2 ≤ s.size
        · have t2 : (2 : Int) ≤ (s.size : Int) := by omega
          go_wp2_with fail
          go_meet
          case rel => exact ⟨rfl, rfl⟩
        · have t2 : (s.size : Int) < 2 := by omega
          go_wp2_with fail
          go_meet
          case rel => exact ⟨rfl, rfl⟩
      case rest =>
        obtain ⟨rfl, rfl⟩ := hcut
        clear hpr
        go_upto_region 18 with fail
        go_cut [14] from 84 (fun r wx => r = .bool (rightB s) ∧ wx = wc)
        case first => as_aux_lemma =>
          by_cases z0 : s.size < 1
          · have e1 : (s.size : Int) < 1 := by omega
            have HRb := Lib.hid (rb_no z0)
            go_wp2_with fail
            go_meet
            case rel => exact ⟨by rw [HRb.out], rfl⟩
          by_cases z20 : 20 < s.size
          · have e1 : (1 : Int) ≤ (s.size : Int) := by omega
            have e2 : (20 : Int) < (s.size : Int) := by omega
            have HRb := Lib.hid (rb_long z20)
            go_wp2_with fail
            go_meet
            case rel => exact ⟨by rw [HRb.out], rfl⟩
          by_cases z1 : s.size = 1
          · have e1 : (1 : Int) ≤ (s.size : Int) := by omega
            have e2 : (s.size : Int) ≤ 20 := by omega
            have e3 : ((s.size : Int) == 1) = true := by rw [z1]; rfl
            have HRb := Lib.hid (rb_one z1)
            clear z1
            go_wp2_with fail
            go_meet
            case rel => exact ⟨by rw [HRb.out], rfl⟩
          · have e1 : (1 : Int) ≤ (s.size : Int) := by omega
            have e2 : (s.size : Int) ≤ 20 := by omega
            have e3 : ((s.size : Int) == 1) = false := by rw [beq_eq_false_iff_ne]; omega
            have e0 : 0 < s.size := by omega
            by_cases zh : (s[0]'e0).toNat = 48
            · have HRb := Lib.hid (rb_zero e0 z1 zh)
              have e4 : (((s[0]'e0).toNat : Int) != 48) = false := by rw [zh]; rfl
              clear zh z1
              go_wp2_with fail
              go_meet
              case rel => exact ⟨by rw [HRb.out], rfl⟩
            · have HRb := Lib.hid (rb_yes e0 (by omega) zh)
              have e4 : (((s[0]'e0).toNat : Int) != 48) = true := by simp; omega
              clear zh z1
              go_wp2_with fail
              go_meet
              case rel => exact ⟨by rw [HRb.out], rfl⟩
        case rest =>
          obtain ⟨rfl, rfl⟩ := hcut
          cases hR : rightB s with
          | false => as_aux_lemma =>
            have HNone := Lib.hid (num_not s (by omega) (HNm.out.trans (rb_numD_no (.inl rfl) hR)))
            clear hR
            go_wp2_with fail
            go_loop [14, 15, 104] (fun r v i => r = .bool false ∧ v = .int .u64 0 ∧ i = .int .i64 0) (fun _ _ _ => 0)
            case atStart => exact ⟨rfl, rfl, rfl⟩
            case round =>
              obtain ⟨rfl, rfl, rfl⟩ := hrel
              by_cases hlt : 0 < s.size
              · obtain ⟨v, hv⟩ : ∃ v, (s[0]'hlt).toNat = v := ⟨_, rfl⟩
                have hv256 : v < 256 := by rw [← hv]; exact UInt8.toNat_lt _
                have e1 : decide ((0 : Int) < (s.size : Int)) = true := decide_eq_true (by omega)
                by_cases r1 : 48 ≤ v ∧ v ≤ 57
                · obtain ⟨r1a, r1b⟩ := r1
                  go_wp2_with fail
                  refine (HNone.out _ (HE.out.below HB5.out)).mono ?_
                  rintro e w6 ⟨rfl, hb6⟩
                  have HB6 := Lib.hid (HB5.out.trans (hb6.mono HB5.out.size))
                  clear hb6
                  go_wp2_with fail
                  go_ret
                  exact ⟨rfl, HB6.out⟩
                by_cases r2 : 97 ≤ v ∧ v ≤ 102
                · obtain ⟨r2a, r2b⟩ := r2
                  go_wp2_with fail
                  refine (HNone.out _ (HE.out.below HB5.out)).mono ?_
                  rintro e w6 ⟨rfl, hb6⟩
                  have HB6 := Lib.hid (HB5.out.trans (hb6.mono HB5.out.size))
                  clear hb6
                  go_wp2_with fail
                  go_ret
                  exact ⟨rfl, HB6.out⟩
                rcases (by omega : v < 48 ∨ (57 < v ∧ v < 97) ∨ 102 < v) with r3 | ⟨r3, r4⟩ | r3
                all_goals
                  go_wp2_with fail
                  refine (HNone.out _ (HE.out.below HB5.out)).mono ?_
                  rintro e w6 ⟨rfl, hb6⟩
                  have HB6 := Lib.hid (HB5.out.trans (hb6.mono HB5.out.size))
                  clear hb6
                  go_wp2_with fail
                  go_ret
                  exact ⟨rfl, HB6.out⟩
              · have e1 : decide ((0 : Int) < (s.size : Int)) = false := decide_eq_false (by omega)
                go_wp2_with fail
                refine (HNone.out _ (HE.out.below HB5.out)).mono ?_
                rintro e w6 ⟨rfl, hb6⟩
                have HB6 := Lib.hid (HB5.out.trans (hb6.mono HB5.out.size))
                clear hb6
                go_wp2_with fail
                go_ret
                exact ⟨rfl, HB6.out⟩
          | true => as_aux_lemma =>
            have HD0 := Lib.hid (HNm.out.trans (rb_numD_yes hR))
            clear hR
            go_wp2_with fail
            go_loop [14, 15, 104] (fun r v i => ∃ (k acc : Nat) (a : Int), r = .bool true ∧ v = .int .u64 a ∧ i = .int .i64 k ∧ k ≤ s.size ∧ Hid (a = (acc : Int) ∧ acc < 18446744073709551616 ∧ number s.data.toList = horner 10 (s.data.toList.drop k) acc)) (fun _ _ i => s.size - (intOf i).toNat)
            case atStart => exact ⟨0, 0, 0, rfl, rfl, rfl, by omega, rfl, by omega, HD0.out⟩
            case round =>
              obtain ⟨k, acc, a, rfl, rfl, rfl, hk, hh⟩ := hrel
              obtain ⟨ha, hacc, hdec⟩ := hh.out
              clear hh
              have a0 : 0 ≤ a := by omega
              have a1 : a < 18446744073709551616 := by omega
              by_cases hlt : k < s.size
              · obtain ⟨v, hv⟩ : ∃ v, (s[k]'hlt).toNat = v := ⟨_, rfl⟩
                have hat : s.data.toList[k]? = some (s[k]'hlt) := Lib.data_getElem? s k hlt
                have hv256 : v < 256 := by rw [← hv]; exact UInt8.toNat_lt _
                by_cases r1 : 48 ≤ v ∧ v ≤ 57
                · have hlaw : lawD (s[k]'hlt) = v - 48 := by unfold lawD; rw [hv]; rw [if_pos r1]
                  obtain ⟨r1a, r1b⟩ := r1
                  by_cases hcut : 1844674407370955161 < acc
                  · have HNone := Lib.hid (num_not s (by omega) (hdec.trans (horner_none_o (.inl rfl) hat (by rw [hlaw]; omega) (by rw [hlaw]; omega))))
                    have icut : (1844674407370955161 : Int) < a := by omega
                    clear hcut hacc hdec ha hat hlaw
                    go_wp2_with fail
                    refine (HNone.out _ (HE.out.below HB5.out)).mono ?_
                    rintro e w6 ⟨rfl, hb6⟩
                    have HB6 := Lib.hid (HB5.out.trans (hb6.mono HB5.out.size))
                    clear hb6
                    go_wp2_with fail
                    go_ret
                    exact ⟨rfl, HB6.out⟩
                  by_cases hov : 18446744073709551616 ≤ acc * 10 + (v - 48)
                  · have HNone := Lib.hid (num_not s (by omega) (hdec.trans (horner_none_o (.inl rfl) hat (by rw [hlaw]; omega) (by rw [hlaw]; exact hov))))
                    have icut : a ≤ 1844674407370955161 := by omega
                    have hw : IntKind.u64.wrap (a * 10 + ((v : Int) - 48)) = a * 10 + ((v : Int) - 48) - 18446744073709551616 := by rw [IntKind.wrap_u64]; omega
                    have iov : a * 10 + ((v : Int) - 48) - 18446744073709551616 < (v : Int) - 48 := by omega
                    clear hcut hacc hdec ha hat hlaw hov
                    go_wp2_with fail
                    refine (HNone.out _ (HE.out.below HB5.out)).mono ?_
                    rintro e w6 ⟨rfl, hb6⟩
                    have HB6 := Lib.hid (HB5.out.trans (hb6.mono HB5.out.size))
                    clear hb6
                    go_wp2_with fail
                    go_ret
                    exact ⟨rfl, HB6.out⟩
                  · have HN : Hid (a * 10 + ((v : Int) - 48) = ((acc * 10 + (v - 48) : Nat) : Int) ∧ acc * 10 + (v - 48) < 18446744073709551616 ∧ number s.data.toList = horner 10 (s.data.toList.drop (k + 1)) (acc * 10 + (v - 48))) := Lib.hid ⟨by omega, by omega, by rw [← hlaw]; exact hdec.trans (horner_on (.inl rfl) hat (by rw [hlaw]; omega) (by rw [hlaw]; omega))⟩
                    have icut : a ≤ 1844674407370955161 := by omega
                    have iov : a * 10 + ((v : Int) - 48) < 18446744073709551616 := by omega
                    have ige : ¬ (a * 10 + ((v : Int) - 48) < (v : Int) - 48) := by omega
                    clear hcut hacc hdec ha hat hlaw hov
                    go_wp2_with fail
                    refine ⟨⟨k + 1, acc * 10 + (v - 48), a * 10 + ((v : Int) - 48), rfl, (by first | rfl | (congr 1; omega)), (by first | rfl | (congr 1; omega)), by omega, HN⟩, by simp [intOf]; omega⟩
                by_cases r2 : 97 ≤ v ∧ v ≤ 102
                · have hlaw : lawD (s[k]'hlt) = v - 97 + 10 := by unfold lawD; rw [hv]; rw [if_neg r1, if_pos r2]
                  obtain ⟨r2a, r2b⟩ := r2
                  have HNone := Lib.hid (num_not s (by omega) (hdec.trans (horner_none_d (.inl rfl) hat (by rw [hlaw]; omega))))
                  clear hacc hdec ha hat hlaw
                  go_wp2_with fail
                  refine (HNone.out _ (HE.out.below HB5.out)).mono ?_
                  rintro e w6 ⟨rfl, hb6⟩
                  have HB6 := Lib.hid (HB5.out.trans (hb6.mono HB5.out.size))
                  clear hb6
                  go_wp2_with fail
                  go_ret
                  exact ⟨rfl, HB6.out⟩
                have HNone := Lib.hid (num_not s (by omega) (hdec.trans (horner_none_d (.inl rfl) hat (by unfold lawD; rw [hv, if_neg r1, if_neg r2]; omega))))
                clear hacc hdec ha hat
                rcases (by omega : v < 48 ∨ (57 < v ∧ v < 97) ∨ 102 < v) with r3 | ⟨r3, r4⟩ | r3
                all_goals
                  go_wp2_with fail
                  refine (HNone.out _ (HE.out.below HB5.out)).mono ?_
                  rintro e w6 ⟨rfl, hb6⟩
                  have HB6 := Lib.hid (HB5.out.trans (hb6.mono HB5.out.size))
                  clear hb6
                  go_wp2_with fail
                  go_ret
                  exact ⟨rfl, HB6.out⟩
              · have hkk : k = s.size := by omega
                subst hkk
                have HSome := Lib.hid (num_is s acc (by omega) (hdec.trans (by rw [List.drop_eq_nil_of_le (by rw [← Lib.size_eq]; exact Nat.le_refl _)]; rfl)))
                subst ha
                clear hacc hdec
                go_wp2_with fail
                refine (HSome.out _ (HE.out.below HB5.out)).mono ?_
                rintro e w6 ⟨rfl, hb6⟩
                have HB6 := Lib.hid (HB5.out.trans (hb6.mono HB5.out.size))
                clear hb6
                go_wp2_with fail
                go_ret
                exact ⟨rfl, HB6.out⟩
    · have HD2 := Lib.hid (show hexD n = hexD (m / 16) ++ (hx d :: t) by rw [HD.out, hex_step h16, hd]; simp)
      obtain ⟨q, hq⟩ : ∃ q, q = m / 16 := ⟨_, rfl⟩
      have eq0 : (m : Int) / 16 = (q : Int) := by omega
      have hqm : q < m := by omega
      have HQ2 := Lib.hid hq
      clear hd hq
      go_wp2_with fail
      go_roundw
      case rel => exact ⟨q, hx d :: t, rfl, rfl, by omega, by rw [HQ2.out]; exact HD2.out, HB.out⟩
      case measure => simp [intOf]; omega
end Go.Proofs.YthiohihbcfahhaaDoor
