/- Any actions: their kinds, errors; which is stronger. -/
import Derived.Test.YtfkdhfbmpjfhbaaAct
import Derived.Test.YtfkdhfbmpjfhbaaBk
import Derived.OpenShut
namespace Go.Proofs.Ytfkdhfbmpjfhbaa
open Go.RowKit
def kinds4 : List Nat := [2147418112, 2147221504, 327680, 2147483648]
theorem kinds_at (s : Nat) (h : s ≤ 3) : kinds4[s]? = some (kdOf s) := by
  rcases (by omega : s = 0 ∨ s = 1 ∨ s = 2 ∨ s = 3) with rfl | rfl | rfl | rfl <;> rfl
theorem num_yes {a s : Nat} (hs : s = strN a) (h : s = 2) : numN a = a % 65536 := by unfold numN; rw [← hs, h]; rfl
theorem num_no {a s : Nat} (hs : s = strN a) (h : s ≠ 2) : numN a = 0 := by unfold numN; rw [← hs, if_neg h]
set_option maxRecDepth 100000 in
set_option maxHeartbeats 2000000 in
theorem actions_any (a b k : Nat) (e : Int) (w : World) (ha : a < 4294967296) (hb : b < 4294967296) (hk : k < 256) :
    Calls Try.prog 5 #[.int .u32 a, .int .u32 b, .int .i64 e, .int .u8 k] w (Yes w) := by
  obtain ⟨c, hc⟩ : ∃ c, c = 327680 + clampN e := ⟨_, rfl⟩
  have hcl : c < 4294967296 := by have := clamp_le e; omega
  have hor := orErrno k (by omega)
  have Hf := Lib.hid (fun w => fail_any e w)
  rw [← hc] at Hf
  obtain ⟨f, hfd⟩ : ∃ f, f = 327680 + k := ⟨_, rfl⟩
  rw [← hfd] at hor
  have hfl : f < 4294967296 := by omega
  have Hc := Lib.hid hc
  clear hc hfd
  have Hl := Lib.hid (show ∀ i, i < 7 → ∃ x, [a, b, 2147483648, 2147221504, 2147418112, c, f][i]? = some x ∧ x < 4294967296 from fun i hi => by
    rcases (by omega : i = 0 ∨ i = 1 ∨ i = 2 ∨ i = 3 ∨ i = 4 ∨ i = 5 ∨ i = 6) with rfl | rfl | rfl | rfl | rfl | rfl | rfl <;> exact ⟨_, rfl, by omega⟩)
  go_enter Try.func5, Try.ntmps5
  go_wp2_with fail
  refine (awake_any _).mono ?_
  rintro e1 w' ⟨rfl, rfl⟩
  go_wp2_with fail
  refine (Hf.out _).mono ?_
  rintro e1 w' ⟨rfl, rfl⟩
  go_wp2_with fail
  have Hbk := Lib.hid (show Bk ((w.alloc (.cells #[.int .u32 a, .int .u32 b, .int .u32 2147483648, .int .u32 2147221504, .int .u32 2147418112, .int .u32 c, .int .u32 f] 40)).alloc (.cells #[.int .u32 2147418112, .int .u32 2147221504, .int .u32 327680, .int .u32 2147483648] 40)) w.heap.size 40 (u32s [a, b, 2147483648, 2147221504, 2147418112, c, f]) from (Bk.new _ _ _ rfl).alloc _)
  have Hkn := Lib.hid (show Bk ((w.alloc (.cells #[.int .u32 a, .int .u32 b, .int .u32 2147483648, .int .u32 2147221504, .int .u32 2147418112, .int .u32 c, .int .u32 f] 40)).alloc (.cells #[.int .u32 2147418112, .int .u32 2147221504, .int .u32 327680, .int .u32 2147483648] 40)) (w.heap.size + 1) 40 (u32s kinds4) from by
    have h := Bk.new (w.alloc (.cells #[.int .u32 a, .int .u32 b, .int .u32 2147483648, .int .u32 2147221504, .int .u32 2147418112, .int .u32 c, .int .u32 f] 40)) 40 #[.int .u32 2147418112, .int .u32 2147221504, .int .u32 327680, .int .u32 2147483648] (l := u32s kinds4) rfl
    simpa using h)
  have Hbe := Lib.hid (show Below w.heap.size w ((w.alloc (.cells #[.int .u32 a, .int .u32 b, .int .u32 2147483648, .int .u32 2147221504, .int .u32 2147418112, .int .u32 c, .int .u32 f] 40)).alloc (.cells #[.int .u32 2147418112, .int .u32 2147221504, .int .u32 327680, .int .u32 2147483648] 40)) from ((Below.refl _ _).alloc (Nat.le_refl _) _).alloc (by simp) _)
  go_loopw [30] (fun i wr => ∃ q : Nat, q ≤ 7 ∧ i = .int .i64 q ∧ Hid (Bk wr w.heap.size 40 (u32s [a, b, 2147483648, 2147221504, 2147418112, c, f])) ∧ Hid (Bk wr (w.heap.size + 1) 40 (u32s kinds4)) ∧ Hid (Below w.heap.size w wr)) (fun i _ => 7 - (intOf i).toNat)
  case atStart => exact ⟨0, by omega, rfl, Hbk, Hkn, Hbe⟩
  case round =>
    obtain ⟨q, hq, rfl, Rb, Rk, Be⟩ := hrel
    clear Hbk Hkn Hbe
    by_cases hlt : q < 7
    · obtain ⟨x, hx, hxl⟩ := Hl.out q hlt
      have hcx := Rb.out.cell q (u32s_at hx)
      have Hx := Lib.hid hx
      obtain ⟨s, hs⟩ : ∃ s, s = strN x := ⟨_, rfl⟩
      have hs3 : s ≤ 3 := by have := strN_le x; omega
      have hck := Rk.out.cell s (u32s_at (kinds_at s hs3))
      have Kind := Lib.hid (fun w => kind_any x w hxl)
      have Strength := Lib.hid (fun w => strength_any x w hxl)
      have Number := Lib.hid (fun w => number_any x w hxl)
      rw [← hs] at Kind Strength
      obtain ⟨kd, hkd⟩ : ∃ y, y = kdOf s := ⟨_, rfl⟩
      rw [← hkd] at Kind hck
      obtain ⟨m, hm⟩ : ∃ y, y = numN x := ⟨_, rfl⟩
      rw [← hm] at Number
      have hmy : s = 2 → m = x % 65536 := fun h => hm.trans (num_yes hs h)
      have hmn : s ≠ 2 → m = 0 := fun h => hm.trans (num_no hs h)
      have hand := andLow x hxl
      clear hx hkd hm hs
      rcases (by omega : s = 2 ∨ s ≠ 2) with h2 | h2
      · have hm := hmy h2
        rw [← hm] at hand
        have hb2 : ((s : Int) == 2) = true := by simp; omega
        have hml : m < 65536 := by omega
        clear hmy hmn hm h2
        go_wp2_with fail
        refine (Strength.out _).mono ?_
        rintro e1 w' ⟨rfl, rfl⟩
        go_wp2_with fail
        go_quiet ((first | (go_at_call 15; exact quiet_l (Kind.out _)) | (go_at_call 16; exact quiet_l (Number.out _))))
        have Rb2 := Lib.hid (Rb.out.drewN nq)
        have Be2 := Lib.hid (below_drewN Be.out nq)
        have Rk2 := Lib.hid (Rk.out.drewN nq)
        clear hcx hck
        go_wp2_with fail
        go_loopw [56] (fun i wv => ∃ p : Nat, p ≤ 7 ∧ i = .int .i64 p ∧ Hid (Bk wv w.heap.size 40 (u32s [a, b, 2147483648, 2147221504, 2147418112, c, f])) ∧ Hid (Bk wv (w.heap.size + 1) 40 (u32s kinds4)) ∧ Hid (Below w.heap.size w wv)) (fun i _ => 7 - (intOf i).toNat)
        case atStart => exact ⟨0, by omega, rfl, Rb2, Rk2, Be2⟩
        case round =>
          obtain ⟨p, hp, rfl, Rb3, Rk3, Be3⟩ := hrel
          clear Rb2 Rk2 Be2 Rb Rk Be
          by_cases hlp : p < 7
          · obtain ⟨y, hy, hyl⟩ := Hl.out p hlp
            have hcy := Rb3.out.cell p (u32s_at hy)
            have C1 := Lib.hid (fun w => stronger_any x y w hxl hyl)
            have C2 := Lib.hid (fun w => refStronger_any x y w hxl hyl)
            obtain ⟨z, hz⟩ : ∃ z, z = stg x y := ⟨_, rfl⟩
            rw [← hz] at C1 C2
            clear hy hz
            go_wp2_with fail
            refine (C1.out _).mono ?_
            rintro e1 w' ⟨rfl, rfl⟩
            go_wp2_with fail
            refine (C2.out _).mono ?_
            rintro e1 w' ⟨rfl, rfl⟩
            go_wp2_with fail
            go_roundw
            case rel => first | exact ⟨p + 1, by omega, by go_num, Rb3, Rk3, Be3⟩ | ((repeat apply Exists.intro); exact ⟨⟨p + 1, by omega, by go_num, Rb3, Rk3, Be3⟩, rfl⟩)
            case measure => simp [intOf]; omega
          · obtain rfl : p = 7 := by omega
            go_wp2_with fail
            go_roundw
            case rel => first | exact ⟨q + 1, by omega, by go_num, Rb3, Rk3, Be3⟩ | ((repeat apply Exists.intro); exact ⟨⟨q + 1, by omega, by go_num, Rb3, Rk3, Be3⟩, rfl⟩)
            case measure => simp [intOf]; omega
      · have hm := hmn h2
        subst hm
        have hb2 : ((s : Int) == 2) = false := by simp; omega
        clear hmy hmn h2 hand
        go_wp2_with fail
        refine (Strength.out _).mono ?_
        rintro e1 w' ⟨rfl, rfl⟩
        go_wp2_with fail
        go_quiet ((first | (go_at_call 15; exact quiet_l (Kind.out _)) | (go_at_call 16; exact quiet_l (Number.out _))))
        have Rb2 := Lib.hid (Rb.out.drewN nq)
        have Be2 := Lib.hid (below_drewN Be.out nq)
        have Rk2 := Lib.hid (Rk.out.drewN nq)
        clear hcx hck
        go_wp2_with fail
        go_loopw [56] (fun i wv => ∃ p : Nat, p ≤ 7 ∧ i = .int .i64 p ∧ Hid (Bk wv w.heap.size 40 (u32s [a, b, 2147483648, 2147221504, 2147418112, c, f])) ∧ Hid (Bk wv (w.heap.size + 1) 40 (u32s kinds4)) ∧ Hid (Below w.heap.size w wv)) (fun i _ => 7 - (intOf i).toNat)
        case atStart => exact ⟨0, by omega, rfl, Rb2, Rk2, Be2⟩
        case round =>
          obtain ⟨p, hp, rfl, Rb3, Rk3, Be3⟩ := hrel
          clear Rb2 Rk2 Be2 Rb Rk Be
          by_cases hlp : p < 7
          · obtain ⟨y, hy, hyl⟩ := Hl.out p hlp
            have hcy := Rb3.out.cell p (u32s_at hy)
            have C1 := Lib.hid (fun w => stronger_any x y w hxl hyl)
            have C2 := Lib.hid (fun w => refStronger_any x y w hxl hyl)
            obtain ⟨z, hz⟩ : ∃ z, z = stg x y := ⟨_, rfl⟩
            rw [← hz] at C1 C2
            clear hy hz
            go_wp2_with fail
            refine (C1.out _).mono ?_
            rintro e1 w' ⟨rfl, rfl⟩
            go_wp2_with fail
            refine (C2.out _).mono ?_
            rintro e1 w' ⟨rfl, rfl⟩
            go_wp2_with fail
            go_roundw
            case rel => first | exact ⟨p + 1, by omega, by go_num, Rb3, Rk3, Be3⟩ | ((repeat apply Exists.intro); exact ⟨⟨p + 1, by omega, by go_num, Rb3, Rk3, Be3⟩, rfl⟩)
            case measure => simp [intOf]; omega
          · obtain rfl : p = 7 := by omega
            go_wp2_with fail
            go_roundw
            case rel => first | exact ⟨q + 1, by omega, by go_num, Rb3, Rk3, Be3⟩ | ((repeat apply Exists.intro); exact ⟨⟨q + 1, by omega, by go_num, Rb3, Rk3, Be3⟩, rfl⟩)
            case measure => simp [intOf]; omega
    · obtain rfl : q = 7 := by omega
      have hce := Hc.out
      clear hor Rb Rk Hl
      rcases (by omega : e ≤ 0 ∨ 4095 ≤ e ∨ (0 < e ∧ e < 4095)) with h0 | h0 | h0
      · rw [clamp_low h0] at hce
        subst hce
        go_wp2_with fail
        refine (Hf.out _).mono ?_
        rintro e1 w' ⟨rfl, rfl⟩
        go_wp2_with fail
        all_goals
          go_ret
          first | exact ⟨rfl, Be.out⟩ | (obtain rfl : e = 0 := (by omega); exact ⟨rfl, Be.out⟩) | (obtain rfl : e = 4095 := (by omega); exact ⟨rfl, Be.out⟩)
      · rw [clamp_high h0] at hce
        subst hce
        go_wp2_with fail
        refine (Hf.out _).mono ?_
        rintro e1 w' ⟨rfl, rfl⟩
        go_wp2_with fail
        all_goals
          go_ret
          first | exact ⟨rfl, Be.out⟩ | (obtain rfl : e = 0 := (by omega); exact ⟨rfl, Be.out⟩) | (obtain rfl : e = 4095 := (by omega); exact ⟨rfl, Be.out⟩)
      · obtain ⟨n, rfl⟩ := Int.eq_ofNat_of_zero_le (show 0 ≤ e by omega)
        have hn : n < 4095 := by omega
        rw [clamp_mid (by omega)] at hce
        subst hce
        have hor2 := orErrno n (by omega)
        clear h0
        go_wp2_with fail
        refine (Hf.out _).mono ?_
        rintro e1 w' ⟨rfl, rfl⟩
        go_wp2_with fail
        all_goals
          go_ret
          first | exact ⟨rfl, Be.out⟩ | (obtain rfl : e = 0 := (by omega); exact ⟨rfl, Be.out⟩) | (obtain rfl : e = 4095 := (by omega); exact ⟨rfl, Be.out⟩)
theorem walk_recordActions (a b e k : Int) (w : World) (ha : (Lit.int .u32 a).wf = true) (hb : (Lit.int .u32 b).wf = true) (_ : (Lit.int .i64 e).wf = true) (hk : (Lit.int .u8 k).wf = true) :
    Calls Try.prog 5 #[.int .u32 a, .int .u32 b, .int .i64 e, .int .u8 k] w (Yes w) := by
  obtain ⟨la, ua⟩ := bounds_u32 ha
  obtain ⟨lb, ub⟩ := bounds_u32 hb
  obtain ⟨lk, uk⟩ := bounds_u8 hk
  obtain ⟨a, rfl⟩ := Int.eq_ofNat_of_zero_le la
  obtain ⟨b, rfl⟩ := Int.eq_ofNat_of_zero_le lb
  obtain ⟨k, rfl⟩ := Int.eq_ofNat_of_zero_le lk
  exact actions_any a b k e w (by omega) (by omega) (by omega)
end Go.Proofs.Ytfkdhfbmpjfhbaa
