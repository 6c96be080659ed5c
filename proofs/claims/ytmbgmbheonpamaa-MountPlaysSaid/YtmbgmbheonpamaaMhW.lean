/- The fixed fact; MountHeld: the walk. -/
import Derived.Test.YtmbgmbheonpamaaMhM
import Derived.Test.YtmbgmbheonpamaaRowU
namespace Go.Proofs.Ytmbgmbheonpamaa.Mt
open Go.RowKit Go.Maps Go.WideElems In
set_option maxRecDepth 100000 in
set_option maxHeartbeats 2000000 in
theorem awake_any (w : World) : Calls Try.prog 23 #[] w (BoP true w) := by
  have heq := fun W => eqPl 1 5 1 5 W true rfl
  go_enter Try.func23, Try.ntmps23
  go_wp2_with fail
  refine (new_any w).mono ?_
  rintro e w1 ⟨tb, A, c, rfl, h, hb⟩
  have HB := Lib.hid hb
  have hbd := bind_any h 5 (by decide) (0, 7) ⟨⟨by decide, by decide⟩, by decide, by decide⟩ (by decide)
  have e1 : bindE [⟨0, 0, 0, 1, 0⟩] (0, 7) = 0 := by decide
  clear hb
  unfold plV at hbd
  go_wp2_with fail
  refine hbd.mono ?_
  rintro e w2 ⟨he, hm, hf⟩
  rw [e1, if_pos rfl] at he
  rw [e1, if_pos rfl, if_pos rfl] at hm
  subst he
  obtain ⟨A2, c2, h2⟩ := hm
  have HB2 := Lib.hid (HB.out.trans (hf.below HB.out.size))
  have hs := seen_any h2 (0, 7)
  rw [show seenF (bindF [⟨0, 0, 0, 1, 0⟩] (0 + 1) 5 (0, 7)) (0, 7) = (1, 5) from by decide] at hs
  clear hbd h h2 hf e1
  unfold plV at hs
  go_wp2_with fail
  refine hs.mono ?_
  rintro e w3 ⟨rfl, hb3⟩
  have HB3 := Lib.hid (HB2.out.trans (hb3.mono HB2.out.size))
  clear hs hb3
  unfold plV
  go_wp2_with fail
  go_ret
  exact ⟨rfl, HB3.out⟩
theorem hs_drop_held2 {n k : Nat} {h : Int} (hn : 0 < n) (e : n = k) (h0 : 0 < h) : dropE (HS n k h) ((n : Int), 9 + (n : Int)) = 16 := by
  subst e; exact hs_drop_held hn h0
set_option maxRecDepth 100000 in
set_option maxHeartbeats 8000000 in
theorem walk_mountHeld (a b t : Int) (w : World) (ha : (Lit.int .u8 a).wf = true) (hb : (Lit.int .u8 b).wf = true) (ht : (Lit.int .u8 t).wf = true) :
    Calls Try.prog 7 #[.int .u8 a, .int .u8 b, .int .u8 t] w (BoP true w) := by
  obtain ⟨ha0, ha1⟩ := bounds_u8 ha
  obtain ⟨hb0, hb1⟩ := bounds_u8 hb
  obtain ⟨ht0, ht1⟩ := bounds_u8 ht
  obtain ⟨N, hN⟩ : ∃ N : Nat, (N : Int) = 1 + a % 15 := ⟨(1 + a % 15).toNat, by omega⟩
  have hN1 : 1 ≤ N := by omega
  have hN2 : N ≤ 15 := by omega
  have hq0 : 0 ≤ b % (N : Int) := Int.emod_nonneg b (show (N : Int) ≠ 0 by omega)
  have hq1 : b % (N : Int) ≤ 14 := by have := Int.emod_lt_of_pos b (show (0 : Int) < (N : Int) by omega); omega
  obtain ⟨K, hK⟩ : ∃ K : Nat, (K : Int) = 1 + b % (N : Int) := ⟨(1 + b % (N : Int)).toNat, by have := Int.emod_nonneg b (show (N : Int) ≠ 0 by omega); omega⟩
  have hK1 : 1 ≤ K := by have := Int.emod_nonneg b (show (N : Int) ≠ 0 by omega); omega
  have hK2 : K ≤ N := by have := Int.emod_lt_of_pos b (show (0 : Int) < (N : Int) by omega); omega
  obtain ⟨T, hT⟩ : ∃ T : Nat, (T : Int) = t % 4 := ⟨(t % 4).toNat, by omega⟩
  have hT2 : T ≤ 3 := by omega
  have HN := Lib.hid hN.symm
  have HK := Lib.hid hK.symm
  have HT := Lib.hid hT.symm
  clear ha hb ht hN hK hT
  go_enter Try.func7, Try.ntmps7
  go_wp2_with fail
  refine (awake_any w).mono ?_
  rintro e w1 ⟨rfl, hb1'⟩
  have HB := Lib.hid hb1'
  clear hb1'
  go_wp2_with fail
  refine (new_any w1).mono ?_
  rintro e w2 ⟨tb, A, c, rfl, h, hb2⟩
  have HC2 := Lib.hid hb2
  have HM2 := Lib.hid (show Mtb w2 w1.heap.size tb (HS 0 K 0) 0 by rw [hs_zero]; exact ⟨A, c, h⟩)
  clear hb2 h
  go_wp2_with fail
  rw [HN.out]
  go_loopw [23] (fun i wx => ∃ k : Nat, k ≤ N ∧ i = .int .i64 k ∧ Hid (Mtb wx w1.heap.size tb (HS k K 0) k) ∧ Hid (Below w1.heap.size w1 wx)) (fun i _ => N - (intOf i).toNat)
  case atStart => exact ⟨0, by omega, rfl, HM2.out, HC2.out⟩
  case round =>
    obtain ⟨k, hk, rfl, HM, HC⟩ := hrel
    by_cases hlt : k < N
    · obtain ⟨A3, c3, h3⟩ := HM.out
      have hbd := bind_any h3 (10 + (k : Int)) (by omega) ((k : Int), 99) ⟨⟨by show -9223372036854775808 ≤ (k : Int); omega, by show (k : Int) ≤ 9223372036854775807; omega⟩, by show (0 : Int) ≤ 99; decide, by show (99 : Int) ≤ 65535; decide⟩ (by omega)
      unfold BindP plV at hbd
      rw [hs_bind k K (by omega), if_pos rfl, if_pos rfl, if_pos rfl, hs_next] at hbd
      have HBd := Lib.hid hbd
      clear hbd h3
      go_wp2_with fail
      refine HBd.out.mono ?_
      rintro e w4 ⟨rfl, hm4, hf4⟩
      have HM4 := Lib.hid hm4
      have HC4 := Lib.hid (HC.out.trans (hf4.below HC.out.size))
      clear hm4 hf4 HBd
      go_wp2_with fail
      go_roundw
      case rel => exact ⟨k + 1, by omega, by go_num, HM4, HC4⟩
      case measure => simp [intOf]; omega
    · obtain rfl : k = N := by omega
      go_wp2_with fail
      rw [HK.out, HT.out]
      have HKK := Lib.hid HK.out
      go_loopw [47] (fun i wx => ∃ j : Nat, j ≤ T ∧ i = .int .i64 j ∧ Hid (Mtb wx w1.heap.size tb (HS k K j) k) ∧ Hid (Below w1.heap.size w1 wx)) (fun i _ => T - (intOf i).toNat)
      case atStart => exact ⟨0, by omega, rfl, HM.out, HC.out⟩
      case round =>
        rename_i wr2 _ _ _ _ _
        obtain ⟨j, hj, rfl, HM, HC⟩ := hrel
        by_cases hlt : j < T
        · obtain ⟨A3, c3, h3⟩ := HM.out
          have hh := hold_any h3 (K : Int) true (hs_heldle (j := 999999999) (by omega) (by decide))
          unfold HoldP at hh
          rw [hs_holdE hK2, hs_holdF hK2] at hh
          have HH := Lib.hid hh
          clear hh h3
          go_wp2_with fail
          refine HH.out.mono ?_
          rintro e w4 ⟨rfl, hm4, hf4⟩
          have HM4 := Lib.hid hm4
          have HC4 := Lib.hid (HC.out.trans (hf4.below HC.out.size))
          clear hm4 hf4 HH
          go_wp2_with fail
          go_roundw
          case rel => exact ⟨j + 1, by omega, by go_num, HM4, HC4⟩
          case measure => simp [intOf]; omega
        · obtain rfl : j = T := by omega
          go_wp2_with fail
          have HTT := Lib.hid HT.out
          go_loopw [13] (fun i wx => ∃ d : Nat, d ≤ k ∧ i = .int .i64 d ∧ Hid (Mtb wx w1.heap.size tb (HS d K (if d < K then 0 else (j : Int))) k) ∧ Hid (Below w1.heap.size w1 wx)) (fun i _ => (intOf i).toNat)
          case atStart => exact ⟨k, Nat.le_refl _, rfl, by rw [if_neg (by omega)]; exact HM.out, HC.out⟩
          case round =>
            obtain ⟨d, hd, rfl, HM, HC⟩ := hrel
            by_cases hlt : 0 < d
            · have c0 : (0 : Int) < (d : Int) := by omega
              by_cases hbig : 1 < d
              · by_cases hK0 : d = K
                · skip
                  have HK0 := Lib.hid hK0
                  have hKd : K ≤ d := by omega
                  have c2 : ((d : Int) == (K : Int)) = true := by simp; omega
                  rw [if_neg (show ¬ d < K by omega)] at HM
                  have hHd : (0 : Int) ≤ j := by omega
                  clear hK0
                  have HMa := Lib.hid (HM.out.below (oneb wr (.cells #[.int .i64 (d : Int), .int .u16 (9 + (d : Int))] 74)))
                  have HCa := Lib.hid (HC.out.trans ((oneb wr (.cells #[.int .i64 (d : Int), .int .u16 (9 + (d : Int))] 74)).mono HC.out.size))
                  have HKa := Lib.hid (Bk.new wr 74 #[.int .i64 (d : Int), .int .u16 (9 + (d : Int))] (l := [.int .i64 (d : Int), .int .u16 (9 + (d : Int))]) rfl)
                  have c1 : (1 : Int) < (d : Int) := by omega
                  obtain ⟨A3, c3, h3⟩ := HMa.out
                  have hd := drop_any h3 ((d : Int) - 1, 8 + (d : Int))
                  unfold DropP plV at hd
                  rw [show (((d : Int) - 1, 8 + (d : Int)) : Pl) = (((d - 1 : Nat) : Int), 9 + ((d - 1 : Nat) : Int)) from by rw [show (d : Int) - 1 = ((d - 1 : Nat) : Int) by omega, show 8 + (d : Int) = 9 + ((d - 1 : Nat) : Int) by omega]] at hd
                  rw [hs_drop_in (by omega) (by omega), if_neg (by decide)] at hd
                  dsimp only at hd
                  rw [show ((d - 1 : Nat) : Int) = (d : Int) - 1 by omega, show 9 + ((d : Int) - 1) = 8 + (d : Int) by omega] at hd
                  have HD := Lib.hid hd
                  clear hd h3
                  go_wp2_with fail
                  refine HD.out.mono ?_
                  rintro e wb ⟨rfl, hm4, hf4⟩
                  have HM_wb := Lib.hid hm4
                  have HC_wb := Lib.hid (HCa.out.trans (hf4.below HCa.out.size))
                  have HK_wb := Lib.hid (hf4.bk HKa.out (by decide))
                  clear hm4 hf4 HD
                  obtain ⟨g, hgg⟩ : ∃ g, g = wr.heap.size := ⟨_, rfl⟩
                  rw [← hgg] at HK_wb ⊢
                  clear hgg HMa HCa HKa
                  go_wp2_with fail
                  rw [HTT.out]
                  go_loopw [80] (fun i wx => ∃ q : Nat, q ≤ j ∧ i = .int .i64 q ∧ Hid (Mtb wx w1.heap.size tb (HS d K ((j : Int) - q)) k) ∧ Hid (Bk wx g 74 [.int .i64 (d : Int), .int .u16 (9 + (d : Int))]) ∧ Hid (Below w1.heap.size w1 wx)) (fun i _ => j - (intOf i).toNat)
                  case atStart => exact ⟨0, by omega, rfl, by rw [show (j : Int) - ((0 : Nat) : Int) = j by omega]; exact HM_wb.out, HK_wb.out, HC_wb.out⟩
                  case round =>
                    obtain ⟨q, hq, rfl, HM5, HK5, HC5⟩ := hrel
                    by_cases hlt2 : q < j
                    · obtain ⟨l0, k0, k1, -, -⟩ := Bk.all2 HK5.out
                      obtain ⟨A3, c3, h3⟩ := HM5.out
                      have hd := drop_any h3 ((d : Int), 9 + (d : Int))
                      unfold DropP plV at hd
                      rw [hs_drop_held2 (by omega) HK0.out (by omega), if_neg (by decide)] at hd
                      dsimp only at hd
                      have HD := Lib.hid hd
                      clear hd h3
                      go_wp2_with fail
                      refine HD.out.mono ?_
                      rintro e wc ⟨rfl, hm4, hf4⟩
                      have HM_wc := Lib.hid hm4
                      have HC_wc := Lib.hid (HC5.out.trans (hf4.below HC5.out.size))
                      have HK_wc := Lib.hid (hf4.bk HK5.out (by decide))
                      clear hm4 hf4 HD
                      clear k0 k1 l0
                      obtain ⟨A3, c3, h3⟩ := HM_wc.out
                      have hh := hold_any h3 (K : Int) false (hs_heldle (j := 999999999) (by omega) (by decide))
                      unfold HoldP at hh
                      rw [hs_lessE hKd (by omega), hs_lessF hKd (by omega)] at hh
                      have HH := Lib.hid hh
                      clear hh h3
                      go_wp2_with fail
                      refine HH.out.mono ?_
                      rintro e wd ⟨rfl, hm4, hf4⟩
                      have HM6 := Lib.hid (show Mtb wd w1.heap.size tb (HS d K ((j : Int) - ((q + 1 : Nat) : Int))) k by rw [show (j : Int) - ((q + 1 : Nat) : Int) = (j : Int) - q - 1 by omega]; exact hm4)
                      have HC6 := Lib.hid (HC_wc.out.trans (hf4.below HC_wc.out.size))
                      have HK6 := Lib.hid (hf4.bk HK_wc.out (by decide))
                      clear hm4 hf4 HH
                      go_wp2_with fail
                      go_roundw
                      case rel => exact ⟨q + 1, by omega, by go_num, HM6, HK6, HC6⟩
                      case measure => simp [intOf]; omega
                    · have hqj : (j : Int) - q = 0 := by omega
                      rw [hqj] at HM5
                      have hlt3 : ¬ (q : Int) < j := by omega
                      clear hqj
                      obtain ⟨l0, k0, k1, -, -⟩ := Bk.all2 HK5.out
                      obtain ⟨A3, c3, h3⟩ := HM5.out
                      have hd := drop_any h3 ((d : Int), 9 + (d : Int))
                      unfold DropP plV at hd
                      rw [hs_drop_ok (by omega) (fun _ => rfl), if_pos rfl, (hs_id (Nat.le_refl d)).2] at hd
                      have hcut := hs_cut (d - 1) K 0
                      rw [show d - 1 + 1 = d by omega] at hcut
                      rw [hcut] at hd
                      clear hcut
                      dsimp only at hd
                      have HD := Lib.hid hd
                      clear hd h3
                      go_wp2_with fail
                      refine HD.out.mono ?_
                      rintro e we ⟨rfl, hm4, hf4⟩
                      have HM_we := Lib.hid hm4
                      have HC_we := Lib.hid (HC5.out.trans (hf4.below HC5.out.size))
                      have HK_we := Lib.hid (hf4.bk HK5.out (by decide))
                      clear hm4 hf4 HD
                      clear k0 k1 l0
                      obtain ⟨l0, k0, k1, -, -⟩ := Bk.all2 HK_we.out
                      obtain ⟨A3, c3, h3⟩ := HM_we.out
                      have hd := drop_any h3 ((d : Int), 9 + (d : Int))
                      unfold DropP plV at hd
                      rw [hs_drop_no (by omega), if_neg (by decide)] at hd
                      dsimp only at hd
                      have HD := Lib.hid hd
                      clear hd h3
                      go_wp2_with fail
                      refine HD.out.mono ?_
                      rintro e wf ⟨rfl, hm4, hf4⟩
                      have HM_wf := Lib.hid hm4
                      have HC_wf := Lib.hid (HC_we.out.trans (hf4.below HC_we.out.size))
                      have HK_wf := Lib.hid (hf4.bk HK_we.out (by decide))
                      clear hm4 hf4 HD
                      clear k0 k1 l0
                      have HMf := Lib.hid (show Mtb wf w1.heap.size tb (HS (d - 1) K (if d - 1 < K then 0 else (j : Int))) k by rw [if_pos (by have := HK0.out; omega)]; exact HM_wf.out)
                      go_wp2_with fail
                      go_roundw
                      case rel => exact ⟨d - 1, by omega, by rw [show (((d - 1 : Nat) : Int)) = (d : Int) - 1 by omega], HMf, HC_wf⟩
                      case measure => simp [intOf]; omega
                · skip
                  have HK0 := Lib.hid hK0
                  have c2 : ((d : Int) == (K : Int)) = false := by simp; omega
                  clear hK0
                  have HMa := Lib.hid (HM.out.below (oneb wr (.cells #[.int .i64 (d : Int), .int .u16 (9 + (d : Int))] 74)))
                  have HCa := Lib.hid (HC.out.trans ((oneb wr (.cells #[.int .i64 (d : Int), .int .u16 (9 + (d : Int))] 74)).mono HC.out.size))
                  have HKa := Lib.hid (Bk.new wr 74 #[.int .i64 (d : Int), .int .u16 (9 + (d : Int))] (l := [.int .i64 (d : Int), .int .u16 (9 + (d : Int))]) rfl)
                  have c1 : (1 : Int) < (d : Int) := by omega
                  obtain ⟨A3, c3, h3⟩ := HMa.out
                  have hd := drop_any h3 ((d : Int) - 1, 8 + (d : Int))
                  unfold DropP plV at hd
                  rw [show (((d : Int) - 1, 8 + (d : Int)) : Pl) = (((d - 1 : Nat) : Int), 9 + ((d - 1 : Nat) : Int)) from by rw [show (d : Int) - 1 = ((d - 1 : Nat) : Int) by omega, show 8 + (d : Int) = 9 + ((d - 1 : Nat) : Int) by omega]] at hd
                  rw [hs_drop_in (by omega) (by omega), if_neg (by decide)] at hd
                  dsimp only at hd
                  rw [show ((d - 1 : Nat) : Int) = (d : Int) - 1 by omega, show 9 + ((d : Int) - 1) = 8 + (d : Int) by omega] at hd
                  have HD := Lib.hid hd
                  clear hd h3
                  go_wp2_with fail
                  refine HD.out.mono ?_
                  rintro e wb ⟨rfl, hm4, hf4⟩
                  have HM_wb := Lib.hid hm4
                  have HC_wb := Lib.hid (HCa.out.trans (hf4.below HCa.out.size))
                  have HK_wb := Lib.hid (hf4.bk HKa.out (by decide))
                  clear hm4 hf4 HD
                  obtain ⟨g, hgg⟩ : ∃ g, g = wr.heap.size := ⟨_, rfl⟩
                  rw [← hgg] at HK_wb ⊢
                  clear hgg HMa HCa HKa
                  obtain ⟨l0, k0, k1, -, -⟩ := Bk.all2 HK_wb.out
                  obtain ⟨A3, c3, h3⟩ := HM_wb.out
                  have hd := drop_any h3 ((d : Int), 9 + (d : Int))
                  unfold DropP plV at hd
                  rw [hs_drop_ok (by omega) (fun e => absurd e HK0.out), if_pos rfl, (hs_id (Nat.le_refl d)).2] at hd
                  have hcut := hs_cut (d - 1) K (if d < K then 0 else (j : Int))
                  rw [show d - 1 + 1 = d by omega] at hcut
                  rw [hcut] at hd
                  clear hcut
                  dsimp only at hd
                  have HD := Lib.hid hd
                  clear hd h3
                  go_wp2_with fail
                  refine HD.out.mono ?_
                  rintro e we ⟨rfl, hm4, hf4⟩
                  have HM_we := Lib.hid hm4
                  have HC_we := Lib.hid (HC_wb.out.trans (hf4.below HC_wb.out.size))
                  have HK_we := Lib.hid (hf4.bk HK_wb.out (by decide))
                  clear hm4 hf4 HD
                  clear k0 k1 l0
                  obtain ⟨l0, k0, k1, -, -⟩ := Bk.all2 HK_we.out
                  obtain ⟨A3, c3, h3⟩ := HM_we.out
                  have hd := drop_any h3 ((d : Int), 9 + (d : Int))
                  unfold DropP plV at hd
                  rw [hs_drop_no (by omega), if_neg (by decide)] at hd
                  dsimp only at hd
                  have HD := Lib.hid hd
                  clear hd h3
                  go_wp2_with fail
                  refine HD.out.mono ?_
                  rintro e wf ⟨rfl, hm4, hf4⟩
                  have HM_wf := Lib.hid hm4
                  have HC_wf := Lib.hid (HC_we.out.trans (hf4.below HC_we.out.size))
                  have HK_wf := Lib.hid (hf4.bk HK_we.out (by decide))
                  clear hm4 hf4 HD
                  clear k0 k1 l0
                  have HMf := Lib.hid (show Mtb wf w1.heap.size tb (HS (d - 1) K (if d - 1 < K then 0 else (j : Int))) k by
                    have h9 := HM_wf.out
                    have h8 := HK0.out
                    by_cases q9 : d < K
                    · rw [if_pos q9] at h9; rw [if_pos (by omega)]; exact h9
                    · rw [if_neg q9] at h9; rw [if_neg (by omega)]; exact h9)
                  go_wp2_with fail
                  go_roundw
                  case rel => exact ⟨d - 1, by omega, by rw [show (((d - 1 : Nat) : Int)) = (d : Int) - 1 by omega], HMf, HC_wf⟩
                  case measure => simp [intOf]; omega
              · by_cases hK0 : d = K
                · skip
                  have HK0 := Lib.hid hK0
                  have hKd : K ≤ d := by omega
                  have c2 : ((d : Int) == (K : Int)) = true := by simp; omega
                  rw [if_neg (show ¬ d < K by omega)] at HM
                  have hHd : (0 : Int) ≤ j := by omega
                  clear hK0
                  have HMa := Lib.hid (HM.out.below (oneb wr (.cells #[.int .i64 (d : Int), .int .u16 (9 + (d : Int))] 74)))
                  have HCa := Lib.hid (HC.out.trans ((oneb wr (.cells #[.int .i64 (d : Int), .int .u16 (9 + (d : Int))] 74)).mono HC.out.size))
                  have HKa := Lib.hid (Bk.new wr 74 #[.int .i64 (d : Int), .int .u16 (9 + (d : Int))] (l := [.int .i64 (d : Int), .int .u16 (9 + (d : Int))]) rfl)
                  have c1 : ¬ (1 : Int) < (d : Int) := by omega
                  have HM_wb := HMa
                  have HC_wb := HCa
                  have HK_wb := HKa
                  clear HMa HCa HKa
                  go_wp2_with fail
                  obtain ⟨g, hgg⟩ : ∃ g, g = wr.heap.size := ⟨_, rfl⟩
                  rw [← hgg] at HK_wb ⊢
                  clear hgg
                  generalize wr.alloc (.cells #[.int .i64 (d : Int), .int .u16 (9 + (d : Int))] 74) = wb at HM_wb HC_wb HK_wb ⊢
                  rw [HTT.out]
                  go_loopw [80] (fun i wx => ∃ q : Nat, q ≤ j ∧ i = .int .i64 q ∧ Hid (Mtb wx w1.heap.size tb (HS d K ((j : Int) - q)) k) ∧ Hid (Bk wx g 74 [.int .i64 (d : Int), .int .u16 (9 + (d : Int))]) ∧ Hid (Below w1.heap.size w1 wx)) (fun i _ => j - (intOf i).toNat)
                  case atStart => exact ⟨0, by omega, rfl, by rw [show (j : Int) - ((0 : Nat) : Int) = j by omega]; exact HM_wb.out, HK_wb.out, HC_wb.out⟩
                  case round =>
                    obtain ⟨q, hq, rfl, HM5, HK5, HC5⟩ := hrel
                    by_cases hlt2 : q < j
                    · obtain ⟨l0, k0, k1, -, -⟩ := Bk.all2 HK5.out
                      obtain ⟨A3, c3, h3⟩ := HM5.out
                      have hd := drop_any h3 ((d : Int), 9 + (d : Int))
                      unfold DropP plV at hd
                      rw [hs_drop_held2 (by omega) HK0.out (by omega), if_neg (by decide)] at hd
                      dsimp only at hd
                      have HD := Lib.hid hd
                      clear hd h3
                      go_wp2_with fail
                      refine HD.out.mono ?_
                      rintro e wc ⟨rfl, hm4, hf4⟩
                      have HM_wc := Lib.hid hm4
                      have HC_wc := Lib.hid (HC5.out.trans (hf4.below HC5.out.size))
                      have HK_wc := Lib.hid (hf4.bk HK5.out (by decide))
                      clear hm4 hf4 HD
                      clear k0 k1 l0
                      obtain ⟨A3, c3, h3⟩ := HM_wc.out
                      have hh := hold_any h3 (K : Int) false (hs_heldle (j := 999999999) (by omega) (by decide))
                      unfold HoldP at hh
                      rw [hs_lessE hKd (by omega), hs_lessF hKd (by omega)] at hh
                      have HH := Lib.hid hh
                      clear hh h3
                      go_wp2_with fail
                      refine HH.out.mono ?_
                      rintro e wd ⟨rfl, hm4, hf4⟩
                      have HM6 := Lib.hid (show Mtb wd w1.heap.size tb (HS d K ((j : Int) - ((q + 1 : Nat) : Int))) k by rw [show (j : Int) - ((q + 1 : Nat) : Int) = (j : Int) - q - 1 by omega]; exact hm4)
                      have HC6 := Lib.hid (HC_wc.out.trans (hf4.below HC_wc.out.size))
                      have HK6 := Lib.hid (hf4.bk HK_wc.out (by decide))
                      clear hm4 hf4 HH
                      go_wp2_with fail
                      go_roundw
                      case rel => exact ⟨q + 1, by omega, by go_num, HM6, HK6, HC6⟩
                      case measure => simp [intOf]; omega
                    · have hqj : (j : Int) - q = 0 := by omega
                      rw [hqj] at HM5
                      have hlt3 : ¬ (q : Int) < j := by omega
                      clear hqj
                      obtain ⟨l0, k0, k1, -, -⟩ := Bk.all2 HK5.out
                      obtain ⟨A3, c3, h3⟩ := HM5.out
                      have hd := drop_any h3 ((d : Int), 9 + (d : Int))
                      unfold DropP plV at hd
                      rw [hs_drop_ok (by omega) (fun _ => rfl), if_pos rfl, (hs_id (Nat.le_refl d)).2] at hd
                      have hcut := hs_cut (d - 1) K 0
                      rw [show d - 1 + 1 = d by omega] at hcut
                      rw [hcut] at hd
                      clear hcut
                      dsimp only at hd
                      have HD := Lib.hid hd
                      clear hd h3
                      go_wp2_with fail
                      refine HD.out.mono ?_
                      rintro e we ⟨rfl, hm4, hf4⟩
                      have HM_we := Lib.hid hm4
                      have HC_we := Lib.hid (HC5.out.trans (hf4.below HC5.out.size))
                      have HK_we := Lib.hid (hf4.bk HK5.out (by decide))
                      clear hm4 hf4 HD
                      clear k0 k1 l0
                      obtain ⟨l0, k0, k1, -, -⟩ := Bk.all2 HK_we.out
                      obtain ⟨A3, c3, h3⟩ := HM_we.out
                      have hd := drop_any h3 ((d : Int), 9 + (d : Int))
                      unfold DropP plV at hd
                      rw [hs_drop_no (by omega), if_neg (by decide)] at hd
                      dsimp only at hd
                      have HD := Lib.hid hd
                      clear hd h3
                      go_wp2_with fail
                      refine HD.out.mono ?_
                      rintro e wf ⟨rfl, hm4, hf4⟩
                      have HM_wf := Lib.hid hm4
                      have HC_wf := Lib.hid (HC_we.out.trans (hf4.below HC_we.out.size))
                      have HK_wf := Lib.hid (hf4.bk HK_we.out (by decide))
                      clear hm4 hf4 HD
                      clear k0 k1 l0
                      have HMf := Lib.hid (show Mtb wf w1.heap.size tb (HS (d - 1) K (if d - 1 < K then 0 else (j : Int))) k by rw [if_pos (by have := HK0.out; omega)]; exact HM_wf.out)
                      go_wp2_with fail
                      go_roundw
                      case rel => exact ⟨d - 1, by omega, by rw [show (((d - 1 : Nat) : Int)) = (d : Int) - 1 by omega], HMf, HC_wf⟩
                      case measure => simp [intOf]; omega
                · skip
                  have HK0 := Lib.hid hK0
                  have c2 : ((d : Int) == (K : Int)) = false := by simp; omega
                  clear hK0
                  have HMa := Lib.hid (HM.out.below (oneb wr (.cells #[.int .i64 (d : Int), .int .u16 (9 + (d : Int))] 74)))
                  have HCa := Lib.hid (HC.out.trans ((oneb wr (.cells #[.int .i64 (d : Int), .int .u16 (9 + (d : Int))] 74)).mono HC.out.size))
                  have HKa := Lib.hid (Bk.new wr 74 #[.int .i64 (d : Int), .int .u16 (9 + (d : Int))] (l := [.int .i64 (d : Int), .int .u16 (9 + (d : Int))]) rfl)
                  have c1 : ¬ (1 : Int) < (d : Int) := by omega
                  have HM_wb := HMa
                  have HC_wb := HCa
                  have HK_wb := HKa
                  clear HMa HCa HKa
                  obtain ⟨l0, k0, k1, -, -⟩ := Bk.all2 HK_wb.out
                  obtain ⟨A3, c3, h3⟩ := HM_wb.out
                  have hd := drop_any h3 ((d : Int), 9 + (d : Int))
                  unfold DropP plV at hd
                  rw [hs_drop_ok (by omega) (fun e => absurd e HK0.out), if_pos rfl, (hs_id (Nat.le_refl d)).2] at hd
                  have hcut := hs_cut (d - 1) K (if d < K then 0 else (j : Int))
                  rw [show d - 1 + 1 = d by omega] at hcut
                  rw [hcut] at hd
                  clear hcut
                  dsimp only at hd
                  have HD := Lib.hid hd
                  clear hd h3
                  go_wp2_with fail
                  refine HD.out.mono ?_
                  rintro e we ⟨rfl, hm4, hf4⟩
                  have HM_we := Lib.hid hm4
                  have HC_we := Lib.hid (HC_wb.out.trans (hf4.below HC_wb.out.size))
                  have HK_we := Lib.hid (hf4.bk HK_wb.out (by decide))
                  clear hm4 hf4 HD
                  clear k0 k1 l0
                  obtain ⟨l0, k0, k1, -, -⟩ := Bk.all2 HK_we.out
                  obtain ⟨A3, c3, h3⟩ := HM_we.out
                  have hd := drop_any h3 ((d : Int), 9 + (d : Int))
                  unfold DropP plV at hd
                  rw [hs_drop_no (by omega), if_neg (by decide)] at hd
                  dsimp only at hd
                  have HD := Lib.hid hd
                  clear hd h3
                  go_wp2_with fail
                  refine HD.out.mono ?_
                  rintro e wf ⟨rfl, hm4, hf4⟩
                  have HM_wf := Lib.hid hm4
                  have HC_wf := Lib.hid (HC_we.out.trans (hf4.below HC_we.out.size))
                  have HK_wf := Lib.hid (hf4.bk HK_we.out (by decide))
                  clear hm4 hf4 HD
                  clear k0 k1 l0
                  have HMf := Lib.hid (show Mtb wf w1.heap.size tb (HS (d - 1) K (if d - 1 < K then 0 else (j : Int))) k by
                    have h9 := HM_wf.out
                    have h8 := HK0.out
                    by_cases q9 : d < K
                    · rw [if_pos q9] at h9; rw [if_pos (by omega)]; exact h9
                    · rw [if_neg q9] at h9; rw [if_neg (by omega)]; exact h9)
                  go_wp2_with fail
                  go_roundw
                  case rel => exact ⟨d - 1, by omega, by rw [show (((d - 1 : Nat) : Int)) = (d : Int) - 1 by omega], HMf, HC_wf⟩
                  case measure => simp [intOf]; omega
            · obtain rfl : d = 0 := by omega
              rw [if_pos (by omega)] at HM
              obtain ⟨A3, c3, h3⟩ := HM.out
              have hl := list_any h3
              have Hl3 := Lib.hid h3
              unfold LsP at hl
              rw [hs_len] at hl
              clear h3
              go_wp2_with fail
              refine hl.mono ?_
              rintro e w5 ⟨A4, c4, rfl, -, hb5⟩
              have HC5 := Lib.hid (HC.out.trans (hb5.mono HC.out.size))
              have Hl5 := Lib.hid (Hl3.out.below hb5)
              clear hb5 hl
              go_wp2_with fail
              refine (mtop_any w5).mono ?_
              rintro e w6 ⟨rfl, hb6⟩
              have HC6 := Lib.hid (HC5.out.trans (hb6.mono HC5.out.size))
              have hd := drop_any (Hl5.out.below hb6) (0, 1)
              unfold DropP at hd
              rw [hs_top, if_neg (by decide)] at hd
              clear hb6
              go_wp2_with fail
              refine hd.mono ?_
              rintro e w7 ⟨rfl, -, hf7⟩
              have HC7 := Lib.hid (HB.out.trans ((HC6.out.trans (hf7.below HC6.out.size)).mono HB.out.size))
              clear hd hf7
              go_wp2_with fail
              go_ret
              exact ⟨rfl, HC7.out⟩
end Go.Proofs.Ytmbgmbheonpamaa.Mt
