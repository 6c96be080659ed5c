/- InodeFull: the walk. -/
import Derived.Test.YtdlglllidolggaaInFm
import Derived.Test.YtdlglllidolggaaInR
import Derived.Test.YtdlglllidolggaaInTx
namespace Go.Proofs.Ytdlglllidolggaa.In
open Go.RowKit Go.Maps Go.WideMaps
theorem str_of (a : Array UInt8) (l : Bs) (h : a.toList = l) : ((⟨a⟩ : ByteArray)).data.toList = l := h
theorem two_conv (w : World) (x y : Int) (a b : Nat) (hx : x = a) (hy : y = b) :
    (convert 38 9 (.slice (some ⟨w.heap.size, 0, none⟩) 2 2)).run Try.prog (w.alloc (.cells #[.int .u8 x, .int .u8 y] 5)) = .ok (.string ⟨#[UInt8.ofNat a, UInt8.ofNat b]⟩) (w.alloc (.cells #[.int .u8 x, .int .u8 y] 5)) := by
  subst hx hy
  have hB : Bk (w.alloc (.cells #[.int .u8 (a : Int), .int .u8 (b : Int)] 5)) w.heap.size 5 (u8s [a, b]) := Bk.new w _ _ rfl
  have := text_of (c := 2) (ns := [a, b]) (hB.seg (B := 0) (n := 2) (z := 1) rfl (Nat.zero_le _)).rd
  rw [this]
  simp [strOfNums]
theorem nm_str (i : Nat) : ((⟨#[110]⟩ : ByteArray) ++ ⟨#[UInt8.ofNat (97 + i / 10), UInt8.ofNat (48 + i % 10)]⟩).data.toList = nmB i := rfl
set_option maxRecDepth 100000 in
set_option maxHeartbeats 8000000 in
theorem walk_inodeFull (n : Int) (mv : Bool) (w : World) (hn : (Lit.int .u8 n).wf = true) :
    Calls Try.prog 5 #[.int .u8 n, .bool mv] w (BoolP true w) := by
  obtain ⟨hn0, hn1⟩ := bounds_u8 hn
  obtain ⟨N, rfl⟩ : ∃ N : Nat, n = (N : Int) := ⟨n.toNat, by omega⟩
  have hN : N ≤ 255 := by omega
  clear hn hn0 hn1
  go_enter Try.func5, Try.ntmps5
  go_wp2_with fail
  refine (awake_any w).mono ?_
  rintro e w1 ⟨rfl, hb⟩
  have HB := Lib.hid hb
  clear hb
  go_wp2_with fail
  refine (new_any w1 100 (by decide)).mono ?_
  rintro e w2 ⟨tb, rfl, htb, ⟨A, nb, mb, h⟩, hb⟩
  have HC2 := Lib.hid hb
  have Htb := Lib.hid htb
  clear hb htb
  have hm : Calls _ _ _ _ (MakeP w2 w1.heap.size tb (makeF (newT 100) 0 1 fulB 2 ⟨#[]⟩)) := make_any h (i := 1) (k := 2) (by decide) (by decide) ⟨#[102, 117, 108, 108]⟩ ⟨#[]⟩ (small_str _ (by decide)) (small_str _ (by decide)) (by decide) 0 (fun _ _ => ⟨1, [1], by decide, by decide, rfl⟩)
  rw [mk1] at hm
  clear h
  go_wp2_with fail
  refine hm.mono ?_
  rintro e w3 ⟨rfl, ⟨A3, nb3, mb3, h3⟩, hF3⟩
  have HC3 := Lib.hid (HC2.out.trans (hF3.below HC2.out.size))
  clear hm hF3
  have hm : Calls _ _ _ _ (MakeP w3 w1.heap.size tb (makeF sA 0 1 othB 1 ⟨#[]⟩)) := make_any h3 (i := 1) (k := 1) (by decide) (by decide) ⟨#[111, 116, 104, 101, 114]⟩ ⟨#[]⟩ (small_str _ (by decide)) (small_str _ (by decide)) (by decide) 0 (fun e => by cases e)
  rw [mk2] at hm
  clear h3
  go_wp2_with fail
  refine hm.mono ?_
  rintro e w4 ⟨rfl, ⟨A4, nb4, mb4, h4⟩, hF4⟩
  have HC4 := Lib.hid (HC3.out.trans (hF4.below HC3.out.size))
  have HT4 := Lib.hid (show Tab w4 w1.heap.size tb (fS 0) from ⟨A4, nb4, mb4, h4⟩)
  clear hm hF4 h4
  obtain ⟨M, hM⟩ : ∃ M, M = 28 + N % 8 := ⟨_, rfl⟩
  have hM1 : 28 ≤ M := by omega
  have hM2 : M ≤ 35 := by omega
  have HM := Lib.hid (show (28 + (N : Int) % 8) = (M : Int) by omega)
  clear hM
  go_wp2_with fail
  rw [HM.out]
  go_loopw [37] (fun i wx => ∃ k : Nat, k ≤ M ∧ i = .int .i64 k ∧ Hid (Tab wx w1.heap.size tb (fS k)) ∧ Hid (Below w1.heap.size w1 wx)) (fun i _ => M - (intOf i).toNat)
  case atStart => exact ⟨0, by omega, rfl, HT4.out, HC4.out⟩
  case round =>
    obtain ⟨k, hk, rfl, HT, HC⟩ := hrel
    by_cases hlt : k < M
    · obtain ⟨A5, nb5, mb5, h5⟩ := HT.out
      obtain ⟨q, hq⟩ : ∃ q, q = k / 10 := ⟨_, rfl⟩
      obtain ⟨r, hr⟩ : ∃ r, r = k % 10 := ⟨_, rfl⟩
      have hq2 : q ≤ 3 := by omega
      have hr2 : r ≤ 9 := by omega
      have e1 : (k : Int) / 10 = (q : Int) := by omega
      have e2 : (k : Int) % 10 = (r : Int) := by omega
      have hcv := two_conv wr (97 + (q : Int)) (48 + (r : Int)) (97 + q) (48 + r) (by simp) (by simp)
      obtain ⟨sx, hsx⟩ : ∃ sx : ByteArray, sx = ⟨#[UInt8.ofNat (97 + q), UInt8.ofNat (48 + r)]⟩ := ⟨_, rfl⟩
      rw [← hsx] at hcv
      have hnm : ((⟨#[110]⟩ : ByteArray) ++ sx).data.toList = nmB k := by rw [hsx, hq, hr]; exact nm_str k
      have hsz : sx.size = 2 := by rw [hsx]; rfl
      have Hnm := Lib.hid hnm
      have hst := step_all k (by omega)
      have h6 := h5.below (oneb wr (.cells #[.int .u8 (97 + (q : Int)), .int .u8 (48 + (r : Int))] 5))
      have hmk : Calls _ _ _ _ (MakeP _ w1.heap.size tb (makeF (fS k) 0 2 (((⟨#[110]⟩ : ByteArray) ++ sx).data.toList) 1 ⟨#[]⟩)) := make_any h6 (i := 2) (k := 1) (by decide) (by decide) ((⟨#[110]⟩ : ByteArray) ++ sx) ⟨#[]⟩ (by rw [← len_size, hnm]; show 3 ≤ maxLen; unfold maxLen; omega) (small_str _ (by decide)) (by show 2 + min k 32 < 1000000000; omega) 0 (fun e => by cases e)
      rw [Hnm.out, hst] at hmk
      by_cases h32 : k < 32
      · rw [if_pos h32, if_pos h32] at hmk
        have HMK := Lib.hid hmk
        have c32 : (k : Int) < 32 := by omega
        clear hnm hsx hq hr h5 h6 hmk hst HT h32
        go_wp2_with fail
        refine HMK.out.mono ?_
        rintro e w6 ⟨rfl, hT6, hF6⟩
        have HT6 := Lib.hid hT6
        have HC6 := Lib.hid ((HC.out.alloc HC.out.size (.cells #[.int .u8 (97 + (q : Int)), .int .u8 (48 + (r : Int))] 5)).trans (hF6.below (Nat.le_trans HC.out.size (by simp))))
        clear hT6 hF6 HMK
        go_wp2
        go_roundw
        case rel => exact ⟨k + 1, by omega, by go_num, HT6.out, HC6.out⟩
        case measure => simp [intOf]; omega
      · rw [if_neg h32, if_neg h32] at hmk
        have HMK := Lib.hid hmk
        have c32 : ¬ (k : Int) < 32 := by omega
        clear hnm hsx hq hr h5 h6 hmk hst HT h32
        go_wp2_with fail
        refine HMK.out.mono ?_
        rintro e w6 ⟨rfl, hT6, hF6⟩
        have HT6 := Lib.hid hT6
        have HC6 := Lib.hid ((HC.out.alloc HC.out.size (.cells #[.int .u8 (97 + (q : Int)), .int .u8 (48 + (r : Int))] 5)).trans (hF6.below (Nat.le_trans HC.out.size (by simp))))
        clear hT6 hF6 HMK
        go_wp2
        go_roundw
        case rel => exact ⟨k + 1, by omega, by go_num, HT6.out, HC6.out⟩
        case measure => simp [intOf]; omega
    · obtain rfl : k = M := by omega
      clear hlt
      by_cases hc : k < 31
      · have c1 : ¬ (32 : Int) ≤ (k : Int) := by omega
        have c2 : ((k : Int) == 31) = false := by simp; omega
        have ht0 : Tab wr w1.heap.size tb (fT k) := by have h := HT.out; unfold fS at h; rwa [show min k 32 = k from Nat.min_eq_left (by omega)] at h
        obtain ⟨A5, nb5, mb5, h5⟩ := ht0
        have hm1 : Calls _ _ _ _ (OneP wr w1.heap.size tb A5 nb5 mb5 (moveF (fT k) [] 0 2 na0B 2 zzB)) := move_any h5 (inn := 2) (tt := 2) (by decide) (by decide) ⟨#[110, 97, 48]⟩ ⟨#[122, 122]⟩ (small_str _ (by decide)) (small_str _ (by decide)) (lv0 k (by omega)).1 (lv0 k (by omega)).2 (by show 2 + k < 999999999; omega) [] 0 (fun _ h2 => absurd h2 (fm_five (P := fun m => ((fT m).nd (lookF (fT m) 2 na0B).1).kd ≠ 2) (by decide) (by decide) (by decide) (by decide) (by decide) k hM1 (by omega)))
        rw [mv1 k hM1 (by omega)] at hm1
        have HM1 := Lib.hid hm1
        clear hm1 h5 HT
        go_wp2_with fail
        refine HM1.out.mono ?_
        rintro e w6 ⟨rfl, hT6, hF6⟩
        have hT6 : TabR w6 w1.heap.size tb (s1 k) A5 nb5 mb5 := hT6
        have HC6 := Lib.hid (HC.out.trans (hF6.below HC.out.size))
        have hm2 : Calls _ _ _ _ (OneP w6 w1.heap.size tb A5 nb5 mb5 (addF (s1 k) 2 morB 3)) := add_any hT6 (i := 2) (n := 3) (by decide) (by decide) ⟨#[109, 111, 114, 101]⟩ (small_str _ (by decide)) (Nat.lt_of_lt_of_le (show (s1 k).ch < 999999999 from (by show 3 + k < 999999999; omega)) (by decide))
        rw [ad2 k hM1 (by omega)] at hm2
        have HM2 := Lib.hid hm2
        clear hm2 hT6 hF6 HM1
        go_wp2_with fail
        refine HM2.out.mono ?_
        rintro e w7 ⟨rfl, hT7, hF7⟩
        have hT7 : TabR w7 w1.heap.size tb (s2 k) A5 nb5 mb5 := hT7
        have HC7 := Lib.hid (HC6.out.trans (hF7.below HC6.out.size))
        have hm3 : Calls _ _ _ _ (OneP w7 w1.heap.size tb A5 nb5 mb5 (moveF (s2 k) [] 0 1 othB 2 movB)) := move_any hT7 (inn := 1) (tt := 2) (by decide) (by decide) ⟨#[111, 116, 104, 101, 114]⟩ ⟨#[109, 111, 118, 101, 100]⟩ (small_str _ (by decide)) (small_str _ (by decide)) (lv2 k hM1 (by omega)).1 (lv2 k hM1 (by omega)).2 (by show 4 + k < 999999999; omega) [] 0 (fun _ h2 => absurd h2 (fm_three (P := fun m => ((s2 m).nd (lookF (s2 m) 1 othB).1).kd ≠ 2) (by decide) (by decide) (by decide) k hM1 hc))
        rw [mv3 k hM1 hc] at hm3
        have HM3 := Lib.hid hm3
        clear hm3 hT7 hF7 HM2
        go_wp2_with fail
        refine HM3.out.mono ?_
        rintro e w8 ⟨rfl, hT8, hF8⟩
        have hT8 : TabR w8 w1.heap.size tb (s3 k) A5 nb5 mb5 := hT8
        have HC8 := Lib.hid (HC7.out.trans (hF8.below HC7.out.size))
        have hm4 : Calls _ _ _ _ (OneP w8 w1.heap.size tb A5 nb5 mb5 (moveF (s3 k) [] 0 1 othB 2 na1B)) := move_any hT8 (inn := 1) (tt := 2) (by decide) (by decide) ⟨#[111, 116, 104, 101, 114]⟩ ⟨#[110, 97, 49]⟩ (small_str _ (by decide)) (small_str _ (by decide)) (lv3 k hM1 hc).1 (lv3 k hM1 hc).2 (by show 5 + k < 999999999; omega) [] 0 (fun _ h2 => absurd h2 (fm_three (P := fun m => ((s3 m).nd (lookF (s3 m) 1 othB).1).kd ≠ 2) (by decide) (by decide) (by decide) k hM1 hc))
        have HM4 := Lib.hid hm4
        clear hm4 hT8 hF8 HM3
        go_wp2_with fail
        refine HM4.out.mono ?_
        rintro e w9 ⟨rfl, hT9, hF9⟩
        rw [mv4 k]
        have HC9 := Lib.hid (HC8.out.trans (hF9.below HC8.out.size))
        clear hT9 hF9 HM4
        go_wp2
        go_ret
        exact ⟨rfl, HB.out.trans (HC9.out.mono HB.out.size)⟩
      by_cases hc2 : k = 31
      · subst hc2
        have ht0 : Tab wr w1.heap.size tb (fT 31) := by have h := HT.out; unfold fS at h; rwa [show min 31 32 = 31 from rfl] at h
        obtain ⟨A5, nb5, mb5, h5⟩ := ht0
        have hm1 : Calls _ _ _ _ (OneP wr w1.heap.size tb A5 nb5 mb5 (moveF (fT 31) [] 0 2 na0B 2 zzB)) := move_any h5 (inn := 2) (tt := 2) (by decide) (by decide) ⟨#[110, 97, 48]⟩ ⟨#[122, 122]⟩ (small_str _ (by decide)) (small_str _ (by decide)) (lv0 31 (by decide)).1 (lv0 31 (by decide)).2 (by decide) [] 0 (fun _ h2 => absurd h2 (by decide))
        rw [mv1 31 (by decide) (by decide)] at hm1
        have HM1 := Lib.hid hm1
        clear hm1 h5 HT
        go_wp2_with fail
        refine HM1.out.mono ?_
        rintro e w6 ⟨rfl, hT6, hF6⟩
        have hT6 : TabR w6 w1.heap.size tb (s1 31) A5 nb5 mb5 := hT6
        have HC6 := Lib.hid (HC.out.trans (hF6.below HC.out.size))
        have hm2 : Calls _ _ _ _ (OneP w6 w1.heap.size tb A5 nb5 mb5 (addF (s1 31) 2 morB 3)) := add_any hT6 (i := 2) (n := 3) (by decide) (by decide) ⟨#[109, 111, 114, 101]⟩ (small_str _ (by decide)) (Nat.lt_of_lt_of_le (show (s1 31).ch < 999999999 from (by decide)) (by decide))
        rw [ad2 31 (by decide) (by decide)] at hm2
        have HM2 := Lib.hid hm2
        clear hm2 hT6 hF6 HM1
        go_wp2_with fail
        refine HM2.out.mono ?_
        rintro e w7 ⟨rfl, hT7, hF7⟩
        have hT7 : TabR w7 w1.heap.size tb (s2 31) A5 nb5 mb5 := hT7
        have HC7 := Lib.hid (HC6.out.trans (hF7.below HC6.out.size))
        have hm3 : Calls _ _ _ _ (OneP w7 w1.heap.size tb A5 nb5 mb5 (moveF (s2 31) [] 0 1 othB 2 movB)) := move_any hT7 (inn := 1) (tt := 2) (by decide) (by decide) ⟨#[111, 116, 104, 101, 114]⟩ ⟨#[109, 111, 118, 101, 100]⟩ (small_str _ (by decide)) (small_str _ (by decide)) (lv2 31 (by decide) (by decide)).1 (lv2 31 (by decide) (by decide)).2 (by decide) [] 0 (fun _ h2 => absurd h2 (by decide))
        rw [mv3n] at hm3
        have HM3 := Lib.hid hm3
        clear hm3 hT7 hF7 HM2
        go_wp2_with fail
        refine HM3.out.mono ?_
        rintro e w8 ⟨rfl, hT8, hF8⟩
        have hT8 : TabR w8 w1.heap.size tb (s2 31) A5 nb5 mb5 := hT8
        have HC8 := Lib.hid (HC7.out.trans (hF8.below HC7.out.size))
        have hm4 : Calls _ _ _ _ (OneP w8 w1.heap.size tb A5 nb5 mb5 (moveF (s2 31) [] 0 1 othB 2 na1B)) := move_any hT8 (inn := 1) (tt := 2) (by decide) (by decide) ⟨#[111, 116, 104, 101, 114]⟩ ⟨#[110, 97, 49]⟩ (small_str _ (by decide)) (small_str _ (by decide)) (lv2 31 (by decide) (by decide)).1 (lv2 31 (by decide) (by decide)).2 (by decide) [] 0 (fun _ h2 => absurd h2 (by decide))
        have HM4 := Lib.hid hm4
        clear hm4 hT8 hF8 HM3
        go_wp2_with fail
        refine HM4.out.mono ?_
        rintro e w9 ⟨rfl, hT9, hF9⟩
        rw [mv4n]
        have HC9 := Lib.hid (HC8.out.trans (hF9.below HC8.out.size))
        clear hT9 hF9 HM4
        go_wp2
        go_ret
        exact ⟨rfl, HB.out.trans (HC9.out.mono HB.out.size)⟩
      · have c1 : (32 : Int) ≤ (k : Int) := by omega
        have ht0 : Tab wr w1.heap.size tb (fT 32) := by have h := HT.out; unfold fS at h; rwa [show min k 32 = 32 from Nat.min_eq_right (by omega)] at h
        obtain ⟨A5, nb5, mb5, h5⟩ := ht0
        have hm1 : Calls _ _ _ _ (OneP wr w1.heap.size tb A5 nb5 mb5 (moveF (fT 32) [] 0 2 na0B 2 zzB)) := move_any h5 (inn := 2) (tt := 2) (by decide) (by decide) ⟨#[110, 97, 48]⟩ ⟨#[122, 122]⟩ (small_str _ (by decide)) (small_str _ (by decide)) (lv0 32 (by decide)).1 (lv0 32 (by decide)).2 (by decide) [] 0 (fun _ h2 => absurd h2 (by decide))
        rw [mv1 32 (by decide) (by decide)] at hm1
        have HM1 := Lib.hid hm1
        clear hm1 h5 HT
        go_wp2_with fail
        refine HM1.out.mono ?_
        rintro e w6 ⟨rfl, hT6, hF6⟩
        have hT6 : TabR w6 w1.heap.size tb (s1 32) A5 nb5 mb5 := hT6
        have HC6 := Lib.hid (HC.out.trans (hF6.below HC.out.size))
        have hm2 : Calls _ _ _ _ (OneP w6 w1.heap.size tb A5 nb5 mb5 (addF (s1 32) 2 morB 3)) := add_any hT6 (i := 2) (n := 3) (by decide) (by decide) ⟨#[109, 111, 114, 101]⟩ (small_str _ (by decide)) (Nat.lt_of_lt_of_le (show (s1 32).ch < 999999999 from (by decide)) (by decide))
        rw [ad2n] at hm2
        have HM2 := Lib.hid hm2
        clear hm2 hT6 hF6 HM1
        go_wp2_with fail
        refine HM2.out.mono ?_
        rintro e w7 ⟨rfl, hT7, hF7⟩
        have hT7 : TabR w7 w1.heap.size tb (s1 32) A5 nb5 mb5 := hT7
        have HC7 := Lib.hid (HC6.out.trans (hF7.below HC6.out.size))
        have hm3 : Calls _ _ _ _ (OneP w7 w1.heap.size tb A5 nb5 mb5 (moveF (s1 32) [] 0 1 othB 2 movB)) := move_any hT7 (inn := 1) (tt := 2) (by decide) (by decide) ⟨#[111, 116, 104, 101, 114]⟩ ⟨#[109, 111, 118, 101, 100]⟩ (small_str _ (by decide)) (small_str _ (by decide)) (lv1 32 (by decide) (by decide)).1 (lv1 32 (by decide) (by decide)).2 (by decide) [] 0 (fun _ h2 => absurd h2 (by decide))
        rw [mv3m] at hm3
        have HM3 := Lib.hid hm3
        clear hm3 hT7 hF7 HM2
        go_wp2_with fail
        refine HM3.out.mono ?_
        rintro e w8 ⟨rfl, hT8, hF8⟩
        have hT8 : TabR w8 w1.heap.size tb (s1 32) A5 nb5 mb5 := hT8
        have HC8 := Lib.hid (HC7.out.trans (hF8.below HC7.out.size))
        have hm4 : Calls _ _ _ _ (OneP w8 w1.heap.size tb A5 nb5 mb5 (moveF (s1 32) [] 0 1 othB 2 na1B)) := move_any hT8 (inn := 1) (tt := 2) (by decide) (by decide) ⟨#[111, 116, 104, 101, 114]⟩ ⟨#[110, 97, 49]⟩ (small_str _ (by decide)) (small_str _ (by decide)) (lv1 32 (by decide) (by decide)).1 (lv1 32 (by decide) (by decide)).2 (by decide) [] 0 (fun _ h2 => absurd h2 (by decide))
        have HM4 := Lib.hid hm4
        clear hm4 hT8 hF8 HM3
        go_wp2_with fail
        refine HM4.out.mono ?_
        rintro e w9 ⟨rfl, hT9, hF9⟩
        rw [mv4m]
        have HC9 := Lib.hid (HC8.out.trans (hF9.below HC8.out.size))
        clear hT9 hF9 HM4
        go_wp2
        go_ret
        exact ⟨rfl, HB.out.trans (HC9.out.mono HB.out.size)⟩

end Go.Proofs.Ytdlglllidolggaa.In
