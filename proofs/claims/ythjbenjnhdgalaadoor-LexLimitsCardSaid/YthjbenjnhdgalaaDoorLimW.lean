/- Long paths, long texts; names' parts; bytes of paths: the walk. -/
import Derived.Test.YthjbenjnhdgalaaDoorLim
import Derived.OwnWalk
import Derived.Deep.CutRange
namespace Go.Proofs.YthjbenjnhdgalaaDoor
open Go.RowKit
theorem infoU8 : (Tryd.prog.info? 5).map (fun i => (i.zero, i.size, i.bytes)) = some (some (.int .u8 0), 1, 1) := by kernel_rfl
theorem zeros_conv {w : World} {base g N : Nat} (hown : w.ownsRow base 5 1 (.slice (some ⟨g, 0, none⟩) N N) N (madeCells (Value.int .u8 0).cells (N * 1)).toList) :
    (convert 22 9 (.slice (some ⟨g, 0, none⟩) N N)).run Tryd.prog w = .ok (.string ⟨(List.replicate N (0 : UInt8)).toArray⟩) w := by
  have h := run_convert_bytes_back (P := Tryd.prog) w 22 9 5 ⟨g, 0, none⟩ N (List.replicate N (0 : UInt8)) Tryd.underlying22 Tryd.underlying5 Tryd.underlying9 (fun j hj => by
    rw [List.length_replicate] at hj
    refine hown.cells (g := g) rfl j _ ?_
    rw [Nat.mul_one, show (Value.int .u8 0).cells = #[.int .u8 0] from rfl, toList_madeCells_one, List.getElem?_replicate, if_pos hj, List.getElem_replicate]
    rfl)
  rw [List.length_replicate] at h
  exact h
theorem zeros_size (N : Nat) : (⟨(List.replicate N (0 : UInt8)).toArray⟩ : ByteArray).size = N := by rw [Lib.size_eq]; show (List.replicate N (0 : UInt8)).toArray.toList.length = N; rw [List.toList_toArray, List.length_replicate]
theorem below_of_grown {w w' : World} (h : w.grownBy w' none) : Below w.heap.size w w' := (Below.refl _ _).grown h (Nat.le_refl _) (fun k hk => by cases hk)
theorem zeros_lex (n : Nat) (h : 65536 < n) : lexB (List.replicate n (0 : UInt8)) = ([], ⟨0, 0, 36⟩) := by
  unfold lexB
  rw [if_pos (by rw [List.length_replicate]; exact h)]
def prnZ (c : Nat) : Prop := ((33 : Int) ≤ (c : Int) ∧ (c : Int) ≤ 126 ∧ ((c : Int) != 35) = true ∧ prn c = true) ∨ ((33 : Int) ≤ (c : Int) ∧ (c : Int) ≤ 126 ∧ ((c : Int) != 35) = false ∧ prn c = false) ∨ ((33 : Int) ≤ (c : Int) ∧ ¬ (c : Int) ≤ 126 ∧ prn c = false) ∨ (¬ (33 : Int) ≤ (c : Int) ∧ prn c = false)
theorem prn_cases (c : Nat) : prnZ c := by
  unfold prnZ
  by_cases h1 : 33 ≤ c
  · by_cases h2 : c ≤ 126
    · by_cases h3 : c = 35
      · right; left; subst h3; decide
      · left; refine ⟨by omega, by omega, by simp; omega, by simp [prn, h1, h2, h3]⟩
    · right; right; left; exact ⟨by omega, by omega, by simp [prn, h2]⟩
  · right; right; right; exact ⟨by omega, by simp [prn, h1]⟩
set_option maxHeartbeats 8000000 in
set_option maxRecDepth 100000 in
theorem limits_any (l : List Nat) (n c m : Nat) (A : Option Addr) (cap : Nat) (w : World) (hn : n < 256) (_hc : c < 256) (hl : l.length = m) (hok : ∀ x ∈ l, x < 256) (hr : Rd w 1 m A (u8s l)) (hE : Env w) :
    Calls Tryd.prog 5 #[.int .u8 n, .int .u8 c, .slice A m cap] w (Yes w) := by
  have HE := Lib.hid hE
  by_cases hm : m ≤ 20
  case neg =>
    have h1 : (20 : Int) < (m : Int) := by omega
    have h2 : ¬ (m : Int) ≤ 20 := by omega
    go_enter Tryd.func5, Tryd.ntmps5
    go_wp2_with fail
    refine (awake_any _ HE.out).mono ?_
    rintro e w1 ⟨rfl, hb1⟩
    have HB1 := Lib.hid hb1
    clear hb1
    go_wp2_with fail
    go_ret
    exact ⟨rfl, HB1.out⟩
  have h1 : ¬ (20 : Int) < (m : Int) := by omega
  have h2 : (m : Int) ≤ 20 := by omega
  obtain ⟨r, hr20⟩ : ∃ r, r = n % 20 := ⟨_, rfl⟩
  obtain ⟨N, hN⟩ : ∃ N, N = 110 + r := ⟨_, rfl⟩
  have r1 : (n : Int) % 20 = r := by omega
  have r2 : Int.tmod (n : Int) 20 = r := by rw [Int.tmod_eq_emod_of_nonneg (by omega)]; exact r1
  have r3 : (110 : Int) + (r : Int) = N := by omega
  have hNl : N ≤ 129 := by omega
  have hrl : r < 20 := by omega
  have Hr := Lib.hid hr
  have Hok := Lib.hid hok
  have HNr := Lib.hid hN
  clear hr20 hN hE hr hok
  go_enter Tryd.func5, Tryd.ntmps5
  go_wp2_with fail
  refine (awake_any _ HE.out).mono ?_
  rintro e w1 ⟨rfl, hb1⟩
  have HB1 := Lib.hid hb1
  clear hb1
  go_wp2_with fail
  go_loop [7, 28] (fun pv iv => ∃ k : Nat, iv = .int .i64 k ∧ k ≤ N ∧ pv = .string ⟨(pathB k).toArray⟩) (fun _ iv => N - (intOf iv).toNat)
  case atStart => exact ⟨0, rfl, Nat.zero_le _, rfl⟩
  case round =>
    obtain ⟨k, rfl, hk, rfl⟩ := hrel
    have hsz : (⟨(pathB k).toArray⟩ : ByteArray).size = k + 1 := by rw [Lib.size_eq]; exact pathB_len k
    by_cases hlt : k < N
    · have Hs := Lib.hid (show (⟨(pathB k).toArray⟩ : ByteArray) ++ ⟨#[97]⟩ = ⟨(pathB (k + 1)).toArray⟩ by
        rw [show (⟨#[97]⟩ : ByteArray) = ⟨([97] : Bs).toArray⟩ from rfl, txt_app, pathB_snoc])
      go_wp2_with fail
      go_round
      case rel => exact ⟨k + 1, by go_num, by omega, by rw [Hs.out]⟩
      case measure => simp [intOf]; omega
    · obtain rfl : k = N := by omega
      obtain ⟨X, hX⟩ : ∃ X : Bs, X = [32] ++ pathB k := ⟨_, rfl⟩
      have hs : (⟨#[32]⟩ : ByteArray) ++ ⟨(pathB k).toArray⟩ = ⟨X.toArray⟩ := by
        rw [show (⟨#[32]⟩ : ByteArray) = ⟨([32] : Bs).toArray⟩ from rfl, txt_app, hX]
      have Hlex := Lib.hid (fun W E => lex_any ⟨X.toArray⟩ W E)
      unfold LinePost at Hlex
      rw [show (⟨X.toArray⟩ : ByteArray).data.toList = X from rfl, show lexB X = (if 120 < k + 1 then ([], ⟨1, 2, 36⟩) else ([⟨3, pathB k, 0, 1, 2⟩, ⟨0, [], 0, 1, k + 3⟩], noW)) from by rw [hX]; exact path_lex k (by omega), ← hs] at Hlex
      obtain ⟨P, hP⟩ : ∃ P, P = pathB k := ⟨_, rfl⟩
      rw [← hP] at Hlex hsz ⊢
      obtain ⟨q, hq⟩ : ∃ q, q = k + 1 := ⟨_, rfl⟩
      rw [← hq] at Hlex hsz
      have hql : q ≤ 130 := by omega
      have HX := Lib.hid (And.intro hX (And.intro hP hq))
      clear hs hX hP hq
      by_cases hlong : 120 < q
      · rw [if_pos hlong] at Hlex
        have t1 : (120 : Int) < (q : Int) := by omega
        clear hlong
        go_wp2_with fail
        refine (Hlex.out _ (HE.out.below HB1.out)).mono ?_
        rintro e w2 ⟨v2, rfl, hown2, hb2⟩
        obtain ⟨A2, c2, rfl, hc2, hR2, hn2⟩ := own_slice hown2
        simp only [Wr.val, List.length_nil] at hc2 hR2 hn2 ⊢
        have HB2 := Lib.hid (HB1.out.trans (hb2.mono HB1.out.size))
        have HR2 := Lib.hid hR2
        have HP9 := Lib.hid ((bk_new_at w2 39 (l := [.int .i64 1, .int .i64 2, .int .i64 36]) #[.int .i64 1, .int .i64 2, .int .i64 36] rfl rfl).alloc (.cells #[.int .i64 1, .int .i64 2, .int .i64 36] 39))
        have HP10 := Lib.hid (bk_new_at (w2.alloc (.cells #[.int .i64 1, .int .i64 2, .int .i64 36] 39)) 39 (n := w2.heap.size + 1) (l := [.int .i64 1, .int .i64 2, .int .i64 36]) #[.int .i64 1, .int .i64 2, .int .i64 36] rfl (by simp))
        have HB3 := Lib.hid ((HB2.out.alloc HB2.out.size (.cells #[.int .i64 1, .int .i64 2, .int .i64 36] 39)).alloc (by simp; exact Nat.le_succ_of_le HB2.out.size) (.cells #[.int .i64 1, .int .i64 2, .int .i64 36] 39))
        have HR3 := Lib.hid (HR2.out.below (((Below.refl w2.heap.size w2).alloc (Nat.le_refl _) (.cells #[.int .i64 1, .int .i64 2, .int .i64 36] 39)).alloc (by simp) (.cells #[.int .i64 1, .int .i64 2, .int .i64 36] 39)))
        clear hR2 hn2 hown2 hb2 HR2 HB2
        obtain ⟨b0, hb, hy0, hy1, hy2⟩ := info_parts infoU8
        obtain ⟨M, hM1, hM2⟩ : ∃ M : Nat, 65537 ≤ M ∧ M ≤ 65537 := ⟨65537, by omega, by omega⟩
        go_upto_region 14 with fail
        revert HP9 HP10 HB3 HR3
        generalize World.alloc _ _ = w3
        intro HP9 HP10 HB3 HR3
        obtain ⟨p9, hp9⟩ : ∃ p9, p9 = w2.heap.size := ⟨_, rfl⟩
        rw [← hp9] at HP9 HP10 ⊢
        clear hp9
        go_wp2_with (at_make; refine wpList_make_full _ rfl _ _ 22 rfl w.heap.size 5 b0 (.int .u8 0) 1 Tryd.underlying22 hb hy0 hy1 .i64 .i64 _ _ M rfl rfl (by omega) (by omega) (by rw [hy2]; omega) (by unfold maxLen; omega) HB3.out.size ?_; intro w4 hown4 hg4; have hcv := zeros_conv hown4; have HB4 := Lib.hid (HB3.out.grown hg4 HB3.out.size (fun k hk => by cases hk)); have HG4 := Lib.hid hg4; clear hown4 hg4)
        have Hz := Lib.hid (fun W E => lex_any ⟨(List.replicate M (0 : UInt8)).toArray⟩ W E)
        unfold LinePost at Hz
        rw [show (⟨(List.replicate M (0 : UInt8)).toArray⟩ : ByteArray).data.toList = List.replicate M (0 : UInt8) from rfl, zeros_lex M (by omega)] at Hz
        refine (Hz.out _ (HE.out.below HB4.out)).mono ?_
        rintro e w5 ⟨v5, rfl, hown5, hb5⟩
        obtain ⟨A5, c5, rfl, hc5, -, -⟩ := own_slice hown5
        have hbz := (Below.refl w5.heap.size w5).alloc (Nat.le_refl _) (.cells #[.int .i64 0, .int .i64 0, .int .i64 36] 39)
        have hb35 := ((below_of_grown HG4.out).trans (hb5.mono HG4.out.size)).trans (hbz.mono (Nat.le_trans HG4.out.size hb5.size))
        have HP12 := Lib.hid (bk_new_at w5 39 (l := [.int .i64 0, .int .i64 0, .int .i64 36]) #[.int .i64 0, .int .i64 0, .int .i64 36] rfl rfl)
        have HP9b := Lib.hid (HP9.out.kept hb35)
        have HP10b := Lib.hid (HP10.out.kept hb35)
        have HR6 := Lib.hid (HR3.out.below hb35)
        have HB6 := Lib.hid (HB3.out.trans (hb35.mono HB3.out.size))
        simp only [Wr.val]
        clear hcv hbz hb35 hown5 hb5 Hz HP9 HP10 HR3 HB3 HB4 HG4
        go_wp2_with fail
        revert HP12 HP9b HP10b HR6 HB6
        generalize World.alloc _ _ = w6
        intro HP12 HP9b HP10b HR6 HB6
        obtain ⟨p12, hp12⟩ : ∃ p12, p12 = w5.heap.size := ⟨_, rfl⟩
        rw [← hp12] at HP12 ⊢
        clear hp12
        go_loop [13, 14, 16, 52] (fun tv kv _ iv => ∃ (i : Nat) (T : Bs) (v : Nat), iv = .int .i64 i ∧ i ≤ m ∧ tv = .string ⟨T.toArray⟩ ∧ kv = .int .i64 v ∧ T.length ≤ 41 ∧ v ≤ 21 ∧ Hid (T = nmB (l.take i) ∧ v = 1 + evs (l.take i))) (fun _ _ _ iv => m - (intOf iv).toNat)
        case atStart => exact ⟨0, [97], 1, rfl, Nat.zero_le _, rfl, rfl, by simp, by omega, ⟨rfl, rfl⟩⟩
        case round =>
          obtain ⟨i, T, v, rfl, hi, rfl, rfl, hT, hv, HT⟩ := hrel
          have hsT : (⟨T.toArray⟩ : ByteArray).size = T.length := by rw [Lib.size_eq]
          by_cases hlt : i < m
          · obtain ⟨x, hx⟩ : ∃ x, l[i]? = some x := ⟨_, List.getElem?_eq_getElem (by omega)⟩
            obtain ⟨bl, ol, hbo, hbl, hcl⟩ := (Hr.out.below HB6.out).pos (by omega)
            subst hbo
            have l0 := hcl i _ (u8s_at hx)
            have hx256 := Hok.out x (List.mem_of_getElem? hx)
            have e1 := take_snoc' l i x hx
            have e2 := nmB_len (l.take (i + 1))
            have e3 := evs_len (l.take (i + 1))
            rw [List.length_take] at e2 e3
            have e4 := nmB_snoc (l.take i) x
            have e5 := evs_snoc (l.take i) x
            rw [← e1, ← HT.out.1] at e4
            rw [← e1] at e5
            obtain ⟨T2, hT2⟩ : ∃ T2, T2 = nmB (l.take (i + 1)) := ⟨_, rfl⟩
            have e6 := HT.out.2
            rw [← hT2] at e2 e4
            have HT2 := Lib.hid hT2
            clear hx hcl e1 hT2
            by_cases hp : x % 2 = 0
            · rw [if_pos hp] at e4 e5
              have m1 : (x : Int) % 2 = 0 := by omega
              have m2 : Int.tmod (x : Int) 2 = 0 := by rw [Int.tmod_eq_emod_of_nonneg (by omega)]; exact m1
              have Hs := Lib.hid (show (⟨T.toArray⟩ : ByteArray) ++ ⟨#[44, 98]⟩ = ⟨T2.toArray⟩ by
                rw [show (⟨#[44, 98]⟩ : ByteArray) = ⟨([44, 98] : Bs).toArray⟩ from rfl, txt_app, e4])
              have Hv := Lib.hid (show v + 1 = 1 + evs (l.take (i + 1)) by omega)
              have hT2l : T2.length ≤ 41 := by omega
              have hv2 : v + 1 ≤ 21 := by omega
              clear e2 e3 e4 e5 e6 hp
              go_wp2_with fail
              go_round
              case rel => exact ⟨i + 1, T2, v + 1, by go_num, by omega, by rw [Hs.out], by go_num, hT2l, hv2, ⟨HT2.out, Hv.out⟩⟩
              case measure => simp [intOf]; omega
            · rw [if_neg hp] at e4 e5
              have m1 : (x : Int) % 2 = 1 := by omega
              have m2 : Int.tmod (x : Int) 2 = 1 := by rw [Int.tmod_eq_emod_of_nonneg (by omega)]; exact m1
              have Hs := Lib.hid (show (⟨T.toArray⟩ : ByteArray) ++ ⟨#[99]⟩ = ⟨T2.toArray⟩ by
                rw [show (⟨#[99]⟩ : ByteArray) = ⟨([99] : Bs).toArray⟩ from rfl, txt_app, e4])
              have Hv := Lib.hid (show v = 1 + evs (l.take (i + 1)) by omega)
              have hT2l : T2.length ≤ 41 := by omega
              clear e2 e3 e4 e5 e6 hp
              go_wp2_with fail
              go_round
              case rel => exact ⟨i + 1, T2, v, by go_num, by omega, by rw [Hs.out], rfl, hT2l, hv, ⟨HT2.out, Hv.out⟩⟩
              case measure => simp [intOf]; omega
          · obtain rfl : i = m := by omega
            have hlx := name_lex l (by omega)
            have e7 := HT.out.1
            have e8 := HT.out.2
            rw [List.take_of_length_le (by omega)] at e7 e8
            rw [← e7] at hlx
            have Hlx := Lib.hid (fun W E => lex_any ⟨T.toArray⟩ W E)
            unfold LinePost at Hlx
            rw [show (⟨T.toArray⟩ : ByteArray).data.toList = T from rfl, hlx] at Hlx
            have Hsp := Lib.hid (fun k n ln col W E => tsplit_any l (by omega) k n ln col W E)
            rw [← e7, show evs l + 1 = v by omega] at Hsp
            clear hlx e7 e8 HT
            go_wp2_with fail
            refine (Hlx.out _ (HE.out.below HB6.out)).mono ?_
            rintro e w7 ⟨v7, rfl, hown7, hb7⟩
            obtain ⟨A7, c7, rfl, hc7, hR7, -⟩ := own_slice hown7
            simp only [val_noW, List.length_nil, List.length_cons] at hc7 hR7 ⊢
            have hb8 := (Below.refl w7.heap.size w7).alloc (Nat.le_refl _) (.cells #[.int .i64 0, .int .i64 0, .int .i64 0] 39)
            have hb68 := hb7.trans (hb8.mono hb7.size)
            have HR8 := Lib.hid (hR7.below hb8)
            have HR6c := Lib.hid (HR6.out.below hb68)
            have HP12c := Lib.hid (HP12.out.kept hb68)
            have HP9c := Lib.hid (HP9b.out.kept hb68)
            have HP10c := Lib.hid (HP10b.out.kept hb68)
            have HB8 := Lib.hid (HB6.out.trans (hb68.mono HB6.out.size))
            clear hb8 hb68 hR7 hown7 hb7 Hlx HR6 HP12 HP9b HP10b HB6
            go_upto_region 25 with fail
            revert HR8 HR6c HP12c HP9c HP10c HB8
            generalize World.alloc _ _ = w8
            intro HR8 HR6c HP12c HP9c HP10c HB8
            have p0 := HP9c.out.cell 0 rfl
            have p1 := HP9c.out.cell 1 rfl
            have p2 := HP9c.out.cell 2 rfl
            have q0 := HP10c.out.cell 0 rfl
            have q1 := HP10c.out.cell 1 rfl
            have q2 := HP10c.out.cell 2 rfl
            have s0 := HP12c.out.cell 0 rfl
            have s1 := HP12c.out.cell 1 rfl
            have s2 := HP12c.out.cell 2 rfl
            have pl := HP9c.out.lt
            have ql := HP10c.out.lt
            have sl := HP12c.out.lt
            obtain ⟨b8, o8, hbo8, hbl8, hcl8⟩ := HR8.out.pos (by omega)
            subst hbo8
            obtain ⟨x0, x1, x2, x3, x4⟩ := five_cells (k := 0) hcl8 rfl
            rw [Nat.zero_mul, Nat.add_zero] at x0 x1 x2 x3 x4
            have hpr := fun W => printable_any c W
            clear hcl8
            rcases prn_cases c with ⟨h3, h4, h5, h6⟩ | ⟨h3, h4, h5, h6⟩ | ⟨h3, h4, h6⟩ | ⟨h3, h6⟩
            · rw [h6] at hpr
              have d3 : decide ((33 : Int) ≤ (c : Int)) = true := decide_eq_true h3
              have d4 : decide ((c : Int) ≤ 126) = true := decide_eq_true h4
              clear h6
              go_wp2_with fail
              refine (Hsp.out 1 0 1 1 _ (HE.out.below HB8.out)).mono ?_
              rintro e w9 ⟨A9, rfl, hb9⟩
              have HB9 := Lib.hid (HB8.out.trans (hb9.mono HB8.out.size))
              clear hb9
              go_wp2_with fail
              refine (hpr _).mono ?_
              rintro e w' ⟨rfl, rfl⟩
              go_wp2_with fail
              refine (refWord_a _).mono ?_
              rintro e w' ⟨rfl, rfl⟩
              go_wp2_with fail
              go_ret
              exact ⟨rfl, HB9.out⟩
            · rw [h6] at hpr
              have d3 : decide ((33 : Int) ≤ (c : Int)) = true := decide_eq_true h3
              have d4 : decide ((c : Int) ≤ 126) = true := decide_eq_true h4
              clear h6
              go_wp2_with fail
              refine (Hsp.out 1 0 1 1 _ (HE.out.below HB8.out)).mono ?_
              rintro e w9 ⟨A9, rfl, hb9⟩
              have HB9 := Lib.hid (HB8.out.trans (hb9.mono HB8.out.size))
              clear hb9
              go_wp2_with fail
              refine (hpr _).mono ?_
              rintro e w' ⟨rfl, rfl⟩
              go_wp2_with fail
              refine (refWord_a _).mono ?_
              rintro e w' ⟨rfl, rfl⟩
              go_wp2_with fail
              go_ret
              exact ⟨rfl, HB9.out⟩
            · rw [h6] at hpr
              have d3 : decide ((33 : Int) ≤ (c : Int)) = true := decide_eq_true h3
              have d4 : decide ((c : Int) ≤ 126) = false := decide_eq_false h4
              clear h6
              go_wp2_with fail
              refine (Hsp.out 1 0 1 1 _ (HE.out.below HB8.out)).mono ?_
              rintro e w9 ⟨A9, rfl, hb9⟩
              have HB9 := Lib.hid (HB8.out.trans (hb9.mono HB8.out.size))
              clear hb9
              go_wp2_with fail
              refine (hpr _).mono ?_
              rintro e w' ⟨rfl, rfl⟩
              go_wp2_with fail
              refine (refWord_a _).mono ?_
              rintro e w' ⟨rfl, rfl⟩
              go_wp2_with fail
              go_ret
              exact ⟨rfl, HB9.out⟩
            · rw [h6] at hpr
              have d3 : decide ((33 : Int) ≤ (c : Int)) = false := decide_eq_false h3
              clear h6
              go_wp2_with fail
              refine (Hsp.out 1 0 1 1 _ (HE.out.below HB8.out)).mono ?_
              rintro e w9 ⟨A9, rfl, hb9⟩
              have HB9 := Lib.hid (HB8.out.trans (hb9.mono HB8.out.size))
              clear hb9
              go_wp2_with fail
              refine (hpr _).mono ?_
              rintro e w' ⟨rfl, rfl⟩
              go_wp2_with fail
              refine (refWord_a _).mono ?_
              rintro e w' ⟨rfl, rfl⟩
              go_wp2_with fail
              go_ret
              exact ⟨rfl, HB9.out⟩
      · rw [if_neg hlong] at Hlex
        have t1 : ¬ (120 : Int) < (q : Int) := by omega
        clear hlong
        go_wp2_with fail
        refine (Hlex.out _ (HE.out.below HB1.out)).mono ?_
        rintro e w2 ⟨v2, rfl, hown2, hb2⟩
        obtain ⟨A2, c2, rfl, hc2, hR2, hn2⟩ := own_slice hown2
        simp only [val_noW, List.length_nil, List.length_cons] at hc2 hR2 hn2 ⊢
        have HB2 := Lib.hid (HB1.out.trans (hb2.mono HB1.out.size))
        have HR2 := Lib.hid hR2
        have HP9 := Lib.hid ((bk_new_at w2 39 (l := [.int .i64 0, .int .i64 0, .int .i64 0]) #[.int .i64 0, .int .i64 0, .int .i64 0] rfl rfl).alloc (.cells #[.int .i64 0, .int .i64 0, .int .i64 0] 39))
        have HP10 := Lib.hid (bk_new_at (w2.alloc (.cells #[.int .i64 0, .int .i64 0, .int .i64 0] 39)) 39 (n := w2.heap.size + 1) (l := [.int .i64 0, .int .i64 0, .int .i64 0]) #[.int .i64 0, .int .i64 0, .int .i64 0] rfl (by simp))
        have HB3 := Lib.hid ((HB2.out.alloc HB2.out.size (.cells #[.int .i64 0, .int .i64 0, .int .i64 0] 39)).alloc (by simp; exact Nat.le_succ_of_le HB2.out.size) (.cells #[.int .i64 0, .int .i64 0, .int .i64 0] 39))
        have HR3 := Lib.hid (HR2.out.below (((Below.refl w2.heap.size w2).alloc (Nat.le_refl _) (.cells #[.int .i64 0, .int .i64 0, .int .i64 0] 39)).alloc (by simp) (.cells #[.int .i64 0, .int .i64 0, .int .i64 0] 39)))
        clear hR2 hn2 hown2 hb2 HR2 HB2
        obtain ⟨b0, hb, hy0, hy1, hy2⟩ := info_parts infoU8
        obtain ⟨M, hM1, hM2⟩ : ∃ M : Nat, 65537 ≤ M ∧ M ≤ 65537 := ⟨65537, by omega, by omega⟩
        go_upto_region 14 with fail
        revert HP9 HP10 HB3 HR3
        generalize World.alloc _ _ = w3
        intro HP9 HP10 HB3 HR3
        obtain ⟨p9, hp9⟩ : ∃ p9, p9 = w2.heap.size := ⟨_, rfl⟩
        rw [← hp9] at HP9 HP10 ⊢
        clear hp9
        go_wp2_with (at_make; refine wpList_make_full _ rfl _ _ 22 rfl w.heap.size 5 b0 (.int .u8 0) 1 Tryd.underlying22 hb hy0 hy1 .i64 .i64 _ _ M rfl rfl (by omega) (by omega) (by rw [hy2]; omega) (by unfold maxLen; omega) HB3.out.size ?_; intro w4 hown4 hg4; have hcv := zeros_conv hown4; have HB4 := Lib.hid (HB3.out.grown hg4 HB3.out.size (fun k hk => by cases hk)); have HG4 := Lib.hid hg4; clear hown4 hg4)
        have Hz := Lib.hid (fun W E => lex_any ⟨(List.replicate M (0 : UInt8)).toArray⟩ W E)
        unfold LinePost at Hz
        rw [show (⟨(List.replicate M (0 : UInt8)).toArray⟩ : ByteArray).data.toList = List.replicate M (0 : UInt8) from rfl, zeros_lex M (by omega)] at Hz
        refine (Hz.out _ (HE.out.below HB4.out)).mono ?_
        rintro e w5 ⟨v5, rfl, hown5, hb5⟩
        obtain ⟨A5, c5, rfl, hc5, -, -⟩ := own_slice hown5
        have hbz := (Below.refl w5.heap.size w5).alloc (Nat.le_refl _) (.cells #[.int .i64 0, .int .i64 0, .int .i64 36] 39)
        have hb35 := ((below_of_grown HG4.out).trans (hb5.mono HG4.out.size)).trans (hbz.mono (Nat.le_trans HG4.out.size hb5.size))
        have HP12 := Lib.hid (bk_new_at w5 39 (l := [.int .i64 0, .int .i64 0, .int .i64 36]) #[.int .i64 0, .int .i64 0, .int .i64 36] rfl rfl)
        have HP9b := Lib.hid (HP9.out.kept hb35)
        have HP10b := Lib.hid (HP10.out.kept hb35)
        have HR6 := Lib.hid (HR3.out.below hb35)
        have HB6 := Lib.hid (HB3.out.trans (hb35.mono HB3.out.size))
        simp only [Wr.val]
        clear hcv hbz hb35 hown5 hb5 Hz HP9 HP10 HR3 HB3 HB4 HG4
        go_wp2_with fail
        revert HP12 HP9b HP10b HR6 HB6
        generalize World.alloc _ _ = w6
        intro HP12 HP9b HP10b HR6 HB6
        obtain ⟨p12, hp12⟩ : ∃ p12, p12 = w5.heap.size := ⟨_, rfl⟩
        rw [← hp12] at HP12 ⊢
        clear hp12
        go_loop [13, 14, 16, 52] (fun tv kv _ iv => ∃ (i : Nat) (T : Bs) (v : Nat), iv = .int .i64 i ∧ i ≤ m ∧ tv = .string ⟨T.toArray⟩ ∧ kv = .int .i64 v ∧ T.length ≤ 41 ∧ v ≤ 21 ∧ Hid (T = nmB (l.take i) ∧ v = 1 + evs (l.take i))) (fun _ _ _ iv => m - (intOf iv).toNat)
        case atStart => exact ⟨0, [97], 1, rfl, Nat.zero_le _, rfl, rfl, by simp, by omega, ⟨rfl, rfl⟩⟩
        case round =>
          obtain ⟨i, T, v, rfl, hi, rfl, rfl, hT, hv, HT⟩ := hrel
          have hsT : (⟨T.toArray⟩ : ByteArray).size = T.length := by rw [Lib.size_eq]
          by_cases hlt : i < m
          · obtain ⟨x, hx⟩ : ∃ x, l[i]? = some x := ⟨_, List.getElem?_eq_getElem (by omega)⟩
            obtain ⟨bl, ol, hbo, hbl, hcl⟩ := (Hr.out.below HB6.out).pos (by omega)
            subst hbo
            have l0 := hcl i _ (u8s_at hx)
            have hx256 := Hok.out x (List.mem_of_getElem? hx)
            have e1 := take_snoc' l i x hx
            have e2 := nmB_len (l.take (i + 1))
            have e3 := evs_len (l.take (i + 1))
            rw [List.length_take] at e2 e3
            have e4 := nmB_snoc (l.take i) x
            have e5 := evs_snoc (l.take i) x
            rw [← e1, ← HT.out.1] at e4
            rw [← e1] at e5
            obtain ⟨T2, hT2⟩ : ∃ T2, T2 = nmB (l.take (i + 1)) := ⟨_, rfl⟩
            have e6 := HT.out.2
            rw [← hT2] at e2 e4
            have HT2 := Lib.hid hT2
            clear hx hcl e1 hT2
            by_cases hp : x % 2 = 0
            · rw [if_pos hp] at e4 e5
              have m1 : (x : Int) % 2 = 0 := by omega
              have m2 : Int.tmod (x : Int) 2 = 0 := by rw [Int.tmod_eq_emod_of_nonneg (by omega)]; exact m1
              have Hs := Lib.hid (show (⟨T.toArray⟩ : ByteArray) ++ ⟨#[44, 98]⟩ = ⟨T2.toArray⟩ by
                rw [show (⟨#[44, 98]⟩ : ByteArray) = ⟨([44, 98] : Bs).toArray⟩ from rfl, txt_app, e4])
              have Hv := Lib.hid (show v + 1 = 1 + evs (l.take (i + 1)) by omega)
              have hT2l : T2.length ≤ 41 := by omega
              have hv2 : v + 1 ≤ 21 := by omega
              clear e2 e3 e4 e5 e6 hp
              go_wp2_with fail
              go_round
              case rel => exact ⟨i + 1, T2, v + 1, by go_num, by omega, by rw [Hs.out], by go_num, hT2l, hv2, ⟨HT2.out, Hv.out⟩⟩
              case measure => simp [intOf]; omega
            · rw [if_neg hp] at e4 e5
              have m1 : (x : Int) % 2 = 1 := by omega
              have m2 : Int.tmod (x : Int) 2 = 1 := by rw [Int.tmod_eq_emod_of_nonneg (by omega)]; exact m1
              have Hs := Lib.hid (show (⟨T.toArray⟩ : ByteArray) ++ ⟨#[99]⟩ = ⟨T2.toArray⟩ by
                rw [show (⟨#[99]⟩ : ByteArray) = ⟨([99] : Bs).toArray⟩ from rfl, txt_app, e4])
              have Hv := Lib.hid (show v = 1 + evs (l.take (i + 1)) by omega)
              have hT2l : T2.length ≤ 41 := by omega
              clear e2 e3 e4 e5 e6 hp
              go_wp2_with fail
              go_round
              case rel => exact ⟨i + 1, T2, v, by go_num, by omega, by rw [Hs.out], rfl, hT2l, hv, ⟨HT2.out, Hv.out⟩⟩
              case measure => simp [intOf]; omega
          · obtain rfl : i = m := by omega
            have hlx := name_lex l (by omega)
            have e7 := HT.out.1
            have e8 := HT.out.2
            rw [List.take_of_length_le (by omega)] at e7 e8
            rw [← e7] at hlx
            have Hlx := Lib.hid (fun W E => lex_any ⟨T.toArray⟩ W E)
            unfold LinePost at Hlx
            rw [show (⟨T.toArray⟩ : ByteArray).data.toList = T from rfl, hlx] at Hlx
            have Hsp := Lib.hid (fun k n ln col W E => tsplit_any l (by omega) k n ln col W E)
            rw [← e7, show evs l + 1 = v by omega] at Hsp
            clear hlx e7 e8 HT
            go_wp2_with fail
            refine (Hlx.out _ (HE.out.below HB6.out)).mono ?_
            rintro e w7 ⟨v7, rfl, hown7, hb7⟩
            obtain ⟨A7, c7, rfl, hc7, hR7, -⟩ := own_slice hown7
            simp only [val_noW, List.length_nil, List.length_cons] at hc7 hR7 ⊢
            have hb8 := (Below.refl w7.heap.size w7).alloc (Nat.le_refl _) (.cells #[.int .i64 0, .int .i64 0, .int .i64 0] 39)
            have hb68 := hb7.trans (hb8.mono hb7.size)
            have HR8 := Lib.hid (hR7.below hb8)
            have HR6c := Lib.hid (HR6.out.below hb68)
            have HP12c := Lib.hid (HP12.out.kept hb68)
            have HP9c := Lib.hid (HP9b.out.kept hb68)
            have HP10c := Lib.hid (HP10b.out.kept hb68)
            have HB8 := Lib.hid (HB6.out.trans (hb68.mono HB6.out.size))
            clear hb8 hb68 hR7 hown7 hb7 Hlx HR6 HP12 HP9b HP10b HB6
            go_upto_region 25 with fail
            revert HR8 HR6c HP12c HP9c HP10c HB8
            generalize World.alloc _ _ = w8
            intro HR8 HR6c HP12c HP9c HP10c HB8
            have p0 := HP9c.out.cell 0 rfl
            have p1 := HP9c.out.cell 1 rfl
            have p2 := HP9c.out.cell 2 rfl
            have q0 := HP10c.out.cell 0 rfl
            have q1 := HP10c.out.cell 1 rfl
            have q2 := HP10c.out.cell 2 rfl
            have s0 := HP12c.out.cell 0 rfl
            have s1 := HP12c.out.cell 1 rfl
            have s2 := HP12c.out.cell 2 rfl
            have pl := HP9c.out.lt
            have ql := HP10c.out.lt
            have sl := HP12c.out.lt
            obtain ⟨b8, o8, hbo8, hbl8, hcl8⟩ := HR8.out.pos (by omega)
            subst hbo8
            obtain ⟨x0, x1, x2, x3, x4⟩ := five_cells (k := 0) hcl8 rfl
            rw [Nat.zero_mul, Nat.add_zero] at x0 x1 x2 x3 x4
            obtain ⟨b6, o6, hbo6, hbl6, hcl6⟩ := HR6c.out.pos (by omega)
            subst hbo6
            obtain ⟨y0, y1, y2, y3, y4⟩ := five_cells (k := 0) hcl6 rfl
            rw [Nat.zero_mul, Nat.add_zero] at y0 y1 y2 y3 y4
            clear hcl6
            have hpr := fun W => printable_any c W
            clear hcl8
            rcases prn_cases c with ⟨h3, h4, h5, h6⟩ | ⟨h3, h4, h5, h6⟩ | ⟨h3, h4, h6⟩ | ⟨h3, h6⟩
            · rw [h6] at hpr
              have d3 : decide ((33 : Int) ≤ (c : Int)) = true := decide_eq_true h3
              have d4 : decide ((c : Int) ≤ 126) = true := decide_eq_true h4
              clear h6
              go_wp2_with fail
              refine (Hsp.out 1 0 1 1 _ (HE.out.below HB8.out)).mono ?_
              rintro e w9 ⟨A9, rfl, hb9⟩
              have HB9 := Lib.hid (HB8.out.trans (hb9.mono HB8.out.size))
              clear hb9
              go_wp2_with fail
              refine (hpr _).mono ?_
              rintro e w' ⟨rfl, rfl⟩
              go_wp2_with fail
              refine (refWord_a _).mono ?_
              rintro e w' ⟨rfl, rfl⟩
              go_wp2_with fail
              go_ret
              exact ⟨rfl, HB9.out⟩
            · rw [h6] at hpr
              have d3 : decide ((33 : Int) ≤ (c : Int)) = true := decide_eq_true h3
              have d4 : decide ((c : Int) ≤ 126) = true := decide_eq_true h4
              clear h6
              go_wp2_with fail
              refine (Hsp.out 1 0 1 1 _ (HE.out.below HB8.out)).mono ?_
              rintro e w9 ⟨A9, rfl, hb9⟩
              have HB9 := Lib.hid (HB8.out.trans (hb9.mono HB8.out.size))
              clear hb9
              go_wp2_with fail
              refine (hpr _).mono ?_
              rintro e w' ⟨rfl, rfl⟩
              go_wp2_with fail
              refine (refWord_a _).mono ?_
              rintro e w' ⟨rfl, rfl⟩
              go_wp2_with fail
              go_ret
              exact ⟨rfl, HB9.out⟩
            · rw [h6] at hpr
              have d3 : decide ((33 : Int) ≤ (c : Int)) = true := decide_eq_true h3
              have d4 : decide ((c : Int) ≤ 126) = false := decide_eq_false h4
              clear h6
              go_wp2_with fail
              refine (Hsp.out 1 0 1 1 _ (HE.out.below HB8.out)).mono ?_
              rintro e w9 ⟨A9, rfl, hb9⟩
              have HB9 := Lib.hid (HB8.out.trans (hb9.mono HB8.out.size))
              clear hb9
              go_wp2_with fail
              refine (hpr _).mono ?_
              rintro e w' ⟨rfl, rfl⟩
              go_wp2_with fail
              refine (refWord_a _).mono ?_
              rintro e w' ⟨rfl, rfl⟩
              go_wp2_with fail
              go_ret
              exact ⟨rfl, HB9.out⟩
            · rw [h6] at hpr
              have d3 : decide ((33 : Int) ≤ (c : Int)) = false := decide_eq_false h3
              clear h6
              go_wp2_with fail
              refine (Hsp.out 1 0 1 1 _ (HE.out.below HB8.out)).mono ?_
              rintro e w9 ⟨A9, rfl, hb9⟩
              have HB9 := Lib.hid (HB8.out.trans (hb9.mono HB8.out.size))
              clear hb9
              go_wp2_with fail
              refine (hpr _).mono ?_
              rintro e w' ⟨rfl, rfl⟩
              go_wp2_with fail
              refine (refWord_a _).mono ?_
              rintro e w' ⟨rfl, rfl⟩
              go_wp2_with fail
              go_ret
              exact ⟨rfl, HB9.out⟩
theorem walk_lexLimits (a0 a1 : Int) (A2 : Option Addr) (len2 cap2 : Nat) (z2 : List Int) (w : World) (h0 : (Lit.int .u8 a0).wf = true) (h1 : (Lit.int .u8 a1).wf = true) (h2 : IsRow .u8 w A2 len2 cap2 z2) (hE : Env w) :
    Calls Tryd.prog 5 #[.int .u8 a0, .int .u8 a1, .slice A2 len2 cap2] w (Yes w) := by
  obtain ⟨l0, u0⟩ := bounds_u8 h0
  obtain ⟨n, rfl⟩ := Int.eq_ofNat_of_zero_le l0
  obtain ⟨l1, u1⟩ := bounds_u8 h1
  obtain ⟨c, rfl⟩ := Int.eq_ofNat_of_zero_le l1
  obtain ⟨l, hl, hok, hr, _⟩ := row_u8 h2
  exact limits_any l n c len2 A2 cap2 w (by omega) (by omega) hl hok hr hE
end Go.Proofs.YthjbenjnhdgalaaDoor
