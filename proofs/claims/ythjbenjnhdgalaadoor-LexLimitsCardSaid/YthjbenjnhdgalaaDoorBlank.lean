/- Blanks, empty lines and notes more: the same words. -/
import Derived.Test.YthjbenjnhdgalaaDoorBlankM
import Derived.Test.YthjbenjnhdgalaaDoorAny
import Derived.Test.YthjbenjnhdgalaaDoorRowU
namespace Go.Proofs.YthjbenjnhdgalaaDoor
open Go.RowKit
theorem tokB_new (w : World) (T : TypeId) (x : Tok) (n : Nat) (h : n = w.heap.size) : Bk (w.alloc (.cells #[.int .u8 x.k, .string ⟨x.t.toArray⟩, .int .u64 x.n, .int .i64 x.line, .int .i64 x.col] T)) n T x.cells := bk_new_at w T _ rfl h
theorem wt_mem {L : List Tok} {x : Tok} (h : x ∈ L) : x.t.length ≤ wt L := by
  induction L with
  | nil => simp at h
  | cons y L ih =>
    simp only [wt, List.map_cons, List.sum_cons] at ih ⊢
    rcases List.mem_cons.1 h with rfl | h
    · omega
    · have := ih h; omega
theorem val_noW : noW.val = .agg #[.int .i64 0, .int .i64 0, .int .i64 0] := rfl
theorem txt_app (a b : Bs) : (⟨a.toArray⟩ : ByteArray) ++ ⟨b.toArray⟩ = ⟨(a ++ b).toArray⟩ := by
  apply ByteArray.ext
  rw [ByteArray.data_append]
  simp
set_option maxHeartbeats 4000000 in
set_option maxRecDepth 100000 in
theorem blanks_any (s : ByteArray) (l : List Nat) (A : Option Addr) (n cap : Nat) (w : World) (hl : l.length = n) (hok : ∀ x ∈ l, x < 256) (hr : Rd w 1 n A (u8s l)) (hE : Env w) : Calls Tryd.prog 6 #[.string s, .slice A n cap] w (Yes w) := by
  have HE := Lib.hid hE
  by_cases hs : s.size ≤ 200
  case neg =>
    have h1 : (200 : Int) < (s.size : Int) := by omega
    have h2 : ¬ (s.size : Int) ≤ 200 := by omega
    go_enter Tryd.func6, Tryd.ntmps6
    go_wp2_with fail
    refine (awake_any _ HE.out).mono ?_
    rintro e w1 ⟨rfl, hb1⟩
    have HB1 := Lib.hid hb1
    clear hb1
    go_wp2_with fail
    go_ret
    exact ⟨rfl, HB1.out⟩
  have h1 : ¬ (200 : Int) < (s.size : Int) := by omega
  have h2 : (s.size : Int) ≤ 200 := by omega
  have hsz := Lib.size_eq s
  obtain ⟨S, hS⟩ : ∃ S, S = s.data.toList := ⟨_, rfl⟩
  rw [← hS] at hsz
  have Hlex := Lib.hid (fun W E => lex_any s W E)
  rw [← hS] at Hlex
  have Hsz := Lib.hid hsz
  have Hr := Lib.hid hr
  have Hok := Lib.hid hok
  obtain ⟨R, hR⟩ : ∃ R, R = lexB S := ⟨_, rfl⟩
  have HB := Lib.hid (show ∃ M, lexB (bt l 0 R.1) = (M, noW) ∧ M.map sig = R.1.map sig from blank_lex S l (by omega) R.1 (by rw [hR]))
  have HWt := Lib.hid (show wt R.1 ≤ 5800 by have := lexB_wt S; rw [hR]; omega)
  rw [← hR] at Hlex
  obtain ⟨L, xl, xc, xe⟩ := R
  obtain ⟨M, hM1, hM2⟩ := HB.out
  simp only at hM1 hM2
  have HM1 := Lib.hid hM1
  have HM2 := Lib.hid hM2
  have hML : M.length = L.length := by have := congrArg List.length hM2; simpa using this
  have hLb : L.length ≤ 5800 := by have := wt_len L; have := HWt.out; simp only at this; omega
  clear hE hS hsz hr hok hR HB hM1 hM2
  go_enter Tryd.func6, Tryd.ntmps6
  go_wp2_with fail
  refine (awake_any _ HE.out).mono ?_
  rintro e w1 ⟨rfl, hb1⟩
  have HB1 := Lib.hid hb1
  clear hb1
  go_wp2_with fail
  refine (Hlex.out _ (HE.out.below HB1.out)).mono ?_
  rintro e w2 ⟨v2, rfl, hown2, hb2⟩
  obtain ⟨A2, c2, rfl, hc2, hR2, hn2⟩ := own_slice hown2
  have hb3 := (Below.refl w2.heap.size w2).alloc (Nat.le_refl _) (.cells #[.int .i64 xl, .int .i64 xc, .int .i64 xe] 39)
  have HR2 := Lib.hid (hR2.below hb3)
  have hb4 := (HB1.out.trans (hb2.mono HB1.out.size)).alloc (Nat.le_trans HB1.out.size hb2.size) (.cells #[.int .i64 xl, .int .i64 xc, .int .i64 xe] 39)
  have HB2 := Lib.hid hb4
  have HX := Lib.hid (bk_new_at w2 39 (l := [.int .i64 xl, .int .i64 xc, .int .i64 xe]) #[.int .i64 xl, .int .i64 xc, .int .i64 xe] rfl rfl)
  have HRl := Lib.hid (Hr.out.below hb4)
  have d0 := HX.out.cell 0 rfl
  have d1 := HX.out.cell 1 rfl
  have d2 := HX.out.cell 2 rfl
  simp only [Wr.val] at hR2 HR2 ⊢
  clear hb3 hb4 hR2 hown2 hb2 Hlex
  by_cases hx : (⟨xl, xc, xe⟩ : Wr) = noW
  case neg =>
    have hQ : ∀ W : World, (binOp .neq 39 (.agg #[.int .i64 xl, .int .i64 xc, .int .i64 xe]) (.agg #[.int .i64 0, .int .i64 0, .int .i64 0])).run Tryd.prog W = .ok (.bool true) W := fun W => by have h := neq_wr ⟨xl, xc, xe⟩ noW W; rw [decide_eq_false hx] at h; exact h
    clear hx
    go_wp2_with fail
    go_ret
    exact ⟨rfl, HB2.out⟩
  have hQ : ∀ W : World, (binOp .neq 39 (.agg #[.int .i64 xl, .int .i64 xc, .int .i64 xe]) (.agg #[.int .i64 0, .int .i64 0, .int .i64 0])).run Tryd.prog W = .ok (.bool false) W := fun W => by have h := neq_wr ⟨xl, xc, xe⟩ noW W; rw [decide_eq_true hx] at h; exact h
  clear hx
  go_wp2_with fail
  revert HR2 HB2 HX HRl
  generalize World.alloc _ _ = w3
  intro HR2 HB2 HX HRl
  clear d0 d1 d2 hQ HX
  have HEe := Lib.hid (HE.out.below HB2.out)
  go_loopw [7, 8, 9, 10, 29] (fun tv _ _ _ iv wr => ∃ (k : Nat) (T : Bs), iv = .int .i64 k ∧ tv = .string ⟨T.toArray⟩ ∧ k ≤ L.length ∧ T.length ≤ 5800 ∧ Hid (T = bt l 0 (L.take k)) ∧ Hid (Below w3.heap.size w3 wr)) (fun _ _ _ _ iv _ => L.length - (intOf iv).toNat)
  case atStart => exact ⟨0, [], rfl, rfl, Nat.zero_le _, by simp, rfl, Below.refl _ _⟩
  case round =>
    obtain ⟨k, T, rfl, rfl, hk, hT, HT, HBw⟩ := hrel
    by_cases hlt : k < L.length
    · obtain ⟨x, hx⟩ : ∃ x, L[k]? = some x := ⟨_, List.getElem?_eq_getElem hlt⟩
      obtain ⟨b, o, hbo, hbl, hcell⟩ := (HR2.out.below HBw.out).pos (by omega)
      subst hbo
      obtain ⟨c0, c1, c2', c3, c4⟩ := five_cells hcell hx
      obtain ⟨q, hq⟩ : ∃ q, q = l.getD k 0 := ⟨_, rfl⟩
      obtain ⟨T2, hT2⟩ : ∃ T2, T2 = bt l 0 (L.take (k + 1)) := ⟨_, rfl⟩
      have HTn := Lib.hid (show T2 = T ++ (gapS (q % 4) ++ body (q % 4) x) by
        rw [hT2, take_snoc' L k x hx, bt_app, HT.out, List.length_take, Nat.min_eq_left hk, Nat.zero_add, bt, bt, List.append_nil, ← hq])
      have hT2b : T2.length ≤ 5800 := by
        have a1 := bt_len l (L.take (k + 1)) 0
        have a2 : wt (L.take (k + 1)) ≤ wt L := by
          have a3 := wt_app (L.take (k + 1)) (L.drop (k + 1))
          rw [List.take_append_drop] at a3; omega
        have a4 : wt L ≤ 5800 := HWt.out
        rw [hT2]; omega
      have HT2 := Lib.hid hT2
      have HBx := Lib.hid (HBw.out.alloc HBw.out.size (.cells #[.int .u8 x.k, .string ⟨x.t.toArray⟩, .int .u64 x.n, .int .i64 x.line, .int .i64 x.col] 35))
      have hxt : x.t.length ≤ 5800 := by
        have a1 := wt_mem (List.mem_of_getElem? hx)
        have a4 : wt L ≤ 5800 := HWt.out
        omega
      have hst : (⟨x.t.toArray⟩ : ByteArray).size = x.t.length := by rw [Lib.size_eq]
      have hsT : (⟨T.toArray⟩ : ByteArray).size = T.length := by rw [Lib.size_eq]
      obtain ⟨xk, xt, xn, xn2, xcol⟩ := x
      simp only at c0 c1 c2' c3 c4 hxt hst
      have hq256 : q < 256 := by
        rw [hq]
        rcases Nat.lt_or_ge k l.length with h5 | h5
        · rw [List.getD, List.getElem?_eq_getElem h5]; exact Hok.out _ (List.getElem_mem h5)
        · rw [List.getD, List.getElem?_eq_none h5]; decide
      clear hcell hT2
      by_cases hkn : k < n
      · obtain ⟨bl, ol, hbo2, hbll, hcl⟩ := (HRl.out.below HBw.out).pos (by omega)
        subst hbo2
        have hlk : l[k]? = some q := by
          have h5 : k < l.length := by omega
          rw [hq, List.getD, List.getElem?_eq_getElem h5]; rfl
        have l0 := hcl k _ (u8s_at hlk)
        have g1 : (k : Int) < (n : Int) := by omega
        have Hq := Lib.hid hq
        clear hcl hlk hx hq
        have hj4 : q % 4 < 4 := Nat.mod_lt _ (by omega)
        rcases (by omega : q % 4 = 0 ∨ q % 4 = 1 ∨ q % 4 = 2 ∨ q % 4 = 3) with hj | hj | hj | hj
        · have m1 : (q : Int) % 4 = 0 := by omega
          have m2 : Int.tmod (q : Int) 4 = 0 := by rw [Int.tmod_eq_emod_of_nonneg (by omega)]; exact m1
          by_cases hk0 : xk = 0
          · have k1 : ((xk : Int) == 0) = true := by rw [hk0]; rfl
            have Hsum := Lib.hid (show ((⟨T.toArray⟩ : ByteArray) ++ ⟨#[32]⟩) ++ ⟨#[10]⟩ = ⟨T2.toArray⟩ by
              rw [HTn.out, hj, show (⟨#[32]⟩ : ByteArray) = ⟨(gapS 0).toArray⟩ from rfl, show (⟨#[10]⟩ : ByteArray) = ⟨(tailS 0).toArray⟩ from rfl, txt_app, txt_app, List.append_assoc]
              unfold body; rw [if_pos (by show xk = 0; exact hk0)])
            clear hj hk0
            go_wp2_with fail
            go_roundw
            case rel => exact ⟨k + 1, T2, by go_num, by rw [← Hsum.out], by omega, hT2b, HT2.out, below_more (below_more HBx.out _) _⟩
            case measure => simp [intOf]; omega
          · have k1 : ((xk : Int) == 0) = false := ne_lit hk0
            have Hsum := Lib.hid (show ((⟨T.toArray⟩ : ByteArray) ++ ⟨#[32]⟩) ++ ⟨xt.toArray⟩ = ⟨T2.toArray⟩ by
              rw [HTn.out, hj, show (⟨#[32]⟩ : ByteArray) = ⟨(gapS 0).toArray⟩ from rfl, txt_app, txt_app, List.append_assoc]
              unfold body; rw [if_neg (by show ¬ xk = 0; exact hk0)])
            clear hj hk0
            go_wp2_with fail
            go_roundw
            case rel => exact ⟨k + 1, T2, by go_num, by rw [← Hsum.out], by omega, hT2b, HT2.out, below_more HBx.out _⟩
            case measure => simp [intOf]; omega
        · have m1 : (q : Int) % 4 = 1 := by omega
          have m2 : Int.tmod (q : Int) 4 = 1 := by rw [Int.tmod_eq_emod_of_nonneg (by omega)]; exact m1
          by_cases hk0 : xk = 0
          · have k1 : ((xk : Int) == 0) = true := by rw [hk0]; rfl
            have Hsum := Lib.hid (show ((⟨T.toArray⟩ : ByteArray) ++ ⟨#[9, 32, 9]⟩) ++ ⟨#[10, 10]⟩ = ⟨T2.toArray⟩ by
              rw [HTn.out, hj, show (⟨#[9, 32, 9]⟩ : ByteArray) = ⟨(gapS 1).toArray⟩ from rfl, show (⟨#[10, 10]⟩ : ByteArray) = ⟨(tailS 1).toArray⟩ from rfl, txt_app, txt_app, List.append_assoc]
              unfold body; rw [if_pos (by show xk = 0; exact hk0)])
            clear hj hk0
            go_wp2_with fail
            go_roundw
            case rel => exact ⟨k + 1, T2, by go_num, by rw [← Hsum.out], by omega, hT2b, HT2.out, below_more (below_more HBx.out _) _⟩
            case measure => simp [intOf]; omega
          · have k1 : ((xk : Int) == 0) = false := ne_lit hk0
            have Hsum := Lib.hid (show ((⟨T.toArray⟩ : ByteArray) ++ ⟨#[9, 32, 9]⟩) ++ ⟨xt.toArray⟩ = ⟨T2.toArray⟩ by
              rw [HTn.out, hj, show (⟨#[9, 32, 9]⟩ : ByteArray) = ⟨(gapS 1).toArray⟩ from rfl, txt_app, txt_app, List.append_assoc]
              unfold body; rw [if_neg (by show ¬ xk = 0; exact hk0)])
            clear hj hk0
            go_wp2_with fail
            go_roundw
            case rel => exact ⟨k + 1, T2, by go_num, by rw [← Hsum.out], by omega, hT2b, HT2.out, below_more HBx.out _⟩
            case measure => simp [intOf]; omega
        · have m1 : (q : Int) % 4 = 2 := by omega
          have m2 : Int.tmod (q : Int) 4 = 2 := by rw [Int.tmod_eq_emod_of_nonneg (by omega)]; exact m1
          by_cases hk0 : xk = 0
          · have k1 : ((xk : Int) == 0) = true := by rw [hk0]; rfl
            have Hsum := Lib.hid (show ((⟨T.toArray⟩ : ByteArray) ++ ⟨#[32, 32]⟩) ++ ⟨#[35, 32, 110, 111, 116, 101, 32, 61, 32, 36, 10]⟩ = ⟨T2.toArray⟩ by
              rw [HTn.out, hj, show (⟨#[32, 32]⟩ : ByteArray) = ⟨(gapS 2).toArray⟩ from rfl, show (⟨#[35, 32, 110, 111, 116, 101, 32, 61, 32, 36, 10]⟩ : ByteArray) = ⟨(tailS 2).toArray⟩ from rfl, txt_app, txt_app, List.append_assoc]
              unfold body; rw [if_pos (by show xk = 0; exact hk0)])
            clear hj hk0
            go_wp2_with fail
            go_roundw
            case rel => exact ⟨k + 1, T2, by go_num, by rw [← Hsum.out], by omega, hT2b, HT2.out, below_more (below_more HBx.out _) _⟩
            case measure => simp [intOf]; omega
          · have k1 : ((xk : Int) == 0) = false := ne_lit hk0
            have Hsum := Lib.hid (show ((⟨T.toArray⟩ : ByteArray) ++ ⟨#[32, 32]⟩) ++ ⟨xt.toArray⟩ = ⟨T2.toArray⟩ by
              rw [HTn.out, hj, show (⟨#[32, 32]⟩ : ByteArray) = ⟨(gapS 2).toArray⟩ from rfl, txt_app, txt_app, List.append_assoc]
              unfold body; rw [if_neg (by show ¬ xk = 0; exact hk0)])
            clear hj hk0
            go_wp2_with fail
            go_roundw
            case rel => exact ⟨k + 1, T2, by go_num, by rw [← Hsum.out], by omega, hT2b, HT2.out, below_more HBx.out _⟩
            case measure => simp [intOf]; omega
        · have m1 : (q : Int) % 4 = 3 := by omega
          have m2 : Int.tmod (q : Int) 4 = 3 := by rw [Int.tmod_eq_emod_of_nonneg (by omega)]; exact m1
          by_cases hk0 : xk = 0
          · have k1 : ((xk : Int) == 0) = true := by rw [hk0]; rfl
            have Hsum := Lib.hid (show ((⟨T.toArray⟩ : ByteArray) ++ ⟨#[13, 32]⟩) ++ ⟨#[10, 35, 32, 36, 10, 32, 10]⟩ = ⟨T2.toArray⟩ by
              rw [HTn.out, hj, show (⟨#[13, 32]⟩ : ByteArray) = ⟨(gapS 3).toArray⟩ from rfl, show (⟨#[10, 35, 32, 36, 10, 32, 10]⟩ : ByteArray) = ⟨(tailS 3).toArray⟩ from rfl, txt_app, txt_app, List.append_assoc]
              unfold body; rw [if_pos (by show xk = 0; exact hk0)])
            clear hj hk0
            go_wp2_with fail
            go_roundw
            case rel => exact ⟨k + 1, T2, by go_num, by rw [← Hsum.out], by omega, hT2b, HT2.out, below_more (below_more HBx.out _) _⟩
            case measure => simp [intOf]; omega
          · have k1 : ((xk : Int) == 0) = false := ne_lit hk0
            have Hsum := Lib.hid (show ((⟨T.toArray⟩ : ByteArray) ++ ⟨#[13, 32]⟩) ++ ⟨xt.toArray⟩ = ⟨T2.toArray⟩ by
              rw [HTn.out, hj, show (⟨#[13, 32]⟩ : ByteArray) = ⟨(gapS 3).toArray⟩ from rfl, txt_app, txt_app, List.append_assoc]
              unfold body; rw [if_neg (by show ¬ xk = 0; exact hk0)])
            clear hj hk0
            go_wp2_with fail
            go_roundw
            case rel => exact ⟨k + 1, T2, by go_num, by rw [← Hsum.out], by omega, hT2b, HT2.out, below_more HBx.out _⟩
            case measure => simp [intOf]; omega
      · have hq0 : q = 0 := by rw [hq, List.getD, List.getElem?_eq_none (by omega)]; rfl
        have g1 : ¬ (k : Int) < (n : Int) := by omega
        have hj : q % 4 = 0 := by rw [hq0]
        clear hx hq hq0
        by_cases hk0 : xk = 0
        · have k1 : ((xk : Int) == 0) = true := by rw [hk0]; rfl
          have Hsum := Lib.hid (show ((⟨T.toArray⟩ : ByteArray) ++ ⟨#[32]⟩) ++ ⟨#[10]⟩ = ⟨T2.toArray⟩ by
            rw [HTn.out, hj, show (⟨#[32]⟩ : ByteArray) = ⟨(gapS 0).toArray⟩ from rfl, show (⟨#[10]⟩ : ByteArray) = ⟨(tailS 0).toArray⟩ from rfl, txt_app, txt_app, List.append_assoc]
            unfold body; rw [if_pos (by show xk = 0; exact hk0)])
          clear hj hk0
          go_wp2_with fail
          go_roundw
          case rel => exact ⟨k + 1, T2, by go_num, by rw [← Hsum.out], by omega, hT2b, HT2.out, below_more (below_more HBx.out _) _⟩
          case measure => simp [intOf]; omega
        · have k1 : ((xk : Int) == 0) = false := ne_lit hk0
          have Hsum := Lib.hid (show ((⟨T.toArray⟩ : ByteArray) ++ ⟨#[32]⟩) ++ ⟨xt.toArray⟩ = ⟨T2.toArray⟩ by
            rw [HTn.out, hj, show (⟨#[32]⟩ : ByteArray) = ⟨(gapS 0).toArray⟩ from rfl, txt_app, txt_app, List.append_assoc]
            unfold body; rw [if_neg (by show ¬ xk = 0; exact hk0)])
          clear hj hk0
          go_wp2_with fail
          go_roundw
          case rel => exact ⟨k + 1, T2, by go_num, by rw [← Hsum.out], by omega, hT2b, HT2.out, below_more HBx.out _⟩
          case measure => simp [intOf]; omega
    · obtain rfl : k = L.length := by omega
      rw [List.take_of_length_le (Nat.le_refl _)] at HT
      have Hlx := Lib.hid (fun W E => lex_any ⟨T.toArray⟩ W E)
      unfold LinePost at Hlx
      rw [show (⟨T.toArray⟩ : ByteArray).data.toList = T from rfl, HT.out, HM1.out] at Hlx
      simp only [hML] at Hlx
      rw [← HT.out] at Hlx
      have HR4 := Lib.hid (HR2.out.below HBw.out)
      have HB4 := Lib.hid (HB2.out.trans (HBw.out.mono HB2.out.size))
      go_wp2_with fail
      refine (Hlx.out _ (HEe.out.below HBw.out)).mono ?_
      rintro e w5 ⟨v5, rfl, hown5, hb5⟩
      obtain ⟨A5, c5, rfl, hc5, hR5, hn5⟩ := own_slice hown5
      have HR5 := Lib.hid (hR5.below ((Below.refl w5.heap.size w5).alloc (Nat.le_refl _) (.cells #[.int .i64 0, .int .i64 0, .int .i64 0] 39)))
      have HR6 := Lib.hid ((HR4.out.below hb5).below ((Below.refl w5.heap.size w5).alloc (Nat.le_refl _) (.cells #[.int .i64 0, .int .i64 0, .int .i64 0] 39)))
      have HB6 := Lib.hid ((HB4.out.trans (hb5.mono HB4.out.size)).alloc (Nat.le_trans HB4.out.size hb5.size) (.cells #[.int .i64 0, .int .i64 0, .int .i64 0] 39))
      clear hR5 hown5 hb5 Hlx HR4 HB4 HBw
      simp only [val_noW]
      go_wp2_with fail
      revert HR5 HR6 HB6
      generalize World.alloc _ _ = w6
      intro HR5 HR6 HB6
      clear HT
      go_loopw [13, 81] (fun _ iv wr => ∃ k : Nat, iv = .int .i64 k ∧ k ≤ L.length ∧ Hid (Below w6.heap.size w6 wr)) (fun _ iv _ => L.length - (intOf iv).toNat)
      case atStart => exact ⟨0, rfl, Nat.zero_le _, Below.refl _ _⟩
      case round =>
        obtain ⟨k, rfl, hk, HBw⟩ := hrel
        by_cases hlt : k < L.length
        · obtain ⟨x, hx⟩ : ∃ x, L[k]? = some x := ⟨_, List.getElem?_eq_getElem hlt⟩
          obtain ⟨y, hy⟩ : ∃ y, M[k]? = some y := ⟨_, List.getElem?_eq_getElem (by omega)⟩
          have hxy : sig y = sig x := by
            have h5 := congrArg (fun z => z[k]?) HM2.out
            simp only [List.getElem?_map, hx, hy, Option.map_some, Option.some.injEq] at h5
            exact h5
          obtain ⟨b, o, hbo, hbl, hcell⟩ := (HR6.out.below HBw.out).pos (by omega)
          subst hbo
          obtain ⟨c0, c1, c2', _, _⟩ := five_cells hcell hx
          obtain ⟨b2, o2, hbo2, hbl2, hcell2⟩ := (HR5.out.below HBw.out).pos (by omega)
          subst hbo2
          obtain ⟨e0, e1, e2', _, _⟩ := five_cells hcell2 hy
          obtain ⟨xk, xt, xn, xn2, xcol⟩ := x
          obtain ⟨yk, yt, yn, yn2, ycol⟩ := y
          simp only [sig, Prod.mk.injEq] at hxy c0 c1 c2' e0 e1 e2'
          obtain ⟨rfl, rfl, rfl⟩ := hxy
          clear hx hy hcell hcell2
          go_wp2_with fail
          go_quiet (fail)
          go_wp2_with fail
          go_roundw
          case rel => exact ⟨k + 1, by go_num, by omega, below_drewN HBw.out _⟩
          case measure => simp [intOf]; omega
        · obtain rfl : k = L.length := by omega
          go_wp2_with fail
          go_ret
          exact ⟨rfl, HB6.out.trans (HBw.out.mono HB6.out.size)⟩
theorem walk_lexBlanks (s : ByteArray) (A : Option Addr) (len cap : Nat) (zs : List Int) (w : World) (_h0 : s.size ≤ maxLen) (h1 : IsRow .u8 w A len cap zs) (hE : Env w) :
    Calls Tryd.prog 6 #[.string s, .slice A len cap] w (Yes w) := by
  obtain ⟨l, hl, hok, hr, _⟩ := row_u8 h1
  exact blanks_any s l A len cap w hl hok hr hE
end Go.Proofs.YthjbenjnhdgalaaDoor
