/- AsmLines: the walk. -/
import Derived.Test.YthiohihbcfahhaaDoorLinW
import Derived.Deep.QuietTactic
import Derived.BigQuiet
import Derived.Deep.CutRange
namespace Go.Proofs.YthiohihbcfahhaaDoor
open Go.RowKit Go.ChangeShapes Go.WideShapes Go.ChangeAt Go.WideElems
set_option maxRecDepth 100000 in
set_option maxHeartbeats 8000000 in
theorem walk_lines (l : List Nat) (n : Nat) (lA : Option Addr) (lc : Nat) (a : Nat) (w : World) (hl : l.length = n) (hok : ∀ x ∈ l, x < 256) (hr : Rd w 1 n lA (u8s l)) (hm : n ≤ maxLen) (ha : a < 256) (hE : Env w) :
    Calls Tryd.prog 5 #[.slice lA n lc, .int .u8 a] w (Yes w) := by
  obtain ⟨i0, hi0, hz0, hz1, hz2⟩ := info_parts infoIns4
  unfold maxLen at hm
  have HE := Lib.hid hE
  have HR := Lib.hid hr
  have Hl := Lib.hid hl
  have Hok := Lib.hid hok
  clear hE hr hl hok
  go_enter Tryd.func5, Tryd.ntmps5
  go_wp2_with fail
  refine (awake_any _ HE.out).mono ?_
  rintro e w1 ⟨rfl, hb1⟩
  have HB1 := Lib.hid hb1
  clear hb1
  go_upto_region 5 with fail
  go_cut [5, 6, 7] from 21 to 82 (fun g b t wx => t = .string ⟨#[10, 35, 32, 110, 111, 116, 104, 105, 110, 103, 10]⟩ ∧ g = .slice (some ⟨w1.heap.size, 0, none⟩) 23 23 ∧ b = .slice (some ⟨w1.heap.size + 1, 0, none⟩) 12 12 ∧ Hid (Bk wx w1.heap.size 42 (goodT.flatMap Gd.cells)) ∧ Hid (Bk wx (w1.heap.size + 1) 42 (badT.flatMap Gd.cells)) ∧ Hid (Below w1.heap.size w1 wx))
  case first => as_aux_lemma =>
    go_wp2_with fail
    go_meet
    case rel => exact ⟨rfl, rfl, rfl, Lib.hid ((bk_new_at (l := goodT.flatMap Gd.cells) _ _ _ (by kernel_rfl) rfl).alloc _), Lib.hid (bk_new_at (l := badT.flatMap Gd.cells) _ _ _ (by kernel_rfl) (by simp)), Lib.hid (two_below w1 _ _)⟩
  case rest =>
    obtain ⟨rfl, rfl, rfl, HGd, HBd, HB2'⟩ := hcut
    have HB3 := Lib.hid (HB1.out.trans (HB2'.out.mono HB1.out.size))
    have hgl := HGd.out.lt
    have hbl := HBd.out.lt
    generalize w1.heap.size = g at *
    generalize wc = w3 at *
    clear HB1 HB2'
    have HL0 := Lib.hid (show LinR w3 [] (.slice none 0 0) w3 from ⟨World.ownsRow_nil _ _ _ _, Below.refl _ _⟩)
    go_wp2_with fail
    go_loopw [7, 8, 9, 85] (fun t v q c wr => ∃ (k : Nat) (G : List Gd) (T : Bs), k ≤ n ∧ c = .int .i64 k ∧ t = .string ⟨T.toArray⟩ ∧ q = .int .i64 ((2 + G.length : Nat)) ∧ G.length ≤ k ∧ G.length ≤ 30 ∧ T.length ≤ 491 ∧ Hid (T = txtG G ∧ ∀ x ∈ G, x ∈ goodT) ∧ Hid (LinR w3 G v wr)) (fun _ _ _ c _ => n - (intOf c).toNat)
    case atStart => exact ⟨0, [], headG, by omega, rfl, rfl, rfl, by simp, by simp, by decide, Lib.hid ⟨rfl, by simp⟩, HL0⟩
    case round =>
      obtain ⟨k, G, T, hk, rfl, rfl, rfl, hGk, hG30, hT, HG, HT⟩ := hrel
      clear HL0
      by_cases hlt : k < n
      · obtain ⟨d, hd⟩ : ∃ d, l[k]? = some d := ⟨_, List.getElem?_eq_getElem (by have := Hl.out; omega)⟩
        obtain ⟨b, o, rfl, _, hcell⟩ := (HR.out.below (HB3.out.trans (HT.out.bel.mono HB3.out.size))).pos (by omega)
        have c0 := hcell k _ (u8s_at hd)
        have hd256 := Hok.out d (List.mem_of_getElem? hd)
        clear hcell hd
        by_cases h30 : k < 30
        · have t1 : (k : Int) < 30 := by omega
          obtain ⟨z, hz⟩ : ∃ z, z = d % 23 := ⟨_, rfl⟩
          have ez : (d : Int) % 23 = z := by omega
          have ez2 : (d : Int).tmod 23 = z := by rw [Int.tmod_eq_emod_of_nonneg (by omega)]; omega
          have hz23 : z < 23 := by omega
          have hgz := goodAt_get z hz23
          obtain ⟨x, hx⟩ : ∃ x, x = goodAt z := ⟨_, rfl⟩
          rw [← hx] at hgz
          obtain ⟨p0, p1, p2, p3, p4, p5⟩ := six_cells (HGd.out.kept HT.out.bel) hgz
          have Hxm := Lib.hid (List.mem_of_getElem? hgz)
          have hxl : x.w.length ≤ 15 := (good_in x Hxm.out).2.1
          have hgl2 : g < wr.heap.size := Nat.lt_of_lt_of_le hgl HT.out.bel.size
          clear hx hgz hz
          have HX := Lib.hid (bk_new_at (l := x.cells) wr 42 #[.string ⟨x.w.toArray⟩, .int .u16 x.i.c, .int .u8 x.i.t, .int .u8 x.i.f, .int .u32 x.i.k, .int .i64 x.e] rfl rfl)
          have HT2 := Lib.hid (HT.out.kept (one_below wr (.cells #[.string ⟨x.w.toArray⟩, .int .u16 x.i.c, .int .u8 x.i.t, .int .u8 x.i.f, .int .u32 x.i.k, .int .i64 x.e] 42)))
          clear HT
          have d0 := HX.out.cell 0 rfl
          have d1 := HX.out.cell 1 rfl
          have d2 := HX.out.cell 2 rfl
          have d3 := HX.out.cell 3 rfl
          have d4 := HX.out.cell 4 rfl
          have Hbw := Lib.hid (show w3.heap.size ≤ wr.heap.size + 1 + 1 by have := HT2.out.bel.size; simp at this; omega)
          have Hnews := Lib.hid (show ∀ (j : Nat) (u : Value), x.i.cells[j]? = some u → ((wr.alloc (.cells #[.string ⟨x.w.toArray⟩, .int .u16 x.i.c, .int .u8 x.i.t, .int .u8 x.i.f, .int .u32 x.i.k, .int .i64 x.e] 42)).alloc (.cells #[.int .u16 x.i.c, .int .u8 x.i.t, .int .u8 x.i.f, .int .u32 x.i.k] 38)).cell? ((⟨wr.heap.size + 1, 0, none⟩ : Addr).add j) = some u from fun j u hu => by
            have h := four_new (wr.alloc (.cells #[.string ⟨x.w.toArray⟩, .int .u16 x.i.c, .int .u8 x.i.t, .int .u8 x.i.f, .int .u32 x.i.k, .int .i64 x.e] 42)) 38 x.i.c x.i.t x.i.f x.i.k j u hu
            rw [show (wr.alloc (.cells #[.string ⟨x.w.toArray⟩, .int .u16 x.i.c, .int .u8 x.i.t, .int .u8 x.i.f, .int .u32 x.i.k, .int .i64 x.e] 42)).heap.size = wr.heap.size + 1 by simp] at h
            exact h)
          obtain ⟨Av, cv, rfl, hcv, _⟩ := own_seg HT2.out.own
          go_wp2_with (at_builtin; refine wpList_append_own_at _ rfl (.tmp 105) (.tmp 108) 28 rfl w3.heap.size 38 i0 _ 4 8 Tryd.underlying28 hi0 hz0 hz1 hz2 rfl (by decide) _ G.length ((G.map Gd.i).flatMap Ins.cells) rfl (HT2.out.own.alloc _) ⟨wr.heap.size + 1, 0, none⟩ 1 1 x.i.cells rfl rfl Hnews.out (cells_one x.i) (by unfold maxLen; omega) (by omega) (by simp; exact Hbw.out) ?_; intro v' w5 hown' hgrow _ _; have HT5 := Lib.hid (HT2.out.put _ hown' hgrow); clear hown' hgrow)
          have HG2 := Lib.hid (show txtG (G ++ [x]) = txtG (G ++ [x]) ∧ ∀ y ∈ G ++ [x], y ∈ goodT from ⟨rfl, fun y hy => by
            rcases List.mem_append.1 hy with h | h
            · exact HG.out.2 y h
            · rw [List.mem_singleton] at h; subst h; exact Hxm.out⟩)
          have Hlen2 := Lib.hid (show (txtG (G ++ [x])).length ≤ 491 by have := txtG_len _ HG2.out.2; simp at this; omega)
          have Hsum := Lib.hid (show (⟨T.toArray⟩ : ByteArray) ++ ((⟨x.w.toArray⟩ : ByteArray) ++ ⟨#[10]⟩) = ⟨(txtG (G ++ [x])).toArray⟩ by rw [HG.out.1]; exact txt_sum G x)
          go_roundw
          case rel => exact ⟨k + 1, G ++ [x], txtG (G ++ [x]), by omega, by go_num, by rw [Hsum.out], by simp; go_num, by simp; omega, by simp; omega, Hlen2.out, HG2, HT5⟩
          case measure => simp [intOf]; omega
        · have t1 : ¬ (k : Int) < 30 := by omega
          go_wp2_with fail
          go_roundw
          case rel => exact ⟨k + 1, G, T, by omega, by go_num, rfl, rfl, by omega, hG30, hT, HG, HT⟩
          case measure => simp [intOf]; omega
      · obtain rfl : k = n := by omega
        obtain ⟨m, hm⟩ : ∃ m, m = G.length := ⟨_, rfl⟩
        obtain ⟨N, hN⟩ : ∃ N, N = 2 + m := ⟨_, rfl⟩
        obtain ⟨X, hX⟩ : ∃ X, X = G.map Gd.i := ⟨_, rfl⟩
        have hXl : X.length = m := by rw [hX, List.length_map, hm]
        have HB4 := Lib.hid (HB3.out.trans (HT.out.bel.mono HB3.out.size))
        have Hgood := Lib.hid (fun W E => good_calls G HG.out.2 hG30 W E)
        have Hpb := Lib.hid (parseB_good G HG.out.2 hG30)
        have Hbadc := Lib.hid (fun b hb W E => bad_calls G HG.out.2 hG30 b hb W E)
        have Hpbad := Lib.hid (fun b hb => parseB_bad G HG.out.2 hG30 b hb)
        obtain ⟨Av, cv, rfl, _, hseg⟩ := own_seg HT.out.own
        have HXr := Lib.hid hseg.rd
        have HGd2 := Lib.hid (HBd.out.kept HT.out.bel)
        have hb2 : g + 1 < wr.heap.size := Nat.lt_of_lt_of_le hbl HT.out.bel.size
        rw [← hm] at HXr ⊢
        rw [← hN]
        rw [← hX] at HXr Hpb
        rw [← HG.out.1] at Hgood Hpb Hbadc Hpbad
        rw [← hm, ← hN] at Hpbad
        have hm30 : m ≤ 30 := by omega
        have HN := Lib.hid hN
        have HXl := Lib.hid hXl
        clear hm hN hX hXl hseg HT HG hgl hbl HGd HBd hG30 hGk
        go_wp2_with fail
        refine (Hgood.out _ (HE.out.below HB4.out)).mono ?_
        unfold ParsePost
        rw [Hpb.out]
        rintro e w6 ⟨A6, c6, rfl, hc6, hseg6, hb6⟩
        have HB6 := Lib.hid (HB4.out.trans (hb6.mono HB4.out.size))
        have HX6 := Lib.hid (HXr.out.below hb6)
        have HBd6 := Lib.hid (HGd2.out.kept hb6)
        have hb3 : g + 1 < w6.heap.size := Nat.lt_of_lt_of_le hb2 hb6.size
        simp only at hc6 hseg6 ⊢
        rw [HXl.out] at hc6 hseg6 ⊢
        have HG6 := Lib.hid hseg6.rd
        clear hb6 hseg6 hc6 HB4 HXr HGd2 hb2 Hgood
        go_wp2_with fail
        go_loopw [134] (fun c wr => ∃ k : Nat, k ≤ m ∧ c = .int .i64 k ∧ Hid (Below w6.heap.size w6 wr)) (fun c _ => m - (intOf c).toNat)
        case atStart => exact ⟨0, by omega, rfl, Below.refl _ _⟩
        case round =>
          obtain ⟨j, hj, rfl, HW⟩ := hrel
          by_cases hlt : j < m
          · obtain ⟨x, hx⟩ : ∃ x, X[j]? = some x := ⟨_, List.getElem?_eq_getElem (by have := HXl.out; omega)⟩
            obtain ⟨b1, o1, rfl, _, hc1⟩ := (HG6.out.below HW.out).pos (by omega)
            obtain ⟨b2, o2, rfl, _, hc2⟩ := (HX6.out.below HW.out).pos (by omega)
            obtain ⟨p0, p1, p2, p3⟩ := four_cells hc1 hx
            obtain ⟨q0, q1, q2, q3⟩ := four_cells hc2 hx
            have hne := fun W => neq_ins x x W
            rw [show sameI x x = true from sameI_eq.2 rfl] at hne
            clear hc1 hc2 hx
            go_wp2_with fail
            go_quiet (fail)
            go_wp2_with fail
            go_roundw
            case rel => exact ⟨j + 1, by omega, by go_num, below_drewN HW.out _⟩
            case measure => simp [intOf]; omega
          · obtain rfl : j = m := by omega
            obtain ⟨z, hz⟩ : ∃ z, z = a % 12 := ⟨_, rfl⟩
            have ez : (a : Int) % 12 = z := by omega
            have ez2 : (a : Int).tmod 12 = z := by rw [Int.tmod_eq_emod_of_nonneg (by omega)]; omega
            have hz12 : z < 12 := by omega
            have hgz := badAt_get z hz12
            obtain ⟨x, hx⟩ : ∃ x, x = badAt z := ⟨_, rfl⟩
            rw [← hx] at hgz
            obtain ⟨p0, p1, p2, p3, p4, p5⟩ := six_cells (HBd6.out.kept HW.out) hgz
            have Hxm := Lib.hid (List.mem_of_getElem? hgz)
            have hxl : x.w.length ≤ 15 := (bad_in x Hxm.out).2.1
            have hgl2 : g + 1 < wr.heap.size := Nat.lt_of_lt_of_le hb3 HW.out.size
            have Hc := Lib.hid (fun W E => Hbadc.out x Hxm.out W E)
            obtain ⟨M, hM⟩ : ∃ M, M = N + 1 := ⟨_, rfl⟩
            have hp := Hpbad.out x Hxm.out
            rw [← hM] at hp
            have Hp := Lib.hid hp
            have eM := Lib.hid (show (N : Int) + 1 = (M : Int) by omega)
            have hM0 : M ≤ 33 := by have := HN.out; omega
            clear hM hp
            have HB7 := Lib.hid ((HB6.out.trans (HW.out.mono HB6.out.size)).trans ((one_below wr (.cells #[.string ⟨x.w.toArray⟩, .int .u16 x.i.c, .int .u8 x.i.t, .int .u8 x.i.f, .int .u32 x.i.k, .int .i64 x.e] 42)).mono (HB6.out.trans (HW.out.mono HB6.out.size)).size))
            have HX := Lib.hid (bk_new_at (l := x.cells) wr 42 #[.string ⟨x.w.toArray⟩, .int .u16 x.i.c, .int .u8 x.i.t, .int .u8 x.i.f, .int .u32 x.i.k, .int .i64 x.e] rfl rfl)
            clear hx hgz hz HBd6 HW HG6 HX6 Hpbad Hbadc
            have d0 := HX.out.cell 0 rfl
            go_wp2_with fail
            refine (Hc.out _ (HE.out.below HB7.out)).mono ?_
            unfold ParsePost
            rw [Hp.out]
            rintro e w8 ⟨A8, c8, rfl, hc8, _, hb8⟩
            have d5 := (HX.out.kept hb8).cell 5 rfl
            have HB8 := Lib.hid (HB7.out.trans (hb8.mono HB7.out.size))
            simp only [List.length_nil]
            clear hb8 hc8 p0 p1 p2 p3 p4 p5 d0 ez ez2 hxl hgl2 hz12 hb3
            obtain ⟨E, hE⟩ : ∃ E, E = x.e := ⟨_, rfl⟩
            rw [← hE] at d5 ⊢
            clear hE
            generalize wr.heap.size = g8 at *
            have eM' := eM.out
            go_wp2_with fail
            go_ret
            exact ⟨rfl, HB8.out⟩
theorem walk_asmLines (A : Option Addr) (len cap : Nat) (zs : List Int) (a : Int) (w : World) (h0 : IsRow .u8 w A len cap zs) (h1 : (Lit.int .u8 a).wf = true) (hE : Env w) :
    Calls Tryd.prog 5 #[.slice A len cap, .int .u8 a] w (Yes w) := by
  obtain ⟨l, hl, hok, hr, hm⟩ := row_u8 h0
  obtain ⟨l0, u0⟩ := bounds_u8 h1
  obtain ⟨a0, rfl⟩ := Int.eq_ofNat_of_zero_le l0
  exact walk_lines l len A cap a0 w hl hok hr hm (by omega) hE
end Go.Proofs.YthiohihbcfahhaaDoor
