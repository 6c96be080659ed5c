/- VmReckons: one way of reckoning. -/
import Derived.Test.YtnkffjdoillmaaaReckB
namespace Go.Proofs.Ytnkffjdoillmaaa
open Go.RowKit
set_option maxRecDepth 100000 in
set_option maxHeartbeats 4000000 in
theorem reckons_1 (a b k : Nat) (w : World) (ha : a < 4294967296) (hb : b < 4294967296) (hk : k < 256) (hJ : k % 9 = 1) : Calls Try.prog 4 #[.int .u32 a, .int .u32 b, .int .u8 k] w (Yes w) := by
  obtain ⟨bs, hbs, hR, _⟩ := rec_of 0 (by decide)
  obtain ⟨v, hvd⟩ : ∃ v, v = outN 1 a b := ⟨_, rfl⟩
  obtain ⟨z, hz1, hz2⟩ : ∃ z : Nat, (0 - (a : Int)) % 4294967296 = z ∧ outN 8 a 0 = z := ⟨_, by simp [outN, reckN]; omega, rfl⟩
  have Gf := Lib.hid (show Good (oneL 28 0 b a) from one_good (by decide) (by decide) (by simp [rangeB]))
  have Gh := Lib.hid (show Good (oneL 132 0 b a) from one_good (by decide) (by decide) (by simp [rangeB]))
  have Lf := Lib.hid (fun A w h => load_one 28 0 b a A w (by decide) (by decide) hb ha h)
  have Lg := Lib.hid (fun A w h => load_one 20 b 0 a A w (by decide) hb (by decide) ha h)
  have Lh := Lib.hid (fun A w h => load_one 132 0 b a A w (by decide) (by decide) hb ha h)
  have Rf := Lib.hid (fun B p b' o c w h => run_small (oneL 28 0 b a) v B p b' o c w bs hbs hR h Gf.out (one_ok (by decide) (by decide) hb ha) (one_run _ 28 0 b a b 1 v (by decide) (by decide) rfl hvd.symm))
  have Rg := Lib.hid (fun B p b' o c w h g => run_small (oneL 20 b 0 a) v B p b' o c w bs hbs hR h g (one_ok (by decide) hb (by decide) ha) (one_run _ 20 b 0 a b 1 v (by decide) (by decide) rfl hvd.symm))
  have Rh := Lib.hid (fun B p b' o c w h => run_small (oneL 132 0 b a) z B p b' o c w bs hbs hR h Gh.out (one_ok (by decide) (by decide) hb ha) (one_run _ 132 0 b a 0 8 z (by decide) (by decide) rfl hz2))
  have hv : ((a : Int) - (b : Int)) % 4294967296 = ((outN 1 a b : Nat) : Int) := by simp [outN, reckN]; omega
  rw [← hvd] at hv
  have hz3 : (-(a : Int)) % 4294967296 = z := by rw [← hz1]; congr 1; omega
  have hk9 : (k : Int) % 9 = 1 := by omega
  have x1 : bits .or .u16 4 16 = 20 := by decide
  have x2 : bits .or .u16 20 8 = 28 := by decide
  have x3 : bits .or .u16 20 0 = 20 := by decide
  skip
  clear hz2 hvd hJ hbs hR
  go_enter Try.func4, Try.ntmps4
  go_wp2_with fail
  refine (awake6 _).mono ?_
  rintro e w1 ⟨rfl, hb1⟩
  have H1 := Lib.hid hb1
  clear hb1
  go_wp2_with fail
  refine (one_any 28 0 b a _).mono ?_
  rintro e w2 ⟨gA, rfl, hr2, hb2⟩
  have H2 := Lib.hid ((H1.out.alloc H1.out.size _).trans (hb2.mono (by have := H1.out.size; simp; omega)))
  have R2 := Lib.hid hr2
  clear hb2 hr2 H1
  go_wp2_with fail
  refine (Lf.out _ _ R2.out).mono ?_
  rintro e w3 ⟨a3, er3, _, hb3, ⟨_, rfl, rfl, p, b', o, c, hp, _, rfl, hF⟩ | ⟨hn, _⟩⟩
  · have HF := Lib.hid hF
    have H3 := Lib.hid ((H2.out.trans (hb3.mono H2.out.size)).alloc (Nat.le_trans H2.out.size hb3.size) (.cells #[.int .i64 0, .int .i64 0] 31))
    have hp3 := Lib.hid (Nat.le_trans H2.out.size hp)
    clear hF hb3 hp H2 R2
    go_wp2_with fail
    refine (Rf.out _ _ _ _ _ _ (HF.out.below (one_below _ _))).mono ?_
    rintro e w4 ⟨n4, rfl, hg4⟩
    have H4 := Lib.hid (only_below H3.out hg4 H3.out.size hp3.out)
    clear hg4 H3 HF hp3
    go_wp2_with fail
    refine (one_any 20 b 0 a _).mono ?_
    rintro e w5 ⟨gB, rfl, hr5, hb5⟩
    have H5 := Lib.hid (H4.out.trans (hb5.mono H4.out.size))
    have R5 := Lib.hid hr5
    clear hb5 hr5 H4
    go_wp2_with fail
    refine (Lg.out _ _ R5.out).mono ?_
    rintro e w6 ⟨a6, er6, _, hb6, ⟨g6, rfl, rfl, p, b', o, c, hp, _, rfl, hF⟩ | ⟨_, her, rfl⟩⟩
    · have HF := Lib.hid hF
      have H6 := Lib.hid ((H5.out.trans (hb6.mono H5.out.size)).alloc (Nat.le_trans H5.out.size hb6.size) (.cells #[.int .i64 0, .int .i64 0] 31))
      have hp6 := Lib.hid (Nat.le_trans H5.out.size hp)
      have G6 := Lib.hid g6
      clear hF hb6 hp H5 R5 g6
      go_wp2_with fail
      refine (Rg.out _ _ _ _ _ _ (HF.out.below (one_below _ _)) G6.out).mono ?_
      rintro e w7 ⟨n7, rfl, hg7⟩
      have H7 := Lib.hid (only_below H6.out hg7 H6.out.size hp6.out)
      clear hg7 H6 HF hp6
      go_wp2_with fail
      all_goals
        refine (one_any 132 0 b a _).mono ?_
        rintro e w8 ⟨gC, rfl, hr8, hb8⟩
        have H8 := Lib.hid (H7.out.trans (hb8.mono H7.out.size))
        have R8 := Lib.hid hr8
        clear hb8 hr8 H7
        go_wp2_with fail
        refine (Lh.out _ _ R8.out).mono ?_
        rintro e w9 ⟨a9, er9, _, hb9, ⟨_, rfl, rfl, p, b', o, c, hp, _, rfl, hF⟩ | ⟨hn, _⟩⟩
        · have HF := Lib.hid hF
          have H9 := Lib.hid ((H8.out.trans (hb9.mono H8.out.size)).alloc (Nat.le_trans H8.out.size hb9.size) (.cells #[.int .i64 0, .int .i64 0] 31))
          have hp9 := Lib.hid (Nat.le_trans H8.out.size hp)
          clear hF hb9 hp H8 R8
          go_wp2_with fail
          refine (Rh.out _ _ _ _ _ _ (HF.out.below (one_below _ _))).mono ?_
          rintro e w10 ⟨n10, rfl, hg10⟩
          have H10 := Lib.hid (only_below H9.out hg10 H9.out.size hp9.out)
          clear hg10 H9 HF hp9
          go_wp2_with fail
          go_ret
          exact ⟨rfl, H10.out⟩
        · exact absurd Gh.out hn
    · have e1 : ((er6 : Int) == 0) = false := by simp; omega
      have e2 : ((er6 : Int) != 0) = true := by simp; omega
      have H7 := Lib.hid ((H5.out.trans (hb6.mono H5.out.size)).alloc (Nat.le_trans H5.out.size hb6.size) (.cells #[.int .i64 a6, .int .i64 er6] 31))
      clear hb6 H5 R5 her
      go_wp2_with fail
      all_goals
        refine (one_any 132 0 b a _).mono ?_
        rintro e w8 ⟨gC, rfl, hr8, hb8⟩
        have H8 := Lib.hid (H7.out.trans (hb8.mono H7.out.size))
        have R8 := Lib.hid hr8
        clear hb8 hr8 H7
        go_wp2_with fail
        refine (Lh.out _ _ R8.out).mono ?_
        rintro e w9 ⟨a9, er9, _, hb9, ⟨_, rfl, rfl, p, b', o, c, hp, _, rfl, hF⟩ | ⟨hn, _⟩⟩
        · have HF := Lib.hid hF
          have H9 := Lib.hid ((H8.out.trans (hb9.mono H8.out.size)).alloc (Nat.le_trans H8.out.size hb9.size) (.cells #[.int .i64 0, .int .i64 0] 31))
          have hp9 := Lib.hid (Nat.le_trans H8.out.size hp)
          clear hF hb9 hp H8 R8
          go_wp2_with fail
          refine (Rh.out _ _ _ _ _ _ (HF.out.below (one_below _ _))).mono ?_
          rintro e w10 ⟨n10, rfl, hg10⟩
          have H10 := Lib.hid (only_below H9.out hg10 H9.out.size hp9.out)
          clear hg10 H9 HF hp9
          go_wp2_with fail
          go_ret
          exact ⟨rfl, H10.out⟩
        · exact absurd Gh.out hn
  · exact absurd Gf.out hn
end Go.Proofs.Ytnkffjdoillmaaa
