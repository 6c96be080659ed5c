/- The search for a call's case. -/
import Derived.Test.YtgdoampokcpagaaIrF
import Derived.WalkArith
namespace Go.Proofs.Ytgdoampokcpagaa.Ir
open Go.RowKit Go.WideElems
theorem casecmp_any (c : CaV) (x : Nat) (w : World) : Calls Try.prog 38 #[.agg #[.int .u32 c.num, .slice c.A c.brs.length c.cap], .int .u32 x] w fun e w' => e = .returned (.int .i64 (if (c.num : Int) < (x : Int) then -1 else if (x : Int) < (c.num : Int) then 1 else 0)) ∧ Below w.heap.size w w' := by
  have hc := compare_any (c.num : Int) (x : Int)
  generalize (if (c.num : Int) < (x : Int) then (-1 : Int) else if (x : Int) < (c.num : Int) then 1 else 0) = r at hc ⊢
  generalize c.brs.length = n
  go_enter Try.func38, Try.ntmps38
  go_wp2_with (go_at_call 33; refine (hc _).mono ?_; rintro e w1 ⟨rfl, rfl⟩)
  go_ret
  exact ⟨rfl, oneb _ _⟩
theorem case_cells {w : World} {b o k : Nat} {l : List CaV} {x : CaV} (hc : ∀ k x, l[k]? = some x → ∀ j v, (CaV.cells x)[j]? = some v → w.cell? ⟨b, o + (k * 2 + j), none⟩ = some v) (h : l[k]? = some x) :
    w.cell? ⟨b, o + k * 2, none⟩ = some (.int .u32 x.num) ∧ w.cell? ⟨b, o + k * 2 + 1, none⟩ = some (.slice x.A x.brs.length x.cap) :=
  ⟨by have := hc k x h 0 _ rfl; simpa using this, by have := hc k x h 1 _ rfl; simpa [Nat.add_assoc] using this⟩
set_option maxHeartbeats 8000000 in
set_option maxRecDepth 100000 in
theorem search_any (cs : List CaV) (n : Nat) (A : Option Addr) (cap x : Nat) (w : World) (hn : cs.length = n) (hl : n ≤ 100000) (hs : ∀ (i j : Nat) (c d : CaV), i < j → cs[i]? = some c → cs[j]? = some d → c.num < d.num) (hR : Rd w 2 n A (cs.flatMap CaV.cells)) :
    Calls Try.prog 37 #[.slice A n cap, .int .u32 x, .func (.func 38) #[] #[]] w fun e w' => Below w.heap.size w w' ∧ ∃ (i : Nat) (f : Bool), e = .returned (.tuple #[.int .i64 i, .bool f]) ∧ (f = true → ∃ c, cs[i]? = some c ∧ c.num = x) ∧ (f = false → ∀ c ∈ cs, c.num ≠ x) := by
  have eg : ∀ args w, (callFunc 38 args).run Try.prog w = .ok (.enter 38 args) w := enters_of Try.func38 (by kernel_rfl) rfl
  have HN := Lib.hid hn
  have HS := Lib.hid hs
  have HR := Lib.hid hR
  clear hn hs hR
  go_enter Try.func37, Try.ntmps37
  go_wp2_with fail
  go_loopw [9, 10] (fun iv jv wr => ∃ i j : Nat, iv = .int .i64 i ∧ jv = .int .i64 j ∧ i ≤ j ∧ j ≤ n ∧ Hid (∀ k c, k < i → cs[k]? = some c → c.num < x) ∧ Hid (∀ k c, j ≤ k → cs[k]? = some c → x ≤ c.num) ∧ Hid (Below w.heap.size w wr)) (fun iv jv _ => (intOf jv).toNat - (intOf iv).toNat)
  case atStart => exact ⟨0, n, rfl, rfl, Nat.zero_le _, Nat.le_refl _, Lib.hid (fun k c h => absurd h (Nat.not_lt_zero k)), Lib.hid (fun k c h hc => by have := (List.getElem?_eq_some_iff.1 hc).1; have := HN.out; omega), Lib.hid (Below.refl _ _)⟩
  case round =>
    obtain ⟨i, j, rfl, rfl, hij, hj, HI, HJ, HB⟩ := hrel
    by_cases hlt : i < j
    · obtain ⟨h, hh⟩ : ∃ h, h = (i + j) / 2 := ⟨_, rfl⟩
      have zh : ((i : Int) + (j : Int)) / 2 = (h : Int) := by omega
      obtain ⟨c, hc⟩ : ∃ c, cs[h]? = some c := ⟨_, List.getElem?_eq_getElem (by have := HN.out; omega)⟩
      obtain ⟨b, o, hA, hbl, hcell⟩ := (HR.out.below HB.out).one (f := CaV.cells) (fun _ => rfl) (by omega) (by omega)
      subst hA
      obtain ⟨c0, c1⟩ := case_cells hcell hc
      have hcl := casecmp_any c x
      have HC := Lib.hid hc
      have hhi : (h : Int) < (n : Int) := by omega
      have hh1 : i ≤ h := by omega
      have hh2 : h < j := by omega
      clear hcell hc
      have tu := Try.underlying125
      have wu : IntKind.u64.wrap ((i : Int) + (j : Int)) = (i : Int) + (j : Int) := by rw [IntKind.wrap_u64]; omega
      clear hh
      go_upto_region 5 with fail
      clear tu wu zh
      by_cases hv : c.num < x
      · rw [if_pos (show (c.num : Int) < (x : Int) by omega)] at hcl
        have HI2 := Lib.hid (show ∀ k c', k < h + 1 → cs[k]? = some c' → c'.num < x from fun k c' hk hc' => by
          by_cases hkh : k = h
          · subst hkh; rw [HC.out] at hc'; cases hc'; exact hv
          · exact Nat.lt_trans (HS.out k h c' c (by omega) hc' HC.out) hv)
        have HCL := Lib.hid hcl
        clear hv hcl
        go_wp2_with (go_at_fn 38; refine (HCL.out _).mono ?_; rintro e w3 ⟨rfl, hb3⟩; have HB3 := Lib.hid (HB.out.trans (hb3.mono HB.out.size)); clear hb3)
        go_roundw
        case rel => exact ⟨h + 1, j, by go_num, rfl, by omega, hj, HI2, HJ, HB3⟩
        case measure => simp [intOf]; omega
      · rw [if_neg (show ¬ (c.num : Int) < (x : Int) by omega)] at hcl
        obtain ⟨r, hr⟩ : ∃ r : Int, r = (if (x : Int) < (c.num : Int) then 1 else 0) := ⟨_, rfl⟩
        rw [← hr] at hcl
        have hr0 : ¬ r < 0 := by rw [hr]; split <;> omega
        have HJ2 := Lib.hid (show ∀ k c', h ≤ k → cs[k]? = some c' → x ≤ c'.num from fun k c' hk hc' => by
          by_cases hkh : k = h
          · subst hkh; rw [HC.out] at hc'; cases hc'; omega
          · have := HS.out h k c c' (by omega) HC.out hc'; omega)
        have HCL := Lib.hid hcl
        clear hv hcl hr
        go_wp2_with (go_at_fn 38; refine (HCL.out _).mono ?_; rintro e w3 ⟨rfl, hb3⟩; have HB3 := Lib.hid (HB.out.trans (hb3.mono HB.out.size)); clear hb3)
        go_roundw
        case rel => exact ⟨i, h, rfl, by go_num, hh1, by omega, HI, HJ2, HB3⟩
        case measure => simp [intOf]; omega
    · obtain rfl : i = j := by omega
      by_cases hin : i < n
      · obtain ⟨c, hc⟩ : ∃ c, cs[i]? = some c := ⟨_, List.getElem?_eq_getElem (by have := HN.out; omega)⟩
        obtain ⟨b, o, hA, hbl, hcell⟩ := (HR.out.below HB.out).one (f := CaV.cells) (fun _ => rfl) (by omega) (by omega)
        subst hA
        obtain ⟨c0, c1⟩ := case_cells hcell hc
        have hge := HJ.out i c (Nat.le_refl _) hc
        have hcl := casecmp_any c x
        rw [if_neg (show ¬ (c.num : Int) < (x : Int) by omega)] at hcl
        obtain ⟨r, hr⟩ : ∃ r : Int, r = (if (x : Int) < (c.num : Int) then 1 else 0) := ⟨_, rfl⟩
        rw [← hr] at hcl
        have HF := Lib.hid (show ((r == 0) = true → ∃ c, cs[i]? = some c ∧ c.num = x) ∧ ((r == 0) = false → ∀ c ∈ cs, c.num ≠ x) by
          refine ⟨fun h => ⟨c, hc, ?_⟩, fun h d hd e => ?_⟩
          · rw [beq_iff_eq, hr] at h
            by_cases hq : (x : Int) < (c.num : Int)
            · rw [if_pos hq] at h; omega
            · omega
          · rw [beq_eq_false_iff_ne, hr] at h
            have hq : (x : Int) < (c.num : Int) := by
              by_cases hq : (x : Int) < (c.num : Int)
              · exact hq
              · rw [if_neg hq] at h; omega
            obtain ⟨k, hk⟩ := List.getElem?_of_mem hd
            rcases Nat.lt_trichotomy k i with h1 | h1 | h1
            · have := HI.out k d h1 hk; omega
            · subst h1; rw [hc] at hk; cases hk; omega
            · have := HS.out i k c d h1 hc hk; omega)
        have HCL := Lib.hid hcl
        clear hcell hc hge hcl hr
        go_wp2_with (go_at_fn 38; refine (HCL.out _).mono ?_; rintro e w3 ⟨rfl, hb3⟩; have HB3 := Lib.hid (HB.out.trans (hb3.mono HB.out.size)); clear hb3)
        go_ret2
        exact ⟨HB3.out, i, r == 0, rfl, HF.out.1, HF.out.2⟩
      · go_wp2_with fail
        go_ret2
        refine ⟨HB.out, i, false, rfl, (fun h => by cases h), fun _ c hc e => ?_⟩
        obtain ⟨k, hk⟩ := List.getElem?_of_mem hc
        have h1 := (List.getElem?_eq_some_iff.1 hk).1
        have h2 := HN.out
        have h3 := HI.out k c (by omega) hk
        omega
end Go.Proofs.Ytgdoampokcpagaa.Ir

