/- CheckStrips: the walk. -/
import Derived.Test.YtelflegcghcecaaEnds
import Derived.Test.YtelflegcghcecaaClassM
namespace Go.Proofs.Ytelflegcghcecaa
open Go.RowKit
/-- One of the three lists, as the law holds it. -/
theorem bools_at {l : List Ins} {j : Nat} (h : j < l.length) : (bools (rc l))[j]? = some (.bool (rb l j)) := by
  simp [bools, rb, List.getD_eq_getElem?_getD, List.getElem?_eq_getElem (show j < (rc l).length by rw [rc_len]; exact h)]
def OneOf (w : World) (g j : Nat) : Prop := ∃ (X : List Ins) (n : Nat) (A : Option Addr) (cp : Nat), X.length = n ∧ n ≤ 65536 ∧ (∀ i ∈ X, i.ok) ∧ Rd w 4 n A (X.flatMap Ins.cells) ∧ w.cell? ⟨g, j, none⟩ = some (.slice A n cp)
set_option maxRecDepth 100000 in
set_option maxHeartbeats 4000000 in
theorem walk_strips (l : List Ins) (S : List Sml) (n sn : Nat) (lA sA : Option Addr) (lc sc ends : Nat) (w : World) (hl : l.length = n) (hok : ∀ i ∈ l, i.ok) (hr : Rd w 4 n lA (l.flatMap Ins.cells))
    (hS : S.length = sn) (hSok : ∀ i ∈ S, i.ok) (hSr : Rd w 9 sn sA (S.flatMap Sml.cells)) (hm : sn ≤ maxLen) (he : ends < 256) :
    Calls Try.prog 6 #[.slice lA n lc, .slice sA sn sc, .int .u8 ends] w (Yes w) := by
  have PR := Lib.hid (fun w' E (hE : E < 256) (hb : Below w.heap.size w w') => program_any S sn sA sc E w' hS hSok (hSr.below hb) hm hE)
  have Hl := Lib.hid (And.intro hl (And.intro hok hr))
  clear hl hok hr hS hSok hSr
  go_enter Try.func6, Try.ntmps6
  go_wp2_with fail
  refine (awake_any _).mono ?_
  rintro e w1 ⟨rfl, hb1⟩
  have HB1 := Lib.hid hb1
  clear hb1
  by_cases h100 : 100 < n
  · have e1 : decide ((100 : Int) < n) = true := by simp; omega
    go_wp2_with fail
    go_ret
    exact ⟨rfl, HB1.out⟩
  have e1 : decide ((100 : Int) < n) = false := by simp; omega
  go_wp2_with fail
  refine (PR.out _ ends he HB1.out).mono ?_
  rintro e w2 ⟨L, A, cp, rfl, hcp, hseg, hLok, hL65, _, hb2⟩
  have HB2 := Lib.hid (HB1.out.trans (hb2.mono HB1.out.size))
  obtain ⟨N, hN⟩ : ∃ N, N = L.length := ⟨_, rfl⟩
  rw [← hN] at hseg hL65 hcp ⊢
  have HL2 := Lib.hid (And.intro hN.symm (And.intro hLok hseg.rd))
  clear hb2 hseg hLok hN HB1
  go_wp2_with fail
  refine (PR.out _ 5 (by omega) HB2.out).mono ?_
  rintro e w3 ⟨M, C, cm, rfl, hcm, hseg, hMok, hM65, _, hb3⟩
  have HB3 := Lib.hid (HB2.out.trans (hb3.mono HB2.out.size))
  obtain ⟨K, hK⟩ : ∃ K, K = M.length := ⟨_, rfl⟩
  rw [← hK] at hseg hM65 hcm ⊢
  have h4 := one_below w3 (.cells #[.slice lA n lc, .slice A N cp, .slice C K cm] 24)
  obtain ⟨w4, hw4⟩ : ∃ w4, w4 = w3.alloc (.cells #[.slice lA n lc, .slice A N cp, .slice C K cm] 24) := ⟨_, rfl⟩
  rw [← hw4] at h4
  have hbk := Bk.new w3 24 #[.slice lA n lc, .slice A N cp, .slice C K cm] rfl
  rw [← hw4] at hbk
  have H3 := Lib.hid (show ∀ j, j < 3 → OneOf w4 w3.heap.size j from fun j hj => by
    rcases (by omega : j = 0 ∨ j = 1 ∨ j = 2) with rfl | rfl | rfl
    · exact ⟨l, n, lA, lc, Hl.out.1, by omega, Hl.out.2.1, (Hl.out.2.2.below HB3.out).below h4, hbk.cell 0 rfl⟩
    · exact ⟨L, N, A, cp, HL2.out.1, by omega, HL2.out.2.1, (HL2.out.2.2.below hb3).below h4, hbk.cell 1 rfl⟩
    · exact ⟨M, K, C, cm, hK.symm, by omega, hMok, hseg.rd.below h4, hbk.cell 2 rfl⟩)
  have HB4 := Lib.hid (HB3.out.trans (h4.mono HB3.out.size))
  have Hsz := Lib.hid (show w4.heap.size = w3.heap.size + 1 by rw [hw4]; simp)
  clear h4 hbk hb3 hseg hMok hM65 hL65 hcm hcp hK HB3 HB2 HL2 Hl PR h100 e1
  go_wp2_with fail
  rw [← hw4]
  go_loopw [34] (fun i wr => ∃ k : Nat, k ≤ 3 ∧ i = .int .i64 k ∧ Hid (Below w4.heap.size w4 wr)) (fun i _ => 3 - (intOf i).toNat)
  case atStart => exact ⟨0, by omega, rfl, Lib.hid (Below.refl _ _)⟩
  case round =>
    obtain ⟨k, hk, rfl, HR⟩ := hrel
    by_cases hlt : k < 3
    · obtain ⟨X, x, XA, xc, hX, h65, hXok, hXr, hc⟩ := H3.out k hlt
      have hc' := (HR.out.cell (p := ⟨w3.heap.size, k, none⟩) (by have := Hsz.out; show w3.heap.size < _; omega)).trans hc
      have HX := Lib.hid (And.intro hX (And.intro h65 (And.intro hXok (hXr.below HR.out))))
      clear hX h65 hXok hXr hc
      go_wp2_with fail
      refine (strip_any X x XA xc _ HX.out.1 HX.out.2.2.1 HX.out.2.2.2 HX.out.2.1).mono ?_
      rintro e w5 ⟨hb5, y, YA, yc, rfl, hseg, hyok, hyg, hyn⟩
      obtain ⟨yn, hyl⟩ : ∃ yn, yn = y.length := ⟨_, rfl⟩
      rw [← hyl] at hseg ⊢
      have HR5 := Lib.hid (HR.out.trans (hb5.mono HR.out.size))
      have HX5 := Lib.hid (And.intro HX.out.1 (And.intro HX.out.2.1 (And.intro HX.out.2.2.1 (HX.out.2.2.2.below hb5))))
      have HY5 := Lib.hid (And.intro hyl.symm (And.intro hyok hseg.rd))
      have Hyg := Lib.hid (And.intro hyg hyn)
      clear hb5 hseg hyok hyg hyn hyl HX HR hc'
      go_wp2_with fail
      refine (count_any X x XA xc _ HX5.out.1 HX5.out.2.2.1 HX5.out.2.2.2 HX5.out.2.1).mono ?_
      rintro e w6 ⟨rfl, hb6⟩
      have HR6 := Lib.hid (HR5.out.trans (hb6.mono HR5.out.size))
      have HX6 := Lib.hid (And.intro HX5.out.1 (And.intro HX5.out.2.1 (And.intro HX5.out.2.2.1 (HX5.out.2.2.2.below hb6))))
      have HY6 := Lib.hid (And.intro HY5.out.1 (And.intro HY5.out.2.1 (HY5.out.2.2.below hb6)))
      clear hb6 HR5 HX5 HY5
      obtain ⟨T, hT⟩ : ∃ T, T = ints (counts X) := ⟨_, rfl⟩
      rw [← hT]
      have HT := Lib.hid hT
      clear hT
      have hz1 : (Try.prog.info? 44).map (·.size) = some 8 := by kernel_rfl
      have hz2 : T.length = 8 := by rw [HT.out]; rfl
      have hz3 : (ints [0, 0, 0, 0, 0, 0, 0, 0]).length = 8 := rfl
      have hz4 : T.toArray.all (·.oneCell') = true := by rw [HT.out]; simp [ints, Value.oneCell']
      have HA := Lib.hid (show Bk (w6.alloc (.cells #[.int .i64 0, .int .i64 0, .int .i64 0, .int .i64 0, .int .i64 0, .int .i64 0, .int .i64 0, .int .i64 0] 44)) w6.heap.size 44 (ints [0, 0, 0, 0, 0, 0, 0, 0]) from Bk.new _ _ _ rfl)
      have hb7 : Below w6.heap.size w6 ((w6.alloc (.cells #[.int .i64 0, .int .i64 0, .int .i64 0, .int .i64 0, .int .i64 0, .int .i64 0, .int .i64 0, .int .i64 0] 44)).setRow w6.heap.size T.toArray) :=
        only_below ((Below.refl _ _).alloc (Nat.le_refl _) _) (only_row _ w6.heap.size _) (by simp) (Nat.le_refl _)
      have HK := Lib.hid (HA.out.row T)
      obtain ⟨w7, hw7⟩ : ∃ w7, w7 = (w6.alloc (.cells #[.int .i64 0, .int .i64 0, .int .i64 0, .int .i64 0, .int .i64 0, .int .i64 0, .int .i64 0, .int .i64 0] 44)).setRow w6.heap.size T.toArray := ⟨_, rfl⟩
      rw [← hw7] at hb7
      have HR7 := Lib.hid (HR6.out.trans (hb7.mono HR6.out.size))
      have HX7 := Lib.hid (And.intro HX6.out.1 (And.intro HX6.out.2.1 (And.intro HX6.out.2.2.1 (HX6.out.2.2.2.below hb7))))
      have HY7 := Lib.hid (And.intro HY6.out.1 (And.intro HY6.out.2.1 (HY6.out.2.2.below hb7)))
      clear hb7 HR6 HX6 HY6
      go_wp2_with (first | (refine ld_row HK.out rfl _ rfl rfl Try.underlying44 hz1 hz2 ?_) | (refine st_row HA.out rfl _ _ rfl rfl rfl hz1 hz3 hz2 hz4 ?_))
      rw [← hw7]
      clear hw7 HA HK
      have hI : ∀ q, q < 8 → ∀ wx, (Instr.index 44 (.agg T.toArray) (.int .i64 (q : Nat))).run Try.prog wx = .ok (.int .i64 (ofClass X q : Nat)) wx := by
        intro q hq wx
        rw [HT.out]
        rcases (by omega : q = 0 ∨ q = 1 ∨ q = 2 ∨ q = 3 ∨ q = 4 ∨ q = 5 ∨ q = 6 ∨ q = 7) with rfl | rfl | rfl | rfl | rfl | rfl | rfl | rfl <;> kernel_rfl
      have HI := Lib.hid hI
      clear hI hz1 hz2 hz3 hz4 HT
      go_loopw [11, 43] (fun s i wr => ∃ q : Nat, q ≤ 8 ∧ s = .int .i64 (sumTo X q : Nat) ∧ i = .int .i64 q ∧ Hid (Below w7.heap.size w7 wr)) (fun _ i _ => 8 - (intOf i).toNat)
      case atStart => exact ⟨0, by omega, rfl, rfl, Lib.hid (Below.refl _ _)⟩
      case round =>
        obtain ⟨q, hq, rfl, rfl, HRi⟩ := hrel
        by_cases hq8 : q < 8
        · obtain ⟨V, hV⟩ : ∃ V, V = ofClass X q := ⟨_, rfl⟩
          have hVx : V ≤ 65536 := by have := HX7.out.1; have := HX7.out.2.1; have := ofClass_le X q; omega
          obtain ⟨Z, hZ⟩ : ∃ Z, Z = sumTo X q := ⟨_, rfl⟩
          have hZx : Z ≤ 8 * 65536 := by have := HX7.out.1; have := HX7.out.2.1; have := sumTo_le X q; rw [hZ]; refine Nat.le_trans this ?_; exact Nat.mul_le_mul (by omega) (by omega)
          have hIq := HI.out q hq8
          rw [← hV] at hIq
          rw [← hZ]
          have HZ := Lib.hid (show Z + V = sumTo X (q + 1) by rw [hZ, hV]; rfl)
          have HV := Lib.hid hV
          have HXi := Lib.hid (HX7.out.2.2.2.below HRi.out)
          clear hZ hV
          rename World => wq
          go_wp2_with fail
          have eq8 : decide ((q : Int) < 8) = true := by simp; omega
          have hx65 : x ≤ 65536 := HX7.out.2.1
          rw [eq8]
          clear eq8
          go_loopw [13, 52] (fun u j wr => ∃ m d : Nat, m ≤ x ∧ d ≤ 65536 ∧ Hid (d + ofClass (X.take m) q = V) ∧ u = .int .i64 d ∧ j = .int .i64 m ∧ Hid (Below wq.heap.size wq wr)) (fun _ j _ => x - (intOf j).toNat)
          case atStart => exact ⟨0, V, by omega, hVx, Lib.hid (by rw [ofClass_none]; rfl), rfl, rfl, Lib.hid (Below.refl _ _)⟩
          case round =>
            obtain ⟨m, d, hm2, hd, HD, rfl, rfl, HRj⟩ := hrel
            rename World => wj
            by_cases hlt2 : m < x
            · obtain ⟨y1, hx⟩ : ∃ y1, X[m]? = some y1 := ⟨_, List.getElem?_eq_getElem (by have := HX7.out.1; omega)⟩
              obtain ⟨b, o, hA, hbl, hcells⟩ := HXi.out.pos (by omega)
              obtain ⟨q0, q1, q2, q3⟩ := four_cells hcells hx
              have hkeep : ∀ j, wj.cell? ⟨b, j, none⟩ = wq.cell? ⟨b, j, none⟩ := fun j => HRj.out.cell (p := ⟨b, j, none⟩) hbl
              rw [← hkeep] at q0 q1 q2 q3
              have Cl := Lib.hid (fun w => class_any y1.c w (HX7.out.2.2.1 y1 (List.mem_of_getElem? hx)).1)
              obtain ⟨r, hrd⟩ : ∃ r, r = y1.c % 8 := ⟨_, rfl⟩
              have hr8 : r < 8 := by omega
              rw [← hrd] at Cl
              have hstep := ofClass_take hx q
              rw [← hrd] at hstep
              have hcap := ofClass_mono X (m + 1) q
              have HE := Lib.hid (HRj.out.alloc HRj.out.size (.cells #[.int .u16 y1.c, .int .u8 y1.t, .int .u8 y1.f, .int .u32 y1.k] 27))
              subst hA
              by_cases hrq : r = q
              · rw [if_pos hrq] at hstep
                obtain ⟨d', rfl⟩ : ∃ d', d = d' + 1 := ⟨d - 1, by have := HD.out; have := HV.out; omega⟩
                have HN := Lib.hid (show d' + ofClass (X.take (m + 1)) q = V by have := HD.out; omega)
                have e6 : ((r : Int) == (q : Int)) = true := by simp; omega
                clear hkeep hcells hx hrd hstep hcap hrq HD
                go_wp2_with fail
                refine (Cl.out _).mono ?_
                rintro e w' ⟨rfl, rfl⟩
                go_wp2_with fail
                go_roundw
                case rel => exact ⟨m + 1, d', by omega, by omega, HN, by go_num, by go_num, HE⟩
                case measure => simp [intOf]; omega
              · rw [if_neg hrq] at hstep
                have HN := Lib.hid (show d + ofClass (X.take (m + 1)) q = V by have := HD.out; omega)
                have e6 : ((r : Int) == (q : Int)) = false := by simp; omega
                clear hkeep hcells hx hrd hstep hcap hrq HD
                go_wp2_with fail
                refine (Cl.out _).mono ?_
                rintro e w' ⟨rfl, rfl⟩
                go_wp2_with fail
                go_roundw
                case rel => exact ⟨m + 1, d, by omega, by omega, HN, by go_num, by go_num, HE⟩
                case measure => simp [intOf]; omega
            · obtain rfl : m = x := by omega
              obtain rfl : d = 0 := by
                have h1 := HD.out
                rw [List.take_of_length_le (by have := HX7.out.1; omega), ← HV.out] at h1
                omega
              have HE := Lib.hid (HRi.out.trans (HRj.out.mono HRi.out.size))
              clear HD HRj HRi
              go_wp2_with fail
              go_roundw
              case rel => exact ⟨q + 1, by omega, by rw [← HZ.out]; go_num, by go_num, HE⟩
              case measure => simp [intOf]; omega
        · obtain rfl : q = 8 := by omega
          have hall : sumTo X 8 = x := (sumTo_all X).trans HX7.out.1
          rw [hall]
          have hx65 : x ≤ 65536 := HX7.out.2.1
          have hxm : x ≤ maxLen := by unfold maxLen; omega
          have HR8 := Lib.hid (HR7.out.trans (HRi.out.mono HR7.out.size))
          have HX8 := Lib.hid (And.intro HX7.out.1 (And.intro HX7.out.2.2.1 (HX7.out.2.2.2.below HRi.out)))
          have HY8 := Lib.hid (And.intro HY7.out.1 (And.intro HY7.out.2.1 (HY7.out.2.2.below HRi.out)))
          clear hall HR7 HX7 HY7 HRi HI
          rename World => wq
          go_wp2_with fail
          refine (check_any X x XA xc _ HX8.out.1 HX8.out.2.1 HX8.out.2.2 hxm).mono ?_
          rintro e w9 ⟨a, er, rfl, hc, hb⟩
          have HR9 := Lib.hid (HR8.out.trans (hb.mono HR8.out.size))
          have HX9 := Lib.hid (And.intro HX8.out.1 (And.intro HX8.out.2.1 (HX8.out.2.2.below hb)))
          have HY9 := Lib.hid (And.intro HY8.out.1 (And.intro HY8.out.2.1 (HY8.out.2.2.below hb)))
          clear hb HR8 HX8 HY8
          by_cases g : Good X
          · obtain ⟨rfl, rfl⟩ := hc.of_good g
            have hy := Hyg.out.1 g
            have hyx : yn ≤ x := by have := HY9.out.1; have := HX9.out.1; rw [hy, len_strip g] at *; have := cnt_le (R := rb X) X.length; omega
            have hym : yn ≤ maxLen := by omega
            have G := Lib.hid g
            have HY := Lib.hid hy
            clear hc g hy
            go_wp2_with fail
            refine (reached_any X x XA xc _ HX9.out.1 HX9.out.2.1 HX9.out.2.2 hxm).mono ?_
            rintro e w10 ⟨hb, hcase⟩
            obtain ⟨gr, rfl, hgr, hbk⟩ : ∃ g, e = .returned (.slice (some ⟨g, 0, none⟩) X.length X.length) ∧ w9.heap.size ≤ g ∧ Bk w10 g 4 (bools (rc X)) := by
              rcases hcase with ⟨_, h⟩ | ⟨h, _⟩
              · exact h
              · exact absurd G.out h
            rw [HX9.out.1]
            have HR10 := Lib.hid (HR9.out.trans (hb.mono HR9.out.size))
            have HX10 := Lib.hid (And.intro HX9.out.1 (And.intro HX9.out.2.1 (HX9.out.2.2.below hb)))
            have HY10 := Lib.hid (And.intro HY9.out.1 (And.intro HY9.out.2.1 (HY9.out.2.2.below hb)))
            have HB := Lib.hid hbk
            clear hb hcase hbk hgr HR9 HX9 HY9
            go_wp2_with fail
            go_loopw [16, 104] (fun c i wr => ∃ m : Nat, m ≤ x ∧ c = .int .i64 (cnt (rb X) m : Nat) ∧ i = .int .i64 m ∧ Hid (Below w10.heap.size w10 wr)) (fun _ i _ => x - (intOf i).toNat)
            case atStart => exact ⟨0, by omega, rfl, rfl, Lib.hid (Below.refl _ _)⟩
            case round =>
              obtain ⟨m, hm2, rfl, rfl, HRj⟩ := hrel
              rename World => wj
              obtain ⟨c, hc⟩ : ∃ c, c = cnt (rb X) m := ⟨_, rfl⟩
              have hcm : c ≤ m := by rw [hc]; exact cnt_le m
              by_cases hlt2 : m < x
              · have q0 := (HRj.out.cell (p := ⟨gr, m, none⟩) HB.out.lt).trans (HB.out.cell m (bools_at (by have := HX10.out.1; omega)))
                rw [← hc]
                cases hr : rb X m
                · have HN := Lib.hid (show cnt (rb X) (m + 1) = c by rw [cnt_no hr, hc])
                  rw [hr] at q0
                  clear hc hr
                  go_wp2_with fail
                  go_roundw
                  case rel => exact ⟨m + 1, by omega, by rw [HN.out], by go_num, HRj⟩
                  case measure => simp [intOf]; omega
                · have HN := Lib.hid (show cnt (rb X) (m + 1) = c + 1 by rw [cnt_yes hr, hc])
                  rw [hr] at q0
                  clear hc hr
                  go_wp2_with fail
                  go_roundw
                  case rel => exact ⟨m + 1, by omega, by rw [HN.out]; go_num, by go_num, HRj⟩
                  case measure => simp [intOf]; omega
              · obtain rfl : m = x := by omega
                have hcy : c = yn := by rw [hc, ← HY10.out.1, HY.out, len_strip G.out, HX10.out.1]
                subst hcy
                rw [← hc]
                have HR11 := Lib.hid (HR10.out.trans (HRj.out.mono HR10.out.size))
                have HX11 := Lib.hid (And.intro HX10.out.1 (And.intro HX10.out.2.1 (HX10.out.2.2.below HRj.out)))
                have HY11 := Lib.hid (And.intro HY10.out.1 (And.intro HY10.out.2.1 (HY10.out.2.2.below HRj.out)))
                have CY := Lib.hid (fun w' (h : Below wj.heap.size wj w') => check_any y c YA yc w' HY11.out.1 HY11.out.2.1 (HY11.out.2.2.below h) hym)
                have LY := Lib.hid (fun w' (h : Below wj.heap.size wj w') => longest_any y c YA yc w' HY11.out.1 HY11.out.2.1 (HY11.out.2.2.below h) hym)
                have LX := Lib.hid (fun w' (h : Below wj.heap.size wj w') => longest_any X m XA xc w' HX11.out.1 HX11.out.2.1 (HX11.out.2.2.below h) hxm)
                have SY := Lib.hid (fun w' (h : Below wj.heap.size wj w') => strip_any y c YA yc w' HY11.out.1 HY11.out.2.1 (HY11.out.2.2.below h) (by omega))
                have RY := Lib.hid (fun w' (h : Below wj.heap.size wj w') => reached_any y c YA yc w' HY11.out.1 HY11.out.2.1 (HY11.out.2.2.below h) hym)
                have GY := Lib.hid (show Good y by rw [HY.out]; exact strip_good G.out)
                clear hc HRj HX10 HY10 HR10 HB
                go_wp2_with fail
                refine (CY.out _ (Below.refl _ _)).mono ?_
                rintro e w12 ⟨a, er, rfl, hc, hb⟩
                obtain ⟨rfl, rfl⟩ := hc.of_good GY.out
                have K12 := Lib.hid hb
                clear hc hb
                go_wp2_with fail
                refine (LY.out _ K12.out).mono ?_
                rintro e w13 ⟨n1, rfl, hb, hy1, _⟩
                have K13 := Lib.hid (K12.out.trans (hb.mono K12.out.size))
                have E1 := Lib.hid (hy1 GY.out)
                clear hb hy1 K12
                go_wp2_with fail
                refine (LX.out _ K13.out).mono ?_
                rintro e w14 ⟨n2, rfl, hb, hy2, _⟩
                obtain rfl : n2 = n1 := by rw [hy2 G.out, E1.out, HY.out, strip_longest G.out]
                have K14 := Lib.hid (K13.out.trans (hb.mono K13.out.size))
                clear hb hy2 K13 E1
                go_wp2_with fail
                refine (SY.out _ K14.out).mono ?_
                rintro e w15 ⟨hb, y2, A2, c2, rfl, _, _, hy2, _⟩
                have K15 := Lib.hid (K14.out.trans (hb.mono K14.out.size))
                have e2 : y2.length = c := by rw [hy2 GY.out, ← HY11.out.1, HY.out, strip_again G.out]
                rw [e2]
                clear hb hy2 K14 e2
                go_wp2_with fail
                refine (RY.out _ K15.out).mono ?_
                rintro e w16 ⟨hb, hcase⟩
                obtain ⟨gs, rfl, hgr, hbk⟩ : ∃ g, e = .returned (.slice (some ⟨g, 0, none⟩) y.length y.length) ∧ w15.heap.size ≤ g ∧ Bk w16 g 4 (bools (rc y)) := by
                  rcases hcase with ⟨_, h⟩ | ⟨h, _⟩
                  · exact h
                  · exact absurd GY.out h
                rw [HY11.out.1]
                have K16 := Lib.hid (HR11.out.trans ((K15.out.trans (hb.mono K15.out.size)).mono HR11.out.size))
                have HB := Lib.hid hbk
                clear hb hcase hbk hgr K15
                go_wp2_with fail
                go_loopw [140] (fun i wr => ∃ p : Nat, p ≤ c ∧ i = .int .i64 p ∧ Hid (Below w16.heap.size w16 wr)) (fun i _ => c - (intOf i).toNat)
                case atStart => exact ⟨0, by omega, rfl, Lib.hid (Below.refl _ _)⟩
                case round =>
                  obtain ⟨p, hp, rfl, HRp⟩ := hrel
                  by_cases hlt3 : p < c
                  · have hr : rb y p = true := by have h := strip_reach G.out p; rw [← HY.out, HY11.out.1] at h; exact h hlt3
                    have q0 := (HRp.out.cell (p := ⟨gs, p, none⟩) HB.out.lt).trans (HB.out.cell p (bools_at (by have := HY11.out.1; omega)))
                    rw [hr] at q0
                    clear hr
                    go_wp2_with fail
                    go_roundw
                    case rel => exact ⟨p + 1, by omega, by go_num, HRp⟩
                    case measure => simp [intOf]; omega
                  · obtain rfl : p = c := by omega
                    have HE := Lib.hid (K16.out.trans (HRp.out.mono K16.out.size))
                    clear HRp
                    go_wp2_with fail
                    go_roundw
                    case rel => exact ⟨k + 1, by omega, by go_num, HE⟩
                    case measure => simp [intOf]; omega
          · have e1 : ((er : Int) == 0) = false := by
              have := fun h => g (hc.good_iff.1 h)
              simp; omega
            have hy := Hyg.out.2 g
            have hyx : yn = x := by rw [← HY9.out.1, hy, HX9.out.1]
            subst hyx
            clear hc g
            have e2 : ((yn : Int) != (yn : Int)) = false := by simp
            rcases Nat.eq_zero_or_pos yn with h0 | h0
            · subst h0
              go_wp2_with fail
              go_quiet (fail)
              go_wp2_with fail
              go_roundw
              case rel => exact ⟨k + 1, by omega, by go_num, Lib.hid (below_drewN HR9.out _)⟩
              case measure => simp [intOf]; omega
            · obtain ⟨p, rfl⟩ : ∃ p, yn = p + 1 := ⟨yn - 1, by omega⟩
              obtain ⟨z, hz⟩ : ∃ z, X[p]? = some z := ⟨_, List.getElem?_eq_getElem (by have := HX9.out.1; omega)⟩
              obtain ⟨b, o, hA, hbl, hcells⟩ := HX9.out.2.2.pos (by omega)
              obtain ⟨b2, o2, hA2, hbl2, hcells2⟩ := HY9.out.2.2.pos (by omega)
              rw [hy] at hcells2
              obtain ⟨q0, q1, q2, q3⟩ := four_cells hcells hz
              obtain ⟨r0, r1, r2, r3⟩ := four_cells hcells2 hz
              have ei : ((p + 1 : Nat) : Int) - 1 = (p : Int) := by omega
              have hp65 : p + 1 ≤ 65536 := by omega
              have hpl : (p : Int) < ((p + 1 : Nat) : Int) := by omega
              subst hA hA2
              clear hcells hcells2 hz hbl hbl2 h0
              go_wp2_with fail
              go_quiet (fail)
              go_wp2_with fail
              go_roundw
              case rel => exact ⟨k + 1, by omega, by go_num, Lib.hid (below_drewN HR9.out _)⟩
              case measure => simp [intOf]; omega
    · obtain rfl : k = 3 := by omega
      have HE := Lib.hid (HB4.out.trans (HR.out.mono HB4.out.size))
      clear HR
      go_wp2_with fail
      go_ret
      exact ⟨rfl, HE.out⟩
theorem walk_checkStrips (lA : Option Addr) (n lc : Nat) (sA : Option Addr) (sn sc : Nat) (ends : Int) (w : World)
    (h0 : ∃ l : List Ins, l.length = n ∧ (∀ i ∈ l, i.ok) ∧ Rd w 4 n lA (l.flatMap Ins.cells))
    (h1 : ∃ l : List Sml, l.length = sn ∧ (∀ i ∈ l, i.ok) ∧ Rd w 9 sn sA (l.flatMap Sml.cells) ∧ sn ≤ maxLen) (h2 : (Lit.int .u8 ends).wf = true) :
    Calls Try.prog 6 #[.slice lA n lc, .slice sA sn sc, .int .u8 ends] w (Yes w) := by
  obtain ⟨l, hl, hok, hr⟩ := h0
  obtain ⟨S, hS, hSok, hSr, hm⟩ := h1
  obtain ⟨l2, u2⟩ := bounds_u8 h2
  obtain ⟨e, rfl⟩ := Int.eq_ofNat_of_zero_le l2
  exact walk_strips l S n sn lA sA lc sc e w hl hok hr hS hSok hSr hm (by omega)
end Go.Proofs.Ytelflegcghcecaa
