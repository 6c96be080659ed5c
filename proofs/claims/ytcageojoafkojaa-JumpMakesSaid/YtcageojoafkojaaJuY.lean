/- Tidy, walked. -/
import Derived.Test.YtcageojoafkojaaJuL
import Derived.Test.YtcageojoafkojaaJuV
namespace Go.Proofs.Ytcageojoafkojaa.Ju
open Go.RowKit Go.Maps Go.WideMaps Go.WideElems Go.ChangeMaps
def lenOf : Value → Nat
  | .slice _ n _ => n
  | _ => 0
theorem rd_nil {w : World} {z n : Nat} {A : Option Addr} {xs : List Value} (h : Rd w z n A xs) (hA : A = none) : n = 0 := by
  rcases h.at_ with e | ⟨b, o, e, _⟩
  · exact e
  · rw [hA] at e; cases e
theorem below_own {w w' : World} {B N e z n : Nat} {v : Value} {xs : List Value} (h : w.ownsRow B e z v n xs) (hg : w.grownBy w' v.ownBlock) (hB : N ≤ B) (hw : N ≤ w.heap.size) : Below N w w' :=
  ⟨hg.os, hg.tape, hg.output, hg.size, fun i hi => hg.block i (by omega) (fun e => by have := (own_ge h i e.symm).1; omega)⟩
set_option maxHeartbeats 16000000 in
set_option maxRecDepth 100000 in
theorem tidy_any (l : List PtM) (n : Nat) (A : Option Addr) (cap : Nat) (w : World) (hl : l.length = n) (hn : n ≤ 65536) (hok : ∀ p ∈ l, p.ok) (hr : Rd w 7 n A (l.flatMap PtM.cells)) :
    Calls Try.prog 17 #[.slice A n cap] w (ClP2 (tidyF l) w) := by
  have HCl := Lib.hid (clone_any l n A cap w hl hr hn (rd_nil hr))
  have HL := Lib.hid hl
  have HOK := Lib.hid hok
  clear hr hl hok
  go_enter Try.func17, Try.ntmps17
  go_wp2_with fail
  refine HCl.out.mono ?_
  clear HCl
  rintro e w1 ⟨A1, c1, rfl, hr1, hb1⟩
  have HR1 := Lib.hid hr1
  have HB1 := Lib.hid hb1
  clear hr1 hb1
  go_wp2_with fail
  go_loopw [3] (fun v wr => ∃ (s : List PtM) (A2 : Option Addr) (c2 B : Nat), v = .slice A2 s.length c2 ∧ s.length ≤ n ∧ w.heap.size ≤ B ∧ Hid (wr.ownsRow B 125 7 (.slice A2 s.length c2) s.length (s.flatMap PtM.cells)) ∧ Hid (Below w.heap.size w wr) ∧ Hid (∀ p ∈ s, p.ok) ∧ Hid (tidyF s = tidyF l)) (fun v _ => lenOf v)
  case atStart => exact ⟨l, A1, c1, w.heap.size, rfl, Nat.le_of_eq HL.out, Nat.le_refl _, HR1, HB1, HOK, Lib.hid rfl⟩
  case round =>
    clear HR1 HB1 HOK
    obtain ⟨s, A2, c2, B, rfl, hsn, hB, HR, HB, HOK, HT⟩ := hrel
    obtain ⟨m, hm⟩ : ∃ m, m = s.length := ⟨_, rfl⟩
    rw [← hm] at HR hsn ⊢
    have HM := Lib.hid hm
    have HLe := Lib.hid (lead_any s m B A2 c2 wr hm.symm (by omega) HOK.out HR.out)
    clear hm
    go_wp2_with fail
    refine HLe.out.mono ?_
    clear HLe
    rintro e w2 ⟨rfl, hr2, hg2⟩
    have HB2 := Lib.hid (HB.out.trans (below_own HR.out hg2 hB HB.out.size))
    have HR2 := Lib.hid hr2
    have HOK2 := Lib.hid (leadF_ok HOK.out)
    have HL2 := Lib.hid (show (leadF s).length = m by rw [leadF_len, HM.out])
    have HRd2 : Hid (Rd w2 7 m A2 ((leadF s).flatMap PtM.cells)) := by obtain ⟨A9, c9, e, _, h, _⟩ := own_typed hr2; cases e; exact Lib.hid h.rd
    clear hr2 hg2
    have HAl := Lib.hid (alive_any (leadF s) m A2 c2 w2 HL2.out (by omega) HOK2.out HRd2.out)
    go_wp2_with fail
    refine HAl.out.mono ?_
    clear HAl
    rintro e w3 ⟨A3, c3, rfl, hr3, hb3⟩
    have HB3 := Lib.hid (HB2.out.trans (hb3.mono HB2.out.size))
    have HL3 := Lib.hid (show (aliveF (leadF s)).length ≤ m by have := aliveF_len (leadF s); rw [HL2.out] at this; exact this)
    obtain ⟨z3, hz3⟩ : ∃ z, z = (aliveF (leadF s)).length := ⟨_, rfl⟩
    have HZ3 := Lib.hid hz3
    rw [← hz3] at hr3 HL3 ⊢
    have HRd3 : Hid (Rd w3 7 z3 A3 ((aliveF (leadF s)).flatMap PtM.cells) ∧ z3 ≤ c3) := by obtain ⟨A9, c9, e, hc9, h, _⟩ := own_typed hr3; cases e; exact Lib.hid ⟨h.rd, hc9⟩
    have hz9 : z3 ≤ m := HL3.out
    have HLv := Lib.hid (leaving_any (aliveF (leadF s)) z3 A3 c3 w3 HZ3.out.symm (by omega) HRd3.out.2 HRd3.out.1)
    clear hr3 hb3 hz3 hz9
    go_wp2_with fail
    refine HLv.out.mono ?_
    clear HLv
    rintro e w4 ⟨A4, c4, rfl, hr4, hb4⟩
    have HB4 := Lib.hid (HB3.out.trans (hb4.mono HB3.out.size))
    have HR4 := Lib.hid hr4
    have HW3 := Lib.hid HB3.out.size
    have HOK4 := Lib.hid (show ∀ p ∈ roundF s, p.ok from roundF_ok HOK.out)
    obtain ⟨z4, hz4⟩ : ∃ z, z = (leavF (aliveF (leadF s))).length := ⟨_, rfl⟩
    have hz5 : z4 ≤ m := by rw [hz4, HM.out]; exact roundF_len s
    have HZ4 := Lib.hid hz4
    rw [← hz4] at HR4 ⊢
    clear hr4 hb4 hz4
    by_cases he : z4 = m
    · have e1 : ((z4 : Int) == (m : Int)) = true := by rw [he]; simp
      have HE := Lib.hid (show roundF s = tidyF l by rw [← HT.out, tidyF_end (by rw [← HM.out, ← he, HZ4.out]; rfl)])
      clear he
      go_wp2_with fail
      go_ret
      refine ⟨A4, c4, ?_, ?_, HB4.out⟩
      · rw [← HE.out]; show _ = Ending.returned (.slice A4 (leavF (aliveF (leadF s))).length c4); rw [← HZ4.out]; rfl
      · rw [← HE.out]
        show w4.ownsRow _ _ 7 (.slice A4 (leavF (aliveF (leadF s))).length c4) (leavF (aliveF (leadF s))).length ((leavF (aliveF (leadF s))).flatMap PtM.cells)
        rw [← HZ4.out]
        exact own_base HR4.out HW3.out
    · have e1 : ((z4 : Int) == (m : Int)) = false := by rw [beq_eq_false_iff_ne]; omega
      have HE := Lib.hid (show tidyF (roundF s) = tidyF l by rw [← HT.out]; exact (tidyF_on (fun h => he (by rw [HZ4.out, HM.out]; exact h))).symm)
      go_wp2_with fail
      go_roundw
      case rel => exact ⟨roundF s, A4, c4, w.heap.size, by rw [HZ4.out]; rfl, by show (leavF (aliveF (leadF s))).length ≤ n; rw [← HZ4.out]; omega, Nat.le_refl _, by
        have h := own_base HR4.out HW3.out
        rw [HZ4.out] at h
        exact Lib.hid h, HB4, HOK4, HE⟩
      case measure => simp [lenOf]; omega
end Go.Proofs.Ytcageojoafkojaa.Ju

