/- JumpMakes: where a name stands, walked. -/
import Derived.Test.YtcageojoafkojaaJuMi
import Derived.Test.YtcageojoafkojaaJuNa
namespace Go.Proofs.Ytcageojoafkojaa.Ju
open Go.RowKit Go.Maps Go.WideMaps Go.WideElems Go.ChangeMaps
theorem place_step {x : List PtM} {i : Nat} {p : PtM} (n : Int) (h : x[i]? = some p) : placeN n (x.drop i) = if p.kd = 1 ∧ p.to = n then 0 else placeN n (x.drop (i + 1)) + 1 := by
  rw [drop_at h]; rfl
set_option maxHeartbeats 16000000 in
set_option maxRecDepth 100000 in
theorem place_any (x : List PtM) (N : Nat) (A : Option Addr) (c bx : Nat) (t : Int) (w : World) (hl : x.length = N) (hN : N ≤ 5000) (hb : Bk w bx 65 [.slice A N c]) (hr : Rd w 7 N A (x.flatMap PtM.cells)) :
    Calls Try.prog 56 #[.int .i64 t, .pointer (some ⟨bx, 0, none⟩)] w fun e w' => e = .returned (.int .i64 (placeN t x)) ∧ Below w.heap.size w w' := by
  have HL := Lib.hid hl
  have HR := Lib.hid hr
  have y0 := hb.cell 0 rfl
  have yl := hb.lt
  have HBx := Lib.hid hb
  clear hl hr hb
  go_enter Try.func56, Try.ntmps56
  go_wp2_with fail
  clear y0 yl
  go_loopw [8] (fun iv wz => ∃ i : Nat, iv = .int .i64 i ∧ i ≤ N ∧ Hid (Below w.heap.size w wz) ∧ Hid (placeN t (x.drop i) + i = placeN t x)) (fun iv _ => N - (intOf iv).toNat)
  case atStart => exact ⟨0, rfl, Nat.zero_le _, Lib.hid (Below.refl _ _), Lib.hid rfl⟩
  case round =>
    rename World => wz
    obtain ⟨i, rfl, hi, HB, HF⟩ := hrel
    by_cases hlt : i < N
    · obtain ⟨p, hp⟩ : ∃ p, x[i]? = some p := ⟨_, List.getElem?_eq_getElem (by have := HL.out; omega)⟩
      obtain ⟨b, o, hA, hbl, hcell⟩ := (HR.out.below HB.out).one (fun _ => rfl) (by omega) (by omega)
      obtain ⟨c0, c1, c2, c3, c4, c5, c6⟩ := seven_cells hcell hp
      subst hA
      have HS := Lib.hid (place_step t hp)
      have i0 : (0 : Int) ≤ (i : Int) := by omega
      have i1 : (i : Int) < (N : Int) := by omega
      clear hcell hp
      go_upto_region 4 with fail
      have hb4 := oneb wz (.cells #[.int .u8 p.kd, .int .i64 p.to, .int .i64 p.el, .int .u16 p.i.c, .int .u8 p.i.t, .int .u8 p.i.f, .int .u32 p.i.k] 125)
      have hk := Bk.new wz 125 #[.int .u8 p.kd, .int .i64 p.to, .int .i64 p.el, .int .u16 p.i.c, .int .u8 p.i.t, .int .u8 p.i.f, .int .u32 p.i.k] (l := [.int .u8 p.kd, .int .i64 p.to, .int .i64 p.el, .int .u16 p.i.c, .int .u8 p.i.t, .int .u8 p.i.f, .int .u32 p.i.k]) rfl
      generalize World.alloc wz _ = w4 at hb4 hk ⊢
      have HB4 := Lib.hid (HB.out.trans (hb4.mono HB.out.size))
      clear hb4
      generalize wz.heap.size = xb at hk ⊢
      have y0 := hk.cell 0 rfl
      have y1 := hk.cell 1 rfl
      have yl := hk.lt
      clear c0 c1 c2 c3 c4 c5 c6 hbl hk
      by_cases h1 : p.kd = 1
      · have e1 : ((p.kd : Int) == 1) = true := by rw [h1]; rfl
        by_cases h2 : p.to = t
        · have e2 : (p.to == t) = true := by rw [beq_iff_eq]; exact h2
          have HV := Lib.hid (show i = placeN t x by rw [← HF.out, HS.out, if_pos ⟨h1, h2⟩]; omega)
          clear h1 h2
          go_wp2_with fail
          go_ret
          exact ⟨by rw [← HV.out]; rfl, HB4.out⟩
        · have e2 : (p.to == t) = false := by rw [beq_eq_false_iff_ne]; exact h2
          have HFn := Lib.hid (show placeN t (x.drop (i + 1)) + (i + 1) = placeN t x by rw [← HF.out, HS.out, if_neg (fun a => h2 a.2)]; omega)
          clear h1 h2
          go_wp2_with fail
          go_roundw
          case rel => exact ⟨i + 1, by go_num, by omega, HB4, HFn⟩
          case measure => simp [intOf]; omega
      · have e1 : ((p.kd : Int) == 1) = false := by rw [beq_eq_false_iff_ne]; omega
        have HFn := Lib.hid (show placeN t (x.drop (i + 1)) + (i + 1) = placeN t x by rw [← HF.out, HS.out, if_neg (fun a => h1 a.1)]; omega)
        clear h1
        go_wp2_with fail
        go_roundw
        case rel => exact ⟨i + 1, by go_num, by omega, HB4, HFn⟩
        case measure => simp [intOf]; omega
    · have HV := Lib.hid (show N = placeN t x by
        have h := HF.out
        rw [List.drop_of_length_le (by have := HL.out; omega)] at h
        simp only [placeN] at h
        omega)
      have hk := HBx.out.kept HB.out
      have y0 := hk.cell 0 rfl
      have yl := hk.lt
      clear hk
      go_wp2_with fail
      go_ret
      exact ⟨by rw [← HV.out]; rfl, HB.out⟩
end Go.Proofs.Ytcageojoafkojaa.Ju

