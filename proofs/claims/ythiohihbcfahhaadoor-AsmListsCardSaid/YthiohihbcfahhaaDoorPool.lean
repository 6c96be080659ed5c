/- The laws' programs: lists of small instructions, ended. -/
import Derived.Test.YthiohihbcfahhaaDoorPut5
namespace Go.Proofs.YthiohihbcfahhaaDoor
open Go.RowKit
set_option maxRecDepth 100000 in
set_option maxHeartbeats 2000000 in
theorem program_any (S : List Sml) (n : Nat) (A : Option Addr) (cp : Nat) (ends : Nat) (w : World) (hl : S.length = n) (hok : ∀ i ∈ S, i.ok) (hr : Rd w 9 n A (S.flatMap Sml.cells)) (hm : n ≤ maxLen) (he : ends < 256) :
    Calls Tryd.prog 12 #[.slice A n cp, .int .u8 ends] w (ProgPost ends w) := by
  obtain ⟨i0, hi, hz0, hz1, hz2⟩ := info_parts infoIns
  have Hl := Lib.hid hl
  have Hok := Lib.hid hok
  have Hr := Lib.hid hr
  unfold maxLen at hm
  obtain ⟨E, hE⟩ : ∃ E, E = ends % 6 := ⟨_, rfl⟩
  have eE : (ends : Int) % 6 = E := by omega
  have hE6 : E < 6 := by omega
  have HE := Lib.hid hE
  clear hl hok hr hE
  go_enter Tryd.func12, Tryd.ntmps12
  go_wp2_with fail
  go_loopw [5, 11] (fun v i wr => ∃ (k m : Nat) (L : List Ins), k ≤ n ∧ m ≤ k ∧ m ≤ 60 ∧ i = .int .i64 k ∧ Hid (L.length = m ∧ (∀ i ∈ L, i.ok)) ∧ Hid (wr.ownsRow w.heap.size 38 4 v m (L.flatMap Ins.cells)) ∧ Hid (Below w.heap.size w wr)) (fun _ i _ => n - (intOf i).toNat)
  case atStart => exact ⟨0, 0, [], by omega, by omega, by omega, rfl, ⟨rfl, by simp⟩, World.ownsRow_nil _ _ _ _, Below.refl _ _⟩
  case round =>
    obtain ⟨k, m, L, hk, hmk, hm60, rfl, HL, Hown, Hb⟩ := hrel
    by_cases hlt : k < n
    · obtain ⟨x, hx⟩ : ∃ x, S[k]? = some x := ⟨_, List.getElem?_eq_getElem (by have := Hl.out; omega)⟩
      obtain ⟨b, o, rfl, hbl, hcells⟩ := Hr.out.pos (by omega)
      have hkeep : ∀ j, wr.cell? ⟨b, j, none⟩ = w.cell? ⟨b, j, none⟩ := fun j => Hb.out.cell (p := ⟨b, j, none⟩) hbl
      obtain ⟨q0, q1, q2, q3, q4, q5, q6, q7, q8⟩ := nine_cells hcells hx
      rw [← hkeep] at q0 q1 q2 q3 q4 q5 q6 q7 q8
      have Sm := Lib.hid (fun w => small_any x w (Hok.out x (List.mem_of_getElem? hx)))
      obtain ⟨c, t, f, y, ⟨ac, at', af, ak⟩, raw⟩ := x
      dsimp only at *
      clear hkeep hcells hx
      by_cases h60 : k < 60
      · go_wp2_with fail
        refine (Sm.out _).mono ?_
        rintro e w3 ⟨X, hX, rfl, hb3⟩
        have Hown3 := Lib.hid (own_below (Hown.out.alloc _) hb3)
        have Hb3 := Lib.hid ((Hb.out.alloc Hb.out.size _).trans (hb3.mono (Nat.le_trans Hb.out.size (by simp))))
        have Hnews := Lib.hid (four_new w3 38 X.c X.t X.f X.k)
        have Hsz := Lib.hid Hb3.out.size
        have HX := Lib.hid hX
        clear hb3 hX q0 q1 q2 q3 q4 q5 q6 q7 q8
        obtain ⟨Xc, Xt, Xf, Xk⟩ := X
        dsimp only at *
        go_wp2_with (at_builtin; refine wpList_append_own _ rfl (.tmp 18) (.tmp 21) 28 rfl w.heap.size 38 i0 _ 4 8 Tryd.underlying28 hi hz0 hz1 hz2 rfl (by decide) _ m (L.flatMap Ins.cells) rfl (Hown3.out.alloc _) ⟨w3.heap.size, 0, none⟩ 1 1 (Ins.cells ⟨Xc, Xt, Xf, Xk⟩) rfl rfl Hnews.out (cells_one _) (by unfold maxLen; omega) (by omega) (Nat.le_trans Hsz.out (by simp)) ?_; intro v' w4 hown' hgrow _)
        have Hown4 := Lib.hid (show w4.ownsRow w.heap.size 38 4 v' (m + 1) ((L ++ [(⟨Xc, Xt, Xf, Xk⟩ : Ins)]).flatMap Ins.cells) from by rw [List.flatMap_append]; simpa using hown')
        have Hb4 := Lib.hid ((Hb3.out.alloc Hsz.out _).grown hgrow (Nat.le_trans Hsz.out (by simp)) (fun k hk => (Hown3.out.lt k hk).1))
        clear hown' hgrow
        go_wp2
        go_roundw
        case rel => exact ⟨k + 1, m + 1, L ++ [(⟨Xc, Xt, Xf, Xk⟩ : Ins)], by omega, by omega, by omega, by go_num, Lib.hid (grow_ok HL.out HX.out), Hown4, Hb4⟩
        case measure => simp [intOf]; omega
      · have Hown3 := Lib.hid (Hown.out.alloc (.cells #[.int .u8 c, .int .u8 t, .int .u8 f, .int .u8 y, .int .u16 ac, .int .u8 at', .int .u8 af, .int .u32 ak, .bool raw] 57))
        have Hb3 := Lib.hid (Hb.out.alloc Hb.out.size (.cells #[.int .u8 c, .int .u8 t, .int .u8 f, .int .u8 y, .int .u16 ac, .int .u8 at', .int .u8 af, .int .u32 ak, .bool raw] 57))
        go_wp2_with fail
        go_roundw
        case rel => exact ⟨k + 1, m, L, by omega, by omega, by omega, by go_num, HL, Hown3, Hb3⟩
        case measure => simp [intOf]; omega
    · obtain rfl : k = n := by omega
      go_wp2_with fail
      clear hmk
      rename World => wk
      rw [eE]
      clear eE
      go_loopw [5, 26] (fun v i wr => ∃ (j p : Nat) (L : List Ins), j ≤ E ∧ p ≤ 60 + j ∧ j ≤ p ∧ i = .int .u8 j ∧ Hid (L.length = p ∧ (∀ i ∈ L, i.ok)) ∧ Hid (wr.ownsRow w.heap.size 38 4 v p (L.flatMap Ins.cells)) ∧ Hid (Below w.heap.size w wr)) (fun _ i _ => E - (intOf i).toNat)
      case atStart => exact ⟨0, m, L, by omega, by omega, by omega, rfl, HL, Hown, Hb⟩
      case round =>
        obtain ⟨j, p, L', hj, hp1, hp2, rfl, HL2, Hown2, Hb2⟩ := hrel
        by_cases hjE : j < E
        · have hor := u32_or_nat (j * 65536) 7 (by omega) (by omega)
          obtain ⟨V, hV⟩ : ∃ V, V = j * 65536 ||| 7 := ⟨_, rfl⟩
          have hVl : V < 4294967296 := by rw [hV]; exact Nat.or_lt_two_pow (n := 32) (by omega) (by omega)
          rw [← hV, show ((j * 65536 : Nat) : Int) = (j : Int) * 65536 by simp, show ((7 : Nat) : Int) = 7 from rfl] at hor
          have HV := Lib.hid hV
          clear hV
          go_wp2_with fail
          refine (return_of _ _).mono ?_
          rintro e w3 ⟨rfl, hb3⟩
          have Hown3 := Lib.hid (own_below Hown2.out hb3)
          have Hb3 := Lib.hid (Hb2.out.trans (hb3.mono Hb2.out.size))
          have Hnews := Lib.hid (four_new w3 38 6 0 0 V)
          have Hsz := Lib.hid Hb3.out.size
          clear hb3
          go_wp2_with (at_builtin; refine wpList_append_own _ rfl (.tmp 29) (.tmp 35) 28 rfl w.heap.size 38 i0 _ 4 8 Tryd.underlying28 hi hz0 hz1 hz2 rfl (by decide) _ p (L'.flatMap Ins.cells) rfl (Hown3.out.alloc _) ⟨w3.heap.size, 0, none⟩ 1 1 (Ins.cells ⟨6, 0, 0, V⟩) rfl rfl Hnews.out (cells_one _) (by unfold maxLen; omega) (by omega) (Nat.le_trans Hsz.out (by simp)) ?_; intro v' w4 hown' hgrow _)
          have Hown4 := Lib.hid (show w4.ownsRow w.heap.size 38 4 v' (p + 1) ((L' ++ [(⟨6, 0, 0, V⟩ : Ins)]).flatMap Ins.cells) from by rw [List.flatMap_append]; simpa using hown')
          have Hb4 := Lib.hid ((Hb3.out.alloc Hsz.out _).grown hgrow (Nat.le_trans Hsz.out (by simp)) (fun k hk => (Hown3.out.lt k hk).1))
          clear hown' hgrow
          go_wp2
          go_roundw
          case rel =>
            exact ⟨j + 1, p + 1, L' ++ [(⟨6, 0, 0, V⟩ : Ins)], by omega, by omega, by omega, by go_num, Lib.hid (grow_ok HL2.out ⟨by show 6 < 65536; omega, by show 0 < 256; omega, by show 0 < 256; omega, hVl⟩), Hown4, Hb4⟩
          case measure => simp [intOf]; omega
        · obtain rfl : j = E := by omega
          go_wp2_with fail
          obtain ⟨A', cp', rfl, hcp, hs⟩ := own_seg Hown2.out
          go_ret
          refine ⟨L', A', cp', (by rw [HL2.out.1]; rfl), (by rw [HL2.out.1]; exact hcp), (by rw [HL2.out.1]; exact hs), HL2.out.2, (by rw [HL2.out.1]; omega), (by rw [HL2.out.1, ← HE.out]; exact hp2), Hb2.out⟩
end Go.Proofs.YthiohihbcfahhaaDoor

