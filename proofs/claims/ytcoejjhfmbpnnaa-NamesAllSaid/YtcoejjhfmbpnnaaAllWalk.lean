/- All calls, by their numbers, each found by both; and they are the document's: the walk. -/
import Derived.Test.YtcoejjhfmbpnnaaAllLaw
import Derived.IntWalk
namespace Go.Proofs.Ytcoejjhfmbpnnaa
open Go.RowKit

set_option maxRecDepth 100000 in
set_option maxHeartbeats 1000000 in
theorem walk_namesAll (tw : Bool) (w : World) :
    Calls Try.prog 4 #[.bool tw] w fun e w' => e = .returned (.bool true) ∧ Below w.heap.size w w' := by
  have hne := ne_row
  have Hne := Lib.hid hne
  clear hne
  go_enter Try.func4, Try.ntmps4
  go_wp2_with fail
  refine (awake_any _).mono ?_
  rintro e w1 ⟨rfl, hb⟩
  have Hb := Lib.hid hb
  clear hb
  go_wp2_with fail
  refine (new_any _).mono ?_
  rintro e w2 ⟨rfl, hT, o, hw2⟩
  have hb2 : Below w.heap.size w w2 := by rw [hw2]; exact Hb.out.alloc Hb.out.size _
  have Hr2 := Lib.hid (show OnceRel w w1.heap.size 0 w2 from ⟨hb2, hT, Hb.out.size⟩)
  have h01 : w.heap.size ≤ w1.heap.size := Hb.out.size
  clear hb2 hw2 o Hb
  have hall := Lib.hid (all_any w1.heap.size 0 w2 hT (by omega) (by omega))
  have h12 : w1.heap.size < w2.heap.size := hT.lt
  clear hT
  go_wp2_with fail
  refine hall.out.mono ?_
  clear hall
  rintro e w3 ⟨g, cap, rfl, hge, hgl, hH, hm, hg⟩
  have Hs := Lib.hid (show AllLaw w w1.heap.size g (1 + 2 * (0 : Nat)) w3 from
    ⟨by simpa using once_step Hr2.out hm hg, by simpa using hm, by omega, Nat.le_trans Hr2.out.below.size hge, hgl, hH⟩)
  clear hge hgl hH hm hg Hr2
  go_wp2_with fail
  go_loopw [22] (fun i wr => ∃ k : Nat, k ≤ 30 ∧ i = .int .i64 k ∧ AllLaw w w1.heap.size g (1 + 2 * (k : Int)) wr) (fun i _ => 30 - (intOf i).toNat)
  case atStart => exact ⟨0, by omega, rfl, Hs.out⟩
  case round =>
    clear Hs
    obtain ⟨k, hk, rfl, hrel⟩ := hrel
    have Hrel := Lib.hid hrel
    clear hrel
    by_cases hlt : k < 30
    · obtain ⟨c0, c1, c2⟩ := holds_cells Hrel.out.holds k hlt
      obtain ⟨r, hr⟩ : ∃ r, r = rowAt k := ⟨_, rfl⟩
      have Hr := Lib.hid hr
      rw [← hr] at c0 c1 c2
      have hsm := row_small k
      rw [← hr] at hsm
      have Hsm := Lib.hid hsm
      have hnm := fun o => named_any w1.heap.size (1 + 2 * k) ⟨r.2.1.toArray⟩ (wr.alloc o) (allLaw_alloc Hrel.out o).once.tab (by omega) (by omega) (by
        have := Hsm.out.2.1
        show (r.2.1.toArray).size ≤ maxLen
        unfold maxLen; simp; omega)
      rw [show byName (ByteArray.mk r.2.1.toArray).data.toList = some r from by rw [hr]; exact byName_row k hlt] at hnm
      have Hnm := Lib.hid hnm
      clear hnm hsm hr
      go_wp2_with fail
      refine (Hnm.out _).mono ?_
      clear Hnm
      rintro e v1 ⟨rfl, hm1, hg1⟩
      have HL1 := Lib.hid (allLaw_step (allLaw_alloc Hrel.out _) hm1 hg1)
      have hblk1 : v1.heap[wr.heap.size]? = some (.cells #[.int .u32 r.1, .string ⟨r.2.1.toArray⟩, .int .i64 r.2.2] 27 (0, 0)) := by
        rw [hg1.block wr.heap.size (by simp) (by have := Hrel.out.made.lt; simp; omega)]; exact (MapKept.heap_alloc wr _).1
      have Hblk1 := Lib.hid hblk1
      obtain ⟨q0, q1, q2⟩ := three_cells hblk1
      have hs1 : wr.heap.size < v1.heap.size := (Array.getElem?_eq_some_iff.1 hblk1).1
      clear hm1 hg1 hblk1 c0 c1 c2
      simp only [Option.getD_some, Option.isSome_some, rowV]
      have hnum := fun o => numbered_any w1.heap.size (1 + 2 * k + 1) r.1 (v1.alloc o) (allLaw_alloc HL1.out o).once.tab (by omega) (by omega) (WalkArith.wf_u32 (by have := Hsm.out.1; omega))
      rw [show byNum r.1 = some r from by rw [Hr.out]; exact byNum_row k hlt] at hnum
      have Hnum := Lib.hid hnum
      clear hnum
      go_wp2_with fail
      refine (Hnum.out _).mono ?_
      clear Hnum
      rintro e v2 ⟨rfl, hm2, hg2⟩
      have HL2 := Lib.hid (allLaw_step (allLaw_alloc HL1.out _) hm2 hg2)
      have htb := HL1.out.made.lt
      have hblkA : v2.heap[v1.heap.size]? = some (.cells #[.int .u32 r.1, .string ⟨r.2.1.toArray⟩, .int .i64 r.2.2] 27 (0, 0)) := by
        rw [hg2.block v1.heap.size (by simp) (by simp; omega)]; exact (MapKept.heap_alloc v1 _).1
      have hblkC : v2.heap[wr.heap.size]? = some (.cells #[.int .u32 r.1, .string ⟨r.2.1.toArray⟩, .int .i64 r.2.2] 27 (0, 0)) := by
        have hne1 : (some wr.heap.size : Option Nat) ≠ some w1.heap.size := by have := Hrel.out.made.lt; simp; omega
        rw [hg2.block wr.heap.size (by simp; omega) hne1, Below.heap_alloc _ _ _ hs1]; exact Hblk1.out
      obtain ⟨a0, a1, a2⟩ := three_cells hblkA
      obtain ⟨b0, b1, b2⟩ := three_cells hblkC
      have hsA : v1.heap.size < v2.heap.size := (Array.getElem?_eq_some_iff.1 hblkA).1
      have hsC : wr.heap.size < v2.heap.size := (Array.getElem?_eq_some_iff.1 hblkC).1
      have hgv : g < v2.heap.size := HL2.out.lt
      clear hm2 hg2 hblkA hblkC Hblk1 q0 q1 q2 HL1 htb
      simp only [Option.getD_some, Option.isSome_some, rowV]
      have hargs0 : ¬ ((r.2.2 : Int) < 0) := by omega
      have hargs2 : ¬ ((2 : Int) < (r.2.2 : Int)) := by have := Hsm.out.2.2; omega
      have hargsD0 : decide ((r.2.2 : Int) < 0) = false := by simp
      have hargsD2 : decide ((2 : Int) < (r.2.2 : Int)) = false := by simp; have := Hsm.out.2.2; omega
      have hargsN : ¬ (2 < r.2.2) := by have := Hsm.out.2.2; omega
      have hsn := Hne.out r
      by_cases hz : k = 0
      · have hz' : decide ((0 : Int) < (k : Int)) = false := by simp; omega
        have hzN : decide (0 < k) = false := by simp; omega
        have Hz := Lib.hid hz
        clear hz
        go_wp2_with fail
        refine wp_region_quiet_lit (by kernel_rfl) (by kernel_rfl) ?_
        repeat (any_goals (first | go_big_quiet_step (fail) | quiet_step (fail)))
        refine wpQuiet_nil ?_
        intro wq hwq
        obtain ⟨nq, hwq⟩ := hwq
        have HL3 := Lib.hid (show AllLaw w w1.heap.size g (1 + 2 * (k : Int) + 1 + 1) wq from hwq ▸ allLaw_drewN (allLaw_alloc HL2.out (.cells #[.int .u32 r.1, .string ⟨r.2.1.toArray⟩, .int .i64 r.2.2] 27)) nq)
        clear hwq HL2 a0 a1 a2 b0 b1 b2 hsA hsC hgv hsn hs1
        go_wp2_with fail
        go_roundw
        case rel => exact ⟨k + 1, by omega, by go_num, by
          have := HL3.out
          rw [show (1 + 2 * (k : Int) + 1 + 1) = 1 + 2 * ((k + 1 : Nat) : Int) from by omega] at this
          exact this⟩
        case measure => simp [intOf]; omega
      · have hz' : (0 : Int) < (k : Int) := by omega
        obtain ⟨d0, _, _⟩ := holds_cells HL2.out.holds (k - 1) (by omega)
        have hrise : ¬ ((r.1 : Int) ≤ ((rowAt (k - 1)).1 : Int)) := by have := row_rises k hlt hz; rw [← Hr.out] at this; omega
        obtain ⟨p, hp⟩ : ∃ p : Nat, p = k - 1 := ⟨_, rfl⟩
        rw [← hp] at d0 hrise
        have hpk : (k : Int) - 1 = (p : Int) := by omega
        have hzD : decide ((0 : Int) < (k : Int)) = true := by simp; omega
        have hzN : decide (0 < k) = true := by simp; omega
        have hp30 : (p : Int) < 30 := by omega
        have hp0 : (0 : Int) ≤ (k : Int) - 1 := by omega
        have hp31 : (k : Int) - 1 < 30 := by omega
        have hriseD : decide ((r.1 : Int) ≤ ((rowAt p).1 : Int)) = false := by simp; omega
        have hriseN : decide (r.1 ≤ (rowAt p).1) = false := by simp; omega
        have hriseM : ¬ (r.1 ≤ (rowAt p).1) := by omega
        have Hp := Lib.hid hp
        have Hpk := Lib.hid hpk
        clear hp hpk
        have hw1 : IntKind.i64.wrap ((k : Int) - 1) = (p : Int) := by rw [IntWalk.i64_in _ (by omega)]; exact Hpk.out
        go_wp2_with fail
        refine wp_region_quiet_lit (by kernel_rfl) (by kernel_rfl) ?_
        repeat (any_goals (first | go_big_quiet_step (fail) | quiet_step (fail)))
        refine wpQuiet_nil ?_
        intro wq hwq
        obtain ⟨nq, hwq⟩ := hwq
        clear hw1
        have HL3 := Lib.hid (show AllLaw w w1.heap.size g (1 + 2 * (k : Int) + 1 + 1) wq from hwq ▸ allLaw_drewN (allLaw_alloc HL2.out (.cells #[.int .u32 r.1, .string ⟨r.2.1.toArray⟩, .int .i64 r.2.2] 27)) nq)
        clear hwq HL2 a0 a1 a2 b0 b1 b2 hsA hsC hgv hsn hs1 d0 hrise hp0 hp31
        go_wp2_with fail
        go_roundw
        case rel => exact ⟨k + 1, by omega, by go_num, by
          have := HL3.out
          rw [show (1 + 2 * (k : Int) + 1 + 1) = 1 + 2 * ((k + 1 : Nat) : Int) from by omega] at this
          exact this⟩
        case measure => simp [intOf]; omega
    · have Hlt := Lib.hid hlt
      obtain rfl : k = 30 := by omega
      have hmid : Mid w w1.heap.size g wr := ⟨Hrel.out.once.below, by simpa using Hrel.out.made, Hrel.out.ne, Hrel.out.ge, free_of_holds Hrel.out.holds⟩
      have Hmid := Lib.hid hmid
      clear hlt hk hmid Hrel
      go_wp2_with fail
      go_loopw [85] (fun i wr => ∃ j : Nat, j ≤ 30 ∧ i = .int .i64 j ∧ Mid w w1.heap.size g wr) (fun i _ => 30 - (intOf i).toNat)
      case atStart => exact ⟨0, by omega, rfl, Hmid.out⟩
      case round =>
        clear Hmid
        obtain ⟨j, hj, rfl, hrel⟩ := hrel
        have Hrel := Lib.hid hrel
        clear hrel
        by_cases hlt : j < 30
        · obtain ⟨⟨v, hv⟩, hf⟩ := Hrel.out.free (j * 3 + 1) (by omega)
          have Hset := Lib.hid (mid_set Hrel.out (j * 3 + 1) (.string ⟨#[120]⟩))
          go_wp2_with fail
          go_roundw
          case rel => exact ⟨j + 1, by omega, by go_num, Hset.out⟩
          case measure => simp [intOf]; omega
        · obtain rfl : j = 30 := by omega
          clear hlt hj
          go_wp2_with fail
          refine (ref_calls _).mono ?_
          rintro e v1 ⟨rfl, rfl⟩
          have hmade := Hrel.out.made.kept (World.grownBy_alloc wr (.cells refTable 31) none) rfl
          have hbel := Hrel.out.below.alloc Hrel.out.below.size (.cells refTable 31)
          have Hone := Lib.hid (show OnceRel w w1.heap.size 61 (wr.alloc (.cells refTable 31)) from ⟨hbel, .inr hmade, h01⟩)
          have hsrc : RefSrc (wr.alloc (.cells refTable 31)) wr.heap.size := (MapKept.heap_alloc wr _).1
          have Hsrc := Lib.hid hsrc
          have hall := Lib.hid (all_any w1.heap.size 61 _ (.inr hmade) (by omega) (by omega))
          have htb := Lib.hid Hrel.out.made.lt
          clear hmade hbel hsrc Hrel
          go_wp2_with fail
          refine hall.out.mono ?_
          clear hall
          rintro e v2 ⟨g2, cap2, rfl, hge, hgl, hH, hm, hg⟩
          have HA := Lib.hid (show AllLaw w w1.heap.size g2 62 v2 from
            ⟨once_step Hone.out hm hg, hm, by have := htb.out; simp at hge; omega, Nat.le_trans Hone.out.below.size hge, hgl, hH⟩)
          have HR := Lib.hid (show RefSrc v2 wr.heap.size from (hg.block _ (by simp) (by have := htb.out; simp; omega)).trans Hsrc.out)
          clear hge hgl hH hm hg Hone Hsrc
          go_wp2_with fail
          go_loopw [98] (fun i wr' => ∃ j : Nat, j ≤ 30 ∧ i = .int .i64 j ∧ AllLaw w w1.heap.size g2 62 wr' ∧ RefSrc wr' wr.heap.size) (fun i _ => 30 - (intOf i).toNat)
          case atStart => exact ⟨0, by omega, rfl, HA.out, HR.out⟩
          case round =>
            clear HA HR
            obtain ⟨j, hj, rfl, hrel, hsrc⟩ := hrel
            have Hrel := Lib.hid hrel
            have Hsrc := Lib.hid hsrc
            by_cases hlt : j < 30
            · obtain ⟨c0, c1, c2⟩ := holds_cells hrel.holds j hlt
              obtain ⟨s0, s1, s2⟩ := hsrc.cell j hlt
              obtain ⟨r, hr⟩ : ∃ r, r = rowAt j := ⟨_, rfl⟩
              rw [← hr] at c0 c1 c2 s0 s1 s2
              have Hrs := Lib.hid (show r.1 ≤ 4294967295 by have := (row_small j).1; rw [← hr] at this; omega)
              have hg2 := hrel.lt
              have hR : _ < _ := (Array.getElem?_eq_some_iff.1 hsrc).1
              clear hr hrel hsrc
              go_wp2_with fail
              refine wp_region_still_tail 11 (by kernel_rfl) (by kernel_rfl) ?_
              simp only [List.take_succ_cons, List.take_zero, List.drop_succ_cons, List.drop_zero]
              change wpStill _ _ (World.drew _) (fun a' => wpList _ _ _ _ a' (World.drew _)) _ _
              repeat still_step
              refine wpStill_nil ?_
              go_wp2_with fail
              refine (same_true r Hrs.out _).mono ?_
              rintro e v3 ⟨rfl, hb3⟩
              have hg := grown_of_below hb3
              have ha := allLaw_drewN (allLaw_alloc Hrel.out (.cells #[.int .u32 r.1, .string ⟨r.2.1.toArray⟩, .int .i64 r.2.2] 27)) 1
              have hA := Lib.hid (allLaw_below ha hb3)
              have hS := Lib.hid (show RefSrc v3 _ from (hg.block _ (by simp; omega) (by simp)).trans ((Below.heap_alloc _ _ _ hR).trans Hsrc.out))
              clear hb3 hg ha Hrel Hsrc c0 c1 c2 s0 s1 s2 hg2 hR Hrs
              go_wp2_with fail
              go_roundw
              case rel => exact ⟨j + 1, by omega, by go_num, hA.out, hS.out⟩
              case measure => simp [intOf]; omega
            · obtain rfl : j = 30 := by omega
              clear hlt hj hrel hsrc
              cases tw
              · go_wp2_with fail
                go_ret
                exact ⟨rfl, Hrel.out.once.below⟩
              · go_wp2_with fail
                go_ret
                exact ⟨rfl, Hrel.out.once.below⟩
end Go.Proofs.Ytcoejjhfmbpnnaa
