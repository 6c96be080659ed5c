/- Any name, any number: the table and the document's list answer the same. -/
import Derived.Test.YtcoejjhfmbpnnaaAwake
import Derived.Deep.RegionWith
import Derived.OpenShut
namespace Go.Proofs.Ytcoejjhfmbpnnaa
open Go.RowKit

theorem small_of_find (p : Row → Bool) : ((rows.find? p).getD zeroRow).1 ≤ 4294967295 := by
  cases h : rows.find? p with
  | none => decide
  | some r =>
    have hm := List.mem_of_find?_eq_some h
    have : ∀ r ∈ rows, r.1 ≤ 4294967295 := by decide
    exact this r hm

theorem new_block {w w' : World} {o : Obj} (h : Below (w.alloc o).heap.size (w.alloc o) w') : w'.heap[w.heap.size]? = some o := by
  rw [h.block w.heap.size (by simp)]; exact (MapKept.heap_alloc w o).1
theorem three_cells {w : World} {b : Nat} {x y z : Value} {t : TypeId} (h : w.heap[b]? = some (.cells #[x, y, z] t (0, 0))) :
    w.cell? ⟨b, 0, none⟩ = some x ∧ w.cell? ⟨b, 1, none⟩ = some y ∧ w.cell? ⟨b, 2, none⟩ = some z := by
  refine ⟨?_, ?_, ?_⟩ <;> simp [World.cell?, h]
theorem grown_of_below {w w' : World} (h : Below w.heap.size w w') : w.grownBy w' none := ⟨h.os, h.tape, h.output, h.size, fun i hi _ => h.block i hi⟩

structure LoopFind (w : World) (tb lb : Nat) (n k : Int) (j : Nat) (wr : World) : Prop where
  made : Made wr tb (1 + j)
  below : Below w.heap.size w wr
  list : wr.heap[lb]? = some (.cells #[.int .u32 n, .int .u32 k] 22 (0, 0))

set_option maxRecDepth 100000 in
set_option maxHeartbeats 1000000 in
theorem walk_namesFind (s : ByteArray) (n k : Int) (w : World) (hs : s.size ≤ maxLen) (hn : (Lit.int .u32 n).wf = true) (hk : (Lit.int .u8 k).wf = true) :
    Calls Try.prog 3 #[.string s, .int .u32 n, .int .u8 k] w fun e w' => e = .returned (.bool true) ∧ Below w.heap.size w w' := by
  go_enter Try.func3, Try.ntmps3
  go_wp2_with fail
  refine (awake_any _).mono ?_
  rintro e w1 ⟨rfl, hb⟩
  have Hb := Lib.hid hb
  clear hb
  go_wp2_with fail
  refine (new_any _).mono ?_
  rintro e w2 ⟨rfl, hT, o, hw2⟩
  have hb2 : Below w.heap.size w w2 := by rw [hw2]; exact Hb.out.alloc Hb.out.size _
  have Hb2 := Lib.hid hb2
  have h12 : w.heap.size ≤ w1.heap.size := Hb.out.size
  clear hb2 hw2 o Hb
  have hnm := named_any w1.heap.size 0 s w2 hT (by omega) (by omega) hs
  go_wp2_with fail
  refine hnm.mono ?_
  clear hnm hT
  rintro e w3 ⟨rfl, hM, hg⟩
  have Hb3 := Lib.hid (below_of_grown Hb2.out hg h12)
  have HM := Lib.hid hM
  clear hM hg Hb2
  obtain ⟨r, hr⟩ : ∃ r, r = (byName s.data.toList).getD zeroRow := ⟨_, rfl⟩
  obtain ⟨is, his⟩ : ∃ is, is = (byName s.data.toList).isSome := ⟨_, rfl⟩
  have hrs : r.1 ≤ 4294967295 := by rw [hr]; exact small_of_find _
  rw [← hr, ← his]
  have Hr := Lib.hid hr
  have Hi := Lib.hid his
  have Hrs := Lib.hid hrs
  clear hr his hrs
  unfold rowV
  go_wp2_with fail
  refine (ref_named s _).mono ?_
  rintro e w4 ⟨rfl, hb4⟩
  rw [← Hr.out, ← Hi.out]
  clear Hr Hi
  have h3 : w.heap.size ≤ w3.heap.size := Hb3.out.size
  have Hb4 := Lib.hid ((Hb3.out.alloc h3 (.cells #[.int .u32 r.1, .string ⟨r.2.1.toArray⟩, .int .i64 r.2.2] 27)).trans (hb4.mono (by simp; omega)))
  have hM4 : Made w4 w1.heap.size (0 + 1) := (HM.out.kept (World.grownBy_alloc w3 (.cells #[.int .u32 r.1, .string ⟨r.2.1.toArray⟩, .int .i64 r.2.2] 27) none) rfl).kept (grown_of_below hb4) rfl
  have HM4 := Lib.hid hM4
  obtain ⟨q0, q1, q2⟩ := three_cells (new_block hb4)
  have h34 : w3.heap.size < w4.heap.size := by have := hb4.size; simp at this; omega
  clear hb4 hM4 HM Hb3
  unfold refV
  go_wp2_with fail
  refine (same_true r Hrs.out _).mono ?_
  rintro e w5 ⟨rfl, hb5⟩
  have h4 : w.heap.size ≤ w4.heap.size := Hb4.out.size
  have Hb5 := Lib.hid ((Hb4.out.alloc h4 _).trans (hb5.mono (by simp; omega)))
  have HM5 := Lib.hid ((HM4.out.kept (World.grownBy_alloc w4 _ none) rfl).kept (grown_of_below hb5) rfl)
  clear hb5 Hb4 HM4 q0 q1 q2 h34 h3 Hrs
  have h5 : w.heap.size ≤ w5.heap.size := Hb5.out.size
  obtain ⟨n0, n1⟩ := bounds_u32 hn
  obtain ⟨k0, k1⟩ := bounds_u8 hk
  go_wp2_with fail
  have hst : LoopFind w w1.heap.size w5.heap.size n k 0 (w5.alloc (.cells #[.int .u32 n, .int .u32 k] 22)) :=
    ⟨HM5.out.kept (World.grownBy_alloc w5 _ none) rfl, Hb5.out.alloc h5 _, (MapKept.heap_alloc w5 _).1⟩
  have Hst := Lib.hid hst
  have h15 : w1.heap.size < w5.heap.size := HM5.out.lt
  clear hst HM5 Hb5
  go_loopw [46] (fun i wr => ∃ j : Nat, j ≤ 2 ∧ i = .int .i64 j ∧ LoopFind w w1.heap.size w5.heap.size n k j wr) (fun i _ => 2 - (intOf i).toNat)
  case atStart => exact ⟨0, by omega, rfl, Hst.out⟩
  case round =>
    clear Hst
    obtain ⟨j, hj, rfl, hrel⟩ := hrel
    by_cases hlt : j < 2
    · obtain ⟨x, hx, hxw⟩ : ∃ x, wr.cell? ⟨w5.heap.size, j, none⟩ = some (.int .u32 x) ∧ (Lit.int .u32 x).wf = true := by
        have hl := hrel.list
        rcases (show j = 0 ∨ j = 1 by omega) with rfl | rfl
        · exact ⟨n, by simp [World.cell?, hl], hn⟩
        · exact ⟨k, by simp [World.cell?, hl], WalkArith.wf_u32 (by omega)⟩
      obtain ⟨x0, x1⟩ := bounds_u32 hxw
      have hnum := Lib.hid (numbered_any w1.heap.size (1 + j) x wr (.inr hrel.made) (by omega) (by omega) hxw)
      have Hrel := Lib.hid hrel
      have hr5 : w5.heap.size < wr.heap.size := (Array.getElem?_eq_some_iff.1 hrel.list).1
      clear hrel
      go_wp2_with fail
      refine hnum.out.mono ?_
      clear hnum
      rintro e v1 ⟨rfl, hM, hg⟩
      have hne : w5.heap.size ≠ w1.heap.size := by omega
      have hl1 : v1.heap[w5.heap.size]? = some (.cells #[.int .u32 n, .int .u32 k] 22 (0, 0)) := (hg.block _ hr5 (by simp; omega)).trans Hrel.out.list
      have Hv1 : Hid (LoopFind w w1.heap.size w5.heap.size n k (j + 1) v1) := ⟨by rw [show ((1 : Int) + ((j + 1 : Nat) : Int)) = 1 + (j : Int) + 1 from by omega]; exact hM, below_of_grown Hrel.out.below hg h12, hl1⟩
      clear hM hg hl1 Hrel hx
      obtain ⟨r, hr⟩ : ∃ r, r = (byNum x).getD zeroRow := ⟨_, rfl⟩
      obtain ⟨is, his⟩ : ∃ is, is = (byNum x).isSome := ⟨_, rfl⟩
      have Hrs := Lib.hid (show r.1 ≤ 4294967295 by rw [hr]; exact small_of_find _)
      rw [← hr, ← his]
      have Hr := Lib.hid hr
      have Hi := Lib.hid his
      clear hr his
      unfold rowV
      have hfind := Lib.hid (ref_find x)
      go_wp2_with fail
      refine (hfind.out _).mono ?_
      clear hfind
      rintro e v2 ⟨rfl, hb2⟩
      rw [← Hr.out, ← Hi.out]
      clear Hr Hi
      have hLv2 : LoopFind w w1.heap.size w5.heap.size n k (j + 1) v2 := by
        have g := World.grownBy_alloc v1 (.cells #[.int .u32 r.1, .string ⟨r.2.1.toArray⟩, .int .i64 r.2.2] 27) none
        have g2 := grown_trans g (grown_of_below hb2) (by simp)
        have hv1 : w.heap.size ≤ v1.heap.size := Hv1.out.below.size
        refine ⟨Hv1.out.made.kept g2 rfl, (Hv1.out.below.alloc hv1 _).trans (hb2.mono (by simp; omega)), ?_⟩
        rw [← Hv1.out.list]
        exact g2.block _ (Array.getElem?_eq_some_iff.1 Hv1.out.list).1 (by simp)
      have HLv2 := Lib.hid hLv2
      obtain ⟨q0, q1, q2⟩ := three_cells (new_block hb2)
      have hv2 : v1.heap.size < v2.heap.size := by have := hb2.size; simp at this; omega
      clear hb2 hLv2 Hv1
      unfold refV
      go_wp2_with fail
      refine (same_true r Hrs.out _).mono ?_
      rintro e v3 ⟨rfl, hb3⟩
      have hLv3 : LoopFind w w1.heap.size w5.heap.size n k (j + 1) v3 := by
        have g := World.grownBy_alloc v2 (.cells #[.int .i64 r.1, .string ⟨r.2.1.toArray⟩, .int .i64 r.2.2] 31) none
        have g2 := grown_trans g (grown_of_below hb3) (by simp)
        have hv2 : w.heap.size ≤ v2.heap.size := HLv2.out.below.size
        refine ⟨HLv2.out.made.kept g2 rfl, (HLv2.out.below.alloc hv2 _).trans (hb3.mono (by simp; omega)), ?_⟩
        rw [← HLv2.out.list]
        exact g2.block _ (Array.getElem?_eq_some_iff.1 HLv2.out.list).1 (by simp)
      have HLv3 := Lib.hid hLv3
      clear hb3 hLv3 HLv2 q0 q1 q2 hv2 Hrs
      go_wp2
      go_roundw
      case rel => exact ⟨j + 1, by omega, by go_num, HLv3.out⟩
      case measure => simp [intOf]; omega
    · have Hrel := Lib.hid hrel
      clear hrel
      go_wp2
      go_ret
      exact ⟨rfl, Hrel.out.below⟩
end Go.Proofs.Ytcoejjhfmbpnnaa
