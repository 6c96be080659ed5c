/- A record's bytes. -/
import Derived.Test.YtnkffjdoillmaaaTakePut
import Derived.Test.YtnkffjdoillmaaaRRow
import Derived.StillTailTactics
namespace Go.Proofs.Ytnkffjdoillmaaa.Rec
open Go.RowKit
def recL (bs : List Nat) : List Value := [.int .u32 (leN bs 0 4 : Nat), .int .u32 (leN bs 4 4 : Nat), .int .u64 (leN bs 8 8 : Nat), .int .u64 (leN bs 16 8 : Nat), .int .u64 (leN bs 24 8 : Nat), .int .u64 (leN bs 32 8 : Nat), .int .u64 (leN bs 40 8 : Nat), .int .u64 (leN bs 48 8 : Nat), .int .u64 (leN bs 56 8 : Nat)]
set_option maxRecDepth 100000 in
theorem zs64 : (#[.int .u8 0, .int .u8 0, .int .u8 0, .int .u8 0, .int .u8 0, .int .u8 0, .int .u8 0, .int .u8 0, .int .u8 0, .int .u8 0, .int .u8 0, .int .u8 0, .int .u8 0, .int .u8 0, .int .u8 0, .int .u8 0, .int .u8 0, .int .u8 0, .int .u8 0, .int .u8 0, .int .u8 0, .int .u8 0, .int .u8 0, .int .u8 0, .int .u8 0, .int .u8 0, .int .u8 0, .int .u8 0, .int .u8 0, .int .u8 0, .int .u8 0, .int .u8 0, .int .u8 0, .int .u8 0, .int .u8 0, .int .u8 0, .int .u8 0, .int .u8 0, .int .u8 0, .int .u8 0, .int .u8 0, .int .u8 0, .int .u8 0, .int .u8 0, .int .u8 0, .int .u8 0, .int .u8 0, .int .u8 0, .int .u8 0, .int .u8 0, .int .u8 0, .int .u8 0, .int .u8 0, .int .u8 0, .int .u8 0, .int .u8 0, .int .u8 0, .int .u8 0, .int .u8 0, .int .u8 0, .int .u8 0, .int .u8 0, .int .u8 0, .int .u8 0] : Array Value) = (u8s (List.replicate 64 0)).toArray := by rfl
/-- The memory on the way: the record, the answer, the bytes as far as they are laid. -/
structure Mem (w wx : World) (cs : List Value) (bs : List Nat) (o : Nat) : Prop where
  rc : Bk wx w.heap.size 39 cs
  ans : Bk wx (w.heap.size + 1) 118 (u8s (List.replicate 64 0))
  loc : Bk wx (w.heap.size + 1 + 1) 118 (fil bs o)
  bel : Below w.heap.size w wx
theorem Mem.put {w wx w' : World} {cs : List Value} {bs : List Nat} {o o' : Nat} (h : Mem w wx cs bs o) (hb : Bk w' (w.heap.size + 1 + 1) 118 (fil bs o')) (hg : wx.drew.grownBy w' (some (w.heap.size + 1 + 1))) : Mem w w' cs bs o' :=
  ⟨h.rc.drew.grown hg (by simp; omega), h.ans.drew.grown hg (by simp), hb, only_below h.bel.drew hg (by have := h.ans.lt; show w.heap.size ≤ wx.heap.size; omega) (by omega)⟩
theorem Mem.put' {w wx w' : World} {cs : List Value} {bs : List Nat} {o o' : Nat} (h : Mem w wx cs bs o) (hb : Bk w' (w.heap.size + 1 + 1) 118 (fil bs o')) (hg : wx.grownBy w' (some (w.heap.size + 1 + 1))) : Mem w w' cs bs o' :=
  ⟨h.rc.grown hg (by simp; omega), h.ans.grown hg (by simp), hb, only_below h.bel hg (by have := h.ans.lt; omega) (by omega)⟩
theorem mem_of (w : World) (a : Array Value) (cs : List Value) (bs : List Nat) (h : a = cs.toArray) : Mem w (((w.alloc (.cells a 39)).alloc (.cells (u8s (List.replicate 64 0)).toArray 118)).alloc (.cells (u8s (List.replicate 64 0)).toArray 118)) cs bs 0 := by
  have b1 := (Below.refl w.heap.size w).alloc (Nat.le_refl _) (.cells a 39)
  have b2 := b1.alloc b1.size (.cells (u8s (List.replicate 64 0)).toArray 118)
  have b3 := b2.alloc b2.size (.cells (u8s (List.replicate 64 0)).toArray 118)
  refine ⟨((Bk.new w _ a h).alloc _).alloc _, ?_, ?_, b3⟩
  · have := (Bk.new (w.alloc (.cells a 39)) 118 (u8s (List.replicate 64 0)).toArray rfl).alloc (.cells (u8s (List.replicate 64 0)).toArray 118)
    simpa using this
  · rw [fil_none]
    have := Bk.new ((w.alloc (.cells a 39)).alloc (.cells (u8s (List.replicate 64 0)).toArray 118)) 118 (u8s (List.replicate 64 0)).toArray rfl
    simpa using this
set_option maxRecDepth 100000 in
set_option maxHeartbeats 1000000 in
theorem bytes_of (bs : List Nat) (n0 n1 n2 n3 n4 n5 n6 n7 n8 : Nat) (w : World) (hl : bs.length = 64) (hb : Small8 bs)
    (h0 : n0 = leN bs 0 4) (h1 : n1 = leN bs 4 4) (h2 : n2 = leN bs 8 8) (h3 : n3 = leN bs 16 8) (h4 : n4 = leN bs 24 8) (h5 : n5 = leN bs 32 8) (h6 : n6 = leN bs 40 8) (h7 : n7 = leN bs 48 8) (h8 : n8 = leN bs 56 8) :
    Calls Try.prog 54 #[.agg #[.int .u32 n0, .int .u32 n1, .int .u64 n2, .int .u64 n3, .int .u64 n4, .int .u64 n5, .int .u64 n6, .int .u64 n7, .int .u64 n8]] w fun e w' =>
      e = .returned (.agg (u8s bs).toArray) ∧ Below w.heap.size w w' := by
  have Hl := Lib.hid hl
  have Hb := Lib.hid hb
  have H := Lib.hid (And.intro h0 (And.intro h1 (And.intro h2 (And.intro h3 (And.intro h4 (And.intro h5 (And.intro h6 (And.intro h7 h8))))))))
  clear hl hb h0 h1 h2 h3 h4 h5 h6 h7 h8
  go_enter Try.func54, Try.ntmps54
  go_wp2_with fail
  rw [zs64]
  have hM := mem_of w #[.int .u32 n0, .int .u32 n1, .int .u64 n2, .int .u64 n3, .int .u64 n4, .int .u64 n5, .int .u64 n6, .int .u64 n7, .int .u64 n8] _ bs rfl
  revert hM
  generalize (((w.alloc (.cells #[.int .u32 n0, .int .u32 n1, .int .u64 n2, .int .u64 n3, .int .u64 n4, .int .u64 n5, .int .u64 n6, .int .u64 n7, .int .u64 n8] 39)).alloc (.cells (u8s (List.replicate 64 0)).toArray 118)).alloc (.cells (u8s (List.replicate 64 0)).toArray 118)) = w3
  intro hM
  have HM := Lib.hid hM
  have c0 := hM.rc.cell 0 rfl
  have hw0 : IntKind.u64.wrap (n0 : Int) = n0 := IntWalk.u64_in (n0 : Int) (by have := leN4_lt Hb.out 0; have := H.out.1; omega)
  have hw1 : IntKind.u64.wrap (n1 : Int) = n1 := IntWalk.u64_in (n1 : Int) (by have := leN4_lt Hb.out 4; have := H.out.2.1; omega)
  clear hM
  go_still_tail 4, (by kernel_rfl)
  go_wp2_with fail
  refine (put_any bs _ 118 0 4 64 n0 _ Hl.out Hb.out (by omega) (by omega) H.out.1 HM.out.loc.drew).mono ?_
  rintro e w4 ⟨rfl, hb4, hg4⟩
  have HM4 := Lib.hid (HM.out.put hb4 hg4)
  clear hb4 hg4 HM c0 hw0
  have c1 := HM4.out.rc.cell 1 rfl
  go_wp2_with fail
  go_still_tail 4, (by kernel_rfl)
  go_wp2_with fail
  refine (put_any bs _ 118 4 4 60 n1 _ Hl.out Hb.out (by omega) (by omega) H.out.2.1 HM4.out.loc.drew).mono ?_
  rintro e w5 ⟨rfl, hb5, hg5⟩
  have HM5 := Lib.hid (HM4.out.put hb5 hg5)
  clear hb5 hg5 HM4 c1 hw1
  have c2 := HM5.out.rc.cell 2 rfl
  go_wp2_with fail
  go_still_tail 3, (by kernel_rfl)
  go_wp2_with fail
  refine (put_any bs _ 118 8 8 56 n2 _ Hl.out Hb.out (by omega) (by omega) H.out.2.2.1 HM5.out.loc.drew).mono ?_
  rintro e w6 ⟨rfl, hb6, hg6⟩
  have HM6 := Lib.hid (HM5.out.put hb6 hg6)
  clear hb6 hg6 HM5 c2
  have c3 := HM6.out.rc.cell 3 rfl
  have c4 := HM6.out.rc.cell 4 rfl
  have c5 := HM6.out.rc.cell 5 rfl
  have c6 := HM6.out.rc.cell 6 rfl
  have c7 := HM6.out.rc.cell 7 rfl
  have c8 := HM6.out.rc.cell 8 rfl
  go_wp2_with fail
  clear c3 c4 c5 c6 c7 c8
  go_loopw [23] (fun i wr => ∃ k : Nat, k ≤ 6 ∧ i = .int .i64 k ∧ Hid (Mem w wr [.int .u32 n0, .int .u32 n1, .int .u64 n2, .int .u64 n3, .int .u64 n4, .int .u64 n5, .int .u64 n6, .int .u64 n7, .int .u64 n8] bs (16 + 8 * k))) (fun i _ => 6 - (intOf i).toNat)
  case atStart => exact ⟨0, by omega, rfl, HM6⟩
  case round =>
    obtain ⟨k, hk, rfl, HR⟩ := hrel
    clear HM6
    rcases (by omega : k = 0 ∨ k = 1 ∨ k = 2 ∨ k = 3 ∨ k = 4 ∨ k = 5 ∨ k = 6) with rfl | rfl | rfl | rfl | rfl | rfl | rfl
    · have hix : ∀ wx, (Instr.index 37 (.agg #[.int .u64 n3, .int .u64 n4, .int .u64 n5, .int .u64 n6, .int .u64 n7, .int .u64 n8]) (.int .i64 0)).run Try.prog wx = .ok (.int .u64 n3) wx := fun wx => by kernel_rfl
      go_wp2_with fail
      refine (put_any bs _ 118 16 8 48 n3 _ Hl.out Hb.out (by omega) (by omega) H.out.2.2.2.1 HR.out.loc).mono ?_
      rintro e w7 ⟨rfl, hb7, hg7⟩
      have HM7 := Lib.hid (HR.out.put' hb7 hg7)
      clear hb7 hg7
      go_wp2_with fail
      go_roundw
      case rel => exact ⟨1, by omega, rfl, HM7⟩
      case measure => simp [intOf]
    · have hix : ∀ wx, (Instr.index 37 (.agg #[.int .u64 n3, .int .u64 n4, .int .u64 n5, .int .u64 n6, .int .u64 n7, .int .u64 n8]) (.int .i64 1)).run Try.prog wx = .ok (.int .u64 n4) wx := fun wx => by kernel_rfl
      go_wp2_with fail
      refine (put_any bs _ 118 24 8 40 n4 _ Hl.out Hb.out (by omega) (by omega) H.out.2.2.2.2.1 HR.out.loc).mono ?_
      rintro e w7 ⟨rfl, hb7, hg7⟩
      have HM7 := Lib.hid (HR.out.put' hb7 hg7)
      clear hb7 hg7
      go_wp2_with fail
      go_roundw
      case rel => exact ⟨2, by omega, rfl, HM7⟩
      case measure => simp [intOf]
    · have hix : ∀ wx, (Instr.index 37 (.agg #[.int .u64 n3, .int .u64 n4, .int .u64 n5, .int .u64 n6, .int .u64 n7, .int .u64 n8]) (.int .i64 2)).run Try.prog wx = .ok (.int .u64 n5) wx := fun wx => by kernel_rfl
      go_wp2_with fail
      refine (put_any bs _ 118 32 8 32 n5 _ Hl.out Hb.out (by omega) (by omega) H.out.2.2.2.2.2.1 HR.out.loc).mono ?_
      rintro e w7 ⟨rfl, hb7, hg7⟩
      have HM7 := Lib.hid (HR.out.put' hb7 hg7)
      clear hb7 hg7
      go_wp2_with fail
      go_roundw
      case rel => exact ⟨3, by omega, rfl, HM7⟩
      case measure => simp [intOf]
    · have hix : ∀ wx, (Instr.index 37 (.agg #[.int .u64 n3, .int .u64 n4, .int .u64 n5, .int .u64 n6, .int .u64 n7, .int .u64 n8]) (.int .i64 3)).run Try.prog wx = .ok (.int .u64 n6) wx := fun wx => by kernel_rfl
      go_wp2_with fail
      refine (put_any bs _ 118 40 8 24 n6 _ Hl.out Hb.out (by omega) (by omega) H.out.2.2.2.2.2.2.1 HR.out.loc).mono ?_
      rintro e w7 ⟨rfl, hb7, hg7⟩
      have HM7 := Lib.hid (HR.out.put' hb7 hg7)
      clear hb7 hg7
      go_wp2_with fail
      go_roundw
      case rel => exact ⟨4, by omega, rfl, HM7⟩
      case measure => simp [intOf]
    · have hix : ∀ wx, (Instr.index 37 (.agg #[.int .u64 n3, .int .u64 n4, .int .u64 n5, .int .u64 n6, .int .u64 n7, .int .u64 n8]) (.int .i64 4)).run Try.prog wx = .ok (.int .u64 n7) wx := fun wx => by kernel_rfl
      go_wp2_with fail
      refine (put_any bs _ 118 48 8 16 n7 _ Hl.out Hb.out (by omega) (by omega) H.out.2.2.2.2.2.2.2.1 HR.out.loc).mono ?_
      rintro e w7 ⟨rfl, hb7, hg7⟩
      have HM7 := Lib.hid (HR.out.put' hb7 hg7)
      clear hb7 hg7
      go_wp2_with fail
      go_roundw
      case rel => exact ⟨5, by omega, rfl, HM7⟩
      case measure => simp [intOf]
    · have hix : ∀ wx, (Instr.index 37 (.agg #[.int .u64 n3, .int .u64 n4, .int .u64 n5, .int .u64 n6, .int .u64 n7, .int .u64 n8]) (.int .i64 5)).run Try.prog wx = .ok (.int .u64 n8) wx := fun wx => by kernel_rfl
      go_wp2_with fail
      refine (put_any bs _ 118 56 8 8 n8 _ Hl.out Hb.out (by omega) (by omega) H.out.2.2.2.2.2.2.2.2 HR.out.loc).mono ?_
      rintro e w7 ⟨rfl, hb7, hg7⟩
      have HM7 := Lib.hid (HR.out.put' hb7 hg7)
      clear hb7 hg7
      go_wp2_with fail
      go_roundw
      case rel => exact ⟨6, by omega, rfl, HM7⟩
      case measure => simp [intOf]
    · have hb64 := HR.out.loc
      rw [show 16 + 8 * 6 = 64 from rfl, fil_all bs Hl.out] at hb64
      have Hb64 := Lib.hid hb64
      have Han := Lib.hid HR.out.ans
      have hbel := only_below HR.out.bel (only_row wr (w.heap.size + 1) (u8s bs).toArray) HR.out.bel.size (by omega)
      have hres := HR.out.ans.row (u8s bs)
      have Hbel := Lib.hid hbel
      have Hres := Lib.hid hres
      clear hb64 hbel hres
      go_wp2_with (first | (refine ld_row Hb64.out rfl _ rfl rfl Try.underlying118 size64 (u8s_len Hl.out) ?_) | (refine st_row Han.out rfl _ _ rfl rfl rfl size64 (u8s_len (by simp)) (u8s_len Hl.out) (u8s_all bs) ?_))
      exact bodyPost_ret (v := .agg (u8s bs).toArray) (results_cell_row Try.results54 _ _ (w.heap.size + 1) _ _ (0, 0) _ rfl Hres.out Try.underlying118 rfl (by rw [size64, List.size_toArray, u8s_len Hl.out])) rfl ⟨rfl, Hbel.out⟩
end Go.Proofs.Ytnkffjdoillmaaa.Rec

