/- A record's words; an argument's halves. -/
import Derived.Test.YtnkffjdoillmaaaBytes
namespace Go.Proofs.Ytnkffjdoillmaaa.Rec
open Go.RowKit
theorem bytes_any (bs : List Nat) (w : World) (hl : bs.length = 64) (hb : Small8 bs) : Calls Try.prog 54 #[.agg (recL bs).toArray] w fun e w' => e = .returned (.agg (u8s bs).toArray) ∧ Below w.heap.size w w' :=
  bytes_of bs _ _ _ _ _ _ _ _ _ w hl hb rfl rfl rfl rfl rfl rfl rfl rfl rfl
def WordPost (n : Nat) (b : Bool) (w : World) (e : Ending) (w' : World) : Prop := e = .returned (.tuple #[.int .u32 n, .bool b]) ∧ Below w.heap.size w w'
set_option maxRecDepth 100000 in
set_option maxHeartbeats 1000000 in
theorem word_no (R : List Value) (at_ : Nat) (w : World) (hat : at_ < 4294967296) (h : at_ % 4 ≠ 0 ∨ 60 < at_) : Calls Try.prog 30 #[.agg R.toArray, .int .u32 at_] w (WordPost 0 false w) := by
  have hb := Lib.hid ((Below.refl w.heap.size w).alloc (Nat.le_refl _) (.cells R.toArray 39))
  by_cases h4 : at_ % 4 = 0
  · have b1 : ((at_ : Int) % 4 == 0) = true := by simp; omega
    have b2 : ((at_ : Int) % 4 != 0) = false := by simp; omega
    have h60 : (60 : Int) < (at_ : Int) := by omega
    clear h h4
    go_enter Try.func30, Try.ntmps30
    go_wp2_with fail
    go_ret2
    exact ⟨rfl, hb.out⟩
  · have b1 : ((at_ : Int) % 4 == 0) = false := by simp; omega
    have b2 : ((at_ : Int) % 4 != 0) = true := by simp; omega
    clear h h4
    go_enter Try.func30, Try.ntmps30
    go_wp2_with fail
    go_ret2
    exact ⟨rfl, hb.out⟩
theorem four_at (at_ : Nat) (h4 : at_ % 4 = 0) (h60 : at_ ≤ 60) (g : Nat) (wx : World) : (Instr.sliceAt 118 (.pointer (some ⟨g, 0, none⟩)) (some (.int .u32 (at_ : Int))) (some (.int .u32 ((at_ : Int) + 4))) none).run Try.prog wx = .ok (.slice (some ⟨g, at_, none⟩) 4 (64 - at_)) wx := by
  obtain ⟨q, rfl⟩ : ∃ q, at_ = 4 * q := ⟨at_ / 4, by omega⟩
  have hq : q ≤ 15 := by omega
  clear h4 h60
  rcases (by omega : q = 0 ∨ q = 1 ∨ q = 2 ∨ q = 3 ∨ q = 4 ∨ q = 5 ∨ q = 6 ∨ q = 7 ∨ q = 8 ∨ q = 9 ∨ q = 10 ∨ q = 11 ∨ q = 12 ∨ q = 13 ∨ q = 14 ∨ q = 15) with rfl | rfl | rfl | rfl | rfl | rfl | rfl | rfl | rfl | rfl | rfl | rfl | rfl | rfl | rfl | rfl <;> (show _ = _; kernel_rfl)
set_option maxRecDepth 100000 in
set_option maxHeartbeats 1000000 in
theorem word_yes (bs : List Nat) (at_ : Nat) (w : World) (hl : bs.length = 64) (hb : Small8 bs) (h4 : at_ % 4 = 0) (h60 : at_ ≤ 60) : Calls Try.prog 30 #[.agg (recL bs).toArray, .int .u32 at_] w (WordPost (leN bs at_ 4) true w) := by
  have hsl := four_at at_ h4 h60
  have b1 : ((at_ : Int) % 4 == 0) = true := by simp; omega
  have b2 : ((at_ : Int) % 4 != 0) = false := by simp; omega
  have h61 : (at_ : Int) ≤ 60 := by omega
  have Hbx := Lib.hid (Bk.new w 39 (recL bs).toArray rfl)
  have HB := Lib.hid ((Below.refl w.heap.size w).alloc (Nat.le_refl _) (.cells (recL bs).toArray 39))
  have Bytes := Lib.hid (bytes_any bs (w.alloc (.cells (recL bs).toArray 39)) hl hb)
  have Take := Lib.hid (fun g wx (h : Bk wx g 118 (u8s bs)) => take_any bs g at_ 4 (64 - at_) wx hb (by omega) (At.of h (by omega)))
  obtain ⟨v, hv⟩ : ∃ v, v = leN bs at_ 4 := ⟨_, rfl⟩
  rw [← hv] at Take
  have hvl : v < 4294967296 := by have := leN4_lt hb at_; omega
  have hw : IntKind.u32.wrap (v : Int) = v := IntWalk.u32_in (v : Int) (by omega)
  have Hv := Lib.hid hv
  have Hl := Lib.hid hl
  obtain ⟨R, hR⟩ : ∃ R, R = recL bs := ⟨_, rfl⟩
  have hRl : R.length = 9 := by rw [hR]; rfl
  have HRl := Lib.hid hRl
  rw [← hR] at Hbx HB Bytes ⊢
  clear h4 hv hl hR hRl
  go_enter Try.func30, Try.ntmps30
  go_wp2_with (refine ld_any Hbx.out rfl _ rfl rfl Try.underlying39 size9 HRl.out ?_)
  refine Bytes.out.mono ?_
  rintro e w1 ⟨rfl, hb1⟩
  have HB1 := Lib.hid (HB.out.trans (hb1.mono HB.out.size))
  clear hb1 Bytes Hbx HB
  have Hz := Lib.hid (Bk.new w1 118 _ zs64)
  go_wp2_with (refine st_row Hz.out rfl _ _ rfl rfl rfl size64 (u8s_len (by simp)) (u8s_len Hl.out) (u8s_all bs) ?_)
  refine (Take.out w1.heap.size _ (Hz.out.row (u8s bs))).mono ?_
  rintro e w2 ⟨rfl, rfl⟩
  have Hend := Lib.hid (only_below (HB1.out.alloc HB1.out.size (.cells (u8s (List.replicate 64 0)).toArray 118)) (only_row (w1.alloc (.cells (u8s (List.replicate 64 0)).toArray 118)) w1.heap.size (u8s bs).toArray) (by have := HB1.out.size; simp; omega) HB1.out.size)
  go_wp2_with fail
  go_ret2
  exact ⟨by rw [← Hv.out]; rfl, Hend.out⟩
end Go.Proofs.Ytnkffjdoillmaaa.Rec

