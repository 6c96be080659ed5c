/- A number out of bytes, and into them. -/
import Derived.Test.YtnkffjdoillmaaaRecM
import Derived.WalkSpells
import Derived.Laws.ShiftsVarLaws
import Derived.IntWalk
namespace Go.Proofs.Ytnkffjdoillmaaa.Rec
open Go.RowKit
/-- In block g from o on the bytes read so. -/
def At (w : World) (g : Nat) (bs : List Nat) (o n : Nat) : Prop := ∀ j, j < n → w.cell? ⟨g, o + j, none⟩ = some (.int .u8 (bs.getD (o + j) 0 : Nat))
theorem At.of {w : World} {g t : Nat} {bs : List Nat} (h : Bk w g t (u8s bs)) {o n : Nat} (hn : o + n ≤ bs.length) : At w g bs o n := fun j hj => h.cell (o + j) (u8s_getD (by omega))
set_option maxRecDepth 100000 in
set_option maxHeartbeats 1000000 in
theorem take_any (bs : List Nat) (g o n cap : Nat) (w : World) (hb : Small8 bs) (hn : n ≤ 8) (hr : At w g bs o n) :
    Calls Try.prog 55 #[.slice (some ⟨g, o, none⟩) n cap] w fun e w' => e = .returned (.int .u64 (leN bs o n : Nat)) ∧ w = w' := by
  have Hb := Lib.hid hb
  have Hr := Lib.hid hr
  clear hb hr
  go_enter Try.func55, Try.ntmps55
  go_wp2_with fail
  go_loop [3, 8] (fun v i => ∃ k y : Nat, k ≤ n ∧ i = .int .i64 k ∧ v = .int .u64 y ∧ Hid (y = leN bs o k)) (fun _ i => n - (intOf i).toNat)
  case atStart => exact ⟨0, 0, by omega, rfl, rfl, Lib.hid rfl⟩
  case round =>
    obtain ⟨k, y, hk, rfl, rfl, Hy⟩ := hrel
    by_cases hlt : k < n
    · have hc := Hr.out k hlt
      have hx := Hb.out (o + k)
      have hy : y < 256 ^ k := by rw [Hy.out]; exact leN_lt Hb.out o k
      have hs : leN bs o (k + 1) = y + 256 ^ k * bs.getD (o + k) 0 := by rw [Hy.out]; rfl
      obtain ⟨x, hxd⟩ : ∃ x, x = bs.getD (o + k) 0 := ⟨_, rfl⟩
      rw [← hxd] at hc hx hs
      clear hxd
      rcases (by omega : k = 0 ∨ k = 1 ∨ k = 2 ∨ k = 3 ∨ k = 4 ∨ k = 5 ∨ k = 6 ∨ k = 7) with rfl | rfl | rfl | rfl | rfl | rfl | rfl | rfl
      · rw [Nat.add_zero] at hc
        have e : bits .or .u64 (y : Int) (x : Int) = ((y + x : Nat) : Int) := by
          have h := or64 y x 0 1 (by omega) hx (by omega) rfl
          simpa using h
        have E := Lib.hid e
        have Hs := Lib.hid hs
        clear e hs
        go_wp2_with fail
        go_roundw
        case rel => exact ⟨1, y + x, by omega, rfl, congrArg (Value.int .u64) E.out, Lib.hid (by rw [Hs.out]; simp)⟩
        case measure => simp [intOf]; omega
      · have e : bits .or .u64 (y : Int) ((x : Int) * 256) = ((y + 256 * x : Nat) : Int) := or64 y x 8 256 (by simpa using hy) hx (by omega) rfl
        have E := Lib.hid e
        have Hs := Lib.hid hs
        clear e hs
        go_wp2_with fail
        go_roundw
        case rel => exact ⟨2, y + 256 * x, by omega, rfl, congrArg (Value.int .u64) E.out, Lib.hid (by rw [Hs.out])⟩
        case measure => simp [intOf]; omega
      · have e : bits .or .u64 (y : Int) ((x : Int) * 65536) = ((y + 65536 * x : Nat) : Int) := or64 y x 16 65536 (by simpa using hy) hx (by omega) rfl
        have E := Lib.hid e
        have Hs := Lib.hid hs
        clear e hs
        go_wp2_with fail
        go_roundw
        case rel => exact ⟨3, y + 65536 * x, by omega, rfl, congrArg (Value.int .u64) E.out, Lib.hid (by rw [Hs.out])⟩
        case measure => simp [intOf]; omega
      · have e : bits .or .u64 (y : Int) ((x : Int) * 16777216) = ((y + 16777216 * x : Nat) : Int) := or64 y x 24 16777216 (by simpa using hy) hx (by omega) rfl
        have E := Lib.hid e
        have Hs := Lib.hid hs
        clear e hs
        go_wp2_with fail
        go_roundw
        case rel => exact ⟨4, y + 16777216 * x, by omega, rfl, congrArg (Value.int .u64) E.out, Lib.hid (by rw [Hs.out])⟩
        case measure => simp [intOf]; omega
      · have e : bits .or .u64 (y : Int) ((x : Int) * 4294967296) = ((y + 4294967296 * x : Nat) : Int) := or64 y x 32 4294967296 (by simpa using hy) hx (by omega) rfl
        have E := Lib.hid e
        have Hs := Lib.hid hs
        clear e hs
        go_wp2_with fail
        go_roundw
        case rel => exact ⟨5, y + 4294967296 * x, by omega, rfl, congrArg (Value.int .u64) E.out, Lib.hid (by rw [Hs.out])⟩
        case measure => simp [intOf]; omega
      · have e : bits .or .u64 (y : Int) ((x : Int) * 1099511627776) = ((y + 1099511627776 * x : Nat) : Int) := or64 y x 40 1099511627776 (by simpa using hy) hx (by omega) rfl
        have E := Lib.hid e
        have Hs := Lib.hid hs
        clear e hs
        go_wp2_with fail
        go_roundw
        case rel => exact ⟨6, y + 1099511627776 * x, by omega, rfl, congrArg (Value.int .u64) E.out, Lib.hid (by rw [Hs.out])⟩
        case measure => simp [intOf]; omega
      · have e : bits .or .u64 (y : Int) ((x : Int) * 281474976710656) = ((y + 281474976710656 * x : Nat) : Int) := or64 y x 48 281474976710656 (by simpa using hy) hx (by omega) rfl
        have E := Lib.hid e
        have Hs := Lib.hid hs
        clear e hs
        go_wp2_with fail
        go_roundw
        case rel => exact ⟨7, y + 281474976710656 * x, by omega, rfl, congrArg (Value.int .u64) E.out, Lib.hid (by rw [Hs.out])⟩
        case measure => simp [intOf]; omega
      · have e : bits .or .u64 (y : Int) ((x : Int) * 72057594037927936) = ((y + 72057594037927936 * x : Nat) : Int) := or64 y x 56 72057594037927936 (by simpa using hy) hx (by omega) rfl
        have E := Lib.hid e
        have Hs := Lib.hid hs
        clear e hs
        go_wp2_with fail
        go_roundw
        case rel => exact ⟨8, y + 72057594037927936 * x, by omega, rfl, congrArg (Value.int .u64) E.out, Lib.hid (by rw [Hs.out])⟩
        case measure => simp [intOf]; omega
    · obtain rfl : k = n := by omega
      have He := Lib.hid Hy.out.symm
      go_wp2_with fail
      go_ret
      exact ⟨by rw [He.out]; rfl, rfl⟩
set_option maxRecDepth 100000 in
set_option maxHeartbeats 1000000 in
theorem put_any (bs : List Nat) (g T o n cap v : Nat) (w : World) (hl : bs.length = 64) (hb : Small8 bs) (hn : n ≤ 8) (ho : o + n ≤ 64) (hv : v = leN bs o n) (hr : Bk w g T (fil bs o)) :
    Calls Try.prog 71 #[.slice (some ⟨g, o, none⟩) n cap, .int .u64 v] w fun e w' => e = .returned (.tuple #[]) ∧ (Bk w' g T (fil bs (o + n)) ∧ w.grownBy w' (some g)) := by
  have Hl := Lib.hid hl
  have Hb := Lib.hid hb
  have Hv := Lib.hid hv
  have Hr := Lib.hid hr
  clear hb hv hr hl
  go_enter Try.func71, Try.ntmps71
  go_wp2_with fail
  go_loopw [7] (fun i wr => ∃ k : Nat, k ≤ n ∧ i = .int .i64 k ∧ Hid (Bk wr g T (fil bs (o + k))) ∧ Hid (w.grownBy wr (some g))) (fun i _ => n - (intOf i).toNat)
  case atStart => exact ⟨0, by omega, rfl, Hr, Lib.hid (only_refl _ _)⟩
  case round =>
    obtain ⟨k, hk, rfl, Rb, Rg⟩ := hrel
    by_cases hlt : k < n
    · have hc := Rb.out.cell (o + k) (fil_at bs (o + k) Hl.out (by omega))
      have hf := Rb.out.fz (o + k)
      have hx := leN_byte Hb.out o k n hlt
      rw [← Hv.out] at hx
      have hnew := Rb.out.set (o + k) (.int .u8 (bs.getD (o + k) 0 : Nat))
      rw [fil_set bs (o + k) Hl.out (by omega)] at hnew
      have hgr := only_trans Rg.out (only_set wr g (o + k) (.int .u8 (bs.getD (o + k) 0 : Nat)))
      obtain ⟨x, hxd⟩ : ∃ x, x = bs.getD (o + k) 0 := ⟨_, rfl⟩
      rw [← hxd] at hx hnew hgr
      have Hnew := Lib.hid hnew
      have Hgr := Lib.hid hgr
      clear hxd hnew hgr
      rcases (by omega : k = 0 ∨ k = 1 ∨ k = 2 ∨ k = 3 ∨ k = 4 ∨ k = 5 ∨ k = 6 ∨ k = 7) with rfl | rfl | rfl | rfl | rfl | rfl | rfl | rfl
      · rw [Nat.add_zero] at hc hf Hnew Hgr
        have e : (v : Int) % 256 = x := by omega
        clear hx
        go_wp2_with fail
        go_roundw
        case rel => exact ⟨1, by omega, rfl, Hnew, Hgr⟩
        case measure => simp [intOf]; omega
      · have e : (v : Int) / 256 % 256 = x := by omega
        clear hx
        go_wp2_with fail
        go_roundw
        case rel => exact ⟨2, by omega, rfl, Hnew, Hgr⟩
        case measure => simp [intOf]; omega
      · have e : (v : Int) / 65536 % 256 = x := by omega
        clear hx
        go_wp2_with fail
        go_roundw
        case rel => exact ⟨3, by omega, rfl, Hnew, Hgr⟩
        case measure => simp [intOf]; omega
      · have e : (v : Int) / 16777216 % 256 = x := by omega
        clear hx
        go_wp2_with fail
        go_roundw
        case rel => exact ⟨4, by omega, rfl, Hnew, Hgr⟩
        case measure => simp [intOf]; omega
      · have e : (v : Int) / 4294967296 % 256 = x := by omega
        clear hx
        go_wp2_with fail
        go_roundw
        case rel => exact ⟨5, by omega, rfl, Hnew, Hgr⟩
        case measure => simp [intOf]; omega
      · have e : (v : Int) / 1099511627776 % 256 = x := by omega
        clear hx
        go_wp2_with fail
        go_roundw
        case rel => exact ⟨6, by omega, rfl, Hnew, Hgr⟩
        case measure => simp [intOf]; omega
      · have e : (v : Int) / 281474976710656 % 256 = x := by omega
        clear hx
        go_wp2_with fail
        go_roundw
        case rel => exact ⟨7, by omega, rfl, Hnew, Hgr⟩
        case measure => simp [intOf]; omega
      · have e : (v : Int) / 72057594037927936 % 256 = x := by omega
        clear hx
        go_wp2_with fail
        go_roundw
        case rel => exact ⟨8, by omega, rfl, Hnew, Hgr⟩
        case measure => simp [intOf]; omega
    · obtain rfl : k = n := by omega
      go_wp2_with fail
      go_end0
      exact ⟨rfl, Rb.out, Rg.out⟩
end Go.Proofs.Ytnkffjdoillmaaa.Rec

