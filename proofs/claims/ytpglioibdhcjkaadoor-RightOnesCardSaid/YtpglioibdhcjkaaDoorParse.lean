/- A text as rights: cut at its commas, each word a right that wasn't there. -/
import Derived.Test.YtpglioibdhcjkaaDoorOne
import Derived.Test.YtpglioibdhcjkaaDoorShelf
import Derived.Lib.CutLaws
import Derived.RegionTactic
namespace Go.Proofs.YtpglioibdhcjkaaDoor
open Go.RowKit

theorem NamesAt.drewN {w : World} (h : NamesAt w) (n : Nat) : NamesAt (w.drewN n) := fun i hi => h i hi
theorem below_drewN {B : Nat} {a w : World} (h : Below B a w) (n : Nat) : Below B a (w.drewN n) := ⟨h.os, h.tape, h.output, h.size, h.block⟩
theorem hasB_bit (a i : Nat) : hasB a (2 ^ i) = a.testBit i := by
  rw [Bool.eq_iff_iff, hasB, decide_eq_true_iff]
  constructor
  · intro h
    have := congrArg (·.testBit i) h
    simpa [Nat.testBit_and, Nat.testBit_two_pow] using this
  · intro h
    apply Nat.eq_of_testBit_eq
    intro k
    rw [Nat.testBit_and, Nat.testBit_two_pow]
    by_cases e : i = k
    · subst e; simp [h]
    · simp [e]
theorem one_some (s : ByteArray) (w : World) (h : NamesAt w) (p : Addr) (i : Nat) (hi : idx s.data.toList = some i) : Calls Tryd.prog 14 #[.pointer (some p), .string s] w fun e w' =>
    e = .returned (.tuple #[.int .u16 ((2 ^ i : Nat) : Int), .bool true]) ∧ w = w' := by
  have := one_any s w h p
  unfold oneV at this
  rw [hi] at this
  exact this
theorem one_none (s : ByteArray) (w : World) (h : NamesAt w) (p : Addr) (hi : idx s.data.toList = none) : Calls Tryd.prog 14 #[.pointer (some p), .string s] w fun e w' =>
    e = .returned (.tuple #[.int .u16 0, .bool false]) ∧ w = w' := by
  have := one_any s w h p
  unfold oneV at this
  rw [hi] at this
  exact this

theorem indexByte_miss : ∀ l : List UInt8, (44 : UInt8) ∉ l → Lib.indexByte l 44 = -1
  | [], _ => rfl
  | c :: r, h => by
    have h1 : c ≠ 44 := fun e => h (by simp [e])
    have h2 := indexByte_miss r (fun e => h (by simp [e]))
    simp [Lib.indexByte, h1, h2]
theorem indexByte_hit : ∀ (l r : List UInt8), (44 : UInt8) ∉ l → Lib.indexByte (l ++ 44 :: r) 44 = l.length
  | [], r, _ => by simp [Lib.indexByte]
  | c :: l, r, h => by
    have h1 : c ≠ 44 := fun e => h (by simp [e])
    have h2 := indexByte_hit l r (fun e => h (by simp [e]))
    simp only [List.cons_append, Lib.indexByte, h2, beq_iff_eq, h1, if_false, List.length_cons]
    rw [if_neg (by omega)]; omega

set_option maxRecDepth 100000 in
theorem scut_miss (t : ByteArray) (w : World) (h : (44 : UInt8) ∉ t.data.toList) : Calls Tryd.prog 27 #[.string t, .string ⟨#[44]⟩] w fun e w' =>
    e = .returned (.tuple #[.string t, .string ByteArray.empty, .bool false]) ∧ w = w' := by
  have hix := Lib.hid (indexByte_miss _ h)
  clear h
  go_enter Tryd.func27, Tryd.ntmps27
  go_wp2_with (go_at_call 31; refine (Tryd.stringslite_Index_one _ _ _).mono ?_; rintro e w' ⟨rfl, rfl⟩; rw [hix.out])
  go_ret3
  exact ⟨rfl, rfl⟩
theorem extract_head (t b c : ByteArray) (h : t.data.toList = b.data.toList ++ 44 :: c.data.toList) : t.extract 0 b.size = b ∧ t.extract (b.size + 1) t.size = c := by
  have hl : b.data.toList.length = b.size := (Lib.size_eq b).symm
  have hz : t.size = b.size + 1 + c.size := by rw [Lib.size_eq, h]; simp; omega
  constructor
  · rw [Lib.extract_eq, h, List.drop_zero, Nat.sub_zero, List.take_append_of_le_length (by omega), List.take_of_length_le (by omega), Lib.mk_data]
  · rw [Lib.extract_eq, h, List.drop_append, List.drop_of_length_le (by omega), List.nil_append, show b.size + 1 - b.data.toList.length = 1 from by omega, List.drop_succ_cons, List.drop_zero, List.take_of_length_le (by rw [← Lib.size_eq]; omega), Lib.mk_data]
set_option maxRecDepth 100000 in
theorem scut_hit (t b c : ByteArray) (w : World) (hm : t.size ≤ maxLen) (h : t.data.toList = b.data.toList ++ 44 :: c.data.toList) (h2 : (44 : UInt8) ∉ b.data.toList) : Calls Tryd.prog 27 #[.string t, .string ⟨#[44]⟩] w fun e w' =>
    e = .returned (.tuple #[.string b, .string c, .bool true]) ∧ ∃ n, w' = w.drewN n := by
  unfold maxLen at hm
  have hix := Lib.hid (show Lib.indexByte t.data.toList 44 = b.size by rw [h, indexByte_hit _ _ h2, ← Lib.size_eq])
  have hz : t.size = b.size + 1 + c.size := by rw [Lib.size_eq, h, Lib.size_eq b, Lib.size_eq c]; simp; omega
  have HZ := Lib.hid (extract_head t b c h)
  have c1 : (0 : Int) ≤ (b.size : Int) := by omega
  have c2 : (b.size : Int) ≤ (t.size : Int) := by omega
  have c3 : (0 : Int) ≤ (b.size : Int) + 1 := by omega
  have c4 : (b.size : Int) + 1 ≤ (t.size : Int) := by omega
  have Hz := Lib.hid hz
  clear h h2 hz
  go_enter Tryd.func27, Tryd.ntmps27
  go_wp2_with (go_at_call 31; refine (Tryd.stringslite_Index_one _ _ _).mono ?_; rintro e w' ⟨rfl, rfl⟩; rw [hix.out])
  go_region
  go_wp2
  go_ret3
  rw [HZ.out.1, HZ.out.2]
  exact ⟨rfl, 1, rfl⟩
theorem cut_miss (t : ByteArray) (w : World) (h : (44 : UInt8) ∉ t.data.toList) : Calls Tryd.prog 22 #[.string t, .string ⟨#[44]⟩] w fun e w' =>
    e = .returned (.tuple #[.string t, .string ByteArray.empty, .bool false]) ∧ w = w' := by
  have hc := scut_miss t w h
  clear h
  go_enter Tryd.func22, Tryd.ntmps22
  go_wp2_with (go_at_call 27; refine hc.mono ?_; rintro e w' ⟨rfl, rfl⟩)
  go_ret3
  exact ⟨rfl, rfl⟩
theorem cut_hit (t b c : ByteArray) (w : World) (hm : t.size ≤ maxLen) (h : t.data.toList = b.data.toList ++ 44 :: c.data.toList) (h2 : (44 : UInt8) ∉ b.data.toList) : Calls Tryd.prog 22 #[.string t, .string ⟨#[44]⟩] w fun e w' =>
    e = .returned (.tuple #[.string b, .string c, .bool true]) ∧ ∃ n, w' = w.drewN n := by
  have hc := scut_hit t b c w hm h h2
  clear h h2
  go_enter Tryd.func22, Tryd.ntmps22
  go_wp2_with (go_at_call 27; refine hc.mono ?_; rintro e w' ⟨rfl, n, rfl⟩)
  go_ret3
  exact ⟨rfl, n, rfl⟩
end Go.Proofs.YtpglioibdhcjkaaDoor
