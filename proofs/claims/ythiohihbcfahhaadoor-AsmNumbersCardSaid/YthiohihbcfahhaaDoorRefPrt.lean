/- The document's Printed; numbers of base sixteen. -/
import Derived.Test.YthiohihbcfahhaaDoorNumber
import Derived.Test.YthiohihbcfahhaaDoorTxtM
import Derived.LoopTactic
namespace Go.Proofs.YthiohihbcfahhaaDoor
open Go.RowKit
theorem dec_step {m : Nat} (h : ¬ m < 10) : Lib.decDigits m = Lib.decDigits (m / 10) ++ [UInt8.ofNat (48 + m % 10)] := by rw [Lib.decDigits, dif_neg h]
theorem dec_last {m : Nat} (h : m < 10) : Lib.decDigits m = [UInt8.ofNat (48 + m % 10)] := by rw [Lib.decDigits, dif_pos h, Nat.mod_eq_of_lt h]
theorem dec_len20 {u : Nat} (h : u < 18446744073709551616) : (Lib.decDigits u).length ≤ 20 := by
  rw [Lib.decDigits_length]
  by_cases h0 : u = 0
  · subst h0; rw [Lib.nDigits_small (by omega)]; omega
  · have := Lib.numDigits_eq u (by omega) h
    split at this <;> omega
theorem one_byte (w : World) (c : Nat) (hc : c < 256) : (convert 40 9 (.slice (some ⟨w.heap.size, 0, none⟩) 1 1)).run Tryd.prog (w.alloc (.cells #[.int .u8 c] 5)) = .ok (.string ⟨#[UInt8.ofNat c]⟩) (w.alloc (.cells #[.int .u8 c] 5)) := by
  have h := run_convert_bytes_back (P := Tryd.prog) (w.alloc (.cells #[.int .u8 c] 5)) 40 9 5 ⟨w.heap.size, 0, none⟩ 1 [UInt8.ofNat c] Tryd.underlying40 Tryd.underlying5 Tryd.underlying9 (fun j hj => by
    have hj0 : j = 0 := by simpa using hj
    subst hj0
    simp [Addr.add, Nat.mod_eq_of_lt hc])
  simpa using h
set_option maxHeartbeats 1000000 in
theorem refPrinted_any (u : Nat) (hu : u < 18446744073709551616) (w : World) : Calls Tryd.prog 9 #[.int .u64 u] w fun e w' => e = .returned (.string ⟨(Lib.decDigits u).toArray⟩) ∧ Below w.heap.size w w' := by
  have Hu := Lib.hid hu
  have H20 := Lib.hid (dec_len20 hu)
  clear hu
  go_enter Tryd.func9, Tryd.ntmps9
  go_wp2_with fail
  go_loopw [0, 3] (fun x v wr => ∃ (m : Nat) (t : Bs), x = .int .u64 m ∧ v = .string ⟨t.toArray⟩ ∧ m < 18446744073709551616 ∧ Hid (Lib.decDigits u = Lib.decDigits m ++ t) ∧ Hid (Below w.heap.size w wr)) (fun x _ _ => (intOf x).toNat)
  case atStart => exact ⟨u, [], rfl, rfl, Hu.out, by simp [Hid], Below.refl _ _⟩
  case round =>
    obtain ⟨m, t, rfl, rfl, hm, HD, HB⟩ := hrel
    have htl : t.length ≤ 20 := by have h1 := congrArg List.length HD.out; have h2 := H20.out; rw [List.length_append] at h1; omega
    obtain ⟨c, hc⟩ : ∃ c, c = 48 + m % 10 := ⟨_, rfl⟩
    have ec : (48 : Int) + (m : Int) % 10 = (c : Int) := by omega
    have hc58 : c < 58 := by omega
    have hcv := one_byte wr c (by omega)
    have HB2 := Lib.hid (HB.out.alloc HB.out.size (.cells #[.int .u8 c] 5))
    by_cases h10 : m < 10
    · have HD2 := Lib.hid (show Lib.decDigits u = UInt8.ofNat c :: t by rw [HD.out, dec_last h10, hc]; rfl)
      have e0 : (m : Int) / 10 = 0 := by omega
      clear hc
      go_wp2_with fail
      go_ret
      exact ⟨by rw [HD2.out]; rfl, HB2.out⟩
    · have HD2 := Lib.hid (show Lib.decDigits u = Lib.decDigits (m / 10) ++ (UInt8.ofNat c :: t) by rw [HD.out, dec_step h10, hc]; simp)
      obtain ⟨q, hq⟩ : ∃ q, q = m / 10 := ⟨_, rfl⟩
      have eq0 : (m : Int) / 10 = (q : Int) := by omega
      have hqm : q < m := by omega
      have hq0 : ((q : Int) == 0) = false := by rw [beq_eq_false_iff_ne]; omega
      have HQ := Lib.hid hq
      clear hc hq
      go_wp2_with fail
      go_roundw
      case rel => exact ⟨q, UInt8.ofNat c :: t, rfl, rfl, by omega, by rw [HQ.out]; exact HD2.out, HB2.out⟩
      case measure => simp [intOf]; omega
end Go.Proofs.YthiohihbcfahhaaDoor
