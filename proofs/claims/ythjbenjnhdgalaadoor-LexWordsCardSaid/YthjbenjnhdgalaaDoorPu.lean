/- Numbers of base ten and sixteen, as the library reads them. -/
import Derived.Test.YthjbenjnhdgalaaDoorTabM
import Derived.Test.YthjbenjnhdgalaaDoorShelf
import Derived.Lib.ConvBytes
import Derived.Lib.AtoiAllMem
import Derived.Lib.Hide
import Derived.Laws.Strings3
import Derived.Laws.Closers25
import Derived.Laws.Closers25b
import Derived.WalkKit
import Derived.BigCall
import Derived.BigGuard
import Derived.Below
import Derived.Laws.BitsAllLaws
import Derived.LoopTactic
namespace Go.Proofs.YthjbenjnhdgalaaDoor
open Go.RowKit
def parse16 (acc : Nat) : Bs → Lib.NumEnd Nat
  | [] => .ok acc
  | c :: r => match dig 16 c with
    | none => Lib.parseMag []
    | some d => if 18446744073709551616 ≤ acc * 16 + d then .range else parse16 (acc * 16 + d) r
theorem parse16_none (l : Bs) : ∀ acc, (∀ n, parse16 acc l ≠ .ok n) → horner 16 l acc = none := by
  induction l with
  | nil => intro acc h; exact absurd rfl (h acc)
  | cons c r ih =>
    intro acc h
    unfold horner
    unfold parse16 at h
    cases hd : dig 16 c with
    | none => rfl
    | some d =>
      simp only [hd] at h ⊢
      by_cases ho : 18446744073709551616 ≤ acc * 16 + d
      · rw [if_neg (by omega)]
      · rw [if_neg ho] at h
        rw [if_pos (by omega)]
        exact ih _ h
theorem parse16_ok (l : Bs) : ∀ acc n, parse16 acc l = .ok n → horner 16 l acc = some n := by
  induction l with
  | nil => intro acc n h; unfold parse16 at h; cases h; rfl
  | cons c r ih =>
    intro acc n h
    unfold horner
    unfold parse16 at h
    cases hd : dig 16 c with
    | none => simp only [hd] at h; unfold Lib.parseMag at h; rw [if_pos rfl] at h; cases h
    | some d =>
      simp only [hd] at h ⊢
      by_cases ho : 18446744073709551616 ≤ acc * 16 + d
      · rw [if_pos ho] at h; cases h
      · rw [if_neg ho] at h
        rw [if_pos (by omega)]
        exact ih _ _ h
theorem dig10 (c : UInt8) : dig 10 c = if 48 ≤ c.toNat ∧ c.toNat ≤ 57 then some (c.toNat - 48) else none := by
  unfold dig
  split
  · rw [if_pos (by omega)]
  · split
    · rw [if_neg (by omega)]
    · rfl
theorem parse10_none (l : Bs) : ∀ acc, (∀ n, Lib.parseUint10 acc l ≠ .ok n) → horner 10 l acc = none := by
  induction l with
  | nil => intro acc h; exact absurd rfl (h acc)
  | cons c r ih =>
    intro acc h
    unfold horner
    unfold Lib.parseUint10 at h
    rw [dig10]
    by_cases hd : 48 ≤ c.toNat ∧ c.toNat ≤ 57
    · rw [if_pos hd] at h ⊢
      simp only
      by_cases ho : acc * 10 + (c.toNat - 48) < 18446744073709551616
      · rw [if_neg (by omega), if_neg (by omega)] at h
        rw [if_pos ho]
        exact ih _ h
      · rw [if_neg ho]
    · rw [if_neg hd]
theorem parse10_ok (l : Bs) : ∀ acc n, Lib.parseUint10 acc l = .ok n → horner 10 l acc = some n := by
  induction l with
  | nil => intro acc n h; unfold Lib.parseUint10 at h; cases h; rfl
  | cons c r ih =>
    intro acc n h
    unfold horner
    unfold Lib.parseUint10 at h
    rw [dig10]
    by_cases hd : 48 ≤ c.toNat ∧ c.toNat ≤ 57
    · rw [if_pos hd] at h ⊢
      simp only
      by_cases hc : 1844674407370955162 ≤ acc
      · rw [if_pos hc] at h; cases h
      rw [if_neg hc] at h
      by_cases ho : 18446744073709551616 ≤ acc * 10 + (c.toNat - 48)
      · rw [if_pos ho] at h; cases h
      rw [if_neg ho] at h
      rw [if_pos (by omega)]
      exact ih _ _ h
    · rw [if_neg hd] at h; cases h
theorem low_all : ∀ n, n < 256 → (97 ≤ n → n ≤ 102 → n ||| 32 = n) ∧ (¬ (97 ≤ n ∧ n ≤ 102) → ¬ (65 ≤ n ∧ n ≤ 70) → ¬ (97 ≤ n ||| 32 ∧ n ||| 32 ≤ 102)) ∧ n ||| 32 < 256 := by decide +kernel
set_option maxHeartbeats 32000000 in
set_option maxRecDepth 100000 in
theorem pu16 (t : ByteArray) (hne : t.size ≠ 0) (hmax : t.size ≤ 9223372036854775806) (hup : ∀ c ∈ t.data.toList, ¬ (65 ≤ c.toNat ∧ c.toNat ≤ 70)) (w : World) :
    Calls Tryd.prog 22 #[.string t, .int .i64 16, .int .i64 64] w fun e w' => e = .returned (Lib.uintTuple 73 (parse16 0 t.data.toList)) ∧ w' = Lib.bytesWorld w 5 t := by
  have hemp : t.toList.isEmpty = false := by
    rw [← decide_eq_emptyBytes]
    exact decide_eq_false (fun h => hne (by rw [h]; rfl))
  have hcv := Lib.run_convert_string_bytes (P := Tryd.prog) w 9 22 5 t (u := .string) Tryd.underlying9 Tryd.underlying22 Tryd.underlying5
  have hB : ∀ j, j < t.size → (Lib.bytesWorld w 5 t).cell? ⟨w.heap.size, j, none⟩ = some (.int .u8 (t.data.toList.getD j 0).toNat) := fun j hj => Lib.bytesWorld_cell w 5 t j hj
  obtain ⟨W1, hW1⟩ : ∃ W1, W1 = Lib.bytesWorld w 5 t := ⟨_, rfl⟩
  rw [← hW1] at hcv hB ⊢
  clear hW1
  obtain ⟨bs, hL⟩ : ∃ bs, bs = t.data.toList := ⟨_, rfl⟩
  have hLn : bs.length = t.size := by rw [hL, Lib.size_eq]
  rw [← hL] at hB hup ⊢
  clear hL
  have hmv : IntKind.u64.wrap (IntKind.u64.wrap 18446744073709551616 - 1) = 18446744073709551615 := by
    rw [IntKind.wrap_u64, IntKind.wrap_u64]
    decide
  have Hup := Lib.hid hup
  clear hup
  go_enter Tryd.func22, Tryd.ntmps22
  go_wp2
  go_loop [12, 13, 101] (fun vu vn vi => ∃ (k acc : Nat) (a : Int), vu = .bool false ∧ vn = .int .u64 a ∧ vi = .int .i64 k ∧ k ≤ t.size ∧ Hid (a = (acc : Int) ∧ acc < 18446744073709551616 ∧ parse16 0 bs = parse16 acc (bs.drop k)))
    (fun _ _ vi => t.size - (intOf vi).toNat)
  case atStart => exact ⟨0, 0, 0, rfl, rfl, rfl, by omega, rfl, by omega, rfl⟩
  case round =>
    obtain ⟨k, acc, a, rfl, rfl, rfl, hk, hh⟩ := hrel
    obtain ⟨ha, hacc, hdec⟩ := hh.out
    clear hh
    have a0 : 0 ≤ a := by omega
    have a1 : a < 18446744073709551616 := by omega
    by_cases hkn : k < t.size
    · have hc := hB k hkn
      have hdrop : bs.drop k = bs[k]'(by omega) :: bs.drop (k + 1) := List.drop_eq_getElem_cons (by omega)
      have hget : bs.getD k 0 = bs[k]'(by omega) := by simp [List.getD, List.getElem?_eq_getElem (show k < bs.length by omega)]
      have hupc := Hup.out (bs[k]'(by omega)) (List.getElem_mem _)
      rw [hdrop] at hdec
      rw [hget] at hc
      generalize bs[k]'(by omega) = c at hc hdec hupc
      have hc256 : c.toNat < 256 := c.toNat_lt
      have hlow := low_all c.toNat hc256
      clear hB hdrop hget
      obtain ⟨q, hq⟩ : ∃ q : Nat, q = c.toNat ||| 32 := ⟨_, rfl⟩
      have hqb : bits .or .u8 (c.toNat : Int) 32 = (q : Int) := by
        rw [hq]; exact u8_or_nat c.toNat 32 hc256 (by omega)
      rw [← hq] at hlow
      clear hq
      have hq256 : q < 256 := hlow.2.2
      by_cases hdig : (48 ≤ c.toNat ∧ c.toNat ≤ 57) ∨ (97 ≤ c.toNat ∧ c.toNat ≤ 102)
      · obtain ⟨d, hd, hd16, hdc⟩ : ∃ d, dig 16 c = some d ∧ d < 16 ∧ ((48 ≤ c.toNat ∧ c.toNat ≤ 57 ∧ c.toNat = d + 48) ∨ (97 ≤ c.toNat ∧ c.toNat ≤ 102 ∧ q = d + 87 ∧ 97 ≤ q)) := by
          rcases hdig with h | h
          · exact ⟨c.toNat - 48, by unfold dig; rw [if_pos h, if_pos (by omega)], by omega, .inl ⟨h.1, h.2, by omega⟩⟩
          · refine ⟨c.toNat - 87, by unfold dig; rw [if_neg (by omega), if_pos (by omega), if_pos (by omega)], by omega, .inr ⟨h.1, h.2, ?_⟩⟩
            have := hlow.1 h.1 h.2
            omega
        clear hdig hlow hupc
        rcases hdc with ⟨hd0, hd1, hde⟩ | ⟨hd0, hd1, hde, hq97⟩
        · clear hqb
          by_cases hcut : 1152921504606846976 ≤ acc
          · have hF : parse16 acc (c :: bs.drop (k + 1)) = .range := by unfold parse16; rw [hd]; simp only; rw [if_pos (by omega)]
            rw [hF] at hdec
            have icut : 1152921504606846976 ≤ a := by omega
            clear hcut hacc hF ha hd
            go_wp2_with (go_at_call 33; refine (Tryd.internal_strconv_lower _ _).mono ?_; rintro e w' ⟨rfl, rfl⟩)
            go_ret2
            first | exact ⟨rfl, rfl⟩ | exact ⟨by rw [hdec]; rfl, rfl⟩
          · by_cases hov : 18446744073709551616 ≤ acc * 16 + d
            · omega
            · have hF : parse16 acc (c :: bs.drop (k + 1)) = parse16 (acc * 16 + d) (bs.drop (k + 1)) := by rw [parse16, hd]; simp only; rw [if_neg hov]
              have HN : Hid (a * 16 + ((c.toNat : Int) - 48) = ((acc * 16 + d : Nat) : Int) ∧ acc * 16 + d < 18446744073709551616 ∧ parse16 0 bs = parse16 (acc * 16 + d) (bs.drop (k + 1))) := Lib.hid ⟨by omega, by omega, hdec.trans hF⟩
              have icut : a < 1152921504606846976 := by omega
              have iov : a * 16 + ((c.toNat : Int) - 48) < 18446744073709551616 := by omega
              clear hcut hacc hF hov hdec ha hd
              go_wp2_with (go_at_call 33; refine (Tryd.internal_strconv_lower _ _).mono ?_; rintro e w' ⟨rfl, rfl⟩)
              refine ⟨⟨k + 1, acc * 16 + d, a * 16 + ((c.toNat : Int) - 48), rfl, (by first | rfl | (congr 1; omega)), (by first | rfl | (congr 1; omega)), by omega, HN⟩, by simp [intOf]; omega⟩
        · have hq102 : q ≤ 102 := by omega
          have hd0' : (57 : Int) < (c.toNat : Int) := by omega
          by_cases hcut : 1152921504606846976 ≤ acc
          · have hF : parse16 acc (c :: bs.drop (k + 1)) = .range := by unfold parse16; rw [hd]; simp only; rw [if_pos (by omega)]
            rw [hF] at hdec
            have icut : 1152921504606846976 ≤ a := by omega
            clear hcut hacc hF ha hd
            go_wp2_with (go_at_call 33; refine (Tryd.internal_strconv_lower _ _).mono ?_; rintro e w' ⟨rfl, rfl⟩)
            go_ret2
            first | exact ⟨rfl, rfl⟩ | exact ⟨by rw [hdec]; rfl, rfl⟩
          · by_cases hov : 18446744073709551616 ≤ acc * 16 + d
            · omega
            · have hF : parse16 acc (c :: bs.drop (k + 1)) = parse16 (acc * 16 + d) (bs.drop (k + 1)) := by rw [parse16, hd]; simp only; rw [if_neg hov]
              have HN : Hid (a * 16 + ((q : Int) - 97 + 10) = ((acc * 16 + d : Nat) : Int) ∧ acc * 16 + d < 18446744073709551616 ∧ parse16 0 bs = parse16 (acc * 16 + d) (bs.drop (k + 1))) := Lib.hid ⟨by omega, by omega, hdec.trans hF⟩
              have icut : a < 1152921504606846976 := by omega
              have iov : a * 16 + ((q : Int) - 97 + 10) < 18446744073709551616 := by omega
              clear hcut hacc hF hov hdec ha hd
              go_wp2_with (go_at_call 33; refine (Tryd.internal_strconv_lower _ _).mono ?_; rintro e w' ⟨rfl, rfl⟩)
              refine ⟨⟨k + 1, acc * 16 + d, a * 16 + ((q : Int) - 97 + 10), rfl, (by first | rfl | (congr 1; omega)), (by first | rfl | (congr 1; omega)), by omega, HN⟩, by simp [intOf]; omega⟩
      · have hF : parse16 acc (c :: bs.drop (k + 1)) = Lib.parseMag [] := by
          have : dig 16 c = none := by
            unfold dig
            rw [if_neg (by omega)]
            split
            · rw [if_neg (by omega)]
            · rfl
          unfold parse16
          rw [this]
        rw [hF] at hdec
        have hno := hlow.2.1 (by omega) hupc
        have h48 : ¬ (48 ≤ c.toNat ∧ c.toNat ≤ 57) := by omega
        clear hacc hF ha hlow hupc hdig
        go_wp2_with (go_at_call 33; refine (Tryd.internal_strconv_lower _ _).mono ?_; rintro e w' ⟨rfl, rfl⟩)
        all_goals go_ret2
        all_goals first | exact ⟨rfl, rfl⟩ | exact ⟨by rw [hdec]; rfl, rfl⟩
    · have hkk : k = t.size := by omega
      subst hkk
      have hF : parse16 acc (bs.drop t.size) = .ok acc := by rw [List.drop_eq_nil_of_le (by omega)]; rfl
      rw [hF] at hdec
      subst ha
      clear hacc hF a0 a1
      go_wp2
      go_ret2
      exact ⟨rfl, rfl⟩
end Go.Proofs.YthjbenjnhdgalaaDoor
