/- Parse: what a text's words say, in their order. -/
import Derived.Test.YtpglioibdhcjkaaDoorParse
namespace Go.Proofs.YtpglioibdhcjkaaDoor
open Go.RowKit

theorem pars_none (a : Nat) (x : List UInt8) (r : List (List UInt8)) (h : idx x = none) : pars a (x :: r) = (0, 202) := by rw [pars, h]
theorem pars_twice (a i : Nat) (x : List UInt8) (r : List (List UInt8)) (h : idx x = some i) (h2 : a.testBit i = true) : pars a (x :: r) = (0, 206) := by
  rw [pars, h]; simp [h2]
theorem pars_go (a i : Nat) (x : List UInt8) (r : List (List UInt8)) (h : idx x = some i) (h2 : a.testBit i = false) : pars a (x :: r) = pars (a ||| 2 ^ i) r := by
  rw [pars, h]; simp [h2]
def left (m : Bool) (t : ByteArray) : List (List UInt8) := if m then words t.data.toList else []
theorem cut_cases (t : ByteArray) : (44 : UInt8) ∉ t.data.toList ∧ words t.data.toList = [t.data.toList] ∨
    ∃ b c : ByteArray, t.data.toList = b.data.toList ++ 44 :: c.data.toList ∧ (44 : UInt8) ∉ b.data.toList ∧ words t.data.toList = b.data.toList :: words c.data.toList ∧ c.size < t.size ∧ b.size ≤ t.size := by
  by_cases h : (44 : UInt8) ∈ t.data.toList
  · right
    obtain ⟨l, r, e, hn⟩ := List.eq_append_cons_of_mem h
    have hall : ∀ c ∈ l, (decide (c ≠ 44)) = true := fun c hc => by simp; intro e; subst e; exact hn hc
    refine ⟨⟨l.toArray⟩, ⟨r.toArray⟩, by simpa using e, by simpa using hn, ?_, ?_, ?_⟩
    · rw [words_cut, if_pos h, e, List.takeWhile_append_of_pos hall, List.dropWhile_append_of_pos hall]
      simp
    · have := congrArg List.length e
      simp only [List.length_append, List.length_cons] at this
      rw [Lib.size_eq t, Lib.size_eq]; simp only; omega
    · have := congrArg List.length e
      simp only [List.length_append, List.length_cons] at this
      rw [Lib.size_eq t, Lib.size_eq]; simp only; omega
  · left
    exact ⟨h, by rw [words_cut, if_neg h]⟩
theorem bit_or_lt (a i : Nat) (ha : a < 65536) (hi : i < 16) : a ||| 2 ^ i < 65536 := Nat.or_lt_two_pow (n := 16) ha (pow_lt i hi)

set_option maxRecDepth 100000 in
set_option maxHeartbeats 1000000 in
theorem parse_any (s : ByteArray) (w : World) (hm : s.size ≤ maxLen) (h : NamesAt w) (p : Addr) : Calls Tryd.prog 10 #[.pointer (some p), .string s] w fun e w' =>
    e = .returned (.tuple #[.int .u16 ((pars 0 (words s.data.toList)).1 : Nat), .int .i64 ((pars 0 (words s.data.toList)).2 : Nat)]) ∧ ∃ n, w' = w.drewN n := by
  have H := Lib.hid h
  clear h
  obtain ⟨R, hR⟩ : ∃ R, R = pars 0 (words s.data.toList) := ⟨_, rfl⟩
  rw [← hR]
  have HR := Lib.hid hR
  clear hR
  go_enter Tryd.func10, Tryd.ntmps10
  go_wp2_with fail
  go_loopw [1, 6, 7] (fun sv av mv wr => ∃ (t : ByteArray) (a : Nat) (m : Bool), sv = .string t ∧ av = .int .u16 a ∧ mv = .bool m ∧ a < 65536 ∧ Hid (t.size ≤ maxLen) ∧ Hid (∃ n, wr = w.drewN n) ∧ Hid (pars a (left m t) = R)) (fun sv _ mv _ => (match sv, mv with | .string t, .bool true => t.size + 1 | _, _ => 0))
  case atStart => exact ⟨s, 0, true, rfl, rfl, rfl, by omega, hm, ⟨0, rfl⟩, HR.out.symm⟩
  case round =>
    obtain ⟨t, a, m, rfl, rfl, rfl, ha, Ht, Hw, Hp⟩ := hrel
    cases m
    · go_wp2_with fail
      go_ret2
      refine ⟨?_, Hw.out⟩
      have := Hp.out
      simp only [left, Bool.false_eq_true, if_false, pars] at this
      rw [← this]; rfl
    · have HN : Hid (NamesAt wr) := by obtain ⟨n, e⟩ := Hw.out; rw [e]; exact H.out.drewN n
      rcases cut_cases t with ⟨hc, hw⟩ | ⟨b, c, hbc, hb, hw, hlt, hle⟩
      · have Hc := Lib.hid hc
        have Hq := Lib.hid (show pars a [t.data.toList] = R by rw [← Hp.out, left, if_pos rfl, hw])
        clear hc hw Hp
        cases hix : idx t.data.toList with
        | none =>
          have Hix := Lib.hid hix
          have Hfin := Lib.hid (Hq.out.symm.trans (pars_none _ _ _ hix))
          clear hix Hq
          go_wp2_with (first | (go_at_call 22; refine (cut_miss _ _ Hc.out).mono ?_; rintro e w' ⟨rfl, rfl⟩) | (go_at_call 14; refine (one_none _ _ HN.out _ Hix.out).mono ?_; rintro e w' ⟨rfl, rfl⟩))
          go_ret2
          rw [Hfin.out]
          exact ⟨rfl, Hw.out⟩
        | some i =>
          have hi := nbits_lt i (idx_some hix).1
          have hpw := pow_lt i hi
          have Hix := Lib.hid hix
          cases htb : a.testBit i
          · have hhas : hasB a (2 ^ i) = false := by rw [hasB_bit, htb]
            have Hfin := Lib.hid ((pars_go _ _ _ _ hix htb).symm.trans Hq.out)
            have hor := u16_or_nat a (2 ^ i) ha hpw
            have hol := bit_or_lt a i ha hi
            have HS := Lib.hid (show t.size ≤ maxLen from Ht.out)
            obtain ⟨q, hq⟩ : ∃ q, q = 2 ^ i := ⟨_, rfl⟩
            have HQ := Lib.hid hq
            have hone := one_some t wr HN.out p i hix
            rw [← hq] at hhas hor hol hpw hone Hfin
            clear hix Hq htb hq hi
            go_wp2_with (first | (go_at_call 22; refine (cut_miss _ _ Hc.out).mono ?_; rintro e w' ⟨rfl, rfl⟩) | (go_at_call 14; refine hone.mono ?_; rintro e w' ⟨rfl, rfl⟩) | (go_at_call 20; refine (has_any _ _ _ ha hpw).mono ?_; rintro e w' ⟨rfl, rfl⟩))
            go_roundw
            case rel => exact ⟨ByteArray.empty, a ||| q, false, rfl, rfl, rfl, hol, Nat.zero_le _, Hw.out, Hfin.out⟩
            case measure => simp
          · have hhas : hasB a (2 ^ i) = true := by rw [hasB_bit, htb]
            have Hfin := Lib.hid (Hq.out.symm.trans (pars_twice _ _ _ _ hix htb))
            obtain ⟨q, hq⟩ : ∃ q, q = 2 ^ i := ⟨_, rfl⟩
            have HQ := Lib.hid hq
            have hone := one_some t wr HN.out p i hix
            rw [← hq] at hhas hpw hone
            clear hix Hq htb hq hi
            go_wp2_with (first | (go_at_call 22; refine (cut_miss _ _ Hc.out).mono ?_; rintro e w' ⟨rfl, rfl⟩) | (go_at_call 14; refine hone.mono ?_; rintro e w' ⟨rfl, rfl⟩) | (go_at_call 20; refine (has_any _ _ _ ha hpw).mono ?_; rintro e w' ⟨rfl, rfl⟩))
            go_ret2
            rw [Hfin.out]
            exact ⟨rfl, Hw.out⟩
      · have Hbc := Lib.hid hbc
        have Hb := Lib.hid hb
        have Hlt := Lib.hid hlt
        have Hq := Lib.hid (show pars a (b.data.toList :: words c.data.toList) = R by rw [← Hp.out, left, if_pos rfl, hw])
        have HN2 : Hid (∀ n, NamesAt (wr.drewN n)) := fun n => HN.out.drewN n
        have Hw2 : Hid (∀ n, ∃ n', wr.drewN n = w.drewN n') := fun n => by
          obtain ⟨k, e⟩ := Hw.out
          exact ⟨k + n, by rw [e]; simp [World.drewN, Nat.add_assoc]⟩
        clear hbc hb hw Hp hlt hle
        cases hix : idx b.data.toList with
        | none =>
          have Hix := Lib.hid hix
          have Hfin := Lib.hid (Hq.out.symm.trans (pars_none _ _ _ hix))
          clear hix Hq
          go_wp2_with (first | (go_at_call 22; refine (cut_hit _ b c _ Ht.out Hbc.out Hb.out).mono ?_; rintro e w' ⟨rfl, nn, rfl⟩) | (go_at_call 14; refine (one_none _ _ (HN2.out _) _ Hix.out).mono ?_; rintro e w' ⟨rfl, rfl⟩))
          go_ret2
          rw [Hfin.out]
          exact ⟨rfl, Hw2.out _⟩
        | some i =>
          have hi := nbits_lt i (idx_some hix).1
          have hpw := pow_lt i hi
          cases htb : a.testBit i
          · have hhas : hasB a (2 ^ i) = false := by rw [hasB_bit, htb]
            have Hfin := Lib.hid ((pars_go _ _ _ _ hix htb).symm.trans Hq.out)
            have hor := u16_or_nat a (2 ^ i) ha hpw
            have hol := bit_or_lt a i ha hi
            obtain ⟨q, hq⟩ : ∃ q, q = 2 ^ i := ⟨_, rfl⟩
            have HQ := Lib.hid hq
            have hone : ∀ n, Calls Tryd.prog 14 #[.pointer (some p), .string b] (wr.drewN n) fun e w' => e = .returned (.tuple #[.int .u16 ((2 ^ i : Nat) : Int), .bool true]) ∧ (wr.drewN n) = w' := fun n => one_some b _ (HN2.out n) p i hix
            rw [← hq] at hhas hor hol hpw Hfin
            have hone2 := hone
            rw [← hq] at hone2
            have Hone := Lib.hid hone2
            clear hix Hq htb hq hi hone hone2
            go_wp2_with (first | (go_at_call 22; refine (cut_hit _ b c _ Ht.out Hbc.out Hb.out).mono ?_; rintro e w' ⟨rfl, nn, rfl⟩) | (go_at_call 14; refine (Hone.out _).mono ?_; rintro e w' ⟨rfl, rfl⟩) | (go_at_call 20; refine (has_any _ _ _ ha hpw).mono ?_; rintro e w' ⟨rfl, rfl⟩))
            go_roundw
            case rel => exact ⟨c, a ||| q, true, rfl, rfl, rfl, hol, Nat.le_trans (Nat.le_of_lt Hlt.out) Ht.out, Hw2.out _, Hfin.out⟩
            case measure => have := Hlt.out; simp; omega
          · have hhas : hasB a (2 ^ i) = true := by rw [hasB_bit, htb]
            have Hfin := Lib.hid (Hq.out.symm.trans (pars_twice _ _ _ _ hix htb))
            obtain ⟨q, hq⟩ : ∃ q, q = 2 ^ i := ⟨_, rfl⟩
            have HQ := Lib.hid hq
            have hone : ∀ n, Calls Tryd.prog 14 #[.pointer (some p), .string b] (wr.drewN n) fun e w' => e = .returned (.tuple #[.int .u16 ((2 ^ i : Nat) : Int), .bool true]) ∧ (wr.drewN n) = w' := fun n => one_some b _ (HN2.out n) p i hix
            rw [← hq] at hhas hpw
            have hone2 := hone
            rw [← hq] at hone2
            have Hone := Lib.hid hone2
            clear hix Hq htb hq hi hone hone2
            go_wp2_with (first | (go_at_call 22; refine (cut_hit _ b c _ Ht.out Hbc.out Hb.out).mono ?_; rintro e w' ⟨rfl, nn, rfl⟩) | (go_at_call 14; refine (Hone.out _).mono ?_; rintro e w' ⟨rfl, rfl⟩) | (go_at_call 20; refine (has_any _ _ _ ha hpw).mono ?_; rintro e w' ⟨rfl, rfl⟩))
            go_ret2
            rw [Hfin.out]
            exact ⟨rfl, Hw2.out _⟩
theorem parse_nil (s : ByteArray) (w : World) : Calls Tryd.prog 10 #[.pointer none, .string s] w fun e w' =>
    e = .returned (.tuple #[.int .u16 0, .int .i64 201]) ∧ w = w' := by
  go_enter Tryd.func10, Tryd.ntmps10
  go_wp2_with fail
  go_ret2
  exact ⟨rfl, rfl⟩
end Go.Proofs.YtpglioibdhcjkaaDoor
