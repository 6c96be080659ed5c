/- The document's own reading of a text as rights: byte by byte. -/
import Derived.Test.YtpglioibdhcjkaaDoorRef
namespace Go.Proofs.YtpglioibdhcjkaaDoor
open Go.RowKit

theorem or_add (a i : Nat) (h : a.testBit i = false) : a ||| 2 ^ i = a + 2 ^ i := by
  have h2 : a % 2 ^ (i + 1) = a % 2 ^ i := by
    rw [Nat.pow_succ, Nat.mod_mul]
    rw [Nat.testBit_eq_decide_div_mod_eq] at h
    have : a / 2 ^ i % 2 = 0 := by simp at h; omega
    rw [this]; omega
  have hr : a % 2 ^ (i + 1) < 2 ^ i := by rw [h2]; exact Nat.mod_lt _ (Nat.pow_pos (by omega))
  have hr2 : a % 2 ^ (i + 1) < 2 ^ (i + 1) := Nat.mod_lt _ (Nat.pow_pos (by omega))
  have e := Nat.div_add_mod a (2 ^ (i + 1))
  generalize a / 2 ^ (i + 1) = q at e
  generalize a % 2 ^ (i + 1) = r at e hr hr2
  have e1 := Nat.two_pow_add_eq_or_of_lt hr2 q
  have e2 := Nat.two_pow_add_eq_or_of_lt hr 1
  have e3 : 2 ^ i * 1 + r < 2 ^ (i + 1) := by rw [Nat.pow_succ]; omega
  have e4 := Nat.two_pow_add_eq_or_of_lt e3 q
  rw [← e, e1, Nat.or_assoc, Nat.or_comm r, show (2 : Nat) ^ i = 2 ^ i * 1 from by omega, ← e2, ← e4, ← e1]
  omega
theorem words_comma (l r : List UInt8) (h : (44 : UInt8) ∉ l) : words (l ++ 44 :: r) = l :: words r := by
  have hall : ∀ c ∈ l, (decide (c ≠ 44)) = true := fun c hc => by simp; intro e; subst e; exact h hc
  rw [words_cut, if_pos (by simp), List.takeWhile_append_of_pos hall, List.dropWhile_append_of_pos hall]
  simp
theorem words_end (l : List UInt8) (h : (44 : UInt8) ∉ l) : words l = [l] := by rw [words_cut, if_neg h]
theorem nm_ne_nil : ∀ k, k < 13 → nm (bt k) ≠ [] := by decide
theorem bt_inj : ∀ k, k < 13 → ∀ j, j < 13 → nm (bt k) = nm (bt j) → k = j := by decide
/-- What the look-through has found among the first k. -/
def Fd (l : List UInt8) (k : Nat) (v : Int) : Prop := ((∀ j, j < k → nm (bt j) ≠ l) ∧ v = -1) ∨ ∃ j, j < k ∧ nm (bt j) = l ∧ v = bt j
theorem Fd_hit (l : List UInt8) (k : Nat) (h : nm (bt k) = l) : Fd l (k + 1) (bt k) := .inr ⟨k, by omega, h, rfl⟩
theorem Fd_miss (l : List UInt8) (k : Nat) (v : Int) (h : nm (bt k) ≠ l) (f : Fd l k v) : Fd l (k + 1) v := by
  rcases f with ⟨h1, h2⟩ | ⟨j, h1, h2, h3⟩
  · exact .inl ⟨fun j hj => by
      by_cases e : j = k
      · subst e; exact h
      · exact h1 j (by omega), h2⟩
  · exact .inr ⟨j, by omega, h2, h3⟩
theorem bt_all : ∀ i ∈ nbits, ∃ k, k < 13 ∧ bt k = i := by decide
theorem Fd_end (l : List UInt8) (v : Int) (f : Fd l 13 v) : (idx l = none ∧ v = -1) ∨ ∃ i, idx l = some i ∧ i < 16 ∧ v = i := by
  rcases f with ⟨h1, h2⟩ | ⟨j, h1, h2, h3⟩
  · left
    refine ⟨?_, h2⟩
    cases e : idx l with
    | none => rfl
    | some i =>
      obtain ⟨hi, hl⟩ := idx_some e
      obtain ⟨k, hk, rfl⟩ := bt_all i hi
      exact absurd hl (h1 k hk)
  · right
    exact ⟨bt j, by rw [← h2]; exact idx_of (bt_mem j h1), bt_lt j h1, h3⟩

theorem one_byte (w : World) (c : UInt8) : (convert 55 9 (.slice (some ⟨w.heap.size, 0, none⟩) 1 1)).run Tryd.prog (w.alloc (.cells #[.int .u8 (c.toNat : Int)] 5)) = .ok (.string ⟨#[c]⟩) (w.alloc (.cells #[.int .u8 (c.toNat : Int)] 5)) := by
  have h := run_convert_bytes_arg (P := Tryd.prog) (w := w.alloc (.cells #[.int .u8 (c.toNat : Int)] 5)) 55 5 Tryd.underlying55 Tryd.underlying5 w.heap.size 0 1 1 [(c.toNat : Int)] rfl
    (fun i hi => by obtain rfl : i = 0 := by omega
                    simp) 9 Tryd.underlying9
  rw [h]
  congr 2
  simp [strOfNums]
/-- The state behind i bytes: the set, the word that is being read. -/
def At (l : List UInt8) (R : Nat × Nat) (i a : Nat) (wd : List UInt8) : Prop :=
  (i ≤ l.length ∧ (44 : UInt8) ∉ wd ∧ wd.length ≤ i ∧ pars a (words (wd ++ l.drop i)) = R) ∨ (i = l.length + 1 ∧ R = (a, 0) ∧ wd = [])
theorem At_start (l : List UInt8) : At l (pars 0 (words l)) 0 0 [] := .inl ⟨by omega, by simp, by simp, by simp⟩
theorem At_byte {l : List UInt8} {R : Nat × Nat} {i a : Nat} {wd : List UInt8} (h : At l R i a wd) (hi : i < l.length) (c : UInt8) (hc : l[i]? = some c) (h2 : c ≠ 44) : At l R (i + 1) a (wd ++ [c]) := by
  rcases h with ⟨h1, hw, hl, hp⟩ | ⟨h1, _⟩
  · refine .inl ⟨by omega, ?_, by simp; omega, ?_⟩
    · simp [hw]; exact fun e => h2 e.symm
    · rw [← hp, List.drop_eq_getElem_cons hi]
      rw [List.getElem?_eq_getElem hi] at hc
      cases hc
      simp
  · omega
/-- Where a word ends. -/
def Ends (l : List UInt8) (i : Nat) : Prop := i = l.length ∨ l[i]? = some 44
theorem At_words {l : List UInt8} {R : Nat × Nat} {i a : Nat} {wd : List UInt8} (h : At l R i a wd) (hi : i ≤ l.length) (he : Ends l i) :
    ∃ r, pars a (wd :: r) = R ∧ ∀ a', pars a' r = R → At l R (i + 1) a' [] := by
  rcases h with ⟨h1, hw, hl, hp⟩ | ⟨h1, _⟩
  · by_cases e : i = l.length
    · subst e
      rw [List.drop_length, List.append_nil, words_end _ hw] at hp
      exact ⟨[], hp, fun a' h => .inr ⟨rfl, h.symm, rfl⟩⟩
    · have hlt : i < l.length := by omega
      have hc : l[i]? = some 44 := he.resolve_left e
      rw [List.getElem?_eq_getElem hlt] at hc
      rw [List.drop_eq_getElem_cons hlt, Option.some.inj hc, words_comma _ _ hw] at hp
      exact ⟨_, hp, fun a' h => .inl ⟨by omega, by simp, by simp, by simpa using h⟩⟩
  · omega

set_option maxRecDepth 100000 in
set_option maxHeartbeats 1000000 in
theorem refParse_any (s : ByteArray) (w : World) (hm : s.size ≤ 200) : Calls Tryd.prog 11 #[.string s] w fun e w' =>
    e = .returned (.tuple #[.int .i64 ((pars 0 (words s.data.toList)).1 : Nat), .int .i64 ((pars 0 (words s.data.toList)).2 : Nat)]) ∧ Below w.heap.size w w' := by
  obtain ⟨R, hR⟩ : ∃ R, R = pars 0 (words s.data.toList) := ⟨_, rfl⟩
  rw [← hR]
  have HR := Lib.hid hR
  clear hR
  have Hsz := Lib.hid (Lib.size_eq s)
  go_enter Tryd.func11, Tryd.ntmps11
  go_wp2_with fail
  go_loopw [4, 5, 6] (fun av sv iv wr => ∃ (a i : Nat) (t : ByteArray), av = .int .i64 a ∧ sv = .string t ∧ iv = .int .i64 i ∧ a < 65536 ∧ i ≤ s.size + 1 ∧ Hid (At s.data.toList R i a t.data.toList) ∧ Hid (Below w.heap.size w wr)) (fun _ _ iv _ => s.size + 1 - (intOf iv).toNat)
  case atStart => exact ⟨0, 0, ByteArray.empty, rfl, rfl, rfl, by omega, by omega, by rw [HR.out]; exact At_start _, Below.refl _ _⟩
  case round =>
    obtain ⟨a, i, t, rfl, rfl, rfl, ha, hi, Hat, Hb⟩ := hrel
    have hbw : w.heap.size ≤ wr.heap.size := Hb.out.size
    by_cases hle : i ≤ s.size
    · by_cases hcase : ∃ h : i < s.size, (s[i]'h) ≠ 44
      · obtain ⟨hlt, hne⟩ := hcase
        have hne2 : (((s[i]'hlt).toNat : Int) != 44) = true := by
          simp
          intro e
          exact hne (UInt8.toNat_inj.1 (by rw [show (44 : UInt8).toNat = 44 from rfl]; omega))
        have Hnext := Lib.hid (At_byte Hat.out (by rw [← Lib.size_eq]; exact hlt) (s[i]'hlt) (Lib.data_getElem? s i hlt) hne)
        have hts : t.size ≤ 201 := by
          rw [Lib.size_eq]
          rcases Hat.out with ⟨_, _, h, _⟩ | ⟨_, _, h⟩
          · omega
          · rw [h]; simp
        clear hne
        have hconv := one_byte wr (s[i]'hlt)
        go_wp2_with fail
        go_roundw
        case rel => exact ⟨a, i + 1, t ++ ⟨#[s[i]'hlt]⟩, rfl, rfl, by go_num, ha, by omega, by rw [show (t ++ ⟨#[s[i]'hlt]⟩).data.toList = t.data.toList ++ [s[i]'hlt] by simp]; exact Hnext, Hb.out.alloc hbw _⟩
        case measure => simp [intOf]; omega
      · have Hends := Lib.hid (show Ends s.data.toList i by
          by_cases e : i = s.size
          · left; rw [e, Lib.size_eq]
          · right
            have hlt : i < s.size := by omega
            rw [Lib.data_getElem? s i hlt]
            by_cases e2 : (s[i]'hlt) = 44
            · rw [e2]
            · exact absurd ⟨hlt, e2⟩ hcase)
        obtain ⟨r, hr, hr2⟩ := At_words Hat.out (by rw [← Lib.size_eq]; exact hle) Hends.out
        have Hr := Lib.hid hr
        have Hr2 := Lib.hid hr2
        have hends : (i = s.size ∧ (i : Int) = (s.size : Int)) ∨ ∃ hlt : i < s.size, (((s[i]'hlt).toNat : Int) != 44) = false := by
          by_cases e : i = s.size
          · exact .inl ⟨e, by omega⟩
          · right
            have hlt : i < s.size := by omega
            refine ⟨hlt, ?_⟩
            by_cases e2 : (s[i]'hlt) = 44
            · rw [e2]; rfl
            · exact absurd ⟨hlt, e2⟩ hcase
        have hts : t.size ≤ 201 := by
          rw [Lib.size_eq]
          rcases Hat.out with ⟨_, _, h, _⟩ | ⟨_, _, h⟩
          · omega
          · rw [h]; simp
        clear hr hr2 hcase Hends
        rcases hends with ⟨hieq, _⟩ | ⟨hlt, h44⟩
        · have Hie := Lib.hid hieq
          have hnlt : ¬ i < s.size := by omega
          clear hieq
          go_wp2_with (go_at_call 15; refine (ref_rights _).mono ?_; rintro e w1 ⟨rfl, rfl⟩)
          go_loop [7, 9] (fun bv kv => ∃ (k : Nat) (v : Int), k ≤ 13 ∧ kv = .int .i64 k ∧ bv = .int .i64 v ∧ Hid (Fd t.data.toList k v)) (fun _ kv => 13 - (intOf kv).toNat)
          case atStart => exact ⟨0, -1, by omega, rfl, rfl, .inl ⟨fun j hj => absurd hj (by omega), rfl⟩⟩
          case round =>
            obtain ⟨k, v, hk, rfl, rfl, Hf⟩ := hrel
            by_cases hkl : k < 13
            · have s0 := ref_at0 k hkl
              have s1 := ref_at1 k hkl
              by_cases heq : nm (bt k) = t.data.toList
              · have Hf2 := Lib.hid (Fd_hit _ k heq)
                obtain ⟨b, hbe⟩ : ∃ b, b = bt k := ⟨_, rfl⟩
                rw [← hbe] at s0 s1 heq Hf2
                have hb : ((ns b).toList == t.toList) = true := by rw [toList_data, toList_data, ← heq]; simp [ns]
                have hb2 : (nm b == t.toList) = true := by rw [toList_data, ← heq]; simp
                clear hbe heq
                go_wp2_with fail
                go_round
                case rel => exact ⟨k + 1, b, by omega, by go_num, rfl, Hf2⟩
                case measure => simp [intOf]; omega
              · have Hf2 := Lib.hid (Fd_miss _ k v heq Hf.out)
                obtain ⟨b, hbe⟩ : ∃ b, b = bt k := ⟨_, rfl⟩
                rw [← hbe] at s0 s1 heq
                have hb : ((ns b).toList == t.toList) = false := by rw [toList_data, toList_data]; simpa [ns] using heq
                have hb2 : (nm b == t.toList) = false := by rw [toList_data]; simpa using heq
                have Hq := Lib.hid heq
                clear hbe heq
                go_wp2_with fail
                go_round
                case rel => exact ⟨k + 1, v, by omega, by go_num, rfl, Hf2⟩
                case measure => simp [intOf]; omega
            · obtain rfl : k = 13 := by omega
              rcases Fd_end _ _ Hf.out with ⟨hix, rfl⟩ | ⟨b, hix, hb, rfl⟩
              · have Hend := Lib.hid (Hr.out.symm.trans (pars_none _ _ _ hix))
                clear hix
                go_wp2_with fail
                go_ret2
                rw [Hend.out]
                exact ⟨rfl, Hb.out.alloc hbw _⟩
              · have hb2 : b ≤ 15 := by omega
                have hpw := pow_lt b hb
                cases htb : a.testBit b
                · have hadd := or_add a b htb
                  have hol := bit_or_lt a b ha hb
                  have Hnx := Lib.hid (Hr2.out _ ((pars_go _ _ _ _ hix htb).symm.trans Hr.out))
                  rw [hadd] at hol Hnx
                  have hpc : ∀ w, Calls Tryd.prog 23 #[.int .i64 b] w fun e w' => e = .returned (.int .i64 ((2 ^ b : Nat) : Int)) ∧ w = w' := fun w => power_any b w (by omega)
                  have hhc : ∀ w, Calls Tryd.prog 16 #[.int .i64 a, .int .i64 b] w fun e w' => e = .returned (.bool false) ∧ w = w' := fun w => by have := refHas_any a b w ha hb2; rw [htb] at this; exact this
                  obtain ⟨q, hq⟩ : ∃ q, q = 2 ^ b := ⟨_, rfl⟩
                  rw [← hq] at hol Hnx hpc hpw
                  have Hq := Lib.hid hq
                  clear hix hq hadd htb
                  go_wp2_with (first | (go_at_call 16; refine (hhc _).mono ?_; rintro e w' ⟨rfl, rfl⟩) | (go_at_call 23; refine (hpc _).mono ?_; rintro e w' ⟨rfl, rfl⟩))
                  go_roundw
                  case rel => exact ⟨a + q, i + 1, ByteArray.empty, by go_num, rfl, by go_num, hol, by omega, Hnx, Hb.out.alloc hbw _⟩
                  case measure => simp [intOf]; omega
                · have Hend := Lib.hid (Hr.out.symm.trans (pars_twice _ _ _ _ hix htb))
                  have hhc : ∀ w, Calls Tryd.prog 16 #[.int .i64 a, .int .i64 b] w fun e w' => e = .returned (.bool true) ∧ w = w' := fun w => by have := refHas_any a b w ha hb2; rw [htb] at this; exact this
                  clear hix htb
                  go_wp2_with (first | (go_at_call 16; refine (hhc _).mono ?_; rintro e w' ⟨rfl, rfl⟩))
                  go_ret2
                  rw [Hend.out]
                  exact ⟨rfl, Hb.out.alloc hbw _⟩
        · go_wp2_with (go_at_call 15; refine (ref_rights _).mono ?_; rintro e w1 ⟨rfl, rfl⟩)
          go_loop [7, 9] (fun bv kv => ∃ (k : Nat) (v : Int), k ≤ 13 ∧ kv = .int .i64 k ∧ bv = .int .i64 v ∧ Hid (Fd t.data.toList k v)) (fun _ kv => 13 - (intOf kv).toNat)
          case atStart => exact ⟨0, -1, by omega, rfl, rfl, .inl ⟨fun j hj => absurd hj (by omega), rfl⟩⟩
          case round =>
            obtain ⟨k, v, hk, rfl, rfl, Hf⟩ := hrel
            by_cases hkl : k < 13
            · have s0 := ref_at0 k hkl
              have s1 := ref_at1 k hkl
              by_cases heq : nm (bt k) = t.data.toList
              · have Hf2 := Lib.hid (Fd_hit _ k heq)
                obtain ⟨b, hbe⟩ : ∃ b, b = bt k := ⟨_, rfl⟩
                rw [← hbe] at s0 s1 heq Hf2
                have hb : ((ns b).toList == t.toList) = true := by rw [toList_data, toList_data, ← heq]; simp [ns]
                have hb2 : (nm b == t.toList) = true := by rw [toList_data, ← heq]; simp
                clear hbe heq
                go_wp2_with fail
                go_round
                case rel => exact ⟨k + 1, b, by omega, by go_num, rfl, Hf2⟩
                case measure => simp [intOf]; omega
              · have Hf2 := Lib.hid (Fd_miss _ k v heq Hf.out)
                obtain ⟨b, hbe⟩ : ∃ b, b = bt k := ⟨_, rfl⟩
                rw [← hbe] at s0 s1 heq
                have hb : ((ns b).toList == t.toList) = false := by rw [toList_data, toList_data]; simpa [ns] using heq
                have hb2 : (nm b == t.toList) = false := by rw [toList_data]; simpa using heq
                have Hq := Lib.hid heq
                clear hbe heq
                go_wp2_with fail
                go_round
                case rel => exact ⟨k + 1, v, by omega, by go_num, rfl, Hf2⟩
                case measure => simp [intOf]; omega
            · obtain rfl : k = 13 := by omega
              rcases Fd_end _ _ Hf.out with ⟨hix, rfl⟩ | ⟨b, hix, hb, rfl⟩
              · have Hend := Lib.hid (Hr.out.symm.trans (pars_none _ _ _ hix))
                clear hix
                go_wp2_with fail
                go_ret2
                rw [Hend.out]
                exact ⟨rfl, Hb.out.alloc hbw _⟩
              · have hb2 : b ≤ 15 := by omega
                have hpw := pow_lt b hb
                cases htb : a.testBit b
                · have hadd := or_add a b htb
                  have hol := bit_or_lt a b ha hb
                  have Hnx := Lib.hid (Hr2.out _ ((pars_go _ _ _ _ hix htb).symm.trans Hr.out))
                  rw [hadd] at hol Hnx
                  have hpc : ∀ w, Calls Tryd.prog 23 #[.int .i64 b] w fun e w' => e = .returned (.int .i64 ((2 ^ b : Nat) : Int)) ∧ w = w' := fun w => power_any b w (by omega)
                  have hhc : ∀ w, Calls Tryd.prog 16 #[.int .i64 a, .int .i64 b] w fun e w' => e = .returned (.bool false) ∧ w = w' := fun w => by have := refHas_any a b w ha hb2; rw [htb] at this; exact this
                  obtain ⟨q, hq⟩ : ∃ q, q = 2 ^ b := ⟨_, rfl⟩
                  rw [← hq] at hol Hnx hpc hpw
                  have Hq := Lib.hid hq
                  clear hix hq hadd htb
                  go_wp2_with (first | (go_at_call 16; refine (hhc _).mono ?_; rintro e w' ⟨rfl, rfl⟩) | (go_at_call 23; refine (hpc _).mono ?_; rintro e w' ⟨rfl, rfl⟩))
                  go_roundw
                  case rel => exact ⟨a + q, i + 1, ByteArray.empty, by go_num, rfl, by go_num, hol, by omega, Hnx, Hb.out.alloc hbw _⟩
                  case measure => simp [intOf]; omega
                · have Hend := Lib.hid (Hr.out.symm.trans (pars_twice _ _ _ _ hix htb))
                  have hhc : ∀ w, Calls Tryd.prog 16 #[.int .i64 a, .int .i64 b] w fun e w' => e = .returned (.bool true) ∧ w = w' := fun w => by have := refHas_any a b w ha hb2; rw [htb] at this; exact this
                  clear hix htb
                  go_wp2_with (first | (go_at_call 16; refine (hhc _).mono ?_; rintro e w' ⟨rfl, rfl⟩))
                  go_ret2
                  rw [Hend.out]
                  exact ⟨rfl, Hb.out.alloc hbw _⟩
    · obtain rfl : i = s.size + 1 := by omega
      have Hend : Hid (R = (a, 0)) := by
        rcases Hat.out with ⟨h, _⟩ | ⟨_, h, _⟩
        · rw [← Lib.size_eq] at h; omega
        · exact h
      go_wp2_with fail
      go_ret2
      rw [Hend.out]
      exact ⟨rfl, Hb.out⟩
end Go.Proofs.YtpglioibdhcjkaaDoor
