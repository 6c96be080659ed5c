/- Look; may; full; what is known of names' maps. -/
import Derived.Test.YtdlglllidolggaaInN
namespace Go.Proofs.Ytdlglllidolggaa.In
open Go.RowKit Go.Maps Go.WideMaps
theorem strKeyed : Keyed Try.prog 9 := string_keyed Try.underlying9
theorem zeroNum (w : World) : (zeroValue 29).run Try.prog w = .ok (.int .u16 0) w := by kernel_rfl
theorem keyStr {s : ByteArray} (hs : s.size ≤ maxLen) : keyOf Try.prog 9 (.string s) = some (.string s.data.toList) := keyOf_string_mk Try.underlying9 hs
/-- What a look into a directory's names gives. -/
theorem at_num {L : Es} {s : Bs} {c : Int} (h : (nD L).atKey (.string s) (.lit (.int .u16 0)) = .lit (.int .u16 c)) : c = ((lk s L).getD 0 : Nat) := by
  rw [nD_at] at h
  cases hl : lk s L with
  | none => rw [hl] at h; simp at h; simp [← h]
  | some n => rw [hl] at h; simp at h; simp [← h]
section
variable {w : World} {B tb A : Nat} {T : TrM} {nb mb : Nat → Nat}
theorem ndN (h : TabR w B tb T A nb mb) {n : Nat} (h2 : (T.nd n).kd = 2) : w.cell? ⟨nb n, 3, none⟩ = some (.map (some (mb n))) := by
  have := (h.node n (by rw [h2]; decide)).c 3 (mvOf (T.nd n).kd (mb n)) rfl (by decide)
  rw [this]; unfold mvOf; rw [if_pos h2]
theorem ndN0 (h : TabR w B tb T A nb mb) {n : Nat} (hk : (T.nd n).kd ≠ 0) (h2 : (T.nd n).kd ≠ 2) : w.cell? ⟨nb n, 3, none⟩ = some (.map none) := by
  have := (h.node n hk).c 3 (mvOf (T.nd n).kd (mb n)) rfl (by decide)
  rw [this]; unfold mvOf; rw [if_neg h2]
theorem ndL (h : TabR w B tb T A nb mb) {n : Nat} (hk : (T.nd n).kd ≠ 0) : w.cell? ⟨nb n, 6, none⟩ = some (.int .i64 (T.nd n).links) := (h.node n hk).c 6 _ rfl (by decide)
theorem ndH (h : TabR w B tb T A nb mb) {n : Nat} (hk : (T.nd n).kd ≠ 0) : w.cell? ⟨nb n, 7, none⟩ = some (.int .i64 (T.nd n).held) := (h.node n hk).c 7 _ rfl (by decide)
theorem ndP (h : TabR w B tb T A nb mb) {n : Nat} (hk : (T.nd n).kd ≠ 0) : w.cell? ⟨nb n, 4, none⟩ = some (.int .u16 (T.nd n).par) := (h.node n hk).c 4 _ rfl (by decide)
theorem nd0 (h : TabR w B tb T A nb mb) {n : Nat} (hk : (T.nd n).kd ≠ 0) : w.cell? ⟨nb n, 0, none⟩ = some (.int .u16 n) := (h.node n hk).c 0 _ rfl (by decide)
set_option maxHeartbeats 1000000 in
theorem look_any (h : TabR w B tb T A nb mb) {n : Nat} (hn : n ≤ 65535) (s : ByteArray) (hs : s.size ≤ maxLen) :
    Calls Try.prog 24 #[tP tb, .int .u16 n, .string s] w fun e w' => e = .returned (.tuple #[.int .u16 (lookF T n s.data.toList).1, .int .i64 (lookF T n s.data.toList).2]) ∧ w = w' := by
  by_cases h0 : (T.nd n).kd = 0
  · rw [show lookF T n s.data.toList = (0, 2) from by unfold lookF dirE; simp [h0]]
    go_enter Try.func24, Try.ntmps24
    go_wp2_with (refine (dir_none h hn h0).mono ?_; rintro e w' ⟨rfl, rfl⟩)
    go_ret2
    exact ⟨rfl, rfl⟩
  by_cases h2 : (T.nd n).kd = 2
  · have hd := dir_yes h h2
    have hown := (h.node n h0).names h2
    have hc := ndN h h2
    obtain ⟨q, hq⟩ : ∃ q, q = lk s.data.toList (T.nd n).L := ⟨_, rfl⟩
    have Hf := Lib.hid (show lookF T n s.data.toList = lookR q from by unfold lookF dirE; rw [if_neg h0, if_pos h2, if_pos rfl, ← hq])
    have hhas : has (nD (T.nd n).L) (.string s.data.toList) = q.isSome := by rw [nD_has, hq]
    have Hq := Lib.hid hq
    have Hh := Lib.hid hhas
    clear hq hhas h0 h2
    rcases q with _ | k
    · go_enter Try.func24, Try.ntmps24
      go_wp2_with (first | (refine hd.mono ?_; rintro e w' ⟨rfl, rfl⟩) | (at_lookup; refine wpList_lookup_own_ok_int _ rfl _ _ 81 rfl 9 29 .u16 strKeyed Try.underlying81 Try.underlying29 (zeroNum _) _ _ _ rfl hown _ _ rfl (keyStr hs) ?_; intro c hat hwc; rw [Hh.out]; clear hat hwc))
      go_ret2
      exact ⟨by rw [Hf.out]; rfl, rfl⟩
    · go_enter Try.func24, Try.ntmps24
      go_wp2_with (first | (refine hd.mono ?_; rintro e w' ⟨rfl, rfl⟩) | (at_lookup; refine wpList_lookup_own_ok_int _ rfl _ _ 81 rfl 9 29 .u16 strKeyed Try.underlying81 Try.underlying29 (zeroNum _) _ _ _ rfl hown _ _ rfl (keyStr hs) ?_; intro c hat hwc; rw [Hh.out]; have HC := Lib.hid (at_num hat); clear hat hwc))
      go_ret2
      have hcc := HC.out
      rw [← Hq.out] at hcc
      exact ⟨by rw [Hf.out, hcc]; rfl, rfl⟩
  · rw [show lookF T n s.data.toList = (0, 20) from by unfold lookF dirE; simp [h0, h2]]
    go_enter Try.func24, Try.ntmps24
    go_wp2_with (refine (dir_no h h0 h2).mono ?_; rintro e w' ⟨rfl, rfl⟩)
    go_ret2
    exact ⟨rfl, rfl⟩
theorem look_nil (w : World) (n : Int) (s : ByteArray) : Calls Try.prog 24 #[.pointer none, .int .u16 n, .string s] w fun e w' => e = .returned (.tuple #[.int .u16 0, .int .i64 2]) ∧ w = w' := by
  go_enter Try.func24, Try.ntmps24
  go_wp2_with (refine (dir_nil w n).mono ?_; rintro e w' ⟨rfl, rfl⟩)
  go_ret2
  exact ⟨rfl, rfl⟩
theorem full_any (h : TabR w B tb T A nb mb) {n : Nat} (h2 : (T.nd n).kd = 2) :
    Calls Try.prog 51 #[tP (nb n)] w fun e w' => e = .returned (.bool (decide (32 ≤ (T.nd n).L.length))) ∧ w = w' := by
  have hown := (h.node n (by rw [h2]; decide)).names h2
  have hc := ndN h h2
  have hsz := nD_size (T.nd n).L
  obtain ⟨D, hD⟩ : ∃ D, D = nD (T.nd n).L := ⟨_, rfl⟩
  unfold NMp at hown
  rw [← hD] at hown hsz
  have Hs := Lib.hid hsz
  obtain ⟨k, hk⟩ : ∃ k, k = Maps.size D := ⟨_, rfl⟩
  have Hk := Lib.hid hk
  clear hsz hD h2 h hk
  go_enter Try.func51, Try.ntmps51
  go_wp2_with (at_len; refine wpList_len_own _ rfl _ 81 rfl 9 29 Try.underlying81 _ _ _ _ rfl hown ?_; rw [← Hk.out])
  go_ret
  refine ⟨?_, rfl⟩
  rw [← Hs.out, ← Hk.out]
  by_cases hl : 32 ≤ k
  · have e2 : (32 : Int) ≤ (k : Int) := by omega
    simp [hl, e2]
  · have e2 : ¬ (32 : Int) ≤ (k : Int) := by omega
    simp [hl, e2]
end
set_option maxHeartbeats 1000000 in
theorem may_any (w : World) (k : Nat) (hk : k ≤ 255) (s : ByteArray) (hs : s.size ≤ maxLen) : Calls Try.prog 38 #[.int .u8 k, .string s] w fun e w' => e = .returned (.bool (mayB k s)) ∧ w = w' := by
  unfold maxLen at hs
  have hmb : mayB k s = decide (k = 1 ∨ k = 2 ∨ k = 3 ∧ 1 ≤ s.size ∧ s.size ≤ 120) := rfl
  by_cases h1 : k = 1
  · subst h1
    rw [hmb, decide_eq_true (.inl rfl)]
    clear hmb
    go_enter Try.func38, Try.ntmps38
    go_wp2
    go_ret
    exact ⟨rfl, rfl⟩
  by_cases h2 : k = 2
  · subst h2
    rw [hmb, decide_eq_true (.inr (.inl rfl))]
    clear hmb h1
    go_enter Try.func38, Try.ntmps38
    go_wp2
    go_ret
    exact ⟨rfl, rfl⟩
  by_cases h3 : k = 3
  · subst h3
    clear h1 h2
    by_cases h0 : s.size = 0
    · obtain rfl : s = ByteArray.empty := ByteArray.size_eq_zero_iff.1 h0
      rw [hmb, decide_eq_false (by simp)]
      clear hmb h0 hs
      go_enter Try.func38, Try.ntmps38
      go_wp2
      go_ret
      exact ⟨rfl, rfl⟩
    have hE : s.toList.isEmpty = false := by
      rw [ByteArray.toList_eq]
      cases h : s.data.toList with
      | nil => exact absurd (show s.size = 0 from congrArg List.length h) h0
      | cons a l => rfl
    have hE2 : ¬ s.toList = [] := by intro h; rw [h] at hE; simp at hE
    have hE3 : (s.toList != []) = true := by simpa using hE2
    by_cases hl : s.size ≤ 120
    · rw [hmb, decide_eq_true (.inr (.inr ⟨rfl, by omega, hl⟩))]
      have hl2 : (s.size : Int) ≤ 120 := by omega
      clear hmb h0
      go_enter Try.func38, Try.ntmps38
      go_wp2
      go_ret
      exact ⟨rfl, rfl⟩
    · rw [hmb, decide_eq_false (by omega)]
      have hl2 : ¬ (s.size : Int) ≤ 120 := by omega
      clear hmb h0
      go_enter Try.func38, Try.ntmps38
      go_wp2
      go_ret
      exact ⟨rfl, rfl⟩
  · rw [hmb, decide_eq_false (by omega)]
    have e1 : ((k : Int) == 1) = false := by simp; omega
    have e2 : ((k : Int) == 2) = false := by simp; omega
    have e3 : ((k : Int) == 3) = false := by simp; omega
    clear hmb h1 h2 h3
    go_enter Try.func38, Try.ntmps38
    go_wp2
    go_ret
    exact ⟨rfl, rfl⟩
end Go.Proofs.Ytdlglllidolggaa.In
