/- Get, dir, Look, may, full. -/
import Derived.Test.YtdlglllidolggaaInC
import Derived.StillTailTactics
import Derived.Outline
import Derived.Deep.RegionWith
import Derived.WalkLawsBesides
namespace Go.Proofs.Ytdlglllidolggaa.In
open Go.RowKit Go.Maps
/-- A table's address; an inode's. -/
abbrev tP (tb : Nat) : Value := .pointer (some ⟨tb, 0, none⟩)
section
variable {w : World} {B tb A : Nat} {T : TrM} {nb mb : Nat → Nat}
theorem TabR.c0 (h : TabR w B tb T A nb mb) : w.cell? ⟨tb, 0, none⟩ = some (.slice (some ⟨A, 0, none⟩) (T.lim + 1) (T.lim + 1)) := h.tab.cell 0 rfl
theorem TabR.c1 (h : TabR w B tb T A nb mb) : w.cell? ⟨tb, 1, none⟩ = some (.int .i64 T.ch) := h.tab.cell 1 rfl
theorem TabR.rowNo (h : TabR w B tb T A nb mb) {n : Nat} (hn : n ≤ T.lim) (hk : (T.nd n).kd = 0) : w.cell? ⟨A, n, none⟩ = some (.pointer none) := h.row.cell n (by rw [row_get T nb hn, if_pos hk])
theorem TabR.rowYes (h : TabR w B tb T A nb mb) {n : Nat} (hk : (T.nd n).kd ≠ 0) : n ≤ T.lim ∧ 1 ≤ n ∧ w.cell? ⟨A, n, none⟩ = some (tP (nb n)) := by
  have h1 : n ≤ T.lim := by
    rcases Nat.lt_or_ge T.lim n with h1 | h1
    · exact absurd (h.out n (.inr h1)) hk
    · exact h1
  have h0 : n ≠ 0 := fun e => hk (h.out n (.inl e))
  exact ⟨h1, by omega, h.row.cell n (by rw [row_get T nb h1, if_neg hk])⟩
set_option maxHeartbeats 1000000 in
theorem get_yes (h : TabR w B tb T A nb mb) {n : Nat} (hk : (T.nd n).kd ≠ 0) :
    Calls Try.prog 25 #[tP tb, .int .u16 n] w fun e w' => e = .returned (tP (nb n)) ∧ w = w' := by
  obtain ⟨h1, h0, hr⟩ := h.rowYes hk
  have hl := h.lim
  have hc := h.c0
  obtain ⟨N, hN⟩ : ∃ N, N = T.lim + 1 := ⟨_, rfl⟩
  rw [← hN] at hc
  have hb1 : n < N := by omega
  have hb2 : N ≤ 300 := by omega
  have hd : decide (N ≤ n) = false := decide_eq_false (by omega)
  clear hN h hk hl
  go_enter Try.func25, Try.ntmps25
  go_wp2
  go_ret
  exact ⟨rfl, rfl⟩
set_option maxHeartbeats 1000000 in
theorem get_no (h : TabR w B tb T A nb mb) {n : Nat} (hn : n ≤ 65535) (hk : (T.nd n).kd = 0) :
    Calls Try.prog 25 #[tP tb, .int .u16 n] w fun e w' => e = .returned (.pointer none) ∧ w = w' := by
  have hl := h.lim
  have hc := h.c0
  obtain ⟨N, hN⟩ : ∃ N, N = T.lim + 1 := ⟨_, rfl⟩
  rw [← hN] at hc
  have hb2 : N ≤ 300 := by omega
  by_cases hlt : n < N
  · have hr := h.rowNo (n := n) (by omega) hk
    have hd : decide (N ≤ n) = false := decide_eq_false (by omega)
    clear hN h hk hl
    go_enter Try.func25, Try.ntmps25
    go_wp2
    go_ret
    exact ⟨rfl, rfl⟩
  · have hd : decide (N ≤ n) = true := decide_eq_true (by omega)
    clear hN h hk hl
    go_enter Try.func25, Try.ntmps25
    go_wp2
    go_ret
    exact ⟨rfl, rfl⟩
theorem get_nil (w : World) (n : Int) : Calls Try.prog 25 #[.pointer none, .int .u16 n] w fun e w' => e = .returned (.pointer none) ∧ w = w' := by
  go_enter Try.func25, Try.ntmps25
  go_wp2
  go_ret
  exact ⟨rfl, rfl⟩
theorem ndK (h : TabR w B tb T A nb mb) {n : Nat} (hk : (T.nd n).kd ≠ 0) : w.cell? ⟨nb n, 1, none⟩ = some (.int .u8 (T.nd n).kd) := (h.node n hk).c 1 _ rfl (by decide)
theorem dir_none (h : TabR w B tb T A nb mb) {n : Nat} (hn : n ≤ 65535) (hk : (T.nd n).kd = 0) :
    Calls Try.prog 45 #[tP tb, .int .u16 n] w fun e w' => e = .returned (.tuple #[.pointer none, .int .i64 2]) ∧ w = w' := by
  go_enter Try.func45, Try.ntmps45
  go_wp2_with (refine (get_no h hn hk).mono ?_; rintro e w' ⟨rfl, rfl⟩)
  go_ret2
  exact ⟨rfl, rfl⟩
theorem dir_no (h : TabR w B tb T A nb mb) {n : Nat} (hk : (T.nd n).kd ≠ 0) (h2 : (T.nd n).kd ≠ 2) :
    Calls Try.prog 45 #[tP tb, .int .u16 n] w fun e w' => e = .returned (.tuple #[.pointer none, .int .i64 20]) ∧ w = w' := by
  have hc := ndK h hk
  have hg := get_yes h hk
  obtain ⟨p, hp⟩ : ∃ p, p = (T.nd n).kd := ⟨_, rfl⟩
  obtain ⟨g, hgg⟩ : ∃ g, g = nb n := ⟨_, rfl⟩
  rw [← hp] at hc h2
  rw [← hgg] at hc hg
  clear hp hgg h hk
  have e1 : ((p : Int) == 2) = false := by simp; omega
  have e2 : ((p : Int) != 2) = true := by simp; omega
  clear h2
  go_enter Try.func45, Try.ntmps45
  go_wp2_with (refine hg.mono ?_; rintro e w' ⟨rfl, rfl⟩)
  go_ret2
  exact ⟨rfl, rfl⟩
theorem dir_yes (h : TabR w B tb T A nb mb) {n : Nat} (h2 : (T.nd n).kd = 2) :
    Calls Try.prog 45 #[tP tb, .int .u16 n] w fun e w' => e = .returned (.tuple #[tP (nb n), .int .i64 0]) ∧ w = w' := by
  have hk : (T.nd n).kd ≠ 0 := by rw [h2]; decide
  have hc := ndK h hk
  have hg := get_yes h hk
  rw [h2] at hc
  clear h h2 hk
  go_enter Try.func45, Try.ntmps45
  go_wp2_with (refine hg.mono ?_; rintro e w' ⟨rfl, rfl⟩)
  go_ret2
  exact ⟨rfl, rfl⟩
theorem dir_nil (w : World) (n : Int) : Calls Try.prog 45 #[.pointer none, .int .u16 n] w fun e w' => e = .returned (.tuple #[.pointer none, .int .i64 2]) ∧ w = w' := by
  go_enter Try.func45, Try.ntmps45
  go_wp2_with (refine (get_nil w n).mono ?_; rintro e w' ⟨rfl, rfl⟩)
  go_ret2
  exact ⟨rfl, rfl⟩
end
end Go.Proofs.Ytdlglllidolggaa.In
