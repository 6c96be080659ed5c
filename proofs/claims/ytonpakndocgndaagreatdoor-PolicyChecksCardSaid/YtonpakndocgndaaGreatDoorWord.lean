/- May a text be a name: the table's own way (by runes), and the document's (by bytes). -/
import Derived.Test.YtonpakndocgndaaGreatDoorProg
import Derived.WalkKit
import Derived.WalkSpells
import Derived.Lib.Hide
import Derived.Laws.RangeString
import Derived.Laws.RangeAny
namespace Go.Proofs.YtonpakndocgndaaGreatDoor
open Go.RowKit

def letterP (c : Nat) : Prop := 97 ≤ c ∧ c ≤ 122
def behindP (c : Nat) : Prop := (48 ≤ c ∧ c ≤ 57) ∨ c = 45 ∨ c = 95
def goodP (i c : Nat) : Prop := letterP c ∨ (i ≠ 0 ∧ behindP c)
/-- One to fourteen bytes, each one good at its place. -/
def wordP (s : ByteArray) : Prop := 1 ≤ s.size ∧ s.size ≤ 14 ∧ ∀ i (h : i < s.size), goodP i (s[i]'h).toNat

theorem letter_yes (c : Int) (w : World) (h : 97 ≤ c) (h2 : c ≤ 122) : Calls Tryz.prog 37 #[.int .i32 c] w fun e w' => e = .returned (.bool true) ∧ w = w' := by
  go_enter Tryz.func37, Tryz.ntmps37
  go_wp2
  go_ret
  exact ⟨rfl, rfl⟩
theorem letter_no (c : Int) (w : World) (h : c < 97 ∨ 122 < c) : Calls Tryz.prog 37 #[.int .i32 c] w fun e w' => e = .returned (.bool false) ∧ w = w' := by
  by_cases h1 : c < 97
  · have : ¬ 97 ≤ c := by omega
    go_enter Tryz.func37, Tryz.ntmps37
    go_wp2
    go_ret
    exact ⟨rfl, rfl⟩
  · have h2 : 97 ≤ c := by omega
    have h3 : ¬ c ≤ 122 := by omega
    clear h
    go_enter Tryz.func37, Tryz.ntmps37
    go_wp2
    go_ret
    exact ⟨rfl, rfl⟩
theorem behind_yes (c : Nat) (w : World) (h : behindP c) : Calls Tryz.prog 38 #[.int .i32 c] w fun e w' => e = .returned (.bool true) ∧ w = w' := by
  rcases h with ⟨h1, h2⟩ | rfl | rfl
  · have h1' : (48 : Int) ≤ (c : Int) := by omega
    have h2' : (c : Int) ≤ 57 := by omega
    go_enter Tryz.func38, Tryz.ntmps38
    go_wp2
    go_ret
    exact ⟨rfl, rfl⟩
  · go_enter Tryz.func38, Tryz.ntmps38
    go_wp2
    go_ret
    exact ⟨rfl, rfl⟩
  · go_enter Tryz.func38, Tryz.ntmps38
    go_wp2
    go_ret
    exact ⟨rfl, rfl⟩
theorem behind_no (c : Nat) (w : World) (h : ¬ behindP c) : Calls Tryz.prog 38 #[.int .i32 c] w fun e w' => e = .returned (.bool false) ∧ w = w' := by
  unfold behindP at h
  have h45 : ((c : Int) == 45) = false := by simp; omega
  have h95 : ((c : Int) == 95) = false := by simp; omega
  by_cases h1 : c < 48
  · have : ¬ (48 : Int) ≤ (c : Int) := by omega
    clear h
    go_enter Tryz.func38, Tryz.ntmps38
    go_wp2
    go_ret
    exact ⟨rfl, rfl⟩
  · have h2 : (48 : Int) ≤ (c : Int) := by omega
    have h3 : ¬ (c : Int) ≤ 57 := by omega
    clear h h1
    go_enter Tryz.func38, Tryz.ntmps38
    go_wp2
    go_ret
    exact ⟨rfl, rfl⟩

def SaysWord (s : ByteArray) (w : World) (e : Ending) (w' : World) : Prop := (∃ b : Bool, e = .returned (.bool b) ∧ (b = true ↔ wordP s)) ∧ Below w.heap.size w w'

set_option maxRecDepth 100000 in
set_option maxHeartbeats 1000000 in
theorem word_any (s : ByteArray) (w : World) (hm : s.size ≤ maxLen) : Calls Tryz.prog 20 #[.string s] w (SaysWord s w) := by
  unfold maxLen at hm
  by_cases h0 : s.size = 0
  · obtain rfl : s = ByteArray.empty := ByteArray.size_eq_zero_iff.1 h0
    have Hf := Lib.hid (show SaysWord ByteArray.empty w (.returned (.bool false)) w from ⟨⟨false, rfl, by simp [wordP]⟩, Below.refl _ _⟩)
    go_enter Tryz.func20, Tryz.ntmps20
    go_wp2
    go_ret
    exact Hf.out
  · have hE : s.toList.isEmpty = false := by
      rw [ByteArray.toList_eq]
      cases h : s.data.toList with
      | nil => exact absurd (show s.size = 0 from congrArg List.length h) h0
      | cons a l => rfl
    have hE2 : ¬ s.toList = [] := by intro h; rw [h] at hE; simp at hE
    by_cases h14 : 14 < s.size
    · have Hf := Lib.hid (show SaysWord s w (.returned (.bool false)) w from ⟨⟨false, rfl, by simp only [wordP]; constructor; (intro h; cases h); (intro h; omega)⟩, Below.refl _ _⟩)
      have h14' : (14 : Int) < (s.size : Int) := by omega
      go_enter Tryz.func20, Tryz.ntmps20
      go_wp2
      go_ret
      exact Hf.out
    · have h14' : ¬ (14 : Int) < (s.size : Int) := by omega
      have Hyes : (∀ i (h : i < s.size), goodP i (s[i]'h).toNat) → ∀ w', Below w.heap.size w w' → SaysWord s w (.returned (.bool true)) w' := fun h w' hb => ⟨⟨true, rfl, by simp only [true_iff]; exact ⟨by omega, by omega, h⟩⟩, hb⟩
      have Hno : (∃ i, ∃ h : i < s.size, ¬ goodP i (s[i]'h).toNat) → ∀ w', Below w.heap.size w w' → SaysWord s w (.returned (.bool false)) w' := fun h w' hb => ⟨⟨false, rfl, by
        obtain ⟨i, hi, hg⟩ := h
        constructor
        · intro h; cases h
        · intro h; exact absurd (h.2.2 i hi) hg⟩, hb⟩
      have Hy := Lib.hid Hyes
      have Hn := Lib.hid Hno
      clear Hyes Hno
      go_enter Tryz.func20, Tryz.ntmps20
      go_wp2
      go_loopw [3] (fun _ w' => ∃ pos : Nat, w' = w.iter s pos ∧ pos ≤ s.size ∧ ∀ i (h : i < s.size), i < pos → goodP i (s[i]'h).toNat) (fun _ w' => s.size - w'.iterPos w.heap.size)
      case atStart => exact ⟨0, rfl, by omega, fun i _ h => absurd h (by omega)⟩
      case round =>
        obtain ⟨pos, rfl, hle, hgood⟩ := hrel
        have Hg := Lib.hid hgood
        clear hgood
        have Hb := Lib.hid (show Below w.heap.size w (w.iter s pos) from (Below.refl _ _).alloc (Nat.le_refl _) _)
        by_cases hp : pos < s.size
        · by_cases ha : (s[pos]'hp).toNat < 128
          · have hnx : ∀ ty, (Instr.next (.pointer (some ⟨w.heap.size, 0, none⟩)) true ty).run Tryz.prog (w.iter s pos) = _ := fun ty => run_next_ascii w s pos ty hp ha
            obtain ⟨c, hc⟩ : ∃ c, c = (s[pos]'hp).toNat := ⟨_, rfl⟩
            rw [← hc] at hnx
            have Hc := Lib.hid hc
            clear hc ha
            have hnext : goodP pos c → Hid (∀ i (h : i < s.size), i < pos + 1 → goodP i (s[i]'h).toNat) := fun hg i hi hlt => by
              by_cases e : i = pos
              · subst e; rw [← Hc.out]; exact hg
              · exact Hg.out i hi (by omega)
            by_cases hl : letterP c
            · have Hx := hnext (.inl hl)
              clear hnext
              go_wp2_with (go_at_call 37; refine (letter_yes _ _ (by have := hl.1; omega) (by have := hl.2; omega)).mono ?_; rintro e w1 ⟨rfl, rfl⟩)
              go_roundw
              case rel => exact ⟨pos + 1, rfl, by omega, Hx.out⟩
              case measure => simp; omega
            · by_cases hz : pos = 0
              · have Hbad := Lib.hid (show ∃ i, ∃ h : i < s.size, ¬ goodP i (s[i]'h).toNat from ⟨pos, hp, by rw [← Hc.out]; unfold goodP; rintro (h | h); exact hl h; exact h.1 hz⟩)
                have hzi : ((pos : Int) == 0) = true := by simp; omega
                have Hz := Lib.hid hz
                clear hnext hz
                go_wp2_with (go_at_call 37; refine (letter_no _ _ (by unfold letterP at hl; omega)).mono ?_; rintro e w1 ⟨rfl, rfl⟩)
                go_ret
                refine Hn.out Hbad.out _ ?_
                exact (Below.refl _ _).alloc (Nat.le_refl _) _
              · have hzi : ((pos : Int) == 0) = false := by simp; omega
                by_cases hbh : behindP c
                · have Hx := hnext (.inr ⟨hz, hbh⟩)
                  clear hnext
                  go_wp2_with (first | (go_at_call 37; refine (letter_no _ _ (by unfold letterP at hl; omega)).mono ?_; rintro e w1 ⟨rfl, rfl⟩) | (go_at_call 38; refine (behind_yes _ _ hbh).mono ?_; rintro e w1 ⟨rfl, rfl⟩))
                  go_roundw
                  case rel => exact ⟨pos + 1, rfl, by omega, Hx.out⟩
                  case measure => simp; omega
                · have Hbad := Lib.hid (show ∃ i, ∃ h : i < s.size, ¬ goodP i (s[i]'h).toNat from ⟨pos, hp, by rw [← Hc.out]; unfold goodP; rintro (h | h); exact hl h; exact hbh h.2⟩)
                  clear hnext
                  go_wp2_with (first | (go_at_call 37; refine (letter_no _ _ (by unfold letterP at hl; omega)).mono ?_; rintro e w1 ⟨rfl, rfl⟩) | (go_at_call 38; refine (behind_no _ _ hbh).mono ?_; rintro e w1 ⟨rfl, rfl⟩))
                  go_ret
                  refine Hn.out Hbad.out _ ?_
                  exact (Below.refl _ _).alloc (Nat.le_refl _) _
          · have hnx : ∀ ty, (Instr.next (.pointer (some ⟨w.heap.size, 0, none⟩)) true ty).run Tryz.prog (w.iter s pos) = _ := fun ty => run_next_any w s pos ty hp
            have hhi := (decode_high s pos hp (by omega)).1
            obtain ⟨c, hc⟩ : ∃ c, c = (Utf8.decode s pos).1 := ⟨_, rfl⟩
            obtain ⟨wd, hwd⟩ : ∃ wd, wd = (Utf8.decode s pos).2 := ⟨_, rfl⟩
            rw [← hc] at hhi
            rw [← hc, ← hwd] at hnx
            have Hbad := Lib.hid (show ∃ i, ∃ h : i < s.size, ¬ goodP i (s[i]'h).toNat from ⟨pos, hp, by unfold goodP letterP behindP; omega⟩)
            have hlc : (c : Int) < 97 ∨ 122 < (c : Int) := by omega
            have hbc : ¬ behindP c := by unfold behindP; omega
            clear hc hwd ha
            by_cases hz : pos = 0
            · have hzi : ((pos : Int) == 0) = true := by simp; omega
              have Hz := Lib.hid hz
              clear hz
              go_wp2_with (go_at_call 37; refine (letter_no _ _ hlc).mono ?_; rintro e w1 ⟨rfl, rfl⟩)
              go_ret
              refine Hn.out Hbad.out _ ?_
              exact (Below.refl _ _).alloc (Nat.le_refl _) _
            · have hzi : ((pos : Int) == 0) = false := by simp; omega
              go_wp2_with (first | (go_at_call 37; refine (letter_no _ _ hlc).mono ?_; rintro e w1 ⟨rfl, rfl⟩) | (go_at_call 38; refine (behind_no _ _ hbc).mono ?_; rintro e w1 ⟨rfl, rfl⟩))
              go_ret
              refine Hn.out Hbad.out _ ?_
              exact (Below.refl _ _).alloc (Nat.le_refl _) _
        · have hnx : ∀ ty, (Instr.next (.pointer (some ⟨w.heap.size, 0, none⟩)) true ty).run Tryz.prog (w.iter s pos) = _ := fun ty => run_next_end w s pos ty hp
          go_wp2
          go_ret
          exact Hy.out (fun i h => Hg.out i h (by omega)) _ Hb.out
end Go.Proofs.YtonpakndocgndaaGreatDoor

