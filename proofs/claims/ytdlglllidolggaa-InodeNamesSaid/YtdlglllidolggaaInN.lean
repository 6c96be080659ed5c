/- May a text be a name: the table's own way, by runes. -/
import Derived.Test.YtdlglllidolggaaInD
import Derived.WalkSpells
import Derived.Laws.RangeString
import Derived.Laws.RangeAny
namespace Go.Proofs.Ytdlglllidolggaa.In
open Go.RowKit
def okB (c : Nat) : Prop := 33 ≤ c ∧ c ≤ 126 ∧ c ≠ 47 ∧ c ≠ 35
/-- All bytes are such. -/
def allB (s : ByteArray) : Prop := ∀ i (h : i < s.size), okB (s[i]'h).toNat
theorem mem_at (s : ByteArray) (c : UInt8) : c ∈ s.data.toList ↔ ∃ i, ∃ h : i < s.size, s[i]'h = c := by
  rw [List.mem_iff_getElem]
  constructor
  · rintro ⟨i, h, e⟩
    exact ⟨i, by simpa using h, by rw [← e]; rfl⟩
  · rintro ⟨i, h, e⟩
    exact ⟨i, by simpa using h, by rw [← e]; rfl⟩
theorem len_size (s : ByteArray) : s.data.toList.length = s.size := by simp
theorem eq_of_list {s t : ByteArray} (h : s.data.toList = t.data.toList) : s = t := by
  cases s; cases t; simp at h; rw [h]
theorem name_of (s : ByteArray) (b : Bool) (h : b = true ↔ (1 ≤ s.size ∧ s.size ≤ 14 ∧ s ≠ ⟨#[46]⟩ ∧ s ≠ ⟨#[46, 46]⟩ ∧ allB s)) : b = nameB s.data.toList := by
  rw [Bool.eq_iff_iff, h]
  unfold nameB
  rw [decide_eq_true_iff, len_size]
  constructor
  · rintro ⟨h1, h2, h3, h4, h5⟩
    refine ⟨h1, h2, fun e => h3 (eq_of_list e), fun e => h4 (eq_of_list e), fun c hc => ?_⟩
    obtain ⟨i, hi, rfl⟩ := (mem_at s c).1 hc
    exact h5 i hi
  · rintro ⟨h1, h2, h3, h4, h5⟩
    exact ⟨h1, h2, fun e => h3 (by rw [e]), fun e => h4 (by rw [e]), fun i hi => h5 _ ((mem_at s _).2 ⟨i, hi, rfl⟩)⟩
def SaysName (s : ByteArray) (w : World) (e : Ending) (w' : World) : Prop := e = .returned (.bool (nameB s.data.toList)) ∧ Below w.heap.size w w'
theorem says_no {s : ByteArray} {w w' : World} (h : ¬ (1 ≤ s.size ∧ s.size ≤ 14 ∧ s ≠ ⟨#[46]⟩ ∧ s ≠ ⟨#[46, 46]⟩ ∧ allB s)) (hb : Below w.heap.size w w') : SaysName s w (.returned (.bool false)) w' :=
  ⟨by rw [← name_of s false ⟨fun e => (by cases e), fun k => absurd k h⟩], hb⟩
theorem says_yes {s : ByteArray} {w w' : World} (h : 1 ≤ s.size ∧ s.size ≤ 14 ∧ s ≠ ⟨#[46]⟩ ∧ s ≠ ⟨#[46, 46]⟩ ∧ allB s) (hb : Below w.heap.size w w') : SaysName s w (.returned (.bool true)) w' :=
  ⟨by rw [← name_of s true ⟨fun _ => h, fun _ => rfl⟩], hb⟩
set_option maxRecDepth 100000 in
set_option maxHeartbeats 1000000 in
theorem name_any (s : ByteArray) (w : World) (hm : s.size ≤ maxLen) : Calls Try.prog 15 #[.string s] w (SaysName s w) := by
  unfold maxLen at hm
  by_cases h0 : s.size = 0
  · obtain rfl : s = ByteArray.empty := ByteArray.size_eq_zero_iff.1 h0
    have Hf := Lib.hid (says_no (s := ByteArray.empty) (w := w) (fun h => by have := h.1; simp at this) (Below.refl _ _))
    go_enter Try.func15, Try.ntmps15
    go_wp2
    go_ret
    exact Hf.out
  have hE : s.toList.isEmpty = false := by
    rw [ByteArray.toList_eq]
    cases h : s.data.toList with
    | nil => exact absurd (show s.size = 0 from congrArg List.length h) h0
    | cons a l => rfl
  have hE2 : ¬ s.toList = [] := by intro h; rw [h] at hE; simp at hE
  by_cases h14 : 14 < s.size
  · have Hf := Lib.hid (says_no (s := s) (w := w) (fun h => by have := h.2.1; omega) (Below.refl _ _))
    have h14' : (14 : Int) < (s.size : Int) := by omega
    go_enter Try.func15, Try.ntmps15
    go_wp2
    go_ret
    exact Hf.out
  have h14' : ¬ (14 : Int) < (s.size : Int) := by omega
  by_cases h1 : s = ⟨#[46]⟩
  · subst h1
    have Hf := Lib.hid (says_no (s := ⟨#[46]⟩) (w := w) (fun h => h.2.2.1 rfl) (Below.refl _ _))
    clear h0 hE hE2 h14 h14'
    go_enter Try.func15, Try.ntmps15
    go_wp2
    go_ret
    exact Hf.out
  by_cases h2 : s = ⟨#[46, 46]⟩
  · subst h2
    have Hf := Lib.hid (says_no (s := ⟨#[46, 46]⟩) (w := w) (fun h => h.2.2.2.1 rfl) (Below.refl _ _))
    clear h0 hE hE2 h14 h14' h1
    go_enter Try.func15, Try.ntmps15
    go_wp2
    go_ret
    exact Hf.out
  have Hy := Lib.hid (fun (h : allB s) w' hb => says_yes (s := s) (w := w) (w' := w') ⟨by omega, by omega, h1, h2, h⟩ hb)
  have Hn := Lib.hid (fun (h : ∃ i, ∃ h : i < s.size, ¬ okB (s[i]'h).toNat) w' hb => says_no (s := s) (w := w) (w' := w') (fun k => by obtain ⟨i, hi, hn⟩ := h; exact hn (k.2.2.2.2 i hi)) hb)
  have q1 : ¬ s.toList = [46] := fun e => h1 (eq_of_list (by rw [← ByteArray.toList_eq]; exact e))
  have q2 : (s.toList == [46]) = false := by simpa using q1
  have q3 : ¬ s.toList = [46, 46] := fun e => h2 (eq_of_list (by rw [← ByteArray.toList_eq]; exact e))
  have q4 : (s.toList == [46, 46]) = false := by simpa using q3
  clear h1 h2
  go_enter Try.func15, Try.ntmps15
  go_wp2
  go_loopw [4] (fun _ w' => ∃ pos : Nat, w' = w.iter s pos ∧ pos ≤ s.size ∧ ∀ i (h : i < s.size), i < pos → okB (s[i]'h).toNat) (fun _ w' => s.size - w'.iterPos w.heap.size)
  case atStart => exact ⟨0, rfl, by omega, fun i _ h => absurd h (by omega)⟩
  case round =>
    obtain ⟨pos, rfl, hle, hgood⟩ := hrel
    have Hg := Lib.hid hgood
    clear hgood
    have Hb := Lib.hid (show Below w.heap.size w (w.iter s pos) from (Below.refl _ _).alloc (Nat.le_refl _) _)
    by_cases hp : pos < s.size
    · by_cases ha : (s[pos]'hp).toNat < 128
      · have hnx : ∀ ty, (Instr.next (.pointer (some ⟨w.heap.size, 0, none⟩)) true ty).run Try.prog (w.iter s pos) = _ := fun ty => run_next_ascii w s pos ty hp ha
        obtain ⟨c, hc⟩ : ∃ c, c = (s[pos]'hp).toNat := ⟨_, rfl⟩
        rw [← hc] at hnx
        by_cases hl : okB c
        · have Hx := Lib.hid (show ∀ i (h : i < s.size), i < pos + 1 → okB (s[i]'h).toNat from fun i hi hlt => by
            by_cases e : i = pos
            · subst e; rw [← hc]; exact hl
            · exact Hg.out i hi (by omega))
          have c1 : ¬ (c : Int) < 33 := by have := hl.1; omega
          have c2 : ¬ (126 : Int) < (c : Int) := by have := hl.2.1; omega
          have c3 : ((c : Int) == 47) = false := by have := hl.2.2.1; simp; omega
          have c4 : ((c : Int) == 35) = false := by have := hl.2.2.2; simp; omega
          clear hl hc ha
          go_wp2
          go_roundw
          case rel => exact ⟨pos + 1, rfl, by omega, Hx.out⟩
          case measure => simp; omega
        · have Hbad := Lib.hid (show ∃ i, ∃ h : i < s.size, ¬ okB (s[i]'h).toNat from ⟨pos, hp, by rw [← hc]; exact hl⟩)
          have Hl := Lib.hid hl
          clear hl hc ha
          by_cases c1 : (c : Int) < 33
          · go_wp2
            go_ret
            exact Hn.out Hbad.out _ ((Below.refl _ _).alloc (Nat.le_refl _) _)
          by_cases c2 : (126 : Int) < (c : Int)
          · go_wp2
            go_ret
            exact Hn.out Hbad.out _ ((Below.refl _ _).alloc (Nat.le_refl _) _)
          by_cases c3 : c = 47
          · subst c3
            go_wp2
            go_ret
            exact Hn.out Hbad.out _ ((Below.refl _ _).alloc (Nat.le_refl _) _)
          have d3 : ((c : Int) == 47) = false := by simp; omega
          have d4 : ((c : Int) == 35) = true := by
            have : c = 35 := by
              have := Hl.out; unfold okB at this; omega
            simp; omega
          clear c3
          go_wp2
          go_ret
          exact Hn.out Hbad.out _ ((Below.refl _ _).alloc (Nat.le_refl _) _)
      · have hnx : ∀ ty, (Instr.next (.pointer (some ⟨w.heap.size, 0, none⟩)) true ty).run Try.prog (w.iter s pos) = _ := fun ty => run_next_any w s pos ty hp
        have hh := decode_high s pos hp (by omega)
        have h3 := decode_le s pos
        have Hbad := Lib.hid (show ∃ i, ∃ h : i < s.size, ¬ okB (s[i]'h).toNat from ⟨pos, hp, by unfold okB; omega⟩)
        obtain ⟨c, hc⟩ : ∃ c, c = (Utf8.decode s pos).1 := ⟨_, rfl⟩
        rw [← hc] at hnx hh h3
        clear hc
        have c1 : ¬ (c : Int) < 33 := by omega
        have c2 : (126 : Int) < (c : Int) := by omega
        clear hh h3
        go_wp2
        go_ret
        exact Hn.out Hbad.out _ ((Below.refl _ _).alloc (Nat.le_refl _) _)
    · have hnx : ∀ ty, (Instr.next (.pointer (some ⟨w.heap.size, 0, none⟩)) true ty).run Try.prog (w.iter s pos) = _ := fun ty => run_next_end w s pos ty hp
      have Hall := Lib.hid (show allB s from fun i hi => Hg.out i hi (by omega))
      go_wp2
      go_ret
      exact Hy.out Hall.out _ ((Below.refl _ _).alloc (Nat.le_refl _) _)
end Go.Proofs.Ytdlglllidolggaa.In
