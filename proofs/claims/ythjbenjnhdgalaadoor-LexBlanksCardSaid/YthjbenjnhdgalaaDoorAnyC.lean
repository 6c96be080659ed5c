/- Whether a text has one of six capital letters: any text. -/
import Derived.Test.YthjbenjnhdgalaaDoorTabM
import Derived.Test.YthjbenjnhdgalaaDoorBk
import Derived.Test.YthjbenjnhdgalaaDoorShelf
import Derived.Laws.Runes
import Derived.Lib.OthersKept
import Derived.Lib.FieldsP
import Derived.Deep.LoopGhost
import Derived.Deep.QuietTactic
import Derived.BigQuiet
import Derived.WalkKit
import Derived.Below
import Derived.Lib.Hide
import Derived.LoopTactic
import Derived.WalkMore
import Derived.ScopeJumps
namespace Go.Proofs.YthjbenjnhdgalaaDoor
open Go.RowKit
def CH : ByteArray := ⟨#[65, 66, 67, 68, 69, 70]⟩
theorem ch_dec : ∀ i, i < 6 → Utf8.decode CH i = (65 + i, 1) := by decide +kernel
theorem ch_size : CH.size = 6 := rfl
def SomeInt (w : World) (e : Ending) (w' : World) : Prop := (∃ v : Int, e = .returned (.int .i64 v)) ∧ Below w.heap.size w w'
theorem indexByte_none (c : UInt8) : ∀ (l : Bs), (∀ b ∈ l, b ≠ c) → Lib.indexByte l c = -1
  | [], _ => rfl
  | b :: l, h => by
    have h1 : (b == c) = false := by simpa using h b (by simp)
    have h2 := indexByte_none c l (fun x hx => h x (by simp [hx]))
    simp [Lib.indexByte, h1, h2]
theorem ch_no (c : UInt8) (h : 128 ≤ c.toNat) (l : Bs) (hl : ∀ b ∈ l, b.toNat < 128) : Lib.indexByte l c = -1 :=
  indexByte_none c l (fun b hb e => by subst e; have := hl b hb; omega)
theorem str_index (s : ByteArray) (k : Nat) (h : k < s.size) (W : World) : (Instr.index 9 (.string s) (.int .i64 (k : Int))).run Tryd.prog W = .ok (.int .u8 ((s[k]'h).toNat : Int)) W := by
  simp [go_sem, h]
theorem ib_no (s : ByteArray) (c : UInt8) (w : World) (h : 128 ≤ c.toNat) (hl : ∀ b ∈ s.data.toList, b.toNat < 128) : Calls Tryd.prog 49 #[.string s, .int .u8 (c.toNat : Int)] w fun e w' => e = .returned (.int .i64 (-1)) ∧ w' = w := by
  refine (Tryd.strings_IndexByte s (c.toNat : Int) w).mono ?_
  rintro e w' ⟨rfl, rfl⟩
  rw [show ((c.toNat : Int)).toNat.toUInt8 = c by simp, ch_no c h _ hl]
  exact ⟨rfl, rfl⟩
theorem ch_low : ∀ b ∈ CH.data.toList, b.toNat < 128 := by decide
theorem valid_of {r : Nat} (h : Lib.validRune (r : Int) = true) : Utf8.valid (r : Int) = true := by
  unfold Lib.validRune at h
  unfold Utf8.valid
  simp at h ⊢
  omega
set_option maxHeartbeats 4000000 in
set_option maxRecDepth 1000000 in
theorem rune_hi (r : Nat) (w : World) (h0 : 128 ≤ r) (h1 : r ≤ 1114111) : Calls Tryd.prog 29 #[.string CH, .int .i32 r] w (SomeInt w) := by
  by_cases he : r = 65533
  · subst he
    go_enter Tryd.func29, Tryd.ntmps29
    go_wp2_with fail
    go_loopg [5, 6] 6 (fun g _ _ wx => ∃ i : Nat, i + g = 6 ∧ wx.heap[w.heap.size]? = some (.stringIter CH i) ∧ Hid (Below w.heap.size w wx))
    case atStart => exact ⟨0, by omega, World.iter_heap w CH 0, (Below.refl _ _).alloc (Nat.le_refl _) _⟩
    case round =>
      obtain ⟨i, hig, hit, HB⟩ := hrel
      cases gk with
      | zero =>
        obtain rfl : i = 6 := by omega
        have hnx := fun ty => Lib.run_next_end_at (P := Tryd.prog) wr w.heap.size CH 6 ty hit (by rw [ch_size]; omega)
        go_wp2
        go_ret
        exact ⟨⟨_, rfl⟩, HB.out⟩
      | succ g =>
        have hd := ch_dec i (by omega)
        have hnx := fun ty => Lib.run_next_any_at (P := Tryd.prog) wr w.heap.size CH i ty hit (by rw [ch_size]; omega)
        rw [hd] at hnx
        have HI2 := Lib.hid (Lib.iterAt_heap wr w.heap.size CH i (i + 1) hit)
        have HB2 := Lib.hid (Lib.below_iterAt HB.out (k := w.heap.size) (Nat.le_refl _) CH (i + 1))
        have hne : ¬ ((65 : Int) + (i : Int)) = 65533 := by omega
        have hne2 : ((((65 + i : Nat)) : Int) == 65533) = false := by simp; omega
        clear hit hd
        go_wp2
        go_roundg g
        case measure => omega
        case rel => exact ⟨i + 1, by omega, HI2.out, HB2.out⟩
  · have he' : ((r : Int) == 65533) = false := by simp; omega
    obtain ⟨b, hb⟩ : ∃ b, Lib.validRune (r : Int) = b := ⟨_, rfl⟩
    go_enter Tryd.func29, Tryd.ntmps29
    go_wp2_with fail
    refine (Tryd.utf8_ValidRune _ _).mono ?_
    rintro e w' ⟨rfl, rfl⟩
    rw [hb]
    cases b with
    | false =>
      go_wp2_with fail
      go_ret
      exact ⟨⟨_, rfl⟩, Below.refl _ _⟩
    | true =>
      obtain ⟨h2, h4, hl⟩ := encode_facts (r : Int) (valid_of hb) (by omega)
      obtain ⟨rs, hrs⟩ : ∃ rs, rs = Utf8.encode (r : Int) := ⟨_, rfl⟩
      have hcv : ∀ W, (convert 21 9 (.int .i32 (r : Int))).run Tryd.prog W = .ok (.string rs) W := fun W => by
        rw [hrs]; exact run_convert_int_string W _ _ _ _ (by kernel_rfl) Tryd.underlying9
      rw [← hrs] at h2 h4 hl
      clear hrs hb
      rcases (by omega : rs.size = 2 ∨ rs.size = 3 ∨ rs.size = 4) with hz | hz | hz
      · obtain ⟨c, hc, hc128⟩ : ∃ c : UInt8, (∀ W, (Instr.index 9 (.string rs) (.int .i64 1)).run Tryd.prog W = .ok (.int .u8 (c.toNat : Int)) W) ∧ 128 ≤ c.toNat :=
          ⟨rs[1]'(by omega), fun W => str_index rs 1 (by omega) W, by have := hl (by omega); simp only [hz] at this; exact this⟩
        have hci : ∀ W, (Instr.index 9 (.string CH) (.int .i64 1)).run Tryd.prog W = .ok (.int .u8 66) W := fun _ => by kernel_rfl
        have hsl : ∀ W, (Instr.slice 9 (.string CH) (some (.int .i64 2)) none none).run Tryd.prog W = .ok (.string ⟨#[67, 68, 69, 70]⟩) W := fun _ => by kernel_rfl
        have hne : ((66 : Int) != (c.toNat : Int)) = true := by simp; omega
        have hib := fun W => ib_no ⟨#[67, 68, 69, 70]⟩ c W hc128 (by decide)
        have hsz6 : (1 : Int) < (CH.size : Int) := by rw [ch_size]; omega
        clear hl
        go_wp2_with fail
        go_step3
        go_wp2_with fail
        refine wp_loop_rounds 1 ?_
        rw [rounds_succ]
        go_wp2_with fail
        go_step3
        go_wp2_with fail
        refine wp_region_quiet_lit (by kernel_rfl) (by kernel_rfl) ?_
        repeat (any_goals (first | go_big_quiet_step (fail) | quiet_step (fail)))
        refine wpQuiet_nil ?_
        intro wq hwq
        obtain ⟨nq, hwq⟩ := hwq
        have HBq := Lib.hid (show Below w'.heap.size w' wq from hwq ▸ below_drewN (Below.refl _ _) _)
        clear hwq
        go_wp2_with fail
        go_quiet ((go_at_call 49; exact Calls.quiet_of_same (hib _)))
        go_wp2_with fail
        rw [Exit.noGoto_ret]
        go_ret
        exact ⟨⟨_, rfl⟩, below_drewN HBq.out _⟩
      · obtain ⟨c, hc, hc128⟩ : ∃ c : UInt8, (∀ W, (Instr.index 9 (.string rs) (.int .i64 2)).run Tryd.prog W = .ok (.int .u8 (c.toNat : Int)) W) ∧ 128 ≤ c.toNat :=
          ⟨rs[2]'(by omega), fun W => str_index rs 2 (by omega) W, by have := hl (by omega); simp only [hz] at this; exact this⟩
        have hci : ∀ W, (Instr.index 9 (.string CH) (.int .i64 2)).run Tryd.prog W = .ok (.int .u8 67) W := fun _ => by kernel_rfl
        have hsl : ∀ W, (Instr.slice 9 (.string CH) (some (.int .i64 3)) none none).run Tryd.prog W = .ok (.string ⟨#[68, 69, 70]⟩) W := fun _ => by kernel_rfl
        have hne : ((67 : Int) != (c.toNat : Int)) = true := by simp; omega
        have hib := fun W => ib_no ⟨#[68, 69, 70]⟩ c W hc128 (by decide)
        have hsz6 : (2 : Int) < (CH.size : Int) := by rw [ch_size]; omega
        clear hl
        go_wp2_with fail
        go_step3
        go_wp2_with fail
        refine wp_loop_rounds 1 ?_
        rw [rounds_succ]
        go_wp2_with fail
        go_step3
        go_wp2_with fail
        refine wp_region_quiet_lit (by kernel_rfl) (by kernel_rfl) ?_
        repeat (any_goals (first | go_big_quiet_step (fail) | quiet_step (fail)))
        refine wpQuiet_nil ?_
        intro wq hwq
        obtain ⟨nq, hwq⟩ := hwq
        have HBq := Lib.hid (show Below w'.heap.size w' wq from hwq ▸ below_drewN (Below.refl _ _) _)
        clear hwq
        go_wp2_with fail
        go_quiet ((go_at_call 49; exact Calls.quiet_of_same (hib _)))
        go_wp2_with fail
        rw [Exit.noGoto_ret]
        go_ret
        exact ⟨⟨_, rfl⟩, below_drewN HBq.out _⟩
      · obtain ⟨c, hc, hc128⟩ : ∃ c : UInt8, (∀ W, (Instr.index 9 (.string rs) (.int .i64 3)).run Tryd.prog W = .ok (.int .u8 (c.toNat : Int)) W) ∧ 128 ≤ c.toNat :=
          ⟨rs[3]'(by omega), fun W => str_index rs 3 (by omega) W, by have := hl (by omega); simp only [hz] at this; exact this⟩
        have hci : ∀ W, (Instr.index 9 (.string CH) (.int .i64 3)).run Tryd.prog W = .ok (.int .u8 68) W := fun _ => by kernel_rfl
        have hsl : ∀ W, (Instr.slice 9 (.string CH) (some (.int .i64 4)) none none).run Tryd.prog W = .ok (.string ⟨#[69, 70]⟩) W := fun _ => by kernel_rfl
        have hne : ((68 : Int) != (c.toNat : Int)) = true := by simp; omega
        have hib := fun W => ib_no ⟨#[69, 70]⟩ c W hc128 (by decide)
        have hsz6 : (3 : Int) < (CH.size : Int) := by rw [ch_size]; omega
        clear hl
        go_wp2_with fail
        go_step3
        go_wp2_with fail
        refine wp_loop_rounds 1 ?_
        rw [rounds_succ]
        go_wp2_with fail
        go_step3
        go_wp2_with fail
        refine wp_region_quiet_lit (by kernel_rfl) (by kernel_rfl) ?_
        repeat (any_goals (first | go_big_quiet_step (fail) | quiet_step (fail)))
        refine wpQuiet_nil ?_
        intro wq hwq
        obtain ⟨nq, hwq⟩ := hwq
        have HBq := Lib.hid (show Below w'.heap.size w' wq from hwq ▸ below_drewN (Below.refl _ _) _)
        clear hwq
        go_wp2_with fail
        go_quiet ((go_at_call 49; exact Calls.quiet_of_same (hib _)))
        go_wp2_with fail
        rw [Exit.noGoto_ret]
        go_ret
        exact ⟨⟨_, rfl⟩, below_drewN HBq.out _⟩
end Go.Proofs.YthjbenjnhdgalaaDoor
