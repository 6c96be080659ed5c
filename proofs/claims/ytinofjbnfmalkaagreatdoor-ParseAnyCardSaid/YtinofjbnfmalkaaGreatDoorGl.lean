/- What the library's Split, Cut, FieldsFunc do at one byte, as plain lists. -/
import Derived.Test.YtinofjbnfmalkaaGreatDoorGa
import Derived.Lib.FieldsP
import Derived.Lib.CutLaws
import Derived.Laws.RangeString
import Derived.Lib.DecodeN
import Derived.Laws.RangeAny
import Derived.Test.YtinofjbnfmalkaaGreatDoorShelf
import Derived.Laws.Runes
import Derived.Lib.OthersKept
import Derived.Deep.LoopGhost
import Derived.Deep.QuietTactic
import Derived.BigQuiet
import Derived.WalkKit
import Derived.Below
import Derived.Lib.Hide
import Derived.LoopTactic
import Derived.WalkMore
import Derived.ScopeJumps
import Derived.Lib.ConvBytes
import Derived.Lib.AtoiAllMem
import Derived.Laws.Strings3
import Derived.Laws.Closers25
import Derived.Laws.Closers25b
import Derived.BigCall
import Derived.BigGuard
import Derived.Laws.BitsAllLaws
import Derived.Lib.ParseIntBCases
import Derived.ProofKit
import Derived.Maps.AppendAt
import Derived.Laws.AppendOwnNone
import Derived.Laws.EntriesVeiled
import Derived.ChangeKeysEq
import Derived.Laws.StructEq
import Derived.Lib.Split
namespace Go.Proofs.YtinofjbnfmalkaaGreatDoor
theorem ix_eq (c : UInt8) (t : Bs) : Lib.index (c :: t) [c] = 0 := by simp [Lib.index, List.isPrefixOf]
theorem ix_ne (b c : UInt8) (t : Bs) (h : b ≠ c) : Lib.index (b :: t) [c] = if Lib.index t [c] == -1 then -1 else Lib.index t [c] + 1 := by
 have hp : ([c] : List UInt8).isPrefixOf (b :: t) = false := by simp [List.isPrefixOf, Ne.symm h]
 rw [Lib.index, hp]; simp
theorem ix_nil (c : UInt8) : Lib.index [] [c] = -1 := by simp [Lib.index]
theorem splitK_ne (c d : UInt8) (t : Bs) (h : d ≠ c) (k : Nat) : Lib.splitK [c] 0 k (d :: t) = match Lib.splitK [c] 0 k t with | a :: r => (d :: a) :: r | [] => [[d]] := by
 cases k with
 | zero => rfl
 | succ k =>
  unfold Lib.splitK
  rw [ix_ne d c t h]
  by_cases hm : Lib.index t [c] = -1
  ·simp [hm]
  ·have hge := Lib.index_ge t [c]
   obtain ⟨j, hj⟩ : ∃ j : Nat, Lib.index t [c] = j := ⟨(Lib.index t [c]).toNat, by omega⟩
   have h1 : ((j : Int) == -1) = false := by rw [beq_eq_false_iff_ne]; omega
   have h2 : (((j : Int) + 1) == -1) = false := by rw [beq_eq_false_iff_ne]; omega
   have h3 : ((j : Int) + 1).toNat = j + 1 := by omega
   rw [hj]
   simp [h1, h2, h3]
theorem splitK_lines : ∀ (s : Bs), Lib.splitK [10] 0 (Lib.count s [10]) s = lines s
 | [] => rfl
 | c :: t => by
  by_cases h : c = 10
  ·subst h
   rw [Lib.count_cons_eq, Nat.add_comm, Lib.splitK, ix_eq, lines, if_pos rfl, ← splitK_lines t]
   simp
  ·rw [Lib.count_cons_ne _ _ _ h, splitK_ne 10 c t h, lines, if_neg h, splitK_lines t]
   cases lines t <;> rfl
theorem splitB_lines (s : ByteArray) : (Lib.splitB ⟨#[10]⟩ 0 (Lib.countB s ⟨#[10]⟩) s).map (·.data.toList) = lines s.data.toList := by
 rw [Lib.splitB_data]
 exact splitK_lines _
theorem cut_head : ∀ (s : Bs), (Lib.cut s [35]).1 = cutH s
 | [] => by simp [Lib.cut, ix_nil, cutH]
 | c :: t => by
  by_cases h : c = 35
  ·subst h
   simp [Lib.cut, ix_eq, cutH]
  ·have ih := cut_head t
   unfold Lib.cut at ih ⊢
   rw [ix_ne c 35 t h, cutH, if_neg h]
   by_cases hm : Lib.index t [35] = -1
   ·simp [hm] at ih ⊢; exact ih
   ·have hge := Lib.index_ge t [35]
    obtain ⟨j, hj⟩ : ∃ j : Nat, Lib.index t [35] = j := ⟨(Lib.index t [35]).toNat, by omega⟩
    have h1 : ((j : Int) == -1) = false := by rw [beq_eq_false_iff_ne]; omega
    have h3 : ((j : Int) + 1).toNat = j + 1 := by omega
    rw [hj] at ih ⊢
    rw [if_pos (by omega)] at ih
    simp only [h1]
    simp only [Bool.false_eq_true, if_false]
    rw [if_pos (by omega), h3]
    simp at ih ⊢
    exact ih
def ext (l : Bs) (a b : Nat) : Bs := (l.drop a).take (b - a)
theorem decode_skip (s : ByteArray) (pos : Nat) (h : pos < s.size) (ha : 128 ≤ (s[pos]'h).toNat) : ∀ j, pos ≤ j → j < pos + (Utf8.decode s pos).2 → ∃ hj : j < s.size, 128 ≤ (s[j]'hj).toNat := by
 have hg : ∀ j (hj : j < s.size), (s.get! j) = s[j]'hj := fun j hj => by
  obtain ⟨d⟩ := s
  show d[j]! = d[j]'hj
  exact getElem!_pos d j hj
 intro j h1 h2
 rw [Lib.decode_at] at h2
 have h0 : 128 ≤ (s.get! pos).toNat := by rw [hg pos h]; exact ha
 generalize hb0 : (s.get! pos).toNat = b0 at h2 h0
 generalize hb1 : (s.get! (pos + 1)).toNat = b1 at h2
 generalize hb2 : (s.get! (pos + 2)).toNat = b2 at h2
 generalize hb3 : (s.get! (pos + 3)).toNat = b3 at h2
 have key : j = pos ∨ (j = pos + 1 ∧ 1 < s.size - pos ∧ 128 ≤ b1) ∨ (j = pos + 2 ∧ 2 < s.size - pos ∧ 128 ≤ b2) ∨ (j = pos + 3 ∧ 3 < s.size - pos ∧ 128 ≤ b3) := by
  unfold Lib.decodeN at h2
  rw [if_neg (by omega)] at h2
  split at h2
  ·rename_i hc
   split at h2 <;> simp only at h2 <;> omega
  split at h2
  ·rename_i hc
   split at h2 <;> simp only at h2 <;> omega
  split at h2
  ·rename_i hc
   split at h2 <;> simp only at h2 <;> omega
  ·simp only at h2; omega
 rcases key with rfl | ⟨rfl, hl, hb⟩ | ⟨rfl, hl, hb⟩ | ⟨rfl, hl, hb⟩
 ·exact ⟨h, ha⟩
 ·exact ⟨by omega, by rw [← hg (pos + 1) (by omega), hb1]; exact hb⟩
 ·exact ⟨by omega, by rw [← hg (pos + 2) (by omega), hb2]; exact hb⟩
 ·exact ⟨by omega, by rw [← hg (pos + 3) (by omega), hb3]; exact hb⟩
end Go.Proofs.YtinofjbnfmalkaaGreatDoor
namespace Go.Proofs.YtinofjbnfmalkaaGreatDoor
open Go.RowKit
def CH : ByteArray := ⟨#[65, 66, 67, 68, 69, 70]⟩
theorem ch_dec : ∀ i, i < 6 → Utf8.decode CH i = (65 + i, 1) := by decide +kernel
theorem ch_size : CH.size = 6 := rfl
def SomeInt (w : World) (e : Ending) (w' : World) : Prop := (∃ v : Int, e = .returned (.int .i64 v)) ∧ Below w.heap.size w w'
theorem indexByte_none (c : UInt8) : ∀ (l : Bs), (∀ b ∈ l, b ≠ c) → Lib.indexByte l c = -1
 | [], _ => rfl
 | b :: l, h => by
  have h1 : (b == c) = false := by simpa using h b (by simp)
  have h2 := indexByte_none c l (fun x hx => h x (by simp [hx]))
  simp [Lib.indexByte, h1, h2]
theorem ch_no (c : UInt8) (h : 128 ≤ c.toNat) (l : Bs) (hl : ∀ b ∈ l, b.toNat < 128) : Lib.indexByte l c = -1 :=
 indexByte_none c l (fun b hb e => by subst e; have := hl b hb; omega)
theorem str_index (s : ByteArray) (k : Nat) (h : k < s.size) (W : World) : (Instr.index 9 (.string s) (.int .i64 (k : Int))).run Tryz.prog W = .ok (.int .u8 ((s[k]'h).toNat : Int)) W := by
 simp [go_sem, h]
theorem ib_no (s : ByteArray) (c : UInt8) (w : World) (h : 128 ≤ c.toNat) (hl : ∀ b ∈ s.data.toList, b.toNat < 128) : Calls Tryz.prog 153 #[.string s, .int .u8 (c.toNat : Int)] w fun e w' => e = .returned (.int .i64 (-1)) ∧ w' = w := by
 refine (Tryz.strings_IndexByte s (c.toNat : Int) w).mono ?_
 rintro e w' ⟨rfl, rfl⟩
 rw [show ((c.toNat : Int)).toNat.toUInt8 = c by simp, ch_no c h _ hl]
 exact ⟨rfl, rfl⟩
theorem ch_low : ∀ b ∈ CH.data.toList, b.toNat < 128 := by decide
theorem valid_ofL {r : Nat} (h : Lib.validRune (r : Int) = true) : Utf8.valid (r : Int) = true := by
 unfold Lib.validRune at h
 unfold Utf8.valid
 simp at h ⊢
 omega
set_option maxHeartbeats 4000000 in
set_option maxRecDepth 1000000 in
theorem rune_hi (r : Nat) (w : World) (h0 : 128 ≤ r) (h1 : r ≤ 1114111) : Calls Tryz.prog 183 #[.string CH, .int .i32 r] w (SomeInt w) := by
 by_cases he : r = 65533
 ·subst he
  go_enter Tryz.func183, Tryz.ntmps183
  go_wp2_with fail
  go_loopg [5, 6] 6 (fun g _ _ wx => ∃ i : Nat, i + g = 6 ∧ wx.heap[w.heap.size]? = some (.stringIter CH i) ∧ Hid (Below w.heap.size w wx))
  case atStart => exact ⟨0, by omega, World.iter_heap w CH 0, (Below.refl _ _).alloc (Nat.le_refl _) _⟩
  case round =>
   obtain ⟨i, hig, hit, HB⟩ := hrel
   cases gk with
   | zero =>
    obtain rfl : i = 6 := by omega
    have hnx := fun ty => Lib.run_next_end_at (P := Tryz.prog) wr w.heap.size CH 6 ty hit (by rw [ch_size]; omega)
    go_wp2
    go_ret
    exact ⟨⟨_, rfl⟩, HB.out⟩
   | succ g =>
    have hd := ch_dec i (by omega)
    have hnx := fun ty => Lib.run_next_any_at (P := Tryz.prog) wr w.heap.size CH i ty hit (by rw [ch_size]; omega)
    rw [hd] at hnx
    have HI2 := Lib.hid (Lib.iterAt_heap wr w.heap.size CH i (i + 1) hit)
    have HB2 := Lib.hid (Lib.below_iterAt HB.out (k := w.heap.size) (Nat.le_refl _) CH (i + 1))
    have hne : ¬ ((65 : Int) + (i : Int)) = 65533 := by omega
    have hne2 : ((((65 + i : Nat)) : Int) == 65533) = false := by simp; omega
    clear hit hd
    go_wp2
    go_roundg g
    case measure => omega
    case rel => exact ⟨i + 1, by omega, HI2.out, HB2.out⟩
 ·have he' : ((r : Int) == 65533) = false := by simp; omega
  obtain ⟨b, hb⟩ : ∃ b, Lib.validRune (r : Int) = b := ⟨_, rfl⟩
  go_enter Tryz.func183, Tryz.ntmps183
  go_wp2_with fail
  refine (Tryz.utf8_ValidRune _ _).mono ?_
  rintro e w' ⟨rfl, rfl⟩
  rw [hb]
  cases b with
  | false =>
   go_wp2_with fail
   go_ret
   exact ⟨⟨_, rfl⟩, Below.refl _ _⟩
  | true =>
   obtain ⟨h2, h4, hl⟩ := encode_facts (r : Int) (valid_ofL hb) (by omega)
   obtain ⟨rs, hrs⟩ : ∃ rs, rs = Utf8.encode (r : Int) := ⟨_, rfl⟩
   have hcv : ∀ W, (convert 21 9 (.int .i32 (r : Int))).run Tryz.prog W = .ok (.string rs) W := fun W => by
    rw [hrs]; exact run_convert_int_string W _ _ _ _ (by kernel_rfl) Tryz.underlying9
   rw [← hrs] at h2 h4 hl
   clear hrs hb
   rcases (by omega : rs.size = 2 ∨ rs.size = 3 ∨ rs.size = 4) with hz | hz | hz
   ·obtain ⟨c, hc, hc128⟩ : ∃ c : UInt8, (∀ W, (Instr.index 9 (.string rs) (.int .i64 1)).run Tryz.prog W = .ok (.int .u8 (c.toNat : Int)) W) ∧ 128 ≤ c.toNat :=
     ⟨rs[1]'(by omega), fun W => str_index rs 1 (by omega) W, by have := hl (by omega); simp only [hz] at this; exact this⟩
    have hci : ∀ W, (Instr.index 9 (.string CH) (.int .i64 1)).run Tryz.prog W = .ok (.int .u8 66) W := fun _ => by kernel_rfl
    have hsl : ∀ W, (Instr.slice 9 (.string CH) (some (.int .i64 2)) none none).run Tryz.prog W = .ok (.string ⟨#[67, 68, 69, 70]⟩) W := fun _ => by kernel_rfl
    have hne : ((66 : Int) != (c.toNat : Int)) = true := by simp; omega
    have hib := fun W => ib_no ⟨#[67, 68, 69, 70]⟩ c W hc128 (by decide)
    have hsz6 : (1 : Int) < (CH.size : Int) := by rw [ch_size]; omega
    clear hl
    go_wp2_with fail
    go_step3
    go_wp2_with fail
    refine wp_loop_rounds 1 ?_
    rw [rounds_succ]
    go_wp2_with fail
    go_step3
    go_wp2_with fail
    refine wp_region_quiet_lit (by kernel_rfl) (by kernel_rfl) ?_
    repeat (any_goals (first | go_big_quiet_step (fail) | quiet_step (fail)))
    refine wpQuiet_nil ?_
    intro wq hwq
    obtain ⟨nq, hwq⟩ := hwq
    have HBq := Lib.hid (show Below w'.heap.size w' wq from hwq ▸ below_drewN (Below.refl _ _) _)
    clear hwq
    go_wp2_with fail
    go_quiet ((go_at_call 153; exact Calls.quiet_of_same (hib _)))
    go_wp2_with fail
    rw [Exit.noGoto_ret]
    go_ret
    exact ⟨⟨_, rfl⟩, below_drewN HBq.out _⟩
   ·obtain ⟨c, hc, hc128⟩ : ∃ c : UInt8, (∀ W, (Instr.index 9 (.string rs) (.int .i64 2)).run Tryz.prog W = .ok (.int .u8 (c.toNat : Int)) W) ∧ 128 ≤ c.toNat :=
     ⟨rs[2]'(by omega), fun W => str_index rs 2 (by omega) W, by have := hl (by omega); simp only [hz] at this; exact this⟩
    have hci : ∀ W, (Instr.index 9 (.string CH) (.int .i64 2)).run Tryz.prog W = .ok (.int .u8 67) W := fun _ => by kernel_rfl
    have hsl : ∀ W, (Instr.slice 9 (.string CH) (some (.int .i64 3)) none none).run Tryz.prog W = .ok (.string ⟨#[68, 69, 70]⟩) W := fun _ => by kernel_rfl
    have hne : ((67 : Int) != (c.toNat : Int)) = true := by simp; omega
    have hib := fun W => ib_no ⟨#[68, 69, 70]⟩ c W hc128 (by decide)
    have hsz6 : (2 : Int) < (CH.size : Int) := by rw [ch_size]; omega
    clear hl
    go_wp2_with fail
    go_step3
    go_wp2_with fail
    refine wp_loop_rounds 1 ?_
    rw [rounds_succ]
    go_wp2_with fail
    go_step3
    go_wp2_with fail
    refine wp_region_quiet_lit (by kernel_rfl) (by kernel_rfl) ?_
    repeat (any_goals (first | go_big_quiet_step (fail) | quiet_step (fail)))
    refine wpQuiet_nil ?_
    intro wq hwq
    obtain ⟨nq, hwq⟩ := hwq
    have HBq := Lib.hid (show Below w'.heap.size w' wq from hwq ▸ below_drewN (Below.refl _ _) _)
    clear hwq
    go_wp2_with fail
    go_quiet ((go_at_call 153; exact Calls.quiet_of_same (hib _)))
    go_wp2_with fail
    rw [Exit.noGoto_ret]
    go_ret
    exact ⟨⟨_, rfl⟩, below_drewN HBq.out _⟩
   ·obtain ⟨c, hc, hc128⟩ : ∃ c : UInt8, (∀ W, (Instr.index 9 (.string rs) (.int .i64 3)).run Tryz.prog W = .ok (.int .u8 (c.toNat : Int)) W) ∧ 128 ≤ c.toNat :=
     ⟨rs[3]'(by omega), fun W => str_index rs 3 (by omega) W, by have := hl (by omega); simp only [hz] at this; exact this⟩
    have hci : ∀ W, (Instr.index 9 (.string CH) (.int .i64 3)).run Tryz.prog W = .ok (.int .u8 68) W := fun _ => by kernel_rfl
    have hsl : ∀ W, (Instr.slice 9 (.string CH) (some (.int .i64 4)) none none).run Tryz.prog W = .ok (.string ⟨#[69, 70]⟩) W := fun _ => by kernel_rfl
    have hne : ((68 : Int) != (c.toNat : Int)) = true := by simp; omega
    have hib := fun W => ib_no ⟨#[69, 70]⟩ c W hc128 (by decide)
    have hsz6 : (3 : Int) < (CH.size : Int) := by rw [ch_size]; omega
    clear hl
    go_wp2_with fail
    go_step3
    go_wp2_with fail
    refine wp_loop_rounds 1 ?_
    rw [rounds_succ]
    go_wp2_with fail
    go_step3
    go_wp2_with fail
    refine wp_region_quiet_lit (by kernel_rfl) (by kernel_rfl) ?_
    repeat (any_goals (first | go_big_quiet_step (fail) | quiet_step (fail)))
    refine wpQuiet_nil ?_
    intro wq hwq
    obtain ⟨nq, hwq⟩ := hwq
    have HBq := Lib.hid (show Below w'.heap.size w' wq from hwq ▸ below_drewN (Below.refl _ _) _)
    clear hwq
    go_wp2_with fail
    go_quiet ((go_at_call 153; exact Calls.quiet_of_same (hib _)))
    go_wp2_with fail
    rw [Exit.noGoto_ret]
    go_ret
    exact ⟨⟨_, rfl⟩, below_drewN HBq.out _⟩
end Go.Proofs.YtinofjbnfmalkaaGreatDoor
namespace Go.Proofs.YtinofjbnfmalkaaGreatDoor
open Go.RowKit
theorem decode_max (s : ByteArray) (pos : Nat) : (Utf8.decode s pos).1 ≤ 1114111 := by
 have hb : (s.get! pos).toNat < 256 := UInt8.toNat_lt _
 rw [Lib.decode_at]
 generalize (s.get! pos).toNat = b0 at hb
 unfold Lib.decodeN
 repeat' split
 all_goals (simp only; omega)
def Upr (c : UInt8) : Prop := 65 ≤ c.toNat ∧ c.toNat ≤ 70
def Bad (c : UInt8) : Prop := ¬ (48 ≤ c.toNat ∧ c.toNat ≤ 57) ∧ ¬ (97 ≤ c.toNat ∧ c.toNat ≤ 102)
def AnyPost (s : ByteArray) (w : World) (e : Ending) (w' : World) : Prop := (∃ v : Int, e = .returned (.int .i64 v) ∧ (0 ≤ v → ∃ c ∈ s.data.toList, Bad c) ∧ (v < 0 → ∀ c ∈ s.data.toList, ¬ Upr c)) ∧ Below w.heap.size w w'
def NoU (s : ByteArray) (i : Nat) : Prop := ∀ j (h : j < s.size), j < i → ¬ Upr (s[j]'h)
theorem ch_index (c : UInt8) : (Upr c → 0 ≤ Lib.indexByte CH.data.toList c) ∧ (¬ Upr c → ¬ 0 ≤ Lib.indexByte CH.data.toList c) := by
 constructor
 ·rintro ⟨h1, h2⟩
  have : c.toNat = 65 ∨ c.toNat = 66 ∨ c.toNat = 67 ∨ c.toNat = 68 ∨ c.toNat = 69 ∨ c.toNat = 70 := by omega
  rcases this with h | h | h | h | h | h
  ·obtain rfl : c = 65 := UInt8.toNat_inj.1 h
   decide
  ·obtain rfl : c = 66 := UInt8.toNat_inj.1 h
   decide
  ·obtain rfl : c = 67 := UInt8.toNat_inj.1 h
   decide
  ·obtain rfl : c = 68 := UInt8.toNat_inj.1 h
   decide
  ·obtain rfl : c = 69 := UInt8.toNat_inj.1 h
   decide
  ·obtain rfl : c = 70 := UInt8.toNat_inj.1 h
   decide
 ·intro h
  rw [indexByte_none c CH.data.toList (fun b hb e => h (by
   subst e
   have : ∀ b ∈ CH.data.toList, 65 ≤ b.toNat ∧ b.toNat ≤ 70 := by decide
   exact this b hb))]
  decide
theorem mem_at (s : ByteArray) (j : Nat) (h : j < s.size) : (s[j]'h) ∈ s.data.toList := List.getElem_mem (l := s.data.toList) (by rw [← Lib.size_eq]; exact h)
theorem noU_all {s : ByteArray} (h : NoU s s.size) : ∀ c ∈ s.data.toList, ¬ Upr c := by
 intro c hc
 obtain ⟨j, hj, rfl⟩ := List.getElem_of_mem hc
 exact h j (by rw [Lib.size_eq]; exact hj) (by rw [Lib.size_eq]; exact hj)
theorem upr_bad {c : UInt8} (h : Upr c) : Bad c := by obtain ⟨h1, h2⟩ := h; exact ⟨by omega, by omega⟩
theorem hi_bad {c : UInt8} (h : 128 ≤ c.toNat) : Bad c := ⟨by omega, by omega⟩
theorem noU_step {s : ByteArray} {i : Nat} (h : NoU s i) (hi : i < s.size) (hu : ¬ Upr (s[i]'hi)) : NoU s (i + 1) := fun j hj hlt => by
 rcases (by omega : j < i ∨ j = i) with h' | rfl
 ·exact h j hj h'
 ·exact hu
theorem noU_skip {s : ByteArray} {i n : Nat} (h : NoU s i) (hs : ∀ j, i ≤ j → j < i + n → ∃ hj : j < s.size, 128 ≤ (s[j]'hj).toNat) : NoU s (i + n) := fun j hj hlt => by
 rcases (by omega : j < i ∨ (i ≤ j ∧ j < i + n)) with h' | ⟨h1, h2⟩
 ·exact h j hj h'
 ·obtain ⟨hj', h3⟩ := hs j h1 h2
  intro hu
  have := hu.2
  omega
theorem ch_ne : CH.toList.isEmpty = false := by rw [Lib.toList_data]; rfl
set_option maxHeartbeats 4000000 in
set_option maxRecDepth 1000000 in
theorem anyShort (s : ByteArray) (w : World) (h8 : s.size ≤ 8) : Calls Tryz.prog 171 #[.string s, .string CH] w (AnyPost s w) := by
 have hemp := ch_ne
 have hn1 : ((CH.size : Int) == 1) = false := by decide
 have h8z : decide ((8 : Int) < (s.size : Int)) = false := decide_eq_false (by omega)
 go_enter Tryz.func171, Tryz.ntmps171
 go_wp2_with (go_at_call 184; refine (Tryz.strings_shouldUseASCIISet _ _).mono ?_; rintro e w' ⟨rfl, hw⟩; rw [hw, h8z])
 go_loopg [9, 10] s.size (fun g _ _ wx => ∃ i : Nat, i + g = s.size ∧ wx.heap[w.heap.size]? = some (.stringIter s i) ∧ Hid (Below w.heap.size w wx) ∧ Hid (NoU s i))
 case atStart => exact ⟨0, by omega, World.iter_heap w s 0, (Below.refl _ _).alloc (Nat.le_refl _) _, fun j _ h => absurd h (by omega)⟩
 case round =>
  obtain ⟨i, hig, hit, HB, HN⟩ := hrel
  by_cases hi : i < s.size
  ·by_cases ha : (s[i]'hi).toNat < 128
   ·have hnx := fun ty => Lib.run_next_any_at (P := Tryz.prog) wr w.heap.size s i ty hit hi
    rw [decode_ascii s i hi ha] at hnx
    have HI2 := Lib.hid (Lib.iterAt_heap wr w.heap.size s i (i + 1) hit)
    have HB2 := Lib.hid (Lib.below_iterAt HB.out (k := w.heap.size) (Nat.le_refl _) s (i + 1))
    obtain ⟨x, hx⟩ : ∃ x : UInt8, s[i]'hi = x := ⟨_, rfl⟩
    have HM := Lib.hid (mem_at s i hi)
    have HS := Lib.hid (fun h => noU_step HN.out hi h)
    rw [hx] at hnx ha HM HS
    have hback : ((x.toNat : Int)).toNat.toUInt8 = x := by simp
    have hci := ch_index x
    clear hx hit HB HN
    by_cases hu : Upr x
    ·have hge := hci.1 hu
     have HU := Lib.hid hu
     clear hci hu
     go_wp2_with (go_at_call 183; refine (Tryz.strings_IndexRune_ascii _ _ _ (by omega) (by omega)).mono ?_; rintro e w' ⟨rfl, hw⟩; rw [hw, hback])
     go_ret
     exact ⟨⟨_, rfl, fun _ => ⟨x, HM.out, upr_bad HU.out⟩, fun h => absurd h (by omega)⟩, HB2.out⟩
    ·have hge := hci.2 hu
     have HU := Lib.hid (HS.out hu)
     clear hci hu
     go_wp2_with (go_at_call 183; refine (Tryz.strings_IndexRune_ascii _ _ _ (by omega) (by omega)).mono ?_; rintro e w' ⟨rfl, hw⟩; rw [hw, hback])
     go_roundg (s.size - (i + 1))
     case measure => omega
     case rel => exact ⟨i + 1, by omega, HI2.out, HB2.out, HU.out⟩
   ·have hnx := fun ty => Lib.run_next_any_at (P := Tryz.prog) wr w.heap.size s i ty hit hi
    have hd1 := decode_high s i hi (by omega)
    have hd2 := decode_max s i
    have hsk := decode_skip s i hi (by omega)
    obtain ⟨r, n, hd⟩ : ∃ r n, Utf8.decode s i = (r, n) := ⟨_, _, rfl⟩
    rw [hd] at hnx hd1 hd2 hsk
    simp only at hnx hd1 hd2 hsk
    obtain ⟨hr, hn⟩ := hd1
    obtain ⟨hle, _⟩ := hsk (i + n - 1) (by omega) (by omega)
    have HI2 := Lib.hid (Lib.iterAt_heap wr w.heap.size s i (i + n) hit)
    have HB2 := Lib.hid (Lib.below_iterAt HB.out (k := w.heap.size) (Nat.le_refl _) s (i + n))
    have HM := Lib.hid (show ∃ c ∈ s.data.toList, Bad c from ⟨_, mem_at s i hi, hi_bad (by omega)⟩)
    have HU := Lib.hid (noU_skip HN.out hsk)
    have HZ := Lib.hid (show w.heap.size < (wr.iterAt w.heap.size s (i + n)).heap.size from (Array.getElem?_eq_some_iff.1 HI2.out).1)
    clear hsk hit HB HN ha hd
    go_wp2_with fail
    refine (rune_hi r _ hr hd2).mono ?_
    rintro e w2 ⟨⟨v, rfl⟩, hb2⟩
    have HI3 := Lib.hid ((hb2.block _ HZ.out).trans HI2.out)
    have HB3 := Lib.hid (HB2.out.trans (hb2.mono HB2.out.size))
    clear hb2
    by_cases hv : 0 ≤ v
    ·go_wp2_with fail
     go_ret
     exact ⟨⟨_, rfl, fun _ => HM.out, fun h => absurd h (by omega)⟩, HB3.out⟩
    ·go_wp2_with fail
     go_roundg (s.size - (i + n))
     case measure => omega
     case rel => exact ⟨i + n, by omega, HI3.out, HB3.out, HU.out⟩
  ·obtain rfl : i = s.size := by omega
   have hnx := fun ty => Lib.run_next_end_at (P := Tryz.prog) wr w.heap.size s s.size ty hit (by omega)
   go_wp2
   go_ret
   exact ⟨⟨-1, rfl, fun h => absurd h (by omega), fun _ => noU_all HN.out⟩, HB.out⟩
theorem indexAny_spec (l : Bs) : (0 ≤ Lib.indexAny l CH.data.toList → ∃ c ∈ l, Upr c) ∧ (Lib.indexAny l CH.data.toList < 0 → ∀ c ∈ l, ¬ Upr c) := by
 induction l with
 | nil => exact ⟨fun h => by simp [Lib.indexAny] at h, fun _ c hc => by simp at hc⟩
 | cons b l ih =>
  have hb : CH.data.toList.contains b = true ↔ Upr b := by
   constructor
   ·intro h
    have : ∀ b ∈ CH.data.toList, 65 ≤ b.toNat ∧ b.toNat ≤ 70 := by decide
    exact this b (by simpa using h)
   ·rintro ⟨h1, h2⟩
    have : b.toNat = 65 ∨ b.toNat = 66 ∨ b.toNat = 67 ∨ b.toNat = 68 ∨ b.toNat = 69 ∨ b.toNat = 70 := by omega
    rcases this with h | h | h | h | h | h
    ·obtain rfl : b = 65 := UInt8.toNat_inj.1 h
     decide
    ·obtain rfl : b = 66 := UInt8.toNat_inj.1 h
     decide
    ·obtain rfl : b = 67 := UInt8.toNat_inj.1 h
     decide
    ·obtain rfl : b = 68 := UInt8.toNat_inj.1 h
     decide
    ·obtain rfl : b = 69 := UInt8.toNat_inj.1 h
     decide
    ·obtain rfl : b = 70 := UInt8.toNat_inj.1 h
     decide
  have hge := Lib.indexAny_ge CH.data.toList l
  by_cases hc : CH.data.toList.contains b = true
  ·simp only [Lib.indexAny, hc, if_true]
   exact ⟨fun _ => ⟨b, by simp, hb.1 hc⟩, fun h => absurd h (by omega)⟩
  ·simp only [Lib.indexAny, hc]
   simp only [Bool.false_eq_true, if_false]
   by_cases hm : Lib.indexAny l CH.data.toList = -1
   ·rw [hm]
    have := ih.2 (by omega)
    refine ⟨fun h => by simp at h, fun _ c hcm => ?_⟩
    rcases List.mem_cons.1 hcm with rfl | hcm
    ·exact fun hu => hc (hb.2 hu)
    ·exact this c hcm
   ·have h1 : (Lib.indexAny l CH.data.toList == -1) = false := by rw [beq_eq_false_iff_ne]; exact hm
    rw [h1]
    simp only [Bool.false_eq_true, if_false]
    refine ⟨fun _ => ?_, fun h => absurd h (by omega)⟩
    obtain ⟨c, hcm, hu⟩ := ih.1 (by omega)
    exact ⟨c, by simp [hcm], hu⟩
theorem set_zero : ∀ w, (zeroValue 274).run Tryz.prog w = .ok (.agg (Array.replicate 256 (.bool false))) w := fun _ => by kernel_rfl
theorem any_all (s : ByteArray) (w : World) (h : s.size < 4294967281) : Calls Tryz.prog 171 #[.string s, .string CH] w (AnyPost s w) := by
 by_cases h8 : s.size ≤ 8
 ·exact anyShort s w h8
 ·refine (Tryz.strings_IndexAny_long set_zero s CH w (by decide) (by omega) h (by decide) (fun j b hj => ch_low b (List.mem_of_getElem? hj))).mono ?_
  rintro e w' ⟨rfl, rfl⟩
  have := indexAny_spec s.data.toList
  exact ⟨⟨_, rfl, fun h => (by obtain ⟨c, h1, h2⟩ := this.1 h; exact ⟨c, h1, upr_bad h2⟩), this.2⟩, ((Below.refl _ _).alloc (Nat.le_refl _) _).alloc (by simp) _⟩
def CAnyPost (s : ByteArray) (w : World) (e : Ending) (w' : World) : Prop := (∃ v : Bool, e = .returned (.bool v) ∧ (v = true → ∃ c ∈ s.data.toList, Bad c) ∧ (v = false → ∀ c ∈ s.data.toList, ¬ Upr c)) ∧ Below w.heap.size w w'
theorem canyC (s : ByteArray) (w : World) (h : s.size < 4294967281) : Calls Tryz.prog 154 #[.string s, .string ⟨#[65, 66, 67, 68, 69, 70]⟩] w (CAnyPost s w) := by
 have hc : Calls Tryz.prog 171 #[.string s, .string ⟨#[65, 66, 67, 68, 69, 70]⟩] w (AnyPost s w) := any_all s w h
 clear h
 go_enter Tryz.func154, Tryz.ntmps154
 go_wp2_with fail
 refine hc.mono ?_
 rintro e w2 ⟨⟨v, rfl, h1, h2⟩, hb⟩
 have H1 := Lib.hid h1
 have H2 := Lib.hid h2
 have HB := Lib.hid hb
 clear h1 h2 hb
 by_cases hv : 0 ≤ v
 ·go_wp2_with fail
  go_ret
  exact ⟨⟨_, rfl, fun _ => H1.out hv, fun e => by simp at e⟩, HB.out⟩
 ·go_wp2_with fail
  go_ret
  exact ⟨⟨_, rfl, fun e => by simp at e; omega, fun _ => H2.out (by omega)⟩, HB.out⟩
end Go.Proofs.YtinofjbnfmalkaaGreatDoor
namespace Go.Proofs.YtinofjbnfmalkaaGreatDoor
open Go.RowKit
def parse16 (acc : Nat) : Bs → Lib.NumEnd Nat
 | [] => .ok acc
 | c :: r => match dig 16 c with
  | none => Lib.parseMag []
  | some d => if 18446744073709551616 ≤ acc * 16 + d then .range else parse16 (acc * 16 + d) r
theorem parse16_none (l : Bs) : ∀ acc, (∀ n, parse16 acc l ≠ .ok n) → horner 16 l acc = none := by
 induction l with
 | nil => intro acc h; exact absurd rfl (h acc)
 | cons c r ih =>
  intro acc h
  unfold horner
  unfold parse16 at h
  cases hd : dig 16 c with
  | none => rfl
  | some d =>
   simp only [hd] at h ⊢
   by_cases ho : 18446744073709551616 ≤ acc * 16 + d
   ·rw [if_neg (by omega)]
   ·rw [if_neg ho] at h
    rw [if_pos (by omega)]
    exact ih _ h
theorem parse16_ok (l : Bs) : ∀ acc n, parse16 acc l = .ok n → horner 16 l acc = some n := by
 induction l with
 | nil => intro acc n h; unfold parse16 at h; cases h; rfl
 | cons c r ih =>
  intro acc n h
  unfold horner
  unfold parse16 at h
  cases hd : dig 16 c with
  | none => simp only [hd] at h; unfold Lib.parseMag at h; rw [if_pos rfl] at h; cases h
  | some d =>
   simp only [hd] at h ⊢
   by_cases ho : 18446744073709551616 ≤ acc * 16 + d
   ·rw [if_pos ho] at h; cases h
   ·rw [if_neg ho] at h
    rw [if_pos (by omega)]
    exact ih _ _ h
theorem dig10 (c : UInt8) : dig 10 c = if 48 ≤ c.toNat ∧ c.toNat ≤ 57 then some (c.toNat - 48) else none := by
 unfold dig
 split
 ·rw [if_pos (by omega)]
 ·split
  ·rw [if_neg (by omega)]
  ·rfl
theorem parse10_none (l : Bs) : ∀ acc, (∀ n, Lib.parseUint10 acc l ≠ .ok n) → horner 10 l acc = none := by
 induction l with
 | nil => intro acc h; exact absurd rfl (h acc)
 | cons c r ih =>
  intro acc h
  unfold horner
  unfold Lib.parseUint10 at h
  rw [dig10]
  by_cases hd : 48 ≤ c.toNat ∧ c.toNat ≤ 57
  ·rw [if_pos hd] at h ⊢
   simp only
   by_cases ho : acc * 10 + (c.toNat - 48) < 18446744073709551616
   ·rw [if_neg (by omega), if_neg (by omega)] at h
    rw [if_pos ho]
    exact ih _ h
   ·rw [if_neg ho]
  ·rw [if_neg hd]
theorem parse10_ok (l : Bs) : ∀ acc n, Lib.parseUint10 acc l = .ok n → horner 10 l acc = some n := by
 induction l with
 | nil => intro acc n h; unfold Lib.parseUint10 at h; cases h; rfl
 | cons c r ih =>
  intro acc n h
  unfold horner
  unfold Lib.parseUint10 at h
  rw [dig10]
  by_cases hd : 48 ≤ c.toNat ∧ c.toNat ≤ 57
  ·rw [if_pos hd] at h ⊢
   simp only
   by_cases hc : 1844674407370955162 ≤ acc
   ·rw [if_pos hc] at h; cases h
   rw [if_neg hc] at h
   by_cases ho : 18446744073709551616 ≤ acc * 10 + (c.toNat - 48)
   ·rw [if_pos ho] at h; cases h
   rw [if_neg ho] at h
   rw [if_pos (by omega)]
   exact ih _ _ h
  ·rw [if_neg hd] at h; cases h
theorem low_all : ∀ n, n < 256 → (97 ≤ n → n ≤ 102 → n ||| 32 = n) ∧ (¬ (97 ≤ n ∧ n ≤ 102) → ¬ (65 ≤ n ∧ n ≤ 70) → ¬ (97 ≤ n ||| 32 ∧ n ||| 32 ≤ 102)) ∧ n ||| 32 < 256 := by decide +kernel
set_option maxHeartbeats 32000000 in
set_option maxRecDepth 100000 in
theorem pu16 (t : ByteArray) (hne : t.size ≠ 0) (hmax : t.size ≤ 9223372036854775806) (hup : ∀ c ∈ t.data.toList, ¬ (65 ≤ c.toNat ∧ c.toNat ≤ 70)) (w : World) :
  Calls Tryz.prog 172 #[.string t, .int .i64 16, .int .i64 64] w fun e w' => e = .returned (Lib.uintTuple 277 (parse16 0 t.data.toList)) ∧ w' = Lib.bytesWorld w 5 t := by
 have hemp : t.toList.isEmpty = false := by
  rw [← decide_eq_emptyBytes]
  exact decide_eq_false (fun h => hne (by rw [h]; rfl))
 have hcv := Lib.run_convert_string_bytes (P := Tryz.prog) w 9 24 5 t (u := .string) Tryz.underlying9 Tryz.underlying24 Tryz.underlying5
 have hB : ∀ j, j < t.size → (Lib.bytesWorld w 5 t).cell? ⟨w.heap.size, j, none⟩ = some (.int .u8 (t.data.toList.getD j 0).toNat) := fun j hj => Lib.bytesWorld_cell w 5 t j hj
 obtain ⟨W1, hW1⟩ : ∃ W1, W1 = Lib.bytesWorld w 5 t := ⟨_, rfl⟩
 rw [← hW1] at hcv hB ⊢
 clear hW1
 obtain ⟨bs, hL⟩ : ∃ bs, bs = t.data.toList := ⟨_, rfl⟩
 have hLn : bs.length = t.size := by rw [hL, Lib.size_eq]
 rw [← hL] at hB hup ⊢
 clear hL
 have hmv : IntKind.u64.wrap (IntKind.u64.wrap 18446744073709551616 - 1) = 18446744073709551615 := by
  rw [IntKind.wrap_u64, IntKind.wrap_u64]
  decide
 have Hup := Lib.hid hup
 clear hup
 go_enter Tryz.func172, Tryz.ntmps172
 go_wp2
 go_loop [12, 13, 101] (fun vu vn vi => ∃ (k acc : Nat) (a : Int), vu = .bool false ∧ vn = .int .u64 a ∧ vi = .int .i64 k ∧ k ≤ t.size ∧ Hid (a = (acc : Int) ∧ acc < 18446744073709551616 ∧ parse16 0 bs = parse16 acc (bs.drop k)))
  (fun _ _ vi => t.size - (intOf vi).toNat)
 case atStart => exact ⟨0, 0, 0, rfl, rfl, rfl, by omega, rfl, by omega, rfl⟩
 case round =>
  obtain ⟨k, acc, a, rfl, rfl, rfl, hk, hh⟩ := hrel
  obtain ⟨ha, hacc, hdec⟩ := hh.out
  clear hh
  have a0 : 0 ≤ a := by omega
  have a1 : a < 18446744073709551616 := by omega
  by_cases hkn : k < t.size
  ·have hc := hB k hkn
   have hdrop : bs.drop k = bs[k]'(by omega) :: bs.drop (k + 1) := List.drop_eq_getElem_cons (by omega)
   have hget : bs.getD k 0 = bs[k]'(by omega) := by simp [List.getD, List.getElem?_eq_getElem (show k < bs.length by omega)]
   have hupc := Hup.out (bs[k]'(by omega)) (List.getElem_mem _)
   rw [hdrop] at hdec
   rw [hget] at hc
   generalize bs[k]'(by omega) = c at hc hdec hupc
   have hc256 : c.toNat < 256 := c.toNat_lt
   have hlow := low_all c.toNat hc256
   clear hB hdrop hget
   obtain ⟨q, hq⟩ : ∃ q : Nat, q = c.toNat ||| 32 := ⟨_, rfl⟩
   have hqb : bits .or .u8 (c.toNat : Int) 32 = (q : Int) := by
    rw [hq]; exact u8_or_nat c.toNat 32 hc256 (by omega)
   rw [← hq] at hlow
   clear hq
   have hq256 : q < 256 := hlow.2.2
   by_cases hdig : (48 ≤ c.toNat ∧ c.toNat ≤ 57) ∨ (97 ≤ c.toNat ∧ c.toNat ≤ 102)
   ·obtain ⟨d, hd, hd16, hdc⟩ : ∃ d, dig 16 c = some d ∧ d < 16 ∧ ((48 ≤ c.toNat ∧ c.toNat ≤ 57 ∧ c.toNat = d + 48) ∨ (97 ≤ c.toNat ∧ c.toNat ≤ 102 ∧ q = d + 87 ∧ 97 ≤ q)) := by
     rcases hdig with h | h
     ·exact ⟨c.toNat - 48, by unfold dig; rw [if_pos h, if_pos (by omega)], by omega, .inl ⟨h.1, h.2, by omega⟩⟩
     ·refine ⟨c.toNat - 87, by unfold dig; rw [if_neg (by omega), if_pos (by omega), if_pos (by omega)], by omega, .inr ⟨h.1, h.2, ?_⟩⟩
      have := hlow.1 h.1 h.2
      omega
    clear hdig hlow hupc
    rcases hdc with ⟨hd0, hd1, hde⟩ | ⟨hd0, hd1, hde, hq97⟩
    ·clear hqb
     by_cases hcut : 1152921504606846976 ≤ acc
     ·have hF : parse16 acc (c :: bs.drop (k + 1)) = .range := by unfold parse16; rw [hd]; simp only; rw [if_pos (by omega)]
      rw [hF] at hdec
      have icut : 1152921504606846976 ≤ a := by omega
      clear hcut hacc hF ha hd
      go_wp2_with (go_at_call 187; refine (Tryz.internal_strconv_lower _ _).mono ?_; rintro e w' ⟨rfl, rfl⟩)
      go_ret2
      first | exact ⟨rfl, rfl⟩ | exact ⟨by rw [hdec]; rfl, rfl⟩
     ·by_cases hov : 18446744073709551616 ≤ acc * 16 + d
      ·omega
      ·have hF : parse16 acc (c :: bs.drop (k + 1)) = parse16 (acc * 16 + d) (bs.drop (k + 1)) := by rw [parse16, hd]; simp only; rw [if_neg hov]
       have HN : Hid (a * 16 + ((c.toNat : Int) - 48) = ((acc * 16 + d : Nat) : Int) ∧ acc * 16 + d < 18446744073709551616 ∧ parse16 0 bs = parse16 (acc * 16 + d) (bs.drop (k + 1))) := Lib.hid ⟨by omega, by omega, hdec.trans hF⟩
       have icut : a < 1152921504606846976 := by omega
       have iov : a * 16 + ((c.toNat : Int) - 48) < 18446744073709551616 := by omega
       clear hcut hacc hF hov hdec ha hd
       go_wp2_with (go_at_call 187; refine (Tryz.internal_strconv_lower _ _).mono ?_; rintro e w' ⟨rfl, rfl⟩)
       refine ⟨⟨k + 1, acc * 16 + d, a * 16 + ((c.toNat : Int) - 48), rfl, (by first | rfl | (congr 1; omega)), (by first | rfl | (congr 1; omega)), by omega, HN⟩, by simp [intOf]; omega⟩
    ·have hq102 : q ≤ 102 := by omega
     have hd0' : (57 : Int) < (c.toNat : Int) := by omega
     by_cases hcut : 1152921504606846976 ≤ acc
     ·have hF : parse16 acc (c :: bs.drop (k + 1)) = .range := by unfold parse16; rw [hd]; simp only; rw [if_pos (by omega)]
      rw [hF] at hdec
      have icut : 1152921504606846976 ≤ a := by omega
      clear hcut hacc hF ha hd
      go_wp2_with (go_at_call 187; refine (Tryz.internal_strconv_lower _ _).mono ?_; rintro e w' ⟨rfl, rfl⟩)
      go_ret2
      first | exact ⟨rfl, rfl⟩ | exact ⟨by rw [hdec]; rfl, rfl⟩
     ·by_cases hov : 18446744073709551616 ≤ acc * 16 + d
      ·omega
      ·have hF : parse16 acc (c :: bs.drop (k + 1)) = parse16 (acc * 16 + d) (bs.drop (k + 1)) := by rw [parse16, hd]; simp only; rw [if_neg hov]
       have HN : Hid (a * 16 + ((q : Int) - 97 + 10) = ((acc * 16 + d : Nat) : Int) ∧ acc * 16 + d < 18446744073709551616 ∧ parse16 0 bs = parse16 (acc * 16 + d) (bs.drop (k + 1))) := Lib.hid ⟨by omega, by omega, hdec.trans hF⟩
       have icut : a < 1152921504606846976 := by omega
       have iov : a * 16 + ((q : Int) - 97 + 10) < 18446744073709551616 := by omega
       clear hcut hacc hF hov hdec ha hd
       go_wp2_with (go_at_call 187; refine (Tryz.internal_strconv_lower _ _).mono ?_; rintro e w' ⟨rfl, rfl⟩)
       refine ⟨⟨k + 1, acc * 16 + d, a * 16 + ((q : Int) - 97 + 10), rfl, (by first | rfl | (congr 1; omega)), (by first | rfl | (congr 1; omega)), by omega, HN⟩, by simp [intOf]; omega⟩
   ·have hF : parse16 acc (c :: bs.drop (k + 1)) = Lib.parseMag [] := by
     have : dig 16 c = none := by
      unfold dig
      rw [if_neg (by omega)]
      split
      ·rw [if_neg (by omega)]
      ·rfl
     unfold parse16
     rw [this]
    rw [hF] at hdec
    have hno := hlow.2.1 (by omega) hupc
    have h48 : ¬ (48 ≤ c.toNat ∧ c.toNat ≤ 57) := by omega
    clear hacc hF ha hlow hupc hdig
    go_wp2_with (go_at_call 187; refine (Tryz.internal_strconv_lower _ _).mono ?_; rintro e w' ⟨rfl, rfl⟩)
    all_goals go_ret2
    all_goals first | exact ⟨rfl, rfl⟩ | exact ⟨by rw [hdec]; rfl, rfl⟩
  ·have hkk : k = t.size := by omega
   subst hkk
   have hF : parse16 acc (bs.drop t.size) = .ok acc := by rw [List.drop_eq_nil_of_le (by omega)]; rfl
   rw [hF] at hdec
   subst ha
   clear hacc hF a0 a1
   go_wp2
   go_ret2
   exact ⟨rfl, rfl⟩
end Go.Proofs.YtinofjbnfmalkaaGreatDoor
namespace Go.Proofs.YtinofjbnfmalkaaGreatDoor
open Go.RowKit
theorem cell_belowL {w w' : World} {b o : Nat} {v : Value} (h : w.cell? ⟨b, o, none⟩ = some v) (hb : Below w.heap.size w w') : w'.cell? ⟨b, o, none⟩ = some v := by
 have hl : b < w.heap.size := by
  rcases Nat.lt_or_ge b w.heap.size with h' | h'
  ·exact h'
  ·simp [World.cell?, Array.getElem?_eq_none h'] at h
 exact (hb.cell (p := ⟨b, o, none⟩) hl).trans h
structure LEnv (w : World) : Prop where
 syn : ∃ te pe, w.cell? ⟨8, 0, none⟩ = some (.iface te pe)
 rng : ∃ te pe, w.cell? ⟨9, 0, none⟩ = some (.iface te pe)
 ml : ∃ m, w.cell? ⟨3, 0, none⟩ = some (.int .i64 m)
theorem LEnv.below {w w' : World} (h : LEnv w) (hb : Below w.heap.size w w') : LEnv w' :=
 ⟨by obtain ⟨te, pe, h⟩ := h.syn; exact ⟨te, pe, cell_belowL h hb⟩, by obtain ⟨te, pe, h⟩ := h.rng; exact ⟨te, pe, cell_belowL h hb⟩, by obtain ⟨m, h⟩ := h.ml; exact ⟨m, cell_belowL h hb⟩⟩
def puRes (b : Nat) (t : Bs) : Option Nat := if t = [] then none else horner b t 0
def PuPost (b : Nat) (t : Bs) (w : World) (e : Ending) (w' : World) : Prop :=
 (match puRes b t with
 | some u => e = .returned (.tuple #[.int .u64 (u : Nat), .nilIface])
 | none => ∃ u N : Nat, e = .returned (.tuple #[.int .u64 (u : Nat), .iface 279 (.pointer (some ⟨N, 0, none⟩))])) ∧ Below w.heap.size w w'
theorem pu_some {b : Nat} {t : Bs} {w w' : World} {e : Ending} {u : Nat} (h : puRes b t = some u) (he : e = .returned (.tuple #[.int .u64 (u : Nat), .nilIface])) (hb : Below w.heap.size w w') : PuPost b t w e w' := ⟨by rw [h]; exact he, hb⟩
theorem pu_none {b : Nat} {t : Bs} {w w' : World} {e : Ending} (u N : Nat) (h : puRes b t = none) (he : e = .returned (.tuple #[.int .u64 (u : Nat), .iface 279 (.pointer (some ⟨N, 0, none⟩))])) (hb : Below w.heap.size w w') : PuPost b t w e w' := ⟨by rw [h]; exact ⟨u, N, he⟩, hb⟩
theorem puB_eq (l : Bs) : Lib.parseUintB 64 l = Lib.parseMag l := by
 unfold Lib.parseUintB Lib.parseMag
 split
 ·rfl
 ·exact Lib.parseUintM_64 l 0
theorem pub10 (t : ByteArray) (w : World) (hmax : t.size ≤ 100000) (E : LEnv w) : Calls Tryz.prog 155 #[.string t, .int .i64 10, .int .i64 64] w (PuPost 10 t.data.toList w) := by
 have hq := puB_eq t.data.toList
 cases h : Lib.parseMag t.data.toList with
 | ok u =>
  rw [h] at hq
  refine (Tryz.strconv_ParseUint_10_at64_ok t (by omega) u hq w).mono ?_
  rintro e w' ⟨he, hw⟩
  unfold Lib.parseMag at h
  split at h
  ·cases h
  ·rename_i hne
   refine pu_some (by unfold puRes; rw [if_neg hne]; exact parse10_ok _ _ _ h) he ?_
   rcases hw with rfl | rfl
   ·exact Below.refl _ _
   ·exact Lib.bytesWorld_below _ _ _
 | range =>
  rw [h] at hq
  obtain ⟨te, pe, hc⟩ := E.rng
  refine (Tryz.strconv_ParseUint_10_at64_range t (by omega) hq _ w hc (.inr ⟨te, pe, rfl⟩)).mono ?_
  rintro e w' ⟨N, he, _, _, hb⟩
  refine pu_none 18446744073709551615 N ?_ he hb
  unfold puRes
  split
  ·rfl
  ·rename_i hne
   exact parse10_none _ _ (fun n hn => by unfold Lib.parseMag at h; rw [if_neg hne, hn] at h; cases h)
 | _ =>
  rw [h] at hq
  obtain ⟨te, pe, hc⟩ := E.syn
  refine (Tryz.strconv_ParseUint_10_at64_syntax t (by omega) hq _ w hc (.inr ⟨te, pe, rfl⟩)).mono ?_
  rintro e w' ⟨N, he, _, _, hb⟩
  refine pu_none 0 N ?_ he hb
  unfold puRes
  split
  ·rfl
  ·rename_i hne
   exact parse10_none _ _ (fun n hn => by unfold Lib.parseMag at h; rw [if_neg hne, hn] at h; cases h)
set_option maxRecDepth 100000 in
set_option maxHeartbeats 1000000 in
theorem pu16_empty (t : ByteArray) (h : t.data.toList = []) (w : World) : Calls Tryz.prog 172 #[.string t, .int .i64 16, .int .i64 64] w fun e w' => e = .returned (.tuple #[.int .u64 0, .iface 277 (.int .i64 2)]) ∧ w = w' := by
 have hb : t.toList.isEmpty = true := by rw [Lib.toList_data, h]; rfl
 clear h
 go_enter Tryz.func172, Tryz.ntmps172
 go_wp2
 go_ret2
 exact ⟨rfl, rfl⟩
set_option maxHeartbeats 1000000 in
theorem pub16 (t : ByteArray) (w : World) (hmax : t.size ≤ 100000) (E : LEnv w) (hup : ∀ c ∈ t.data.toList, ¬ Upr c) : Calls Tryz.prog 155 #[.string t, .int .i64 16, .int .i64 64] w (PuPost 16 t.data.toList w) := by
 have HE := Lib.hid E
 have HU := Lib.hid hup
 clear hup E
 by_cases hne : t.data.toList = []
 ·have hi := fun W => pu16_empty t hne W
  have HN := Lib.hid (show puRes 16 t.data.toList = none by unfold puRes; rw [if_pos hne])
  clear hne
  obtain ⟨te, pe, hc⟩ := HE.out.syn
  have herr := Tryz.strconv_toError_syntax ⟨#[80, 97, 114, 115, 101, 85, 105, 110, 116]⟩ t 16 64 _ w (by omega) hc (.inr ⟨te, pe, rfl⟩)
  clear hc
  go_enter Tryz.func155, Tryz.ntmps155
  go_wp2_with fail
  refine (hi _).mono ?_
  rintro e w' ⟨rfl, rfl⟩
  go_wp2_with fail
  refine herr.mono ?_
  rintro e w' ⟨N, rfl, _, _, hb⟩
  have HB := Lib.hid hb
  clear hb
  go_wp2_with fail
  go_ret2
  exact pu_none 0 N HN.out rfl HB.out
 ·have hsz : t.size ≠ 0 := fun e => hne (List.length_eq_zero_iff.1 (by rw [← Lib.size_eq]; exact e))
  have hi := pu16 t hsz (by omega) (fun c hc h => HU.out c hc h) w
  have HB0 := Lib.hid (Lib.bytesWorld_below w 5 t)
  have HNE := Lib.hid hne
  clear hne hsz
  cases hp : parse16 0 t.data.toList with
  | ok u =>
   have HN := Lib.hid (show puRes 16 t.data.toList = some u by unfold puRes; rw [if_neg HNE.out]; exact parse16_ok _ _ _ hp)
   rw [hp] at hi
   clear hp
   generalize Lib.bytesWorld w 5 t = W1 at hi HB0
   go_enter Tryz.func155, Tryz.ntmps155
   go_wp2_with fail
   refine hi.mono ?_
   rintro e w' ⟨rfl, rfl⟩
   simp only [Lib.uintTuple]
   go_wp2_with fail
   go_ret2
   exact pu_some HN.out rfl HB0.out
  | range =>
   have HN := Lib.hid (show puRes 16 t.data.toList = none by unfold puRes; rw [if_neg HNE.out]; exact parse16_none _ _ (fun n hn => by rw [hp] at hn; cases hn))
   rw [hp] at hi
   clear hp
   obtain ⟨te, pe, hc⟩ := (HE.out.below HB0.out).rng
   have herr := Tryz.strconv_toError_range ⟨#[80, 97, 114, 115, 101, 85, 105, 110, 116]⟩ t 16 64 _ _ (by omega) hc (.inr ⟨te, pe, rfl⟩)
   clear hc
   generalize Lib.bytesWorld w 5 t = W1 at hi HB0 herr
   go_enter Tryz.func155, Tryz.ntmps155
   go_wp2_with fail
   refine hi.mono ?_
   rintro e w' ⟨rfl, rfl⟩
   simp only [Lib.uintTuple]
   go_wp2_with fail
   refine herr.mono ?_
   rintro e w2 ⟨N, rfl, _, _, hb⟩
   have HB := Lib.hid (HB0.out.trans (hb.mono HB0.out.size))
   clear hb
   go_wp2_with fail
   go_ret2
   exact pu_none 18446744073709551615 N HN.out rfl HB.out
  | _ =>
   have HN := Lib.hid (show puRes 16 t.data.toList = none by unfold puRes; rw [if_neg HNE.out]; exact parse16_none _ _ (fun n hn => by rw [hp] at hn; cases hn))
   rw [hp] at hi
   clear hp
   obtain ⟨te, pe, hc⟩ := (HE.out.below HB0.out).syn
   have herr := Tryz.strconv_toError_syntax ⟨#[80, 97, 114, 115, 101, 85, 105, 110, 116]⟩ t 16 64 _ _ (by omega) hc (.inr ⟨te, pe, rfl⟩)
   clear hc
   generalize Lib.bytesWorld w 5 t = W1 at hi HB0 herr
   go_enter Tryz.func155, Tryz.ntmps155
   go_wp2_with fail
   refine hi.mono ?_
   rintro e w' ⟨rfl, rfl⟩
   simp only [Lib.uintTuple]
   go_wp2_with fail
   refine herr.mono ?_
   rintro e w2 ⟨N, rfl, _, _, hb⟩
   have HB := Lib.hid (HB0.out.trans (hb.mono HB0.out.size))
   clear hb
   go_wp2_with fail
   go_ret2
   exact pu_none 0 N HN.out rfl HB.out
theorem pub (b : Nat) (hb : b = 10 ∨ b = 16) (t : ByteArray) (w : World) (hmax : t.size ≤ 100000) (E : LEnv w) (hup : ∀ c ∈ t.data.toList, ¬ Upr c) : Calls Tryz.prog 155 #[.string t, .int .i64 b, .int .i64 64] w (PuPost b t.data.toList w) := by
 rcases hb with rfl | rfl
 ·exact pub10 t w hmax E
 ·exact pub16 t w hmax E hup
theorem horner_bad (b : Nat) (hb : b ≤ 16) : ∀ (l : Bs) (n : Nat), (∃ c ∈ l, Bad c) → horner b l n = none
 | [], n, h => by obtain ⟨c, hc, _⟩ := h; simp at hc
 | c :: l, n, h => by
  unfold horner
  cases hd : dig b c with
  | none => rfl
  | some d =>
   simp only
   split
   ·obtain ⟨x, hx, hbad⟩ := h
    rcases List.mem_cons.1 hx with rfl | hx
    ·exfalso
     obtain ⟨h1, h2⟩ := hbad
     unfold dig at hd
     rw [if_neg h1] at hd
     split at hd
     ·split at hd
      ·omega
      ·cases hd
     ·cases hd
    ·exact horner_bad b hb l _ ⟨x, hx, hbad⟩
   ·rfl
def NumPost (s : Bs) (w : World) (e : Ending) (w' : World) : Prop :=
 (match number s with
 | some u => e = .returned (.tuple #[.int .u64 (u : Nat), .bool true])
 | none => e = .returned (.tuple #[.int .u64 0, .bool false])) ∧ Below w.heap.size w w'
theorem num_someL {s : Bs} {w w' : World} {e : Ending} {u : Nat} (h : number s = some u) (he : e = .returned (.tuple #[.int .u64 (u : Nat), .bool true])) (hb : Below w.heap.size w w') : NumPost s w e w' := ⟨by rw [h]; exact he, hb⟩
theorem num_none {s : Bs} {w w' : World} {e : Ending} (h : number s = none) (he : e = .returned (.tuple #[.int .u64 0, .bool false])) (hb : Below w.heap.size w w') : NumPost s w e w' := ⟨by rw [h]; exact he, hb⟩
def numDL (b : Nat) (d : Bs) : Option Nat := if 1 < d.length ∧ d.head? = some 48 then none else puRes b d
theorem number_eq (s : Bs) : number s = numDL (base s) (digits s) := rfl
def CutR (s : ByteArray) (b : Nat) (D : ByteArray) (w : World) : Prop := Calls Tryz.prog 84 #[.string s, .string ⟨#[48, 120]⟩] w fun e w' => e = .returned (.tuple #[.string D, .bool (decide (b = 16))]) ∧ w' = w
theorem cut_any (s : ByteArray) (w : World) : ∃ (b : Nat) (D : ByteArray), (b = 10 ∨ b = 16) ∧ base s.data.toList = b ∧ D.data.toList = digits s.data.toList ∧ D.size ≤ s.size ∧ (b = 10 → D = s) ∧ CutR s b D w := by
 have hc := Tryz.strings_CutPrefix s ⟨#[48, 120]⟩ w
 unfold CutR
 by_cases hx : hexed s.data.toList = true
 ·refine ⟨16, ⟨(Lib.trimPrefix s.data.toList [48, 120]).toArray⟩, .inr rfl, by unfold base; rw [if_pos hx], ?_, ?_, fun h => by omega, ?_⟩
  ·unfold digits
   rw [if_pos hx]
   unfold Lib.trimPrefix
   unfold hexed at hx
   rw [hx]
   simp
  ·rw [Lib.size_eq, Lib.size_eq]
   unfold Lib.trimPrefix
   split <;> simp
  ·refine hc.mono ?_
   rintro e w' ⟨rfl, rfl⟩
   unfold hexed at hx
   refine ⟨?_, rfl⟩
   rw [show ((⟨#[48, 120]⟩ : ByteArray).data.toList) = [48, 120] from rfl, hx]
   rfl
 ·have hx' : hexed s.data.toList = false := by simpa using hx
  refine ⟨10, s, .inl rfl, by unfold base; rw [if_neg hx], ?_, Nat.le_refl _, fun _ => rfl, ?_⟩
  ·unfold digits; rw [if_neg hx]
  ·refine hc.mono ?_
   rintro e w' ⟨rfl, rfl⟩
   unfold hexed at hx'
   refine ⟨?_, rfl⟩
   rw [show ((⟨#[48, 120]⟩ : ByteArray).data.toList) = [48, 120] from rfl, hx']
   unfold Lib.trimPrefix
   rw [hx']
   rfl
end Go.Proofs.YtinofjbnfmalkaaGreatDoor
namespace Go.Proofs.YtinofjbnfmalkaaGreatDoor
open Go.RowKit
theorem numD_short {b : Nat} {d : Bs} (h : d.length ≤ 1) : numDL b d = puRes b d := by unfold numDL; rw [if_neg (by omega)]
theorem numD_zero {b : Nat} {d : Bs} (h : 1 < d.length) (h2 : d.head? = some 48) : numDL b d = none := by unfold numDL; rw [if_pos ⟨h, h2⟩]
theorem numD_other {b : Nat} {d : Bs} (h2 : d.head? ≠ some 48) : numDL b d = puRes b d := by unfold numDL; rw [if_neg (fun e => h2 e.2)]
theorem puRes_bad {b : Nat} {d : Bs} (hb : b = 10 ∨ b = 16) (h : ∃ c ∈ d, Bad c) : puRes b d = none := by
 unfold puRes
 split
 ·rfl
 ·exact horner_bad b (by omega) d 0 h
theorem head_at (D : ByteArray) (h : 1 < D.size) : D.data.toList.head? = some (D[0]'(by omega)) := by
 have : D.data.toList[0]? = some (D[0]'(by omega)) := Lib.data_getElem? D 0 (by omega)
 rw [← this, List.head?_eq_getElem?]
set_option maxHeartbeats 2000000 in
theorem number_any (s : ByteArray) (w : World) (hs : s.size ≤ 100000) (E : LEnv w) : Calls Tryz.prog 128 #[.string s] w (NumPost s.data.toList w) := by
 obtain ⟨b, D, hb, hbase, hD, hsz, hs10, hcut⟩ := cut_any s w
 have HN := Lib.hid (show number s.data.toList = numDL b D.data.toList by rw [number_eq, hbase, hD])
 have HE := Lib.hid E
 have hDs : D.size ≤ 100000 := by omega
 clear E hbase hD
 rcases hb with rfl | rfl
 ·obtain rfl := hs10 rfl
  have hcut' : Calls Tryz.prog 84 #[.string D, .string ⟨#[48, 120]⟩] w fun e w' => e = .returned (.tuple #[.string D, .bool false]) ∧ w' = w := hcut
  clear hcut hs10
  by_cases h1 : D.size ≤ 1
  ·have hg : decide ((1 : Int) < (D.size : Int)) = false := decide_eq_false (by omega)
   have HD := Lib.hid (HN.out.trans (numD_short (by rw [← Lib.size_eq]; exact h1)))
   go_enter Tryz.func128, Tryz.ntmps128
   go_wp2_with fail
   refine hcut'.mono ?_
   rintro e w' ⟨rfl, rfl⟩
   go_wp2_with fail
   refine (canyC D _ (by omega)).mono ?_
   rintro e w1 ⟨⟨v, rfl, hv1, hv2⟩, hb1⟩
   have HV1 := Lib.hid hv1
   have HV2 := Lib.hid hv2
   have HB1 := Lib.hid hb1
   clear hv1 hv2 hb1
   cases v with
   | true =>
    go_wp2_with fail
    go_ret2
    exact num_none (by rw [HD.out]; exact puRes_bad (.inl rfl) (HV1.out trivial)) rfl HB1.out
   | false =>
    go_wp2_with fail
    refine (pub 10 (.inl rfl) D _ hDs (HE.out.below HB1.out) (HV2.out trivial)).mono ?_
    rintro e w2 ⟨hp, hb2⟩
    have HB2 := Lib.hid (HB1.out.trans (hb2.mono HB1.out.size))
    clear hb2
    cases hq : puRes 10 D.data.toList with
    | some u =>
     have HD := Lib.hid (HD.out.trans hq)
     rw [hq] at hp
     clear hq
     subst hp
     go_wp2_with fail
     go_ret2
     exact num_someL HD.out rfl HB2.out
    | none =>
     have HD := Lib.hid (HD.out.trans hq)
     rw [hq] at hp
     clear hq
     obtain ⟨u, N, rfl⟩ := hp
     go_wp2_with fail
     go_ret2
     exact num_none HD.out rfl HB2.out
  ·have hg : decide ((1 : Int) < (D.size : Int)) = true := decide_eq_true (by omega)
   have hh := head_at D (by omega)
   have h0s : 0 < D.size := by omega
   by_cases h0 : D[0]'(by omega) = 48
   ·have HD := Lib.hid (HN.out.trans (numD_zero (by rw [← Lib.size_eq]; omega) (hh.trans (by rw [h0]))))
    have hc0 : (((D[0]'h0s).toNat : Int) == 48) = true := by rw [h0]; rfl
    clear hh h0
    go_enter Tryz.func128, Tryz.ntmps128
    go_wp2_with fail
    refine hcut'.mono ?_
    rintro e w' ⟨rfl, rfl⟩
    go_wp2_with fail
    go_ret2
    exact num_none HD.out rfl (Below.refl _ _)
   ·have HD := Lib.hid (HN.out.trans (numD_other (fun e => h0 (Option.some.inj (hh.symm.trans e)))))
    have hc0 : (((D[0]'h0s).toNat : Int) == 48) = false := by
     rw [beq_eq_false_iff_ne]
     intro e
     exact h0 (UInt8.toNat_inj.1 (by show (D[0]'h0s).toNat = 48; omega))
    clear hh h0
    go_enter Tryz.func128, Tryz.ntmps128
    go_wp2_with fail
    refine hcut'.mono ?_
    rintro e w' ⟨rfl, rfl⟩
    go_wp2_with fail
    refine (canyC D _ (by omega)).mono ?_
    rintro e w1 ⟨⟨v, rfl, hv1, hv2⟩, hb1⟩
    have HV1 := Lib.hid hv1
    have HV2 := Lib.hid hv2
    have HB1 := Lib.hid hb1
    clear hv1 hv2 hb1
    cases v with
    | true =>
     go_wp2_with fail
     go_ret2
     exact num_none (by rw [HD.out]; exact puRes_bad (.inl rfl) (HV1.out trivial)) rfl HB1.out
    | false =>
     go_wp2_with fail
     refine (pub 10 (.inl rfl) D _ hDs (HE.out.below HB1.out) (HV2.out trivial)).mono ?_
     rintro e w2 ⟨hp, hb2⟩
     have HB2 := Lib.hid (HB1.out.trans (hb2.mono HB1.out.size))
     clear hb2
     cases hq : puRes 10 D.data.toList with
     | some u =>
      have HD := Lib.hid (HD.out.trans hq)
      rw [hq] at hp
      clear hq
      subst hp
      go_wp2_with fail
      go_ret2
      exact num_someL HD.out rfl HB2.out
     | none =>
      have HD := Lib.hid (HD.out.trans hq)
      rw [hq] at hp
      clear hq
      obtain ⟨u, N, rfl⟩ := hp
      go_wp2_with fail
      go_ret2
      exact num_none HD.out rfl HB2.out
 ·clear hs10
  have hcut' : Calls Tryz.prog 84 #[.string s, .string ⟨#[48, 120]⟩] w fun e w' => e = .returned (.tuple #[.string D, .bool true]) ∧ w' = w := hcut
  clear hcut
  by_cases h1 : D.size ≤ 1
  ·have hg : decide ((1 : Int) < (D.size : Int)) = false := decide_eq_false (by omega)
   have HD := Lib.hid (HN.out.trans (numD_short (by rw [← Lib.size_eq]; exact h1)))
   go_enter Tryz.func128, Tryz.ntmps128
   go_wp2_with fail
   refine hcut'.mono ?_
   rintro e w' ⟨rfl, rfl⟩
   go_wp2_with fail
   refine (canyC D _ (by omega)).mono ?_
   rintro e w1 ⟨⟨v, rfl, hv1, hv2⟩, hb1⟩
   have HV1 := Lib.hid hv1
   have HV2 := Lib.hid hv2
   have HB1 := Lib.hid hb1
   clear hv1 hv2 hb1
   cases v with
   | true =>
    go_wp2_with fail
    go_ret2
    exact num_none (by rw [HD.out]; exact puRes_bad (.inr rfl) (HV1.out trivial)) rfl HB1.out
   | false =>
    go_wp2_with fail
    refine (pub 16 (.inr rfl) D _ hDs (HE.out.below HB1.out) (HV2.out trivial)).mono ?_
    rintro e w2 ⟨hp, hb2⟩
    have HB2 := Lib.hid (HB1.out.trans (hb2.mono HB1.out.size))
    clear hb2
    cases hq : puRes 16 D.data.toList with
    | some u =>
     have HD := Lib.hid (HD.out.trans hq)
     rw [hq] at hp
     clear hq
     subst hp
     go_wp2_with fail
     go_ret2
     exact num_someL HD.out rfl HB2.out
    | none =>
     have HD := Lib.hid (HD.out.trans hq)
     rw [hq] at hp
     clear hq
     obtain ⟨u, N, rfl⟩ := hp
     go_wp2_with fail
     go_ret2
     exact num_none HD.out rfl HB2.out
  ·have hg : decide ((1 : Int) < (D.size : Int)) = true := decide_eq_true (by omega)
   have hh := head_at D (by omega)
   have h0s : 0 < D.size := by omega
   by_cases h0 : D[0]'(by omega) = 48
   ·have HD := Lib.hid (HN.out.trans (numD_zero (by rw [← Lib.size_eq]; omega) (hh.trans (by rw [h0]))))
    have hc0 : (((D[0]'h0s).toNat : Int) == 48) = true := by rw [h0]; rfl
    clear hh h0
    go_enter Tryz.func128, Tryz.ntmps128
    go_wp2_with fail
    refine hcut'.mono ?_
    rintro e w' ⟨rfl, rfl⟩
    go_wp2_with fail
    go_ret2
    exact num_none HD.out rfl (Below.refl _ _)
   ·have HD := Lib.hid (HN.out.trans (numD_other (fun e => h0 (Option.some.inj (hh.symm.trans e)))))
    have hc0 : (((D[0]'h0s).toNat : Int) == 48) = false := by
     rw [beq_eq_false_iff_ne]
     intro e
     exact h0 (UInt8.toNat_inj.1 (by show (D[0]'h0s).toNat = 48; omega))
    clear hh h0
    go_enter Tryz.func128, Tryz.ntmps128
    go_wp2_with fail
    refine hcut'.mono ?_
    rintro e w' ⟨rfl, rfl⟩
    go_wp2_with fail
    refine (canyC D _ (by omega)).mono ?_
    rintro e w1 ⟨⟨v, rfl, hv1, hv2⟩, hb1⟩
    have HV1 := Lib.hid hv1
    have HV2 := Lib.hid hv2
    have HB1 := Lib.hid hb1
    clear hv1 hv2 hb1
    cases v with
    | true =>
     go_wp2_with fail
     go_ret2
     exact num_none (by rw [HD.out]; exact puRes_bad (.inr rfl) (HV1.out trivial)) rfl HB1.out
    | false =>
     go_wp2_with fail
     refine (pub 16 (.inr rfl) D _ hDs (HE.out.below HB1.out) (HV2.out trivial)).mono ?_
     rintro e w2 ⟨hp, hb2⟩
     have HB2 := Lib.hid (HB1.out.trans (hb2.mono HB1.out.size))
     clear hb2
     cases hq : puRes 16 D.data.toList with
     | some u =>
      have HD := Lib.hid (HD.out.trans hq)
      rw [hq] at hp
      clear hq
      subst hp
      go_wp2_with fail
      go_ret2
      exact num_someL HD.out rfl HB2.out
     | none =>
      have HD := Lib.hid (HD.out.trans hq)
      rw [hq] at hp
      clear hq
      obtain ⟨u, N, rfl⟩ := hp
      go_wp2_with fail
      go_ret2
      exact num_none HD.out rfl HB2.out
end Go.Proofs.YtinofjbnfmalkaaGreatDoor
namespace Go.Proofs.YtinofjbnfmalkaaGreatDoor
open Go.RowKit
theorem sgn_ix : ∀ c : UInt8, decide (0 ≤ Lib.indexByte [61, 33, 60, 62, 38] c) = sgn c.toNat := by
 intro c
 by_cases h1 : c = 61
 ·subst h1; rfl
 by_cases h2 : c = 33
 ·subst h2; rfl
 by_cases h3 : c = 60
 ·subst h3; rfl
 by_cases h4 : c = 62
 ·subst h4; rfl
 by_cases h5 : c = 38
 ·subst h5; rfl
 have hn : ∀ d : UInt8, ¬ c = d → (d == c) = false ∧ (c.toNat == d.toNat) = false := fun d h => ⟨by simpa using fun e => h e.symm, by rw [beq_eq_false_iff_ne]; exact fun e => h (UInt8.toNat_inj.1 e)⟩
 have n1 := hn 61 h1
 have n2 := hn 33 h2
 have n3 := hn 60 h3
 have n4 := hn 62 h4
 have n5 := hn 38 h5
 have hs : sgn c.toNat = false := by
  show (c.toNat == (61 : UInt8).toNat || (c.toNat == (33 : UInt8).toNat || (c.toNat == (60 : UInt8).toNat || (c.toNat == (62 : UInt8).toNat || c.toNat == (38 : UInt8).toNat)))) = false
  rw [n1.2, n2.2, n3.2, n4.2, n5.2]; rfl
 rw [hs]
 simp [Lib.indexByte, n1.1, n2.1, n3.1, n4.1, n5.1]
theorem ix_any (c : Nat) (hc : c < 256) (w : World) : Calls Tryz.prog 153 #[.string ⟨#[61, 33, 60, 62, 38]⟩, .int .u8 c] w fun e w' => (∃ v : Int, e = .returned (.int .i64 v) ∧ decide (0 ≤ v) = sgn c) ∧ w = w' := by
 refine (Tryz.strings_IndexByte ⟨#[61, 33, 60, 62, 38]⟩ (c : Int) w).mono ?_
 rintro e w' ⟨rfl, rfl⟩
 refine ⟨⟨_, rfl, ?_⟩, rfl⟩
 have := sgn_ix (UInt8.ofNat c)
 rw [show (UInt8.ofNat c).toNat = c by simp; omega] at this
 rw [← this]
 rfl
set_option maxHeartbeats 1000000 in
theorem has_any (k c : Nat) (hk : 1 ≤ k ∧ k ≤ 4) (hc : c < 256) (w : World) : Calls Tryz.prog 127 #[.int .u8 k, .int .u8 c] w (Says (hasB k c) w) := by
 have hl := fun W => letter_any c W
 have hd := fun W => digit_any c W
 have hp := fun W => printable_any c W
 have hx := fun W => ix_any c hc W
 rcases (by omega : k = 1 ∨ k = 2 ∨ k = 3 ∨ k = 4) with rfl | rfl | rfl | rfl
 ·clear hp hx
  rw [show hasB 1 c = (isL c || (isD c || (c == 45 || (c == 95 || c == 44)))) from rfl]
  cases h1 : isL c with
  | true =>
   rw [h1] at hl
   clear h1 hd
   go_enter Tryz.func127, Tryz.ntmps127
   go_wp2_with fail
   refine (hl _).mono ?_
   rintro e w' ⟨rfl, rfl⟩
   go_wp2_with fail
   go_ret
   exact ⟨rfl, rfl⟩
  | false =>
   rw [h1] at hl
   clear h1
   cases h2 : isD c with
   | true =>
    rw [h2] at hd
    clear h2
    go_enter Tryz.func127, Tryz.ntmps127
    go_wp2_with fail
    refine (hl _).mono ?_
    rintro e w' ⟨rfl, rfl⟩
    go_wp2_with fail
    refine (hd _).mono ?_
    rintro e w' ⟨rfl, rfl⟩
    go_wp2_with fail
    go_ret
    exact ⟨rfl, rfl⟩
   | false =>
    rw [h2] at hd
    clear h2
    by_cases h3 : c = 45
    ·subst h3
     go_enter Tryz.func127, Tryz.ntmps127
     go_wp2_with fail
     refine (hl _).mono ?_
     rintro e w' ⟨rfl, rfl⟩
     go_wp2_with fail
     refine (hd _).mono ?_
     rintro e w' ⟨rfl, rfl⟩
     go_wp2_with fail
     go_ret
     exact ⟨rfl, rfl⟩
    by_cases h4 : c = 95
    ·subst h4
     go_enter Tryz.func127, Tryz.ntmps127
     go_wp2_with fail
     refine (hl _).mono ?_
     rintro e w' ⟨rfl, rfl⟩
     go_wp2_with fail
     refine (hd _).mono ?_
     rintro e w' ⟨rfl, rfl⟩
     go_wp2_with fail
     go_ret
     exact ⟨rfl, rfl⟩
    by_cases h5 : c = 44
    ·subst h5
     go_enter Tryz.func127, Tryz.ntmps127
     go_wp2_with fail
     refine (hl _).mono ?_
     rintro e w' ⟨rfl, rfl⟩
     go_wp2_with fail
     refine (hd _).mono ?_
     rintro e w' ⟨rfl, rfl⟩
     go_wp2_with fail
     go_ret
     exact ⟨rfl, rfl⟩
    ·have g3 : ((c : Int) == 45) = false := ne_lit h3
     have g4 : ((c : Int) == 95) = false := ne_lit h4
     have g5 : ((c : Int) == 44) = false := ne_lit h5
     have e1 : (c == 45 || (c == 95 || c == 44)) = false := by simp [h3, h4, h5]
     rw [e1]
     clear h3 h4 h5 e1
     go_enter Tryz.func127, Tryz.ntmps127
     go_wp2_with fail
     refine (hl _).mono ?_
     rintro e w' ⟨rfl, rfl⟩
     go_wp2_with fail
     refine (hd _).mono ?_
     rintro e w' ⟨rfl, rfl⟩
     go_wp2_with fail
     go_ret
     exact ⟨rfl, rfl⟩
 ·clear hp hx
  rw [show hasB 2 c = (isL c || isD c) from rfl]
  cases h1 : isL c with
  | true =>
   rw [h1] at hl
   clear h1 hd
   go_enter Tryz.func127, Tryz.ntmps127
   go_wp2_with fail
   refine (hl _).mono ?_
   rintro e w' ⟨rfl, rfl⟩
   go_wp2_with fail
   go_ret
   exact ⟨rfl, rfl⟩
  | false =>
   rw [h1] at hl
   clear h1
   go_enter Tryz.func127, Tryz.ntmps127
   go_wp2_with fail
   refine (hl _).mono ?_
   rintro e w' ⟨rfl, rfl⟩
   go_wp2_with fail
   refine (hd _).mono ?_
   rintro e w' ⟨rfl, rfl⟩
   go_wp2_with fail
   go_ret
   exact ⟨rfl, rfl⟩
 ·clear hl hd hx
  rw [show hasB 3 c = prn c from rfl]
  go_enter Tryz.func127, Tryz.ntmps127
  go_wp2_with fail
  refine (hp _).mono ?_
  rintro e w' ⟨rfl, rfl⟩
  go_wp2_with fail
  go_ret
  exact ⟨rfl, rfl⟩
 ·clear hl hd hp
  rw [show hasB 4 c = sgn c from rfl]
  go_enter Tryz.func127, Tryz.ntmps127
  go_wp2_with fail
  refine (hx _).mono ?_
  rintro e w' ⟨⟨v, rfl, hv⟩, rfl⟩
  have HV := Lib.hid hv
  clear hv
  go_wp2_with fail
  go_ret
  exact ⟨by rw [← HV.out]; rfl, rfl⟩
end Go.Proofs.YtinofjbnfmalkaaGreatDoor
namespace Go.Proofs.YtinofjbnfmalkaaGreatDoor
open Go.RowKit
theorem idx_at (s : Bs) (k : Nat) (c : UInt8) (h : s[k]? = some c) (W : World) : (Instr.index 9 (.string ⟨s.toArray⟩) (.int .i64 (k : Int))).run Tryz.prog W = .ok (.int .u8 (c.toNat : Int)) W := by
 obtain ⟨h1, h2⟩ := List.getElem?_eq_some_iff.1 h
 have := str_index ⟨s.toArray⟩ k (by rw [Lib.size_eq]; simpa using h1) W
 rw [this]
 have e : (⟨s.toArray⟩ : ByteArray)[k]'(by rw [Lib.size_eq]; simpa using h1) = s[k]'h1 := rfl
 rw [e, h2]
theorem tw_get {p : Nat → Bool} {u : Bs} {j : Nat} (h : j < (tw p u).length) : ∃ c, u[j]? = some c ∧ p c.toNat = true := by
 refine ⟨(tw p u)[j], ?_, tw_all p u _ (List.getElem_mem h)⟩
 have h1 : (tw p u ++ dw p u)[j]? = u[j]? := by rw [tw_dw]
 rw [List.getElem?_append_left h] at h1
 rw [← h1, List.getElem?_eq_getElem h]
theorem dw_head {p : Nat → Bool} (u : Bs) {c : UInt8} {r : Bs} (h : dw p u = c :: r) : p c.toNat = false := by
 unfold dw at h
 induction u with
 | nil => simp at h
 | cons x u ih =>
  rw [List.dropWhile_cons] at h
  split at h
  ·exact ih h
  ·rename_i hx; simp only [List.cons.injEq] at h; obtain ⟨rfl, _⟩ := h; simpa using hx
theorem tw_end {p : Nat → Bool} (u : Bs) : (u.length = (tw p u).length) ∨ ∃ c, u[(tw p u).length]? = some c ∧ p c.toNat = false := by
 cases hd : dw p u with
 | nil => left; have := congrArg List.length (tw_dw p u); rw [hd] at this; simpa using this.symm
 | cons c r =>
  right
  refine ⟨c, ?_, dw_head u hd⟩
  have h1 : (tw p u ++ dw p u)[(tw p u).length]? = u[(tw p u).length]? := by rw [tw_dw]
  rw [← h1, hd, List.getElem?_append_right (Nat.le_refl _)]
  simp
theorem ext_tw (p : Nat → Bool) (s : Bs) (a : Nat) : (⟨s.toArray⟩ : ByteArray).extract a (a + (tw p (s.drop a)).length) = ⟨(tw p (s.drop a)).toArray⟩ := by
 apply ByteArray.ext
 apply Array.toList_inj.1
 rw [Lib.extract_data]
 have h : s.drop a = tw p (s.drop a) ++ dw p (s.drop a) := (tw_dw p _).symm
 have e : ((⟨s.toArray⟩ : ByteArray).data.toList) = s := rfl
 rw [e]
 generalize tw p (s.drop a) = t at h
 rw [Nat.add_sub_cancel_left, h]
 simp
def TakePost (p : Nat → Bool) (s : Bs) (a ba : Nat) (w : World) (e : Ending) (w' : World) : Prop :=
 e = .returned (.string ⟨(tw p (s.drop a)).toArray⟩) ∧ Bk w' ba 3 [.int .i64 ((a + (tw p (s.drop a)).length : Nat) : Int)] ∧ w.grownBy w' (some ba)
set_option maxHeartbeats 1000000 in
theorem take_parts (s : Bs) (a ba bt : Nat) (w : World) (hs : s.length ≤ 70000) (ha : a ≤ s.length) (hA : Bk w ba 3 [.int .i64 (a : Int)]) (hT : Bk w bt 9 [.string ⟨s.toArray⟩]) (hne : bt ≠ ba)
  (hM : ∀ (c : Nat) (W : World), c < 256 → Calls Tryz.prog 125 #[.int .u8 c] W (Says (isP c) W)) :
  Calls Tryz.prog 123 #[.func (.func 125) #[] #[], .pointer (some ⟨ba, 0, none⟩), .pointer (some ⟨bt, 0, none⟩)] w (TakePost (isP) s a ba w) := by
 obtain ⟨n, hn⟩ : ∃ n, n = (tw (isP) (s.drop a)).length := ⟨_, rfl⟩
 have Hnl := Lib.hid (show a + n ≤ s.length by have := tw_len (isP) (s.drop a); rw [List.length_drop] at this; omega)
 have Hget := Lib.hid (show ∀ j, j < n → ∃ c, s[a + j]? = some c ∧ (isP) c.toNat = true from fun j hj => by
  obtain ⟨c, h1, h2⟩ := tw_get (hn ▸ hj)
  rw [List.getElem?_drop] at h1
  exact ⟨c, h1, h2⟩)
 have Hend := Lib.hid (show s.length = a + n ∨ ∃ c, s[a + n]? = some c ∧ (isP) c.toNat = false by
  have := tw_end (p := isP) (s.drop a)
  rw [← hn, List.length_drop, List.getElem?_drop] at this
  exact this.imp (fun h => by omega) id)
 have Hx := Lib.hid (ext_tw (isP) s a)
 have hsz : (⟨s.toArray⟩ : ByteArray).size = s.length := by rw [Lib.size_eq]
 unfold TakePost
 rw [← hn] at Hx ⊢
 have HM := Lib.hid hM
 have HA := Lib.hid hA
 have HT := Lib.hid hT
 have Hne := Lib.hid hne
 have hcA := hA.cell 0 rfl
 have hcT := hT.cell 0 rfl
 have Hn := Lib.hid hn
 clear hA hT hM hn hne
 go_enter Tryz.func123, Tryz.ntmps123
 go_wp2_with fail
 clear hcA hcT
 go_loopg [] n (fun g wx => ∃ m : Nat, Hid (m + g = a + n) ∧ a ≤ m ∧ Hid (Bk wx ba 3 [.int .i64 (m : Int)]) ∧ Hid (w.grownBy wx (some ba)))
 case atStart => exact ⟨a, rfl, Nat.le_refl _, HA.out, only_refl _ _⟩
 case round =>
  obtain ⟨m, hm, ham, Hb, Hg⟩ := hrel
  have hcA := Hb.out.cell 0 rfl
  have hcT := (HT.out.grown Hg.out (fun e => Hne.out (Option.some.inj e))).cell 0 rfl
  have hfA := Hb.out.fz 0
  cases gk with
  | zero =>
   obtain ⟨q, hq⟩ : ∃ q, q = a + n := ⟨_, rfl⟩
   obtain rfl : m = q := by have := hm.out; omega
   rw [← hq] at Hend Hx
   have Hq := Lib.hid hq
   clear hq
   have hms : m ≤ s.length := by have := Hq.out; have := Hnl.out; omega
   rcases Hend.out with he | ⟨c, hc, hpc⟩
   ·have hlt : ¬ m < s.length := by omega
    have hA1 := Hx.out
    go_wp2_with fail
    go_ret
    exact ⟨rfl, by rw [← Hq.out]; exact Hb.out, Hg.out⟩
   ·have hidx := fun W => idx_at s m c hc W
    have hlt : m < s.length := (List.getElem?_eq_some_iff.1 hc).1
    have Hm := Lib.hid (fun W => HM.out c.toNat W c.toNat_lt)
    rw [hpc] at Hm
    clear hc hpc
    go_wp2_with fail
    refine (Hm.out _).mono ?_
    rintro e w' ⟨rfl, rfl⟩
    go_wp2_with fail
    go_ret
    exact ⟨by rw [← Hx.out]; rfl, by rw [← Hq.out]; exact Hb.out, Hg.out⟩
  | succ g =>
   obtain ⟨j, hj⟩ : ∃ j, m = a + j := ⟨m - a, by omega⟩
   obtain ⟨c, hc, hpc⟩ := Hget.out j (by have := hm.out; omega)
   rw [← hj] at hc
   have hidx := fun W => idx_at s m c hc W
   clear hj
   have hlt : m < s.length := (List.getElem?_eq_some_iff.1 hc).1
   have Hm := Lib.hid (fun W => HM.out c.toNat W c.toNat_lt)
   rw [hpc] at Hm
   clear hc hpc
   go_wp2_with fail
   refine (Hm.out _).mono ?_
   rintro e w' ⟨rfl, rfl⟩
   go_wp2_with fail
   go_roundg g
   case rel => exact ⟨m + 1, by have := hm.out; show m + 1 + g = a + n; omega, by omega, Hb.out.set 0 _, only_trans Hg.out (only_set _ _ _ _)⟩
   case measure => omega
set_option maxHeartbeats 1000000 in
theorem take_has (k : Nat) (s : Bs) (a ba bt : Nat) (w : World) (hs : s.length ≤ 70000) (ha : a ≤ s.length) (hA : Bk w ba 3 [.int .i64 (a : Int)]) (hT : Bk w bt 9 [.string ⟨s.toArray⟩]) (hne : bt ≠ ba)
  (hM : ∀ (c : Nat) (W : World), c < 256 → Calls Tryz.prog 127 #[.int .u8 k, .int .u8 c] W (Says (hasB k c) W)) :
  Calls Tryz.prog 123 #[.func (.func 127) #[.int .u8 k] #[], .pointer (some ⟨ba, 0, none⟩), .pointer (some ⟨bt, 0, none⟩)] w (TakePost (hasB k) s a ba w) := by
 obtain ⟨n, hn⟩ : ∃ n, n = (tw (hasB k) (s.drop a)).length := ⟨_, rfl⟩
 have Hnl := Lib.hid (show a + n ≤ s.length by have := tw_len (hasB k) (s.drop a); rw [List.length_drop] at this; omega)
 have Hget := Lib.hid (show ∀ j, j < n → ∃ c, s[a + j]? = some c ∧ (hasB k) c.toNat = true from fun j hj => by
  obtain ⟨c, h1, h2⟩ := tw_get (hn ▸ hj)
  rw [List.getElem?_drop] at h1
  exact ⟨c, h1, h2⟩)
 have Hend := Lib.hid (show s.length = a + n ∨ ∃ c, s[a + n]? = some c ∧ (hasB k) c.toNat = false by
  have := tw_end (p := hasB k) (s.drop a)
  rw [← hn, List.length_drop, List.getElem?_drop] at this
  exact this.imp (fun h => by omega) id)
 have Hx := Lib.hid (ext_tw (hasB k) s a)
 have hsz : (⟨s.toArray⟩ : ByteArray).size = s.length := by rw [Lib.size_eq]
 unfold TakePost
 rw [← hn] at Hx ⊢
 have HM := Lib.hid hM
 have HA := Lib.hid hA
 have HT := Lib.hid hT
 have Hne := Lib.hid hne
 have hcA := hA.cell 0 rfl
 have hcT := hT.cell 0 rfl
 have Hn := Lib.hid hn
 clear hA hT hM hn hne
 go_enter Tryz.func123, Tryz.ntmps123
 go_wp2_with fail
 clear hcA hcT
 go_loopg [] n (fun g wx => ∃ m : Nat, Hid (m + g = a + n) ∧ a ≤ m ∧ Hid (Bk wx ba 3 [.int .i64 (m : Int)]) ∧ Hid (w.grownBy wx (some ba)))
 case atStart => exact ⟨a, rfl, Nat.le_refl _, HA.out, only_refl _ _⟩
 case round =>
  obtain ⟨m, hm, ham, Hb, Hg⟩ := hrel
  have hcA := Hb.out.cell 0 rfl
  have hcT := (HT.out.grown Hg.out (fun e => Hne.out (Option.some.inj e))).cell 0 rfl
  have hfA := Hb.out.fz 0
  cases gk with
  | zero =>
   obtain ⟨q, hq⟩ : ∃ q, q = a + n := ⟨_, rfl⟩
   obtain rfl : m = q := by have := hm.out; omega
   rw [← hq] at Hend Hx
   have Hq := Lib.hid hq
   clear hq
   have hms : m ≤ s.length := by have := Hq.out; have := Hnl.out; omega
   rcases Hend.out with he | ⟨c, hc, hpc⟩
   ·have hlt : ¬ m < s.length := by omega
    have hA1 := Hx.out
    go_wp2_with fail
    go_ret
    exact ⟨rfl, by rw [← Hq.out]; exact Hb.out, Hg.out⟩
   ·have hidx := fun W => idx_at s m c hc W
    have hlt : m < s.length := (List.getElem?_eq_some_iff.1 hc).1
    have Hm := Lib.hid (fun W => HM.out c.toNat W c.toNat_lt)
    rw [hpc] at Hm
    clear hc hpc
    go_wp2_with fail
    refine (Hm.out _).mono ?_
    rintro e w' ⟨rfl, rfl⟩
    go_wp2_with fail
    go_ret
    exact ⟨by rw [← Hx.out]; rfl, by rw [← Hq.out]; exact Hb.out, Hg.out⟩
  | succ g =>
   obtain ⟨j, hj⟩ : ∃ j, m = a + j := ⟨m - a, by omega⟩
   obtain ⟨c, hc, hpc⟩ := Hget.out j (by have := hm.out; omega)
   rw [← hj] at hc
   have hidx := fun W => idx_at s m c hc W
   clear hj
   have hlt : m < s.length := (List.getElem?_eq_some_iff.1 hc).1
   have Hm := Lib.hid (fun W => HM.out c.toNat W c.toNat_lt)
   rw [hpc] at Hm
   clear hc hpc
   go_wp2_with fail
   refine (Hm.out _).mono ?_
   rintro e w' ⟨rfl, rfl⟩
   go_wp2_with fail
   go_roundg g
   case rel => exact ⟨m + 1, by have := hm.out; show m + 1 + g = a + n; omega, by omega, Hb.out.set 0 _, only_trans Hg.out (only_set _ _ _ _)⟩
   case measure => omega
end Go.Proofs.YtinofjbnfmalkaaGreatDoor
namespace Go.Proofs.YtinofjbnfmalkaaGreatDoor
open Go.RowKit
def tokV (k : Nat) (t : Bs) (n ln col : Nat) : Value := .agg #[.int .u8 k, .string ⟨t.toArray⟩, .int .u64 n, .int .i64 ln, .int .i64 col]
structure Cut (w : World) (B bt ba bk : Nat) (s : Bs) (a : Nat) : Prop where
 txt : Bk w bt 9 [.string ⟨s.toArray⟩]
 pos : Bk w ba 3 [.int .i64 (a : Int)]
 tk : Bk w bk 221 [.func (.func 123) #[] #[.pointer (some ⟨ba, 0, none⟩), .pointer (some ⟨bt, 0, none⟩)]]
 ne1 : bt ≠ ba
 ne2 : bk ≠ ba
 hB : B ≤ ba
 ha : a ≤ s.length
theorem Cut.grown {w w' : World} {B bt ba bk : Nat} {s : Bs} {a a' : Nat} (h : Cut w B bt ba bk s a) (hg : w.grownBy w' (some ba)) (hp : Bk w' ba 3 [.int .i64 (a' : Int)]) (ha' : a' ≤ s.length) : Cut w' B bt ba bk s a' :=
 ⟨h.txt.grown hg (fun e => h.ne1 (Option.some.inj e)), hp, h.tk.grown hg (fun e => h.ne2 (Option.some.inj e)), h.ne1, h.ne2, h.hB, ha'⟩
theorem Cut.grown' {w w' : World} {B bt ba bk g : Nat} {s : Bs} {a : Nat} (h : Cut w B bt ba bk s a) (hg : w.grownBy w' (some g)) (h1 : ba ≠ g) (h2 : bt ≠ g) (h3 : bk ≠ g) : Cut w' B bt ba bk s a :=
 ⟨h.txt.grown hg (fun e => h2 (Option.some.inj e)), h.pos.grown hg (fun e => h1 (Option.some.inj e)), h.tk.grown hg (fun e => h3 (Option.some.inj e)), h.ne1, h.ne2, h.hB, h.ha⟩
theorem Cut.below {w w' : World} {B bt ba bk : Nat} {s : Bs} {a : Nat} (h : Cut w B bt ba bk s a) (hb : Below w.heap.size w w') : Cut w' B bt ba bk s a :=
 ⟨h.txt.kept hb, h.pos.kept hb, h.tk.kept hb, h.ne1, h.ne2, h.hB, h.ha⟩
theorem take_p {w : World} {B bt ba bk : Nat} {s : Bs} {a : Nat} (h : Cut w B bt ba bk s a) (hs : s.length ≤ 70000) :
  Calls Tryz.prog 123 #[.func (.func 125) #[] #[], .pointer (some ⟨ba, 0, none⟩), .pointer (some ⟨bt, 0, none⟩)] w (TakePost isP s a ba w) :=
 take_parts s a ba bt w hs h.ha h.pos h.txt h.ne1 (fun c W _ => parts_any c W)
theorem take_k {w : World} {B bt ba bk : Nat} {s : Bs} {a k : Nat} (hk : 1 ≤ k ∧ k ≤ 4) (h : Cut w B bt ba bk s a) (hs : s.length ≤ 70000) :
  Calls Tryz.prog 123 #[.func (.func 127) #[.int .u8 k] #[], .pointer (some ⟨ba, 0, none⟩), .pointer (some ⟨bt, 0, none⟩)] w (TakePost (hasB k) s a ba w) :=
 take_has k s a ba bt w hs h.ha h.pos h.txt h.ne1 (fun c W hc => has_any k c hk hc W)
def Nx (s : Bs) (a k : Nat) (t : Bs) (col : Nat) (ok : Bool) (a' : Nat) : Prop :=
 match nextS (s.drop a) with
 | none => ok = false
 | some (k', t', g, _) => ok = true ∧ k = k' ∧ t = t' ∧ col = a + g + 1 ∧ a' = a + g + t.length
def NextPost (s : Bs) (a B bt ba bk : Nat) (w : World) (e : Ending) (w' : World) : Prop :=
 ∃ (k : Nat) (t : Bs) (col : Nat) (ok : Bool) (a' : Nat), e = .returned (.tuple #[.agg #[.int .u8 k, .string ⟨t.toArray⟩, .int .u64 0, .int .i64 0, .int .i64 col], .bool ok]) ∧ Nx s a k t col ok a' ∧ Cut w' B bt ba bk s a' ∧ w.grownBy w' (some ba)
theorem next_none {s : Bs} {a : Nat} (h : a + (tw isP (s.drop a)).length = s.length) : nextS (s.drop a) = none := by
 unfold nextS
 have : dw isP (s.drop a) = [] := by
  rw [dw_drop, List.drop_drop, h, List.drop_length]
 rw [this]
theorem next_some {s : Bs} {a : Nat} {c : UInt8} (h : s[a + (tw isP (s.drop a)).length]? = some c) :
  nextS (s.drop a) = some (begunB c.toNat, tw (hasB (begunB c.toNat)) (s.drop (a + (tw isP (s.drop a)).length)), (tw isP (s.drop a)).length, dw (hasB (begunB c.toNat)) (s.drop (a + (tw isP (s.drop a)).length))) := by
 have hd : dw isP (s.drop a) = s.drop (a + (tw isP (s.drop a)).length) := by rw [dw_drop, List.drop_drop]
 obtain ⟨h1, h2⟩ := List.getElem?_eq_some_iff.1 h
 have hc : s.drop (a + (tw isP (s.drop a)).length) = c :: s.drop (a + (tw isP (s.drop a)).length + 1) := by rw [List.drop_eq_getElem_cons h1, h2]
 unfold nextS
 rw [hd]
 rw [hc]
theorem wrap_i (n : Int) : IntKind.i64.wrap n = wrap64 n := by
 simp [IntKind.wrap, IntKind.bits, IntKind.signed, wrap64]
 split <;> omega
theorem grown_alloc {w w' : World} {o : Obj} {r : Option Nat} (h : (w.alloc o).grownBy w' r) : w.grownBy w' r :=
 ⟨h.os, h.tape, h.output, by have := h.size; simp at this; omega, fun i hi hn => (h.block i (by simp; omega) hn).trans (Below.heap_alloc w o i hi)⟩
theorem grown_drewL {w w' : World} {n : Nat} {r : Option Nat} (h : (w.drewN n).grownBy w' r) : w.grownBy w' r :=
 ⟨h.os, h.tape, h.output, h.size, h.block⟩
theorem grown_new {w w' w'' : World} {r : Option Nat} {g : Nat} (h : w.grownBy w' r) (k : w'.grownBy w'' (some g)) (hg : w.heap.size ≤ g) : w.grownBy w'' r :=
 ⟨k.os.trans h.os, k.tape.trans h.tape, k.output.trans h.output, Nat.le_trans h.size k.size, fun i hi hn => (k.block i (Nat.lt_of_lt_of_le hi h.size) (fun e => by have := Option.some.inj e; omega)).trans (h.block i hi hn)⟩
theorem next_good {s : Bs} {a a1 a2 col B bt ba bk : Nat} {c : UInt8} {w w' : World} {e : Ending} (h1 : a1 = a + (tw isP (s.drop a)).length) (hc : s[a1]? = some c) (h2 : a2 = a1 + (tw (hasB (begunB c.toNat)) (s.drop a1)).length) (h3 : col = a1 + 1)
  (he : e = .returned (.tuple #[tokV (begunB c.toNat) (tw (hasB (begunB c.toNat)) (s.drop a1)) 0 0 col, .bool true])) (hC : Cut w' B bt ba bk s a2) (hg : w.grownBy w' (some ba)) : NextPost s a B bt ba bk w e w' := by
 subst h1 h2 h3
 unfold NextPost
 refine ⟨_, _, _, _, _, he, ?_, hC, hg⟩
 unfold Nx
 rw [next_some hc]
 exact ⟨rfl, rfl, rfl, rfl, rfl⟩
theorem next_over {s : Bs} {a a1 B bt ba bk : Nat} {w w' : World} {e : Ending} (h1 : a1 = a + (tw isP (s.drop a)).length) (hc : a1 = s.length)
  (he : e = .returned (.tuple #[tokV 0 [] 0 0 0, .bool false])) (hC : Cut w' B bt ba bk s a1) (hg : w.grownBy w' (some ba)) : NextPost s a B bt ba bk w e w' := by
 subst h1
 unfold NextPost
 refine ⟨0, [], 0, false, _, he, ?_, hC, hg⟩
 unfold Nx
 rw [next_none hc]
def zT : Array Value := #[.int .u8 0, .string ⟨#[]⟩, .int .u64 0, .int .i64 0, .int .i64 0]
set_option maxHeartbeats 2000000 in
set_option maxRecDepth 100000 in
theorem next_any (s : Bs) (a B bt ba bk : Nat) (w : World) (hs : s.length ≤ 70000) (hC : Cut w B bt ba bk s a) :
  Calls Tryz.prog 124 #[.pointer (some ⟨bk, 0, none⟩), .pointer (some ⟨ba, 0, none⟩), .pointer (some ⟨bt, 0, none⟩)] w (NextPost s a B bt ba bk w) := by
 have HC := Lib.hid hC
 have Hs := Lib.hid hs
 have hc0 := hC.tk.cell 0 rfl
 have ha := hC.ha
 have hkl := hC.tk.lt
 have hal := hC.pos.lt
 have htl := hC.txt.lt
 have hne : w.heap.size ≠ ba := by omega
 have hne2 : bt ≠ w.heap.size := by omega
 have hne3 : bk ≠ w.heap.size := by omega
 have HC1 := Lib.hid (hC.below ((Below.refl _ _).alloc (Nat.le_refl _) (.cells zT 182)))
 clear hC
 go_enter Tryz.func124, Tryz.ntmps124
 go_wp2_with fail
 refine (take_p HC1.out hs).mono ?_
 rintro e w1 ⟨rfl, hp1, hg1⟩
 obtain ⟨a1, ha1⟩ : ∃ a1, a1 = a + (tw isP (s.drop a)).length := ⟨_, rfl⟩
 rw [← ha1] at hp1
 have hal1 : a1 ≤ s.length := by have := tw_len isP (s.drop a); rw [List.length_drop] at this; omega
 have HC2 := Lib.hid (HC1.out.grown hg1 hp1 hal1)
 have hZ : Bk w1 w.heap.size 182 zT.toList := Bk.grown (Bk.new w _ _ rfl) hg1 (fun e => hne (Option.some.inj e))
 have HZ := Lib.hid hZ
 have hz0 := hZ.lt
 have HG1 := Lib.hid hg1
 have Ha1 := Lib.hid ha1
 have hA := hp1.cell 0 rfl
 have hT := HC2.out.txt.cell 0 rfl
 have hK := HC2.out.tk.cell 0 rfl
 have hkl := HC2.out.tk.lt
 have hal := HC2.out.pos.lt
 have htl := HC2.out.txt.lt
 have hsz : (⟨s.toArray⟩ : ByteArray).size = s.length := by rw [Lib.size_eq]
 clear hg1 hp1 ha1 hZ hc0
 by_cases hend : a1 = s.length
 ·have he1 : ((a1 : Int) == (s.length : Int)) = true := by rw [hend]; simp
  have HZ2 := HZ
  have hz0 := HZ2.out.lt
  have z0 := HZ2.out.fz 0
  have z1 := HZ2.out.fz 1
  have z2 := HZ2.out.fz 2
  have z3 := HZ2.out.fz 3
  have z4 := HZ2.out.fz 4
  have y0 := HZ2.out.cell 0 rfl
  have y1 := HZ2.out.cell 1 rfl
  have y2 := HZ2.out.cell 2 rfl
  have y3 := HZ2.out.cell 3 rfl
  have y4 := HZ2.out.cell 4 rfl
  have Hend := Lib.hid hend
  clear hend
  go_wp2_with fail
  have HZ5 := Lib.hid (((((HZ2.out.set 0 (.int .u8 0)).set 1 (.string ⟨#[]⟩)).set 2 (.int .u64 0)).set 3 (.int .i64 0)).set 4 (.int .i64 0))
  have HG5 := Lib.hid (show w1.grownBy _ (some w.heap.size) from only_trans (only_trans (only_trans (only_trans (only_set w1 w.heap.size 0 (.int .u8 0)) (only_set _ _ 1 (.string ⟨#[]⟩))) (only_set _ _ 2 (.int .u64 0))) (only_set _ _ 3 (.int .i64 0))) (only_set _ _ 4 (.int .i64 0)))
  clear y0 y1 y2 y3 y4 z0 z1 z2 z3 z4 hz0
  revert HZ5 HG5
  generalize World.setCell _ _ _ = w5
  intro HZ5 HG5
  have hz0 := HZ5.out.lt
  have y0 := HZ5.out.cell 0 rfl
  have y1 := HZ5.out.cell 1 rfl
  have y2 := HZ5.out.cell 2 rfl
  have y3 := HZ5.out.cell 3 rfl
  have y4 := HZ5.out.cell 4 rfl
  refine bodyPost_ret (v := .tuple #[tokV 0 [] 0 0 0, .bool false]) ?_ rfl ?_
  ·simp [results, Tryz.results124, go_sem, tokV, y0, y1, y2, y3, y4]
  ·exact next_over Ha1.out Hend.out rfl (HC2.out.grown' HG5.out (fun e => hne e.symm) hne2 hne3) (grown_new (grown_alloc HG1.out) HG5.out (Nat.le_refl _))
 ·obtain ⟨c, hc⟩ : ∃ c, s[a1]? = some c := ⟨_, List.getElem?_eq_getElem (by omega)⟩
  have hidx := fun W => idx_at s a1 c hc W
  have he1 : ((a1 : Int) == (s.length : Int)) = false := by rw [beq_eq_false_iff_ne]; omega
  obtain ⟨col, hcol⟩ : ∃ col, col = a1 + 1 := ⟨_, rfl⟩
  have hw : IntKind.i64.wrap ((a1 : Int) + 1) = (col : Int) := by rw [wrap_i]; unfold wrap64; omega
  have Hcol := Lib.hid hcol
  have Hc := Lib.hid hc
  have hcl : col ≤ 70001 := by omega
  clear hc hend hcol
  go_wp2_with fail
  go_quiet ((go_at_call 126; exact quiet_l ((begun_any c.toNat _).mono fun _ _ h => h)))
  go_wp2_with fail
  refine (take_k (begunB_pos _) (HC2.out.below (below_drewN (Below.refl _ _) _)) Hs.out).mono ?_
  rintro e w2 ⟨rfl, hp2, hg2⟩
  obtain ⟨a2, ha2⟩ : ∃ a2, a2 = a1 + (tw (hasB (begunB c.toNat)) (s.drop a1)).length := ⟨_, rfl⟩
  rw [← ha2] at hp2
  have hal2 : a2 ≤ s.length := by have := tw_len (hasB (begunB c.toNat)) (s.drop a1); rw [List.length_drop] at this; omega
  have HC3 := Lib.hid ((HC2.out.below (below_drewN (Below.refl _ _) nq)).grown hg2 hp2 hal2)
  have HZ2 := Lib.hid (Bk.grown (HZ.out.drewN nq) hg2 (fun e => hne (Option.some.inj e)))
  have hz0 := HZ2.out.lt
  have z0 := HZ2.out.fz 0
  have z1 := HZ2.out.fz 1
  have z2 := HZ2.out.fz 2
  have z3 := HZ2.out.fz 3
  have z4 := HZ2.out.fz 4
  have y0 := HZ2.out.cell 0 rfl
  have y1 := HZ2.out.cell 1 rfl
  have y2 := HZ2.out.cell 2 rfl
  have y3 := HZ2.out.cell 3 rfl
  have y4 := HZ2.out.cell 4 rfl
  have HG2 := Lib.hid hg2
  have Ha2 := Lib.hid ha2
  clear hp2 hg2 ha2
  go_wp2_with fail
  have HZ5 := Lib.hid (((((HZ2.out.set 0 (.int .u8 (begunB c.toNat))).set 1 (.string ⟨(tw (hasB (begunB c.toNat)) (s.drop a1)).toArray⟩)).set 2 (.int .u64 0)).set 3 (.int .i64 0)).set 4 (.int .i64 col))
  have HG5 := Lib.hid (show w2.grownBy _ (some w.heap.size) from only_trans (only_trans (only_trans (only_trans (only_set w2 w.heap.size 0 (.int .u8 (begunB c.toNat))) (only_set _ _ 1 (.string ⟨(tw (hasB (begunB c.toNat)) (s.drop a1)).toArray⟩))) (only_set _ _ 2 (.int .u64 0))) (only_set _ _ 3 (.int .i64 0))) (only_set _ _ 4 (.int .i64 col)))
  clear y0 y1 y2 y3 y4 z0 z1 z2 z3 z4 hz0
  revert HZ5 HG5
  generalize World.setCell _ _ _ = w5
  intro HZ5 HG5
  have hz0 := HZ5.out.lt
  have y0 := HZ5.out.cell 0 rfl
  have y1 := HZ5.out.cell 1 rfl
  have y2 := HZ5.out.cell 2 rfl
  have y3 := HZ5.out.cell 3 rfl
  have y4 := HZ5.out.cell 4 rfl
  refine bodyPost_ret (v := .tuple #[tokV (begunB c.toNat) (tw (hasB (begunB c.toNat)) (s.drop a1)) 0 0 col, .bool true]) ?_ rfl ?_
  ·simp [results, Tryz.results124, go_sem, tokV, y0, y1, y2, y3, y4]
  ·refine next_good Ha1.out Hc.out Ha2.out Hcol.out rfl (HC3.out.grown' HG5.out (fun e => hne e.symm) hne2 hne3) ?_
   exact grown_new (only_trans (grown_alloc HG1.out) (grown_drewL HG2.out)) HG5.out (Nat.le_refl _)
end Go.Proofs.YtinofjbnfmalkaaGreatDoor
namespace Go.Proofs.YtinofjbnfmalkaaGreatDoor
open Go.RowKit
def ValPost (k : Nat) (t : Bs) (w : World) (e : Ending) (w' : World) : Prop :=
 e = .returned (.tuple #[.int .u64 ((valB k t).1 : Nat), .int .i64 ((valB k t).2 : Nat)]) ∧ Below w.heap.size w w'
theorem val_of {k : Nat} {t : Bs} {w w' : World} {e : Ending} {n r : Nat} (h : valB k t = (n, r)) (he : e = .returned (.tuple #[.int .u64 (n : Nat), .int .i64 (r : Nat)])) (hb : Below w.heap.size w w') : ValPost k t w e w' := by
 unfold ValPost; rw [h]; exact ⟨he, hb⟩
theorem tok_new (w : World) (T : TypeId) (a b c d e : Value) : Bk (w.alloc (.cells #[a, b, c, d, e] T)) w.heap.size T [a, b, c, d, e] := Bk.new w T _ rfl
set_option maxHeartbeats 1000000 in
set_option maxRecDepth 100000 in
theorem value_any (k : Nat) (t : Bs) (n ln col : Nat) (w : World) (hk : 1 ≤ k ∧ k ≤ 4) (ht : t.length ≤ 70000) (hE : LEnv w) :
  Calls Tryz.prog 96 #[.agg #[.int .u8 k, .string ⟨t.toArray⟩, .int .u64 n, .int .i64 ln, .int .i64 col]] w (ValPost k t w) := by
 have HN := Lib.hid (fun W (E : LEnv W) => number_any ⟨t.toArray⟩ W (by rw [Lib.size_eq]; show t.length ≤ 100000; omega) E)
 have HE := Lib.hid hE
 have hsz : (⟨t.toArray⟩ : ByteArray).size = t.length := by rw [Lib.size_eq]
 have HB1 := Lib.hid (show Below w.heap.size w (w.alloc (.cells #[.int .u8 k, .string ⟨t.toArray⟩, .int .u64 n, .int .i64 ln, .int .i64 col] 182)) from (Below.refl _ _).alloc (Nat.le_refl _) _)
 clear hE
 rcases (by omega : k = 1 ∨ k = 2 ∨ k = 3 ∨ k = 4) with rfl | rfl | rfl | rfl
 ·go_enter Tryz.func96, Tryz.ntmps96
  go_wp2_with fail
  go_ret2
  exact val_of rfl rfl HB1.out
 ·go_enter Tryz.func96, Tryz.ntmps96
  go_wp2_with fail
  refine (HN.out _ (HE.out.below HB1.out)).mono ?_
  rintro e w' ⟨hp, hb⟩
  have HB2 := Lib.hid (HB1.out.trans (hb.mono HB1.out.size))
  clear hb
  cases hn : number t with
  | some u =>
   have e1 : number (⟨t.toArray⟩ : ByteArray).data.toList = some u := hn
   rw [e1] at hp
   have HV := Lib.hid (show valB 2 t = (u, 0) by simp [valB, hn])
   clear hn e1
   subst hp
   go_wp2_with fail
   go_ret2
   exact val_of HV.out rfl HB2.out
  | none =>
   have e1 : number (⟨t.toArray⟩ : ByteArray).data.toList = none := hn
   rw [e1] at hp
   have HV := Lib.hid (show valB 2 t = (0, 204) by simp [valB, hn])
   clear hn e1
   subst hp
   go_wp2_with fail
   go_ret2
   exact val_of HV.out rfl HB2.out
 ·by_cases hl : 120 < t.length
  ·have HV := Lib.hid (show valB 3 t = (0, 36) by simp [valB, hl])
   go_enter Tryz.func96, Tryz.ntmps96
   go_wp2_with fail
   go_ret2
   exact val_of HV.out rfl HB1.out
  ·have HV := Lib.hid (show valB 3 t = (0, 0) by simp [valB, hl])
   go_enter Tryz.func96, Tryz.ntmps96
   go_wp2_with fail
   go_ret2
   exact val_of HV.out rfl HB1.out
 ·have hS := fun W => sign_any t W
  cases h1 : isSign t with
  | true =>
   rw [h1] at hS
   have HV := Lib.hid (show valB 4 t = (0, 0) by simp [valB, h1])
   clear h1
   go_enter Tryz.func96, Tryz.ntmps96
   go_wp2_with fail
   refine (hS _).mono ?_
   rintro e w' ⟨rfl, rfl⟩
   go_wp2_with fail
   go_ret2
   exact val_of HV.out rfl HB1.out
  | false =>
   rw [h1] at hS
   have HV := Lib.hid (show valB 4 t = (0, 202) by simp [valB, h1])
   clear h1
   go_enter Tryz.func96, Tryz.ntmps96
   go_wp2_with fail
   refine (hS _).mono ?_
   rintro e w' ⟨rfl, rfl⟩
   go_wp2_with fail
   go_ret2
   exact val_of HV.out rfl HB1.out
end Go.Proofs.YtinofjbnfmalkaaGreatDoor
namespace Go.Proofs.YtinofjbnfmalkaaGreatDoor
open Go.RowKit Go.ChangeShapes Go.WideShapes Go.ChangeAt Go.WideElems
def Tok.cells (x : Tok) : List Value := [.int .u8 x.k, .string ⟨x.t.toArray⟩, .int .u64 x.n, .int .i64 x.line, .int .i64 x.col]
def flatT (L : List Tok) : List Value := L.flatMap Tok.cells
theorem flatT_len (L : List Tok) : (flatT L).length = L.length * 5 := by
 induction L with
 | nil => rfl
 | cons x L ih => simp only [flatT, List.flatMap_cons, List.length_append, List.length_cons, Tok.cells] at ih ⊢; rw [ih]; simp; omega
theorem flatT_app (L M : List Tok) : flatT (L ++ M) = flatT L ++ flatT M := by simp [flatT]
theorem flatT_one (x : Tok) : flatT [x] = x.cells := by simp [flatT]
theorem cells_oneT (x : Tok) : ∀ u ∈ x.cells, u.oneCell' = true := by
 intro u hu
 simp only [Tok.cells, List.mem_cons, List.not_mem_nil, or_false] at hu
 rcases hu with rfl | rfl | rfl | rfl | rfl <;> rfl
theorem flat_oneT (L : List Tok) : ∀ u ∈ flatT L, u.oneCell' = true := by
 intro u hu
 obtain ⟨x, _, hx⟩ := List.mem_flatMap.1 hu
 exact cells_oneT x u hx
theorem tok_at : ∀ (l : List Tok) (k j : Nat), j < 5 → (flatT l)[k * 5 + j]? = (l[k]?).bind (fun x => x.cells[j]?)
 | [], k, j, _ => by simp [flatT]
 | x :: l, k, j, hj => by
  rw [flatT, List.flatMap_cons]
  cases k with
  | zero => rw [List.getElem?_append_left (by simp [Tok.cells]; omega)]; simp
  | succ k =>
   rw [List.getElem?_append_right (by simp [Tok.cells]; omega), show (x.cells).length = 5 from rfl, show (k + 1) * 5 + j - 5 = k * 5 + j from by omega]
   have := tok_at l k j hj
   rw [flatT] at this
   rw [this]
   simp
theorem five_cells {w : World} {l : List Tok} {b o k : Nat} {x : Tok} (h : ∀ j u, (flatT l)[j]? = some u → w.cell? ⟨b, o + j, none⟩ = some u) (hx : l[k]? = some x) :
  w.cell? ⟨b, o + k * 5, none⟩ = some (.int .u8 x.k) ∧ w.cell? ⟨b, o + k * 5 + 1, none⟩ = some (.string ⟨x.t.toArray⟩) ∧ w.cell? ⟨b, o + k * 5 + 2, none⟩ = some (.int .u64 x.n) ∧ w.cell? ⟨b, o + k * 5 + 3, none⟩ = some (.int .i64 x.line) ∧ w.cell? ⟨b, o + k * 5 + 4, none⟩ = some (.int .i64 x.col) := by
 have hh : ∀ j, j < 5 → ∀ u, x.cells[j]? = some u → w.cell? ⟨b, o + k * 5 + j, none⟩ = some u := fun j hj u hu => by
  rw [Nat.add_assoc]; exact h _ _ (by rw [tok_at l k j hj, hx]; exact hu)
 exact ⟨hh 0 (by omega) _ rfl, hh 1 (by omega) _ rfl, hh 2 (by omega) _ rfl, hh 3 (by omega) _ rfl, hh 4 (by omega) _ rfl⟩
theorem infoTok : (Tryz.prog.info? 182).map (fun i => (i.zero, i.size, i.bytes)) = some (some (.agg #[.int .u8 0, .string ⟨#[]⟩, .int .u64 0, .int .i64 0, .int .i64 0]), 5, 48) := by kernel_rfl
theorem add_atL (b o j : Nat) : (⟨b, o, none⟩ : Addr).add j = ⟨b, o + j, none⟩ := by unfold Addr.add; split <;> simp_all
theorem bk_news {w : World} {g t : Nat} {l : List Value} (h : Bk w g t l) : ∀ j u, l[j]? = some u → w.cell? ((⟨g, 0, none⟩ : Addr).add j) = some u := fun j u hu => by rw [add_atL, Nat.zero_add]; exact h.cell j hu
theorem bk_new_at {l : List Value} {n : Nat} (w : World) (T : TypeId) (a : Array Value) (h : a = l.toArray) (hn : n = w.heap.size) : Bk (w.alloc (.cells a T)) n T l := by subst hn; exact Bk.new w T a h
theorem append_toks {w : World} {ops : Array Oper} {rest : List Oper} {o : Oper} {a : Act} {Q : Exit → Act → World → Prop} (hgd : o.guard = none) (s x : Operand)
  (ho : o.op = .call { callee := .builtin .append, args := #[s, x], argTypes := #[105, 105] }) (base : Nat) (v : Value) (n : Nat) (xs : List Value) (hs : a.eval s = v) (hown : w.ownsRow base 182 5 v n xs)
  (L : List Tok) (A : Option Addr) (m c : Nat) (hm : L.length = m) (hx : a.eval x = .slice A m c) (hR : Rd w 5 m A (flatT L)) (hnil : A = none → c = 0) (hn : n + m ≤ 10000000000) (hbase : base ≤ w.heap.size)
  (h : ∀ v' w', w'.ownsRow base 182 5 v' (n + m) (xs ++ flatT L) → w.grownBy w' v.ownBlock → (v'.ownBlock = v.ownBlock ∨ v'.ownBlock = some w.heap.size) → wpList Tryz.prog ops Q rest (a.put o.dst v') w') : wpList Tryz.prog ops Q (o :: rest) a w := by
 obtain ⟨i0, hi, hz0, hz1, hz2⟩ := info_parts infoTok
 subst hm
 cases A with
 | none =>
  obtain rfl := hnil rfl
  have hL : L = [] := by
   rcases hR.at_ with e | ⟨b, o, e, _⟩
   ·exact List.length_eq_zero_iff.1 e
   ·cases e
  subst hL
  refine wpList_append_own_none hgd s x 105 ho base 182 i0 5 Tryz.underlying105 hi v n xs hs hown hx ?_
  exact h v w (by simpa [flatT] using hown) (only_refl w _) (.inl rfl)
 | some ad =>
  refine wpList_append_own_at w hgd s x 105 ho base 182 i0 _ 5 48 Tryz.underlying105 hi hz0 hz1 hz2 rfl (by decide) v n xs hs hown ad L.length c (flatT L) hx (by rw [flatT_len]) ?_ (flat_oneT L) (by unfold maxLen; omega) (by omega) hbase (fun v' w' h1 h2 _ h3 => h v' w' h1 h2 h3)
  rcases hR.at_ with e | ⟨b, o, e, _, hc⟩
  ·have hL : L = [] := List.length_eq_zero_iff.1 e
   subst hL
   intro j u hu
   simp [flatT] at hu
  ·cases e
   intro j u hu
   rw [add_atL]
   exact hc j u hu
end Go.Proofs.YtinofjbnfmalkaaGreatDoor
namespace Go.Proofs.YtinofjbnfmalkaaGreatDoor
open Go.RowKit
theorem cutH_len (s : Bs) : (cutH s).length ≤ s.length := by
 induction s with
 | nil => simp [cutH]
 | cons a t ih => unfold cutH; split <;> simp; exact ih
def CutterPost (s : Bs) (w : World) (e : Ending) (w' : World) : Prop :=
 ∃ B, B = w.heap.size ∧ e = .returned (.func (.func 124) #[] #[.pointer (some ⟨B + 2, 0, none⟩), .pointer (some ⟨B + 1, 0, none⟩), .pointer (some ⟨B, 0, none⟩)]) ∧ Cut w' B B (B + 1) (B + 2) s 0 ∧ Below w.heap.size w w'
theorem cutter_any (s : Bs) (w : World) : Calls Tryz.prog 95 #[.string ⟨s.toArray⟩] w (CutterPost s w) := by
 go_enter Tryz.func95, Tryz.ntmps95
 go_wp2_with fail
 go_ret
 have h0 := Bk.new w 9 (l := [.string ⟨s.toArray⟩]) _ rfl
 have h1 := Bk.new (w.alloc (.cells #[.string ⟨s.toArray⟩] 9)) 3 (l := [.int .i64 0]) _ rfl
 have h2 := Bk.new ((w.alloc (.cells #[.string ⟨s.toArray⟩] 9)).alloc (.cells #[.int .i64 0] 3)) 221 (l := [.func (.func 123) #[] #[.pointer (some ⟨w.heap.size + 1, 0, none⟩), .pointer (some ⟨w.heap.size, 0, none⟩)]]) _ rfl
 simp at h1 h2
 refine ⟨_, rfl, rfl, ⟨(h0.alloc _).alloc _, h1.alloc _, h2, by omega, by omega, by omega, by omega⟩, ?_⟩
 exact (((Below.refl _ _).alloc (Nat.le_refl _) _).alloc (by simp) _).alloc (by simp; omega) _
theorem nx_false {s : Bs} {a k col a' ln : Nat} {t : Bs} {acc : List Tok} (h : Nx s a k t col false a') : lexP ln (s.drop a) a acc = (acc, 0, 0) := by
 unfold Nx at h
 cases hn : nextS (s.drop a) with
 | none => exact lexP_none hn
 | some x => rw [hn] at h; exact absurd h.1 (by simp)
theorem nx_true {s : Bs} {a k col a' : Nat} {t : Bs} (h : Nx s a k t col true a') : ∃ g r, nextS (s.drop a) = some (k, t, g, r) ∧ col = a + g + 1 ∧ a' = a + g + t.length ∧ r = s.drop a' ∧ a + g < s.length := by
 unfold Nx at h
 cases hn : nextS (s.drop a) with
 | none => rw [hn] at h; cases h
 | some x =>
  obtain ⟨k', t', g, r⟩ := x
  rw [hn] at h
  obtain ⟨_, rfl, rfl, rfl, rfl⟩ := h
  have hl := nextS_len hn
  refine ⟨g, r, rfl, rfl, rfl, ?_, ?_⟩
  ·rw [hl.2.1, List.drop_drop, Nat.add_assoc]
  ·have := hl.2.2.2; rw [List.length_drop] at this; omega
theorem nx_kind {s : Bs} {a k col a' : Nat} {t : Bs} (h : Nx s a k t col true a') : (1 ≤ k ∧ k ≤ 4) ∧ t.length ≤ s.length ∧ col ≤ s.length := by
 obtain ⟨g, r, hn, rfl, rfl, _, hlt⟩ := nx_true h
 have hl := nextS_len hn
 rw [List.length_drop] at hl
 refine ⟨?_, by omega, by omega⟩
 unfold nextS at hn
 split at hn
 ·cases hn
 ·simp only [Option.some.injEq, Prod.mk.injEq] at hn
  rw [← hn.1]
  exact begunB_pos _
theorem nx_bad {s : Bs} {a k col a' ln : Nat} {t : Bs} {acc : List Tok} (h : Nx s a k t col true a') (hv : (valB k t).2 ≠ 0) : lexP ln (s.drop a) a acc = ([], col, (valB k t).2) := by
 obtain ⟨g, r, hn, rfl, rfl, _, _⟩ := nx_true h
 exact lexP_bad hn hv
theorem nx_step {s : Bs} {a k col a' ln : Nat} {t : Bs} {acc : List Tok} (h : Nx s a k t col true a') (hv : (valB k t).2 = 0) :
  lexP ln (s.drop a) a acc = lexP ln (s.drop a') a' (acc ++ [⟨k, t, (valB k t).1, ln, col⟩]) ∧ a < a' := by
 obtain ⟨g, r, hn, rfl, rfl, hr, _⟩ := nx_true h
 have ht := List.length_pos_iff.2 (next_pos hn hv)
 exact ⟨by rw [lexP_step hn hv, hr], by omega⟩
def wr0 : List Value := [.int .i64 0, .int .i64 0, .int .i64 0]
structure LnR (w : World) (W0 B p : Nat) (s : Bs) (a : Nat) (tk : List Value) (acc : List Tok) (v : Value) (wr : World) : Prop where
 cut : Cut wr 0 B (B + 1) (B + 2) s a
 wrg : Bk wr W0 48 wr0
 tok : Bk wr p 182 tk
 own : wr.ownsRow w.heap.size 182 5 v acc.length (flatT acc)
 apart : ∀ g, v.ownBlock = some g → g ≠ W0 ∧ g ≠ B ∧ g ≠ B + 1 ∧ g ≠ B + 2 ∧ g ≠ p
 far : W0 < B ∧ B + 2 < p ∧ w.heap.size ≤ W0
 bel : Below w.heap.size w wr
section
variable {w : World} {W0 B p : Nat} {s : Bs} {a : Nat} {tk : List Value} {acc : List Tok} {v : Value} {wr : World}
theorem LnR.kept {w' : World} (h : LnR w W0 B p s a tk acc v wr) (hb : Below wr.heap.size wr w') : LnR w W0 B p s a tk acc v w' :=
 ⟨h.cut.below hb, h.wrg.kept hb, h.tok.kept hb, own_below h.own hb, h.apart, h.far, h.bel.trans (hb.mono h.bel.size)⟩
theorem own_other {w w' : World} {base : Nat} {e : TypeId} {z n : Nat} {v : Value} {xs : List Value} {r : Option Nat} (h : w.ownsRow base e z v n xs) (hg : w.grownBy w' r) (hr : ∀ g, v.ownBlock = some g → r ≠ some g) : w'.ownsRow base e z v n xs := by
 refine ⟨h.1, h.2.imp id fun ⟨g, cap, cur, e, h1, h2, h3⟩ => ⟨g, cap, cur, e, h1, ?_, h3⟩⟩
 rw [hg.block g (Array.getElem?_eq_some_iff.1 h2).1 (fun e' => hr g (by rw [e]; rfl) e'.symm)]; exact h2
theorem LnR.setp (h : LnR w W0 B p s a tk acc v wr) (j : Nat) (u : Value) : LnR w W0 B p s a (tk.set j u) acc v (wr.setCell ⟨p, j, none⟩ u) := by
 have hg := only_set wr p j u
 have hf := h.far
 refine ⟨h.cut.grown' hg (by omega) (by omega) (by omega), h.wrg.grown hg (fun e => by have := Option.some.inj e; omega), h.tok.set j u, own_other h.own hg (fun g hg' e => (h.apart g hg').2.2.2.2 (Option.some.inj e).symm), h.apart, h.far, h.bel.grown hg h.bel.size (fun q hq => by cases hq; omega)⟩
theorem LnR.next {w' : World} {a' : Nat} (h : LnR w W0 B p s a tk acc v wr) (hg : wr.grownBy w' (some (B + 1))) (hC : Cut w' 0 B (B + 1) (B + 2) s a') : LnR w W0 B p s a' tk acc v w' := by
 have hf := h.far
 exact ⟨hC, h.wrg.grown hg (fun e => by have := Option.some.inj e; omega), h.tok.grown hg (fun e => by have := Option.some.inj e; omega), own_other h.own hg (fun g hg' e => (h.apart g hg').2.2.1 (Option.some.inj e).symm), h.apart, h.far, h.bel.grown hg h.bel.size (fun q hq => by cases hq; omega)⟩
theorem LnR.newp (h : LnR w W0 B p s a tk acc v wr) (tk' : List Value) : LnR w W0 B wr.heap.size s a tk' acc v (wr.alloc (.cells tk'.toArray 182)) := by
 have hf := h.far
 have hl := h.tok.lt
 have hb : Below wr.heap.size wr (wr.alloc (.cells tk'.toArray 182)) := (Below.refl _ _).alloc (Nat.le_refl _) _
 refine ⟨h.cut.below hb, h.wrg.kept hb, Bk.new wr _ _ rfl, own_below h.own hb, fun g hg => ?_, ⟨by omega, by omega, by omega⟩, h.bel.trans (hb.mono h.bel.size)⟩
 have := h.apart g hg
 have := (h.own.lt g hg).2
 omega
theorem LnR.app {w' : World} {v' : Value} {o : Obj} {x : Tok} (h : LnR w W0 B p s a tk acc v wr) (hown : w'.ownsRow w.heap.size 182 5 v' (acc.length + 1) (flatT acc ++ x.cells))
  (hg : (wr.alloc o).grownBy w' v.ownBlock) (hat : v'.ownBlock = v.ownBlock ∨ v'.ownBlock = some (wr.alloc o).heap.size) : LnR w W0 B p s a tk (acc ++ [x]) v' w' := by
 have h1 := h.kept ((Below.refl _ _).alloc (Nat.le_refl _) o)
 have hf := h.far
 have hsz : (wr.alloc o).heap.size = wr.heap.size + 1 := by simp
 have q : ∀ b, (∀ g, v.ownBlock = some g → g ≠ b) → some b ≠ v.ownBlock := fun b hb e => hb b e.symm rfl
 have l1 := h.cut.txt.lt
 have l2 := h.cut.pos.lt
 have l3 := h.cut.tk.lt
 have l4 := h.wrg.lt
 have l5 := h.tok.lt
 refine ⟨⟨h1.cut.txt.grown hg (q _ fun g e => (h.apart g e).2.1), h1.cut.pos.grown hg (q _ fun g e => (h.apart g e).2.2.1), h1.cut.tk.grown hg (q _ fun g e => (h.apart g e).2.2.2.1), h.cut.ne1, h.cut.ne2, h.cut.hB, h.cut.ha⟩,
  h1.wrg.grown hg (q _ fun g e => (h.apart g e).1), h1.tok.grown hg (q _ fun g e => (h.apart g e).2.2.2.2), by rw [flatT_app, flatT_one, List.length_append]; exact hown, fun g hg' => ?_, h.far, ?_⟩
 ·rcases hat with e | e
  ·exact h.apart g (e ▸ hg')
  ·rw [e] at hg'; have := Option.some.inj hg'; omega
 ·exact h1.bel.grown hg h1.bel.size (fun g hg' => (h.own.lt g hg').1)
end
end Go.Proofs.YtinofjbnfmalkaaGreatDoor
namespace Go.Proofs.YtinofjbnfmalkaaGreatDoor
open Go.RowKit
def Wr.val (x : Wr) : Value := .agg #[.int .i64 x.l, .int .i64 x.c, .int .i64 x.e]
def LinePost (R : List Tok × Wr) (w : World) (e : Ending) (w' : World) : Prop :=
 ∃ v, e = .returned (.tuple #[v, R.2.val]) ∧ w'.ownsRow w.heap.size 182 5 v R.1.length (flatT R.1) ∧ Below w.heap.size w w'
theorem line_bad {R : List Tok × Wr} {ln n col er : Nat} {w w' : World} {e : Ending} (h : R = lineR ln n ([], col, er)) (h0 : er ≠ 0) (he : e = .returned (.tuple #[.slice none 0 0, .agg #[.int .i64 ln, .int .i64 col, .int .i64 er]])) (hb : Below w.heap.size w w') : LinePost R w e w' := by
 unfold lineR at h
 rw [if_pos h0] at h
 subst h
 exact ⟨_, he, World.ownsRow_nil _ _ _ _, hb⟩
theorem line_none {R : List Tok × Wr} {ln n : Nat} {w w' : World} {e : Ending} (h : R = lineR ln n ([], 0, 0)) (he : e = .returned (.tuple #[.slice none 0 0, .agg #[.int .i64 0, .int .i64 0, .int .i64 0]])) (hb : Below w.heap.size w w') : LinePost R w e w' := by
 subst h
 exact ⟨_, he, World.ownsRow_nil _ _ _ _, hb⟩
theorem line_good {R : List Tok × Wr} {ln n : Nat} {acc : List Tok} {w w' : World} {e : Ending} {v : Value} (h : R = lineR ln n (acc, 0, 0)) (h0 : acc ≠ []) (he : e = .returned (.tuple #[v, .agg #[.int .i64 0, .int .i64 0, .int .i64 0]]))
  (hown : w'.ownsRow w.heap.size 182 5 v (acc.length + 1) (flatT acc ++ (endT ln n).cells)) (hb : Below w.heap.size w w') : LinePost R w e w' := by
 unfold lineR at h
 rw [if_neg (by simp), if_neg h0] at h
 subst h
 refine ⟨_, he, ?_, hb⟩
 rw [flatT_app, flatT_one, List.length_append]
 exact hown
set_option maxHeartbeats 4000000 in
set_option maxRecDepth 100000 in
theorem line_any (l : Bs) (ln : Nat) (w : World) (hl : l.length ≤ 65536) (hE : LEnv w) :
  Calls Tryz.prog 74 #[.string ⟨l.toArray⟩, .int .i64 ln] w (LinePost (lineB ln l) w) := by
 obtain ⟨i0, hi0, hz0, hz1, hz2⟩ := info_parts infoTok
 obtain ⟨m, hm⟩ := hE.ml
 have HE := Lib.hid hE
 have hc := fun (W : World) (hm : W.cell? ⟨3, 0, none⟩ = some (.int .i64 m)) => Tryz.strings_Cut ⟨l.toArray⟩ ⟨#[35]⟩ m W (by rw [Lib.size_eq]; show l.length < _; omega) hm
 rw [show ((⟨#[35]⟩ : ByteArray).data.toList) = [35] from rfl, show ((⟨l.toArray⟩ : ByteArray).data.toList) = l from rfl, cut_head] at hc
 have hsl := cutH_len l
 have HR := Lib.hid (lineB_eq ln l)
 generalize (Lib.cut l [35]).2.1 = r1 at hc
 generalize (Lib.cut l [35]).2.2 = r2 at hc
 generalize cutH l = s at hc hsl HR
 have hs : s.length ≤ 65536 := by omega
 have hsz : (⟨s.toArray⟩ : ByteArray).size = s.length := by rw [Lib.size_eq]
 have HC := Lib.hid hc
 have Hm := Lib.hid hm
 clear hE hm hc hsl
 go_enter Tryz.func74, Tryz.ntmps74
 go_wp2_with fail
 refine (HC.out _ ((cell_belowL Hm.out ((Below.refl _ _).alloc (Nat.le_refl _) _)))).mono ?_
 rintro e w1 ⟨rfl, nq, hw1⟩
 have HW := Lib.hid (show Bk w1 w.heap.size 48 wr0 from hw1 ▸ (Bk.new w 48 _ rfl).drewN nq)
 have HB1 := Lib.hid (show Below w.heap.size w w1 from hw1 ▸ below_drewN ((Below.refl _ _).alloc (Nat.le_refl _) _) nq)
 clear hw1 HC
 go_wp2_with fail
 refine (cutter_any s w1).mono ?_
 rintro e w2 ⟨B, hBq, rfl, hC2, hb2⟩
 have hWB := HW.out.lt
 rw [← hBq] at hWB
 have HWs := Lib.hid HB1.out.size
 have HW2 := Lib.hid (HW.out.kept hb2)
 have HB2 := Lib.hid (HB1.out.trans (hb2.mono HB1.out.size))
 have HC2 := Lib.hid (show Cut w2 0 B (B + 1) (B + 2) s 0 from ⟨hC2.txt, hC2.pos, hC2.tk, hC2.ne1, hC2.ne2, Nat.zero_le _, hC2.ha⟩)
 have Hll := Lib.hid hC2.tk.lt
 clear hC2 hb2 hBq HW HB1
 go_wp2_with fail
 refine (next_any s 0 0 B (B + 1) (B + 2) w2 (by omega) HC2.out).mono ?_
 rintro e w3 ⟨k, t, col, ok, a', rfl, hN, hC3, hg3⟩
 have HN := Lib.hid hN
 have HLn := Lib.hid (show LnR w w.heap.size B w3.heap.size s a' [.int .u8 k, .string ⟨t.toArray⟩, .int .u64 0, .int .i64 0, .int .i64 col] [] (.slice none 0 0) (w3.alloc (.cells #[.int .u8 k, .string ⟨t.toArray⟩, .int .u64 0, .int .i64 0, .int .i64 col] 182)) from by
  have hb3 : Below w3.heap.size w3 (w3.alloc (.cells #[.int .u8 k, .string ⟨t.toArray⟩, .int .u64 0, .int .i64 0, .int .i64 col] 182)) := (Below.refl _ _).alloc (Nat.le_refl _) _
  have hs3 := hg3.size
  have := Hll.out
  have hbb := HB2.out.grown hg3 HB2.out.size (fun q hq => by cases hq; omega)
  refine ⟨hC3.below hb3, (HW2.out.grown hg3 (fun e => by have := Option.some.inj e; omega)).kept hb3, tok_new _ _ _ _ _ _ _, World.ownsRow_nil _ _ _ _, (fun g hg => by cases hg), ⟨by omega, by omega, Nat.le_refl _⟩, hbb.trans (hb3.mono hbb.size)⟩)
 have HD0 := Lib.hid (show lineB ln l = lineR ln s.length (lexP ln (s.drop 0) 0 []) from HR.out)
 clear hN hC3 hg3 HR HC2 HW2 HB2 Hll
 go_wp2_with fail
 go_loopg [10, 11, 12] (s.length + 1) (fun g v tp okv wx => ∃ (p k : Nat) (t : Bs) (col : Nat) (ok : Bool) (a a' : Nat) (acc : List Tok), tp = .pointer (some ⟨p, 0, none⟩) ∧ okv = .bool ok ∧ Hid (s.length + 1 ≤ g + a) ∧ a ≤ s.length ∧ acc.length ≤ a ∧ Hid (Nx s a k t col ok a') ∧ Hid (LnR w w.heap.size B p s a' [.int .u8 k, .string ⟨t.toArray⟩, .int .u64 0, .int .i64 0, .int .i64 col] acc v wx) ∧ Hid (lineB ln l = lineR ln s.length (lexP ln (s.drop a) a acc)))
 case atStart => exact ⟨_, k, t, col, ok, 0, a', [], rfl, rfl, Nat.le_refl _, Nat.zero_le _, Nat.le_refl _, HN.out, HLn.out, HD0.out⟩
 case round =>
  clear HN HLn HD0 HWs hWB
  obtain ⟨p, k, t, col, ok, a, a', acc, rfl, rfl, Hg, ha, hacc, HN, HL, HD⟩ := hrel
  have ha' := HL.out.cut.ha
  cases gk with
  | zero => exact absurd Hg.out (by omega)
  | succ g =>
   have hpl := HL.out.tok.lt
   have t0 := HL.out.tok.cell 0 rfl
   have t1 := HL.out.tok.cell 1 rfl
   have t2 := HL.out.tok.cell 2 rfl
   have t3 := HL.out.tok.cell 3 rfl
   have t4 := HL.out.tok.cell 4 rfl
   have f0 := HL.out.tok.fz 0
   have f1 := HL.out.tok.fz 1
   have f2 := HL.out.tok.fz 2
   have f3 := HL.out.tok.fz 3
   have f4 := HL.out.tok.fz 4
   cases ok with
   | false =>
    have HD2 := Lib.hid (show lineB ln l = lineR ln s.length (acc, 0, 0) by rw [HD.out, nx_false HN.out])
    have hwl := HL.out.wrg.lt
    have g0 := HL.out.wrg.cell 0 rfl
    have g1 := HL.out.wrg.cell 1 rfl
    have g2 := HL.out.wrg.cell 2 rfl
    have e0 := HL.out.wrg.fz 0
    have e1 := HL.out.wrg.fz 1
    have e2 := HL.out.wrg.fz 2
    by_cases h0 : acc = []
    ·have h1 : acc.length = 0 := by rw [h0]; rfl
     have HD3 := Lib.hid (HD2.out.trans (by rw [h0]))
     obtain ⟨Av, cv, rfl, hcv, _⟩ := own_seg HL.out.own
     clear h0
     go_wp2_with fail
     have HZ := Lib.hid (((HL.out.wrg.set 0 (.int .i64 0)).set 1 (.int .i64 0)).set 2 (.int .i64 0))
     have HG := Lib.hid (only_trans (only_trans (only_set wr w.heap.size 0 (.int .i64 0)) (only_set _ w.heap.size 1 (.int .i64 0))) (only_set _ w.heap.size 2 (.int .i64 0)))
     clear g0 g1 g2 e0 e1 e2 hwl
     revert HZ HG
     generalize World.setCell _ _ _ = w9
     intro HZ HG
     have hwl := HZ.out.lt
     have y0 := HZ.out.cell 0 rfl
     have y1 := HZ.out.cell 1 rfl
     have y2 := HZ.out.cell 2 rfl
     refine bodyPost_ret (v := .tuple #[.slice none 0 0, .agg #[.int .i64 0, .int .i64 0, .int .i64 0]]) ?_ rfl ?_
     ·simp [results, Tryz.results74, go_sem, y0, y1, y2]
     ·exact line_none HD3.out rfl (HL.out.bel.grown HG.out HL.out.bel.size (fun g hg => by cases hg; exact Nat.le_refl _))
    ·have h1 : ((acc.length : Int) == 0) = false := by
      have := List.length_pos_iff.2 h0
      rw [beq_eq_false_iff_ne]; omega
     obtain ⟨Av, cv, rfl, hcv, _⟩ := own_seg HL.out.own
     obtain ⟨q, hq⟩ : ∃ q, q = s.length + 1 := ⟨_, rfl⟩
     have hqi : ((s.length : Int) + 1) = (q : Int) := by omega
     have hal : acc.length ≤ 65536 := by omega
     have Hbw := Lib.hid (show w.heap.size ≤ wr.heap.size + 1 by have := HL.out.bel.size; omega)
     have Hnews := Lib.hid (show ∀ (j : Nat) (u : Value), (Tok.cells ⟨0, [], 0, ln, q⟩)[j]? = some u → (wr.alloc (.cells #[.int .u8 0, .string ⟨#[]⟩, .int .u64 0, .int .i64 ln, .int .i64 q] 182)).cell? ((⟨wr.heap.size, 0, none⟩ : Addr).add j) = some u from bk_news (bk_new_at (l := Tok.cells ⟨0, [], 0, ln, q⟩) _ 182 #[.int .u8 0, .string ⟨#[]⟩, .int .u64 0, .int .i64 ln, .int .i64 q] rfl rfl))
     have Hq := Lib.hid hq
     have H0 := Lib.hid h0
     clear h0 hq
     go_wp2_with (at_builtin; refine wpList_append_own_at _ rfl (.tmp 60) (.tmp 66) 105 rfl w.heap.size 182 i0 _ 5 48 Tryz.underlying105 hi0 hz0 hz1 hz2 rfl (by decide) _ acc.length (flatT acc) rfl (HL.out.own.alloc _) ⟨wr.heap.size, 0, none⟩ 1 1 (Tok.cells ⟨0, [], 0, ln, q⟩) rfl rfl Hnews.out (cells_oneT _) (by unfold maxLen; omega) (by omega) (by simp; exact Hbw.out) ?_; intro v' w5 hown' hgrow _ hat; have HL6 := Lib.hid (HL.out.app hown' hgrow hat); have Hown := Lib.hid hown'; clear hown' hgrow hat Hnews g0 g1 g2 e0 e1 e2 hwl; have hwl := HL6.out.wrg.lt; have g0 := HL6.out.wrg.cell 0 rfl; have g1 := HL6.out.wrg.cell 1 rfl; have g2 := HL6.out.wrg.cell 2 rfl; have e0 := HL6.out.wrg.fz 0; have e1 := HL6.out.wrg.fz 1; have e2 := HL6.out.wrg.fz 2)
     have HZ := Lib.hid (((HL6.out.wrg.set 0 (.int .i64 0)).set 1 (.int .i64 0)).set 2 (.int .i64 0))
     have HG := Lib.hid (only_trans (only_trans (only_set w5 w.heap.size 0 (.int .i64 0)) (only_set _ w.heap.size 1 (.int .i64 0))) (only_set _ w.heap.size 2 (.int .i64 0)))
     clear g0 g1 g2 e0 e1 e2 hwl
     revert HZ HG
     generalize World.setCell _ _ _ = w9
     intro HZ HG
     have hwl := HZ.out.lt
     have y0 := HZ.out.cell 0 rfl
     have y1 := HZ.out.cell 1 rfl
     have y2 := HZ.out.cell 2 rfl
     refine bodyPost_ret (v := .tuple #[v', .agg #[.int .i64 0, .int .i64 0, .int .i64 0]]) ?_ rfl ?_
     ·simp [results, Tryz.results74, go_sem, y0, y1, y2]
     ·exact line_good HD2.out H0.out rfl (by have h := own_other HL6.out.own HG.out (fun g hg e => (HL6.out.apart g hg).1 (Option.some.inj e).symm); rw [flatT_app, flatT_one, List.length_append] at h; unfold endT; rw [← Hq.out]; exact h) (HL6.out.bel.grown HG.out HL6.out.bel.size (fun g hg => by cases hg; exact Nat.le_refl _))
   | true =>
    have HK := Lib.hid (nx_kind HN.out)
    have HL1 := Lib.hid (HL.out.setp 3 (.int .i64 ln))
    obtain ⟨nv, er, hv⟩ : ∃ nv er, valB k t = (nv, er) := ⟨_, _, rfl⟩
    have hvp := fun (n lnv cv : Nat) (W : World) (E : LEnv W) => value_any k t n lnv cv W HK.out.1 (by have := HK.out.2.1; omega) E
    unfold ValPost at hvp
    rw [hv] at hvp
    have Hvp := Lib.hid hvp
    have Hv := Lib.hid hv
    clear hvp hv
    go_wp2_with fail
    refine (Hvp.out 0 ln col _ (HE.out.below HL1.out.bel)).mono ?_
    rintro e w4 ⟨rfl, hb4⟩
    have HL4 := Lib.hid (HL1.out.kept hb4)
    clear hb4 HL HL1 Hvp t0 t1 t2 t3 t4 f0 f1 f2 f3 f4 hpl
    have hpl := HL4.out.tok.lt
    have t0 := HL4.out.tok.cell 0 rfl
    have t1 := HL4.out.tok.cell 1 rfl
    have t2 := HL4.out.tok.cell 2 rfl
    have t3 := HL4.out.tok.cell 3 rfl
    have t4 := HL4.out.tok.cell 4 rfl
    have f0 := HL4.out.tok.fz 0
    have f1 := HL4.out.tok.fz 1
    have f2 := HL4.out.tok.fz 2
    have f3 := HL4.out.tok.fz 3
    have f4 := HL4.out.tok.fz 4
    by_cases her : er = 0
    ·have h1 : ((er : Int) == 0) = true := by rw [her]; rfl
     have h2 : ((er : Int) != 0) = false := by rw [her]; rfl
     have HS := Lib.hid (nx_step (ln := ln) (acc := acc) HN.out (by rw [Hv.out]; exact her))
     rw [Hv.out] at HS
     clear her Hv HN
     have HL5 := Lib.hid (HL4.out.setp 2 (.int .u64 nv))
     have hal : acc.length ≤ 65536 := by omega
     have Hbw := Lib.hid (show w.heap.size ≤ w4.heap.size + 1 by have := HL4.out.bel.size; omega)
     have Hnews := Lib.hid (show ∀ (j : Nat) (u : Value), (Tok.cells ⟨k, t, nv, ln, col⟩)[j]? = some u → ((w4.setCell ⟨p, 2, none⟩ (.int .u64 nv)).alloc (.cells #[.int .u8 k, .string ⟨t.toArray⟩, .int .u64 nv, .int .i64 ln, .int .i64 col] 182)).cell? ((⟨w4.heap.size, 0, none⟩ : Addr).add j) = some u from bk_news (bk_new_at (l := Tok.cells ⟨k, t, nv, ln, col⟩) _ 182 #[.int .u8 k, .string ⟨t.toArray⟩, .int .u64 nv, .int .i64 ln, .int .i64 col] rfl (by simp)))
     obtain ⟨Av, cv, rfl, hcv, _⟩ := own_seg HL5.out.own
     go_wp2_with (at_builtin; refine wpList_append_own_at _ rfl (.tmp 51) (.tmp 53) 105 rfl w.heap.size 182 i0 _ 5 48 Tryz.underlying105 hi0 hz0 hz1 hz2 rfl (by decide) _ acc.length (flatT acc) rfl (HL5.out.own.alloc _) ⟨w4.heap.size, 0, none⟩ 1 1 (Tok.cells ⟨k, t, nv, ln, col⟩) rfl rfl Hnews.out (cells_oneT _) (by unfold maxLen; omega) (by omega) (by simp; exact Hbw.out) ?_; intro v' w5 hown' hgrow _ hat; have HL6 := Lib.hid (HL5.out.app hown' hgrow hat); clear hown' hgrow hat Hnews t0 t1 t2 t3 t4 f0 f1 f2 f3 f4 hpl; have hpl := HL6.out.tok.lt; have t0 := HL6.out.tok.cell 0 rfl; have t1 := HL6.out.tok.cell 1 rfl; have t2 := HL6.out.tok.cell 2 rfl; have t3 := HL6.out.tok.cell 3 rfl; have t4 := HL6.out.tok.cell 4 rfl; have f0 := HL6.out.tok.fz 0; have f1 := HL6.out.tok.fz 1; have f2 := HL6.out.tok.fz 2; have f3 := HL6.out.tok.fz 3; have f4 := HL6.out.tok.fz 4)
     have HL7 := Lib.hid (HL6.out.newp [.int .u8 k, .string ⟨t.toArray⟩, .int .u64 nv, .int .i64 ln, .int .i64 col])
     refine (next_any s a' 0 B (B + 1) (B + 2) _ (by omega) HL7.out.cut).mono ?_
     rintro e w7 ⟨k2, t2', col2, ok2, a2, rfl, hN2, hC7, hg7⟩
     have HN2 := Lib.hid hN2
     have HL8 := Lib.hid (HL7.out.next hg7 hC7)
     clear hN2 hC7 hg7 HL7 HL6 HL5 HL4 t0 t1 t2 t3 t4 f0 f1 f2 f3 f4 hpl
     have hpl := HL8.out.tok.lt
     have t0 := HL8.out.tok.cell 0 rfl
     have t1 := HL8.out.tok.cell 1 rfl
     have t2 := HL8.out.tok.cell 2 rfl
     have t3 := HL8.out.tok.cell 3 rfl
     have t4 := HL8.out.tok.cell 4 rfl
     have f0 := HL8.out.tok.fz 0
     have f1 := HL8.out.tok.fz 1
     have f2 := HL8.out.tok.fz 2
     have f3 := HL8.out.tok.fz 3
     have f4 := HL8.out.tok.fz 4
     have HL9 : Hid (LnR w w.heap.size B w5.heap.size s a2 [.int .u8 k2, .string ⟨t2'.toArray⟩, .int .u64 0, .int .i64 0, .int .i64 col2] (acc ++ [⟨k, t, nv, ln, col⟩]) v' _) := Lib.hid (((((HL8.out.setp 0 (.int .u8 k2)).setp 1 (.string ⟨t2'.toArray⟩)).setp 2 (.int .u64 0)).setp 3 (.int .i64 0)).setp 4 (.int .i64 col2))
     go_wp2_with fail
     go_roundg g
     case rel => exact ⟨_, k2, t2', col2, ok2, a', a2, acc ++ [(⟨k, t, nv, ln, col⟩ : Tok)], rfl, rfl, by have := Hg.out; have := HS.out.2; show s.length + 1 ≤ g + a'; omega, ha', by have := HS.out.2; simp; omega, HN2.out, HL9.out, by rw [HD.out, HS.out.1]; rfl⟩
     case measure => omega
    ·have h1 : ((er : Int) == 0) = false := by rw [beq_eq_false_iff_ne]; omega
     have h2 : ((er : Int) != 0) = true := by simp; omega
     have HS := Lib.hid (nx_bad (ln := ln) (acc := acc) HN.out (by rw [Hv.out]; exact her))
     have hwl := HL4.out.wrg.lt
     have g0 := HL4.out.wrg.cell 0 rfl
     have g1 := HL4.out.wrg.cell 1 rfl
     have g2 := HL4.out.wrg.cell 2 rfl
     have e0 := HL4.out.wrg.fz 0
     have e1 := HL4.out.wrg.fz 1
     have e2 := HL4.out.wrg.fz 2
     have Her := Lib.hid her
     clear her
     go_wp2_with fail
     go_region
     go_wp2_with fail
     have HZ := Lib.hid ((((HL4.out.wrg.set 0 (.int .i64 ln)).set 1 (.int .i64 col)).set 2 (.int .i64 er)).drew)
     have HG := Lib.hid (show Below w.heap.size w _ from (((HL4.out.bel.grown (only_set w4 w.heap.size 0 (.int .i64 ln)) HL4.out.bel.size (fun q hq => by cases hq; omega)).grown (only_set _ w.heap.size 1 (.int .i64 col)) (by simp [World.setCell]; exact HL4.out.bel.size) (fun q hq => by cases hq; omega)).grown (only_set _ w.heap.size 2 (.int .i64 er)) (by simp [World.setCell]; exact HL4.out.bel.size) (fun q hq => by cases hq; omega)).drew)
     clear g0 g1 g2 e0 e1 e2 hwl
     revert HZ HG
     generalize World.drew _ = w5
     intro HZ HG
     have hwl := HZ.out.lt
     have y0 := HZ.out.cell 0 rfl
     have y1 := HZ.out.cell 1 rfl
     have y2 := HZ.out.cell 2 rfl
     refine bodyPost_ret (v := .tuple #[.slice none 0 0, .agg #[.int .i64 ln, .int .i64 col, .int .i64 er]]) ?_ rfl ?_
     ·simp [results, Tryz.results74, go_sem, y0, y1, y2]
     ·exact line_bad (by rw [HD.out, HS.out, Hv.out]) Her.out rfl HG.out
end Go.Proofs.YtinofjbnfmalkaaGreatDoor
namespace Go.Proofs.YtinofjbnfmalkaaGreatDoor
open Go.RowKit
def strsL (ws : List Bs) : List Value := ws.map fun x => Value.string ⟨x.toArray⟩
theorem strs_atL {ws : List Bs} {k : Nat} {x : Bs} (h : ws[k]? = some x) : (strsL ws)[k]? = some (.string ⟨x.toArray⟩) := by simp [strsL, h]
theorem Seg.grownO {w w' : World} {B z n : Nat} {A : Option Addr} {xs : List Value} {r : Option Nat} (h : Seg w B z n A xs) (hg : w.grownBy w' r) (hr : n ≠ 0 → ∀ a, A = some a → r ≠ some a.block) : Seg w' B z n A xs := by
 refine ⟨h.len, ?_⟩
 by_cases hn : n = 0
 ·exact .inl hn
 ·rcases h.at_ with e | ⟨b, o, e, h0, hl, hc⟩
  ·exact .inl e
  ·refine .inr ⟨b, o, e, h0, Nat.lt_of_lt_of_le hl hg.size, fun j u hu => ?_⟩
   rw [← hc j u hu]
   unfold World.cell?
   rw [hg.block b hl (fun e' => hr hn _ e e'.symm)]
theorem lines_len (s : Bs) : (lines s).length ≤ s.length + 1 := by
 induction s with
 | nil => simp [lines]
 | cons c t ih =>
  unfold lines
  split
  ·simpa using ih
  ·split
   ·rename_i h r e; rw [e] at ih; simp at ih ⊢; omega
   ·simp
theorem lines_mem (s : Bs) : ∀ l ∈ lines s, l.length ≤ s.length ∧ ∀ c ∈ l, c ∈ s := by
 induction s with
 | nil => intro l hl; simp [lines] at hl; subst hl; simp
 | cons c t ih =>
  intro l hl
  unfold lines at hl
  split at hl
  ·rcases List.mem_cons.1 hl with rfl | hl
   ·simp
   ·obtain ⟨h1, h2⟩ := ih l hl
    exact ⟨by simp; omega, fun c hc => List.mem_cons_of_mem _ (h2 c hc)⟩
  ·split at hl
   ·rename_i h r e
    rcases List.mem_cons.1 hl with rfl | hl
    ·obtain ⟨h1, h2⟩ := ih h (by rw [e]; simp)
     refine ⟨by simp; omega, fun d hd => ?_⟩
     rcases List.mem_cons.1 hd with rfl | hd
     ·simp
     ·exact List.mem_cons_of_mem _ (h2 d hd)
    ·obtain ⟨h1, h2⟩ := ih l (by rw [e]; simp [hl])
     exact ⟨by simp; omega, fun c hc => List.mem_cons_of_mem _ (h2 c hc)⟩
   ·rename_i e; exact absurd e (lines_ne t)
def SplitPostL (s : Bs) (w : World) (e : Ending) (w' : World) : Prop :=
 ∃ A : Nat, e = .returned (.slice (some ⟨A, 0, none⟩) (lines s).length (lines s).length) ∧ Seg w' w.heap.size 1 (lines s).length (some ⟨A, 0, none⟩) (strsL (lines s)) ∧ Below w.heap.size w w'
theorem split_anyL (s : ByteArray) (w : World) (hs : s.size ≤ 65536) (hE : LEnv w) : Calls Tryz.prog 73 #[.string s, .string ⟨#[10]⟩] w (SplitPostL s.data.toList w) := by
 obtain ⟨m, hm⟩ := hE.ml
 have hl := splitB_lines s
 have hlen : Lib.countB s ⟨#[10]⟩ + 1 = (lines s.data.toList).length := by
  rw [← hl, List.length_map, Lib.splitB_all ⟨#[10]⟩ (by decide) 0 _ s rfl]
 have hst : (Lib.splitB ⟨#[10]⟩ 0 (Lib.countB s ⟨#[10]⟩) s).map Value.string = strsL (lines s.data.toList) := by
  rw [← hl]
  unfold strsL
  rw [List.map_map]
  exact List.map_congr_left (fun x _ => by simp)
 refine (Tryz.strings_Split s ⟨#[10]⟩ m w (by omega) hm (by decide)).mono ?_
 rintro e w' ⟨he, hw⟩
 rw [hlen] at he
 rw [hst] at hw
 subst hw
 exact ⟨w.heap.size, he, (Bk.new w _ _ rfl).seg (by simp [strsL]) (Nat.le_refl _), (Below.refl _ _).alloc (Nat.le_refl _) _⟩
theorem neq_wr (a b : Wr) (w : World) : (binOp .neq 48 (.agg #[.int .i64 a.l, .int .i64 a.c, .int .i64 a.e]) (.agg #[.int .i64 b.l, .int .i64 b.c, .int .i64 b.e])).run Tryz.prog w = .ok (.bool (!decide (a = b))) w := by
 rw [run_neq_struct, run_equalIn_agg w 9999 _ _ _ (by simp [Program.fieldsOf, Tryz.underlying48]) (by kernel_rfl)]
 obtain ⟨a1, a2, a3⟩ := a
 obtain ⟨b1, b2, b3⟩ := b
 by_cases h1 : a1 = b1 <;> by_cases h2 : a2 = b2 <;> by_cases h3 : a3 = b3 <;> simp [Op.eqFields, Program.fieldsOf, Tryz.underlying48, go_sem, h1, h2, h3] <;> omega
theorem lexF_len (ln : Nat) : ∀ (f : Nat) (s : Bs) (a : Nat), (lexF ln f s a).1.length ≤ s.length
 | 0, _, _ => by simp [lexF]
 | f + 1, s, a => by
  cases hn : nextS s with
  | none => rw [lexF_none hn]; simp
  | some x =>
   obtain ⟨k, t, g, r⟩ := x
   by_cases hv : (valB k t).2 = 0
   ·have hl := nextS_len hn
    have ht := List.length_pos_iff.2 (next_pos hn hv)
    rw [lexF_step hn hv]
    have := lexF_len ln f r (a + g + t.length)
    simp
    omega
   ·rw [lexF_bad hn hv]; simp
theorem lineB_len (ln : Nat) (l : Bs) : (lineB ln l).1.length ≤ l.length + 1 := by
 have h1 := lexF_len ln ((cutH l).length + 1) (cutH l) 0
 have h2 := cutH_len l
 unfold lineB lineR
 split
 ·simp
 ·split
  ·simp
  ·simp; omega
theorem lexL_bad {ls : List Bs} {k : Nat} {l : Bs} {acc : List Tok} (h : ls[k]? = some l) (he : (lineB (k + 1) l).2 ≠ noW) : lexL (ls.drop k) k acc = ([], (lineB (k + 1) l).2) := by
 obtain ⟨a1, e1⟩ := List.getElem?_eq_some_iff.1 h
 rw [List.drop_eq_getElem_cons a1, e1, lexL, if_pos he]
theorem lexL_on {ls : List Bs} {k : Nat} {l : Bs} {acc : List Tok} (h : ls[k]? = some l) (he : (lineB (k + 1) l).2 = noW) : lexL (ls.drop k) k acc = lexL (ls.drop (k + 1)) (k + 1) (acc ++ (lineB (k + 1) l).1) := by
 obtain ⟨a1, e1⟩ := List.getElem?_eq_some_iff.1 h
 rw [List.drop_eq_getElem_cons a1, e1, lexL, if_neg (by simpa using he)]
theorem own_slice {w : World} {base : Nat} {e : TypeId} {z n : Nat} {v : Value} {xs : List Value} (h : w.ownsRow base e z v n xs) :
  ∃ A c, v = .slice A n c ∧ n ≤ c ∧ Rd w z n A xs ∧ (A = none → c = 0) := by
 rcases h.2 with ⟨rfl, rfl⟩ | ⟨g, cap, cur, rfl, hb, hh, hn, hm, hs, rfl⟩
 ·exact ⟨none, 0, rfl, Nat.le_refl _, ⟨h.1, .inl rfl⟩, fun _ => rfl⟩
 ·refine ⟨_, cap, rfl, hn, ⟨h.1, .inr ⟨g, 0, rfl, (Array.getElem?_eq_some_iff.1 hh).1, fun j u hu => ?_⟩⟩, fun e => by cases e⟩
  have := h.cells (g := g) rfl j u hu
  rw [← this]
  simp [Addr.add]
  by_cases hj : j = 0 <;> simp [hj]
structure PsL (w : World) (A : Nat) (Ls : List Bs) (L : List Tok) (v : Value) (wr : World) : Prop where
 lin : Seg wr (w.heap.size + 1) 1 Ls.length (some ⟨A, 0, none⟩) (strsL Ls)
 wrg : Bk wr w.heap.size 48 wr0
 own : wr.ownsRow w.heap.size 182 5 v L.length (flatT L)
 apart : ∀ g, v.ownBlock = some g → g ≠ A ∧ g ≠ w.heap.size
 lt : w.heap.size < A ∧ A < wr.heap.size
 bel : Below w.heap.size w wr
theorem PsL.kept {w wr w' : World} {A : Nat} {Ls : List Bs} {L : List Tok} {v : Value} (h : PsL w A Ls L v wr) (hb : Below wr.heap.size wr w') : PsL w A Ls L v w' :=
 ⟨h.lin.below hb, h.wrg.kept hb, own_below h.own hb, h.apart, ⟨h.lt.1, Nat.lt_of_lt_of_le h.lt.2 hb.size⟩, h.bel.trans (hb.mono h.bel.size)⟩
theorem PsL.put {w wr w' : World} {A : Nat} {Ls : List Bs} {L M : List Tok} {v v' : Value} (h : PsL w A Ls L v wr) (hown : w'.ownsRow w.heap.size 182 5 v' (L.length + M.length) (flatT L ++ flatT M))
  (hg : wr.grownBy w' v.ownBlock) (hat : v'.ownBlock = v.ownBlock ∨ v'.ownBlock = some wr.heap.size) : PsL w A Ls (L ++ M) v' w' := by
 have hlt := h.lt
 have hl4 := h.wrg.lt
 refine ⟨Seg.grownO h.lin hg (fun hn a ha e => by cases ha; exact (h.apart _ e).1 rfl), h.wrg.grown hg (fun e => (h.apart _ e.symm).2 rfl), by rw [flatT_app, List.length_append]; exact hown, fun g hg' => ?_, ⟨hlt.1, Nat.lt_of_lt_of_le hlt.2 hg.size⟩, h.bel.grown hg h.bel.size (fun g hg' => (h.own.lt g hg').1)⟩
 rcases hat with e | e
 ·exact h.apart g (e ▸ hg')
 ·rw [e] at hg'; have := Option.some.inj hg'; omega
end Go.Proofs.YtinofjbnfmalkaaGreatDoor
namespace Go.Proofs.YtinofjbnfmalkaaGreatDoor
open Go.RowKit
theorem lex_bad {R : List Tok × Wr} {x : Wr} {w w' : World} {e : Ending} (h : R = ([], x)) (he : e = .returned (.tuple #[.slice none 0 0, .agg #[.int .i64 x.l, .int .i64 x.c, .int .i64 x.e]])) (hb : Below w.heap.size w w') : LinePost R w e w' := by
 subst h
 exact ⟨_, he, World.ownsRow_nil _ _ _ _, hb⟩
theorem lex_good {R : List Tok × Wr} {L : List Tok} {w w' : World} {e : Ending} {v : Value} (h : R = (L, noW)) (he : e = .returned (.tuple #[v, .agg #[.int .i64 0, .int .i64 0, .int .i64 0]])) (hown : w'.ownsRow w.heap.size 182 5 v L.length (flatT L)) (hb : Below w.heap.size w w') : LinePost R w e w' := by
 subst h
 exact ⟨_, he, hown, hb⟩
set_option maxHeartbeats 4000000 in
set_option maxRecDepth 100000 in
theorem lex_long (s : ByteArray) (w : World) (hs : 65536 < s.size) : Calls Tryz.prog 37 #[.string s] w (LinePost (lexB s.data.toList) w) := by
 have HR := Lib.hid (show lexB s.data.toList = ([], ⟨0, 0, 36⟩) by unfold lexB; rw [if_pos (by rw [← Lib.size_eq]; exact hs)])
 have h1 : (65536 : Int) < (s.size : Int) := by omega
 have h2 : ¬ (s.size : Int) ≤ 65536 := by omega
 go_enter Tryz.func37, Tryz.ntmps37
 go_wp2_with fail
 refine bodyPost_ret (v := .tuple #[.slice none 0 0, .agg #[.int .i64 0, .int .i64 0, .int .i64 36]]) ?_ rfl ?_
 ·simp [results, Tryz.results37, go_sem]
 ·exact lex_bad HR.out rfl ((Below.refl _ _).alloc (Nat.le_refl _) _)
set_option maxHeartbeats 4000000 in
set_option maxRecDepth 100000 in
theorem lex_any (s : ByteArray) (w : World) (hE : LEnv w) : Calls Tryz.prog 37 #[.string s] w (LinePost (lexB s.data.toList) w) := by
 by_cases hs : s.size ≤ 65536
 case neg => exact lex_long s w (by omega)
 have HE := Lib.hid hE
 have hsz := Lib.size_eq s
 have Hln := Lib.hid (fun l hl => (lines_mem s.data.toList l hl).1)
 have HP0 := Lib.hid (show lexB s.data.toList = lexL ((lines s.data.toList).drop 0) 0 [] by unfold lexB; rw [if_neg (by omega)]; rfl)
 have hll := lines_len s.data.toList
 have Hsp := Lib.hid (fun W E => split_anyL s W hs E)
 have hll2 : (lines s.data.toList).length ≤ 65537 := by omega
 have Hsl := Lib.hid (show s.data.toList.length ≤ 65536 by omega)
 have HB0 := Lib.hid (show Below w.heap.size w (w.alloc (.cells #[.int .i64 0, .int .i64 0, .int .i64 0] 48)) from (Below.refl _ _).alloc (Nat.le_refl _) _)
 have h1 : ¬ (65536 : Int) < (s.size : Int) := by omega
 have h2 : (s.size : Int) ≤ 65536 := by omega
 clear hE hll hsz
 go_enter Tryz.func37, Tryz.ntmps37
 go_wp2_with fail
 refine (Hsp.out _ (HE.out.below HB0.out)).mono ?_
 rintro e w1 ⟨A, rfl, hseg, hb1⟩
 obtain ⟨Ls, hLs⟩ : ∃ Ls, Ls = lines s.data.toList := ⟨_, rfl⟩
 rw [← hLs] at hseg Hln HP0 hll2 ⊢
 have HPs := Lib.hid (show PsL w A Ls [] (.slice none 0 0) w1 from by
  rw [show (w.alloc (.cells #[.int .i64 0, .int .i64 0, .int .i64 0] 48)).heap.size = w.heap.size + 1 by simp] at hseg
  obtain ⟨b, o, e, h0, hl, _⟩ := hseg.pos (by
   have : Ls ≠ [] := by rw [hLs]; exact lines_ne _
   exact List.length_pos_iff.2 this)
  cases e
  exact ⟨hseg, Bk.kept (Bk.new w _ _ rfl) hb1, World.ownsRow_nil _ _ _ _, (fun g hg => by cases hg), ⟨by omega, hl⟩, HB0.out.trans (hb1.mono HB0.out.size)⟩)
 clear hseg hb1 hLs Hsp HB0
 go_wp2_with fail
 go_loopw [4, 16] (fun v c wr => ∃ (k : Nat) (L : List Tok), k ≤ Ls.length ∧ c = .int .i64 k ∧ L.length ≤ k * 65537 ∧ Hid (lexB s.data.toList = lexL (Ls.drop k) k L) ∧ Hid (PsL w A Ls L v wr)) (fun _ c _ => Ls.length - (intOf c).toNat)
 case atStart => exact ⟨0, [], by omega, rfl, by simp, HP0.out, HPs.out⟩
 case round =>
  obtain ⟨k, L, hk, rfl, hL, HD, HT⟩ := hrel
  clear HPs HP0
  by_cases hlt : k < Ls.length
  ·obtain ⟨l, hl⟩ : ∃ l, Ls[k]? = some l := ⟨_, List.getElem?_eq_getElem hlt⟩
   have hA := HT.out.lt.2
   obtain ⟨b, o, hbo, _, hbl, hcell⟩ := HT.out.lin.pos (by omega)
   cases hbo
   have c0 : wr.cell? ⟨A, k, none⟩ = some (.string ⟨l.toArray⟩) := by have := hcell k _ (strs_atL hl); rwa [Nat.zero_add] at this
   have hlm := Hln.out l (List.mem_of_getElem? hl)
   have hl64 : l.length ≤ 65536 := by have := Hsl.out; omega
   obtain ⟨k1, hk1⟩ : ∃ k1, k1 = k + 1 := ⟨_, rfl⟩
   have hki : ((k : Int) + 1) = (k1 : Int) := by omega
   have Hon := Lib.hid (fun h => lexL_on (acc := L) hl h)
   have Hbad := Lib.hid (fun h => lexL_bad (acc := L) hl h)
   have hlb := lineB_len (k + 1) l
   rw [← hk1] at Hon Hbad hlb
   obtain ⟨R, hR⟩ : ∃ R, R = lineB k1 l := ⟨_, rfl⟩
   have Hline := Lib.hid (fun W E => line_any l k1 W hl64 E)
   rw [← hR] at Hon Hbad hlb Hline
   obtain ⟨M, xl, xc, xe⟩ := R
   obtain ⟨Av, cv, rfl, hcv, _⟩ := own_slice HT.out.own
   have hkr : k1 ≤ 65537 := by omega
   have Hk1 := Lib.hid hk1
   have Hhl := Lib.hid hl
   clear hcell hl hlm hR hk1
   go_wp2_with fail
   refine (Hline.out _ (HE.out.below HT.out.bel)).mono ?_
   rintro e w2 ⟨v2, rfl, hown2, hb2⟩
   have HT2 := Lib.hid (HT.out.kept hb2)
   have HO2 := Lib.hid hown2
   have Hsz2 := Lib.hid hb2.size
   clear hb2 hown2 Hline c0 HT hA
   obtain ⟨A2, c2, rfl, hc2, hR2, hn2⟩ := own_slice HO2.out
   have HR2 := Lib.hid hR2
   have HN2 := Lib.hid hn2
   simp only [Wr.val]
   have HX := Lib.hid (bk_new_at w2 48 (l := [.int .i64 xl, .int .i64 xc, .int .i64 xe]) #[.int .i64 xl, .int .i64 xc, .int .i64 xe] rfl rfl)
   have HT3 := Lib.hid (HT2.out.kept ((Below.refl _ _).alloc (Nat.le_refl _) (.cells #[.int .i64 xl, .int .i64 xc, .int .i64 xe] 48)))
   have d0 := HX.out.cell 0 rfl
   have d1 := HX.out.cell 1 rfl
   have d2 := HX.out.cell 2 rfl
   clear hR2 hn2
   by_cases hx : (⟨xl, xc, xe⟩ : Wr) = noW
   ·have hQ : ∀ W : World, (binOp .neq 48 (.agg #[.int .i64 xl, .int .i64 xc, .int .i64 xe]) (.agg #[.int .i64 0, .int .i64 0, .int .i64 0])).run Tryz.prog W = .ok (.bool false) W := fun W => by have h := neq_wr ⟨xl, xc, xe⟩ noW W; rw [decide_eq_true hx] at h; exact h
    have HD2 := Lib.hid (HD.out.trans (Hon.out hx))
    have HR3 := Lib.hid (HR2.out.below ((Below.refl w2.heap.size w2).alloc (Nat.le_refl _) (.cells #[.int .i64 xl, .int .i64 xc, .int .i64 xe] 48)))
    have hML : M.length ≤ 65537 := by have hl2 : M.length ≤ l.length + 1 := hlb; omega
    have hnm : L.length + M.length ≤ 10000000000 := by omega
    have Hbw := Lib.hid (show w.heap.size ≤ w2.heap.size + 1 by have := HT2.out.bel.size; omega)
    clear hx hlb HT2
    go_wp2_with (at_builtin; refine append_toks rfl (.tmp 32) (.tmp 33) rfl w.heap.size _ L.length (flatT L) rfl HT3.out.own M A2 M.length c2 rfl rfl HR3.out HN2.out hnm (by simp; exact Hbw.out) ?_; intro v' w5 hown' hgrow hat; have HT5 := Lib.hid (HT3.out.put hown' hgrow hat); clear hown' hgrow hat)
    go_roundw
    case rel => exact ⟨k1, L ++ M, by have := Hk1.out; omega, by have := Hk1.out; go_num, by simp; have := Hk1.out; omega, HD2.out, HT5.out⟩
    case measure => simp [intOf]; omega
   ·have hQ : ∀ W : World, (binOp .neq 48 (.agg #[.int .i64 xl, .int .i64 xc, .int .i64 xe]) (.agg #[.int .i64 0, .int .i64 0, .int .i64 0])).run Tryz.prog W = .ok (.bool true) W := fun W => by have h := neq_wr ⟨xl, xc, xe⟩ noW W; rw [decide_eq_false hx] at h; exact h
    have HD2 := Lib.hid (HD.out.trans (Hbad.out hx))
    have hwl := HT3.out.wrg.lt
    have g0 := HT3.out.wrg.cell 0 rfl
    have g1 := HT3.out.wrg.cell 1 rfl
    have g2 := HT3.out.wrg.cell 2 rfl
    have e0 := HT3.out.wrg.fz 0
    have e1 := HT3.out.wrg.fz 1
    have e2 := HT3.out.wrg.fz 2
    clear hx hlb HT2
    go_wp2_with fail
    go_region
    go_wp2_with fail
    have HZ := Lib.hid (((HT3.out.wrg.set 0 (.int .i64 xl)).set 1 (.int .i64 xc)).set 2 (.int .i64 xe))
    have HG := Lib.hid (only_trans (only_trans (only_set (w2.alloc (.cells #[.int .i64 xl, .int .i64 xc, .int .i64 xe] 48)) w.heap.size 0 (.int .i64 xl)) (only_set _ w.heap.size 1 (.int .i64 xc))) (only_set _ w.heap.size 2 (.int .i64 xe)))
    clear g0 g1 g2 e0 e1 e2 hwl
    revert HZ HG
    generalize World.setCell _ _ _ = w9
    intro HZ HG
    have hwl := HZ.out.lt
    have y0 := HZ.out.cell 0 rfl
    have y1 := HZ.out.cell 1 rfl
    have y2 := HZ.out.cell 2 rfl
    refine bodyPost_ret (v := .tuple #[.slice none 0 0, .agg #[.int .i64 xl, .int .i64 xc, .int .i64 xe]]) ?_ rfl ?_
    ·simp [results, Tryz.results37, go_sem, y0, y1, y2]
    ·exact lex_bad HD2.out rfl ((HT3.out.bel.grown HG.out HT3.out.bel.size (fun g hg => by cases hg; exact Nat.le_refl _)).drew)
  ·obtain rfl : k = Ls.length := by omega
   obtain ⟨Av, cv, rfl, hcv, _⟩ := own_slice HT.out.own
   have HD2 := Lib.hid (show lexB s.data.toList = (L, noW) by rw [HD.out, List.drop_eq_nil_of_le (Nat.le_refl _)]; rfl)
   have hwl := HT.out.wrg.lt
   have g0 := HT.out.wrg.cell 0 rfl
   have g1 := HT.out.wrg.cell 1 rfl
   have g2 := HT.out.wrg.cell 2 rfl
   have e0 := HT.out.wrg.fz 0
   have e1 := HT.out.wrg.fz 1
   have e2 := HT.out.wrg.fz 2
   go_wp2_with fail
   have HZ := Lib.hid (((HT.out.wrg.set 0 (.int .i64 0)).set 1 (.int .i64 0)).set 2 (.int .i64 0))
   have HG := Lib.hid (only_trans (only_trans (only_set wr w.heap.size 0 (.int .i64 0)) (only_set _ w.heap.size 1 (.int .i64 0))) (only_set _ w.heap.size 2 (.int .i64 0)))
   clear g0 g1 g2 e0 e1 e2 hwl
   revert HZ HG
   generalize World.setCell _ _ _ = w9
   intro HZ HG
   have hwl := HZ.out.lt
   have y0 := HZ.out.cell 0 rfl
   have y1 := HZ.out.cell 1 rfl
   have y2 := HZ.out.cell 2 rfl
   refine bodyPost_ret (v := .tuple #[.slice Av L.length cv, .agg #[.int .i64 0, .int .i64 0, .int .i64 0]]) ?_ rfl ?_
   ·simp [results, Tryz.results37, go_sem, y0, y1, y2]
   ·exact lex_good HD2.out rfl (own_other HT.out.own HG.out (fun g hg e => (HT.out.apart g hg).2 (Option.some.inj e).symm)) (HT.out.bel.grown HG.out HT.out.bel.size (fun g hg => by cases hg; exact Nat.le_refl _))
end Go.Proofs.YtinofjbnfmalkaaGreatDoor

