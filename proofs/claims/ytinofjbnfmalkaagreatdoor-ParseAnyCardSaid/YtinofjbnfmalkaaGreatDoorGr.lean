/- The small ones: a bit, has, valid, fits, powers; each leaves the world as it was. -/
import Derived.Test.YtinofjbnfmalkaaGreatDoorProg
import Derived.WalkKit
import Derived.WalkSpells
import Derived.Lib.Hide
import Derived.Laws.BitsAllLaws
import Derived.Laws.ShiftsVarLaws
import Derived.IntWalk
import Derived.Lib.BitFns
import Derived.Deep.QuietTactic
import Derived.BigQuiet
import Derived.Test.YtinofjbnfmalkaaGreatDoorGm
import Derived.Test.YtinofjbnfmalkaaGreatDoorShelf
import Derived.Lib.CutLaws
import Derived.RegionTactic
import Derived.OwnWalk
namespace Go.Proofs.YtinofjbnfmalkaaGreatDoor.Rt
open Go.RowKit

def hasB (a b : Nat) : Bool := decide (a &&& b = b)
theorem ret_bool {a b : Bool} (h : a = b) : Ending.returned (.bool a) = .returned (.bool b) := by rw [h]
theorem ret_int {k : IntKind} {a b : Int} (h : a = b) : Ending.returned (.int k a) = .returned (.int k b) := by rw [h]
theorem pow_lt (i : Nat) (h : i < 16) : (2 : Nat) ^ i < 65536 := Nat.pow_lt_pow_right (by omega) h

theorem bit_any (i : Nat) (w : World) (h : i < 16) : Calls Tryz.prog 70 #[.int .i64 i] w fun e w' => e = .returned (.int .u16 ((2 ^ i : Nat) : Int)) ∧ w = w' := by
  go_enter Tryz.func70, Tryz.ntmps70
  go_wp2
  go_ret
  refine ⟨ret_int ?_, rfl⟩
  have hp := pow_lt i h
  have e0 : (0 : Int) ≤ ((2 ^ i : Nat) : Int) := Int.natCast_nonneg _
  have e1 : ((2 ^ i : Nat) : Int) < 65536 := Int.ofNat_lt.2 hp
  have e : ((2 : Int) ^ i) = ((2 ^ i : Nat) : Int) := by rw [Int.natCast_pow]; rfl
  rw [IntKind.wrap_u16, e]
  exact Int.emod_eq_of_lt e0 e1
theorem has_any (a b : Nat) (w : World) (ha : a < 65536) (hb : b < 65536) : Calls Tryz.prog 69 #[.int .u16 a, .int .u16 b] w fun e w' => e = .returned (.bool (hasB a b)) ∧ w = w' := by
  go_enter Tryz.func69, Tryz.ntmps69
  go_wp2
  go_ret
  refine ⟨ret_bool ?_, rfl⟩
  rw [u16_and_nat a b ha hb, Bool.eq_iff_iff]; simp [hasB]; omega
theorem valid_any (a : Nat) (w : World) (ha : a < 65536) : Calls Tryz.prog 28 #[.int .u16 a] w fun e w' => e = .returned (.bool (decide (a &&& 14336 = 0))) ∧ w = w' := by
  go_enter Tryz.func28, Tryz.ntmps28
  go_wp2
  go_ret
  refine ⟨ret_bool ?_, rfl⟩
  have e := u16_andNot_nat a 51199 ha (by omega)
  rw [show ((51199 : Nat) : Int) = 51199 from rfl] at e
  rw [e, Bool.eq_iff_iff]; simp
end Go.Proofs.YtinofjbnfmalkaaGreatDoor.Rt
namespace Go.Proofs.YtinofjbnfmalkaaGreatDoor.Rt
open Go.RowKit

def namesV : Value := .agg ((List.range 16).map (fun i => Value.string ⟨(nm i).toArray⟩)).toArray
def NamesAt (w : World) : Prop := ∀ i, i < 16 → w.cell? ⟨0, i, none⟩ = some (.string ⟨(nm i).toArray⟩)
theorem NamesAt.pos {w : World} (h : NamesAt w) : 0 < w.heap.size := by
  have h0 := h 0 (by omega)
  rcases Nat.eq_zero_or_pos w.heap.size with e | e
  · simp [World.cell?, e] at h0
  · exact e
theorem NamesAt.below {w w' : World} (h : NamesAt w) (b : Below w.heap.size w w') : NamesAt w' := fun i hi => (b.cell (p := ⟨0, i, none⟩) h.pos).trans (h i hi)
theorem nm_index (w : World) (i : Nat) (h : i < 16) : (Instr.index 172 namesV (.int .i64 (i : Int))).run Tryz.prog w = .ok (.string ⟨(nm i).toArray⟩) w := by
  rcases (by omega : i = 0 ∨ i = 1 ∨ i = 2 ∨ i = 3 ∨ i = 4 ∨ i = 5 ∨ i = 6 ∨ i = 7 ∨ i = 8 ∨ i = 9 ∨ i = 10 ∨ i = 11 ∨ i = 12 ∨ i = 13 ∨ i = 14 ∨ i = 15) with rfl | rfl | rfl | rfl | rfl | rfl | rfl | rfl | rfl | rfl | rfl | rfl | rfl | rfl | rfl | rfl <;> kernel_rfl
theorem nm_load (w : World) (h : NamesAt w) : (loadVar 172 ⟨0, 0, none⟩).run Tryz.prog w = .ok namesV w := by
  have hl : (loadCells ⟨0, 0, none⟩ 16).run Tryz.prog w = .ok ((List.range 16).map (fun i => Value.string ⟨(nm i).toArray⟩)).toArray w :=
    run_loadCells (P := Tryz.prog) w ⟨0, 0, none⟩ 16 _ (fun j hj => by
      have hadd : (⟨0, 0, none⟩ : Addr).add j = ⟨0, j, none⟩ := by unfold Addr.add; split <;> simp_all
      rw [hadd]; exact h j hj)
  have hq : (Tryz.prog.info? 172).map (·.size) = some 16 := by kernel_rfl
  cases hi : Tryz.prog.info? 172 with
  | none => simp [hi] at hq
  | some i =>
    have hs : i.size = 16 := by simpa [hi] using hq
    have hagg : (isAgg 172).run Tryz.prog w = .ok true w := by
      unfold isAgg
      rw [Sem.run_bind, run_underlying Tryz.underlying172 w]
      rfl
    simp only [loadVar, Sem.run_bind, hagg, sizeOf, typeInfo]
    simp [hi, hs, hl, namesV]

theorem wpList_load_names {ops : Array Oper} {rest : List Oper} {o : Oper} {a : Act} {w : World} {Q : Exit → Act → World → Prop} (hgd : o.guard = none) (x : Operand) (ho : o.op = .load 172 x)
    (hx : a.eval x = .pointer (some ⟨0, 0, none⟩)) (hN : NamesAt w) (h : wpList Tryz.prog ops Q rest (a.put o.dst namesV) w) : wpList Tryz.prog ops Q (o :: rest) a w :=
  wpList_plain hgd fun _ hK => by
    unfold Oper.wp execOp
    simp only [ho, hx, Instr.loadAt, Instr.sureAddr, Sem.run_bind, Sem.run_pure, Result.andThen_ok, nm_load w hN]
    exact hK _ _ h
theorem toList_data (s : ByteArray) : s.toList = s.data.toList := ByteArray.toList_eq s

set_option maxRecDepth 100000 in
set_option maxHeartbeats 1000000 in
theorem one_any (s : ByteArray) (w : World) (h : NamesAt w) (p : Addr) : Calls Tryz.prog 176 #[.pointer (some p), .string s] w fun e w' =>
    e = .returned (.tuple #[.int .u16 (oneV s.data.toList : Nat), .bool (idx s.data.toList).isSome]) ∧ w = w' := by
  have H := Lib.hid h
  clear h
  by_cases h0 : s.size = 0
  · obtain rfl : s = ByteArray.empty := ByteArray.size_eq_zero_iff.1 h0
    go_enter Tryz.func176, Tryz.ntmps176
    go_wp2_with fail
    go_ret2
    exact ⟨rfl, rfl⟩
  · have hE : s.toList.isEmpty = false := by
      rw [ByteArray.toList_eq]
      cases h : s.data.toList with
      | nil => exact absurd (show s.size = 0 from congrArg List.length h) h0
      | cons a l => rfl
    have hE2 : ¬ s.toList = [] := by intro h; rw [h] at hE; simp at hE
    have Hne := Lib.hid (show s.data.toList ≠ [] by rw [← toList_data]; exact hE2)
    clear h0
    go_enter Tryz.func176, Tryz.ntmps176
    go_wp2_with (refine wpList_load_names rfl _ rfl rfl H.out ?_)
    go_loop [15] (fun i => ∃ k : Nat, k ≤ 16 ∧ i = .int .i64 k ∧ Hid (∀ j, j < k → nm j ≠ s.data.toList)) (fun i => 16 - (intOf i).toNat)
    case atStart => exact ⟨0, by omega, rfl, fun j hj => absurd hj (by omega)⟩
    case round =>
      obtain ⟨k, hk, rfl, Hno⟩ := hrel
      by_cases hlt : k < 16
      · have hix := fun w => nm_index w k hlt
        by_cases heq : nm k = s.data.toList
        · have hb : (nm k == s.toList) = true := by rw [toList_data, heq]; simp
          have hf : idx s.data.toList = some k := idx_hit hlt heq Hne.out
          have Hf := Lib.hid hf
          clear hf heq Hno
          go_wp2_with (go_at_call 70; refine (bit_any _ _ hlt).mono ?_; rintro e w' ⟨rfl, rfl⟩)
          go_ret2
          refine ⟨?_, rfl⟩
          unfold oneV
          rw [Hf.out]; rfl
        · have hb : (nm k == s.toList) = false := by rw [toList_data]; simpa using heq
          have Hq := Lib.hid heq
          clear heq
          go_wp2_with fail
          go_round
          case rel => exact ⟨k + 1, by omega, by go_num, fun j hj => by
            by_cases e : j = k
            · subst e; exact Hq.out
            · exact Hno.out j (by omega)⟩
          case measure => simp [intOf]; omega
      · have Hf := Lib.hid (show idx s.data.toList = none from idx_none (fun i hi e => absurd e (Hno.out i (by omega))))
        clear Hno
        go_wp2_with fail
        go_ret2
        refine ⟨?_, rfl⟩
        unfold oneV
        rw [Hf.out]; rfl
end Go.Proofs.YtinofjbnfmalkaaGreatDoor.Rt
namespace Go.Proofs.YtinofjbnfmalkaaGreatDoor.Rt
open Go.RowKit

theorem NamesAt.drewN {w : World} (h : NamesAt w) (n : Nat) : NamesAt (w.drewN n) := fun i hi => h i hi
theorem below_drewN {B : Nat} {a w : World} (h : Below B a w) (n : Nat) : Below B a (w.drewN n) := ⟨h.os, h.tape, h.output, h.size, h.block⟩
theorem hasB_bit (a i : Nat) : hasB a (2 ^ i) = a.testBit i := by
  rw [Bool.eq_iff_iff, hasB, decide_eq_true_iff]
  constructor
  · intro h
    have := congrArg (·.testBit i) h
    simpa [Nat.testBit_and, Nat.testBit_two_pow] using this
  · intro h
    apply Nat.eq_of_testBit_eq
    intro k
    rw [Nat.testBit_and, Nat.testBit_two_pow]
    by_cases e : i = k
    · subst e; simp [h]
    · simp [e]
theorem one_some (s : ByteArray) (w : World) (h : NamesAt w) (p : Addr) (i : Nat) (hi : idx s.data.toList = some i) : Calls Tryz.prog 176 #[.pointer (some p), .string s] w fun e w' =>
    e = .returned (.tuple #[.int .u16 ((2 ^ i : Nat) : Int), .bool true]) ∧ w = w' := by
  have := one_any s w h p
  unfold oneV at this
  rw [hi] at this
  exact this
theorem one_none (s : ByteArray) (w : World) (h : NamesAt w) (p : Addr) (hi : idx s.data.toList = none) : Calls Tryz.prog 176 #[.pointer (some p), .string s] w fun e w' =>
    e = .returned (.tuple #[.int .u16 0, .bool false]) ∧ w = w' := by
  have := one_any s w h p
  unfold oneV at this
  rw [hi] at this
  exact this

theorem indexByte_miss : ∀ l : List UInt8, (44 : UInt8) ∉ l → Lib.indexByte l 44 = -1
  | [], _ => rfl
  | c :: r, h => by
    have h1 : c ≠ 44 := fun e => h (by simp [e])
    have h2 := indexByte_miss r (fun e => h (by simp [e]))
    simp [Lib.indexByte, h1, h2]
theorem indexByte_hit : ∀ (l r : List UInt8), (44 : UInt8) ∉ l → Lib.indexByte (l ++ 44 :: r) 44 = l.length
  | [], r, _ => by simp [Lib.indexByte]
  | c :: l, r, h => by
    have h1 : c ≠ 44 := fun e => h (by simp [e])
    have h2 := indexByte_hit l r (fun e => h (by simp [e]))
    simp only [List.cons_append, Lib.indexByte, h2, beq_iff_eq, h1, if_false, List.length_cons]
    rw [if_neg (by omega)]; omega

set_option maxRecDepth 100000 in
theorem scut_miss (t : ByteArray) (w : World) (h : (44 : UInt8) ∉ t.data.toList) : Calls Tryz.prog 122 #[.string t, .string ⟨#[44]⟩] w fun e w' =>
    e = .returned (.tuple #[.string t, .string ByteArray.empty, .bool false]) ∧ w = w' := by
  have hix := Lib.hid (indexByte_miss _ h)
  clear h
  go_enter Tryz.func122, Tryz.ntmps122
  go_wp2_with (go_at_call 150; refine (Tryz.stringslite_Index_one _ _ _).mono ?_; rintro e w' ⟨rfl, rfl⟩; rw [hix.out])
  go_ret3
  exact ⟨rfl, rfl⟩
theorem extract_head (t b c : ByteArray) (h : t.data.toList = b.data.toList ++ 44 :: c.data.toList) : t.extract 0 b.size = b ∧ t.extract (b.size + 1) t.size = c := by
  have hl : b.data.toList.length = b.size := (Lib.size_eq b).symm
  have hz : t.size = b.size + 1 + c.size := by rw [Lib.size_eq, h]; simp; omega
  constructor
  · rw [Lib.extract_eq, h, List.drop_zero, Nat.sub_zero, List.take_append_of_le_length (by omega), List.take_of_length_le (by omega), Lib.mk_data]
  · rw [Lib.extract_eq, h, List.drop_append, List.drop_of_length_le (by omega), List.nil_append, show b.size + 1 - b.data.toList.length = 1 from by omega, List.drop_succ_cons, List.drop_zero, List.take_of_length_le (by rw [← Lib.size_eq]; omega), Lib.mk_data]
set_option maxRecDepth 100000 in
theorem scut_hit (t b c : ByteArray) (w : World) (hm : t.size ≤ maxLen) (h : t.data.toList = b.data.toList ++ 44 :: c.data.toList) (h2 : (44 : UInt8) ∉ b.data.toList) : Calls Tryz.prog 122 #[.string t, .string ⟨#[44]⟩] w fun e w' =>
    e = .returned (.tuple #[.string b, .string c, .bool true]) ∧ ∃ n, w' = w.drewN n := by
  unfold maxLen at hm
  have hix := Lib.hid (show Lib.indexByte t.data.toList 44 = b.size by rw [h, indexByte_hit _ _ h2, ← Lib.size_eq])
  have hz : t.size = b.size + 1 + c.size := by rw [Lib.size_eq, h, Lib.size_eq b, Lib.size_eq c]; simp; omega
  have HZ := Lib.hid (extract_head t b c h)
  have c1 : (0 : Int) ≤ (b.size : Int) := by omega
  have c2 : (b.size : Int) ≤ (t.size : Int) := by omega
  have c3 : (0 : Int) ≤ (b.size : Int) + 1 := by omega
  have c4 : (b.size : Int) + 1 ≤ (t.size : Int) := by omega
  have Hz := Lib.hid hz
  clear h h2 hz
  go_enter Tryz.func122, Tryz.ntmps122
  go_wp2_with (go_at_call 150; refine (Tryz.stringslite_Index_one _ _ _).mono ?_; rintro e w' ⟨rfl, rfl⟩; rw [hix.out])
  go_region
  go_wp2
  go_ret3
  rw [HZ.out.1, HZ.out.2]
  exact ⟨rfl, 1, rfl⟩
theorem cut_miss (t : ByteArray) (w : World) (h : (44 : UInt8) ∉ t.data.toList) : Calls Tryz.prog 94 #[.string t, .string ⟨#[44]⟩] w fun e w' =>
    e = .returned (.tuple #[.string t, .string ByteArray.empty, .bool false]) ∧ w = w' := by
  have hc := scut_miss t w h
  clear h
  go_enter Tryz.func94, Tryz.ntmps94
  go_wp2_with (go_at_call 122; refine hc.mono ?_; rintro e w' ⟨rfl, rfl⟩)
  go_ret3
  exact ⟨rfl, rfl⟩
theorem cut_hit (t b c : ByteArray) (w : World) (hm : t.size ≤ maxLen) (h : t.data.toList = b.data.toList ++ 44 :: c.data.toList) (h2 : (44 : UInt8) ∉ b.data.toList) : Calls Tryz.prog 94 #[.string t, .string ⟨#[44]⟩] w fun e w' =>
    e = .returned (.tuple #[.string b, .string c, .bool true]) ∧ ∃ n, w' = w.drewN n := by
  have hc := scut_hit t b c w hm h h2
  clear h h2
  go_enter Tryz.func94, Tryz.ntmps94
  go_wp2_with (go_at_call 122; refine hc.mono ?_; rintro e w' ⟨rfl, n, rfl⟩)
  go_ret3
  exact ⟨rfl, n, rfl⟩
end Go.Proofs.YtinofjbnfmalkaaGreatDoor.Rt
namespace Go.Proofs.YtinofjbnfmalkaaGreatDoor.Rt
open Go.RowKit

theorem pars_none (a : Nat) (x : List UInt8) (r : List (List UInt8)) (h : idx x = none) : pars a (x :: r) = (0, 202) := by rw [pars, h]
theorem pars_twice (a i : Nat) (x : List UInt8) (r : List (List UInt8)) (h : idx x = some i) (h2 : a.testBit i = true) : pars a (x :: r) = (0, 206) := by
  rw [pars, h]; simp [h2]
theorem pars_go (a i : Nat) (x : List UInt8) (r : List (List UInt8)) (h : idx x = some i) (h2 : a.testBit i = false) : pars a (x :: r) = pars (a ||| 2 ^ i) r := by
  rw [pars, h]; simp [h2]
def left (m : Bool) (t : ByteArray) : List (List UInt8) := if m then words t.data.toList else []
theorem cut_cases (t : ByteArray) : (44 : UInt8) ∉ t.data.toList ∧ words t.data.toList = [t.data.toList] ∨
    ∃ b c : ByteArray, t.data.toList = b.data.toList ++ 44 :: c.data.toList ∧ (44 : UInt8) ∉ b.data.toList ∧ words t.data.toList = b.data.toList :: words c.data.toList ∧ c.size < t.size ∧ b.size ≤ t.size := by
  by_cases h : (44 : UInt8) ∈ t.data.toList
  · right
    obtain ⟨l, r, e, hn⟩ := List.eq_append_cons_of_mem h
    have hall : ∀ c ∈ l, (decide (c ≠ 44)) = true := fun c hc => by simp; intro e; subst e; exact hn hc
    refine ⟨⟨l.toArray⟩, ⟨r.toArray⟩, by simpa using e, by simpa using hn, ?_, ?_, ?_⟩
    · rw [words_cut, if_pos h, e, List.takeWhile_append_of_pos hall, List.dropWhile_append_of_pos hall]
      simp
    · have := congrArg List.length e
      simp only [List.length_append, List.length_cons] at this
      rw [Lib.size_eq t, Lib.size_eq]; simp only; omega
    · have := congrArg List.length e
      simp only [List.length_append, List.length_cons] at this
      rw [Lib.size_eq t, Lib.size_eq]; simp only; omega
  · left
    exact ⟨h, by rw [words_cut, if_neg h]⟩
theorem bit_or_lt (a i : Nat) (ha : a < 65536) (hi : i < 16) : a ||| 2 ^ i < 65536 := Nat.or_lt_two_pow (n := 16) ha (pow_lt i hi)

set_option maxRecDepth 100000 in
set_option maxHeartbeats 1000000 in
theorem parse_any (s : ByteArray) (w : World) (hm : s.size ≤ maxLen) (h : NamesAt w) (p : Addr) : Calls Tryz.prog 159 #[.pointer (some p), .string s] w fun e w' =>
    e = .returned (.tuple #[.int .u16 ((pars 0 (words s.data.toList)).1 : Nat), .int .i64 ((pars 0 (words s.data.toList)).2 : Nat)]) ∧ ∃ n, w' = w.drewN n := by
  have H := Lib.hid h
  clear h
  obtain ⟨R, hR⟩ : ∃ R, R = pars 0 (words s.data.toList) := ⟨_, rfl⟩
  rw [← hR]
  have HR := Lib.hid hR
  clear hR
  go_enter Tryz.func159, Tryz.ntmps159
  go_wp2_with fail
  go_loopw [1, 6, 7] (fun sv av mv wr => ∃ (t : ByteArray) (a : Nat) (m : Bool), sv = .string t ∧ av = .int .u16 a ∧ mv = .bool m ∧ a < 65536 ∧ Hid (t.size ≤ maxLen) ∧ Hid (∃ n, wr = w.drewN n) ∧ Hid (pars a (left m t) = R)) (fun sv _ mv _ => (match sv, mv with | .string t, .bool true => t.size + 1 | _, _ => 0))
  case atStart => exact ⟨s, 0, true, rfl, rfl, rfl, by omega, hm, ⟨0, rfl⟩, HR.out.symm⟩
  case round =>
    obtain ⟨t, a, m, rfl, rfl, rfl, ha, Ht, Hw, Hp⟩ := hrel
    cases m
    · go_wp2_with fail
      go_ret2
      refine ⟨?_, Hw.out⟩
      have := Hp.out
      simp only [left, Bool.false_eq_true, if_false, pars] at this
      rw [← this]; rfl
    · have HN : Hid (NamesAt wr) := by obtain ⟨n, e⟩ := Hw.out; rw [e]; exact H.out.drewN n
      rcases cut_cases t with ⟨hc, hw⟩ | ⟨b, c, hbc, hb, hw, hlt, hle⟩
      · have Hc := Lib.hid hc
        have Hq := Lib.hid (show pars a [t.data.toList] = R by rw [← Hp.out, left, if_pos rfl, hw])
        clear hc hw Hp
        cases hix : idx t.data.toList with
        | none =>
          have Hix := Lib.hid hix
          have Hfin := Lib.hid (Hq.out.symm.trans (pars_none _ _ _ hix))
          clear hix Hq
          go_wp2_with (first | (go_at_call 94; refine (cut_miss _ _ Hc.out).mono ?_; rintro e w' ⟨rfl, rfl⟩) | (go_at_call 176; refine (one_none _ _ HN.out _ Hix.out).mono ?_; rintro e w' ⟨rfl, rfl⟩))
          go_ret2
          rw [Hfin.out]
          exact ⟨rfl, Hw.out⟩
        | some i =>
          have hi := nbits_lt i (idx_some hix).1
          have hpw := pow_lt i hi
          have Hix := Lib.hid hix
          cases htb : a.testBit i
          · have hhas : hasB a (2 ^ i) = false := by rw [hasB_bit, htb]
            have Hfin := Lib.hid ((pars_go _ _ _ _ hix htb).symm.trans Hq.out)
            have hor := u16_or_nat a (2 ^ i) ha hpw
            have hol := bit_or_lt a i ha hi
            have HS := Lib.hid (show t.size ≤ maxLen from Ht.out)
            obtain ⟨q, hq⟩ : ∃ q, q = 2 ^ i := ⟨_, rfl⟩
            have HQ := Lib.hid hq
            have hone := one_some t wr HN.out p i hix
            rw [← hq] at hhas hor hol hpw hone Hfin
            clear hix Hq htb hq hi
            go_wp2_with (first | (go_at_call 94; refine (cut_miss _ _ Hc.out).mono ?_; rintro e w' ⟨rfl, rfl⟩) | (go_at_call 176; refine hone.mono ?_; rintro e w' ⟨rfl, rfl⟩) | (go_at_call 69; refine (has_any _ _ _ ha hpw).mono ?_; rintro e w' ⟨rfl, rfl⟩))
            go_roundw
            case rel => exact ⟨ByteArray.empty, a ||| q, false, rfl, rfl, rfl, hol, Nat.zero_le _, Hw.out, Hfin.out⟩
            case measure => simp
          · have hhas : hasB a (2 ^ i) = true := by rw [hasB_bit, htb]
            have Hfin := Lib.hid (Hq.out.symm.trans (pars_twice _ _ _ _ hix htb))
            obtain ⟨q, hq⟩ : ∃ q, q = 2 ^ i := ⟨_, rfl⟩
            have HQ := Lib.hid hq
            have hone := one_some t wr HN.out p i hix
            rw [← hq] at hhas hpw hone
            clear hix Hq htb hq hi
            go_wp2_with (first | (go_at_call 94; refine (cut_miss _ _ Hc.out).mono ?_; rintro e w' ⟨rfl, rfl⟩) | (go_at_call 176; refine hone.mono ?_; rintro e w' ⟨rfl, rfl⟩) | (go_at_call 69; refine (has_any _ _ _ ha hpw).mono ?_; rintro e w' ⟨rfl, rfl⟩))
            go_ret2
            rw [Hfin.out]
            exact ⟨rfl, Hw.out⟩
      · have Hbc := Lib.hid hbc
        have Hb := Lib.hid hb
        have Hlt := Lib.hid hlt
        have Hq := Lib.hid (show pars a (b.data.toList :: words c.data.toList) = R by rw [← Hp.out, left, if_pos rfl, hw])
        have HN2 : Hid (∀ n, NamesAt (wr.drewN n)) := fun n => HN.out.drewN n
        have Hw2 : Hid (∀ n, ∃ n', wr.drewN n = w.drewN n') := fun n => by
          obtain ⟨k, e⟩ := Hw.out
          exact ⟨k + n, by rw [e]; simp [World.drewN, Nat.add_assoc]⟩
        clear hbc hb hw Hp hlt hle
        cases hix : idx b.data.toList with
        | none =>
          have Hix := Lib.hid hix
          have Hfin := Lib.hid (Hq.out.symm.trans (pars_none _ _ _ hix))
          clear hix Hq
          go_wp2_with (first | (go_at_call 94; refine (cut_hit _ b c _ Ht.out Hbc.out Hb.out).mono ?_; rintro e w' ⟨rfl, nn, rfl⟩) | (go_at_call 176; refine (one_none _ _ (HN2.out _) _ Hix.out).mono ?_; rintro e w' ⟨rfl, rfl⟩))
          go_ret2
          rw [Hfin.out]
          exact ⟨rfl, Hw2.out _⟩
        | some i =>
          have hi := nbits_lt i (idx_some hix).1
          have hpw := pow_lt i hi
          cases htb : a.testBit i
          · have hhas : hasB a (2 ^ i) = false := by rw [hasB_bit, htb]
            have Hfin := Lib.hid ((pars_go _ _ _ _ hix htb).symm.trans Hq.out)
            have hor := u16_or_nat a (2 ^ i) ha hpw
            have hol := bit_or_lt a i ha hi
            obtain ⟨q, hq⟩ : ∃ q, q = 2 ^ i := ⟨_, rfl⟩
            have HQ := Lib.hid hq
            have hone : ∀ n, Calls Tryz.prog 176 #[.pointer (some p), .string b] (wr.drewN n) fun e w' => e = .returned (.tuple #[.int .u16 ((2 ^ i : Nat) : Int), .bool true]) ∧ (wr.drewN n) = w' := fun n => one_some b _ (HN2.out n) p i hix
            rw [← hq] at hhas hor hol hpw Hfin
            have hone2 := hone
            rw [← hq] at hone2
            have Hone := Lib.hid hone2
            clear hix Hq htb hq hi hone hone2
            go_wp2_with (first | (go_at_call 94; refine (cut_hit _ b c _ Ht.out Hbc.out Hb.out).mono ?_; rintro e w' ⟨rfl, nn, rfl⟩) | (go_at_call 176; refine (Hone.out _).mono ?_; rintro e w' ⟨rfl, rfl⟩) | (go_at_call 69; refine (has_any _ _ _ ha hpw).mono ?_; rintro e w' ⟨rfl, rfl⟩))
            go_roundw
            case rel => exact ⟨c, a ||| q, true, rfl, rfl, rfl, hol, Nat.le_trans (Nat.le_of_lt Hlt.out) Ht.out, Hw2.out _, Hfin.out⟩
            case measure => have := Hlt.out; simp; omega
          · have hhas : hasB a (2 ^ i) = true := by rw [hasB_bit, htb]
            have Hfin := Lib.hid (Hq.out.symm.trans (pars_twice _ _ _ _ hix htb))
            obtain ⟨q, hq⟩ : ∃ q, q = 2 ^ i := ⟨_, rfl⟩
            have HQ := Lib.hid hq
            have hone : ∀ n, Calls Tryz.prog 176 #[.pointer (some p), .string b] (wr.drewN n) fun e w' => e = .returned (.tuple #[.int .u16 ((2 ^ i : Nat) : Int), .bool true]) ∧ (wr.drewN n) = w' := fun n => one_some b _ (HN2.out n) p i hix
            rw [← hq] at hhas hpw
            have hone2 := hone
            rw [← hq] at hone2
            have Hone := Lib.hid hone2
            clear hix Hq htb hq hi hone hone2
            go_wp2_with (first | (go_at_call 94; refine (cut_hit _ b c _ Ht.out Hbc.out Hb.out).mono ?_; rintro e w' ⟨rfl, nn, rfl⟩) | (go_at_call 176; refine (Hone.out _).mono ?_; rintro e w' ⟨rfl, rfl⟩) | (go_at_call 69; refine (has_any _ _ _ ha hpw).mono ?_; rintro e w' ⟨rfl, rfl⟩))
            go_ret2
            rw [Hfin.out]
            exact ⟨rfl, Hw2.out _⟩
end Go.Proofs.YtinofjbnfmalkaaGreatDoor.Rt
namespace Go.Proofs.YtinofjbnfmalkaaGreatDoor.Rt
open Go.RowKit
theorem infoStr : (Tryz.prog.info? 9).map (fun i => (i.zero, i.size, i.bytes)) = some (some (.string ByteArray.empty), 1, 16) := by kernel_rfl

def ns (i : Nat) : ByteArray := ⟨(nm i).toArray⟩
def Kb (n k : Nat) : List Nat := (List.range k).filter (fun i => !(nm i).isEmpty && n.testBit i)
theorem Kb_hit (n k : Nat) (h : (nm k).isEmpty = false) (h2 : n.testBit k = true) : Kb n (k + 1) = Kb n k ++ [k] := by
  rw [Kb, Kb, List.range_succ, List.filter_append]; simp [h, h2]
theorem Kb_miss (n k : Nat) (h : (nm k).isEmpty = true ∨ n.testBit k = false) : Kb n (k + 1) = Kb n k := by
  rw [Kb, Kb, List.range_succ, List.filter_append]; rcases h with h | h <;> simp [h]
theorem Kb_le (n k : Nat) : (Kb n k).length ≤ k := by
  have := List.length_filter_le (fun i => !(nm i).isEmpty && n.testBit i) (List.range k)
  rw [List.length_range] at this; exact this
theorem Kb_all (n : Nat) : Kb n 16 = named n := by
  unfold Kb named
  rw [show nbits = (List.range 16).filter (fun i => !(nm i).isEmpty) from by decide, List.filter_filter]
  congr 1; funext i; rw [Bool.and_comm]
theorem Kb_lt (n k i : Nat) (h : i ∈ Kb n k) : i < k := by simpa using (List.mem_filter.1 h).1
theorem nm_len : ∀ i, i < 16 → (nm i).length ≤ 8 := by decide
theorem lens_nm : ∀ l : List Nat, (∀ i ∈ l, i < 16) → Lib.lens (l.map nm) ≤ 8 * l.length
  | [], _ => by simp [Lib.lens]
  | i :: r, h => by
    have ih := lens_nm r (fun j hj => h j (by simp [hj]))
    have := nm_len i (h i (by simp))
    simp only [Lib.lens, List.map_cons, List.sum_cons, List.length_cons] at ih ⊢
    omega
theorem join_nm (l : List Nat) (h : ∀ i ∈ l, i < 16) (h2 : l.length ≤ 16) : (Lib.join (l.map nm) [44]).length ≤ 144 := by
  cases l with
  | nil => simp [Lib.join_nil]
  | cons i r =>
    have := lens_nm (i :: r) h
    rw [List.map_cons] at this ⊢
    rw [Lib.join_length]
    simp only [List.length_cons, List.length_map, List.length_nil] at *
    omega
theorem text_size (n : Nat) : (textL n).length ≤ 144 := by
  unfold textL
  split
  · decide
  · rw [← Kb_all]; exact join_nm _ (fun i hi => Kb_lt n 16 i hi) (Kb_le n 16)

set_option maxRecDepth 100000 in
set_option maxHeartbeats 1000000 in
theorem text_any (n : Nat) (w : World) (hn : n < 65536) (h : NamesAt w) : Calls Tryz.prog 34 #[.int .u16 n] w fun e w' =>
    e = .returned (.string ⟨(textL n).toArray⟩) ∧ Below w.heap.size w w' := by
  have H := Lib.hid h
  clear h
  obtain ⟨i0, hi, hz0, hz1, hz2⟩ := info_parts infoStr
  go_enter Tryz.func34, Tryz.ntmps34
  go_wp2_with (refine wpList_load_names rfl _ rfl rfl H.out ?_)
  go_loopw [3, 7] (fun v i wr => ∃ k : Nat, k ≤ 16 ∧ i = .int .i64 k ∧ Hid (wr.ownsRow w.heap.size 9 1 v (Kb n k).length ((Kb n k).map fun i => Value.string (ns i))) ∧ Hid (Below w.heap.size w wr)) (fun _ i _ => 16 - (intOf i).toNat)
  case atStart => exact ⟨0, by omega, rfl, World.ownsRow_nil _ _ _ _, Below.refl _ _⟩
  case round =>
    obtain ⟨k, hk, rfl, Hown, Hb⟩ := hrel
    by_cases hlt : k < 16
    · have hix := fun w => nm_index w k hlt
      have hpw := pow_lt k hlt
      have hle := Kb_le n k
      have hbw : w.heap.size ≤ wr.heap.size := Hb.out.size
      cases he : (nm k).isEmpty
      · have hne : ¬ nm k = [] := by intro e; rw [e] at he; simp at he
        cases htb : n.testBit k
        · have hhas : hasB n (2 ^ k) = false := by rw [hasB_bit, htb]
          have Hk := Lib.hid (Kb_miss n k (.inr htb))
          clear htb
          go_wp2_with (first | (go_at_call 70; refine (bit_any _ _ hlt).mono ?_; rintro e w' ⟨rfl, rfl⟩) | (go_at_call 69; refine (has_any _ _ _ hn hpw).mono ?_; rintro e w' ⟨rfl, rfl⟩))
          go_roundw
          case rel => exact ⟨k + 1, by omega, by go_num, by rw [Hk.out]; exact Hown, Hb⟩
          case measure => simp [intOf]; omega
        · have hhas : hasB n (2 ^ k) = true := by rw [hasB_bit, htb]
          have Hk := Lib.hid (Kb_hit n k he htb)
          clear htb
          go_wp2_with (first | (go_at_call 70; refine (bit_any _ _ hlt).mono ?_; rintro e w' ⟨rfl, rfl⟩) | (go_at_call 69; refine (has_any _ _ _ hn hpw).mono ?_; rintro e w' ⟨rfl, rfl⟩) | (at_builtin; refine wpList_append_own _ rfl _ _ 60 rfl w.heap.size 9 i0 (.string ByteArray.empty) 1 16 Tryz.underlying60 hi hz0 hz1 hz2 rfl (by decide) _ _ _ rfl (Hown.out.alloc _) ⟨wr.heap.size, 0, none⟩ 1 1 [Value.string (ns k)] rfl rfl (by intro j u hj; match j, hj with | 0, hj => (simp at hj; subst hj; simp [Addr.add, ns])) (by intro u hu; simp at hu; subst hu; rfl) (by unfold maxLen; omega) (by omega) (by simp; omega) ?_; intro v' w1 hown' hgrow _))
          have Hown' := Lib.hid hown'
          have Hb' := Lib.hid (show Below w.heap.size w w1 from (Hb.out.alloc hbw _).grown hgrow (by simp; omega) (fun k hk => (Hown.out.lt k hk).1))
          clear hown' hgrow
          go_wp2
          go_roundw
          case rel => exact ⟨k + 1, by omega, by go_num, by rw [Hk.out, List.map_append, List.length_append]; exact Hown', Hb'⟩
          case measure => simp [intOf]; omega
      · have hne : nm k = [] := by simpa using he
        have Hk := Lib.hid (Kb_miss n k (.inl he))
        go_wp2_with fail
        go_roundw
        case rel => exact ⟨k + 1, by omega, by go_num, by rw [Hk.out]; exact Hown, Hb⟩
        case measure => simp [intOf]; omega
    · obtain rfl : k = 16 := by omega
      have hown := Hown.out
      rw [Kb_all] at hown
      obtain ⟨L, hL⟩ : ∃ L, L = named n := ⟨_, rfl⟩
      rw [← hL] at hown
      have HL := Lib.hid hL
      clear hL Hown
      have hl16 : L.length ≤ 16 := by rw [HL.out, ← Kb_all]; exact Kb_le n 16
      rcases hown.2 with ⟨rfl, hz⟩ | ⟨g, cap, cur, rfl, hbase, hg, hcap, hmax, hsz, htake⟩
      · have hnil : L = [] := List.eq_nil_of_length_eq_zero hz
        have Hend := Lib.hid (show Ending.returned (.string ⟨#[45]⟩) = .returned (.string ⟨(textL n).toArray⟩) by rw [textL, ← HL.out, if_pos hnil])
        clear hown hz hnil hl16
        go_wp2_with fail
        go_ret
        exact ⟨Hend.out, Hb.out⟩
      · by_cases hnil : L = []
        · have Hend := Lib.hid (show Ending.returned (.string ⟨#[45]⟩) = .returned (.string ⟨(textL n).toArray⟩) by rw [textL, ← HL.out, if_pos hnil])
          have hz : L.length = 0 := by rw [hnil]; rfl
          clear hown hnil hl16 hg hcap hmax hsz htake
          go_wp2_with fail
          go_ret
          exact ⟨Hend.out, Hb.out⟩
        · have hz : ¬ L.length = 0 := fun e => hnil (List.eq_nil_of_length_eq_zero e)
          have Hend := Lib.hid (show Ending.returned (.string ⟨(Lib.join (L.map ((fun x : ByteArray => x.data.toList) ∘ ns)) [44]).toArray⟩) = .returned (.string ⟨(textL n).toArray⟩) by
            rw [textL, ← HL.out, if_neg hnil]; rfl)
          have hj := Tryz.strings_Join g 0 cap (L.map ns) ⟨#[44]⟩ wr (fun j x hx => by
              have hx2 : (L.map fun i => Value.string (ns i))[j]? = some (.string x) := by
                rw [List.getElem?_map] at hx ⊢
                cases e : L[j]? with
                | none => simp [e] at hx
                | some y => simp [e] at hx ⊢; exact hx
              rw [← htake, Nat.mul_one] at hx2
              have hjl : j < L.length := by
                rcases Nat.lt_or_ge j L.length with h | h
                · exact h
                · rw [List.getElem?_take_eq_none h] at hx2; cases hx2
              rw [List.getElem?_take_of_lt hjl] at hx2
              simp only [World.cell?, hg, Nat.zero_add, Option.isSome_none, Bool.false_eq_true, if_false]
              rw [← Array.getElem?_toList]; exact hx2) (Array.getElem?_eq_some_iff.1 hg).1 (by rw [List.length_map]; omega) (by rw [List.length_map]; omega) (by
                have := join_nm L (fun i hi => by rw [HL.out, ← Kb_all] at hi; exact Kb_lt n 16 i hi) hl16
                rw [List.map_map, show ((fun x : ByteArray => x.data.toList) ∘ ns) = nm from rfl]
                exact Nat.le_trans this (by decide))
          rw [List.length_map] at hj
          have Hj := Lib.hid hj
          clear hj hown hnil hg hcap hmax hsz htake
          go_wp2_with (go_at_call 36; refine Hj.out.mono ?_; rintro e w2 ⟨rfl, hb2⟩)
          go_ret
          exact ⟨Hend.out, Hb.out.trans (hb2.mono Hb.out.size)⟩
end Go.Proofs.YtinofjbnfmalkaaGreatDoor.Rt

