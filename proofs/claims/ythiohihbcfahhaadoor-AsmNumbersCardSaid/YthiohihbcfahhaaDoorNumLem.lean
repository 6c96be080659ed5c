/- AsmNumbers: the walk. -/
import Derived.Test.YthiohihbcfahhaaDoorRefPrt
import Derived.Test.YthiohihbcfahhaaDoorHexM
import Derived.Test.YthiohihbcfahhaaDoorAwake
import Derived.Test.YthiohihbcfahhaaDoorOpen5
import Derived.Outline
import Derived.Deep.Cut
namespace Go.Proofs.YthiohihbcfahhaaDoor
open Go.RowKit Go.ChangeShapes Go.WideShapes Go.ChangeAt Go.WideElems
theorem hx_index (d : Nat) (h : d < 16) (W : World) : (Instr.index 9 (.string ⟨#[48, 49, 50, 51, 52, 53, 54, 55, 56, 57, 97, 98, 99, 100, 101, 102]⟩) (.int .u64 (d : Int))).run Tryd.prog W = .ok (.int .u8 ((hx d).toNat : Int)) W := by
  rcases (by omega : d = 0 ∨ d = 1 ∨ d = 2 ∨ d = 3 ∨ d = 4 ∨ d = 5 ∨ d = 6 ∨ d = 7 ∨ d = 8 ∨ d = 9 ∨ d = 10 ∨ d = 11 ∨ d = 12 ∨ d = 13 ∨ d = 14 ∨ d = 15) with rfl | rfl | rfl | rfl | rfl | rfl | rfl | rfl | rfl | rfl | rfl | rfl | rfl | rfl | rfl | rfl <;> kernel_rfl
theorem hx_conv (d : Nat) (h : d < 16) (W : World) : (convert 5 9 (.int .u8 ((hx d).toNat : Int))).run Tryd.prog W = .ok (.string ⟨#[hx d]⟩) W := by
  rcases (by omega : d = 0 ∨ d = 1 ∨ d = 2 ∨ d = 3 ∨ d = 4 ∨ d = 5 ∨ d = 6 ∨ d = 7 ∨ d = 8 ∨ d = 9 ∨ d = 10 ∨ d = 11 ∨ d = 12 ∨ d = 13 ∨ d = 14 ∨ d = 15) with rfl | rfl | rfl | rfl | rfl | rfl | rfl | rfl | rfl | rfl | rfl | rfl | rfl | rfl | rfl | rfl <;> kernel_rfl
theorem num_is (s : ByteArray) (u : Nat) (hs : s.size ≤ 100000) (h : number s.data.toList = some u) (w : World) (hE : Env w) : Calls Tryd.prog 10 #[.string s] w fun e w' => e = .returned (.tuple #[.int .u64 (u : Nat), .bool true]) ∧ Below w.heap.size w w' := by
  have := number_any s w hs hE
  unfold NumPost at this
  rw [h] at this
  exact this
theorem num_not (s : ByteArray) (hs : s.size ≤ 100000) (h : number s.data.toList = none) (w : World) (hE : Env w) : Calls Tryd.prog 10 #[.string s] w fun e w' => e = .returned (.tuple #[.int .u64 0, .bool false]) ∧ Below w.heap.size w w' := by
  have := number_any s w hs hE
  unfold NumPost at this
  rw [h] at this
  exact this
def rightB (D : ByteArray) : Bool := decide (1 ≤ D.size ∧ D.size ≤ 20 ∧ (D.size = 1 ∨ D.data.toList.head? ≠ some 48))
theorem rb_no {D : ByteArray} (h : D.size < 1) : rightB D = false := decide_eq_false (by omega)
theorem rb_long {D : ByteArray} (h : 20 < D.size) : rightB D = false := decide_eq_false (by omega)
theorem rb_one {D : ByteArray} (h : D.size = 1) : rightB D = true := decide_eq_true (by omega)
theorem head0 {D : ByteArray} (h : 0 < D.size) : D.data.toList.head? = some (D[0]'h) := by
  rw [List.head?_eq_getElem?, Lib.data_getElem? D 0 h]
theorem rb_zero {D : ByteArray} (h : 0 < D.size) (h1 : D.size ≠ 1) (h0 : (D[0]'h).toNat = 48) : rightB D = false := by
  refine decide_eq_false (fun ⟨_, _, e⟩ => ?_)
  rcases e with e | e
  · exact h1 e
  · exact e (by rw [head0 h]; congr 1; exact UInt8.toNat_inj.1 h0)
theorem rb_yes {D : ByteArray} (h : 0 < D.size) (h20 : D.size ≤ 20) (h0 : (D[0]'h).toNat ≠ 48) : rightB D = true :=
  decide_eq_true ⟨by omega, h20, .inr (fun e => h0 (by rw [head0 h] at e; rw [Option.some.inj e]; rfl))⟩
theorem rb_numD_no {b : Nat} (hb : b = 10 ∨ b = 16) {D : ByteArray} (h : rightB D = false) : numD b D.data.toList = none := by
  refine numD_wrong hb (fun hr => ?_)
  unfold rightB at h
  have h1 := of_decide_eq_false h
  rw [Lib.size_eq] at h1
  exact h1 hr
theorem rb_numD_yes {b : Nat} {D : ByteArray} (h : rightB D = true) : numD b D.data.toList = horner b D.data.toList 0 := by
  refine numD_right ?_
  unfold rightB at h
  have h1 := of_decide_eq_true h
  rw [Lib.size_eq] at h1
  exact h1
theorem hexed_yes {s : ByteArray} (h : hexed s.data.toList = true) : 2 ≤ s.size ∧ ((s.extract 0 2).toList == [48, 120]) = true ∧ digits s.data.toList = (s.extract 2 s.size).data.toList := by
  have hd : digits s.data.toList = s.data.toList.drop 2 := by unfold digits; rw [if_pos h]
  unfold hexed Lib.hasPrefix at h
  obtain ⟨r, hr⟩ := List.isPrefixOf_iff_prefix.1 h
  refine ⟨by rw [Lib.size_eq, ← hr]; simp, ?_, ?_⟩
  · rw [Lib.toList_data, Lib.extract_data, ← hr]
    simp
  · rw [hd, Lib.extract_to_end]
theorem hexed_no {s : ByteArray} (h : hexed s.data.toList = false) : ((s.extract 0 2).toList == [48, 120]) = false := by
  rw [beq_eq_false_iff_ne]
  intro e
  rw [Lib.toList_data, Lib.extract_data] at e
  have : hexed s.data.toList = true := by
    unfold hexed Lib.hasPrefix
    rw [List.isPrefixOf_iff_prefix]
    refine ⟨s.data.toList.drop 2, ?_⟩
    rw [← e]
    simp
  rw [h] at this
  cases this
end Go.Proofs.YthiohihbcfahhaaDoor
