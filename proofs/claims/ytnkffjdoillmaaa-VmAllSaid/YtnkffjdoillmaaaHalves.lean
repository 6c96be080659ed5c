/- An argument's halves are the argument. -/
import Derived.Test.YtnkffjdoillmaaaAct
import Derived.Test.YtnkffjdoillmaaaRef
import Derived.Deep.RegionHeld3
namespace Go.Proofs.Ytnkffjdoillmaaa.Rec
open Go.RowKit
theorem step2 {X : Prop} {wx wA wB : World} (hb : Below wA.heap.size wA wB) (h : X ∧ Hid (Below wx.heap.size wx wA)) : Below wx.heap.size wx wB := h.2.out.trans (hb.mono h.2.out.size)
theorem step1 {X : Prop} {wx wA : World} (h : X ∧ Hid (Below wx.heap.size wx wA)) : Below wx.heap.size wx wA := h.2.out
theorem or_hl (lo hi n : Nat) (h0 : lo < 4294967296) (h1 : hi < 4294967296) (h : n = lo + 4294967296 * hi) : bits .or .u64 ((hi : Int) * 4294967296) (lo : Int) = (n : Int) := by
  have e := u64_or_nat (4294967296 * hi) lo (by omega) (by omega)
  have e2 : ((4294967296 * hi : Nat) : Int) = (hi : Int) * 4294967296 := by omega
  rw [e2] at e
  rw [e, show (4294967296 * hi ||| lo : Nat) = 4294967296 * hi + lo from (Nat.two_pow_add_eq_or_of_lt (i := 32) (b := lo) (by omega) hi).symm]
  omega
/-- The record in its block, loaded whole. -/
theorem ld_rec {w : World} {g t : Nat} {l : List Value} (h : Bk w g t l) (hl : l.length = 9) : (Instr.loadAt 39 (.pointer (some ⟨g, 0, none⟩))).run Try.prog w = .ok (.agg l.toArray) w := by
  simp only [Instr.loadAt, Instr.sureAddr, Sem.run_bind, Sem.run_pure, Result.andThen_ok]
  exact run_loadVar_row w g t _ l.toArray (0, 0) _ h Try.underlying39 rfl (by rw [size9, List.size_toArray, hl])
theorem ld_64 {w : World} {g t : Nat} {l : List Value} (h : Bk w g t l) (hl : l.length = 64) : (Instr.loadAt 118 (.pointer (some ⟨g, 0, none⟩))).run Try.prog w = .ok (.agg l.toArray) w := by
  simp only [Instr.loadAt, Instr.sureAddr, Sem.run_bind, Sem.run_pure, Result.andThen_ok]
  exact run_loadVar_row w g t _ l.toArray (0, 0) _ h Try.underlying118 rfl (by rw [size64, List.size_toArray, hl])
end Go.Proofs.Ytnkffjdoillmaaa.Rec

