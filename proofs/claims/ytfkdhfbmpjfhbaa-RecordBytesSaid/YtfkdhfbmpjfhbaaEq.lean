/- Records, bytes: each is itself. -/
import Derived.Test.YtfkdhfbmpjfhbaaHalves
import Derived.ChangeKeysEq
import Derived.Laws.StructEq
namespace Go.Proofs.Ytfkdhfbmpjfhbaa
open Go.RowKit
theorem items_self (d e : Nat) (k : IntKind) (he : Try.prog.underlying e = some (.int k)) (xs : Array Value) (w : World) : ∀ is : List Nat, (∀ i ∈ is, ∃ n : Int, xs[i]? = some (.int k n)) → (Op.eqItems (d + 1) e 1 xs xs is).run Try.prog w = .ok true w
  | [], _ => by simp [Op.eqItems]
  | i :: is, h => by
    obtain ⟨n, hn⟩ := h i (by simp)
    have hp : (part e xs (i * 1)).run Try.prog w = .ok (.int k n) w := by
      simp [part, isAgg, run_underlying he, hn]
    have hq : (Op.equalIn (d + 1) e (.int k n) (.int k n)).run Try.prog w = .ok true w := by
      rw [run_equalIn_int w d e k k n n he]; simp
    have ih := items_self d e k he xs w is (fun j hj => h j (by simp [hj]))
    simp only [Op.eqItems, Sem.run_bind, hp, hq, Result.andThen_ok]
    simpa using ih
theorem neq64 (bs : List Nat) (hl : bs.length = 64) (w : World) : (binOp .neq 27 (.agg (u8s bs).toArray) (.agg (u8s bs).toArray)).run Try.prog w = .ok (.bool false) w := by
  have hi : ∃ i, Try.prog.info? 5 = some i := by
    cases h : Try.prog.info? 5 with
    | some i => exact ⟨i, rfl⟩
    | none =>
      have : (Try.prog.info? 5).isSome = true := by kernel_rfl
      rw [h] at this; cases this
  obtain ⟨i, hi⟩ := hi
  have hC : Try.prog.cellsOf 5 = 1 := by kernel_rfl
  rw [run_neq_struct, run_equalIn_array w 9999 _ _ Try.underlying27 hi, hC,
    items_self 9998 5 .u8 Try.underlying5 (u8s bs).toArray w (List.range 64) (fun i hi => ⟨(bs.getD i 0 : Nat), by
      have := u8s_getD (bs := bs) (j := i) (by rw [hl]; simpa using hi)
      simpa using this⟩)]
  rfl
theorem neqRec (n0 n1 n2 n3 n4 n5 n6 n7 n8 : Nat) (w : World) : (binOp .neq 26 (.agg #[.int .u32 n0, .int .u32 n1, .int .u64 n2, .int .u64 n3, .int .u64 n4, .int .u64 n5, .int .u64 n6, .int .u64 n7, .int .u64 n8]) (.agg #[.int .u32 n0, .int .u32 n1, .int .u64 n2, .int .u64 n3, .int .u64 n4, .int .u64 n5, .int .u64 n6, .int .u64 n7, .int .u64 n8])).run Try.prog w = .ok (.bool false) w := by
  have hi : ∃ i, Try.prog.info? 23 = some i := by
    cases h : Try.prog.info? 23 with
    | some i => exact ⟨i, rfl⟩
    | none =>
      have : (Try.prog.info? 23).isSome = true := by kernel_rfl
      rw [h] at this; cases this
  obtain ⟨i, hi⟩ := hi
  have hC : Try.prog.cellsOf 23 = 1 := by kernel_rfl
  have hA : (Op.equalIn 9999 24 (.agg #[.int .u64 n3, .int .u64 n4, .int .u64 n5, .int .u64 n6, .int .u64 n7, .int .u64 n8]) (.agg #[.int .u64 n3, .int .u64 n4, .int .u64 n5, .int .u64 n6, .int .u64 n7, .int .u64 n8])).run Try.prog w = .ok true w := by
    rw [run_equalIn_array w 9998 _ _ Try.underlying24 hi, hC]
    exact items_self 9997 23 .u64 Try.underlying23 _ w (List.range 6) (fun i hi => by
      have : i < 6 := by simpa using hi
      rcases (by omega : i = 0 ∨ i = 1 ∨ i = 2 ∨ i = 3 ∨ i = 4 ∨ i = 5) with rfl | rfl | rfl | rfl | rfl | rfl <;> exact ⟨_, rfl⟩)
  rw [run_neq_struct, run_equalIn_agg w 9999 _ _ _ (by simp [Program.fieldsOf, Try.underlying26]) (by kernel_rfl)]
  simp [Op.eqFields, Program.fieldsOf, Try.underlying26, go_sem, hA]
end Go.Proofs.Ytfkdhfbmpjfhbaa
