/- Two instructions: whether they are the same. -/
import Derived.Test.YthiohihbcfahhaaDoorTabM
import Derived.Test.YthiohihbcfahhaaDoorProg
import Derived.WalkKit
import Derived.ChangeKeysEq
import Derived.Laws.StructEq
namespace Go.Proofs.YthiohihbcfahhaaDoor
open Go.RowKit
theorem eql_ins (a b : Ins) (w : World) : (binOp .eql 38 (.agg #[.int .u16 a.c, .int .u8 a.t, .int .u8 a.f, .int .u32 a.k]) (.agg #[.int .u16 b.c, .int .u8 b.t, .int .u8 b.f, .int .u32 b.k])).run Tryd.prog w = .ok (.bool (sameI a b)) w := by
  rw [run_eql_struct, run_equalIn_agg w 9999 _ _ _ (by simp [Program.fieldsOf, Tryd.underlying38]) (by kernel_rfl)]
  by_cases h1 : a.c = b.c <;> by_cases h2 : a.t = b.t <;> by_cases h3 : a.f = b.f <;> by_cases h4 : a.k = b.k <;> simp [Op.eqFields, Program.fieldsOf, Tryd.underlying38, go_sem, sameI, h1, h2, h3, h4] <;> omega
theorem neq_ins (a b : Ins) (w : World) : (binOp .neq 38 (.agg #[.int .u16 a.c, .int .u8 a.t, .int .u8 a.f, .int .u32 a.k]) (.agg #[.int .u16 b.c, .int .u8 b.t, .int .u8 b.f, .int .u32 b.k])).run Tryd.prog w = .ok (.bool (!sameI a b)) w := by
  rw [run_neq_struct, run_equalIn_agg w 9999 _ _ _ (by simp [Program.fieldsOf, Tryd.underlying38]) (by kernel_rfl)]
  by_cases h1 : a.c = b.c <;> by_cases h2 : a.t = b.t <;> by_cases h3 : a.f = b.f <;> by_cases h4 : a.k = b.k <;> simp [Op.eqFields, Program.fieldsOf, Tryd.underlying38, go_sem, sameI, h1, h2, h3, h4] <;> omega
end Go.Proofs.YthiohihbcfahhaaDoor
