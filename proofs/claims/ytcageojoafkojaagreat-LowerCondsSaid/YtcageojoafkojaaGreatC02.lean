/- LowerConds: over the law's own numbers. -/
import Derived.Test.YtcageojoafkojaaGreatC01
import Derived.OpenShut
namespace Go.Proofs.YtcageojoafkojaaGreat.LoL
open Go.RowKit Go.Proofs.YtcageojoafkojaaGreat.Lo
theorem walk_lowerConds (c : CondM) (k : SC) (a b : Int) (W : World) (hc : c.ok) (hk : ScIn k.a k.b k.m k.v) (wa : (Lit.int .u64 a).wf = true) (wb : (Lit.int .u64 b).wf = true) :
    Calls Tryz.prog 4 #[.agg c.cells.toArray, .agg k.cells.toArray, .int .u64 a, .int .u64 b] W (Ju.RetB true W) := by
  obtain ⟨h0, l0⟩ := bounds_u64 wa
  obtain ⟨h1, l1⟩ := bounds_u64 wb
  obtain ⟨n0, rfl⟩ := Int.eq_ofNat_of_zero_le h0
  obtain ⟨n1, rfl⟩ := Int.eq_ofNat_of_zero_le h1
  exact conds_any2 c k n0 n1 W hc hk (by omega) (by omega)
end Go.Proofs.YtcageojoafkojaaGreat.LoL
