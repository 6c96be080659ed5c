/- What the laid variable gives the walks: the table's sixteen cells. -/
import Derived.Test.YtpglioibdhcjkaaDoorRows
import Derived.Test.YtpglioibdhcjkaaDoorOne
import Derived.ProofKit
import Derived.LaidMore
import Derived.OpenShut
import Derived.Stop.Joined
namespace Go.Proofs.YtpglioibdhcjkaaDoor
open Go.ChangeShapes Go.WideShapes Go.ChangeAt Go.WideElems Go.RowKit
def laidL {H : Type} : List (String × DataW H) := [("pinfold/right.names", Rows.laid_pinfold_right_names)]
theorem gNames : Tryd.prog.globalNamed "pinfold/right.names" = some 0 := by kernel_rfl
theorem tNames : (Tryd.prog.globals[0]?).map (·.type) = some 58 := by kernel_rfl
theorem names_of_laid {W : World} (h : laidMetH Tryd.prog laidL W) : NamesAt W := by
  rw [MakeChecks.laidMetH_plain _ _ _ (by kernel_rfl)] at h
  obtain ⟨ps, ⟨g0, t0, cs0, f0, p0, q0, hg0, ht0, hv0, hd0, _, _⟩, _, _⟩ := h
  obtain rfl := Option.some.inj (gNames.symm.trans hg0)
  obtain rfl := Option.some.inj (tNames.symm.trans ht0)
  obtain ⟨xs, m1, rfl, hx1, hlen, hn, hel⟩ := DataW.trod_array Tryd.underlying58 hd0
  have cS : Tryd.prog.cellsOf 9 = 1 := by kernel_rfl
  have cA : Tryd.prog.cellsOf 58 = 16 := by kernel_rfl
  rw [cS] at hel
  rw [cA] at hlen
  simp only [Prod.mk.injEq] at hx1
  have hx2 : xs.map (·.1) = (List.range 16).map (fun i => (DataW.lit (.string (nm i)) : DataW _)) := by
    have e := hx1.1
    unfold Rows.laid_pinfold_right_names at e
    simp only [DataW.agg.injEq] at e
    rw [← e]; rfl
  intro i hi
  have hil : i < xs.length := by omega
  have h0 := hel i hi
  rw [List.getElem?_eq_getElem hil] at h0
  obtain ⟨s, e1, e2, _⟩ := DataW.trod_string Tryd.underlying9 h0
  have hs : (xs.map (·.1))[i]? = some (.lit (.string s.data.toList)) := by
    rw [List.getElem?_map, List.getElem?_eq_getElem hil, e2]; rfl
  rw [hx2, List.getElem?_map, List.getElem?_range hi] at hs
  have hnm : nm i = s.data.toList := by simpa using hs
  have hc := World.var?_cell hg0 hv0 i
  have hcs : cs0.toList[i]? = some (.string s) := by
    have := congrArg (·[0]?) e1
    simp only [List.getElem?_take, List.getElem?_drop, List.getElem?_cons_zero, Nat.mul_one, Nat.add_zero] at this
    simpa using this
  rw [hnm, hc, ← Array.getElem?_toList, hcs]
end Go.Proofs.YtpglioibdhcjkaaDoor
