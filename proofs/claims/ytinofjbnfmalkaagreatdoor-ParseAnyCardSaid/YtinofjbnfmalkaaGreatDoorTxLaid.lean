/- What the listed variables, and the world's shape, give the walks. -/
import Derived.Test.YtinofjbnfmalkaaGreatDoorRows
import Derived.Test.YtinofjbnfmalkaaGreatDoorTxN
import Derived.ProofKit
import Derived.LaidMore
import Derived.OpenShut
import Derived.Lay
import Derived.LaidSub
import Derived.Stop.Joined
import Derived.Shelf.Vars
import Derived.Lib.LaidTab
namespace Go.Proofs.YtinofjbnfmalkaaGreatDoor.Tx
open Go.ChangeShapes Go.WideShapes Go.ChangeAt Go.WideElems Go.RowKit Pa
structure E2 (w : World) : Prop where
  g : G w
  pow : PowAt w
theorem E2.kept {w w' : World} (h : E2 w) (hb : Below w.heap.size w w') : E2 w' := ⟨h.g.kept hb, h.pow.below hb⟩
def laidL : List (String × DataW Unit) := [("math/bits.deBruijn32tab", Rows.laid_math_bits_deBruijn32tab), ("math/bits.deBruijn64tab", Rows.laid_math_bits_deBruijn64tab), ("internal/strconv.uint64pow10", Rows.laid_internal_strconv_uint64pow10), ("unicode/utf8.acceptRanges", Rows.laid_unicode_utf8_acceptRanges), ("strconv.ErrRange", Rows.laid_strconv_ErrRange), ("strconv.ErrSyntax", Rows.laid_strconv_ErrSyntax), ("pinfold/right.names", Rows.laid_pinfold_right_names), ("pinfold/policy.signs", Rows.laid_pinfold_policy_signs), ("unicode/utf8.first", Rows.laid_unicode_utf8_first)]
theorem one_of {W : World} (h : laidMetH Tryz.prog laidL W) (n : String) (d : DataW Unit) (hf : (laidL.filter fun x => x.1 == n) = [(n, d)]) (hp : d.handleName?.isNone = true) : laidMet Tryz.prog [(n, d)] W := by
  have h1 := h.filter (fun x => x.1 == n)
  rw [hf, MakeChecks.laidMetH_plain _ _ _ (by simp [hp])] at h1
  exact h1
theorem err_of {W : World} {n : String} {nm : String} {d : DataW Unit} {g : Nat} (h : laidMet Tryz.prog [(n, .iface nm d)] W) (hg : Tryz.prog.globalNamed n = some g) (ht : (Tryz.prog.globals[g]?).map (·.type) = some 168) : ∃ te pe, W.cell? ⟨g, 0, none⟩ = some (.iface te pe) := by
  obtain ⟨ps, ⟨g0, t0, cs0, f0, p0, q0, hg0, ht0, hv0, hd0, _, _⟩, _, _⟩ := h
  obtain rfl := Option.some.inj (hg.symm.trans hg0)
  obtain rfl := Option.some.inj (ht.symm.trans ht0)
  obtain ⟨f', u, v, hcs, _, _⟩ := iface_of_trod Tryz.underlying168 hd0
  refine ⟨u, v, ?_⟩
  rw [World.var?_cell hg0 hv0 0, ← Array.getElem?_toList, hcs]
  rfl
theorem pow_of {W : World} (h : laidMetH Tryz.prog laidL W) : PowAt W := by
  have h1 := one_of h "internal/strconv.uint64pow10" (Lib.tabData .u64 Lib.pow10Tab) (by kernel_rfl) (by kernel_rfl)
  exact Lib.tabIs_of_head (g := 2) (t := 237) (e := 88) (n := 20) (by kernel_rfl) (by kernel_rfl) Tryz.underlying237 Tryz.underlying88 (by kernel_rfl) (by kernel_rfl) h1
def sgn8 : List Bs := [[], [61, 61], [33, 61], [60], [60, 61], [62], [62, 61], [38]]
theorem gSigns : Tryz.prog.globalNamed "pinfold/policy.signs" = some 1 := by kernel_rfl
theorem tSigns : (Tryz.prog.globals[(1 : Nat)]?).map (·.type) = some 211 := by kernel_rfl
theorem signs_of {W : World} (h : laidMet Tryz.prog [("pinfold/policy.signs", Rows.laid_pinfold_policy_signs)] W) (i : Nat) (hi : i < 8) (s0 : Bs) (hs0 : sgn8[i]? = some s0) : W.cell? ⟨1, i, none⟩ = some (.string ⟨s0.toArray⟩) := by
  obtain ⟨ps, ⟨g0, t0, cs0, f0, p0, q0, hg0, ht0, hv0, hd0, _, _⟩, _, _⟩ := h
  obtain rfl := Option.some.inj (gSigns.symm.trans hg0)
  obtain rfl := Option.some.inj (tSigns.symm.trans ht0)
  obtain ⟨xs, m1, rfl, hx1, hlen, hn, hel⟩ := DataW.trod_array Tryz.underlying211 hd0
  have cS : Tryz.prog.cellsOf 9 = 1 := by kernel_rfl
  have cA : Tryz.prog.cellsOf 211 = 8 := by kernel_rfl
  rw [cS] at hel
  rw [cA] at hlen
  simp only [Prod.mk.injEq] at hx1
  have hx2 : xs.map (·.1) = sgn8.map (fun s => (DataW.lit (.string s) : DataW _)) := by
    have e := hx1.1
    unfold Rows.laid_pinfold_policy_signs at e
    simp only [DataW.agg.injEq] at e
    rw [← e]; rfl
  have hil : i < xs.length := by omega
  have h0 := hel i hi
  rw [List.getElem?_eq_getElem hil] at h0
  obtain ⟨s, e1, e2, _⟩ := DataW.trod_string Tryz.underlying9 h0
  have hs : (xs.map (·.1))[i]? = some (.lit (.string s.data.toList)) := by
    rw [List.getElem?_map, List.getElem?_eq_getElem hil, e2]; rfl
  rw [hx2, List.getElem?_map, hs0] at hs
  have hnm : s0 = s.data.toList := by simpa using hs
  have hc := World.var?_cell hg0 hv0 i
  have hcs : cs0.toList[i]? = some (.string s) := by
    have := congrArg (·[0]?) e1
    simp only [List.getElem?_take, List.getElem?_drop, List.getElem?_cons_zero, Nat.mul_one, Nat.add_zero] at this
    simpa using this
  rw [hnm, hc, ← Array.getElem?_toList, hcs]
theorem gNames : Tryz.prog.globalNamed "pinfold/right.names" = some 0 := by kernel_rfl
theorem tNames : (Tryz.prog.globals[(0 : Nat)]?).map (·.type) = some 172 := by kernel_rfl
theorem names_of_laid {W : World} (h : laidMet Tryz.prog [("pinfold/right.names", Rows.laid_pinfold_right_names)] W) : Rt.NamesAt W := by
  obtain ⟨ps, ⟨g0, t0, cs0, f0, p0, q0, hg0, ht0, hv0, hd0, _, _⟩, _, _⟩ := h
  obtain rfl := Option.some.inj (gNames.symm.trans hg0)
  obtain rfl := Option.some.inj (tNames.symm.trans ht0)
  obtain ⟨xs, m1, rfl, hx1, hlen, hn, hel⟩ := DataW.trod_array Tryz.underlying172 hd0
  have cS : Tryz.prog.cellsOf 9 = 1 := by kernel_rfl
  have cA : Tryz.prog.cellsOf 172 = 16 := by kernel_rfl
  rw [cS] at hel
  rw [cA] at hlen
  simp only [Prod.mk.injEq] at hx1
  have hx2 : xs.map (·.1) = (List.range 16).map (fun i => (DataW.lit (.string (Rt.nm i)) : DataW _)) := by
    have e := hx1.1
    unfold Rows.laid_pinfold_right_names at e
    simp only [DataW.agg.injEq] at e
    rw [← e]; rfl
  intro i hi
  have hil : i < xs.length := by omega
  have h0 := hel i hi
  rw [List.getElem?_eq_getElem hil] at h0
  obtain ⟨s, e1, e2, _⟩ := DataW.trod_string Tryz.underlying9 h0
  have hs : (xs.map (·.1))[i]? = some (.lit (.string s.data.toList)) := by
    rw [List.getElem?_map, List.getElem?_eq_getElem hil, e2]; rfl
  rw [hx2, List.getElem?_map, List.getElem?_range hi] at hs
  have hnm : Rt.nm i = s.data.toList := by simpa using hs
  have hc := World.var?_cell hg0 hv0 i
  have hcs : cs0.toList[i]? = some (.string s) := by
    have := congrArg (·[0]?) e1
    simp only [List.getElem?_take, List.getElem?_drop, List.getElem?_cons_zero, Nat.mul_one, Nat.add_zero] at this
    simpa using this
  rw [hnm, hc, ← Array.getElem?_toList, hcs]
theorem env_of {W : World} (h : laidMetH Tryz.prog laidL W) (hsh : W.ShapedOpen Tryz.prog) : E2 W :=
  ⟨⟨fun i hi => by
      obtain ⟨s, hs⟩ : ∃ s, sgn8[i]? = some s := ⟨_, List.getElem?_eq_getElem (by simpa [sgn8] using hi)⟩
      have e : sgT.getD i [] = s := by rw [List.getD_eq_getElem?_getD]; have : sgT[i]? = some s := hs; rw [this]; rfl
      rw [e]
      exact signs_of (one_of h "pinfold/policy.signs" Rows.laid_pinfold_policy_signs (by kernel_rfl) (by kernel_rfl)) i hi s hs,
    names_of_laid (one_of h "pinfold/right.names" Rows.laid_pinfold_right_names (by kernel_rfl) (by kernel_rfl)),
    ⟨err_of (one_of h "strconv.ErrSyntax" Rows.laid_strconv_ErrSyntax (by kernel_rfl) (by kernel_rfl)) (by kernel_rfl) (by kernel_rfl),
     err_of (one_of h "strconv.ErrRange" Rows.laid_strconv_ErrRange (by kernel_rfl) (by kernel_rfl)) (by kernel_rfl) (by kernel_rfl),
     cell_of_shapedOpen_int (P := Tryz.prog) (g := 3) (t := 3) (zero := #[.int .i64 0]) hsh (of_decide_eq_true (by kernel_rfl)) (by kernel_rfl) rfl (by kernel_rfl) (by kernel_rfl) Tryz.underlying3⟩⟩,
   pow_of h⟩
theorem laid_met (os : Os) (args : Array Value) : laidMetH Tryz.prog laidL ((World.laidAll Tryz.prog os laidL).forCall (fun _ _ => 0) ⟨#[], args, []⟩).memory := by
  rw [MakeChecks.laidMetH_plain _ _ _ (by kernel_rfl)]
  exact laidMet_laidAll _ (by kernel_rfl) (by kernel_rfl)
theorem laid_shaped (os : Os) (args : Array Value) : ((World.laidAll Tryz.prog os laidL).forCall (fun _ _ => 0) ⟨#[], args, []⟩).Shaped Tryz.prog := World.shaped_of_ZipB (by kernel_rfl) (by kernel_rfl)
end Go.Proofs.YtinofjbnfmalkaaGreatDoor.Tx
