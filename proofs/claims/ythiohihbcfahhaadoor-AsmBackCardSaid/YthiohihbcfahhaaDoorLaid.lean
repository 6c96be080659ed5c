/- What the listed variables, and the world's shape, give the walks. -/
import Derived.Test.YthiohihbcfahhaaDoorRows
import Derived.Test.YthiohihbcfahhaaDoorNum
import Derived.ProofKit
import Derived.LaidMore
import Derived.OpenShut
import Derived.Lay
import Derived.LaidSub
import Derived.Stop.Joined
import Derived.Shelf.Vars
import Derived.Lib.LaidTab
namespace Go.Proofs.YthiohihbcfahhaaDoor
open Go.ChangeShapes Go.WideShapes Go.ChangeAt Go.WideElems Go.RowKit
def laidL : List (String × DataW Unit) := [("math/bits.deBruijn32tab", Rows.laid_math_bits_deBruijn32tab), ("math/bits.deBruijn64tab", Rows.laid_math_bits_deBruijn64tab), ("internal/strconv.uint64pow10", Rows.laid_internal_strconv_uint64pow10), ("unicode/utf8.acceptRanges", Rows.laid_unicode_utf8_acceptRanges), ("strconv.ErrRange", Rows.laid_strconv_ErrRange), ("strconv.ErrSyntax", Rows.laid_strconv_ErrSyntax), ("pinfold/asm.raw", Rows.laid_pinfold_asm_raw), ("pinfold/asm.lines", Rows.laid_pinfold_asm_lines), ("unicode/utf8.first", Rows.laid_unicode_utf8_first)]
theorem one_of {W : World} (h : laidMetH Tryd.prog laidL W) (n : String) (d : DataW Unit) (hf : (laidL.filter fun x => x.1 == n) = [(n, d)]) (hp : d.handleName?.isNone = true) : laidMet Tryd.prog [(n, d)] W := by
  have h1 := h.filter (fun x => x.1 == n)
  rw [hf, MakeChecks.laidMetH_plain _ _ _ (by simp [hp])] at h1
  exact h1
theorem pow_of {W : World} (h : laidMetH Tryd.prog laidL W) : PowAt W := by
  have h1 := one_of h "internal/strconv.uint64pow10" (Lib.tabData .u64 Lib.pow10Tab) (by kernel_rfl) (by kernel_rfl)
  exact Lib.tabIs_of_head (g := 4) (t := 133) (e := 22) (n := 20) (by kernel_rfl) (by kernel_rfl) Tryd.underlying133 Tryd.underlying22 (by kernel_rfl) (by kernel_rfl) h1
theorem err_of {W : World} {n : String} {nm : String} {d : DataW Unit} {g : Nat} (h : laidMet Tryd.prog [(n, .iface nm d)] W) (hg : Tryd.prog.globalNamed n = some g) (ht : (Tryd.prog.globals[g]?).map (·.type) = some 52) : ∃ te pe, W.cell? ⟨g, 0, none⟩ = some (.iface te pe) := by
  obtain ⟨ps, ⟨g0, t0, cs0, f0, p0, q0, hg0, ht0, hv0, hd0, _, _⟩, _, _⟩ := h
  obtain rfl := Option.some.inj (hg.symm.trans hg0)
  obtain rfl := Option.some.inj (ht.symm.trans ht0)
  obtain ⟨f', u, v, hcs, _, _⟩ := iface_of_trod Tryd.underlying52 hd0
  refine ⟨u, v, ?_⟩
  rw [World.var?_cell hg0 hv0 0, ← Array.getElem?_toList, hcs]
  rfl
set_option maxRecDepth 100000 in
theorem line_cells {W : World} {base : Nat} {sp : Nat → Bool} {held : Bool} {fuel : Nat} {cs : List Value} {H : Type} {enc : TypeId × Value → H} {c s : Int} {l : Bs} {p : List MemPlace}
    (h : DataW.trod enc Tryd.prog W base sp held fuel 81 cs = some (.agg [.lit (.string l), .lit (.int .u16 c), .lit (.int .u8 s)], p)) : cs = [.string ⟨l.toArray⟩, .int .u16 c, .int .u8 s] := by
  obtain ⟨xs, n', _, hx, hcl, hxl, hf⟩ := DataW.trod_struct Tryd.underlying81 h
  have hC : Tryd.prog.cellsOf 81 = 3 := by kernel_rfl
  have hCs : Tryd.prog.cellsOf 9 = 1 := by kernel_rfl
  have hC16 : Tryd.prog.cellsOf 35 = 1 := by kernel_rfl
  have hC8 : Tryd.prog.cellsOf 79 = 1 := by kernel_rfl
  rw [hC] at hcl
  obtain ⟨v0, v1, v2, rfl⟩ : ∃ v0 v1 v2, cs = [v0, v1, v2] := by
    match cs, hcl with
    | [v0, v1, v2], _ => exact ⟨v0, v1, v2, rfl⟩
  obtain ⟨y0, y1, y2, rfl⟩ : ∃ v0 v1 v2, xs = [v0, v1, v2] := by
    match xs, hxl with
    | [v0, v1, v2], _ => exact ⟨v0, v1, v2, rfl⟩
  have fld : ∀ {f : Field} {T k : Nat} {v : Value} {y : Option (DataW H × List MemPlace)}, DataW.trod enc Tryd.prog W base sp held n' f.type (([v0, v1, v2].drop f.offset).take (Tryd.prog.cellsOf f.type)) = y → f.type = T → f.offset = k → Tryd.prog.cellsOf T = 1 → ([v0, v1, v2].drop k).take 1 = [v] → DataW.trod enc Tryd.prog W base sp held n' T [v] = y := by
    intro f T k v y h hT hk hc hv
    subst hT hk
    rwa [hc, hv] at h
  have f0 := fld (hf 0 _ rfl) (T := 9) (k := 0) (v := v0) rfl rfl hCs rfl
  have f1 := fld (hf 1 _ rfl) (T := 35) (k := 1) (v := v1) rfl rfl hC16 rfl
  have f2 := fld (hf 2 _ rfl) (T := 79) (k := 2) (v := v2) rfl rfl hC8 rfl
  obtain ⟨b, e0, g0, _⟩ := DataW.trod_string Tryd.underlying9 f0
  obtain ⟨n1, e1, g1, _⟩ := DataW.trod_int Tryd.underlying35 f1
  obtain ⟨n2, e2, g2, _⟩ := DataW.trod_int Tryd.underlying79 f2
  simp only [List.cons.injEq, and_true] at e0 e1 e2
  subst e0 e1 e2 g0 g1 g2
  simp only [Prod.mk.injEq, List.map_cons, List.map_nil, DataW.agg.injEq, List.cons.injEq, DataW.lit.injEq, Lit.string.injEq, Lit.int.injEq, and_true, true_and] at hx
  obtain ⟨⟨h0, h1, h2⟩, _⟩ := hx
  subst h0 h1 h2
  rfl
theorem raw_of {W : World} (h : laidMetH Tryd.prog laidL W) : ∀ j u, rawL.cells[j]? = some u → W.cell? ⟨1, j, none⟩ = some u := by
  have h1 := one_of h "pinfold/asm.raw" Rows.laid_pinfold_asm_raw (by kernel_rfl) (by kernel_rfl)
  obtain ⟨ps, ⟨g0, t0, cs0, f0, p0, q0, hg0, ht0, hv0, hd0, _, _⟩, _, _⟩ := h1
  obtain rfl := Option.some.inj ((show Tryd.prog.globalNamed "pinfold/asm.raw" = some 1 by kernel_rfl).symm.trans hg0)
  obtain rfl := Option.some.inj ((show (Tryd.prog.globals[1]?).map (·.type) = some 81 by kernel_rfl).symm.trans ht0)
  have hcs := line_cells hd0
  intro j u hu
  rw [World.var?_cell hg0 hv0 j, ← Array.getElem?_toList, hcs]
  exact hu
def linesD : List (DataW Unit) := tab.map fun l => .agg [.lit (.string l.w), .lit (.int .u16 l.c), .lit (.int .u8 l.s)]
theorem linesD_eq : Rows.laid_pinfold_asm_lines = .agg linesD := by kernel_rfl
theorem lines_of {W : World} (h : laidMetH Tryd.prog laidL W) : ∀ j u, tabC[j]? = some u → W.cell? ⟨0, j, none⟩ = some u := by
  have h1 := one_of h "pinfold/asm.lines" Rows.laid_pinfold_asm_lines (by kernel_rfl) (by kernel_rfl)
  obtain ⟨ps, ⟨g0, t0, cs0, f0, p0, q0, hg0, ht0, hv0, hd0, _, _⟩, _, _⟩ := h1
  obtain rfl := Option.some.inj ((show Tryd.prog.globalNamed "pinfold/asm.lines" = some 0 by kernel_rfl).symm.trans hg0)
  obtain rfl := Option.some.inj ((show (Tryd.prog.globals[0]?).map (·.type) = some 118 by kernel_rfl).symm.trans ht0)
  rw [linesD_eq] at hd0
  obtain ⟨xs, m1, _, hx1, hlen, hn, hel⟩ := DataW.trod_array Tryd.underlying118 hd0
  have cS : Tryd.prog.cellsOf 81 = 3 := by kernel_rfl
  rw [cS] at hel
  have hx2 : xs.map (·.1) = linesD := (DataW.agg.inj (Prod.mk.inj hx1).1).symm
  intro j u hu
  have hj : j < 123 := by
    have := (List.getElem?_eq_some_iff.1 hu).1
    rw [tabC_len] at this; exact this
  obtain ⟨k, r, hr, rfl⟩ : ∃ k r, r < 3 ∧ j = k * 3 + r := ⟨j / 3, j % 3, by omega, by omega⟩
  have hk : k < 41 := by omega
  have h0 := hel k hk
  rw [List.getElem?_eq_getElem (by omega : k < xs.length)] at h0
  have hd : (xs[k]'(by omega)).1 = .agg [.lit (.string (lnAt k).w), .lit (.int .u16 (lnAt k).c), .lit (.int .u8 (lnAt k).s)] := by
    have e : (xs.map (·.1))[k]? = linesD[k]? := by rw [hx2]
    rw [List.getElem?_map, List.getElem?_eq_getElem (by omega : k < xs.length)] at e
    unfold linesD at e
    rw [List.getElem?_map, lnAt_get k hk] at e
    simpa using e
  obtain ⟨⟨y, p⟩, hy⟩ : ∃ y, xs[k]'(by omega) = y := ⟨_, rfl⟩
  rw [hy] at h0 hd
  simp only at hd
  subst hd
  have hc := line_cells h0
  have hcell : cs0.toList[k * 3 + r]? = ((cs0.toList.drop (k * 3)).take 3)[r]? := by
    rw [List.getElem?_take, if_pos hr, List.getElem?_drop]
  rw [World.var?_cell hg0 hv0 (k * 3 + r), ← Array.getElem?_toList, hcell, hc]
  have ht : tabC[k * 3 + r]? = (tab[k]?).bind (fun l => l.cells[r]?) := by
    have : ∀ (T : List Ln) (k r : Nat), r < 3 → (T.flatMap Ln.cells)[k * 3 + r]? = (T[k]?).bind (fun l => l.cells[r]?) := by
      intro T
      induction T with
      | nil => intro k r _; simp
      | cons x T ih =>
        intro k r hr
        rw [List.flatMap_cons]
        cases k with
        | zero => rw [List.getElem?_append_left (by simp [Ln.cells]; omega)]; simp
        | succ k =>
          rw [List.getElem?_append_right (by simp [Ln.cells]; omega), show (x.cells).length = 3 from rfl, show (k + 1) * 3 + r - 3 = k * 3 + r from by omega, ih k r hr]
          simp
    exact this tab k r hr
  rw [ht, lnAt_get k hk] at hu
  exact hu
theorem env_of {W : World} (h : laidMetH Tryd.prog laidL W) (hsh : W.ShapedOpen Tryd.prog) : Env W :=
  ⟨⟨lines_of h, raw_of h⟩, pow_of h,
   err_of (one_of h "strconv.ErrSyntax" Rows.laid_strconv_ErrSyntax (by kernel_rfl) (by kernel_rfl)) (by kernel_rfl) (by kernel_rfl),
   err_of (one_of h "strconv.ErrRange" Rows.laid_strconv_ErrRange (by kernel_rfl) (by kernel_rfl)) (by kernel_rfl) (by kernel_rfl),
   cell_of_shapedOpen_int (P := Tryd.prog) (g := 5) (t := 3) (zero := #[.int .i64 0]) hsh (of_decide_eq_true (by kernel_rfl)) (by kernel_rfl) rfl (by kernel_rfl) (by kernel_rfl) Tryd.underlying3⟩
theorem laid_met (os : Os) (args : Array Value) : laidMetH Tryd.prog laidL ((World.laidAll Tryd.prog os laidL).forCall (fun _ _ => 0) ⟨#[], args, []⟩).memory := by
  rw [MakeChecks.laidMetH_plain _ _ _ (by kernel_rfl)]
  exact laidMet_laidAll _ (by kernel_rfl) (by kernel_rfl)
theorem laid_shaped (os : Os) (args : Array Value) : ((World.laidAll Tryd.prog os laidL).forCall (fun _ _ => 0) ⟨#[], args, []⟩).Shaped Tryd.prog := World.shaped_of_ZipB (by kernel_rfl) (by kernel_rfl)
end Go.Proofs.YthiohihbcfahhaaDoor
