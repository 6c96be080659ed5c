/- A condition of small numbers, handed in by value. -/
import Derived.Test.YtagbamengcnfeaaMeX
namespace Go.Proofs.Ytagbamengcnfeaa.Me
open Go.RowKit Go.ChangeShapes Go.WideShapes Go.ChangeAt Go.WideElems
set_option maxRecDepth 100000
theorem open_sc {H : Type} {enc : TypeId × Value → H} {w : World} {base : Nat} {spare : Nat → Bool} {held : Bool} {r : Reach} {b0 : Nat} {v : Value} {d : DataW H} {pp : List MemPlace} (hv : Value.okWide Try.prog w r b0 61 v) (h : DataW.Trod enc Try.prog w base spare held 61 v d pp) : ∃ c : SC, ScIn c.a c.b c.m c.v ∧ v = .agg c.cells.toArray := by
  obtain ⟨cs, rfl, hsz⟩ := okWide_struct Try.underlying61 hv
  have hC : Try.prog.cellsOf 61 = 4 := by kernel_rfl
  obtain ⟨l⟩ := cs
  match l, hsz.trans hC with
  | [v0, v1, v2, v3], _ =>
    obtain ⟨fuel, hf⟩ := h
    obtain ⟨xs, n', _, _, _, hlen, hg⟩ := DataW.trod_struct Try.underlying61 hf
    match xs, hlen with
    | [y0, y1, y2, y3], _ =>
      have f0 : DataW.trod enc Try.prog w base spare held n' 5 [v0] = some y0 := one_field (hg 0 _ rfl) rfl rfl (by kernel_rfl) rfl
      obtain ⟨n0, e0, _, g0⟩ := DataW.trod_int Try.underlying5 f0
      simp only [List.cons.injEq, and_true] at e0
      subst e0
      have b0 := bounds_u8 g0
      obtain ⟨m0, rfl⟩ := Int.eq_ofNat_of_zero_le b0.1
      have f1 : DataW.trod enc Try.prog w base spare held n' 5 [v1] = some y1 := one_field (hg 1 _ rfl) rfl rfl (by kernel_rfl) rfl
      obtain ⟨n1, e1, _, g1⟩ := DataW.trod_int Try.underlying5 f1
      simp only [List.cons.injEq, and_true] at e1
      subst e1
      have b1 := bounds_u8 g1
      obtain ⟨m1, rfl⟩ := Int.eq_ofNat_of_zero_le b1.1
      have f2 : DataW.trod enc Try.prog w base spare held n' 5 [v2] = some y2 := one_field (hg 2 _ rfl) rfl rfl (by kernel_rfl) rfl
      obtain ⟨n2, e2, _, g2⟩ := DataW.trod_int Try.underlying5 f2
      simp only [List.cons.injEq, and_true] at e2
      subst e2
      have b2 := bounds_u8 g2
      obtain ⟨m2, rfl⟩ := Int.eq_ofNat_of_zero_le b2.1
      have f3 : DataW.trod enc Try.prog w base spare held n' 5 [v3] = some y3 := one_field (hg 3 _ rfl) rfl rfl (by kernel_rfl) rfl
      obtain ⟨n3, e3, _, g3⟩ := DataW.trod_int Try.underlying5 f3
      simp only [List.cons.injEq, and_true] at e3
      subst e3
      have b3 := bounds_u8 g3
      obtain ⟨m3, rfl⟩ := Int.eq_ofNat_of_zero_le b3.1
      exact ⟨⟨m0, m1, m2, m3⟩, ⟨by show m0 < 256; omega, by show m1 < 256; omega, by show m2 < 256; omega, by show m3 < 256; omega⟩, rfl⟩
def zeroSc : Value := .agg #[.int .u8 0, .int .u8 0, .int .u8 0, .int .u8 0]
theorem narrows (s : SmV) (k : SC) (A : Option Addr) (n c : Nat) (PB : Option Addr) (pn pc : Nat) (zs : List Int) (w : World) (hs : SmIn w s) (hsc : ScIn k.a k.b k.m k.v) (hl : RecsIn w A n c) (hk : IsRow .u8 w PB pn pc zs) :
    Calls Try.prog 4 #[.agg s.cells.toArray, .agg k.cells.toArray, .slice A n c, .slice PB pn pc] w (RetB true w) := walk_meanNarrows s k.a k.b k.m k.v A n c PB pn pc zs w hs hsc hl hk
end Go.Proofs.Ytagbamengcnfeaa.Me
