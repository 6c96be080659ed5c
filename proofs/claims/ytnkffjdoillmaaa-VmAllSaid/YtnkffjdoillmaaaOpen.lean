/- What the laws are handed: a record, sixty-four bytes. -/
import Derived.Test.YtnkffjdoillmaaaHalves
import Derived.Deep.Slices
import Derived.ChangeArms
import Derived.ChangeSlices
import Derived.DataReads
import Derived.ProofKit
import Derived.ChangeOld
import Derived.SliceStrings
import Derived.OpenShut
namespace Go.Proofs.Ytnkffjdoillmaaa.Rec
set_option maxRecDepth 100000
open Go.ChangeShapes Go.WideShapes Go.ChangeAt Go.RowKit Go.Deep
section
variable {H : Type} {enc : TypeId × Value → H} {w : World} {base : Nat} {spare : Nat → Bool} {held : Bool} {r : Reach} {b0 : Nat} {v : Value} {d : DataW H} {p : List MemPlace}
theorem one_field {f : Field} {fuel T k : Nat} {cs : List Value} {v : Value} {y : Option (DataW H × List MemPlace)} (h : DataW.trod enc Try.prog w base spare held fuel f.type ((cs.drop f.offset).take (Try.prog.cellsOf f.type)) = y)
    (hT : f.type = T) (hk : f.offset = k) (hc : Try.prog.cellsOf T = 1) (hv : (cs.drop k).take 1 = [v]) : DataW.trod enc Try.prog w base spare held fuel T [v] = y := by
  subst hT hk
  rwa [hc, hv] at h
theorem some_field {fuel T : Nat} {v : Value} {xs : List (DataW H × List MemPlace)} {i : Nat} (hi : i < xs.length) (h : DataW.trod enc Try.prog w base spare held fuel T [v] = xs[i]?) : ∃ y, DataW.trod enc Try.prog w base spare held fuel T [v] = some y :=
  ⟨xs[i], by rw [h, List.getElem?_eq_getElem hi]⟩
theorem u32_of {fuel : Nat} {v : Value} (h : ∃ y, DataW.trod enc Try.prog w base spare held fuel 35 [v] = some y) : ∃ n : Nat, v = .int .u32 n ∧ n < 4294967296 := by
  obtain ⟨y, h⟩ := h
  obtain ⟨n, e, _, g⟩ := DataW.trod_int Try.underlying35 h
  have b := bounds_u32 g
  obtain ⟨m, rfl⟩ := Int.eq_ofNat_of_zero_le b.1
  simp only [List.cons.injEq, and_true] at e
  exact ⟨m, e, by omega⟩
theorem u64_of {fuel : Nat} {v : Value} (h : ∃ y, DataW.trod enc Try.prog w base spare held fuel 36 [v] = some y) : ∃ n : Nat, v = .int .u64 n ∧ n < 18446744073709551616 := by
  obtain ⟨y, h⟩ := h
  obtain ⟨n, e, _, g⟩ := DataW.trod_int Try.underlying36 h
  have b := bounds_u64 g
  obtain ⟨m, rfl⟩ := Int.eq_ofNat_of_zero_le b.1
  simp only [List.cons.injEq, and_true] at e
  exact ⟨m, e, by omega⟩
theorem u8_of {fuel : Nat} {v : Value} (h : ∃ y, DataW.trod enc Try.prog w base spare held fuel 5 [v] = some y) : ∃ n : Nat, v = .int .u8 n ∧ n < 256 := by
  obtain ⟨y, h⟩ := h
  obtain ⟨n, e, _, g⟩ := DataW.trod_int Try.underlying5 h
  have b := bounds_u8 g
  obtain ⟨m, rfl⟩ := Int.eq_ofNat_of_zero_le b.1
  simp only [List.cons.injEq, and_true] at e
  exact ⟨m, e, by omega⟩
def IsRec (bs : List Nat) : Prop := bs.length = 64 ∧ Small8 bs
theorem open_record (hv : Value.okWide Try.prog w r b0 39 v) (h : DataW.Trod enc Try.prog w base spare held 39 v d p) : ∃ bs, IsRec bs ∧ v = .agg (recL bs).toArray := by
  obtain ⟨cs, rfl, hsz⟩ := okWide_struct Try.underlying39 hv
  have hC : Try.prog.cellsOf 39 = 9 := by kernel_rfl
  have h8 : Try.prog.cellsOf 35 = 1 := by kernel_rfl
  have h64 : Try.prog.cellsOf 36 = 1 := by kernel_rfl
  have h6 : Try.prog.cellsOf 37 = 6 := by kernel_rfl
  obtain ⟨l⟩ := cs
  match l, hsz.trans hC with
  | [c0, c1, c2, c3, c4, c5, c6, c7, c8], _ =>
    obtain ⟨fuel, hf⟩ := h
    obtain ⟨xs, n, _, _, _, hlen, hg⟩ := DataW.trod_struct Try.underlying39 hf
    match xs, hlen with
    | [y0, y1, y2, y3], _ =>
      obtain ⟨n0, rfl, g0⟩ := u32_of ⟨_, one_field (hg 0 _ rfl) rfl rfl h8 rfl⟩
      obtain ⟨n1, rfl, g1⟩ := u32_of ⟨_, one_field (hg 1 _ rfl) rfl rfl h8 rfl⟩
      obtain ⟨n2, rfl, g2⟩ := u64_of ⟨_, one_field (hg 2 _ rfl) rfl rfl h64 rfl⟩
      have h3 : DataW.trod enc Try.prog w base spare held n 37 [c3, c4, c5, c6, c7, c8] = some y3 := by
        have := hg 3 _ rfl
        exact this
      obtain ⟨zs, m, _, _, _, hzl, hz⟩ := DataW.trod_array Try.underlying37 h3
      rw [h64] at hz
      obtain ⟨n3, rfl, g3⟩ := u64_of (some_field (i := 0) (by omega) (hz 0 (by omega)))
      obtain ⟨n4, rfl, g4⟩ := u64_of (some_field (i := 1) (by omega) (hz 1 (by omega)))
      obtain ⟨n5, rfl, g5⟩ := u64_of (some_field (i := 2) (by omega) (hz 2 (by omega)))
      obtain ⟨n6, rfl, g6⟩ := u64_of (some_field (i := 3) (by omega) (hz 3 (by omega)))
      obtain ⟨n7, rfl, g7⟩ := u64_of (some_field (i := 4) (by omega) (hz 4 (by omega)))
      obtain ⟨n8, rfl, g8⟩ := u64_of (some_field (i := 5) (by omega) (hz 5 (by omega)))
      obtain ⟨bs, hl, hb, e0, e1, e2, e3, e4, e5, e6, e7, e8⟩ := record_bytes n0 n1 n2 n3 n4 n5 n6 n7 n8 g0 g1 g2 g3 g4 g5 g6 g7 g8
      exact ⟨bs, ⟨hl, small8_of hb⟩, by rw [recL, e0, e1, e2, e3, e4, e5, e6, e7, e8]⟩
def numOf : Value → Nat
  | .int _ n => n.toNat
  | _ => 0
theorem open_64 (hv : Value.okWide Try.prog w r b0 118 v) (h : DataW.Trod enc Try.prog w base spare held 118 v d p) : ∃ bs, IsRec bs ∧ v = .agg (u8s bs).toArray := by
  have hC : Try.prog.cellsOf 118 = 64 := by kernel_rfl
  have h8 : Try.prog.cellsOf 5 = 1 := by kernel_rfl
  obtain ⟨cs, rfl, hsz⟩ : ∃ cs, v = .agg cs ∧ cs.size = Try.prog.cellsOf 118 := by
    simp only [Value.okWide, Try.underlying118] at hv
    obtain ⟨cs, h1, h2, _⟩ := hv
    exact ⟨cs, h1, h2⟩
  obtain ⟨l⟩ := cs
  have hl : l.length = 64 := hsz.trans hC
  obtain ⟨fuel, hf⟩ := h
  obtain ⟨zs, m, _, _, _, hzl, hz⟩ := DataW.trod_array Try.underlying118 hf
  rw [h8] at hz
  have each : ∀ i, i < 64 → ∃ n : Nat, l[i]? = some (.int .u8 n) ∧ n < 256 := fun i hi => by
    have hz1 := hz i hi
    have e : ((Value.agg ⟨l⟩).cells.toList.drop (i * 1)).take 1 = [l[i]] := by
      simp only [Value.cells, Nat.mul_one]
      rw [List.drop_eq_getElem_cons (by omega)]; rfl
    rw [e] at hz1
    obtain ⟨n, hn, hlt⟩ := u8_of (some_field (i := i) (by omega) hz1)
    exact ⟨n, by rw [List.getElem?_eq_getElem (by omega), hn], hlt⟩
  refine ⟨(List.range 64).map (fun i => numOf (l.getD i undef)), ⟨by simp, small8_of fun x hx => ?_⟩, ?_⟩
  · obtain ⟨i, hi, rfl⟩ := List.mem_map.1 hx
    obtain ⟨n, hn, hlt⟩ := each i (by simpa using hi)
    rw [List.getD_eq_getElem?_getD, hn]; exact hlt
  · congr 1
    rw [show (⟨l⟩ : Array Value) = l.toArray from rfl]
    congr 1
    apply List.ext_getElem?
    intro i
    by_cases hi : i < 64
    · obtain ⟨n, hn, hlt⟩ := each i hi
      rw [hn]
      simp [u8s, List.getElem?_range hi, List.getD_eq_getElem?_getD, hn, numOf]
    · rw [List.getElem?_eq_none (by omega), List.getElem?_eq_none (by simp [u8s]; omega)]
end
def zeroRec : Value := .agg #[.int .u32 0, .int .u32 0, .int .u64 0, .int .u64 0, .int .u64 0, .int .u64 0, .int .u64 0, .int .u64 0, .int .u64 0]
def zero64 : Value := .agg (u8s (List.replicate 64 0)).toArray
end Go.Proofs.Ytnkffjdoillmaaa.Rec

