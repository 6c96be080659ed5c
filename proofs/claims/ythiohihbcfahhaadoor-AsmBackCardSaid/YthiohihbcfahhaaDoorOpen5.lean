/- What the laws are handed: instructions, small instructions; whatever they are, long or short. -/
import Derived.Test.YthiohihbcfahhaaDoorPut5
import Derived.Deep.Slices
import Derived.ChangeArms
import Derived.ChangeSlices
import Derived.DataReads
import Derived.ProofKit
import Derived.ChangeOld
import Derived.SliceStrings
import Derived.OpenShut
namespace Go.Proofs.YthiohihbcfahhaaDoor
set_option maxRecDepth 100000
open Go.ChangeShapes Go.WideShapes Go.ChangeAt Go.RowKit Go.Deep
theorem list_of {α : Type} {Q : Nat → α → Prop} : ∀ (n : Nat), (∀ i, i < n → ∃ x, Q i x) → ∃ l : List α, l.length = n ∧ ∀ i x, l[i]? = some x → Q i x
  | 0, _ => ⟨[], rfl, fun i x h => by simp at h⟩
  | n + 1, h => by
    obtain ⟨l, hl, hq⟩ := list_of n (fun i hi => h i (by omega))
    obtain ⟨x, hx⟩ := h n (by omega)
    refine ⟨l ++ [x], by simp [hl], fun i y hy => ?_⟩
    by_cases hi : i < n
    · rw [List.getElem?_append_left (by omega)] at hy; exact hq i y hy
    · have : i = n := by
        have := (List.getElem?_eq_some_iff.1 hy).1
        simp at this; omega
      subst this
      rw [List.getElem?_append_right (by omega), hl] at hy
      simp at hy; subst hy; exact hx
section
variable {H : Type} {enc : TypeId × Value → H} {w : World} {base : Nat} {spare : Nat → Bool} {held : Bool} {fuel : Nat} {x : DataW H × List MemPlace} {A : Option Addr} {len cap : Nat}
theorem cell_lt {w : World} {a : Addr} {v : Value} (h : w.cell? a = some v) : a.block < w.heap.size ∧ a.spot = none := by
  refine ⟨?_, ?_⟩
  · unfold World.cell? at h
    split at h
    · rename_i h2; exact (Array.getElem?_eq_some_iff.1 h2).1
    · cases h
  · unfold World.cell? at h
    split at h
    · split at h
      · cases h
      · rename_i h3; simpa using h3
    · cases h
theorem add_at (b o j : Nat) : (⟨b, o, none⟩ : Addr).add j = ⟨b, o + j, none⟩ := by unfold Addr.add; split <;> simp_all
/-- Cells that are told one by one, as a list that reads so. -/
theorem rd_of {z n : Nat} {a : Addr} {xs : List Value} (hl : xs.length = n * z) (hz : 0 < z) (h : ∀ j u, xs[j]? = some u → w.cell? (a.add j) = some u) : Rd w z n (some a) xs := by
  refine ⟨hl, ?_⟩
  rcases Nat.eq_zero_or_pos n with h0 | h0
  · exact .inl h0
  · right
    have hp : 0 < xs.length := by rw [hl]; exact Nat.mul_pos h0 hz
    obtain ⟨h1, h2⟩ := cell_lt (h 0 _ (List.getElem?_eq_getElem hp))
    obtain ⟨b, o, spot⟩ := a
    have hs : spot = none := by simpa [Addr.add] using h2
    subst hs
    exact ⟨b, o, rfl, by simpa [Addr.add] using h1, fun j u hu => by rw [← add_at]; exact h j u hu⟩
theorem one_field {f : Field} {T k : Nat} {cs : List Value} {v : Value} {y : Option (DataW H × List MemPlace)} (h : DataW.trod enc Tryd.prog w base spare held fuel f.type ((cs.drop f.offset).take (Tryd.prog.cellsOf f.type)) = y)
    (hT : f.type = T) (hk : f.offset = k) (hc : Tryd.prog.cellsOf T = 1) (hv : (cs.drop k).take 1 = [v]) : DataW.trod enc Tryd.prog w base spare held fuel T [v] = y := by
  subst hT hk
  rwa [hc, hv] at h
theorem open_insns (h : DataW.trod enc Tryd.prog w base spare held fuel 28 [.slice A len cap] = some x) :
    ∃ l : List Ins, l.length = len ∧ (∀ i ∈ l, i.ok) ∧ Rd w 4 len A (l.flatMap Ins.cells) := by
  rcases Go.Deep.open_slice Tryd.underlying28 h with ⟨hcs, _⟩ | ⟨a, len', cap', m, n, D, Pl, hcs, hb, hl, hm, hmm, hx, hi⟩
  · simp only [List.cons.injEq, Value.slice.injEq, and_true] at hcs
    obtain ⟨rfl, rfl, rfl⟩ := hcs
    exact ⟨[], rfl, by simp, Rd.nil _ _ _⟩
  · simp only [List.cons.injEq, Value.slice.injEq, and_true] at hcs
    obtain ⟨rfl, rfl, rfl⟩ := hcs
    have hle : len ≤ m := by rw [hmm]; split <;> omega
    have hC : Tryd.prog.cellsOf 38 = 4 := by kernel_rfl
    have hC16 : Tryd.prog.cellsOf 35 = 1 := by kernel_rfl
    have hC8 : Tryd.prog.cellsOf 5 = 1 := by kernel_rfl
    have hC32 : Tryd.prog.cellsOf 36 = 1 := by kernel_rfl
    rw [hC] at hi
    have each : ∀ i, i < len → ∃ y : Ins, y.ok ∧ ∀ j u, y.cells[j]? = some u → w.cell? (a.add (i * 4 + j)) = some u := by
      intro i hil
      obtain ⟨cs', hc, ht⟩ := hi i (by omega)
      obtain ⟨_, hcl, hat⟩ := World.cells?_some hc
      obtain ⟨xs, n', _, _, _, hxl, hf⟩ := DataW.trod_struct Tryd.underlying38 ht
      obtain ⟨v0, v1, v2, v3, rfl⟩ : ∃ v0 v1 v2 v3, cs' = [v0, v1, v2, v3] := by
        match cs', hcl with
        | [v0, v1, v2, v3], _ => exact ⟨v0, v1, v2, v3, rfl⟩
      obtain ⟨y0, y1, y2, y3, rfl⟩ : ∃ v0 v1 v2 v3, xs = [v0, v1, v2, v3] := by
        match xs, hxl with
        | [v0, v1, v2, v3], _ => exact ⟨v0, v1, v2, v3, rfl⟩
      have f0 : DataW.trod enc Tryd.prog w base spare held n' 35 [v0] = some y0 := one_field (hf 0 _ rfl) rfl rfl hC16 rfl
      have f1 : DataW.trod enc Tryd.prog w base spare held n' 5 [v1] = some y1 := one_field (hf 1 _ rfl) rfl rfl hC8 rfl
      have f2 : DataW.trod enc Tryd.prog w base spare held n' 5 [v2] = some y2 := one_field (hf 2 _ rfl) rfl rfl hC8 rfl
      have f3 : DataW.trod enc Tryd.prog w base spare held n' 36 [v3] = some y3 := one_field (hf 3 _ rfl) rfl rfl hC32 rfl
      obtain ⟨n0, e0, _, g0⟩ := DataW.trod_int Tryd.underlying35 f0
      obtain ⟨n1, e1, _, g1⟩ := DataW.trod_int Tryd.underlying5 f1
      obtain ⟨n2, e2, _, g2⟩ := DataW.trod_int Tryd.underlying5 f2
      obtain ⟨n3, e3, _, g3⟩ := DataW.trod_int Tryd.underlying36 f3
      simp only [List.cons.injEq, and_true] at e0 e1 e2 e3
      subst e0 e1 e2 e3
      have b0 := bounds_u16 g0
      have b1 := bounds_u8 g1
      have b2 := bounds_u8 g2
      have b3 := bounds_u32 g3
      obtain ⟨m0, rfl⟩ := Int.eq_ofNat_of_zero_le b0.1
      obtain ⟨m1, rfl⟩ := Int.eq_ofNat_of_zero_le b1.1
      obtain ⟨m2, rfl⟩ := Int.eq_ofNat_of_zero_le b2.1
      obtain ⟨m3, rfl⟩ := Int.eq_ofNat_of_zero_le b3.1
      refine ⟨⟨m0, m1, m2, m3⟩, ⟨show m0 < 65536 by omega, show m1 < 256 by omega, show m2 < 256 by omega, show m3 < 4294967296 by omega⟩, fun j u hu => ?_⟩
      have hj : j < 4 := by
        have := (List.getElem?_eq_some_iff.1 hu).1
        simpa [Ins.cells] using this
      have h1 := hat j (by simpa using hj)
      rw [Go.Deep.add_add] at h1
      rw [h1]; exact hu
    obtain ⟨l, hl1, hl2⟩ := list_of len each
    refine ⟨l, hl1, fun i hi => ?_, rd_of ?_ (by omega) fun q u hu => ?_⟩
    · obtain ⟨j, hj⟩ := List.getElem?_of_mem hi
      exact (hl2 j i hj).1
    · rw [← hl1]; clear hl1 hl2 each hi
      induction l with
      | nil => rfl
      | cons y l ih => simp only [List.flatMap_cons, List.length_append, List.length_cons, ih, Ins.cells]; simp; omega
    · have hq : q = q / 4 * 4 + q % 4 := by omega
      rw [hq, cells_at l _ _ (by omega)] at hu
      obtain ⟨y, hy, hu⟩ := Option.bind_eq_some_iff.1 hu
      rw [hq]
      exact (hl2 _ y hy).2 _ _ hu
theorem insns_len (h : DataW.trod enc Tryd.prog w base spare held fuel 28 [.slice A len cap] = some x) : len ≤ maxLen := by
  rcases Go.Deep.open_slice Tryd.underlying28 h with ⟨hcs, _⟩ | ⟨a, len', cap', m, n, D, Pl, hcs, hb, hl, hm, hmm, hx, hi⟩
  · simp only [List.cons.injEq, Value.slice.injEq, and_true] at hcs
    obtain ⟨rfl, rfl, rfl⟩ := hcs
    unfold maxLen; omega
  · simp only [List.cons.injEq, Value.slice.injEq, and_true] at hcs
    obtain ⟨rfl, rfl, rfl⟩ := hcs
    exact Nat.le_trans hl hm
theorem wide_field {f : Field} {T k z : Nat} {cs vs : List Value} {y : Option (DataW H × List MemPlace)} (h : DataW.trod enc Tryd.prog w base spare held fuel f.type ((cs.drop f.offset).take (Tryd.prog.cellsOf f.type)) = y)
    (hT : f.type = T) (hk : f.offset = k) (hc : Tryd.prog.cellsOf T = z) (hv : (cs.drop k).take z = vs) : DataW.trod enc Tryd.prog w base spare held fuel T vs = y := by
  subst hT hk
  rwa [hc, hv] at h
theorem open_smalls (h : DataW.trod enc Tryd.prog w base spare held fuel 29 [.slice A len cap] = some x) :
    ∃ l : List Sml, l.length = len ∧ (∀ i ∈ l, i.ok) ∧ Rd w 9 len A (l.flatMap Sml.cells) ∧ len ≤ maxLen := by
  rcases Go.Deep.open_slice Tryd.underlying29 h with ⟨hcs, _⟩ | ⟨a, len', cap', m, n, D, Pl, hcs, hb, hl, hm, hmm, hx, hi⟩
  · simp only [List.cons.injEq, Value.slice.injEq, and_true] at hcs
    obtain ⟨rfl, rfl, rfl⟩ := hcs
    exact ⟨[], rfl, by simp, Rd.nil _ _ _, by unfold maxLen; omega⟩
  · simp only [List.cons.injEq, Value.slice.injEq, and_true] at hcs
    obtain ⟨rfl, rfl, rfl⟩ := hcs
    have hle : len ≤ m := by rw [hmm]; split <;> omega
    have hC : Tryd.prog.cellsOf 57 = 9 := by kernel_rfl
    have hCI : Tryd.prog.cellsOf 38 = 4 := by kernel_rfl
    have hC16 : Tryd.prog.cellsOf 35 = 1 := by kernel_rfl
    have hC8 : Tryd.prog.cellsOf 5 = 1 := by kernel_rfl
    have hC32 : Tryd.prog.cellsOf 36 = 1 := by kernel_rfl
    have hCb : Tryd.prog.cellsOf 4 = 1 := by kernel_rfl
    rw [hC] at hi
    have each : ∀ i, i < len → ∃ y : Sml, y.ok ∧ ∀ j u, y.cells[j]? = some u → w.cell? (a.add (i * 9 + j)) = some u := by
      intro i hil
      obtain ⟨cs', hc, ht⟩ := hi i (by omega)
      obtain ⟨_, hcl, hat⟩ := World.cells?_some hc
      obtain ⟨xs, n', _, _, _, hxl, hf⟩ := DataW.trod_struct Tryd.underlying57 ht
      obtain ⟨v0, v1, v2, v3, v4, v5, v6, v7, v8, rfl⟩ : ∃ v0 v1 v2 v3 v4 v5 v6 v7 v8, cs' = [v0, v1, v2, v3, v4, v5, v6, v7, v8] := by
        match cs', hcl with
        | [v0, v1, v2, v3, v4, v5, v6, v7, v8], _ => exact ⟨v0, v1, v2, v3, v4, v5, v6, v7, v8, rfl⟩
      obtain ⟨y0, y1, y2, y3, y4, y5, rfl⟩ : ∃ v0 v1 v2 v3 v4 v5, xs = [v0, v1, v2, v3, v4, v5] := by
        match xs, hxl with
        | [v0, v1, v2, v3, v4, v5], _ => exact ⟨v0, v1, v2, v3, v4, v5, rfl⟩
      have f0 : DataW.trod enc Tryd.prog w base spare held n' 5 [v0] = some y0 := one_field (hf 0 _ rfl) rfl rfl hC8 rfl
      have f1 : DataW.trod enc Tryd.prog w base spare held n' 5 [v1] = some y1 := one_field (hf 1 _ rfl) rfl rfl hC8 rfl
      have f2 : DataW.trod enc Tryd.prog w base spare held n' 5 [v2] = some y2 := one_field (hf 2 _ rfl) rfl rfl hC8 rfl
      have f3 : DataW.trod enc Tryd.prog w base spare held n' 5 [v3] = some y3 := one_field (hf 3 _ rfl) rfl rfl hC8 rfl
      have f4 : DataW.trod enc Tryd.prog w base spare held n' 38 [v4, v5, v6, v7] = some y4 := wide_field (hf 4 _ rfl) rfl rfl hCI rfl
      have f5 : DataW.trod enc Tryd.prog w base spare held n' 4 [v8] = some y5 := one_field (hf 5 _ rfl) rfl rfl hCb rfl
      obtain ⟨xs', n'', _, _, _, hxl', hf'⟩ := DataW.trod_struct Tryd.underlying38 f4
      obtain ⟨z0, z1, z2, z3, rfl⟩ : ∃ v0 v1 v2 v3, xs' = [v0, v1, v2, v3] := by
        match xs', hxl' with
        | [v0, v1, v2, v3], _ => exact ⟨v0, v1, v2, v3, rfl⟩
      have k0 : DataW.trod enc Tryd.prog w base spare held n'' 35 [v4] = some z0 := one_field (hf' 0 _ rfl) rfl rfl hC16 rfl
      have k1 : DataW.trod enc Tryd.prog w base spare held n'' 5 [v5] = some z1 := one_field (hf' 1 _ rfl) rfl rfl hC8 rfl
      have k2 : DataW.trod enc Tryd.prog w base spare held n'' 5 [v6] = some z2 := one_field (hf' 2 _ rfl) rfl rfl hC8 rfl
      have k3 : DataW.trod enc Tryd.prog w base spare held n'' 36 [v7] = some z3 := one_field (hf' 3 _ rfl) rfl rfl hC32 rfl
      obtain ⟨n0, e0, _, g0⟩ := DataW.trod_int Tryd.underlying5 f0
      obtain ⟨n1, e1, _, g1⟩ := DataW.trod_int Tryd.underlying5 f1
      obtain ⟨n2, e2, _, g2⟩ := DataW.trod_int Tryd.underlying5 f2
      obtain ⟨n3, e3, _, g3⟩ := DataW.trod_int Tryd.underlying5 f3
      obtain ⟨n4, e4, _, g4⟩ := DataW.trod_int Tryd.underlying35 k0
      obtain ⟨n5, e5, _, g5⟩ := DataW.trod_int Tryd.underlying5 k1
      obtain ⟨n6, e6, _, g6⟩ := DataW.trod_int Tryd.underlying5 k2
      obtain ⟨n7, e7, _, g7⟩ := DataW.trod_int Tryd.underlying36 k3
      obtain ⟨n8, e8, _⟩ := DataW.trod_bool Tryd.underlying4 f5
      simp only [List.cons.injEq, and_true] at e0 e1 e2 e3 e4 e5 e6 e7 e8
      subst e0 e1 e2 e3 e4 e5 e6 e7 e8
      have b0 := bounds_u8 g0
      have b1 := bounds_u8 g1
      have b2 := bounds_u8 g2
      have b3 := bounds_u8 g3
      have b4 := bounds_u16 g4
      have b5 := bounds_u8 g5
      have b6 := bounds_u8 g6
      have b7 := bounds_u32 g7
      obtain ⟨m0, rfl⟩ := Int.eq_ofNat_of_zero_le b0.1
      obtain ⟨m1, rfl⟩ := Int.eq_ofNat_of_zero_le b1.1
      obtain ⟨m2, rfl⟩ := Int.eq_ofNat_of_zero_le b2.1
      obtain ⟨m3, rfl⟩ := Int.eq_ofNat_of_zero_le b3.1
      obtain ⟨m4, rfl⟩ := Int.eq_ofNat_of_zero_le b4.1
      obtain ⟨m5, rfl⟩ := Int.eq_ofNat_of_zero_le b5.1
      obtain ⟨m6, rfl⟩ := Int.eq_ofNat_of_zero_le b6.1
      obtain ⟨m7, rfl⟩ := Int.eq_ofNat_of_zero_le b7.1
      refine ⟨⟨m0, m1, m2, m3, ⟨m4, m5, m6, m7⟩, n8⟩, ⟨show m0 < 256 by omega, show m1 < 256 by omega, show m2 < 256 by omega, show m3 < 256 by omega, show m4 < 65536 by omega, show m5 < 256 by omega, show m6 < 256 by omega, show m7 < 4294967296 by omega⟩, fun j u hu => ?_⟩
      have hj : j < 9 := by
        have := (List.getElem?_eq_some_iff.1 hu).1
        simpa [Sml.cells] using this
      have h1 := hat j (by simpa using hj)
      rw [Go.Deep.add_add] at h1
      rw [h1]; exact hu
    obtain ⟨l, hl1, hl2⟩ := list_of len each
    refine ⟨l, hl1, fun i hi => ?_, rd_of ?_ (by omega) fun q u hu => ?_, Nat.le_trans hl hm⟩
    · obtain ⟨j, hj⟩ := List.getElem?_of_mem hi
      exact (hl2 j i hj).1
    · rw [sml_len, hl1]
    · have hq : q = q / 9 * 9 + q % 9 := by omega
      rw [hq, sml_at l _ _ (by omega)] at hu
      obtain ⟨y, hy, hu⟩ := Option.bind_eq_some_iff.1 hu
      rw [hq]
      exact (hl2 _ y hy).2 _ _ hu
theorem open_insns' (h : DataW.trod enc Tryd.prog w base spare held fuel 28 [.slice A len cap] = some x) :
    ∃ l : List Ins, l.length = len ∧ (∀ i ∈ l, i.ok) ∧ Rd w 4 len A (l.flatMap Ins.cells) ∧ len ≤ maxLen := by
  obtain ⟨l, h1, h2, h3⟩ := open_insns h
  exact ⟨l, h1, h2, h3, insns_len h⟩
end
end Go.Proofs.YthiohihbcfahhaaDoor

