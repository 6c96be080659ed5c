/- What the laws of stage 13 are handed: an instruction by value, small parts. -/
import Derived.Test.YtcageojoafkojaaJuZ
import Derived.Deep.Slices
import Derived.ChangeArms
import Derived.ChangeSlices
import Derived.DataReads
import Derived.ProofKit
import Derived.ChangeOld
import Derived.SliceStrings
import Derived.OpenShut
namespace Go.Proofs.Ytcageojoafkojaa.Ju
set_option maxRecDepth 100000
open Go.ChangeShapes Go.WideShapes Go.ChangeAt Go.RowKit Go.Deep
theorem list_of {α : Type} {Q : Nat → α → Prop} : ∀ (n : Nat), (∀ i, i < n → ∃ x, Q i x) → ∃ l : List α, l.length = n ∧ ∀ i x, l[i]? = some x → Q i x
  | 0, _ => ⟨[], rfl, fun i x h => by simp at h⟩
  | n + 1, h => by
    obtain ⟨l, hl, hq⟩ := list_of n (fun i hi => h i (by omega))
    obtain ⟨x, hx⟩ := h n (by omega)
    refine ⟨l ++ [x], by simp [hl], fun i y hy => ?_⟩
    by_cases hi : i < n
    · rw [List.getElem?_append_left (by omega)] at hy; exact hq i y hy
    · have : i = n := by
        have := (List.getElem?_eq_some_iff.1 hy).1
        simp at this; omega
      subst this
      rw [List.getElem?_append_right (by omega), hl] at hy
      simp at hy; subst hy; exact hx
section
variable {H : Type} {enc : TypeId × Value → H} {w : World} {base : Nat} {spare : Nat → Bool} {held : Bool} {fuel : Nat} {x : DataW H × List MemPlace} {A : Option Addr} {len cap : Nat}
theorem cell_lt {w : World} {a : Addr} {v : Value} (h : w.cell? a = some v) : a.block < w.heap.size ∧ a.spot = none := by
  refine ⟨?_, ?_⟩
  · unfold World.cell? at h
    split at h
    · rename_i h2; exact (Array.getElem?_eq_some_iff.1 h2).1
    · cases h
  · unfold World.cell? at h
    split at h
    · split at h
      · cases h
      · rename_i h3; simpa using h3
    · cases h
theorem add_at (b o j : Nat) : (⟨b, o, none⟩ : Addr).add j = ⟨b, o + j, none⟩ := by unfold Addr.add; split <;> simp_all
/-- Cells that are told one by one, as a list that reads so. -/
theorem rd_of {z n : Nat} {a : Addr} {xs : List Value} (hl : xs.length = n * z) (hz : 0 < z) (h : ∀ j u, xs[j]? = some u → w.cell? (a.add j) = some u) : Rd w z n (some a) xs := by
  refine ⟨hl, ?_⟩
  rcases Nat.eq_zero_or_pos n with h0 | h0
  · exact .inl h0
  · right
    have hp : 0 < xs.length := by rw [hl]; exact Nat.mul_pos h0 hz
    obtain ⟨h1, h2⟩ := cell_lt (h 0 _ (List.getElem?_eq_getElem hp))
    obtain ⟨b, o, spot⟩ := a
    have hs : spot = none := by simpa [Addr.add] using h2
    subst hs
    exact ⟨b, o, rfl, by simpa [Addr.add] using h1, fun j u hu => by rw [← add_at]; exact h j u hu⟩
theorem one_field {f : Field} {T k : Nat} {cs : List Value} {v : Value} {y : Option (DataW H × List MemPlace)} (h : DataW.trod enc Try.prog w base spare held fuel f.type ((cs.drop f.offset).take (Try.prog.cellsOf f.type)) = y)
    (hT : f.type = T) (hk : f.offset = k) (hc : Try.prog.cellsOf T = 1) (hv : (cs.drop k).take 1 = [v]) : DataW.trod enc Try.prog w base spare held fuel T [v] = y := by
  subst hT hk
  rwa [hc, hv] at h
end
section
variable {H : Type} {enc : TypeId × Value → H} {w : World} {base : Nat} {spare : Nat → Bool} {held : Bool} {r : Reach} {b0 : Nat} {v : Value} {d : DataW H} {p : List MemPlace}
theorem u32_of {fuel : Nat} {v : Value} (h : ∃ y, DataW.trod enc Try.prog w base spare held fuel 22 [v] = some y) : ∃ n : Nat, v = .int .u32 n ∧ n < 4294967296 := by
  obtain ⟨y, h⟩ := h
  obtain ⟨n, e, _, g⟩ := DataW.trod_int Try.underlying22 h
  have b := bounds_u32 g
  obtain ⟨m, rfl⟩ := Int.eq_ofNat_of_zero_le b.1
  simp only [List.cons.injEq, and_true] at e
  exact ⟨m, e, by omega⟩
theorem u16_of {fuel : Nat} {v : Value} (h : ∃ y, DataW.trod enc Try.prog w base spare held fuel 25 [v] = some y) : ∃ n : Nat, v = .int .u16 n ∧ n < 65536 := by
  obtain ⟨y, h⟩ := h
  obtain ⟨n, e, _, g⟩ := DataW.trod_int Try.underlying25 h
  have b := bounds_u16 g
  obtain ⟨m, rfl⟩ := Int.eq_ofNat_of_zero_le b.1
  simp only [List.cons.injEq, and_true] at e
  exact ⟨m, e, by omega⟩
theorem u8_of {fuel : Nat} {v : Value} (h : ∃ y, DataW.trod enc Try.prog w base spare held fuel 5 [v] = some y) : ∃ n : Nat, v = .int .u8 n ∧ n < 256 := by
  obtain ⟨y, h⟩ := h
  obtain ⟨n, e, _, g⟩ := DataW.trod_int Try.underlying5 h
  have b := bounds_u8 g
  obtain ⟨m, rfl⟩ := Int.eq_ofNat_of_zero_le b.1
  simp only [List.cons.injEq, and_true] at e
  exact ⟨m, e, by omega⟩
theorem open_ins (hv : Value.okWide Try.prog w r b0 122 v) (h : DataW.Trod enc Try.prog w base spare held 122 v d p) : ∃ x : Ins, x.ok ∧ v = .agg x.cells.toArray := by
  obtain ⟨cs, rfl, hsz⟩ := okWide_struct Try.underlying122 hv
  have hC : Try.prog.cellsOf 122 = 4 := by kernel_rfl
  have h8 : Try.prog.cellsOf 5 = 1 := by kernel_rfl
  have h16 : Try.prog.cellsOf 25 = 1 := by kernel_rfl
  have h32 : Try.prog.cellsOf 22 = 1 := by kernel_rfl
  obtain ⟨l⟩ := cs
  match l, hsz.trans hC with
  | [c0, c1, c2, c3], _ =>
    obtain ⟨fuel, hf⟩ := h
    obtain ⟨xs, n, _, _, _, hlen, hg⟩ := DataW.trod_struct Try.underlying122 hf
    match xs, hlen with
    | [y0, y1, y2, y3], _ =>
      obtain ⟨n0, rfl, g0⟩ := u16_of ⟨_, one_field (hg 0 _ rfl) rfl rfl h16 rfl⟩
      obtain ⟨n1, rfl, g1⟩ := u8_of ⟨_, one_field (hg 1 _ rfl) rfl rfl h8 rfl⟩
      obtain ⟨n2, rfl, g2⟩ := u8_of ⟨_, one_field (hg 2 _ rfl) rfl rfl h8 rfl⟩
      obtain ⟨n3, rfl, g3⟩ := u32_of ⟨_, one_field (hg 3 _ rfl) rfl rfl h32 rfl⟩
      exact ⟨⟨n0, n1, n2, n3⟩, ⟨g0, g1, g2, g3⟩, rfl⟩
end
/-- A part in small numbers. -/
structure SmP where
  kd : Nat
  tt : Nat
  el : Nat
  how : Nat
  k : Nat
  pad : Nat
def SmP.cells (p : SmP) : List Value := [.int .u8 p.kd, .int .u8 p.tt, .int .u8 p.el, .int .u8 p.how, .int .u8 p.k, .int .u16 p.pad]
def SmP.ok (p : SmP) : Prop := p.kd < 256 ∧ p.tt < 256 ∧ p.el < 256 ∧ p.how < 256 ∧ p.k < 256 ∧ p.pad < 65536
/-- Small parts handed in. -/
def SmsIn (w : World) (A : Option Addr) (n c : Nat) : Prop := ∃ l : List SmP, l.length = n ∧ (∀ p ∈ l, p.ok) ∧ Rd w 6 n A (l.flatMap SmP.cells) ∧ n ≤ maxLen ∧ n ≤ c
section
variable {H : Type} {enc : TypeId × Value → H} {w : World} {base : Nat} {spare : Nat → Bool} {held : Bool} {fuel : Nat} {x : DataW H × List MemPlace} {A : Option Addr} {len cap : Nat}
theorem open_smps (h : DataW.trod enc Try.prog w base spare held fuel 63 [.slice A len cap] = some x) : SmsIn w A len cap := by
  rcases Go.Deep.open_slice Try.underlying63 h with ⟨hcs, _⟩ | ⟨a, len', cap', m, n, D, Pl, hcs, hb, hl, hm, hmm, hx, hi⟩
  · simp only [List.cons.injEq, Value.slice.injEq, and_true] at hcs
    obtain ⟨rfl, rfl, rfl⟩ := hcs
    exact ⟨[], rfl, by simp, Rd.nil _ _ _, by unfold maxLen; omega, Nat.le_refl _⟩
  · simp only [List.cons.injEq, Value.slice.injEq, and_true] at hcs
    obtain ⟨rfl, rfl, rfl⟩ := hcs
    have hle : len ≤ m := by rw [hmm]; split <;> omega
    have hC : Try.prog.cellsOf 128 = 6 := by kernel_rfl
    have hC16 : Try.prog.cellsOf 25 = 1 := by kernel_rfl
    have hC8 : Try.prog.cellsOf 5 = 1 := by kernel_rfl
    rw [hC] at hi
    have each : ∀ i, i < len → ∃ y : SmP, y.ok ∧ ∀ j u, y.cells[j]? = some u → w.cell? (a.add (i * 6 + j)) = some u := by
      intro i hil
      obtain ⟨cs', hc, ht⟩ := hi i (by omega)
      obtain ⟨_, hcl, hat⟩ := World.cells?_some hc
      obtain ⟨xs, n', _, _, _, hxl, hf⟩ := DataW.trod_struct Try.underlying128 ht
      obtain ⟨v0, v1, v2, v3, v4, v5, rfl⟩ : ∃ v0 v1 v2 v3 v4 v5, cs' = [v0, v1, v2, v3, v4, v5] := by
        match cs', hcl with
        | [v0, v1, v2, v3, v4, v5], _ => exact ⟨v0, v1, v2, v3, v4, v5, rfl⟩
      obtain ⟨y0, y1, y2, y3, y4, y5, rfl⟩ : ∃ v0 v1 v2 v3 v4 v5, xs = [v0, v1, v2, v3, v4, v5] := by
        match xs, hxl with
        | [v0, v1, v2, v3, v4, v5], _ => exact ⟨v0, v1, v2, v3, v4, v5, rfl⟩
      obtain ⟨n0, rfl, g0⟩ := u8_of ⟨_, one_field (hf 0 _ rfl) rfl rfl hC8 rfl⟩
      obtain ⟨n1, rfl, g1⟩ := u8_of ⟨_, one_field (hf 1 _ rfl) rfl rfl hC8 rfl⟩
      obtain ⟨n2, rfl, g2⟩ := u8_of ⟨_, one_field (hf 2 _ rfl) rfl rfl hC8 rfl⟩
      obtain ⟨n3, rfl, g3⟩ := u8_of ⟨_, one_field (hf 3 _ rfl) rfl rfl hC8 rfl⟩
      obtain ⟨n4, rfl, g4⟩ := u8_of ⟨_, one_field (hf 4 _ rfl) rfl rfl hC8 rfl⟩
      obtain ⟨n5, rfl, g5⟩ := u16_of ⟨_, one_field (hf 5 _ rfl) rfl rfl hC16 rfl⟩
      refine ⟨⟨n0, n1, n2, n3, n4, n5⟩, ⟨g0, g1, g2, g3, g4, g5⟩, fun j u hu => ?_⟩
      have hj : j < 6 := by
        have := (List.getElem?_eq_some_iff.1 hu).1
        simpa [SmP.cells] using this
      have h1 := hat j (by simpa using hj)
      rw [Go.Deep.add_add] at h1
      rw [h1]; exact hu
    obtain ⟨l, hl1, hl2⟩ := list_of len each
    refine ⟨l, hl1, fun i hi => ?_, rd_of ?_ (by omega) fun q u hu => ?_, by omega, hl⟩
    · obtain ⟨j, hj⟩ := List.getElem?_of_mem hi
      exact (hl2 j i hj).1
    · rw [flatz_len SmP.cells 6 (fun _ => rfl), hl1]
    · have hq : q = q / 6 * 6 + q % 6 := by omega
      rw [hq, flatz SmP.cells 6 (fun _ => rfl) (by omega) l _ _ (by omega)] at hu
      obtain ⟨y, hy, hu⟩ := Option.bind_eq_some_iff.1 hu
      rw [hq]
      exact (hl2 _ y hy).2 _ _ hu
end
end Go.Proofs.Ytcageojoafkojaa.Ju

