/- What the laws are handed: instructions, small instructions; whatever they are, long or short. -/
import Derived.Test.YtcageojoafkojaaJa
import Derived.Deep.Slices
import Derived.ChangeArms
import Derived.ChangeSlices
import Derived.DataReads
import Derived.ProofKit
import Derived.ChangeOld
import Derived.SliceStrings
import Derived.OpenShut
import Derived.Test.YtcageojoafkojaaGc
namespace Go.Proofs.Ytcageojoafkojaa
set_option maxRecDepth 100000
open Go.ChangeShapes Go.WideShapes Go.ChangeAt Go.RowKit Go.Deep
theorem list_ofR {α : Type} {Q : Nat → α → Prop} : ∀ (n : Nat), (∀ i, i < n → ∃ x, Q i x) → ∃ l : List α, l.length = n ∧ ∀ i x, l[i]? = some x → Q i x
  | 0, _ => ⟨[], rfl, fun i x h => by simp at h⟩
  | n + 1, h => by
    obtain ⟨l, hl, hq⟩ := list_ofR n (fun i hi => h i (by omega))
    obtain ⟨x, hx⟩ := h n (by omega)
    refine ⟨l ++ [x], by simp [hl], fun i y hy => ?_⟩
    by_cases hi : i < n
    · rw [List.getElem?_append_left (by omega)] at hy; exact hq i y hy
    · have : i = n := by
        have := (List.getElem?_eq_some_iff.1 hy).1
        simp at this; omega
      subst this
      rw [List.getElem?_append_right (by omega), hl] at hy
      simp at hy; subst hy; exact hx
section
variable {H : Type} {enc : TypeId × Value → H} {w : World} {base : Nat} {spare : Nat → Bool} {held : Bool} {fuel : Nat} {x : DataW H × List MemPlace} {A : Option Addr} {len cap : Nat}
theorem cell_ltR {w : World} {a : Addr} {v : Value} (h : w.cell? a = some v) : a.block < w.heap.size ∧ a.spot = none := by
  refine ⟨?_, ?_⟩
  · unfold World.cell? at h
    split at h
    · rename_i h2; exact (Array.getElem?_eq_some_iff.1 h2).1
    · cases h
  · unfold World.cell? at h
    split at h
    · split at h
      · cases h
      · rename_i h3; simpa using h3
    · cases h
theorem add_at (b o j : Nat) : (⟨b, o, none⟩ : Addr).add j = ⟨b, o + j, none⟩ := by unfold Addr.add; split <;> simp_all
/-- Cells that are told one by one, as a list that reads so. -/
theorem rd_ofR {z n : Nat} {a : Addr} {xs : List Value} (hl : xs.length = n * z) (hz : 0 < z) (h : ∀ j u, xs[j]? = some u → w.cell? (a.add j) = some u) : Rd w z n (some a) xs := by
  refine ⟨hl, ?_⟩
  rcases Nat.eq_zero_or_pos n with h0 | h0
  · exact .inl h0
  · right
    have hp : 0 < xs.length := by rw [hl]; exact Nat.mul_pos h0 hz
    obtain ⟨h1, h2⟩ := cell_ltR (h 0 _ (List.getElem?_eq_getElem hp))
    obtain ⟨b, o, spot⟩ := a
    have hs : spot = none := by simpa [Addr.add] using h2
    subst hs
    exact ⟨b, o, rfl, by simpa [Addr.add] using h1, fun j u hu => by rw [← add_at]; exact h j u hu⟩
theorem one_fieldR {f : Field} {T k : Nat} {cs : List Value} {v : Value} {y : Option (DataW H × List MemPlace)} (h : DataW.trod enc Try.prog w base spare held fuel f.type ((cs.drop f.offset).take (Try.prog.cellsOf f.type)) = y)
    (hT : f.type = T) (hk : f.offset = k) (hc : Try.prog.cellsOf T = 1) (hv : (cs.drop k).take 1 = [v]) : DataW.trod enc Try.prog w base spare held fuel T [v] = y := by
  subst hT hk
  rwa [hc, hv] at h
theorem open_insns (h : DataW.trod enc Try.prog w base spare held fuel 70 [.slice A len cap] = some x) :
    ∃ l : List Ins, l.length = len ∧ (∀ i ∈ l, i.ok) ∧ Rd w 4 len A (l.flatMap Ins.cells) := by
  rcases Go.Deep.open_slice Try.underlying70 h with ⟨hcs, _⟩ | ⟨a, len', cap', m, n, D, Pl, hcs, hb, hl, hm, hmm, hx, hi⟩
  · simp only [List.cons.injEq, Value.slice.injEq, and_true] at hcs
    obtain ⟨rfl, rfl, rfl⟩ := hcs
    exact ⟨[], rfl, by simp, Rd.nil _ _ _⟩
  · simp only [List.cons.injEq, Value.slice.injEq, and_true] at hcs
    obtain ⟨rfl, rfl, rfl⟩ := hcs
    have hle : len ≤ m := by rw [hmm]; split <;> omega
    have hC : Try.prog.cellsOf 122 = 4 := by kernel_rfl
    have hC16 : Try.prog.cellsOf 25 = 1 := by kernel_rfl
    have hC8 : Try.prog.cellsOf 5 = 1 := by kernel_rfl
    have hC32 : Try.prog.cellsOf 22 = 1 := by kernel_rfl
    rw [hC] at hi
    have each : ∀ i, i < len → ∃ y : Ins, y.ok ∧ ∀ j u, y.cells[j]? = some u → w.cell? (a.add (i * 4 + j)) = some u := by
      intro i hil
      obtain ⟨cs', hc, ht⟩ := hi i (by omega)
      obtain ⟨_, hcl, hat⟩ := World.cells?_some hc
      obtain ⟨xs, n', _, _, _, hxl, hf⟩ := DataW.trod_struct Try.underlying122 ht
      obtain ⟨v0, v1, v2, v3, rfl⟩ : ∃ v0 v1 v2 v3, cs' = [v0, v1, v2, v3] := by
        match cs', hcl with
        | [v0, v1, v2, v3], _ => exact ⟨v0, v1, v2, v3, rfl⟩
      obtain ⟨y0, y1, y2, y3, rfl⟩ : ∃ v0 v1 v2 v3, xs = [v0, v1, v2, v3] := by
        match xs, hxl with
        | [v0, v1, v2, v3], _ => exact ⟨v0, v1, v2, v3, rfl⟩
      have f0 : DataW.trod enc Try.prog w base spare held n' 25 [v0] = some y0 := one_fieldR (hf 0 _ rfl) rfl rfl hC16 rfl
      have f1 : DataW.trod enc Try.prog w base spare held n' 5 [v1] = some y1 := one_fieldR (hf 1 _ rfl) rfl rfl hC8 rfl
      have f2 : DataW.trod enc Try.prog w base spare held n' 5 [v2] = some y2 := one_fieldR (hf 2 _ rfl) rfl rfl hC8 rfl
      have f3 : DataW.trod enc Try.prog w base spare held n' 22 [v3] = some y3 := one_fieldR (hf 3 _ rfl) rfl rfl hC32 rfl
      obtain ⟨n0, e0, _, g0⟩ := DataW.trod_int Try.underlying25 f0
      obtain ⟨n1, e1, _, g1⟩ := DataW.trod_int Try.underlying5 f1
      obtain ⟨n2, e2, _, g2⟩ := DataW.trod_int Try.underlying5 f2
      obtain ⟨n3, e3, _, g3⟩ := DataW.trod_int Try.underlying22 f3
      simp only [List.cons.injEq, and_true] at e0 e1 e2 e3
      subst e0 e1 e2 e3
      have b0 := bounds_u16 g0
      have b1 := bounds_u8 g1
      have b2 := bounds_u8 g2
      have b3 := bounds_u32 g3
      obtain ⟨m0, rfl⟩ := Int.eq_ofNat_of_zero_le b0.1
      obtain ⟨m1, rfl⟩ := Int.eq_ofNat_of_zero_le b1.1
      obtain ⟨m2, rfl⟩ := Int.eq_ofNat_of_zero_le b2.1
      obtain ⟨m3, rfl⟩ := Int.eq_ofNat_of_zero_le b3.1
      refine ⟨⟨m0, m1, m2, m3⟩, ⟨show m0 < 65536 by omega, show m1 < 256 by omega, show m2 < 256 by omega, show m3 < 4294967296 by omega⟩, fun j u hu => ?_⟩
      have hj : j < 4 := by
        have := (List.getElem?_eq_some_iff.1 hu).1
        simpa [Ins.cells] using this
      have h1 := hat j (by simpa using hj)
      rw [Go.Deep.add_add] at h1
      rw [h1]; exact hu
    obtain ⟨l, hl1, hl2⟩ := list_ofR len each
    refine ⟨l, hl1, fun i hi => ?_, rd_ofR ?_ (by omega) fun q u hu => ?_⟩
    · obtain ⟨j, hj⟩ := List.getElem?_of_mem hi
      exact (hl2 j i hj).1
    · rw [← hl1]; clear hl1 hl2 each hi
      induction l with
      | nil => rfl
      | cons y l ih => simp only [List.flatMap_cons, List.length_append, List.length_cons, ih, Ins.cells]; simp; omega
    · have hq : q = q / 4 * 4 + q % 4 := by omega
      rw [hq, cells_at l _ _ (by omega)] at hu
      obtain ⟨y, hy, hu⟩ := Option.bind_eq_some_iff.1 hu
      rw [hq]
      exact (hl2 _ y hy).2 _ _ hu
theorem insns_len (h : DataW.trod enc Try.prog w base spare held fuel 70 [.slice A len cap] = some x) : len ≤ maxLen := by
  rcases Go.Deep.open_slice Try.underlying70 h with ⟨hcs, _⟩ | ⟨a, len', cap', m, n, D, Pl, hcs, hb, hl, hm, hmm, hx, hi⟩
  · simp only [List.cons.injEq, Value.slice.injEq, and_true] at hcs
    obtain ⟨rfl, rfl, rfl⟩ := hcs
    unfold maxLen; omega
  · simp only [List.cons.injEq, Value.slice.injEq, and_true] at hcs
    obtain ⟨rfl, rfl, rfl⟩ := hcs
    exact Nat.le_trans hl hm
theorem wide_field {f : Field} {T k z : Nat} {cs vs : List Value} {y : Option (DataW H × List MemPlace)} (h : DataW.trod enc Try.prog w base spare held fuel f.type ((cs.drop f.offset).take (Try.prog.cellsOf f.type)) = y)
    (hT : f.type = T) (hk : f.offset = k) (hc : Try.prog.cellsOf T = z) (hv : (cs.drop k).take z = vs) : DataW.trod enc Try.prog w base spare held fuel T vs = y := by
  subst hT hk
  rwa [hc, hv] at h
theorem open_insns' (h : DataW.trod enc Try.prog w base spare held fuel 70 [.slice A len cap] = some x) :
    ∃ l : List Ins, l.length = len ∧ (∀ i ∈ l, i.ok) ∧ Rd w 4 len A (l.flatMap Ins.cells) ∧ len ≤ maxLen := by
  obtain ⟨l, h1, h2, h3⟩ := open_insns h
  exact ⟨l, h1, h2, h3, insns_len h⟩
end
end Go.Proofs.Ytcageojoafkojaa
namespace Go.Proofs.Ytcageojoafkojaa
set_option maxRecDepth 100000
open Go.ChangeShapes Go.WideShapes Go.ChangeAt Go.RowKit Go.Deep
theorem rec_at : ∀ (l : List (List Nat)) (k j : Nat), j < 9 → (l.flatMap Rec.recL)[k * 9 + j]? = (l[k]?).bind (fun x => (Rec.recL x)[j]?)
  | [], k, j, _ => by simp
  | x :: l, k, j, hj => by
    rw [List.flatMap_cons]
    cases k with
    | zero => rw [List.getElem?_append_left (by simp [Rec.recL]; omega)]; simp
    | succ k =>
      rw [List.getElem?_append_right (by simp [Rec.recL]; omega), show (Rec.recL x).length = 9 from rfl, show (k + 1) * 9 + j - 9 = k * 9 + j from by omega, rec_at l k j hj]
      simp
section
variable {H : Type} {enc : TypeId × Value → H} {w : World} {base : Nat} {spare : Nat → Bool} {held : Bool} {fuel : Nat} {x : DataW H × List MemPlace} {A : Option Addr} {len cap : Nat}
theorem rec_cells {cs : List Value} (hl : cs.length = 9) (hf : DataW.trod enc Try.prog w base spare held fuel 81 cs = some x) : ∃ bs, Rec.IsRec bs ∧ cs = Rec.recL bs := by
  have h8 : Try.prog.cellsOf 22 = 1 := by kernel_rfl
  have h64 : Try.prog.cellsOf 56 = 1 := by kernel_rfl
  have h6 : Try.prog.cellsOf 79 = 6 := by kernel_rfl
  match cs, hl with
  | [c0, c1, c2, c3, c4, c5, c6, c7, c8], _ =>
    obtain ⟨xs, n, _, _, _, hlen, hg⟩ := DataW.trod_struct Try.underlying81 hf
    match xs, hlen with
    | [y0, y1, y2, y3], _ =>
      obtain ⟨n0, rfl, g0⟩ := Rec.u32_of ⟨_, Rec.one_field (hg 0 _ rfl) rfl rfl h8 rfl⟩
      obtain ⟨n1, rfl, g1⟩ := Rec.u32_of ⟨_, Rec.one_field (hg 1 _ rfl) rfl rfl h8 rfl⟩
      obtain ⟨n2, rfl, g2⟩ := Rec.u64_of ⟨_, Rec.one_field (hg 2 _ rfl) rfl rfl h64 rfl⟩
      have h3 : DataW.trod enc Try.prog w base spare held n 79 [c3, c4, c5, c6, c7, c8] = some y3 := by
        have := hg 3 _ rfl
        exact this
      obtain ⟨zs, m, _, _, _, hzl, hz⟩ := DataW.trod_array Try.underlying79 h3
      rw [h64] at hz
      obtain ⟨n3, rfl, g3⟩ := Rec.u64_of (Rec.some_field (i := 0) (by omega) (hz 0 (by omega)))
      obtain ⟨n4, rfl, g4⟩ := Rec.u64_of (Rec.some_field (i := 1) (by omega) (hz 1 (by omega)))
      obtain ⟨n5, rfl, g5⟩ := Rec.u64_of (Rec.some_field (i := 2) (by omega) (hz 2 (by omega)))
      obtain ⟨n6, rfl, g6⟩ := Rec.u64_of (Rec.some_field (i := 3) (by omega) (hz 3 (by omega)))
      obtain ⟨n7, rfl, g7⟩ := Rec.u64_of (Rec.some_field (i := 4) (by omega) (hz 4 (by omega)))
      obtain ⟨n8, rfl, g8⟩ := Rec.u64_of (Rec.some_field (i := 5) (by omega) (hz 5 (by omega)))
      obtain ⟨bs, hl, hb, e0, e1, e2, e3, e4, e5, e6, e7, e8⟩ := Rec.record_bytes n0 n1 n2 n3 n4 n5 n6 n7 n8 g0 g1 g2 g3 g4 g5 g6 g7 g8
      exact ⟨bs, ⟨hl, Rec.small8_of hb⟩, by rw [Rec.recL, e0, e1, e2, e3, e4, e5, e6, e7, e8]⟩
theorem open_records (h : DataW.trod enc Try.prog w base spare held fuel 64 [.slice A len cap] = some x) :
    ∃ l : List (List Nat), l.length = len ∧ (∀ b ∈ l, Rec.IsRec b) ∧ Rd w 9 len A (l.flatMap Rec.recL) ∧ len ≤ maxLen := by
  rcases Go.Deep.open_slice Try.underlying64 h with ⟨hcs, _⟩ | ⟨a, len', cap', m, n, D, Pl, hcs, hb, hl, hm, hmm, hx, hi⟩
  · simp only [List.cons.injEq, Value.slice.injEq, and_true] at hcs
    obtain ⟨rfl, rfl, rfl⟩ := hcs
    exact ⟨[], rfl, by simp, Rd.nil _ _ _, by unfold maxLen; omega⟩
  · simp only [List.cons.injEq, Value.slice.injEq, and_true] at hcs
    obtain ⟨rfl, rfl, rfl⟩ := hcs
    have hle : len ≤ m := by rw [hmm]; split <;> omega
    have hC : Try.prog.cellsOf 81 = 9 := by kernel_rfl
    rw [hC] at hi
    have each : ∀ i, i < len → ∃ y : List Nat, Rec.IsRec y ∧ ∀ j u, (Rec.recL y)[j]? = some u → w.cell? (a.add (i * 9 + j)) = some u := by
      intro i hil
      obtain ⟨cs', hc, ht⟩ := hi i (by omega)
      obtain ⟨_, hcl, hat⟩ := World.cells?_some hc
      obtain ⟨bs, hbs, rfl⟩ := rec_cells hcl ht
      refine ⟨bs, hbs, fun j u hu => ?_⟩
      have hj : j < 9 := by
        have := (List.getElem?_eq_some_iff.1 hu).1
        simpa [Rec.recL] using this
      have h1 := hat j (by simpa using hj)
      rw [Go.Deep.add_add] at h1
      rw [h1]; exact hu
    obtain ⟨l, hl1, hl2⟩ := list_ofR len each
    refine ⟨l, hl1, fun i hi => ?_, rd_ofR ?_ (by omega) (fun q u hu => ?_), Nat.le_trans hl hm⟩
    · obtain ⟨j, hj⟩ := List.getElem?_of_mem hi
      exact (hl2 j i hj).1
    · rw [← hl1]; clear hl1 hl2 each hi
      induction l with
      | nil => rfl
      | cons y l ih => simp only [List.flatMap_cons, List.length_append, List.length_cons, ih, show (Rec.recL y).length = 9 from rfl]; omega
    · have hq : q = q / 9 * 9 + q % 9 := by omega
      rw [hq, rec_at l _ _ (by omega)] at hu
      obtain ⟨y, hy, hu⟩ := Option.bind_eq_some_iff.1 hu
      rw [hq]
      exact (hl2 _ y hy).2 _ _ hu
end
end Go.Proofs.Ytcageojoafkojaa

