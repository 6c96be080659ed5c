/- Lists of policies of small numbers that came in; a record by value. -/
import Derived.Test.YtagbamengcnfeaaMeO
namespace Go.Proofs.Ytagbamengcnfeaa.Me
open Go.RowKit Go.ChangeShapes Go.WideShapes Go.WideElems Go.ChangeAt Go.Deep
set_option maxRecDepth 100000
section
variable {H : Type} {enc : TypeId × Value → H} {w : World} {base : Nat} {spare : Nat → Bool} {held : Bool} {fuel : Nat} {A : Option Addr} {len cap : Nat} {x : DataW H × List MemPlace}
def SmsIn (w : World) (A : Option Addr) (len _cap : Nat) : Prop := ∃ l : List SmV, l.length = len ∧ (∀ s ∈ l, SmIn w s) ∧ Rd w 8 len A (l.flatMap SmV.cells) ∧ len ≤ maxLen
theorem open_sms (h : DataW.trod enc Try.prog w base spare held fuel 22 [.slice A len cap] = some x) : SmsIn w A len cap := by
  rcases Go.Deep.open_slice Try.underlying22 h with ⟨hcs, _⟩ | ⟨a, len', cap', m, n, D, Pl, hcs, hb, hl, hm, hmm, hx, hi⟩
  · simp only [List.cons.injEq, Value.slice.injEq, and_true] at hcs
    obtain ⟨rfl, rfl, rfl⟩ := hcs
    exact ⟨[], rfl, by simp, Rd.nil _ _ _, by unfold maxLen; omega⟩
  · simp only [List.cons.injEq, Value.slice.injEq, and_true] at hcs
    obtain ⟨rfl, rfl, rfl⟩ := hcs
    have hle : len ≤ m := by rw [hmm]; split <;> omega
    have hC : Try.prog.cellsOf 28 = 8 := by kernel_rfl
    rw [hC] at hi
    have each : ∀ i, i < len → ∃ y : SmV, SmIn w y ∧ ∀ j u, (SmV.cells y)[j]? = some u → w.cell? (a.add (i * 8 + j)) = some u := by
      intro i hil
      obtain ⟨cs', hc, ht⟩ := hi i (by omega)
      obtain ⟨_, hcl, hat⟩ := World.cells?_some hc
      obtain ⟨xs, n', _, _, _, hxl, hf⟩ := DataW.trod_struct Try.underlying28 ht
      obtain ⟨v0, v1, v2, v3, v4, v5, v6, v7, rfl⟩ : ∃ v0 v1 v2 v3 v4 v5 v6 v7, cs' = [v0, v1, v2, v3, v4, v5, v6, v7] := by
        match cs', hcl with
        | [v0, v1, v2, v3, v4, v5, v6, v7], _ => exact ⟨v0, v1, v2, v3, v4, v5, v6, v7, rfl⟩
      obtain ⟨y0, y1, y2, y3, y4, y5, y6, y7, rfl⟩ : ∃ y0 y1 y2 y3 y4 y5 y6 y7, xs = [y0, y1, y2, y3, y4, y5, y6, y7] := by
        match xs, hxl with
        | [y0, y1, y2, y3, y4, y5, y6, y7], _ => exact ⟨y0, y1, y2, y3, y4, y5, y6, y7, rfl⟩
      have f0 : DataW.trod enc Try.prog w base spare held n' 5 [v0] = some y0 := one_field (hf 0 _ rfl) rfl rfl (by kernel_rfl) rfl
      obtain ⟨n0, e0, _, g0⟩ := DataW.trod_int Try.underlying5 f0
      simp only [List.cons.injEq, and_true] at e0
      subst e0
      have b0 := bounds_u8 g0
      obtain ⟨m0, rfl⟩ := Int.eq_ofNat_of_zero_le b0.1
      have d0 : m0 < 256 := by omega
      have f1 : DataW.trod enc Try.prog w base spare held n' 5 [v1] = some y1 := one_field (hf 1 _ rfl) rfl rfl (by kernel_rfl) rfl
      obtain ⟨n1, e1, _, g1⟩ := DataW.trod_int Try.underlying5 f1
      simp only [List.cons.injEq, and_true] at e1
      subst e1
      have b1 := bounds_u8 g1
      obtain ⟨m1, rfl⟩ := Int.eq_ofNat_of_zero_le b1.1
      have d1 : m1 < 256 := by omega
      have f2 : DataW.trod enc Try.prog w base spare held n' 5 [v2] = some y2 := one_field (hf 2 _ rfl) rfl rfl (by kernel_rfl) rfl
      obtain ⟨n2, e2, _, g2⟩ := DataW.trod_int Try.underlying5 f2
      simp only [List.cons.injEq, and_true] at e2
      subst e2
      have b2 := bounds_u8 g2
      obtain ⟨m2, rfl⟩ := Int.eq_ofNat_of_zero_le b2.1
      have d2 : m2 < 256 := by omega
      have f3 : DataW.trod enc Try.prog w base spare held n' 23 [v3] = some y3 := one_field (hf 3 _ rfl) rfl rfl (by kernel_rfl) rfl
      obtain ⟨A3, n3, c3, rfl⟩ := slice_form Try.underlying23 f3
      obtain ⟨l3, hl3, hok3, hr3, hm3, hc3⟩ := open_srules f3
      subst hl3
      have f4 : DataW.trod enc Try.prog w base spare held n' 24 [v4] = some y4 := one_field (hf 4 _ rfl) rfl rfl (by kernel_rfl) rfl
      obtain ⟨n4, e4, _, g4⟩ := DataW.trod_int Try.underlying24 f4
      simp only [List.cons.injEq, and_true] at e4
      subst e4
      have b4 := bounds_u16 g4
      obtain ⟨m4, rfl⟩ := Int.eq_ofNat_of_zero_le b4.1
      have d4 : m4 < 65536 := by omega
      have f5 : DataW.trod enc Try.prog w base spare held n' 25 [v5] = some y5 := one_field (hf 5 _ rfl) rfl rfl (by kernel_rfl) rfl
      obtain ⟨A5, n5, c5, rfl⟩ := slice_form Try.underlying25 f5
      obtain ⟨l5, hl5, hok5, hr5, hm5, hc5⟩ := open_u8l f5
      subst hl5
      have f6 : DataW.trod enc Try.prog w base spare held n' 26 [v6] = some y6 := one_field (hf 6 _ rfl) rfl rfl (by kernel_rfl) rfl
      obtain ⟨A6, n6, c6, rfl⟩ := slice_form Try.underlying26 f6
      obtain ⟨l6, hl6, hok6, hr6, hm6, hc6⟩ := open_u16l f6
      subst hl6
      have f7 : DataW.trod enc Try.prog w base spare held n' 25 [v7] = some y7 := one_field (hf 7 _ rfl) rfl rfl (by kernel_rfl) rfl
      obtain ⟨A7, n7, c7, rfl⟩ := slice_form Try.underlying25 f7
      obtain ⟨l7, hl7, hok7, hr7, hm7, hc7⟩ := open_u8l f7
      subst hl7
      refine ⟨⟨m0, m1, m2, m4, l3, A3, c3, l5, A5, c5, l6, A6, c6, l7, A7, c7⟩, ⟨d0, d1, d2, d4, hm3, hm5, hm6, hm7, fun r hr => (hok3 r hr).1, hok5, hok6, hok7, hr3, fun r hr => (hok3 r hr).2, hr5, hr6, hr7⟩, fun j u hu => ?_⟩
      have hj : j < 8 := (List.getElem?_eq_some_iff.1 hu).1
      have h1 := hat j (by simpa using hj)
      rw [Go.Deep.add_add] at h1
      rw [h1]; exact hu
    obtain ⟨l, hl1, hl2⟩ := list_of len each
    refine ⟨l, hl1, fun i hi => ?_, rd_of (by rw [flatz_len SmV.cells 8 (fun _ => rfl), hl1]) (by omega) fun q u hu => ?_, Nat.le_trans hl hm⟩
    · obtain ⟨j, hj⟩ := List.getElem?_of_mem hi
      exact (hl2 j i hj).1
    · have hq : q = q / 8 * 8 + q % 8 := by omega
      rw [hq, flatz SmV.cells 8 (fun _ => rfl) (by omega) l _ _ (by omega)] at hu
      obtain ⟨y, hy, hu⟩ := Option.bind_eq_some_iff.1 hu
      rw [hq]
      exact (hl2 _ y hy).2 _ _ hu
end
theorem open_rc {H : Type} {enc : TypeId × Value → H} {w : World} {base : Nat} {spare : Nat → Bool} {held : Bool} {r : Reach} {b0 : Nat} {v : Value} {d : DataW H} {pp : List MemPlace} (hv : Value.okWide Try.prog w r b0 33 v) (h : DataW.Trod enc Try.prog w base spare held 33 v d pp) : ∃ x : RcM, x.ok ∧ v = .agg x.cells.toArray := by
  obtain ⟨cs, rfl, hsz⟩ := okWide_struct Try.underlying33 hv
  have hC : Try.prog.cellsOf 33 = 9 := by kernel_rfl
  obtain ⟨fuel, hf⟩ := h
  obtain ⟨x, h1, h2⟩ := rec_cells (cs := cs.toList) (by simpa using hsz.trans hC) hf
  exact ⟨x, h1, by rw [← h2]⟩
def zeroRc : Value := .agg #[.int .u32 0, .int .u32 0, .int .u64 0, .int .u64 0, .int .u64 0, .int .u64 0, .int .u64 0, .int .u64 0, .int .u64 0]
end Go.Proofs.Ytagbamengcnfeaa.Me
