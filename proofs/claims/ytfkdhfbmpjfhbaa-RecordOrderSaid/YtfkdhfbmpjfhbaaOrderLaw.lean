/- What the law of order is handed: any numbers. -/
import Derived.Test.YtfkdhfbmpjfhbaaOrder
import Derived.Deep.Slices
import Derived.ChangeArms
import Derived.ChangeSlices
import Derived.DataReads
import Derived.ProofKit
import Derived.ChangeOld
import Derived.SliceStrings
import Derived.OpenShut
namespace Go.Proofs.Ytfkdhfbmpjfhbaa
open Go.ChangeShapes Go.WideShapes Go.ChangeAt Go.RowKit
theorem open_nums {H : Type} {enc : TypeId × Value → H} {w : World} {base : Nat} {spare : Nat → Bool} {held : Bool} {fuel : Nat} {x : DataW H × List MemPlace} {A : Option Addr} {len cap : Nat}
    (h : DataW.trod enc Try.prog w base spare held fuel 50 [.slice A len cap] = some x) :
    len = 0 ∨ ∃ b o l, A = some ⟨b, o, none⟩ ∧ len ≤ cap ∧ l.length = len ∧ (∀ x ∈ l, x < 4294967296) ∧ Nums w b o l := by
  rcases open_ints Try.underlying50 Try.underlying22 (by kernel_rfl) h with ⟨hcs, _⟩ | ⟨a, l, c, zs, hcs, _, hl, hm, hz, _, hcell, hwz⟩
  · simp only [List.cons.injEq, Value.slice.injEq, and_true] at hcs
    exact .inl hcs.2.1
  · simp only [List.cons.injEq, Value.slice.injEq, and_true] at hcs
    obtain ⟨rfl, rfl, rfl⟩ := hcs
    rcases Nat.eq_zero_or_pos len with h0 | h0
    · exact .inl h0
    have hle : len ≤ zs.length := by rw [hz]; split <;> omega
    have hs : a.spot = none := by
      have h1 := hcell 0 (by omega)
      unfold World.cell? at h1
      split at h1
      · split at h1
        · cases h1
        · rename_i h3; simpa [Addr.add] using h3
      · cases h1
    obtain ⟨b, o, sp⟩ := a
    simp only at hs
    subst hs
    refine .inr ⟨b, o, (zs.take len).map Int.toNat, rfl, hl, by simp; omega, fun i hi => ?_, fun j u hu => ?_⟩
    · obtain ⟨y, hy, rfl⟩ := List.mem_map.1 hi
      have := bounds_u32 (hwz y (List.mem_of_mem_take hy))
      omega
    · have hj : j < len := by
        have := (List.getElem?_eq_some_iff.1 hu).1
        simp at this; omega
      have hjz : j < zs.length := by omega
      have hb := bounds_u32 (hwz zs[j] (List.getElem_mem hjz))
      have hc := hcell j hjz
      rw [show (⟨b, o, none⟩ : Addr).add j = ⟨b, o + j, none⟩ by unfold Addr.add; split <;> simp_all] at hc
      rw [hc]
      simp [List.getElem?_map, hj, List.getElem?_eq_getElem hjz] at hu
      subst hu
      simp [List.getD_eq_getElem?_getD, List.getElem?_eq_getElem hjz, Int.toNat_of_nonneg hb.1]
theorem walk_recordOrder (A : Option Addr) (len cap : Nat) (c : Int) (w : World) (h : len = 0 ∨ ∃ b o l, A = some ⟨b, o, none⟩ ∧ len ≤ cap ∧ l.length = len ∧ (∀ x ∈ l, x < 4294967296) ∧ Nums w b o l) (hc : (Lit.int .u8 c).wf = true) :
    Calls Try.prog 6 #[.slice A len cap, .int .u8 c] w (Yes w) := by
  obtain ⟨l0, u0⟩ := bounds_u8 hc
  obtain ⟨c, rfl⟩ := Int.eq_ofNat_of_zero_le l0
  rcases h with rfl | ⟨b, o, l, rfl, hcap, hl, hok, hr⟩
  · exact order_none A cap c w
  · by_cases h40 : 40 < len
    · exact order_long len _ cap c w h40
    · rcases Nat.eq_zero_or_pos len with h0 | h0
      · subst h0; exact order_none _ cap c w
      · exact order_any l len b o cap c w hl hok hr h0 (by omega) hcap (by omega)
end Go.Proofs.Ytfkdhfbmpjfhbaa
