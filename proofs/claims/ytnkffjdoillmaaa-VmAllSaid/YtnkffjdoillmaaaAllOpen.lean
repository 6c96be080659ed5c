/- VmAll: what is handed in. -/
import Derived.Test.YtnkffjdoillmaaaAllSix
import Derived.ChangeSlices
import Derived.ChangeOld
import Derived.ProofKit
namespace Go.Proofs.Ytnkffjdoillmaaa
open Go.ChangeShapes Go.WideShapes Go.ChangeAt Go.RowKit
def NumsF (w : World) (b o : Nat) (l : List Nat) : Prop := ∀ (j x : Nat), l[j]? = some x → w.cell? ⟨b, o + j, none⟩ = some (.int .u32 x)
theorem open_u32s6 {H : Type} {enc : TypeId × Value → H} {w : World} {base : Nat} {spare : Nat → Bool} {held : Bool} {fuel : Nat} {x : DataW H × List MemPlace} {A : Option Addr} {len cap : Nat}
    (h : DataW.trod enc Try.prog w base spare held fuel 62 [.slice A len cap] = some x) :
    len = 0 ∨ ∃ b o l, A = some ⟨b, o, none⟩ ∧ len ≤ cap ∧ l.length = len ∧ (∀ x ∈ l, x < 4294967296) ∧ NumsF w b o l := by
  rcases open_ints Try.underlying62 Try.underlying35 (by kernel_rfl) h with ⟨hcs, _⟩ | ⟨a, l, c, zs, hcs, _, hl, hm, hz, _, hcell, hwz⟩
  · simp only [List.cons.injEq, Value.slice.injEq, and_true] at hcs
    exact .inl hcs.2.1
  · simp only [List.cons.injEq, Value.slice.injEq, and_true] at hcs
    obtain ⟨rfl, rfl, rfl⟩ := hcs
    rcases Nat.eq_zero_or_pos len with h0 | h0
    · exact .inl h0
    have hle : len ≤ zs.length := by rw [hz]; split <;> omega
    have hs : a.spot = none := by
      have h1 := hcell 0 (by omega)
      unfold World.cell? at h1
      split at h1
      · split at h1
        · cases h1
        · rename_i h3; simpa [Addr.add] using h3
      · cases h1
    obtain ⟨b, o, sp⟩ := a
    simp only at hs
    subst hs
    refine .inr ⟨b, o, (zs.take len).map Int.toNat, rfl, hl, by simp; omega, fun i hi => ?_, fun j u hu => ?_⟩
    · obtain ⟨y, hy, rfl⟩ := List.mem_map.1 hi
      have := bounds_u32 (hwz y (List.mem_of_mem_take hy))
      omega
    · have hj : j < len := by
        have := (List.getElem?_eq_some_iff.1 hu).1
        simp at this; omega
      have hjz : j < zs.length := by omega
      have hb := bounds_u32 (hwz zs[j] (List.getElem_mem hjz))
      have hc := hcell j hjz
      rw [show (⟨b, o, none⟩ : Addr).add j = ⟨b, o + j, none⟩ by unfold Addr.add; split <;> simp_all] at hc
      rw [hc]
      simp [List.getElem?_map, hj, List.getElem?_eq_getElem hjz] at hu
      subst hu
      simp [List.getD_eq_getElem?_getD, List.getElem?_eq_getElem hjz, Int.toNat_of_nonneg hb.1]
theorem walk_vmAll (A : Option Addr) (len cap : Nat) (bs : List Nat) (w : World) (h : len = 0 ∨ ∃ b o l, A = some ⟨b, o, none⟩ ∧ len ≤ cap ∧ l.length = len ∧ (∀ x ∈ l, x < 4294967296) ∧ NumsF w b o l) (h1 : Rec.IsRec bs) :
    Calls Try.prog 5 #[.slice A len cap, .agg (Rec.recL bs).toArray] w (Yes w) := by
  rcases h with rfl | ⟨b, o, l, rfl, _, hl, hlt, hn⟩
  · exact walk_all6 bs [] 0 A cap w rfl (by simp) ⟨rfl, .inl rfl⟩ h1
  · have hc : ∀ j u, (u32s l)[j]? = some u → w.cell? ⟨b, o + j, none⟩ = some u := fun j u hu => by
      unfold u32s at hu
      rw [List.getElem?_map] at hu
      cases hj : l[j]? with
      | none => rw [hj] at hu; cases hu
      | some x => rw [hj] at hu; cases hu; exact hn j x hj
    refine walk_all6 bs l len _ cap w hl hlt ⟨by unfold u32s; simp [hl], ?_⟩ h1
    rcases Nat.eq_zero_or_pos len with h0 | h0
    · exact .inl h0
    · refine .inr ⟨b, o, rfl, ?_, hc⟩
      obtain ⟨ob, ho, _⟩ := cells_of_cell (hc 0 _ (u32s_get (by omega)))
      exact (Array.getElem?_eq_some_iff.1 ho).1
end Go.Proofs.Ytnkffjdoillmaaa
