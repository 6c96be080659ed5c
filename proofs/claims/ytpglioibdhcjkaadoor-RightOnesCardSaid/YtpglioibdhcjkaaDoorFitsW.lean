/- Fits, once, texts: over the law's own numbers. -/
import Derived.Test.YtpglioibdhcjkaaDoorFits
import Derived.Test.YtpglioibdhcjkaaDoorOnceLaw
import Derived.OpenShut
namespace Go.Proofs.YtpglioibdhcjkaaDoor
open Go.RowKit
theorem walk_rightFits (a : Int) (w : World) (ha : (Lit.int .u16 a).wf = true) (h : NamesAt w) :
    Calls Tryd.prog 5 #[.int .u16 a] w fun e w' => e = .returned (.bool true) ∧ Below w.heap.size w w' := by
  obtain ⟨h0, h1⟩ := bounds_u16 ha
  obtain ⟨n, rfl⟩ := Int.eq_ofNat_of_zero_le h0
  exact fits_nat n w (by omega) h
theorem walk_rightOnce (m : Int) (s : ByteArray) (w : World) (hm : (Lit.int .u8 m).wf = true) (hs : s.size ≤ maxLen) (h : NamesAt w) :
    Calls Tryd.prog 6 #[.int .u8 m, .string s] w fun e w' => e = .returned (.bool true) ∧ Below w.heap.size w w' := by
  obtain ⟨h0, h1⟩ := bounds_u8 hm
  obtain ⟨n, rfl⟩ := Int.eq_ofNat_of_zero_le h0
  exact once_nat n s w (by omega) hs h
theorem walk_rightTexts (s : ByteArray) (a : Int) (w : World) (hs : s.size ≤ maxLen) (ha : (Lit.int .u16 a).wf = true) (h : NamesAt w) :
    Calls Tryd.prog 3 #[.string s, .int .u16 a] w fun e w' => e = .returned (.bool true) ∧ Below w.heap.size w w' := by
  obtain ⟨h0, h1⟩ := bounds_u16 ha
  obtain ⟨n, rfl⟩ := Int.eq_ofNat_of_zero_le h0
  exact texts_nat s n w hs (by omega) h
end Go.Proofs.YtpglioibdhcjkaaDoor
