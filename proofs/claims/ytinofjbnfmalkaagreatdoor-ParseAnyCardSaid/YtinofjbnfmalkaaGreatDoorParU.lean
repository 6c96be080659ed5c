/- parse.New, Calls, and parsers that are nil. -/
import Derived.Test.YtinofjbnfmalkaaGreatDoorParP
namespace Go.Proofs.YtinofjbnfmalkaaGreatDoor.Pa
open Go.RowKit Go.WideElems Go.Maps
set_option maxRecDepth 100000 in
theorem rightNew_any (w : World) : Calls Tryz.prog 20 #[] w fun e w' => e = .returned (.pointer (some ⟨w.heap.size, 0, none⟩)) ∧ Below w.heap.size w w' := by
  go_enter Tryz.func20, Tryz.ntmps20
  go_wp2
  go_ret
  exact ⟨rfl, (Below.refl _ _).alloc (Nat.le_refl _) _⟩
set_option maxRecDepth 100000 in
theorem parseNew_any (w : World) : Calls Tryz.prog 9 #[] w fun e w' => ∃ pb tb qa, e = .returned (.pointer (some ⟨pb, 0, none⟩)) ∧ PrA w' pb tb 0 qa ∧ Below w.heap.size w w' ∧ w.heap.size ≤ pb ∧ w.heap.size ≤ tb := by
  go_enter Tryz.func9, Tryz.ntmps9
  go_wp2_with fail
  refine (new_any w).mono ?_
  rintro e w1 ⟨rfl, hT, o, rfl⟩
  have hb1 := oneb w o
  generalize w.alloc o = w1 at hT hb1 ⊢
  go_wp2_with fail
  refine (rightNew_any _).mono ?_
  rintro e w2 ⟨rfl, hb2⟩
  go_wp2_with fail
  have hb12 := hb1.trans (hb2.mono hb1.size)
  have hbl := oneb w2 (.cells #[.pointer (some ⟨w.heap.size, 0, none⟩), .pointer (some ⟨w1.heap.size, 0, none⟩)] 76)
  have hk := Bk.new w2 76 #[.pointer (some ⟨w.heap.size, 0, none⟩), .pointer (some ⟨w1.heap.size, 0, none⟩)] (l := [.pointer (some ⟨w.heap.size, 0, none⟩), .pointer (some ⟨w1.heap.size, 0, none⟩)]) rfl
  have hts : TS w1 w.heap.size 0 := ⟨0, by omega, by omega, hT⟩
  go_ret
  exact ⟨_, _, _, rfl, ⟨hk, (hts.kept hb2).kept hbl⟩, hb12.trans (hbl.mono hb12.size), hb12.size, Nat.le_refl _⟩
end Go.Proofs.YtinofjbnfmalkaaGreatDoor.Pa
