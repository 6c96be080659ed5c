/- The opening fact. -/
import Derived.Test.YthjbenjnhdgalaaDoorLexW
namespace Go.Proofs.YthjbenjnhdgalaaDoor
open Go.RowKit
def awB : Bs := [97, 114, 103, 48, 32, 38, 51, 61, 61, 49]
theorem aw_lex : lexB awB = ([⟨1, [97, 114, 103, 48], 0, 1, 1⟩, ⟨4, [38], 0, 1, 6⟩, ⟨2, [51], 3, 1, 7⟩, ⟨4, [61, 61], 0, 1, 8⟩, ⟨2, [49], 1, 1, 10⟩, ⟨0, [], 0, 1, 11⟩], noW) := by kernel_rfl
set_option maxHeartbeats 2000000 in
set_option maxRecDepth 100000 in
theorem awake_any (w : World) (hE : Env w) : Calls Tryd.prog 7 #[] w (Yes w) := by
  have hp := lex_any ⟨awB.toArray⟩ w hE
  unfold LinePost at hp
  rw [show (⟨awB.toArray⟩ : ByteArray).data.toList = awB from rfl, aw_lex] at hp
  have Hp : Hid (Calls Tryd.prog 11 #[.string ⟨#[97, 114, 103, 48, 32, 38, 51, 61, 61, 49]⟩] w _) := Lib.hid hp
  clear hp hE
  go_enter Tryd.func7, Tryd.ntmps7
  go_wp2_with fail
  refine Hp.out.mono ?_
  rintro e w1 ⟨v, rfl, hown, hb⟩
  obtain ⟨A, c, rfl, hc, hR, _⟩ := own_slice hown
  have HB := Lib.hid (hb.alloc hb.size (.cells #[.int .i64 0, .int .i64 0, .int .i64 0] 39))
  obtain ⟨b, o, rfl, hbs, hcell⟩ := (hR.below ((Below.refl w1.heap.size w1).alloc (Nat.le_refl _) (.cells #[.int .i64 0, .int .i64 0, .int .i64 0] 39))).pos (by simp)
  have hc1 := (five_cells (k := 1) (x := ⟨4, [38], 0, 1, 6⟩) hcell rfl).1
  have hc2 := (five_cells (k := 2) (x := ⟨2, [51], 3, 1, 7⟩) hcell rfl).2.2.1
  have hc3 := (five_cells (k := 3) (x := ⟨4, [61, 61], 0, 1, 8⟩) hcell rfl).2.1
  have hc5 := (five_cells (k := 5) (x := ⟨0, [], 0, 1, 11⟩) hcell rfl).1
  simp only [Wr.val, noW]
  clear hcell hR hown hb Hp
  go_wp2_with fail
  go_ret
  exact ⟨rfl, HB.out⟩
end Go.Proofs.YthjbenjnhdgalaaDoor
