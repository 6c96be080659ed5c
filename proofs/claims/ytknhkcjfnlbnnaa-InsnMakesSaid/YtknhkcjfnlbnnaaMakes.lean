/- Those that are made of numbers. -/
import Derived.Test.YtknhkcjfnlbnnaaAwake
import Derived.Deep.QuietTactic
import Derived.BigQuiet
namespace Go.Proofs.Ytknhkcjfnlbnnaa
open Go.RowKit
theorem chain6 {w w1 w2 w3 w4 w5 w6 : World} {o : Obj} (h1 : Below w.heap.size w w1) (h2 : Below (w1.alloc o).heap.size (w1.alloc o) w2) (h3 : Below w2.heap.size w2 w3) (h4 : Below w3.heap.size w3 w4) (h5 : Below w4.heap.size w4 w5) (h6 : Below w5.heap.size w5 w6) : Below w.heap.size w w6 := by
  have a1 := h1.alloc h1.size o
  have a2 := a1.trans (h2.mono a1.size)
  have a3 := a2.trans (h3.mono a2.size)
  have a4 := a3.trans (h4.mono a3.size)
  have a5 := a4.trans (h5.mono a4.size)
  exact a5.trans (h6.mono a5.size)
set_option maxRecDepth 100000 in
set_option maxHeartbeats 1000000 in
theorem walk_insnMakes (k jt jf how : Int) (w : World) (h0 : (Lit.int .u32 k).wf = true) (h1 : (Lit.int .u8 jt).wf = true) (h2 : (Lit.int .u8 jf).wf = true) (h3 : (Lit.int .u8 how).wf = true) :
    Calls Try.prog 5 #[.int .u32 k, .int .u8 jt, .int .u8 jf, .int .u8 how] w (Yes w) := by
  obtain ⟨l3, u3⟩ := bounds_u8 h3
  obtain ⟨n3, rfl⟩ := Int.eq_ofNat_of_zero_le l3
  clear h0 h1 h2 h3 l3
  obtain ⟨m, hm⟩ : ∃ m, m = n3 % 4 := ⟨_, rfl⟩
  have hm4 : m < 4 := by omega
  have hmm : ((n3 : Int) % 4) = m := by omega
  have Hm := Lib.hid hm
  clear hm
  have hms : m = 0 ∨ m = 1 ∨ m = 2 ∨ m = 3 := by omega
  clear hm4
  rcases hms with rfl | rfl | rfl | rfl
  all_goals
    go_enter Try.func5, Try.ntmps5
    go_wp2_with fail
    refine (awake_any _).mono ?_
    rintro e w1 ⟨rfl, hb1⟩
    have Hb := Lib.hid hb1
    clear hb1
    go_wp2_with fail
    refine (load_of _ _).mono ?_
    rintro e w2 ⟨rfl, hb2⟩
    have Hb2 := Lib.hid hb2
    clear hb2
    go_wp2_with fail
    refine (return_of _ _).mono ?_
    rintro e w3 ⟨rfl, hb3⟩
    have Hb3 := Lib.hid hb3
    clear hb3
    go_wp2_with fail
    refine (skip_of _ _).mono ?_
    rintro e w4 ⟨rfl, hb4⟩
    have Hb4 := Lib.hid hb4
    clear hb4
    go_wp2_with fail
    refine (mask_of _ _).mono ?_
    rintro e w5 ⟨rfl, hb5⟩
    have Hb5 := Lib.hid hb5
    clear hb5
    go_wp2_with fail
    refine (if_of _ _ _ _ _ _ (by rfl)).mono ?_
    rintro e w6 ⟨rfl, hb6⟩
    have Hb6 := Lib.hid hb6
    clear hb6
    go_wp2_with fail
    go_ret
    exact ⟨rfl, chain6 Hb.out Hb2.out Hb3.out Hb4.out Hb5.out Hb6.out⟩
end Go.Proofs.Ytknhkcjfnlbnnaa
