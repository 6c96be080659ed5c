/- The laws' opening fact; a text of eight bytes. -/
import Derived.Test.YtknhkcjfnlbnnaaSmall
import Derived.Test.YtknhkcjfnlbnnaaRefKnown
import Derived.Test.YtknhkcjfnlbnnaaBytes
import Derived.Laws.BytesArg
import Derived.OpenShut
namespace Go.Proofs.Ytknhkcjfnlbnnaa
open Go.RowKit
theorem eight_bytes (w : World) (T : TypeId) (b0 b1 b2 b3 b4 b5 b6 b7 : Int) : (convert 30 9 (.slice (some ⟨w.heap.size, 0, none⟩) 8 8)).run Try.prog (w.alloc (.cells #[.int .u8 b0, .int .u8 b1, .int .u8 b2, .int .u8 b3, .int .u8 b4, .int .u8 b5, .int .u8 b6, .int .u8 b7] T)) = .ok (.string (strOfNums [b0, b1, b2, b3, b4, b5, b6, b7])) (w.alloc (.cells #[.int .u8 b0, .int .u8 b1, .int .u8 b2, .int .u8 b3, .int .u8 b4, .int .u8 b5, .int .u8 b6, .int .u8 b7] T)) :=
  run_convert_bytes_arg (P := Try.prog) (w := w.alloc (.cells #[.int .u8 b0, .int .u8 b1, .int .u8 b2, .int .u8 b3, .int .u8 b4, .int .u8 b5, .int .u8 b6, .int .u8 b7] T)) 30 5 Try.underlying30 Try.underlying5 w.heap.size 0 8 8 [b0, b1, b2, b3, b4, b5, b6, b7] rfl
    (fun i hi => by
      rcases (by omega : i = 0 ∨ i = 1 ∨ i = 2 ∨ i = 3 ∨ i = 4 ∨ i = 5 ∨ i = 6 ∨ i = 7) with rfl | rfl | rfl | rfl | rfl | rfl | rfl | rfl <;> simp) 9 Try.underlying9
theorem awake_bytes : strOfNums [32, 0, 0, 0, 4, 0, 0, 0] = ⟨#[32, 0, 0, 0, 4, 0, 0, 0]⟩ := by rfl
def Yes (w : World) (e : Ending) (w' : World) : Prop := e = .returned (.bool true) ∧ Below w.heap.size w w'
set_option maxRecDepth 100000 in
theorem awake_any (w : World) : Calls Try.prog 6 #[] w (Yes w) := by
  go_enter Try.func6, Try.ntmps6
  go_wp2_with fail
  refine (load_of _ _).mono ?_
  rintro e w1 ⟨rfl, hb1⟩
  have Hb1 := Lib.hid hb1
  clear hb1
  go_wp2_with fail
  refine (bytes_of 32 4 32 0 0 0 4 0 0 0 _ (by omega) (by omega) (by omega) (by omega) (by omega) (by omega) (by omega) (by omega) rfl rfl).mono ?_
  rintro e w2 ⟨rfl, hb2⟩
  have hconv := eight_bytes w2 34 32 0 0 0 4 0 0 0
  rw [awake_bytes] at hconv
  have Hb2 := Lib.hid (hb2.mono Hb1.out.size)
  clear hb2
  go_wp2_with fail
  refine (known_any 32 _ (by omega)).mono ?_
  rintro e w' ⟨rfl, rfl⟩
  have hk : knownB 32 = true := by rfl
  go_wp2_with fail
  go_ret
  exact ⟨rfl, (Hb1.out.trans Hb2.out).alloc (Nat.le_trans Hb1.out.size Hb2.out.size) _⟩
/-- A list of two numbers, in its block. -/
structure TwoAt (w : World) (b n0 n1 : Nat) : Prop where
  at_ : w.heap[b]? = some (.cells #[.int .u16 n0, .int .u16 n1] 22 (0, 0))
theorem TwoAt.c0 {w : World} {b n0 n1 : Nat} (h : TwoAt w b n0 n1) : w.cell? ⟨b, 0, none⟩ = some (.int .u16 n0) := by simp [World.cell?, h.at_]
theorem TwoAt.c1 {w : World} {b n0 n1 : Nat} (h : TwoAt w b n0 n1) : w.cell? ⟨b, 1, none⟩ = some (.int .u16 n1) := by simp [World.cell?, h.at_]
theorem TwoAt.kept {w w' : World} {b n0 n1 : Nat} (h : TwoAt w b n0 n1) (hb : Below w.heap.size w w') : TwoAt w' b n0 n1 :=
  ⟨(hb.block b (Array.getElem?_eq_some_iff.1 h.at_).1).trans h.at_⟩
set_option maxRecDepth 100000 in
set_option maxHeartbeats 1000000 in
theorem walk_insnKnown (c0 c1 : Int) (w : World) (h0 : (Lit.int .u16 c0).wf = true) (h1 : (Lit.int .u8 c1).wf = true) :
    Calls Try.prog 3 #[.int .u16 c0, .int .u8 c1] w (Yes w) := by
  obtain ⟨l0, u0⟩ := bounds_u16 h0
  obtain ⟨l1, u1⟩ := bounds_u8 h1
  obtain ⟨n0, rfl⟩ := Int.eq_ofNat_of_zero_le l0
  obtain ⟨n1, rfl⟩ := Int.eq_ofNat_of_zero_le l1
  clear h0 h1 l0 l1
  go_enter Try.func3, Try.ntmps3
  go_wp2_with fail
  refine (awake_any _).mono ?_
  rintro e w1 ⟨rfl, hb1⟩
  have Hb := Lib.hid hb1
  clear hb1
  go_wp2_with fail
  have hd : TwoAt (w1.alloc (.cells #[.int .u16 n0, .int .u16 n1] 22)) w1.heap.size n0 n1 := ⟨heap_alloc_new _ _⟩
  have hb2 : Below w.heap.size w (w1.alloc (.cells #[.int .u16 n0, .int .u16 n1] 22)) := Hb.out.alloc Hb.out.size _
  go_loopw [14] (fun i wr => ∃ k : Nat, k ≤ 2 ∧ i = .int .i64 k ∧ TwoAt wr w1.heap.size n0 n1 ∧ Hid (Below w.heap.size w wr)) (fun i _ => 2 - (intOf i).toNat)
  case atStart => exact ⟨0, by omega, rfl, hd, hb2⟩
  case round =>
    obtain ⟨k, hk, rfl, hr, Hb2⟩ := hrel
    by_cases hlt : k < 2
    · obtain ⟨v, hv, hc⟩ : ∃ v : Nat, v < 65536 ∧ wr.cell? ⟨w1.heap.size, k, none⟩ = some (.int .u16 v) := by
        rcases (by omega : k = 0 ∨ k = 1) with rfl | rfl
        · exact ⟨n0, by omega, hr.c0⟩
        · exact ⟨n1, by omega, hr.c1⟩
      have hbw : ∀ w', Below wr.heap.size wr w' → TwoAt w' w1.heap.size n0 n1 ∧ Below w.heap.size w w' := fun w' h => ⟨hr.kept h, Hb2.out.trans (h.mono Hb2.out.size)⟩
      have Hbw := Lib.hid hbw
      clear hbw hb2 hd hr
      cases hkn : knownB v
      all_goals
        go_wp2_with fail
        refine (known_any v _ hv).mono ?_
        rintro e w' ⟨rfl, rfl⟩
        go_wp2_with fail
        refine (refKnown_any v _ hv).mono ?_
        rintro e w2 ⟨rfl, hb3⟩
        have Hb3 := Lib.hid hb3
        clear hb3
        go_wp2_with fail
        refine (class_any v _ hv).mono ?_
        rintro e w' ⟨rfl, rfl⟩
        go_wp2_with fail
        go_roundw
        case rel => exact ⟨k + 1, by omega, by go_num, (Hbw.out _ Hb3.out).1, (Hbw.out _ Hb3.out).2⟩
        case measure => simp [intOf]; omega
    · obtain rfl : k = 2 := by omega
      go_wp2_with fail
      go_ret
      exact ⟨rfl, Hb2.out⟩
end Go.Proofs.Ytknhkcjfnlbnnaa
