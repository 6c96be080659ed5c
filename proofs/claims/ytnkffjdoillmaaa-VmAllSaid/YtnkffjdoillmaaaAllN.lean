/- All of no filter: Allow. -/
import Derived.Test.YtnkffjdoillmaaaAll
namespace Go.Proofs.Ytnkffjdoillmaaa
open Go.RowKit Go.Shelf
attribute [local go_sem] Oper.semAt_some
set_option maxRecDepth 100000 in
set_option maxHeartbeats 2000000 in
theorem back0 (m : Nat) (_hm : 1 ≤ m) (L Bs cap : Nat) (J Jx : List (At 0) → World → Prop) (W : World) (hBs : W.cell? ⟨Bs, 0, none⟩ = some (.slice none 0 cap)) (h0 : J [] W) :
    CallsIn Fence.wide m Try.prog 68 #[.func (.yield L) #[] #[], .pointer (some ⟨Bs, 0, none⟩)] W fun e W' => (∃ v, e = .returned v) ∧
      ((∃ ys, ys = [] ∧ J ys W') ∨ (∃ pre, True ∧ Jx pre W')) := by
  have H0 := Lib.hid h0
  clear h0
  refine callsIn_of_wp Try.func68 rfl trivial ?_ rfl
  simp only [Try.ntmps68, List.size_toArray, List.length_cons, List.length_nil, Nat.reduceAdd, Nat.reduceSub, Array.replicate_succ, Array.replicate_zero, List.push_toArray, List.append_toArray, List.nil_append, List.cons_append]
  gi_wp2
  gi_loopw [3] (fun i wr => i = .int .i64 (-1) ∧ Hid (J [] wr)) (fun _ _ => 0)
  case atStart => exact ⟨rfl, H0⟩
  case round =>
    obtain ⟨rfl, HJ⟩ := hrel
    gi_wp2
    go_end0
    exact ⟨⟨_, rfl⟩, .inl ⟨_, rfl, HJ.out⟩⟩
set_option maxRecDepth 100000 in
set_option maxHeartbeats 4000000 in
theorem all_nil (R : List Value) (w : World) (cap : Nat) :
    Calls Try.prog 25 #[.slice none 0 cap, .agg R.toArray] w (fun e w' => e = .returned (.int .u32 2147418112) ∧ Below w.heap.size w w') := by
  refine (callsIn_wide (n := 8)).1 ?_
  refine callsIn_of_wp_marks Try.func25 rfl trivial ?_ rfl
  simp only [Try.ntmps25, List.size_toArray, List.length_cons, List.length_nil, Nat.reduceAdd, Nat.reduceSub, Array.replicate_succ, Array.replicate_zero, List.push_toArray, List.append_toArray, List.nil_append, List.cons_append]
  gi_wp2_with (first | (refine ⟨trivial, ?_⟩; gi_at_call 49; refine (backwardF_in _ _ _ _ _).mono ?_; rintro e w' ⟨rfl, rfl⟩))
  have h2 := Bk.new (l := [.int .u32 2147418112]) (w.alloc (.cells R.toArray 39)) 40 #[.int .u32 2147418112] rfl
  have h3 := Boxed.new ((w.alloc (.cells R.toArray 39)).alloc (.cells #[.int .u32 2147418112] 40)) 63 (.slice none 0 cap)
  have hb := (((Below.refl w.heap.size w).alloc (Nat.le_refl _) (.cells R.toArray 39)).alloc (by simp) (.cells #[.int .u32 2147418112] 40)).alloc (by simp; omega) (.cells #[.slice none 0 cap] 63)
  simp only [World.size_alloc] at h2 h3
  have H2 := Lib.hid (h2.alloc (.cells #[.slice none 0 cap] 63))
  have H3 := Lib.hid h3
  have HB := Lib.hid hb
  have hsz : (((w.alloc (.cells R.toArray 39)).alloc (.cells #[.int .u32 2147418112] 40)).alloc (.cells #[.slice none 0 cap] 63)).heap.size = w.heap.size + 3 := by simp
  clear h2 h3 hb
  revert H2 H3 HB hsz
  generalize (((w.alloc (.cells R.toArray 39)).alloc (.cells #[.int .u32 2147418112] 40)).alloc (.cells #[.slice none 0 cap] 63)) = W0
  rw [show w.heap.size + 1 + 1 = w.heap.size + 2 from rfl]
  intro H2 H3 HB hsz
  refine wpIn_rangeFunc_ownH (α := At 0) (encs := handedF (fun _ => 0) 0) (Kp := KF (w.heap.size + 2) (w.heap.size + 2)) (S := fun ys => ys = []) (Sp := fun _ => True) (N := 0) (w0 := W0) rfl (by omega) (gf := 68) (lb := #[.pointer (some ⟨w.heap.size + 2, 0, none⟩)]) rfl trivial (enters_of Try.func68 (by kernel_rfl) rfl)
    (fun L J Jx W hW _ _ _ h0 => back0 7 (by omega) L (w.heap.size + 2) cap J Jx W ((hW.cell (p := ⟨w.heap.size + 2, 0, none⟩) (by show w.heap.size + 2 < W0.heap.size; omega)).trans H3.out.cell) h0) KF.trans (kf_put (by omega) (by omega)) (Below.refl _ _) (fun _ => rfl)
    (fun _ W => Bk W (w.heap.size + 1) 40 [.int .u32 2147418112] ∧ Below w.heap.size w W) (fun _ _ _ => False)
    (OwnFrom.and (Own.from (bk_ownG _ _ (fun _ => _)) _) (ownFrom_below (Nat.le_refl _) (by omega)))
    (fun _ _ _ _ _ hs _ _ => hs)
    ⟨H2.out, HB.out⟩
    (fun _ _ _ => False)
    (fun _ _ _ _ _ _ hs _ _ => hs)
    ?assign ?body ?done ?stop
  case assign =>
    intro L pre x
    exact absurd x.2 (Nat.not_lt_zero _)
  case body =>
    intro L pre x
    exact absurd x.2 (Nat.not_lt_zero _)
  case done =>
    rintro D' ys W hD' rfl ⟨b2, hbel⟩ hK
    have cX := b2.cell 0 rfl
    gi_wp2
    refine ⟨by simp, .inl ⟨_, _, rfl, run_takeDeferred hK, ?_⟩⟩
    exact ⟨_, results_tmp rfl _ _ _, rfl, hbel.trans (belowK_b (w := w) (Nat.le_refl _) W D' _ _ (by omega) hK rfl rfl)⟩
  case stop =>
    rintro D' c pre W _ _ h _
    exact h.elim
end Go.Proofs.Ytnkffjdoillmaaa
