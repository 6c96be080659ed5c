/- A condition of small numbers: one that may be. -/
import Derived.Test.YtonpakndocgndaaGreatDoorSmallA
namespace Go.Proofs.YtonpakndocgndaaGreatDoor
open Go.RowKit
def CcPost (w : World) (e : Ending) (w' : World) : Prop := (∃ c : CondM, e = .returned (.agg #[.int .i64 c.arg, .int .u8 c.op, .int .u64 c.mask, .int .u64 c.val]) ∧ condE c = 0 ∧ c.ok) ∧ Below w.heap.size w w'
set_option maxHeartbeats 4000000 in
set_option maxRecDepth 100000 in
theorem condCond_any (a b m v : Nat) (w : World) (ha : a < 256) (hb : b < 256) (hm : m < 256) (hv : v < 256) : Calls Tryz.prog 17 #[.agg #[.int .u8 a, .int .u8 b, .int .u8 m, .int .u8 v]] w (CcPost w) := by
  have ra : Int.tmod (a : Int) 6 = ((a % 6 : Nat) : Int) := by rw [Int.tmod_eq_emod_of_nonneg (by omega)]; omega
  have rb : Int.tmod (b : Int) 7 = ((b % 7 : Nat) : Int) := by rw [Int.tmod_eq_emod_of_nonneg (by omega)]; omega
  have rm : Int.tmod (m : Int) 11 = ((m % 11 : Nat) : Int) := by rw [Int.tmod_eq_emod_of_nonneg (by omega)]; omega
  have rv : Int.tmod (v : Int) 12 = ((v % 12 : Nat) : Int) := by rw [Int.tmod_eq_emod_of_nonneg (by omega)]; omega
  obtain ⟨ai, hai⟩ : ∃ x, x = a % 6 := ⟨_, rfl⟩
  obtain ⟨bi, hbi⟩ : ∃ x, x = b % 7 := ⟨_, rfl⟩
  obtain ⟨mi, hmi⟩ : ∃ x, x = m % 11 := ⟨_, rfl⟩
  obtain ⟨vi, hvi⟩ : ∃ x, x = v % 12 := ⟨_, rfl⟩
  rw [← hai] at ra
  rw [← hbi] at rb
  rw [← hmi] at rm
  rw [← hvi] at rv
  have la : ai < 6 := by omega
  have lb : bi < 7 := by omega
  have lm : mi < 11 := by omega
  have lv : vi < 12 := by omega
  have lvi : (vi : Int) < 12 := by omega
  obtain ⟨vv, hvv, hvv64, _⟩ := vals_at vi lv
  have wa : IntKind.u8.wrap (ai : Int) = (ai : Int) := by rw [IntKind.wrap_u8]; omega
  have wb1 : IntKind.u8.wrap (bi : Int) = (bi : Int) := by rw [IntKind.wrap_u8]; omega
  have wb2 : IntKind.u8.wrap (1 + (bi : Int)) = 1 + (bi : Int) := by rw [IntKind.wrap_u8]; omega
  have wai : IntKind.i64.wrap (ai : Int) = (ai : Int) := IntWalk.i64_in _ (by omega)
  have wvi : IntKind.i64.wrap (vi : Int) = (vi : Int) := IntWalk.i64_in _ (by omega)
  have wvv : IntKind.i64.wrap (v : Int) = (v : Int) := IntWalk.i64_in _ (by omega)
  clear hai hbi hmi hvi
  have hb0 := oneb w (.cells #[.int .u8 a, .int .u8 b, .int .u8 m, .int .u8 v] 97)
  have hk0 := Bk.new w 97 #[.int .u8 a, .int .u8 b, .int .u8 m, .int .u8 v] (l := [.int .u8 a, .int .u8 b, .int .u8 m, .int .u8 v]) rfl
  go_enter Tryz.func17, Tryz.ntmps17
  go_wp2_with fail
  have hs1 : (w.alloc (.cells #[.int .u8 a, .int .u8 b, .int .u8 m, .int .u8 v] 97)).heap.size = w.heap.size + 1 := by simp
  generalize w.alloc _ = w1 at hb0 hk0 hs1 ⊢
  have hb1 := hb0.trans ((oneb w1 (.cells #[.int .i64 0, .int .u8 0, .int .u64 0, .int .u64 0] 39)).mono hb0.size)
  have hk1 := Bk.new w1 39 #[.int .i64 0, .int .u8 0, .int .u64 0, .int .u64 0] (l := [.int .i64 0, .int .u8 0, .int .u64 0, .int .u64 0]) rfl
  have hk01 := hk0.kept (oneb w1 (.cells #[.int .i64 0, .int .u8 0, .int .u64 0, .int .u64 0] 39))
  have hs2 : (w1.alloc (.cells #[.int .i64 0, .int .u8 0, .int .u64 0, .int .u64 0] 39)).heap.size = w.heap.size + 1 + 1 := by simp [hs1]
  rw [hs1] at hk1
  generalize w1.alloc _ = w2 at hb1 hk1 hk01 hs2 ⊢
  have hva := values_any w2
  rw [hs2] at hva
  refine hva.mono ?_
  clear hva
  rintro e w3 ⟨rfl, hkv, hb3, hs3⟩
  have HB3 := Lib.hid (hb1.trans (hb3.mono (by omega)))
  have HK0 := Lib.hid (hk01.below hb3 (by omega))
  have HK1 := Lib.hid (hk1.below hb3 (by omega))
  have HKV := Lib.hid hkv
  have s0 := HK0.out.cell 0 rfl
  have s1 := HK0.out.cell 1 rfl
  have s3 := HK0.out.cell 3 rfl
  have v0 := hkv.cell vi (u64s_at hvv)
  have hvl : w.heap.size + 1 + 1 < w3.heap.size := by omega
  clear hb0 hk0 hb1 hk1 hk01 hb3 hkv hs1 hs2
  go_wp2_with fail
  refine wp_region_held_drew (S := fun w' => w'.cell? ⟨w.heap.size, 0, none⟩ = some (.int .u8 a) ∧ w'.cell? ⟨w.heap.size, 1, none⟩ = some (.int .u8 b) ∧ w'.cell? ⟨w.heap.size, 3, none⟩ = some (.int .u8 v) ∧ w'.cell? ⟨w.heap.size + 1 + 1, vi, none⟩ = some (.int .u64 vv) ∧ w.heap.size + 1 + 1 < w'.heap.size) (by kernel_rfl) ?_ (fun hHeld0 => ?_)
  · exact ⟨s0, s1, s3, v0, hvl⟩
  refine wpAnyH_take (i := 0) (v := ?_) (by first | (simp only [List.getElem?_toArray, List.getElem?_cons_zero] <;> rfl) | rfl) (by kernel_rfl) (by kernel_rfl) (by kernel_rfl) (by exact fun _ _ _ h => h) (Or.inl ⟨by rfl, ?_⟩) hHeld0 ?_
  rotate_left 1
  · intro w hSw
    try dsimp only at hSw
    (go_simp) <;> (with_reducible rfl)
  try simp only [Act.put, List.setIfInBounds_toArray, List.set_cons_zero, List.set_cons_succ]
  refine wpAnyH_take (i := 1) (v := ?_) (by first | (simp only [List.getElem?_toArray, List.getElem?_cons_succ, List.getElem?_cons_zero] <;> rfl) | rfl) (by kernel_rfl) (by kernel_rfl) (by kernel_rfl) (by exact fun _ _ _ h => h) (Or.inl ⟨by rfl, ?_⟩) hHeld0 ?_
  rotate_left 1
  · intro w hSw
    try dsimp only at hSw
    (go_simp) <;> (with_reducible rfl)
  try simp only [Act.put, List.setIfInBounds_toArray, List.set_cons_zero, List.set_cons_succ]
  refine wpAnyH_take (i := 2) (v := ?_) (by first | (simp only [List.getElem?_toArray, List.getElem?_cons_succ, List.getElem?_cons_zero] <;> rfl) | rfl) (by kernel_rfl) (by kernel_rfl) (by kernel_rfl) (by exact fun _ _ _ h => h) (Or.inl ⟨by rfl, ?_⟩) hHeld0 ?_
  rotate_left 1
  · intro w hSw
    try dsimp only at hSw
    (go_simp) <;> (with_reducible rfl)
  try simp only [Act.put, List.setIfInBounds_toArray, List.set_cons_zero, List.set_cons_succ]
  refine wpAnyH_take (i := 3) (v := ?_) (by first | (simp only [List.getElem?_toArray, List.getElem?_cons_succ, List.getElem?_cons_zero] <;> rfl) | rfl) (by kernel_rfl) (by kernel_rfl) (by kernel_rfl) (by exact fun _ _ _ h => h) (Or.inl ⟨by rfl, ?_⟩) hHeld0 ?_
  rotate_left 1
  · intro w hSw
    try dsimp only at hSw
    (go_simp) <;> (with_reducible rfl)
  try simp only [Act.put, List.setIfInBounds_toArray, List.set_cons_zero, List.set_cons_succ]
  refine wpAnyH_take (i := 4) (v := ?_) (by first | (simp only [List.getElem?_toArray, List.getElem?_cons_succ, List.getElem?_cons_zero] <;> rfl) | rfl) (by kernel_rfl) (by kernel_rfl) (by kernel_rfl) (by exact fun _ _ _ h => h) (Or.inl ⟨by rfl, ?_⟩) hHeld0 ?_
  rotate_left 1
  · intro w hSw
    try dsimp only at hSw
    (go_simp) <;> (with_reducible rfl)
  try simp only [Act.put, List.setIfInBounds_toArray, List.set_cons_zero, List.set_cons_succ]
  refine wpAnyH_take (i := 5) (v := ?_) (by first | (simp only [List.getElem?_toArray, List.getElem?_cons_succ, List.getElem?_cons_zero] <;> rfl) | rfl) (by kernel_rfl) (by kernel_rfl) (by kernel_rfl) (by exact fun _ _ _ h => h) (Or.inl ⟨by rfl, ?_⟩) hHeld0 ?_
  rotate_left 1
  · intro w hSw
    try dsimp only at hSw
    (go_simp) <;> (with_reducible rfl)
  try simp only [Act.put, List.setIfInBounds_toArray, List.set_cons_zero, List.set_cons_succ]
  refine wpAnyH_take (i := 6) (v := ?_) (by first | (simp only [List.getElem?_toArray, List.getElem?_cons_succ, List.getElem?_cons_zero] <;> rfl) | rfl) (by kernel_rfl) (by kernel_rfl) (by kernel_rfl) (by exact fun _ _ _ h => h) (Or.inl ⟨by rfl, ?_⟩) hHeld0 ?_
  rotate_left 1
  · intro w hSw
    try dsimp only at hSw
    (go_simp) <;> (with_reducible rfl)
  try simp only [Act.put, List.setIfInBounds_toArray, List.set_cons_zero, List.set_cons_succ]
  refine wpAnyH_take (i := 7) (v := ?_) (by first | (simp only [List.getElem?_toArray, List.getElem?_cons_succ, List.getElem?_cons_zero] <;> rfl) | rfl) (by kernel_rfl) (by kernel_rfl) (by kernel_rfl) (by exact fun _ _ _ h => h) (Or.inl ⟨by rfl, ?_⟩) hHeld0 ?_
  rotate_left 1
  · intro w hSw
    try dsimp only at hSw
    (go_simp) <;> (with_reducible rfl)
  try simp only [Act.put, List.setIfInBounds_toArray, List.set_cons_zero, List.set_cons_succ]
  refine wpAnyH_take (i := 8) (v := ?_) (by first | (simp only [List.getElem?_toArray, List.getElem?_cons_succ, List.getElem?_cons_zero] <;> rfl) | rfl) (by kernel_rfl) (by kernel_rfl) (by kernel_rfl) (by exact fun _ _ _ h => h) (Or.inl ⟨by rfl, ?_⟩) hHeld0 ?_
  rotate_left 1
  · intro w hSw
    try dsimp only at hSw
    (go_simp) <;> (with_reducible rfl)
  try simp only [Act.put, List.setIfInBounds_toArray, List.set_cons_zero, List.set_cons_succ]
  refine wpAnyH_take (i := 9) (v := ?_) (by first | (simp only [List.getElem?_toArray, List.getElem?_cons_succ, List.getElem?_cons_zero] <;> rfl) | rfl) (by kernel_rfl) (by kernel_rfl) (by kernel_rfl) (by exact fun _ _ _ h => h) (Or.inl ⟨by rfl, ?_⟩) hHeld0 ?_
  rotate_left 1
  · intro w hSw
    try dsimp only at hSw
    (go_simp) <;> (with_reducible rfl)
  try simp only [Act.put, List.setIfInBounds_toArray, List.set_cons_zero, List.set_cons_succ]
  refine wpAnyH_take (i := 10) (v := ?_) (by first | (simp only [List.getElem?_toArray, List.getElem?_cons_succ, List.getElem?_cons_zero] <;> rfl) | rfl) (by kernel_rfl) (by kernel_rfl) (by kernel_rfl) (by exact fun _ _ _ h => h) (Or.inl ⟨by rfl, ?_⟩) hHeld0 ?_
  rotate_left 1
  · intro w hSw
    try dsimp only at hSw
    (go_simp) <;> (with_reducible rfl)
  try simp only [Act.put, List.setIfInBounds_toArray, List.set_cons_zero, List.set_cons_succ]
  refine wpAnyH_take (i := 11) (v := ?_) (by first | (simp only [List.getElem?_toArray, List.getElem?_cons_succ, List.getElem?_cons_zero] <;> rfl) | rfl) (by kernel_rfl) (by kernel_rfl) (by kernel_rfl) (by exact fun _ _ _ h => h) (Or.inl ⟨by rfl, ?_⟩) hHeld0 ?_
  rotate_left 1
  · intro w hSw
    try dsimp only at hSw
    (go_simp) <;> (with_reducible rfl)
  try simp only [Act.put, List.setIfInBounds_toArray, List.set_cons_zero, List.set_cons_succ]
  refine wpAnyH_take (i := 12) (v := ?_) (by first | (simp only [List.getElem?_toArray, List.getElem?_cons_succ, List.getElem?_cons_zero] <;> rfl) | rfl) (by kernel_rfl) (by kernel_rfl) (by kernel_rfl) (by exact fun _ _ _ h => h) (Or.inl ⟨by rfl, ?_⟩) hHeld0 ?_
  rotate_left 1
  · intro w hSw
    try dsimp only at hSw
    (go_simp) <;> (with_reducible rfl)
  try simp only [Act.put, List.setIfInBounds_toArray, List.set_cons_zero, List.set_cons_succ]
  refine wpAnyH_take (i := 13) (v := ?_) (by first | (simp only [List.getElem?_toArray, List.getElem?_cons_succ, List.getElem?_cons_zero] <;> rfl) | rfl) (by kernel_rfl) (by kernel_rfl) (by kernel_rfl) (by exact fun _ _ _ h => h) (Or.inl ⟨by rfl, ?_⟩) hHeld0 ?_
  rotate_left 1
  · intro w hSw
    try dsimp only at hSw
    (go_simp) <;> (with_reducible rfl)
  try simp only [Act.put, List.setIfInBounds_toArray, List.set_cons_zero, List.set_cons_succ]
  refine wpAnyH_take (i := 14) (v := ?_) (by first | (simp only [List.getElem?_toArray, List.getElem?_cons_succ, List.getElem?_cons_zero] <;> rfl) | rfl) (by kernel_rfl) (by kernel_rfl) (by kernel_rfl) (by exact fun _ _ _ h => h) (Or.inl ⟨by rfl, ?_⟩) hHeld0 ?_
  rotate_left 1
  · intro w hSw
    try dsimp only at hSw
    (go_simp) <;> (with_reducible rfl)
  try simp only [Act.put, List.setIfInBounds_toArray, List.set_cons_zero, List.set_cons_succ]
  refine wpAnyH_take (i := 15) (v := ?_) (by first | (simp only [List.getElem?_toArray, List.getElem?_cons_succ, List.getElem?_cons_zero] <;> rfl) | rfl) (by kernel_rfl) (by kernel_rfl) (by kernel_rfl) (by exact fun _ _ _ h => h) (Or.inl ⟨by rfl, ?_⟩) hHeld0 ?_
  rotate_left 1
  · intro w hSw
    try dsimp only at hSw
    (go_simp) <;> (with_reducible rfl)
  try simp only [Act.put, List.setIfInBounds_toArray, List.set_cons_zero, List.set_cons_succ]
  refine wpAnyH_take (i := 16) (v := ?_) (by first | (simp only [List.getElem?_toArray, List.getElem?_cons_succ, List.getElem?_cons_zero] <;> rfl) | rfl) (by kernel_rfl) (by kernel_rfl) (by kernel_rfl) (by exact fun _ _ _ h => h) (Or.inl ⟨by rfl, ?_⟩) hHeld0 ?_
  rotate_left 1
  · intro w hSw
    try dsimp only at hSw
    (go_simp) <;> (with_reducible rfl)
  try simp only [Act.put, List.setIfInBounds_toArray, List.set_cons_zero, List.set_cons_succ]
  refine wpAnyH_take (i := 17) (v := ?_) (by first | (simp only [List.getElem?_toArray, List.getElem?_cons_succ, List.getElem?_cons_zero] <;> rfl) | rfl) (by kernel_rfl) (by kernel_rfl) (by kernel_rfl) (by exact fun _ _ _ h => h) (Or.inl ⟨by rfl, ?_⟩) hHeld0 ?_
  rotate_left 1
  · intro w hSw
    try dsimp only at hSw
    (go_simp) <;> (with_reducible rfl)
  try simp only [Act.put, List.setIfInBounds_toArray, List.set_cons_zero, List.set_cons_succ]
  refine wpAnyH_ready (rs := [18]) (by kernel_rfl) (by simp) ?_
  refine AllReadyH.cons (by first | (simp only [List.getElem?_toArray, List.getElem?_cons_succ, List.getElem?_cons_zero] <;> rfl) | rfl) (fun K hK => ?_) AllReadyH.nil
  go_simp
  refine hK.out _ _ ?_ (fun hHeld1 => ?_)
  · (try dsimp only)
    exact ⟨cell_below hHeld0.1 (oneb _ _), cell_below hHeld0.2.1 (oneb _ _), cell_below hHeld0.2.2.1 (oneb _ _), cell_below hHeld0.2.2.2.1 (oneb _ _), by have := hHeld0.2.2.2.2; simp; omega⟩
  clear hK K hHeld0
  try simp only [Act.put, List.setIfInBounds_toArray, List.set_cons_zero, List.set_cons_succ]
  refine wpAnyH_ready (rs := [19]) (by kernel_rfl) (by simp) ?_
  refine AllReadyH.cons (by first | (simp only [List.getElem?_toArray, List.getElem?_cons_succ, List.getElem?_cons_zero] <;> rfl) | rfl) (fun K hK => ?_) AllReadyH.nil
  go_simp
  refine hK.out _ _ ?_ (fun hHeld2 => ?_)
  · (try dsimp only)
    exact ⟨cell_below s0 (below_drewN (oneb w3 _) 1), cell_below s1 (below_drewN (oneb w3 _) 1), cell_below s3 (below_drewN (oneb w3 _) 1), cell_below v0 (below_drewN (oneb w3 _) 1), by simp; omega⟩
  clear hK K hHeld1
  try simp only [Act.put, List.setIfInBounds_toArray, List.set_cons_zero, List.set_cons_succ]
  refine wpAnyH_done (by kernel_rfl) ?_ _
  clear hHeld2
  have hk3 := (Bk.new w3 39 #[.int .i64 ai, .int .u8 (1 + (bi : Int)), .int .u64 0, .int .u64 vv] (l := [.int .i64 ai, .int .u8 (1 + (bi : Int)), .int .u64 0, .int .u64 vv]) rfl).drewN 1
  have hb4 := below_drewN (oneb w3 (.cells #[.int .i64 ai, .int .u8 (1 + (bi : Int)), .int .u64 0, .int .u64 vv] 39)) 1
  rw [hs3] at hk3
  clear s0 s1 s3 v0
  change Exit.then _ _ _ _ ((w3.alloc (.cells #[.int .i64 ai, .int .u8 (1 + (bi : Int)), .int .u64 0, .int .u64 vv] 39)).drewN 1)
  generalize (w3.alloc (.cells #[.int .i64 ai, .int .u8 (1 + (bi : Int)), .int .u64 0, .int .u64 vv] 39)).drewN 1 = w4 at hk3 hb4 ⊢
  have HB4 := Lib.hid (HB3.out.trans (hb4.mono HB3.out.size))
  have HK4 := Lib.hid (HK1.out.kept hb4)
  have hl1 := HK4.out.lt
  have hl3 := hk3.lt
  have r0 := HK4.out.cell 0 rfl
  have r1 := HK4.out.cell 1 rfl
  have r2 := HK4.out.cell 2 rfl
  have r3 := HK4.out.cell 3 rfl
  have f0 := HK4.out.fz 0
  have f1 := HK4.out.fz 1
  have f2 := HK4.out.fz 2
  have f3 := HK4.out.fz 3
  have k0 := hk3.cell 0 rfl
  have k1 := hk3.cell 1 rfl
  have k2 := hk3.cell 2 rfl
  have k3 := hk3.cell 3 rfl
  have z2 := hk3.fz 2
  have z3 := hk3.fz 3
  have m2 := (HK0.out.kept hb4).cell 2 rfl
  have hlv := (HKV.out.kept hb4).lt
  have hl0 := (HK0.out.kept hb4).lt
  have wm : IntKind.i64.wrap (m : Int) = (m : Int) := IntWalk.i64_in _ (by omega)
  have wm1 : IntKind.i64.wrap (mi : Int) = (mi : Int) := IntWalk.i64_in _ (by omega)
  have wm2 : IntKind.i64.wrap (1 + (mi : Int)) = 1 + (mi : Int) := IntWalk.i64_in _ (by omega)
  have Hcast := Lib.hid (show (1 : Int) + (bi : Int) = ((1 + bi : Nat) : Int) by omega)
  by_cases h6 : bi = 6
  · subst h6
    obtain ⟨mk, hmk, hmk64, hmk0⟩ := vals_at (1 + mi) (by omega)
    have vm := (HKV.out.kept hb4).cell (1 + mi) (u64s_at hmk)
    have e1 : (1 + (mi : Int)).toNat = 1 + mi := by omega
    have e2 : (0 : Int) ≤ 1 + (mi : Int) := by omega
    have e3 : 1 + (mi : Int) < 12 := by omega
    have hand := u64_and_nat vv mk hvv64 hmk64
    have hal : vv &&& mk < 18446744073709551616 := Nat.lt_of_le_of_lt Nat.and_le_left hvv64
    have HC := Lib.hid (show condE ⟨(ai : Nat), 7, mk, vv &&& mk⟩ = 0 by
      have : mk ≠ 0 := hmk0 (by omega)
      unfold condE
      simp only
      rw [if_neg (by omega), if_neg (by omega), if_neg (by simp), if_neg (by rw [Nat.and_assoc, Nat.and_self]; simp [this])])
    obtain ⟨q, hq⟩ : ∃ q, q = vv &&& mk := ⟨_, rfl⟩
    rw [← hq] at hand hal HC
    clear hq hmk0 hmk
    go_wp2_with fail
    refine bodyPost_ret (v := .agg #[.int .i64 ai, .int .u8 7, .int .u64 mk, .int .u64 q]) (by simp [results, Tryz.results17, go_sem, r0, r1, r2, r3]) rfl ⟨⟨⟨(ai : Nat), 7, mk, q⟩, rfl, HC.out, ⟨by show (-9223372036854775808 : Int) ≤ (ai : Int); omega, by show (ai : Int) ≤ 9223372036854775807; omega, by show 7 < 256; omega, hmk64, hal⟩⟩, ?_⟩
    exact (((((HB4.out.setCell (p := ⟨w.heap.size + 1 + 1 + 1, 2, none⟩) (by simp; omega) _).setCell (p := ⟨w.heap.size + 1 + 1 + 1, 3, none⟩) (by simp; omega) _).setCell (p := ⟨w.heap.size + 1, 0, none⟩) (by simp) _).setCell (p := ⟨w.heap.size + 1, 1, none⟩) (by simp) _).setCell (p := ⟨w.heap.size + 1, 2, none⟩) (by simp) _).setCell (p := ⟨w.heap.size + 1, 3, none⟩) (by simp) _
  · have g7 : ((1 : Int) + (bi : Int) == 7) = false := by rw [beq_eq_false_iff_ne]; omega
    have HC := Lib.hid (show condE ⟨(ai : Nat), 1 + bi, 0, vv⟩ = 0 by
      unfold condE
      simp only
      rw [if_neg (by omega), if_neg (by omega), if_pos (by omega), if_neg (by simp)])
    go_wp2_with fail
    refine bodyPost_ret (v := .agg #[.int .i64 ai, .int .u8 (1 + (bi : Int)), .int .u64 0, .int .u64 vv]) (by simp [results, Tryz.results17, go_sem, r0, r1, r2, r3]) rfl ⟨⟨⟨(ai : Nat), 1 + bi, 0, vv⟩, by rw [Hcast.out]; rfl, HC.out, ⟨by show (-9223372036854775808 : Int) ≤ (ai : Int); omega, by show (ai : Int) ≤ 9223372036854775807; omega, by show 1 + bi < 256; omega, by show 0 < 18446744073709551616; omega, hvv64⟩⟩, ?_⟩
    exact (((HB4.out.setCell (p := ⟨w.heap.size + 1, 0, none⟩) (by simp) _).setCell (p := ⟨w.heap.size + 1, 1, none⟩) (by simp) _).setCell (p := ⟨w.heap.size + 1, 2, none⟩) (by simp) _).setCell (p := ⟨w.heap.size + 1, 3, none⟩) (by simp) _
end Go.Proofs.YtonpakndocgndaaGreatDoor
