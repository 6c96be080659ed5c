/- An argument's halves are the argument. -/
import Derived.Test.YtfkdhfbmpjfhbaaAct
import Derived.Test.YtfkdhfbmpjfhbaaRef
import Derived.Deep.RegionHeld3
namespace Go.Proofs.Ytfkdhfbmpjfhbaa
open Go.RowKit
theorem step2 {X : Prop} {wx wA wB : World} (hb : Below wA.heap.size wA wB) (h : X ∧ Hid (Below wx.heap.size wx wA)) : Below wx.heap.size wx wB := h.2.out.trans (hb.mono h.2.out.size)
theorem step1 {X : Prop} {wx wA : World} (h : X ∧ Hid (Below wx.heap.size wx wA)) : Below wx.heap.size wx wA := h.2.out
theorem or_hl (lo hi n : Nat) (h0 : lo < 4294967296) (h1 : hi < 4294967296) (h : n = lo + 4294967296 * hi) : bits .or .u64 ((hi : Int) * 4294967296) (lo : Int) = (n : Int) := by
  have e := u64_or_nat (4294967296 * hi) lo (by omega) (by omega)
  have e2 : ((4294967296 * hi : Nat) : Int) = (hi : Int) * 4294967296 := by omega
  rw [e2] at e
  rw [e, show (4294967296 * hi ||| lo : Nat) = 4294967296 * hi + lo from (Nat.two_pow_add_eq_or_of_lt (i := 32) (b := lo) (by omega) hi).symm]
  omega
/-- The record in its block, loaded whole. -/
theorem ld_rec {w : World} {g t : Nat} {l : List Value} (h : Bk w g t l) (hl : l.length = 9) : (Instr.loadAt 26 (.pointer (some ⟨g, 0, none⟩))).run Try.prog w = .ok (.agg l.toArray) w := by
  simp only [Instr.loadAt, Instr.sureAddr, Sem.run_bind, Sem.run_pure, Result.andThen_ok]
  exact run_loadVar_row w g t _ l.toArray (0, 0) _ h Try.underlying26 rfl (by rw [size9, List.size_toArray, hl])
theorem ld_64 {w : World} {g t : Nat} {l : List Value} (h : Bk w g t l) (hl : l.length = 64) : (Instr.loadAt 27 (.pointer (some ⟨g, 0, none⟩))).run Try.prog w = .ok (.agg l.toArray) w := by
  simp only [Instr.loadAt, Instr.sureAddr, Sem.run_bind, Sem.run_pure, Result.andThen_ok]
  exact run_loadVar_row w g t _ l.toArray (0, 0) _ h Try.underlying27 rfl (by rw [size64, List.size_toArray, hl])
set_option maxRecDepth 100000 in
set_option maxHeartbeats 2000000 in
theorem halves_neg (bs : List Nat) (n0 n1 n2 n3 n4 n5 n6 n7 n8 : Nat) (a : Int) (w : World) (hl : bs.length = 64) (hb : Small8 bs) (h0 : n0 = leN bs 0 4) (h1 : n1 = leN bs 4 4) (h2 : n2 = leN bs 8 8) (h3 : n3 = leN bs 16 8) (h4 : n4 = leN bs 24 8) (h5 : n5 = leN bs 32 8) (h6 : n6 = leN bs 40 8) (h7 : n7 = leN bs 48 8) (h8 : n8 = leN bs 56 8) (ha : a < 0) :
    Calls Try.prog 4 #[.agg #[.int .u32 n0, .int .u32 n1, .int .u64 n2, .int .u64 n3, .int .u64 n4, .int .u64 n5, .int .u64 n6, .int .u64 n7, .int .u64 n8], .int .i64 a] w (Yes w) := by
  have Wlo := Lib.hid (show ∀ wx, Calls Try.prog 11 #[.agg #[.int .u32 n0, .int .u32 n1, .int .u64 n2, .int .u64 n3, .int .u64 n4, .int .u64 n5, .int .u64 n6, .int .u64 n7, .int .u64 n8], .int .u32 16] wx (WordPost (leN bs 16 4) true wx) from fun wx => by
    have h := word_yes bs 16 wx hl hb (by omega) (by omega)
    rw [show recL bs = [.int .u32 n0, .int .u32 n1, .int .u64 n2, .int .u64 n3, .int .u64 n4, .int .u64 n5, .int .u64 n6, .int .u64 n7, .int .u64 n8] by rw [h0, h1, h2, h3, h4, h5, h6, h7, h8]; rfl] at h
    exact h)
  have Whi := Lib.hid (show ∀ wx, Calls Try.prog 11 #[.agg #[.int .u32 n0, .int .u32 n1, .int .u64 n2, .int .u64 n3, .int .u64 n4, .int .u64 n5, .int .u64 n6, .int .u64 n7, .int .u64 n8], .int .u32 20] wx (WordPost (leN bs 20 4) true wx) from fun wx => by
    have h := word_yes bs 20 wx hl hb (by omega) (by omega)
    rw [show recL bs = [.int .u32 n0, .int .u32 n1, .int .u64 n2, .int .u64 n3, .int .u64 n4, .int .u64 n5, .int .u64 n6, .int .u64 n7, .int .u64 n8] by rw [h0, h1, h2, h3, h4, h5, h6, h7, h8]; rfl] at h
    exact h)
  have hlo := leN4_lt hb 16
  have hhi := leN4_lt hb 20
  have h8' := leN_8 bs 16
  rw [← h3] at h8'
  obtain ⟨lo, hlod⟩ : ∃ x, x = leN bs 16 4 := ⟨_, rfl⟩
  obtain ⟨hi, hhid⟩ : ∃ x, x = leN bs 20 4 := ⟨_, rfl⟩
  rw [show 16 + 4 = 20 from rfl, ← hhid, ← hlod] at h8'
  rw [← hlod] at Wlo hlo
  rw [← hhid] at Whi hhi
  have hor := or_hl lo hi n3 hlo hhi h8'
  have Hlo := Lib.hid (show ∀ wx, Calls Try.prog 12 #[.int .i64 a, .bool false] wx fun e w' => e = .returned (.int .u32 16) ∧ wx = w' from fun wx => by
    have h := half_any (a) false wx
    rw [show arg5 (a) = 0 by unfold arg5; omega] at h
    exact h)
  have Hhi := Lib.hid (show ∀ wx, Calls Try.prog 12 #[.int .i64 a, .bool true] wx fun e w' => e = .returned (.int .u32 20) ∧ wx = w' from fun wx => by
    have h := half_any (a) true wx
    rw [show arg5 (a) = 0 by unfold arg5; omega] at h
    exact h)
  clear h0 h1 h2 h3 h4 h5 h6 h7 h8 hlod hhid h8' hl hb
  go_enter Try.func4, Try.ntmps4
  go_wp2_with fail
  refine (awake_any _).mono ?_
  rintro e w' ⟨rfl, rfl⟩
  go_wp2_with fail
  have hbk := Bk.new w 26 #[.int .u32 n0, .int .u32 n1, .int .u64 n2, .int .u64 n3, .int .u64 n4, .int .u64 n5, .int .u64 n6, .int .u64 n7, .int .u64 n8] rfl
  have hbe := (Below.refl w.heap.size w).alloc (Nat.le_refl _) (.cells #[.int .u32 n0, .int .u32 n1, .int .u64 n2, .int .u64 n3, .int .u64 n4, .int .u64 n5, .int .u64 n6, .int .u64 n7, .int .u64 n8] 26)
  revert hbk hbe
  generalize w.alloc (.cells #[.int .u32 n0, .int .u32 n1, .int .u64 n2, .int .u64 n3, .int .u64 n4, .int .u64 n5, .int .u64 n6, .int .u64 n7, .int .u64 n8] 26) = wz
  intro hbk hbe
  have Hbk := Lib.hid hbk
  have Hbe := Lib.hid hbe
  have HS := Lib.hid (show ∀ w', Below wz.heap.size wz w' → (fun w' => (Instr.loadAt 26 (.pointer (some ⟨w.heap.size, 0, none⟩))).run Try.prog w' = .ok (.agg #[.int .u32 n0, .int .u32 n1, .int .u64 n2, .int .u64 n3, .int .u64 n4, .int .u64 n5, .int .u64 n6, .int .u64 n7, .int .u64 n8]) w' ∧ Hid (Below wz.heap.size wz w')) w' from fun w' h => ⟨ld_rec (hbk.kept h) rfl, h⟩)
  clear hbk hbe
  refine wp_region_held_drew (S := (fun w' => (Instr.loadAt 26 (.pointer (some ⟨w.heap.size, 0, none⟩))).run Try.prog w' = .ok (.agg #[.int .u32 n0, .int .u32 n1, .int .u64 n2, .int .u64 n3, .int .u64 n4, .int .u64 n5, .int .u64 n6, .int .u64 n7, .int .u64 n8]) w' ∧ Hid (Below wz.heap.size wz w'))) (by kernel_rfl) ?_ (fun hHeld0 => ?_)
  · exact HS.out _ (Below.refl _ _).drew
  refine wpAnyH_take (i := 0) (v := ?_) (by first | (simp only [List.getElem?_toArray, List.getElem?_cons_zero] <;> rfl) | rfl) (by kernel_rfl) (by kernel_rfl) (by kernel_rfl) (by exact fun _ _ _ h => h) (Or.inl ⟨by rfl, ?_⟩) hHeld0 ?_
  rotate_left 1
  · intro w hSw
    refine Eq.trans (exec_load rfl rfl (hSw.1)) ?_
    with_reducible rfl
  try simp only [Act.put, List.setIfInBounds_toArray, List.set_cons_zero, List.set_cons_succ]
  refine wpAnyH_take (i := 1) (v := ?_) (by first | (simp only [List.getElem?_toArray, List.getElem?_cons_succ, List.getElem?_cons_zero] <;> rfl) | rfl) (by kernel_rfl) (by kernel_rfl) (by kernel_rfl) (by exact fun _ _ _ h => h) (Or.inl ⟨by rfl, ?_⟩) hHeld0 ?_
  rotate_left 1
  · intro w hSw
    try dsimp only at hSw
    (go_simp) <;> (with_reducible rfl)
  try simp only [Act.put, List.setIfInBounds_toArray, List.set_cons_zero, List.set_cons_succ]
  refine wpAnyH_ready (rs := [2]) (by kernel_rfl) (by simp) ?_
  refine AllReadyH.cons (by first | (simp only [List.getElem?_toArray, List.getElem?_cons_succ, List.getElem?_cons_zero] <;> rfl) | rfl) (fun K hK => ?_) AllReadyH.nil
  go_simp
  refine (Hlo.out _).mono ?_; rintro e wa ⟨rfl, rfl⟩
  go_wp2_with fail
  refine hK.out _ _ ?_ (fun hHeld1 => ?_)
  · (try dsimp only)
    exact HS.out _ (step1 hHeld0)
  clear hK K hHeld0
  try simp only [Act.put, List.setIfInBounds_toArray, List.set_cons_zero, List.set_cons_succ]
  refine wpAnyH_ready (rs := [3]) (by kernel_rfl) (by simp) ?_
  refine AllReadyH.cons (by first | (simp only [List.getElem?_toArray, List.getElem?_cons_succ, List.getElem?_cons_zero] <;> rfl) | rfl) (fun K hK => ?_) AllReadyH.nil
  go_simp
  refine (Wlo.out _).mono ?_; rintro e wa ⟨rfl, hba⟩
  go_wp2_with fail
  refine hK.out _ _ ?_ (fun hHeld2 => ?_)
  · (try dsimp only)
    exact HS.out _ (step2 hba hHeld1)
  clear hK K hHeld1
  try simp only [Act.put, List.setIfInBounds_toArray, List.set_cons_zero, List.set_cons_succ]
  refine wpAnyH_take (i := 4) (v := ?_) (by first | (simp only [List.getElem?_toArray, List.getElem?_cons_succ, List.getElem?_cons_zero] <;> rfl) | rfl) (by kernel_rfl) (by kernel_rfl) (by kernel_rfl) (by exact fun _ _ _ h => h) (Or.inl ⟨by rfl, ?_⟩) hHeld2 ?_
  rotate_left 1
  · intro w hSw
    try dsimp only at hSw
    (go_simp) <;> (with_reducible rfl)
  try simp only [Act.put, List.setIfInBounds_toArray, List.set_cons_zero, List.set_cons_succ]
  refine wpAnyH_take (i := 5) (v := ?_) (by first | (simp only [List.getElem?_toArray, List.getElem?_cons_succ, List.getElem?_cons_zero] <;> rfl) | rfl) (by kernel_rfl) (by kernel_rfl) (by kernel_rfl) (by exact fun _ _ _ h => h) (Or.inl ⟨by rfl, ?_⟩) hHeld2 ?_
  rotate_left 1
  · intro w hSw
    try dsimp only at hSw
    (go_simp) <;> (with_reducible rfl)
  try simp only [Act.put, List.setIfInBounds_toArray, List.set_cons_zero, List.set_cons_succ]
  refine wpAnyH_take (i := 6) (v := ?_) (by first | (simp only [List.getElem?_toArray, List.getElem?_cons_succ, List.getElem?_cons_zero] <;> rfl) | rfl) (by kernel_rfl) (by kernel_rfl) (by kernel_rfl) (by exact fun _ _ _ h => h) (Or.inl ⟨by rfl, ?_⟩) hHeld2 ?_
  rotate_left 1
  · intro w hSw
    try dsimp only at hSw
    (go_simp) <;> (with_reducible rfl)
  try simp only [Act.put, List.setIfInBounds_toArray, List.set_cons_zero, List.set_cons_succ]
  refine wpAnyH_take (i := 7) (v := ?_) (by first | (simp only [List.getElem?_toArray, List.getElem?_cons_succ, List.getElem?_cons_zero] <;> rfl) | rfl) (by kernel_rfl) (by kernel_rfl) (by kernel_rfl) (by exact fun _ _ _ h => h) (Or.inl ⟨by rfl, ?_⟩) hHeld2 ?_
  rotate_left 1
  · intro w hSw
    try dsimp only at hSw
    (go_simp) <;> (with_reducible rfl)
  try simp only [Act.put, List.setIfInBounds_toArray, List.set_cons_zero, List.set_cons_succ]
  refine wpAnyH_take (i := 8) (v := ?_) (by first | (simp only [List.getElem?_toArray, List.getElem?_cons_succ, List.getElem?_cons_zero] <;> rfl) | rfl) (by kernel_rfl) (by kernel_rfl) (by kernel_rfl) (by exact fun _ _ _ h => h) (Or.inl ⟨by rfl, ?_⟩) hHeld2 ?_
  rotate_left 1
  · intro w hSw
    try dsimp only at hSw
    (go_simp) <;> (with_reducible rfl)
  try simp only [Act.put, List.setIfInBounds_toArray, List.set_cons_zero, List.set_cons_succ]
  refine wpAnyH_done (by kernel_rfl) ?_ _
  have Hm := Lib.hid (step1 hHeld2)
  clear hHeld2
  go_wp2_with fail
  refine wp_region_held_drew (S := (fun w' => (Instr.loadAt 26 (.pointer (some ⟨w.heap.size, 0, none⟩))).run Try.prog w' = .ok (.agg #[.int .u32 n0, .int .u32 n1, .int .u64 n2, .int .u64 n3, .int .u64 n4, .int .u64 n5, .int .u64 n6, .int .u64 n7, .int .u64 n8]) w' ∧ Hid (Below wz.heap.size wz w'))) (by kernel_rfl) ?_ (fun hHeld0 => ?_)
  · exact HS.out _ Hm.out.drew
  refine wpAnyH_take (i := 0) (v := ?_) (by first | (simp only [List.getElem?_toArray, List.getElem?_cons_zero] <;> rfl) | rfl) (by kernel_rfl) (by kernel_rfl) (by kernel_rfl) (by exact fun _ _ _ h => h) (Or.inl ⟨by rfl, ?_⟩) hHeld0 ?_
  rotate_left 1
  · intro w hSw
    refine Eq.trans (exec_load rfl rfl (hSw.1)) ?_
    with_reducible rfl
  try simp only [Act.put, List.setIfInBounds_toArray, List.set_cons_zero, List.set_cons_succ]
  refine wpAnyH_take (i := 1) (v := ?_) (by first | (simp only [List.getElem?_toArray, List.getElem?_cons_succ, List.getElem?_cons_zero] <;> rfl) | rfl) (by kernel_rfl) (by kernel_rfl) (by kernel_rfl) (by exact fun _ _ _ h => h) (Or.inl ⟨by rfl, ?_⟩) hHeld0 ?_
  rotate_left 1
  · intro w hSw
    try dsimp only at hSw
    (go_simp) <;> (with_reducible rfl)
  try simp only [Act.put, List.setIfInBounds_toArray, List.set_cons_zero, List.set_cons_succ]
  refine wpAnyH_ready (rs := [2]) (by kernel_rfl) (by simp) ?_
  refine AllReadyH.cons (by first | (simp only [List.getElem?_toArray, List.getElem?_cons_succ, List.getElem?_cons_zero] <;> rfl) | rfl) (fun K hK => ?_) AllReadyH.nil
  go_simp
  refine (Hhi.out _).mono ?_; rintro e wb ⟨rfl, rfl⟩
  go_wp2_with fail
  refine hK.out _ _ ?_ (fun hHeld1 => ?_)
  · (try dsimp only)
    exact HS.out _ (step1 hHeld0)
  clear hK K hHeld0
  try simp only [Act.put, List.setIfInBounds_toArray, List.set_cons_zero, List.set_cons_succ]
  refine wpAnyH_ready (rs := [3]) (by kernel_rfl) (by simp) ?_
  refine AllReadyH.cons (by first | (simp only [List.getElem?_toArray, List.getElem?_cons_succ, List.getElem?_cons_zero] <;> rfl) | rfl) (fun K hK => ?_) AllReadyH.nil
  go_simp
  refine (Whi.out _).mono ?_; rintro e wb ⟨rfl, hbb⟩
  go_wp2_with fail
  refine hK.out _ _ ?_ (fun hHeld2 => ?_)
  · (try dsimp only)
    exact HS.out _ (step2 hbb hHeld1)
  clear hK K hHeld1
  try simp only [Act.put, List.setIfInBounds_toArray, List.set_cons_zero, List.set_cons_succ]
  refine wpAnyH_take (i := 4) (v := ?_) (by first | (simp only [List.getElem?_toArray, List.getElem?_cons_succ, List.getElem?_cons_zero] <;> rfl) | rfl) (by kernel_rfl) (by kernel_rfl) (by kernel_rfl) (by exact fun _ _ _ h => h) (Or.inl ⟨by rfl, ?_⟩) hHeld2 ?_
  rotate_left 1
  · intro w hSw
    try dsimp only at hSw
    (go_simp) <;> (with_reducible rfl)
  try simp only [Act.put, List.setIfInBounds_toArray, List.set_cons_zero, List.set_cons_succ]
  refine wpAnyH_take (i := 5) (v := ?_) (by first | (simp only [List.getElem?_toArray, List.getElem?_cons_succ, List.getElem?_cons_zero] <;> rfl) | rfl) (by kernel_rfl) (by kernel_rfl) (by kernel_rfl) (by exact fun _ _ _ h => h) (Or.inl ⟨by rfl, ?_⟩) hHeld2 ?_
  rotate_left 1
  · intro w hSw
    try dsimp only at hSw
    (go_simp) <;> (with_reducible rfl)
  try simp only [Act.put, List.setIfInBounds_toArray, List.set_cons_zero, List.set_cons_succ]
  refine wpAnyH_take (i := 6) (v := ?_) (by first | (simp only [List.getElem?_toArray, List.getElem?_cons_succ, List.getElem?_cons_zero] <;> rfl) | rfl) (by kernel_rfl) (by kernel_rfl) (by kernel_rfl) (by exact fun _ _ _ h => h) (Or.inl ⟨by rfl, ?_⟩) hHeld2 ?_
  rotate_left 1
  · intro w hSw
    try dsimp only at hSw
    (go_simp) <;> (with_reducible rfl)
  try simp only [Act.put, List.setIfInBounds_toArray, List.set_cons_zero, List.set_cons_succ]
  refine wpAnyH_take (i := 7) (v := ?_) (by first | (simp only [List.getElem?_toArray, List.getElem?_cons_succ, List.getElem?_cons_zero] <;> rfl) | rfl) (by kernel_rfl) (by kernel_rfl) (by kernel_rfl) (by exact fun _ _ _ h => h) (Or.inl ⟨by rfl, ?_⟩) hHeld2 ?_
  rotate_left 1
  · intro w hSw
    try dsimp only at hSw
    (go_simp) <;> (with_reducible rfl)
  try simp only [Act.put, List.setIfInBounds_toArray, List.set_cons_zero, List.set_cons_succ]
  refine wpAnyH_take (i := 8) (v := ?_) (by first | (simp only [List.getElem?_toArray, List.getElem?_cons_succ, List.getElem?_cons_zero] <;> rfl) | rfl) (by kernel_rfl) (by kernel_rfl) (by kernel_rfl) (by exact fun _ _ _ h => h) (Or.inl ⟨by rfl, ?_⟩) hHeld2 ?_
  rotate_left 1
  · intro w hSw
    try dsimp only at hSw
    (go_simp) <;> (with_reducible rfl)
  try simp only [Act.put, List.setIfInBounds_toArray, List.set_cons_zero, List.set_cons_succ]
  refine wpAnyH_done (by kernel_rfl) ?_ _
  have Hend := Lib.hid (step1 hHeld2)
  have c3 := (Hbk.out.kept Hend.out).cell 3 rfl
  clear hHeld2
  go_wp2_with fail
  go_ret
  exact ⟨rfl, Hbe.out.trans (Hend.out.mono Hbe.out.size)⟩
set_option maxRecDepth 100000 in
set_option maxHeartbeats 2000000 in
theorem halves_0 (bs : List Nat) (n0 n1 n2 n3 n4 n5 n6 n7 n8 : Nat) (w : World) (hl : bs.length = 64) (hb : Small8 bs) (h0 : n0 = leN bs 0 4) (h1 : n1 = leN bs 4 4) (h2 : n2 = leN bs 8 8) (h3 : n3 = leN bs 16 8) (h4 : n4 = leN bs 24 8) (h5 : n5 = leN bs 32 8) (h6 : n6 = leN bs 40 8) (h7 : n7 = leN bs 48 8) (h8 : n8 = leN bs 56 8) :
    Calls Try.prog 4 #[.agg #[.int .u32 n0, .int .u32 n1, .int .u64 n2, .int .u64 n3, .int .u64 n4, .int .u64 n5, .int .u64 n6, .int .u64 n7, .int .u64 n8], .int .i64 0] w (Yes w) := by
  have Wlo := Lib.hid (show ∀ wx, Calls Try.prog 11 #[.agg #[.int .u32 n0, .int .u32 n1, .int .u64 n2, .int .u64 n3, .int .u64 n4, .int .u64 n5, .int .u64 n6, .int .u64 n7, .int .u64 n8], .int .u32 16] wx (WordPost (leN bs 16 4) true wx) from fun wx => by
    have h := word_yes bs 16 wx hl hb (by omega) (by omega)
    rw [show recL bs = [.int .u32 n0, .int .u32 n1, .int .u64 n2, .int .u64 n3, .int .u64 n4, .int .u64 n5, .int .u64 n6, .int .u64 n7, .int .u64 n8] by rw [h0, h1, h2, h3, h4, h5, h6, h7, h8]; rfl] at h
    exact h)
  have Whi := Lib.hid (show ∀ wx, Calls Try.prog 11 #[.agg #[.int .u32 n0, .int .u32 n1, .int .u64 n2, .int .u64 n3, .int .u64 n4, .int .u64 n5, .int .u64 n6, .int .u64 n7, .int .u64 n8], .int .u32 20] wx (WordPost (leN bs 20 4) true wx) from fun wx => by
    have h := word_yes bs 20 wx hl hb (by omega) (by omega)
    rw [show recL bs = [.int .u32 n0, .int .u32 n1, .int .u64 n2, .int .u64 n3, .int .u64 n4, .int .u64 n5, .int .u64 n6, .int .u64 n7, .int .u64 n8] by rw [h0, h1, h2, h3, h4, h5, h6, h7, h8]; rfl] at h
    exact h)
  have hlo := leN4_lt hb 16
  have hhi := leN4_lt hb 20
  have h8' := leN_8 bs 16
  rw [← h3] at h8'
  obtain ⟨lo, hlod⟩ : ∃ x, x = leN bs 16 4 := ⟨_, rfl⟩
  obtain ⟨hi, hhid⟩ : ∃ x, x = leN bs 20 4 := ⟨_, rfl⟩
  rw [show 16 + 4 = 20 from rfl, ← hhid, ← hlod] at h8'
  rw [← hlod] at Wlo hlo
  rw [← hhid] at Whi hhi
  have hor := or_hl lo hi n3 hlo hhi h8'
  have Hlo := Lib.hid (show ∀ wx, Calls Try.prog 12 #[.int .i64 0, .bool false] wx fun e w' => e = .returned (.int .u32 16) ∧ wx = w' from fun wx => by
    have h := half_any (0) false wx
    rw [show arg5 (0) = 0 by rfl] at h
    exact h)
  have Hhi := Lib.hid (show ∀ wx, Calls Try.prog 12 #[.int .i64 0, .bool true] wx fun e w' => e = .returned (.int .u32 20) ∧ wx = w' from fun wx => by
    have h := half_any (0) true wx
    rw [show arg5 (0) = 0 by rfl] at h
    exact h)
  clear h0 h1 h2 h3 h4 h5 h6 h7 h8 hlod hhid h8' hl hb
  go_enter Try.func4, Try.ntmps4
  go_wp2_with fail
  refine (awake_any _).mono ?_
  rintro e w' ⟨rfl, rfl⟩
  go_wp2_with fail
  have hbk := Bk.new w 26 #[.int .u32 n0, .int .u32 n1, .int .u64 n2, .int .u64 n3, .int .u64 n4, .int .u64 n5, .int .u64 n6, .int .u64 n7, .int .u64 n8] rfl
  have hbe := (Below.refl w.heap.size w).alloc (Nat.le_refl _) (.cells #[.int .u32 n0, .int .u32 n1, .int .u64 n2, .int .u64 n3, .int .u64 n4, .int .u64 n5, .int .u64 n6, .int .u64 n7, .int .u64 n8] 26)
  revert hbk hbe
  generalize w.alloc (.cells #[.int .u32 n0, .int .u32 n1, .int .u64 n2, .int .u64 n3, .int .u64 n4, .int .u64 n5, .int .u64 n6, .int .u64 n7, .int .u64 n8] 26) = wz
  intro hbk hbe
  have Hbk := Lib.hid hbk
  have Hbe := Lib.hid hbe
  have HS := Lib.hid (show ∀ w', Below wz.heap.size wz w' → (fun w' => (Instr.loadAt 26 (.pointer (some ⟨w.heap.size, 0, none⟩))).run Try.prog w' = .ok (.agg #[.int .u32 n0, .int .u32 n1, .int .u64 n2, .int .u64 n3, .int .u64 n4, .int .u64 n5, .int .u64 n6, .int .u64 n7, .int .u64 n8]) w' ∧ Hid (Below wz.heap.size wz w')) w' from fun w' h => ⟨ld_rec (hbk.kept h) rfl, h⟩)
  clear hbk hbe
  refine wp_region_held_drew (S := (fun w' => (Instr.loadAt 26 (.pointer (some ⟨w.heap.size, 0, none⟩))).run Try.prog w' = .ok (.agg #[.int .u32 n0, .int .u32 n1, .int .u64 n2, .int .u64 n3, .int .u64 n4, .int .u64 n5, .int .u64 n6, .int .u64 n7, .int .u64 n8]) w' ∧ Hid (Below wz.heap.size wz w'))) (by kernel_rfl) ?_ (fun hHeld0 => ?_)
  · exact HS.out _ (Below.refl _ _).drew
  refine wpAnyH_take (i := 0) (v := ?_) (by first | (simp only [List.getElem?_toArray, List.getElem?_cons_zero] <;> rfl) | rfl) (by kernel_rfl) (by kernel_rfl) (by kernel_rfl) (by exact fun _ _ _ h => h) (Or.inl ⟨by rfl, ?_⟩) hHeld0 ?_
  rotate_left 1
  · intro w hSw
    refine Eq.trans (exec_load rfl rfl (hSw.1)) ?_
    with_reducible rfl
  try simp only [Act.put, List.setIfInBounds_toArray, List.set_cons_zero, List.set_cons_succ]
  refine wpAnyH_take (i := 1) (v := ?_) (by first | (simp only [List.getElem?_toArray, List.getElem?_cons_succ, List.getElem?_cons_zero] <;> rfl) | rfl) (by kernel_rfl) (by kernel_rfl) (by kernel_rfl) (by exact fun _ _ _ h => h) (Or.inl ⟨by rfl, ?_⟩) hHeld0 ?_
  rotate_left 1
  · intro w hSw
    try dsimp only at hSw
    (go_simp) <;> (with_reducible rfl)
  try simp only [Act.put, List.setIfInBounds_toArray, List.set_cons_zero, List.set_cons_succ]
  refine wpAnyH_ready (rs := [2]) (by kernel_rfl) (by simp) ?_
  refine AllReadyH.cons (by first | (simp only [List.getElem?_toArray, List.getElem?_cons_succ, List.getElem?_cons_zero] <;> rfl) | rfl) (fun K hK => ?_) AllReadyH.nil
  go_simp
  refine (Hlo.out _).mono ?_; rintro e wa ⟨rfl, rfl⟩
  go_wp2_with fail
  refine hK.out _ _ ?_ (fun hHeld1 => ?_)
  · (try dsimp only)
    exact HS.out _ (step1 hHeld0)
  clear hK K hHeld0
  try simp only [Act.put, List.setIfInBounds_toArray, List.set_cons_zero, List.set_cons_succ]
  refine wpAnyH_ready (rs := [3]) (by kernel_rfl) (by simp) ?_
  refine AllReadyH.cons (by first | (simp only [List.getElem?_toArray, List.getElem?_cons_succ, List.getElem?_cons_zero] <;> rfl) | rfl) (fun K hK => ?_) AllReadyH.nil
  go_simp
  refine (Wlo.out _).mono ?_; rintro e wa ⟨rfl, hba⟩
  go_wp2_with fail
  refine hK.out _ _ ?_ (fun hHeld2 => ?_)
  · (try dsimp only)
    exact HS.out _ (step2 hba hHeld1)
  clear hK K hHeld1
  try simp only [Act.put, List.setIfInBounds_toArray, List.set_cons_zero, List.set_cons_succ]
  refine wpAnyH_take (i := 4) (v := ?_) (by first | (simp only [List.getElem?_toArray, List.getElem?_cons_succ, List.getElem?_cons_zero] <;> rfl) | rfl) (by kernel_rfl) (by kernel_rfl) (by kernel_rfl) (by exact fun _ _ _ h => h) (Or.inl ⟨by rfl, ?_⟩) hHeld2 ?_
  rotate_left 1
  · intro w hSw
    try dsimp only at hSw
    (go_simp) <;> (with_reducible rfl)
  try simp only [Act.put, List.setIfInBounds_toArray, List.set_cons_zero, List.set_cons_succ]
  refine wpAnyH_take (i := 5) (v := ?_) (by first | (simp only [List.getElem?_toArray, List.getElem?_cons_succ, List.getElem?_cons_zero] <;> rfl) | rfl) (by kernel_rfl) (by kernel_rfl) (by kernel_rfl) (by exact fun _ _ _ h => h) (Or.inl ⟨by rfl, ?_⟩) hHeld2 ?_
  rotate_left 1
  · intro w hSw
    try dsimp only at hSw
    (go_simp) <;> (with_reducible rfl)
  try simp only [Act.put, List.setIfInBounds_toArray, List.set_cons_zero, List.set_cons_succ]
  refine wpAnyH_take (i := 6) (v := ?_) (by first | (simp only [List.getElem?_toArray, List.getElem?_cons_succ, List.getElem?_cons_zero] <;> rfl) | rfl) (by kernel_rfl) (by kernel_rfl) (by kernel_rfl) (by exact fun _ _ _ h => h) (Or.inl ⟨by rfl, ?_⟩) hHeld2 ?_
  rotate_left 1
  · intro w hSw
    try dsimp only at hSw
    (go_simp) <;> (with_reducible rfl)
  try simp only [Act.put, List.setIfInBounds_toArray, List.set_cons_zero, List.set_cons_succ]
  refine wpAnyH_take (i := 7) (v := ?_) (by first | (simp only [List.getElem?_toArray, List.getElem?_cons_succ, List.getElem?_cons_zero] <;> rfl) | rfl) (by kernel_rfl) (by kernel_rfl) (by kernel_rfl) (by exact fun _ _ _ h => h) (Or.inl ⟨by rfl, ?_⟩) hHeld2 ?_
  rotate_left 1
  · intro w hSw
    try dsimp only at hSw
    (go_simp) <;> (with_reducible rfl)
  try simp only [Act.put, List.setIfInBounds_toArray, List.set_cons_zero, List.set_cons_succ]
  refine wpAnyH_take (i := 8) (v := ?_) (by first | (simp only [List.getElem?_toArray, List.getElem?_cons_succ, List.getElem?_cons_zero] <;> rfl) | rfl) (by kernel_rfl) (by kernel_rfl) (by kernel_rfl) (by exact fun _ _ _ h => h) (Or.inl ⟨by rfl, ?_⟩) hHeld2 ?_
  rotate_left 1
  · intro w hSw
    try dsimp only at hSw
    (go_simp) <;> (with_reducible rfl)
  try simp only [Act.put, List.setIfInBounds_toArray, List.set_cons_zero, List.set_cons_succ]
  refine wpAnyH_done (by kernel_rfl) ?_ _
  have Hm := Lib.hid (step1 hHeld2)
  clear hHeld2
  go_wp2_with fail
  refine wp_region_held_drew (S := (fun w' => (Instr.loadAt 26 (.pointer (some ⟨w.heap.size, 0, none⟩))).run Try.prog w' = .ok (.agg #[.int .u32 n0, .int .u32 n1, .int .u64 n2, .int .u64 n3, .int .u64 n4, .int .u64 n5, .int .u64 n6, .int .u64 n7, .int .u64 n8]) w' ∧ Hid (Below wz.heap.size wz w'))) (by kernel_rfl) ?_ (fun hHeld0 => ?_)
  · exact HS.out _ Hm.out.drew
  refine wpAnyH_take (i := 0) (v := ?_) (by first | (simp only [List.getElem?_toArray, List.getElem?_cons_zero] <;> rfl) | rfl) (by kernel_rfl) (by kernel_rfl) (by kernel_rfl) (by exact fun _ _ _ h => h) (Or.inl ⟨by rfl, ?_⟩) hHeld0 ?_
  rotate_left 1
  · intro w hSw
    refine Eq.trans (exec_load rfl rfl (hSw.1)) ?_
    with_reducible rfl
  try simp only [Act.put, List.setIfInBounds_toArray, List.set_cons_zero, List.set_cons_succ]
  refine wpAnyH_take (i := 1) (v := ?_) (by first | (simp only [List.getElem?_toArray, List.getElem?_cons_succ, List.getElem?_cons_zero] <;> rfl) | rfl) (by kernel_rfl) (by kernel_rfl) (by kernel_rfl) (by exact fun _ _ _ h => h) (Or.inl ⟨by rfl, ?_⟩) hHeld0 ?_
  rotate_left 1
  · intro w hSw
    try dsimp only at hSw
    (go_simp) <;> (with_reducible rfl)
  try simp only [Act.put, List.setIfInBounds_toArray, List.set_cons_zero, List.set_cons_succ]
  refine wpAnyH_ready (rs := [2]) (by kernel_rfl) (by simp) ?_
  refine AllReadyH.cons (by first | (simp only [List.getElem?_toArray, List.getElem?_cons_succ, List.getElem?_cons_zero] <;> rfl) | rfl) (fun K hK => ?_) AllReadyH.nil
  go_simp
  refine (Hhi.out _).mono ?_; rintro e wb ⟨rfl, rfl⟩
  go_wp2_with fail
  refine hK.out _ _ ?_ (fun hHeld1 => ?_)
  · (try dsimp only)
    exact HS.out _ (step1 hHeld0)
  clear hK K hHeld0
  try simp only [Act.put, List.setIfInBounds_toArray, List.set_cons_zero, List.set_cons_succ]
  refine wpAnyH_ready (rs := [3]) (by kernel_rfl) (by simp) ?_
  refine AllReadyH.cons (by first | (simp only [List.getElem?_toArray, List.getElem?_cons_succ, List.getElem?_cons_zero] <;> rfl) | rfl) (fun K hK => ?_) AllReadyH.nil
  go_simp
  refine (Whi.out _).mono ?_; rintro e wb ⟨rfl, hbb⟩
  go_wp2_with fail
  refine hK.out _ _ ?_ (fun hHeld2 => ?_)
  · (try dsimp only)
    exact HS.out _ (step2 hbb hHeld1)
  clear hK K hHeld1
  try simp only [Act.put, List.setIfInBounds_toArray, List.set_cons_zero, List.set_cons_succ]
  refine wpAnyH_take (i := 4) (v := ?_) (by first | (simp only [List.getElem?_toArray, List.getElem?_cons_succ, List.getElem?_cons_zero] <;> rfl) | rfl) (by kernel_rfl) (by kernel_rfl) (by kernel_rfl) (by exact fun _ _ _ h => h) (Or.inl ⟨by rfl, ?_⟩) hHeld2 ?_
  rotate_left 1
  · intro w hSw
    try dsimp only at hSw
    (go_simp) <;> (with_reducible rfl)
  try simp only [Act.put, List.setIfInBounds_toArray, List.set_cons_zero, List.set_cons_succ]
  refine wpAnyH_take (i := 5) (v := ?_) (by first | (simp only [List.getElem?_toArray, List.getElem?_cons_succ, List.getElem?_cons_zero] <;> rfl) | rfl) (by kernel_rfl) (by kernel_rfl) (by kernel_rfl) (by exact fun _ _ _ h => h) (Or.inl ⟨by rfl, ?_⟩) hHeld2 ?_
  rotate_left 1
  · intro w hSw
    try dsimp only at hSw
    (go_simp) <;> (with_reducible rfl)
  try simp only [Act.put, List.setIfInBounds_toArray, List.set_cons_zero, List.set_cons_succ]
  refine wpAnyH_take (i := 6) (v := ?_) (by first | (simp only [List.getElem?_toArray, List.getElem?_cons_succ, List.getElem?_cons_zero] <;> rfl) | rfl) (by kernel_rfl) (by kernel_rfl) (by kernel_rfl) (by exact fun _ _ _ h => h) (Or.inl ⟨by rfl, ?_⟩) hHeld2 ?_
  rotate_left 1
  · intro w hSw
    try dsimp only at hSw
    (go_simp) <;> (with_reducible rfl)
  try simp only [Act.put, List.setIfInBounds_toArray, List.set_cons_zero, List.set_cons_succ]
  refine wpAnyH_take (i := 7) (v := ?_) (by first | (simp only [List.getElem?_toArray, List.getElem?_cons_succ, List.getElem?_cons_zero] <;> rfl) | rfl) (by kernel_rfl) (by kernel_rfl) (by kernel_rfl) (by exact fun _ _ _ h => h) (Or.inl ⟨by rfl, ?_⟩) hHeld2 ?_
  rotate_left 1
  · intro w hSw
    try dsimp only at hSw
    (go_simp) <;> (with_reducible rfl)
  try simp only [Act.put, List.setIfInBounds_toArray, List.set_cons_zero, List.set_cons_succ]
  refine wpAnyH_take (i := 8) (v := ?_) (by first | (simp only [List.getElem?_toArray, List.getElem?_cons_succ, List.getElem?_cons_zero] <;> rfl) | rfl) (by kernel_rfl) (by kernel_rfl) (by kernel_rfl) (by exact fun _ _ _ h => h) (Or.inl ⟨by rfl, ?_⟩) hHeld2 ?_
  rotate_left 1
  · intro w hSw
    try dsimp only at hSw
    (go_simp) <;> (with_reducible rfl)
  try simp only [Act.put, List.setIfInBounds_toArray, List.set_cons_zero, List.set_cons_succ]
  refine wpAnyH_done (by kernel_rfl) ?_ _
  have Hend := Lib.hid (step1 hHeld2)
  have c3 := (Hbk.out.kept Hend.out).cell 3 rfl
  clear hHeld2
  go_wp2_with fail
  go_ret
  exact ⟨rfl, Hbe.out.trans (Hend.out.mono Hbe.out.size)⟩
set_option maxRecDepth 100000 in
set_option maxHeartbeats 2000000 in
theorem halves_1 (bs : List Nat) (n0 n1 n2 n3 n4 n5 n6 n7 n8 : Nat) (w : World) (hl : bs.length = 64) (hb : Small8 bs) (h0 : n0 = leN bs 0 4) (h1 : n1 = leN bs 4 4) (h2 : n2 = leN bs 8 8) (h3 : n3 = leN bs 16 8) (h4 : n4 = leN bs 24 8) (h5 : n5 = leN bs 32 8) (h6 : n6 = leN bs 40 8) (h7 : n7 = leN bs 48 8) (h8 : n8 = leN bs 56 8) :
    Calls Try.prog 4 #[.agg #[.int .u32 n0, .int .u32 n1, .int .u64 n2, .int .u64 n3, .int .u64 n4, .int .u64 n5, .int .u64 n6, .int .u64 n7, .int .u64 n8], .int .i64 1] w (Yes w) := by
  have Wlo := Lib.hid (show ∀ wx, Calls Try.prog 11 #[.agg #[.int .u32 n0, .int .u32 n1, .int .u64 n2, .int .u64 n3, .int .u64 n4, .int .u64 n5, .int .u64 n6, .int .u64 n7, .int .u64 n8], .int .u32 24] wx (WordPost (leN bs 24 4) true wx) from fun wx => by
    have h := word_yes bs 24 wx hl hb (by omega) (by omega)
    rw [show recL bs = [.int .u32 n0, .int .u32 n1, .int .u64 n2, .int .u64 n3, .int .u64 n4, .int .u64 n5, .int .u64 n6, .int .u64 n7, .int .u64 n8] by rw [h0, h1, h2, h3, h4, h5, h6, h7, h8]; rfl] at h
    exact h)
  have Whi := Lib.hid (show ∀ wx, Calls Try.prog 11 #[.agg #[.int .u32 n0, .int .u32 n1, .int .u64 n2, .int .u64 n3, .int .u64 n4, .int .u64 n5, .int .u64 n6, .int .u64 n7, .int .u64 n8], .int .u32 28] wx (WordPost (leN bs 28 4) true wx) from fun wx => by
    have h := word_yes bs 28 wx hl hb (by omega) (by omega)
    rw [show recL bs = [.int .u32 n0, .int .u32 n1, .int .u64 n2, .int .u64 n3, .int .u64 n4, .int .u64 n5, .int .u64 n6, .int .u64 n7, .int .u64 n8] by rw [h0, h1, h2, h3, h4, h5, h6, h7, h8]; rfl] at h
    exact h)
  have hlo := leN4_lt hb 24
  have hhi := leN4_lt hb 28
  have h8' := leN_8 bs 24
  rw [← h4] at h8'
  obtain ⟨lo, hlod⟩ : ∃ x, x = leN bs 24 4 := ⟨_, rfl⟩
  obtain ⟨hi, hhid⟩ : ∃ x, x = leN bs 28 4 := ⟨_, rfl⟩
  rw [show 24 + 4 = 28 from rfl, ← hhid, ← hlod] at h8'
  rw [← hlod] at Wlo hlo
  rw [← hhid] at Whi hhi
  have hor := or_hl lo hi n4 hlo hhi h8'
  have Hlo := Lib.hid (show ∀ wx, Calls Try.prog 12 #[.int .i64 1, .bool false] wx fun e w' => e = .returned (.int .u32 24) ∧ wx = w' from fun wx => by
    have h := half_any (1) false wx
    rw [show arg5 (1) = 1 by rfl] at h
    exact h)
  have Hhi := Lib.hid (show ∀ wx, Calls Try.prog 12 #[.int .i64 1, .bool true] wx fun e w' => e = .returned (.int .u32 28) ∧ wx = w' from fun wx => by
    have h := half_any (1) true wx
    rw [show arg5 (1) = 1 by rfl] at h
    exact h)
  clear h0 h1 h2 h3 h4 h5 h6 h7 h8 hlod hhid h8' hl hb
  go_enter Try.func4, Try.ntmps4
  go_wp2_with fail
  refine (awake_any _).mono ?_
  rintro e w' ⟨rfl, rfl⟩
  go_wp2_with fail
  have hbk := Bk.new w 26 #[.int .u32 n0, .int .u32 n1, .int .u64 n2, .int .u64 n3, .int .u64 n4, .int .u64 n5, .int .u64 n6, .int .u64 n7, .int .u64 n8] rfl
  have hbe := (Below.refl w.heap.size w).alloc (Nat.le_refl _) (.cells #[.int .u32 n0, .int .u32 n1, .int .u64 n2, .int .u64 n3, .int .u64 n4, .int .u64 n5, .int .u64 n6, .int .u64 n7, .int .u64 n8] 26)
  revert hbk hbe
  generalize w.alloc (.cells #[.int .u32 n0, .int .u32 n1, .int .u64 n2, .int .u64 n3, .int .u64 n4, .int .u64 n5, .int .u64 n6, .int .u64 n7, .int .u64 n8] 26) = wz
  intro hbk hbe
  have Hbk := Lib.hid hbk
  have Hbe := Lib.hid hbe
  have HS := Lib.hid (show ∀ w', Below wz.heap.size wz w' → (fun w' => (Instr.loadAt 26 (.pointer (some ⟨w.heap.size, 0, none⟩))).run Try.prog w' = .ok (.agg #[.int .u32 n0, .int .u32 n1, .int .u64 n2, .int .u64 n3, .int .u64 n4, .int .u64 n5, .int .u64 n6, .int .u64 n7, .int .u64 n8]) w' ∧ Hid (Below wz.heap.size wz w')) w' from fun w' h => ⟨ld_rec (hbk.kept h) rfl, h⟩)
  clear hbk hbe
  refine wp_region_held_drew (S := (fun w' => (Instr.loadAt 26 (.pointer (some ⟨w.heap.size, 0, none⟩))).run Try.prog w' = .ok (.agg #[.int .u32 n0, .int .u32 n1, .int .u64 n2, .int .u64 n3, .int .u64 n4, .int .u64 n5, .int .u64 n6, .int .u64 n7, .int .u64 n8]) w' ∧ Hid (Below wz.heap.size wz w'))) (by kernel_rfl) ?_ (fun hHeld0 => ?_)
  · exact HS.out _ (Below.refl _ _).drew
  refine wpAnyH_take (i := 0) (v := ?_) (by first | (simp only [List.getElem?_toArray, List.getElem?_cons_zero] <;> rfl) | rfl) (by kernel_rfl) (by kernel_rfl) (by kernel_rfl) (by exact fun _ _ _ h => h) (Or.inl ⟨by rfl, ?_⟩) hHeld0 ?_
  rotate_left 1
  · intro w hSw
    refine Eq.trans (exec_load rfl rfl (hSw.1)) ?_
    with_reducible rfl
  try simp only [Act.put, List.setIfInBounds_toArray, List.set_cons_zero, List.set_cons_succ]
  refine wpAnyH_take (i := 1) (v := ?_) (by first | (simp only [List.getElem?_toArray, List.getElem?_cons_succ, List.getElem?_cons_zero] <;> rfl) | rfl) (by kernel_rfl) (by kernel_rfl) (by kernel_rfl) (by exact fun _ _ _ h => h) (Or.inl ⟨by rfl, ?_⟩) hHeld0 ?_
  rotate_left 1
  · intro w hSw
    try dsimp only at hSw
    (go_simp) <;> (with_reducible rfl)
  try simp only [Act.put, List.setIfInBounds_toArray, List.set_cons_zero, List.set_cons_succ]
  refine wpAnyH_ready (rs := [2]) (by kernel_rfl) (by simp) ?_
  refine AllReadyH.cons (by first | (simp only [List.getElem?_toArray, List.getElem?_cons_succ, List.getElem?_cons_zero] <;> rfl) | rfl) (fun K hK => ?_) AllReadyH.nil
  go_simp
  refine (Hlo.out _).mono ?_; rintro e wa ⟨rfl, rfl⟩
  go_wp2_with fail
  refine hK.out _ _ ?_ (fun hHeld1 => ?_)
  · (try dsimp only)
    exact HS.out _ (step1 hHeld0)
  clear hK K hHeld0
  try simp only [Act.put, List.setIfInBounds_toArray, List.set_cons_zero, List.set_cons_succ]
  refine wpAnyH_ready (rs := [3]) (by kernel_rfl) (by simp) ?_
  refine AllReadyH.cons (by first | (simp only [List.getElem?_toArray, List.getElem?_cons_succ, List.getElem?_cons_zero] <;> rfl) | rfl) (fun K hK => ?_) AllReadyH.nil
  go_simp
  refine (Wlo.out _).mono ?_; rintro e wa ⟨rfl, hba⟩
  go_wp2_with fail
  refine hK.out _ _ ?_ (fun hHeld2 => ?_)
  · (try dsimp only)
    exact HS.out _ (step2 hba hHeld1)
  clear hK K hHeld1
  try simp only [Act.put, List.setIfInBounds_toArray, List.set_cons_zero, List.set_cons_succ]
  refine wpAnyH_take (i := 4) (v := ?_) (by first | (simp only [List.getElem?_toArray, List.getElem?_cons_succ, List.getElem?_cons_zero] <;> rfl) | rfl) (by kernel_rfl) (by kernel_rfl) (by kernel_rfl) (by exact fun _ _ _ h => h) (Or.inl ⟨by rfl, ?_⟩) hHeld2 ?_
  rotate_left 1
  · intro w hSw
    try dsimp only at hSw
    (go_simp) <;> (with_reducible rfl)
  try simp only [Act.put, List.setIfInBounds_toArray, List.set_cons_zero, List.set_cons_succ]
  refine wpAnyH_take (i := 5) (v := ?_) (by first | (simp only [List.getElem?_toArray, List.getElem?_cons_succ, List.getElem?_cons_zero] <;> rfl) | rfl) (by kernel_rfl) (by kernel_rfl) (by kernel_rfl) (by exact fun _ _ _ h => h) (Or.inl ⟨by rfl, ?_⟩) hHeld2 ?_
  rotate_left 1
  · intro w hSw
    try dsimp only at hSw
    (go_simp) <;> (with_reducible rfl)
  try simp only [Act.put, List.setIfInBounds_toArray, List.set_cons_zero, List.set_cons_succ]
  refine wpAnyH_take (i := 6) (v := ?_) (by first | (simp only [List.getElem?_toArray, List.getElem?_cons_succ, List.getElem?_cons_zero] <;> rfl) | rfl) (by kernel_rfl) (by kernel_rfl) (by kernel_rfl) (by exact fun _ _ _ h => h) (Or.inl ⟨by rfl, ?_⟩) hHeld2 ?_
  rotate_left 1
  · intro w hSw
    try dsimp only at hSw
    (go_simp) <;> (with_reducible rfl)
  try simp only [Act.put, List.setIfInBounds_toArray, List.set_cons_zero, List.set_cons_succ]
  refine wpAnyH_take (i := 7) (v := ?_) (by first | (simp only [List.getElem?_toArray, List.getElem?_cons_succ, List.getElem?_cons_zero] <;> rfl) | rfl) (by kernel_rfl) (by kernel_rfl) (by kernel_rfl) (by exact fun _ _ _ h => h) (Or.inl ⟨by rfl, ?_⟩) hHeld2 ?_
  rotate_left 1
  · intro w hSw
    try dsimp only at hSw
    (go_simp) <;> (with_reducible rfl)
  try simp only [Act.put, List.setIfInBounds_toArray, List.set_cons_zero, List.set_cons_succ]
  refine wpAnyH_take (i := 8) (v := ?_) (by first | (simp only [List.getElem?_toArray, List.getElem?_cons_succ, List.getElem?_cons_zero] <;> rfl) | rfl) (by kernel_rfl) (by kernel_rfl) (by kernel_rfl) (by exact fun _ _ _ h => h) (Or.inl ⟨by rfl, ?_⟩) hHeld2 ?_
  rotate_left 1
  · intro w hSw
    try dsimp only at hSw
    (go_simp) <;> (with_reducible rfl)
  try simp only [Act.put, List.setIfInBounds_toArray, List.set_cons_zero, List.set_cons_succ]
  refine wpAnyH_done (by kernel_rfl) ?_ _
  have Hm := Lib.hid (step1 hHeld2)
  clear hHeld2
  go_wp2_with fail
  refine wp_region_held_drew (S := (fun w' => (Instr.loadAt 26 (.pointer (some ⟨w.heap.size, 0, none⟩))).run Try.prog w' = .ok (.agg #[.int .u32 n0, .int .u32 n1, .int .u64 n2, .int .u64 n3, .int .u64 n4, .int .u64 n5, .int .u64 n6, .int .u64 n7, .int .u64 n8]) w' ∧ Hid (Below wz.heap.size wz w'))) (by kernel_rfl) ?_ (fun hHeld0 => ?_)
  · exact HS.out _ Hm.out.drew
  refine wpAnyH_take (i := 0) (v := ?_) (by first | (simp only [List.getElem?_toArray, List.getElem?_cons_zero] <;> rfl) | rfl) (by kernel_rfl) (by kernel_rfl) (by kernel_rfl) (by exact fun _ _ _ h => h) (Or.inl ⟨by rfl, ?_⟩) hHeld0 ?_
  rotate_left 1
  · intro w hSw
    refine Eq.trans (exec_load rfl rfl (hSw.1)) ?_
    with_reducible rfl
  try simp only [Act.put, List.setIfInBounds_toArray, List.set_cons_zero, List.set_cons_succ]
  refine wpAnyH_take (i := 1) (v := ?_) (by first | (simp only [List.getElem?_toArray, List.getElem?_cons_succ, List.getElem?_cons_zero] <;> rfl) | rfl) (by kernel_rfl) (by kernel_rfl) (by kernel_rfl) (by exact fun _ _ _ h => h) (Or.inl ⟨by rfl, ?_⟩) hHeld0 ?_
  rotate_left 1
  · intro w hSw
    try dsimp only at hSw
    (go_simp) <;> (with_reducible rfl)
  try simp only [Act.put, List.setIfInBounds_toArray, List.set_cons_zero, List.set_cons_succ]
  refine wpAnyH_ready (rs := [2]) (by kernel_rfl) (by simp) ?_
  refine AllReadyH.cons (by first | (simp only [List.getElem?_toArray, List.getElem?_cons_succ, List.getElem?_cons_zero] <;> rfl) | rfl) (fun K hK => ?_) AllReadyH.nil
  go_simp
  refine (Hhi.out _).mono ?_; rintro e wb ⟨rfl, rfl⟩
  go_wp2_with fail
  refine hK.out _ _ ?_ (fun hHeld1 => ?_)
  · (try dsimp only)
    exact HS.out _ (step1 hHeld0)
  clear hK K hHeld0
  try simp only [Act.put, List.setIfInBounds_toArray, List.set_cons_zero, List.set_cons_succ]
  refine wpAnyH_ready (rs := [3]) (by kernel_rfl) (by simp) ?_
  refine AllReadyH.cons (by first | (simp only [List.getElem?_toArray, List.getElem?_cons_succ, List.getElem?_cons_zero] <;> rfl) | rfl) (fun K hK => ?_) AllReadyH.nil
  go_simp
  refine (Whi.out _).mono ?_; rintro e wb ⟨rfl, hbb⟩
  go_wp2_with fail
  refine hK.out _ _ ?_ (fun hHeld2 => ?_)
  · (try dsimp only)
    exact HS.out _ (step2 hbb hHeld1)
  clear hK K hHeld1
  try simp only [Act.put, List.setIfInBounds_toArray, List.set_cons_zero, List.set_cons_succ]
  refine wpAnyH_take (i := 4) (v := ?_) (by first | (simp only [List.getElem?_toArray, List.getElem?_cons_succ, List.getElem?_cons_zero] <;> rfl) | rfl) (by kernel_rfl) (by kernel_rfl) (by kernel_rfl) (by exact fun _ _ _ h => h) (Or.inl ⟨by rfl, ?_⟩) hHeld2 ?_
  rotate_left 1
  · intro w hSw
    try dsimp only at hSw
    (go_simp) <;> (with_reducible rfl)
  try simp only [Act.put, List.setIfInBounds_toArray, List.set_cons_zero, List.set_cons_succ]
  refine wpAnyH_take (i := 5) (v := ?_) (by first | (simp only [List.getElem?_toArray, List.getElem?_cons_succ, List.getElem?_cons_zero] <;> rfl) | rfl) (by kernel_rfl) (by kernel_rfl) (by kernel_rfl) (by exact fun _ _ _ h => h) (Or.inl ⟨by rfl, ?_⟩) hHeld2 ?_
  rotate_left 1
  · intro w hSw
    try dsimp only at hSw
    (go_simp) <;> (with_reducible rfl)
  try simp only [Act.put, List.setIfInBounds_toArray, List.set_cons_zero, List.set_cons_succ]
  refine wpAnyH_take (i := 6) (v := ?_) (by first | (simp only [List.getElem?_toArray, List.getElem?_cons_succ, List.getElem?_cons_zero] <;> rfl) | rfl) (by kernel_rfl) (by kernel_rfl) (by kernel_rfl) (by exact fun _ _ _ h => h) (Or.inl ⟨by rfl, ?_⟩) hHeld2 ?_
  rotate_left 1
  · intro w hSw
    try dsimp only at hSw
    (go_simp) <;> (with_reducible rfl)
  try simp only [Act.put, List.setIfInBounds_toArray, List.set_cons_zero, List.set_cons_succ]
  refine wpAnyH_take (i := 7) (v := ?_) (by first | (simp only [List.getElem?_toArray, List.getElem?_cons_succ, List.getElem?_cons_zero] <;> rfl) | rfl) (by kernel_rfl) (by kernel_rfl) (by kernel_rfl) (by exact fun _ _ _ h => h) (Or.inl ⟨by rfl, ?_⟩) hHeld2 ?_
  rotate_left 1
  · intro w hSw
    try dsimp only at hSw
    (go_simp) <;> (with_reducible rfl)
  try simp only [Act.put, List.setIfInBounds_toArray, List.set_cons_zero, List.set_cons_succ]
  refine wpAnyH_take (i := 8) (v := ?_) (by first | (simp only [List.getElem?_toArray, List.getElem?_cons_succ, List.getElem?_cons_zero] <;> rfl) | rfl) (by kernel_rfl) (by kernel_rfl) (by kernel_rfl) (by exact fun _ _ _ h => h) (Or.inl ⟨by rfl, ?_⟩) hHeld2 ?_
  rotate_left 1
  · intro w hSw
    try dsimp only at hSw
    (go_simp) <;> (with_reducible rfl)
  try simp only [Act.put, List.setIfInBounds_toArray, List.set_cons_zero, List.set_cons_succ]
  refine wpAnyH_done (by kernel_rfl) ?_ _
  have Hend := Lib.hid (step1 hHeld2)
  have c4 := (Hbk.out.kept Hend.out).cell 4 rfl
  clear hHeld2
  go_wp2_with fail
  go_ret
  exact ⟨rfl, Hbe.out.trans (Hend.out.mono Hbe.out.size)⟩
set_option maxRecDepth 100000 in
set_option maxHeartbeats 2000000 in
theorem halves_2 (bs : List Nat) (n0 n1 n2 n3 n4 n5 n6 n7 n8 : Nat) (w : World) (hl : bs.length = 64) (hb : Small8 bs) (h0 : n0 = leN bs 0 4) (h1 : n1 = leN bs 4 4) (h2 : n2 = leN bs 8 8) (h3 : n3 = leN bs 16 8) (h4 : n4 = leN bs 24 8) (h5 : n5 = leN bs 32 8) (h6 : n6 = leN bs 40 8) (h7 : n7 = leN bs 48 8) (h8 : n8 = leN bs 56 8) :
    Calls Try.prog 4 #[.agg #[.int .u32 n0, .int .u32 n1, .int .u64 n2, .int .u64 n3, .int .u64 n4, .int .u64 n5, .int .u64 n6, .int .u64 n7, .int .u64 n8], .int .i64 2] w (Yes w) := by
  have Wlo := Lib.hid (show ∀ wx, Calls Try.prog 11 #[.agg #[.int .u32 n0, .int .u32 n1, .int .u64 n2, .int .u64 n3, .int .u64 n4, .int .u64 n5, .int .u64 n6, .int .u64 n7, .int .u64 n8], .int .u32 32] wx (WordPost (leN bs 32 4) true wx) from fun wx => by
    have h := word_yes bs 32 wx hl hb (by omega) (by omega)
    rw [show recL bs = [.int .u32 n0, .int .u32 n1, .int .u64 n2, .int .u64 n3, .int .u64 n4, .int .u64 n5, .int .u64 n6, .int .u64 n7, .int .u64 n8] by rw [h0, h1, h2, h3, h4, h5, h6, h7, h8]; rfl] at h
    exact h)
  have Whi := Lib.hid (show ∀ wx, Calls Try.prog 11 #[.agg #[.int .u32 n0, .int .u32 n1, .int .u64 n2, .int .u64 n3, .int .u64 n4, .int .u64 n5, .int .u64 n6, .int .u64 n7, .int .u64 n8], .int .u32 36] wx (WordPost (leN bs 36 4) true wx) from fun wx => by
    have h := word_yes bs 36 wx hl hb (by omega) (by omega)
    rw [show recL bs = [.int .u32 n0, .int .u32 n1, .int .u64 n2, .int .u64 n3, .int .u64 n4, .int .u64 n5, .int .u64 n6, .int .u64 n7, .int .u64 n8] by rw [h0, h1, h2, h3, h4, h5, h6, h7, h8]; rfl] at h
    exact h)
  have hlo := leN4_lt hb 32
  have hhi := leN4_lt hb 36
  have h8' := leN_8 bs 32
  rw [← h5] at h8'
  obtain ⟨lo, hlod⟩ : ∃ x, x = leN bs 32 4 := ⟨_, rfl⟩
  obtain ⟨hi, hhid⟩ : ∃ x, x = leN bs 36 4 := ⟨_, rfl⟩
  rw [show 32 + 4 = 36 from rfl, ← hhid, ← hlod] at h8'
  rw [← hlod] at Wlo hlo
  rw [← hhid] at Whi hhi
  have hor := or_hl lo hi n5 hlo hhi h8'
  have Hlo := Lib.hid (show ∀ wx, Calls Try.prog 12 #[.int .i64 2, .bool false] wx fun e w' => e = .returned (.int .u32 32) ∧ wx = w' from fun wx => by
    have h := half_any (2) false wx
    rw [show arg5 (2) = 2 by rfl] at h
    exact h)
  have Hhi := Lib.hid (show ∀ wx, Calls Try.prog 12 #[.int .i64 2, .bool true] wx fun e w' => e = .returned (.int .u32 36) ∧ wx = w' from fun wx => by
    have h := half_any (2) true wx
    rw [show arg5 (2) = 2 by rfl] at h
    exact h)
  clear h0 h1 h2 h3 h4 h5 h6 h7 h8 hlod hhid h8' hl hb
  go_enter Try.func4, Try.ntmps4
  go_wp2_with fail
  refine (awake_any _).mono ?_
  rintro e w' ⟨rfl, rfl⟩
  go_wp2_with fail
  have hbk := Bk.new w 26 #[.int .u32 n0, .int .u32 n1, .int .u64 n2, .int .u64 n3, .int .u64 n4, .int .u64 n5, .int .u64 n6, .int .u64 n7, .int .u64 n8] rfl
  have hbe := (Below.refl w.heap.size w).alloc (Nat.le_refl _) (.cells #[.int .u32 n0, .int .u32 n1, .int .u64 n2, .int .u64 n3, .int .u64 n4, .int .u64 n5, .int .u64 n6, .int .u64 n7, .int .u64 n8] 26)
  revert hbk hbe
  generalize w.alloc (.cells #[.int .u32 n0, .int .u32 n1, .int .u64 n2, .int .u64 n3, .int .u64 n4, .int .u64 n5, .int .u64 n6, .int .u64 n7, .int .u64 n8] 26) = wz
  intro hbk hbe
  have Hbk := Lib.hid hbk
  have Hbe := Lib.hid hbe
  have HS := Lib.hid (show ∀ w', Below wz.heap.size wz w' → (fun w' => (Instr.loadAt 26 (.pointer (some ⟨w.heap.size, 0, none⟩))).run Try.prog w' = .ok (.agg #[.int .u32 n0, .int .u32 n1, .int .u64 n2, .int .u64 n3, .int .u64 n4, .int .u64 n5, .int .u64 n6, .int .u64 n7, .int .u64 n8]) w' ∧ Hid (Below wz.heap.size wz w')) w' from fun w' h => ⟨ld_rec (hbk.kept h) rfl, h⟩)
  clear hbk hbe
  refine wp_region_held_drew (S := (fun w' => (Instr.loadAt 26 (.pointer (some ⟨w.heap.size, 0, none⟩))).run Try.prog w' = .ok (.agg #[.int .u32 n0, .int .u32 n1, .int .u64 n2, .int .u64 n3, .int .u64 n4, .int .u64 n5, .int .u64 n6, .int .u64 n7, .int .u64 n8]) w' ∧ Hid (Below wz.heap.size wz w'))) (by kernel_rfl) ?_ (fun hHeld0 => ?_)
  · exact HS.out _ (Below.refl _ _).drew
  refine wpAnyH_take (i := 0) (v := ?_) (by first | (simp only [List.getElem?_toArray, List.getElem?_cons_zero] <;> rfl) | rfl) (by kernel_rfl) (by kernel_rfl) (by kernel_rfl) (by exact fun _ _ _ h => h) (Or.inl ⟨by rfl, ?_⟩) hHeld0 ?_
  rotate_left 1
  · intro w hSw
    refine Eq.trans (exec_load rfl rfl (hSw.1)) ?_
    with_reducible rfl
  try simp only [Act.put, List.setIfInBounds_toArray, List.set_cons_zero, List.set_cons_succ]
  refine wpAnyH_take (i := 1) (v := ?_) (by first | (simp only [List.getElem?_toArray, List.getElem?_cons_succ, List.getElem?_cons_zero] <;> rfl) | rfl) (by kernel_rfl) (by kernel_rfl) (by kernel_rfl) (by exact fun _ _ _ h => h) (Or.inl ⟨by rfl, ?_⟩) hHeld0 ?_
  rotate_left 1
  · intro w hSw
    try dsimp only at hSw
    (go_simp) <;> (with_reducible rfl)
  try simp only [Act.put, List.setIfInBounds_toArray, List.set_cons_zero, List.set_cons_succ]
  refine wpAnyH_ready (rs := [2]) (by kernel_rfl) (by simp) ?_
  refine AllReadyH.cons (by first | (simp only [List.getElem?_toArray, List.getElem?_cons_succ, List.getElem?_cons_zero] <;> rfl) | rfl) (fun K hK => ?_) AllReadyH.nil
  go_simp
  refine (Hlo.out _).mono ?_; rintro e wa ⟨rfl, rfl⟩
  go_wp2_with fail
  refine hK.out _ _ ?_ (fun hHeld1 => ?_)
  · (try dsimp only)
    exact HS.out _ (step1 hHeld0)
  clear hK K hHeld0
  try simp only [Act.put, List.setIfInBounds_toArray, List.set_cons_zero, List.set_cons_succ]
  refine wpAnyH_ready (rs := [3]) (by kernel_rfl) (by simp) ?_
  refine AllReadyH.cons (by first | (simp only [List.getElem?_toArray, List.getElem?_cons_succ, List.getElem?_cons_zero] <;> rfl) | rfl) (fun K hK => ?_) AllReadyH.nil
  go_simp
  refine (Wlo.out _).mono ?_; rintro e wa ⟨rfl, hba⟩
  go_wp2_with fail
  refine hK.out _ _ ?_ (fun hHeld2 => ?_)
  · (try dsimp only)
    exact HS.out _ (step2 hba hHeld1)
  clear hK K hHeld1
  try simp only [Act.put, List.setIfInBounds_toArray, List.set_cons_zero, List.set_cons_succ]
  refine wpAnyH_take (i := 4) (v := ?_) (by first | (simp only [List.getElem?_toArray, List.getElem?_cons_succ, List.getElem?_cons_zero] <;> rfl) | rfl) (by kernel_rfl) (by kernel_rfl) (by kernel_rfl) (by exact fun _ _ _ h => h) (Or.inl ⟨by rfl, ?_⟩) hHeld2 ?_
  rotate_left 1
  · intro w hSw
    try dsimp only at hSw
    (go_simp) <;> (with_reducible rfl)
  try simp only [Act.put, List.setIfInBounds_toArray, List.set_cons_zero, List.set_cons_succ]
  refine wpAnyH_take (i := 5) (v := ?_) (by first | (simp only [List.getElem?_toArray, List.getElem?_cons_succ, List.getElem?_cons_zero] <;> rfl) | rfl) (by kernel_rfl) (by kernel_rfl) (by kernel_rfl) (by exact fun _ _ _ h => h) (Or.inl ⟨by rfl, ?_⟩) hHeld2 ?_
  rotate_left 1
  · intro w hSw
    try dsimp only at hSw
    (go_simp) <;> (with_reducible rfl)
  try simp only [Act.put, List.setIfInBounds_toArray, List.set_cons_zero, List.set_cons_succ]
  refine wpAnyH_take (i := 6) (v := ?_) (by first | (simp only [List.getElem?_toArray, List.getElem?_cons_succ, List.getElem?_cons_zero] <;> rfl) | rfl) (by kernel_rfl) (by kernel_rfl) (by kernel_rfl) (by exact fun _ _ _ h => h) (Or.inl ⟨by rfl, ?_⟩) hHeld2 ?_
  rotate_left 1
  · intro w hSw
    try dsimp only at hSw
    (go_simp) <;> (with_reducible rfl)
  try simp only [Act.put, List.setIfInBounds_toArray, List.set_cons_zero, List.set_cons_succ]
  refine wpAnyH_take (i := 7) (v := ?_) (by first | (simp only [List.getElem?_toArray, List.getElem?_cons_succ, List.getElem?_cons_zero] <;> rfl) | rfl) (by kernel_rfl) (by kernel_rfl) (by kernel_rfl) (by exact fun _ _ _ h => h) (Or.inl ⟨by rfl, ?_⟩) hHeld2 ?_
  rotate_left 1
  · intro w hSw
    try dsimp only at hSw
    (go_simp) <;> (with_reducible rfl)
  try simp only [Act.put, List.setIfInBounds_toArray, List.set_cons_zero, List.set_cons_succ]
  refine wpAnyH_take (i := 8) (v := ?_) (by first | (simp only [List.getElem?_toArray, List.getElem?_cons_succ, List.getElem?_cons_zero] <;> rfl) | rfl) (by kernel_rfl) (by kernel_rfl) (by kernel_rfl) (by exact fun _ _ _ h => h) (Or.inl ⟨by rfl, ?_⟩) hHeld2 ?_
  rotate_left 1
  · intro w hSw
    try dsimp only at hSw
    (go_simp) <;> (with_reducible rfl)
  try simp only [Act.put, List.setIfInBounds_toArray, List.set_cons_zero, List.set_cons_succ]
  refine wpAnyH_done (by kernel_rfl) ?_ _
  have Hm := Lib.hid (step1 hHeld2)
  clear hHeld2
  go_wp2_with fail
  refine wp_region_held_drew (S := (fun w' => (Instr.loadAt 26 (.pointer (some ⟨w.heap.size, 0, none⟩))).run Try.prog w' = .ok (.agg #[.int .u32 n0, .int .u32 n1, .int .u64 n2, .int .u64 n3, .int .u64 n4, .int .u64 n5, .int .u64 n6, .int .u64 n7, .int .u64 n8]) w' ∧ Hid (Below wz.heap.size wz w'))) (by kernel_rfl) ?_ (fun hHeld0 => ?_)
  · exact HS.out _ Hm.out.drew
  refine wpAnyH_take (i := 0) (v := ?_) (by first | (simp only [List.getElem?_toArray, List.getElem?_cons_zero] <;> rfl) | rfl) (by kernel_rfl) (by kernel_rfl) (by kernel_rfl) (by exact fun _ _ _ h => h) (Or.inl ⟨by rfl, ?_⟩) hHeld0 ?_
  rotate_left 1
  · intro w hSw
    refine Eq.trans (exec_load rfl rfl (hSw.1)) ?_
    with_reducible rfl
  try simp only [Act.put, List.setIfInBounds_toArray, List.set_cons_zero, List.set_cons_succ]
  refine wpAnyH_take (i := 1) (v := ?_) (by first | (simp only [List.getElem?_toArray, List.getElem?_cons_succ, List.getElem?_cons_zero] <;> rfl) | rfl) (by kernel_rfl) (by kernel_rfl) (by kernel_rfl) (by exact fun _ _ _ h => h) (Or.inl ⟨by rfl, ?_⟩) hHeld0 ?_
  rotate_left 1
  · intro w hSw
    try dsimp only at hSw
    (go_simp) <;> (with_reducible rfl)
  try simp only [Act.put, List.setIfInBounds_toArray, List.set_cons_zero, List.set_cons_succ]
  refine wpAnyH_ready (rs := [2]) (by kernel_rfl) (by simp) ?_
  refine AllReadyH.cons (by first | (simp only [List.getElem?_toArray, List.getElem?_cons_succ, List.getElem?_cons_zero] <;> rfl) | rfl) (fun K hK => ?_) AllReadyH.nil
  go_simp
  refine (Hhi.out _).mono ?_; rintro e wb ⟨rfl, rfl⟩
  go_wp2_with fail
  refine hK.out _ _ ?_ (fun hHeld1 => ?_)
  · (try dsimp only)
    exact HS.out _ (step1 hHeld0)
  clear hK K hHeld0
  try simp only [Act.put, List.setIfInBounds_toArray, List.set_cons_zero, List.set_cons_succ]
  refine wpAnyH_ready (rs := [3]) (by kernel_rfl) (by simp) ?_
  refine AllReadyH.cons (by first | (simp only [List.getElem?_toArray, List.getElem?_cons_succ, List.getElem?_cons_zero] <;> rfl) | rfl) (fun K hK => ?_) AllReadyH.nil
  go_simp
  refine (Whi.out _).mono ?_; rintro e wb ⟨rfl, hbb⟩
  go_wp2_with fail
  refine hK.out _ _ ?_ (fun hHeld2 => ?_)
  · (try dsimp only)
    exact HS.out _ (step2 hbb hHeld1)
  clear hK K hHeld1
  try simp only [Act.put, List.setIfInBounds_toArray, List.set_cons_zero, List.set_cons_succ]
  refine wpAnyH_take (i := 4) (v := ?_) (by first | (simp only [List.getElem?_toArray, List.getElem?_cons_succ, List.getElem?_cons_zero] <;> rfl) | rfl) (by kernel_rfl) (by kernel_rfl) (by kernel_rfl) (by exact fun _ _ _ h => h) (Or.inl ⟨by rfl, ?_⟩) hHeld2 ?_
  rotate_left 1
  · intro w hSw
    try dsimp only at hSw
    (go_simp) <;> (with_reducible rfl)
  try simp only [Act.put, List.setIfInBounds_toArray, List.set_cons_zero, List.set_cons_succ]
  refine wpAnyH_take (i := 5) (v := ?_) (by first | (simp only [List.getElem?_toArray, List.getElem?_cons_succ, List.getElem?_cons_zero] <;> rfl) | rfl) (by kernel_rfl) (by kernel_rfl) (by kernel_rfl) (by exact fun _ _ _ h => h) (Or.inl ⟨by rfl, ?_⟩) hHeld2 ?_
  rotate_left 1
  · intro w hSw
    try dsimp only at hSw
    (go_simp) <;> (with_reducible rfl)
  try simp only [Act.put, List.setIfInBounds_toArray, List.set_cons_zero, List.set_cons_succ]
  refine wpAnyH_take (i := 6) (v := ?_) (by first | (simp only [List.getElem?_toArray, List.getElem?_cons_succ, List.getElem?_cons_zero] <;> rfl) | rfl) (by kernel_rfl) (by kernel_rfl) (by kernel_rfl) (by exact fun _ _ _ h => h) (Or.inl ⟨by rfl, ?_⟩) hHeld2 ?_
  rotate_left 1
  · intro w hSw
    try dsimp only at hSw
    (go_simp) <;> (with_reducible rfl)
  try simp only [Act.put, List.setIfInBounds_toArray, List.set_cons_zero, List.set_cons_succ]
  refine wpAnyH_take (i := 7) (v := ?_) (by first | (simp only [List.getElem?_toArray, List.getElem?_cons_succ, List.getElem?_cons_zero] <;> rfl) | rfl) (by kernel_rfl) (by kernel_rfl) (by kernel_rfl) (by exact fun _ _ _ h => h) (Or.inl ⟨by rfl, ?_⟩) hHeld2 ?_
  rotate_left 1
  · intro w hSw
    try dsimp only at hSw
    (go_simp) <;> (with_reducible rfl)
  try simp only [Act.put, List.setIfInBounds_toArray, List.set_cons_zero, List.set_cons_succ]
  refine wpAnyH_take (i := 8) (v := ?_) (by first | (simp only [List.getElem?_toArray, List.getElem?_cons_succ, List.getElem?_cons_zero] <;> rfl) | rfl) (by kernel_rfl) (by kernel_rfl) (by kernel_rfl) (by exact fun _ _ _ h => h) (Or.inl ⟨by rfl, ?_⟩) hHeld2 ?_
  rotate_left 1
  · intro w hSw
    try dsimp only at hSw
    (go_simp) <;> (with_reducible rfl)
  try simp only [Act.put, List.setIfInBounds_toArray, List.set_cons_zero, List.set_cons_succ]
  refine wpAnyH_done (by kernel_rfl) ?_ _
  have Hend := Lib.hid (step1 hHeld2)
  have c5 := (Hbk.out.kept Hend.out).cell 5 rfl
  clear hHeld2
  go_wp2_with fail
  go_ret
  exact ⟨rfl, Hbe.out.trans (Hend.out.mono Hbe.out.size)⟩
set_option maxRecDepth 100000 in
set_option maxHeartbeats 2000000 in
theorem halves_3 (bs : List Nat) (n0 n1 n2 n3 n4 n5 n6 n7 n8 : Nat) (w : World) (hl : bs.length = 64) (hb : Small8 bs) (h0 : n0 = leN bs 0 4) (h1 : n1 = leN bs 4 4) (h2 : n2 = leN bs 8 8) (h3 : n3 = leN bs 16 8) (h4 : n4 = leN bs 24 8) (h5 : n5 = leN bs 32 8) (h6 : n6 = leN bs 40 8) (h7 : n7 = leN bs 48 8) (h8 : n8 = leN bs 56 8) :
    Calls Try.prog 4 #[.agg #[.int .u32 n0, .int .u32 n1, .int .u64 n2, .int .u64 n3, .int .u64 n4, .int .u64 n5, .int .u64 n6, .int .u64 n7, .int .u64 n8], .int .i64 3] w (Yes w) := by
  have Wlo := Lib.hid (show ∀ wx, Calls Try.prog 11 #[.agg #[.int .u32 n0, .int .u32 n1, .int .u64 n2, .int .u64 n3, .int .u64 n4, .int .u64 n5, .int .u64 n6, .int .u64 n7, .int .u64 n8], .int .u32 40] wx (WordPost (leN bs 40 4) true wx) from fun wx => by
    have h := word_yes bs 40 wx hl hb (by omega) (by omega)
    rw [show recL bs = [.int .u32 n0, .int .u32 n1, .int .u64 n2, .int .u64 n3, .int .u64 n4, .int .u64 n5, .int .u64 n6, .int .u64 n7, .int .u64 n8] by rw [h0, h1, h2, h3, h4, h5, h6, h7, h8]; rfl] at h
    exact h)
  have Whi := Lib.hid (show ∀ wx, Calls Try.prog 11 #[.agg #[.int .u32 n0, .int .u32 n1, .int .u64 n2, .int .u64 n3, .int .u64 n4, .int .u64 n5, .int .u64 n6, .int .u64 n7, .int .u64 n8], .int .u32 44] wx (WordPost (leN bs 44 4) true wx) from fun wx => by
    have h := word_yes bs 44 wx hl hb (by omega) (by omega)
    rw [show recL bs = [.int .u32 n0, .int .u32 n1, .int .u64 n2, .int .u64 n3, .int .u64 n4, .int .u64 n5, .int .u64 n6, .int .u64 n7, .int .u64 n8] by rw [h0, h1, h2, h3, h4, h5, h6, h7, h8]; rfl] at h
    exact h)
  have hlo := leN4_lt hb 40
  have hhi := leN4_lt hb 44
  have h8' := leN_8 bs 40
  rw [← h6] at h8'
  obtain ⟨lo, hlod⟩ : ∃ x, x = leN bs 40 4 := ⟨_, rfl⟩
  obtain ⟨hi, hhid⟩ : ∃ x, x = leN bs 44 4 := ⟨_, rfl⟩
  rw [show 40 + 4 = 44 from rfl, ← hhid, ← hlod] at h8'
  rw [← hlod] at Wlo hlo
  rw [← hhid] at Whi hhi
  have hor := or_hl lo hi n6 hlo hhi h8'
  have Hlo := Lib.hid (show ∀ wx, Calls Try.prog 12 #[.int .i64 3, .bool false] wx fun e w' => e = .returned (.int .u32 40) ∧ wx = w' from fun wx => by
    have h := half_any (3) false wx
    rw [show arg5 (3) = 3 by rfl] at h
    exact h)
  have Hhi := Lib.hid (show ∀ wx, Calls Try.prog 12 #[.int .i64 3, .bool true] wx fun e w' => e = .returned (.int .u32 44) ∧ wx = w' from fun wx => by
    have h := half_any (3) true wx
    rw [show arg5 (3) = 3 by rfl] at h
    exact h)
  clear h0 h1 h2 h3 h4 h5 h6 h7 h8 hlod hhid h8' hl hb
  go_enter Try.func4, Try.ntmps4
  go_wp2_with fail
  refine (awake_any _).mono ?_
  rintro e w' ⟨rfl, rfl⟩
  go_wp2_with fail
  have hbk := Bk.new w 26 #[.int .u32 n0, .int .u32 n1, .int .u64 n2, .int .u64 n3, .int .u64 n4, .int .u64 n5, .int .u64 n6, .int .u64 n7, .int .u64 n8] rfl
  have hbe := (Below.refl w.heap.size w).alloc (Nat.le_refl _) (.cells #[.int .u32 n0, .int .u32 n1, .int .u64 n2, .int .u64 n3, .int .u64 n4, .int .u64 n5, .int .u64 n6, .int .u64 n7, .int .u64 n8] 26)
  revert hbk hbe
  generalize w.alloc (.cells #[.int .u32 n0, .int .u32 n1, .int .u64 n2, .int .u64 n3, .int .u64 n4, .int .u64 n5, .int .u64 n6, .int .u64 n7, .int .u64 n8] 26) = wz
  intro hbk hbe
  have Hbk := Lib.hid hbk
  have Hbe := Lib.hid hbe
  have HS := Lib.hid (show ∀ w', Below wz.heap.size wz w' → (fun w' => (Instr.loadAt 26 (.pointer (some ⟨w.heap.size, 0, none⟩))).run Try.prog w' = .ok (.agg #[.int .u32 n0, .int .u32 n1, .int .u64 n2, .int .u64 n3, .int .u64 n4, .int .u64 n5, .int .u64 n6, .int .u64 n7, .int .u64 n8]) w' ∧ Hid (Below wz.heap.size wz w')) w' from fun w' h => ⟨ld_rec (hbk.kept h) rfl, h⟩)
  clear hbk hbe
  refine wp_region_held_drew (S := (fun w' => (Instr.loadAt 26 (.pointer (some ⟨w.heap.size, 0, none⟩))).run Try.prog w' = .ok (.agg #[.int .u32 n0, .int .u32 n1, .int .u64 n2, .int .u64 n3, .int .u64 n4, .int .u64 n5, .int .u64 n6, .int .u64 n7, .int .u64 n8]) w' ∧ Hid (Below wz.heap.size wz w'))) (by kernel_rfl) ?_ (fun hHeld0 => ?_)
  · exact HS.out _ (Below.refl _ _).drew
  refine wpAnyH_take (i := 0) (v := ?_) (by first | (simp only [List.getElem?_toArray, List.getElem?_cons_zero] <;> rfl) | rfl) (by kernel_rfl) (by kernel_rfl) (by kernel_rfl) (by exact fun _ _ _ h => h) (Or.inl ⟨by rfl, ?_⟩) hHeld0 ?_
  rotate_left 1
  · intro w hSw
    refine Eq.trans (exec_load rfl rfl (hSw.1)) ?_
    with_reducible rfl
  try simp only [Act.put, List.setIfInBounds_toArray, List.set_cons_zero, List.set_cons_succ]
  refine wpAnyH_take (i := 1) (v := ?_) (by first | (simp only [List.getElem?_toArray, List.getElem?_cons_succ, List.getElem?_cons_zero] <;> rfl) | rfl) (by kernel_rfl) (by kernel_rfl) (by kernel_rfl) (by exact fun _ _ _ h => h) (Or.inl ⟨by rfl, ?_⟩) hHeld0 ?_
  rotate_left 1
  · intro w hSw
    try dsimp only at hSw
    (go_simp) <;> (with_reducible rfl)
  try simp only [Act.put, List.setIfInBounds_toArray, List.set_cons_zero, List.set_cons_succ]
  refine wpAnyH_ready (rs := [2]) (by kernel_rfl) (by simp) ?_
  refine AllReadyH.cons (by first | (simp only [List.getElem?_toArray, List.getElem?_cons_succ, List.getElem?_cons_zero] <;> rfl) | rfl) (fun K hK => ?_) AllReadyH.nil
  go_simp
  refine (Hlo.out _).mono ?_; rintro e wa ⟨rfl, rfl⟩
  go_wp2_with fail
  refine hK.out _ _ ?_ (fun hHeld1 => ?_)
  · (try dsimp only)
    exact HS.out _ (step1 hHeld0)
  clear hK K hHeld0
  try simp only [Act.put, List.setIfInBounds_toArray, List.set_cons_zero, List.set_cons_succ]
  refine wpAnyH_ready (rs := [3]) (by kernel_rfl) (by simp) ?_
  refine AllReadyH.cons (by first | (simp only [List.getElem?_toArray, List.getElem?_cons_succ, List.getElem?_cons_zero] <;> rfl) | rfl) (fun K hK => ?_) AllReadyH.nil
  go_simp
  refine (Wlo.out _).mono ?_; rintro e wa ⟨rfl, hba⟩
  go_wp2_with fail
  refine hK.out _ _ ?_ (fun hHeld2 => ?_)
  · (try dsimp only)
    exact HS.out _ (step2 hba hHeld1)
  clear hK K hHeld1
  try simp only [Act.put, List.setIfInBounds_toArray, List.set_cons_zero, List.set_cons_succ]
  refine wpAnyH_take (i := 4) (v := ?_) (by first | (simp only [List.getElem?_toArray, List.getElem?_cons_succ, List.getElem?_cons_zero] <;> rfl) | rfl) (by kernel_rfl) (by kernel_rfl) (by kernel_rfl) (by exact fun _ _ _ h => h) (Or.inl ⟨by rfl, ?_⟩) hHeld2 ?_
  rotate_left 1
  · intro w hSw
    try dsimp only at hSw
    (go_simp) <;> (with_reducible rfl)
  try simp only [Act.put, List.setIfInBounds_toArray, List.set_cons_zero, List.set_cons_succ]
  refine wpAnyH_take (i := 5) (v := ?_) (by first | (simp only [List.getElem?_toArray, List.getElem?_cons_succ, List.getElem?_cons_zero] <;> rfl) | rfl) (by kernel_rfl) (by kernel_rfl) (by kernel_rfl) (by exact fun _ _ _ h => h) (Or.inl ⟨by rfl, ?_⟩) hHeld2 ?_
  rotate_left 1
  · intro w hSw
    try dsimp only at hSw
    (go_simp) <;> (with_reducible rfl)
  try simp only [Act.put, List.setIfInBounds_toArray, List.set_cons_zero, List.set_cons_succ]
  refine wpAnyH_take (i := 6) (v := ?_) (by first | (simp only [List.getElem?_toArray, List.getElem?_cons_succ, List.getElem?_cons_zero] <;> rfl) | rfl) (by kernel_rfl) (by kernel_rfl) (by kernel_rfl) (by exact fun _ _ _ h => h) (Or.inl ⟨by rfl, ?_⟩) hHeld2 ?_
  rotate_left 1
  · intro w hSw
    try dsimp only at hSw
    (go_simp) <;> (with_reducible rfl)
  try simp only [Act.put, List.setIfInBounds_toArray, List.set_cons_zero, List.set_cons_succ]
  refine wpAnyH_take (i := 7) (v := ?_) (by first | (simp only [List.getElem?_toArray, List.getElem?_cons_succ, List.getElem?_cons_zero] <;> rfl) | rfl) (by kernel_rfl) (by kernel_rfl) (by kernel_rfl) (by exact fun _ _ _ h => h) (Or.inl ⟨by rfl, ?_⟩) hHeld2 ?_
  rotate_left 1
  · intro w hSw
    try dsimp only at hSw
    (go_simp) <;> (with_reducible rfl)
  try simp only [Act.put, List.setIfInBounds_toArray, List.set_cons_zero, List.set_cons_succ]
  refine wpAnyH_take (i := 8) (v := ?_) (by first | (simp only [List.getElem?_toArray, List.getElem?_cons_succ, List.getElem?_cons_zero] <;> rfl) | rfl) (by kernel_rfl) (by kernel_rfl) (by kernel_rfl) (by exact fun _ _ _ h => h) (Or.inl ⟨by rfl, ?_⟩) hHeld2 ?_
  rotate_left 1
  · intro w hSw
    try dsimp only at hSw
    (go_simp) <;> (with_reducible rfl)
  try simp only [Act.put, List.setIfInBounds_toArray, List.set_cons_zero, List.set_cons_succ]
  refine wpAnyH_done (by kernel_rfl) ?_ _
  have Hm := Lib.hid (step1 hHeld2)
  clear hHeld2
  go_wp2_with fail
  refine wp_region_held_drew (S := (fun w' => (Instr.loadAt 26 (.pointer (some ⟨w.heap.size, 0, none⟩))).run Try.prog w' = .ok (.agg #[.int .u32 n0, .int .u32 n1, .int .u64 n2, .int .u64 n3, .int .u64 n4, .int .u64 n5, .int .u64 n6, .int .u64 n7, .int .u64 n8]) w' ∧ Hid (Below wz.heap.size wz w'))) (by kernel_rfl) ?_ (fun hHeld0 => ?_)
  · exact HS.out _ Hm.out.drew
  refine wpAnyH_take (i := 0) (v := ?_) (by first | (simp only [List.getElem?_toArray, List.getElem?_cons_zero] <;> rfl) | rfl) (by kernel_rfl) (by kernel_rfl) (by kernel_rfl) (by exact fun _ _ _ h => h) (Or.inl ⟨by rfl, ?_⟩) hHeld0 ?_
  rotate_left 1
  · intro w hSw
    refine Eq.trans (exec_load rfl rfl (hSw.1)) ?_
    with_reducible rfl
  try simp only [Act.put, List.setIfInBounds_toArray, List.set_cons_zero, List.set_cons_succ]
  refine wpAnyH_take (i := 1) (v := ?_) (by first | (simp only [List.getElem?_toArray, List.getElem?_cons_succ, List.getElem?_cons_zero] <;> rfl) | rfl) (by kernel_rfl) (by kernel_rfl) (by kernel_rfl) (by exact fun _ _ _ h => h) (Or.inl ⟨by rfl, ?_⟩) hHeld0 ?_
  rotate_left 1
  · intro w hSw
    try dsimp only at hSw
    (go_simp) <;> (with_reducible rfl)
  try simp only [Act.put, List.setIfInBounds_toArray, List.set_cons_zero, List.set_cons_succ]
  refine wpAnyH_ready (rs := [2]) (by kernel_rfl) (by simp) ?_
  refine AllReadyH.cons (by first | (simp only [List.getElem?_toArray, List.getElem?_cons_succ, List.getElem?_cons_zero] <;> rfl) | rfl) (fun K hK => ?_) AllReadyH.nil
  go_simp
  refine (Hhi.out _).mono ?_; rintro e wb ⟨rfl, rfl⟩
  go_wp2_with fail
  refine hK.out _ _ ?_ (fun hHeld1 => ?_)
  · (try dsimp only)
    exact HS.out _ (step1 hHeld0)
  clear hK K hHeld0
  try simp only [Act.put, List.setIfInBounds_toArray, List.set_cons_zero, List.set_cons_succ]
  refine wpAnyH_ready (rs := [3]) (by kernel_rfl) (by simp) ?_
  refine AllReadyH.cons (by first | (simp only [List.getElem?_toArray, List.getElem?_cons_succ, List.getElem?_cons_zero] <;> rfl) | rfl) (fun K hK => ?_) AllReadyH.nil
  go_simp
  refine (Whi.out _).mono ?_; rintro e wb ⟨rfl, hbb⟩
  go_wp2_with fail
  refine hK.out _ _ ?_ (fun hHeld2 => ?_)
  · (try dsimp only)
    exact HS.out _ (step2 hbb hHeld1)
  clear hK K hHeld1
  try simp only [Act.put, List.setIfInBounds_toArray, List.set_cons_zero, List.set_cons_succ]
  refine wpAnyH_take (i := 4) (v := ?_) (by first | (simp only [List.getElem?_toArray, List.getElem?_cons_succ, List.getElem?_cons_zero] <;> rfl) | rfl) (by kernel_rfl) (by kernel_rfl) (by kernel_rfl) (by exact fun _ _ _ h => h) (Or.inl ⟨by rfl, ?_⟩) hHeld2 ?_
  rotate_left 1
  · intro w hSw
    try dsimp only at hSw
    (go_simp) <;> (with_reducible rfl)
  try simp only [Act.put, List.setIfInBounds_toArray, List.set_cons_zero, List.set_cons_succ]
  refine wpAnyH_take (i := 5) (v := ?_) (by first | (simp only [List.getElem?_toArray, List.getElem?_cons_succ, List.getElem?_cons_zero] <;> rfl) | rfl) (by kernel_rfl) (by kernel_rfl) (by kernel_rfl) (by exact fun _ _ _ h => h) (Or.inl ⟨by rfl, ?_⟩) hHeld2 ?_
  rotate_left 1
  · intro w hSw
    try dsimp only at hSw
    (go_simp) <;> (with_reducible rfl)
  try simp only [Act.put, List.setIfInBounds_toArray, List.set_cons_zero, List.set_cons_succ]
  refine wpAnyH_take (i := 6) (v := ?_) (by first | (simp only [List.getElem?_toArray, List.getElem?_cons_succ, List.getElem?_cons_zero] <;> rfl) | rfl) (by kernel_rfl) (by kernel_rfl) (by kernel_rfl) (by exact fun _ _ _ h => h) (Or.inl ⟨by rfl, ?_⟩) hHeld2 ?_
  rotate_left 1
  · intro w hSw
    try dsimp only at hSw
    (go_simp) <;> (with_reducible rfl)
  try simp only [Act.put, List.setIfInBounds_toArray, List.set_cons_zero, List.set_cons_succ]
  refine wpAnyH_take (i := 7) (v := ?_) (by first | (simp only [List.getElem?_toArray, List.getElem?_cons_succ, List.getElem?_cons_zero] <;> rfl) | rfl) (by kernel_rfl) (by kernel_rfl) (by kernel_rfl) (by exact fun _ _ _ h => h) (Or.inl ⟨by rfl, ?_⟩) hHeld2 ?_
  rotate_left 1
  · intro w hSw
    try dsimp only at hSw
    (go_simp) <;> (with_reducible rfl)
  try simp only [Act.put, List.setIfInBounds_toArray, List.set_cons_zero, List.set_cons_succ]
  refine wpAnyH_take (i := 8) (v := ?_) (by first | (simp only [List.getElem?_toArray, List.getElem?_cons_succ, List.getElem?_cons_zero] <;> rfl) | rfl) (by kernel_rfl) (by kernel_rfl) (by kernel_rfl) (by exact fun _ _ _ h => h) (Or.inl ⟨by rfl, ?_⟩) hHeld2 ?_
  rotate_left 1
  · intro w hSw
    try dsimp only at hSw
    (go_simp) <;> (with_reducible rfl)
  try simp only [Act.put, List.setIfInBounds_toArray, List.set_cons_zero, List.set_cons_succ]
  refine wpAnyH_done (by kernel_rfl) ?_ _
  have Hend := Lib.hid (step1 hHeld2)
  have c6 := (Hbk.out.kept Hend.out).cell 6 rfl
  clear hHeld2
  go_wp2_with fail
  go_ret
  exact ⟨rfl, Hbe.out.trans (Hend.out.mono Hbe.out.size)⟩
set_option maxRecDepth 100000 in
set_option maxHeartbeats 2000000 in
theorem halves_4 (bs : List Nat) (n0 n1 n2 n3 n4 n5 n6 n7 n8 : Nat) (w : World) (hl : bs.length = 64) (hb : Small8 bs) (h0 : n0 = leN bs 0 4) (h1 : n1 = leN bs 4 4) (h2 : n2 = leN bs 8 8) (h3 : n3 = leN bs 16 8) (h4 : n4 = leN bs 24 8) (h5 : n5 = leN bs 32 8) (h6 : n6 = leN bs 40 8) (h7 : n7 = leN bs 48 8) (h8 : n8 = leN bs 56 8) :
    Calls Try.prog 4 #[.agg #[.int .u32 n0, .int .u32 n1, .int .u64 n2, .int .u64 n3, .int .u64 n4, .int .u64 n5, .int .u64 n6, .int .u64 n7, .int .u64 n8], .int .i64 4] w (Yes w) := by
  have Wlo := Lib.hid (show ∀ wx, Calls Try.prog 11 #[.agg #[.int .u32 n0, .int .u32 n1, .int .u64 n2, .int .u64 n3, .int .u64 n4, .int .u64 n5, .int .u64 n6, .int .u64 n7, .int .u64 n8], .int .u32 48] wx (WordPost (leN bs 48 4) true wx) from fun wx => by
    have h := word_yes bs 48 wx hl hb (by omega) (by omega)
    rw [show recL bs = [.int .u32 n0, .int .u32 n1, .int .u64 n2, .int .u64 n3, .int .u64 n4, .int .u64 n5, .int .u64 n6, .int .u64 n7, .int .u64 n8] by rw [h0, h1, h2, h3, h4, h5, h6, h7, h8]; rfl] at h
    exact h)
  have Whi := Lib.hid (show ∀ wx, Calls Try.prog 11 #[.agg #[.int .u32 n0, .int .u32 n1, .int .u64 n2, .int .u64 n3, .int .u64 n4, .int .u64 n5, .int .u64 n6, .int .u64 n7, .int .u64 n8], .int .u32 52] wx (WordPost (leN bs 52 4) true wx) from fun wx => by
    have h := word_yes bs 52 wx hl hb (by omega) (by omega)
    rw [show recL bs = [.int .u32 n0, .int .u32 n1, .int .u64 n2, .int .u64 n3, .int .u64 n4, .int .u64 n5, .int .u64 n6, .int .u64 n7, .int .u64 n8] by rw [h0, h1, h2, h3, h4, h5, h6, h7, h8]; rfl] at h
    exact h)
  have hlo := leN4_lt hb 48
  have hhi := leN4_lt hb 52
  have h8' := leN_8 bs 48
  rw [← h7] at h8'
  obtain ⟨lo, hlod⟩ : ∃ x, x = leN bs 48 4 := ⟨_, rfl⟩
  obtain ⟨hi, hhid⟩ : ∃ x, x = leN bs 52 4 := ⟨_, rfl⟩
  rw [show 48 + 4 = 52 from rfl, ← hhid, ← hlod] at h8'
  rw [← hlod] at Wlo hlo
  rw [← hhid] at Whi hhi
  have hor := or_hl lo hi n7 hlo hhi h8'
  have Hlo := Lib.hid (show ∀ wx, Calls Try.prog 12 #[.int .i64 4, .bool false] wx fun e w' => e = .returned (.int .u32 48) ∧ wx = w' from fun wx => by
    have h := half_any (4) false wx
    rw [show arg5 (4) = 4 by rfl] at h
    exact h)
  have Hhi := Lib.hid (show ∀ wx, Calls Try.prog 12 #[.int .i64 4, .bool true] wx fun e w' => e = .returned (.int .u32 52) ∧ wx = w' from fun wx => by
    have h := half_any (4) true wx
    rw [show arg5 (4) = 4 by rfl] at h
    exact h)
  clear h0 h1 h2 h3 h4 h5 h6 h7 h8 hlod hhid h8' hl hb
  go_enter Try.func4, Try.ntmps4
  go_wp2_with fail
  refine (awake_any _).mono ?_
  rintro e w' ⟨rfl, rfl⟩
  go_wp2_with fail
  have hbk := Bk.new w 26 #[.int .u32 n0, .int .u32 n1, .int .u64 n2, .int .u64 n3, .int .u64 n4, .int .u64 n5, .int .u64 n6, .int .u64 n7, .int .u64 n8] rfl
  have hbe := (Below.refl w.heap.size w).alloc (Nat.le_refl _) (.cells #[.int .u32 n0, .int .u32 n1, .int .u64 n2, .int .u64 n3, .int .u64 n4, .int .u64 n5, .int .u64 n6, .int .u64 n7, .int .u64 n8] 26)
  revert hbk hbe
  generalize w.alloc (.cells #[.int .u32 n0, .int .u32 n1, .int .u64 n2, .int .u64 n3, .int .u64 n4, .int .u64 n5, .int .u64 n6, .int .u64 n7, .int .u64 n8] 26) = wz
  intro hbk hbe
  have Hbk := Lib.hid hbk
  have Hbe := Lib.hid hbe
  have HS := Lib.hid (show ∀ w', Below wz.heap.size wz w' → (fun w' => (Instr.loadAt 26 (.pointer (some ⟨w.heap.size, 0, none⟩))).run Try.prog w' = .ok (.agg #[.int .u32 n0, .int .u32 n1, .int .u64 n2, .int .u64 n3, .int .u64 n4, .int .u64 n5, .int .u64 n6, .int .u64 n7, .int .u64 n8]) w' ∧ Hid (Below wz.heap.size wz w')) w' from fun w' h => ⟨ld_rec (hbk.kept h) rfl, h⟩)
  clear hbk hbe
  refine wp_region_held_drew (S := (fun w' => (Instr.loadAt 26 (.pointer (some ⟨w.heap.size, 0, none⟩))).run Try.prog w' = .ok (.agg #[.int .u32 n0, .int .u32 n1, .int .u64 n2, .int .u64 n3, .int .u64 n4, .int .u64 n5, .int .u64 n6, .int .u64 n7, .int .u64 n8]) w' ∧ Hid (Below wz.heap.size wz w'))) (by kernel_rfl) ?_ (fun hHeld0 => ?_)
  · exact HS.out _ (Below.refl _ _).drew
  refine wpAnyH_take (i := 0) (v := ?_) (by first | (simp only [List.getElem?_toArray, List.getElem?_cons_zero] <;> rfl) | rfl) (by kernel_rfl) (by kernel_rfl) (by kernel_rfl) (by exact fun _ _ _ h => h) (Or.inl ⟨by rfl, ?_⟩) hHeld0 ?_
  rotate_left 1
  · intro w hSw
    refine Eq.trans (exec_load rfl rfl (hSw.1)) ?_
    with_reducible rfl
  try simp only [Act.put, List.setIfInBounds_toArray, List.set_cons_zero, List.set_cons_succ]
  refine wpAnyH_take (i := 1) (v := ?_) (by first | (simp only [List.getElem?_toArray, List.getElem?_cons_succ, List.getElem?_cons_zero] <;> rfl) | rfl) (by kernel_rfl) (by kernel_rfl) (by kernel_rfl) (by exact fun _ _ _ h => h) (Or.inl ⟨by rfl, ?_⟩) hHeld0 ?_
  rotate_left 1
  · intro w hSw
    try dsimp only at hSw
    (go_simp) <;> (with_reducible rfl)
  try simp only [Act.put, List.setIfInBounds_toArray, List.set_cons_zero, List.set_cons_succ]
  refine wpAnyH_ready (rs := [2]) (by kernel_rfl) (by simp) ?_
  refine AllReadyH.cons (by first | (simp only [List.getElem?_toArray, List.getElem?_cons_succ, List.getElem?_cons_zero] <;> rfl) | rfl) (fun K hK => ?_) AllReadyH.nil
  go_simp
  refine (Hlo.out _).mono ?_; rintro e wa ⟨rfl, rfl⟩
  go_wp2_with fail
  refine hK.out _ _ ?_ (fun hHeld1 => ?_)
  · (try dsimp only)
    exact HS.out _ (step1 hHeld0)
  clear hK K hHeld0
  try simp only [Act.put, List.setIfInBounds_toArray, List.set_cons_zero, List.set_cons_succ]
  refine wpAnyH_ready (rs := [3]) (by kernel_rfl) (by simp) ?_
  refine AllReadyH.cons (by first | (simp only [List.getElem?_toArray, List.getElem?_cons_succ, List.getElem?_cons_zero] <;> rfl) | rfl) (fun K hK => ?_) AllReadyH.nil
  go_simp
  refine (Wlo.out _).mono ?_; rintro e wa ⟨rfl, hba⟩
  go_wp2_with fail
  refine hK.out _ _ ?_ (fun hHeld2 => ?_)
  · (try dsimp only)
    exact HS.out _ (step2 hba hHeld1)
  clear hK K hHeld1
  try simp only [Act.put, List.setIfInBounds_toArray, List.set_cons_zero, List.set_cons_succ]
  refine wpAnyH_take (i := 4) (v := ?_) (by first | (simp only [List.getElem?_toArray, List.getElem?_cons_succ, List.getElem?_cons_zero] <;> rfl) | rfl) (by kernel_rfl) (by kernel_rfl) (by kernel_rfl) (by exact fun _ _ _ h => h) (Or.inl ⟨by rfl, ?_⟩) hHeld2 ?_
  rotate_left 1
  · intro w hSw
    try dsimp only at hSw
    (go_simp) <;> (with_reducible rfl)
  try simp only [Act.put, List.setIfInBounds_toArray, List.set_cons_zero, List.set_cons_succ]
  refine wpAnyH_take (i := 5) (v := ?_) (by first | (simp only [List.getElem?_toArray, List.getElem?_cons_succ, List.getElem?_cons_zero] <;> rfl) | rfl) (by kernel_rfl) (by kernel_rfl) (by kernel_rfl) (by exact fun _ _ _ h => h) (Or.inl ⟨by rfl, ?_⟩) hHeld2 ?_
  rotate_left 1
  · intro w hSw
    try dsimp only at hSw
    (go_simp) <;> (with_reducible rfl)
  try simp only [Act.put, List.setIfInBounds_toArray, List.set_cons_zero, List.set_cons_succ]
  refine wpAnyH_take (i := 6) (v := ?_) (by first | (simp only [List.getElem?_toArray, List.getElem?_cons_succ, List.getElem?_cons_zero] <;> rfl) | rfl) (by kernel_rfl) (by kernel_rfl) (by kernel_rfl) (by exact fun _ _ _ h => h) (Or.inl ⟨by rfl, ?_⟩) hHeld2 ?_
  rotate_left 1
  · intro w hSw
    try dsimp only at hSw
    (go_simp) <;> (with_reducible rfl)
  try simp only [Act.put, List.setIfInBounds_toArray, List.set_cons_zero, List.set_cons_succ]
  refine wpAnyH_take (i := 7) (v := ?_) (by first | (simp only [List.getElem?_toArray, List.getElem?_cons_succ, List.getElem?_cons_zero] <;> rfl) | rfl) (by kernel_rfl) (by kernel_rfl) (by kernel_rfl) (by exact fun _ _ _ h => h) (Or.inl ⟨by rfl, ?_⟩) hHeld2 ?_
  rotate_left 1
  · intro w hSw
    try dsimp only at hSw
    (go_simp) <;> (with_reducible rfl)
  try simp only [Act.put, List.setIfInBounds_toArray, List.set_cons_zero, List.set_cons_succ]
  refine wpAnyH_take (i := 8) (v := ?_) (by first | (simp only [List.getElem?_toArray, List.getElem?_cons_succ, List.getElem?_cons_zero] <;> rfl) | rfl) (by kernel_rfl) (by kernel_rfl) (by kernel_rfl) (by exact fun _ _ _ h => h) (Or.inl ⟨by rfl, ?_⟩) hHeld2 ?_
  rotate_left 1
  · intro w hSw
    try dsimp only at hSw
    (go_simp) <;> (with_reducible rfl)
  try simp only [Act.put, List.setIfInBounds_toArray, List.set_cons_zero, List.set_cons_succ]
  refine wpAnyH_done (by kernel_rfl) ?_ _
  have Hm := Lib.hid (step1 hHeld2)
  clear hHeld2
  go_wp2_with fail
  refine wp_region_held_drew (S := (fun w' => (Instr.loadAt 26 (.pointer (some ⟨w.heap.size, 0, none⟩))).run Try.prog w' = .ok (.agg #[.int .u32 n0, .int .u32 n1, .int .u64 n2, .int .u64 n3, .int .u64 n4, .int .u64 n5, .int .u64 n6, .int .u64 n7, .int .u64 n8]) w' ∧ Hid (Below wz.heap.size wz w'))) (by kernel_rfl) ?_ (fun hHeld0 => ?_)
  · exact HS.out _ Hm.out.drew
  refine wpAnyH_take (i := 0) (v := ?_) (by first | (simp only [List.getElem?_toArray, List.getElem?_cons_zero] <;> rfl) | rfl) (by kernel_rfl) (by kernel_rfl) (by kernel_rfl) (by exact fun _ _ _ h => h) (Or.inl ⟨by rfl, ?_⟩) hHeld0 ?_
  rotate_left 1
  · intro w hSw
    refine Eq.trans (exec_load rfl rfl (hSw.1)) ?_
    with_reducible rfl
  try simp only [Act.put, List.setIfInBounds_toArray, List.set_cons_zero, List.set_cons_succ]
  refine wpAnyH_take (i := 1) (v := ?_) (by first | (simp only [List.getElem?_toArray, List.getElem?_cons_succ, List.getElem?_cons_zero] <;> rfl) | rfl) (by kernel_rfl) (by kernel_rfl) (by kernel_rfl) (by exact fun _ _ _ h => h) (Or.inl ⟨by rfl, ?_⟩) hHeld0 ?_
  rotate_left 1
  · intro w hSw
    try dsimp only at hSw
    (go_simp) <;> (with_reducible rfl)
  try simp only [Act.put, List.setIfInBounds_toArray, List.set_cons_zero, List.set_cons_succ]
  refine wpAnyH_ready (rs := [2]) (by kernel_rfl) (by simp) ?_
  refine AllReadyH.cons (by first | (simp only [List.getElem?_toArray, List.getElem?_cons_succ, List.getElem?_cons_zero] <;> rfl) | rfl) (fun K hK => ?_) AllReadyH.nil
  go_simp
  refine (Hhi.out _).mono ?_; rintro e wb ⟨rfl, rfl⟩
  go_wp2_with fail
  refine hK.out _ _ ?_ (fun hHeld1 => ?_)
  · (try dsimp only)
    exact HS.out _ (step1 hHeld0)
  clear hK K hHeld0
  try simp only [Act.put, List.setIfInBounds_toArray, List.set_cons_zero, List.set_cons_succ]
  refine wpAnyH_ready (rs := [3]) (by kernel_rfl) (by simp) ?_
  refine AllReadyH.cons (by first | (simp only [List.getElem?_toArray, List.getElem?_cons_succ, List.getElem?_cons_zero] <;> rfl) | rfl) (fun K hK => ?_) AllReadyH.nil
  go_simp
  refine (Whi.out _).mono ?_; rintro e wb ⟨rfl, hbb⟩
  go_wp2_with fail
  refine hK.out _ _ ?_ (fun hHeld2 => ?_)
  · (try dsimp only)
    exact HS.out _ (step2 hbb hHeld1)
  clear hK K hHeld1
  try simp only [Act.put, List.setIfInBounds_toArray, List.set_cons_zero, List.set_cons_succ]
  refine wpAnyH_take (i := 4) (v := ?_) (by first | (simp only [List.getElem?_toArray, List.getElem?_cons_succ, List.getElem?_cons_zero] <;> rfl) | rfl) (by kernel_rfl) (by kernel_rfl) (by kernel_rfl) (by exact fun _ _ _ h => h) (Or.inl ⟨by rfl, ?_⟩) hHeld2 ?_
  rotate_left 1
  · intro w hSw
    try dsimp only at hSw
    (go_simp) <;> (with_reducible rfl)
  try simp only [Act.put, List.setIfInBounds_toArray, List.set_cons_zero, List.set_cons_succ]
  refine wpAnyH_take (i := 5) (v := ?_) (by first | (simp only [List.getElem?_toArray, List.getElem?_cons_succ, List.getElem?_cons_zero] <;> rfl) | rfl) (by kernel_rfl) (by kernel_rfl) (by kernel_rfl) (by exact fun _ _ _ h => h) (Or.inl ⟨by rfl, ?_⟩) hHeld2 ?_
  rotate_left 1
  · intro w hSw
    try dsimp only at hSw
    (go_simp) <;> (with_reducible rfl)
  try simp only [Act.put, List.setIfInBounds_toArray, List.set_cons_zero, List.set_cons_succ]
  refine wpAnyH_take (i := 6) (v := ?_) (by first | (simp only [List.getElem?_toArray, List.getElem?_cons_succ, List.getElem?_cons_zero] <;> rfl) | rfl) (by kernel_rfl) (by kernel_rfl) (by kernel_rfl) (by exact fun _ _ _ h => h) (Or.inl ⟨by rfl, ?_⟩) hHeld2 ?_
  rotate_left 1
  · intro w hSw
    try dsimp only at hSw
    (go_simp) <;> (with_reducible rfl)
  try simp only [Act.put, List.setIfInBounds_toArray, List.set_cons_zero, List.set_cons_succ]
  refine wpAnyH_take (i := 7) (v := ?_) (by first | (simp only [List.getElem?_toArray, List.getElem?_cons_succ, List.getElem?_cons_zero] <;> rfl) | rfl) (by kernel_rfl) (by kernel_rfl) (by kernel_rfl) (by exact fun _ _ _ h => h) (Or.inl ⟨by rfl, ?_⟩) hHeld2 ?_
  rotate_left 1
  · intro w hSw
    try dsimp only at hSw
    (go_simp) <;> (with_reducible rfl)
  try simp only [Act.put, List.setIfInBounds_toArray, List.set_cons_zero, List.set_cons_succ]
  refine wpAnyH_take (i := 8) (v := ?_) (by first | (simp only [List.getElem?_toArray, List.getElem?_cons_succ, List.getElem?_cons_zero] <;> rfl) | rfl) (by kernel_rfl) (by kernel_rfl) (by kernel_rfl) (by exact fun _ _ _ h => h) (Or.inl ⟨by rfl, ?_⟩) hHeld2 ?_
  rotate_left 1
  · intro w hSw
    try dsimp only at hSw
    (go_simp) <;> (with_reducible rfl)
  try simp only [Act.put, List.setIfInBounds_toArray, List.set_cons_zero, List.set_cons_succ]
  refine wpAnyH_done (by kernel_rfl) ?_ _
  have Hend := Lib.hid (step1 hHeld2)
  have c7 := (Hbk.out.kept Hend.out).cell 7 rfl
  clear hHeld2
  go_wp2_with fail
  go_ret
  exact ⟨rfl, Hbe.out.trans (Hend.out.mono Hbe.out.size)⟩
set_option maxRecDepth 100000 in
set_option maxHeartbeats 2000000 in
theorem halves_5 (bs : List Nat) (n0 n1 n2 n3 n4 n5 n6 n7 n8 : Nat) (w : World) (hl : bs.length = 64) (hb : Small8 bs) (h0 : n0 = leN bs 0 4) (h1 : n1 = leN bs 4 4) (h2 : n2 = leN bs 8 8) (h3 : n3 = leN bs 16 8) (h4 : n4 = leN bs 24 8) (h5 : n5 = leN bs 32 8) (h6 : n6 = leN bs 40 8) (h7 : n7 = leN bs 48 8) (h8 : n8 = leN bs 56 8) :
    Calls Try.prog 4 #[.agg #[.int .u32 n0, .int .u32 n1, .int .u64 n2, .int .u64 n3, .int .u64 n4, .int .u64 n5, .int .u64 n6, .int .u64 n7, .int .u64 n8], .int .i64 5] w (Yes w) := by
  have Wlo := Lib.hid (show ∀ wx, Calls Try.prog 11 #[.agg #[.int .u32 n0, .int .u32 n1, .int .u64 n2, .int .u64 n3, .int .u64 n4, .int .u64 n5, .int .u64 n6, .int .u64 n7, .int .u64 n8], .int .u32 56] wx (WordPost (leN bs 56 4) true wx) from fun wx => by
    have h := word_yes bs 56 wx hl hb (by omega) (by omega)
    rw [show recL bs = [.int .u32 n0, .int .u32 n1, .int .u64 n2, .int .u64 n3, .int .u64 n4, .int .u64 n5, .int .u64 n6, .int .u64 n7, .int .u64 n8] by rw [h0, h1, h2, h3, h4, h5, h6, h7, h8]; rfl] at h
    exact h)
  have Whi := Lib.hid (show ∀ wx, Calls Try.prog 11 #[.agg #[.int .u32 n0, .int .u32 n1, .int .u64 n2, .int .u64 n3, .int .u64 n4, .int .u64 n5, .int .u64 n6, .int .u64 n7, .int .u64 n8], .int .u32 60] wx (WordPost (leN bs 60 4) true wx) from fun wx => by
    have h := word_yes bs 60 wx hl hb (by omega) (by omega)
    rw [show recL bs = [.int .u32 n0, .int .u32 n1, .int .u64 n2, .int .u64 n3, .int .u64 n4, .int .u64 n5, .int .u64 n6, .int .u64 n7, .int .u64 n8] by rw [h0, h1, h2, h3, h4, h5, h6, h7, h8]; rfl] at h
    exact h)
  have hlo := leN4_lt hb 56
  have hhi := leN4_lt hb 60
  have h8' := leN_8 bs 56
  rw [← h8] at h8'
  obtain ⟨lo, hlod⟩ : ∃ x, x = leN bs 56 4 := ⟨_, rfl⟩
  obtain ⟨hi, hhid⟩ : ∃ x, x = leN bs 60 4 := ⟨_, rfl⟩
  rw [show 56 + 4 = 60 from rfl, ← hhid, ← hlod] at h8'
  rw [← hlod] at Wlo hlo
  rw [← hhid] at Whi hhi
  have hor := or_hl lo hi n8 hlo hhi h8'
  have Hlo := Lib.hid (show ∀ wx, Calls Try.prog 12 #[.int .i64 5, .bool false] wx fun e w' => e = .returned (.int .u32 56) ∧ wx = w' from fun wx => by
    have h := half_any (5) false wx
    rw [show arg5 (5) = 5 by rfl] at h
    exact h)
  have Hhi := Lib.hid (show ∀ wx, Calls Try.prog 12 #[.int .i64 5, .bool true] wx fun e w' => e = .returned (.int .u32 60) ∧ wx = w' from fun wx => by
    have h := half_any (5) true wx
    rw [show arg5 (5) = 5 by rfl] at h
    exact h)
  clear h0 h1 h2 h3 h4 h5 h6 h7 h8 hlod hhid h8' hl hb
  go_enter Try.func4, Try.ntmps4
  go_wp2_with fail
  refine (awake_any _).mono ?_
  rintro e w' ⟨rfl, rfl⟩
  go_wp2_with fail
  have hbk := Bk.new w 26 #[.int .u32 n0, .int .u32 n1, .int .u64 n2, .int .u64 n3, .int .u64 n4, .int .u64 n5, .int .u64 n6, .int .u64 n7, .int .u64 n8] rfl
  have hbe := (Below.refl w.heap.size w).alloc (Nat.le_refl _) (.cells #[.int .u32 n0, .int .u32 n1, .int .u64 n2, .int .u64 n3, .int .u64 n4, .int .u64 n5, .int .u64 n6, .int .u64 n7, .int .u64 n8] 26)
  revert hbk hbe
  generalize w.alloc (.cells #[.int .u32 n0, .int .u32 n1, .int .u64 n2, .int .u64 n3, .int .u64 n4, .int .u64 n5, .int .u64 n6, .int .u64 n7, .int .u64 n8] 26) = wz
  intro hbk hbe
  have Hbk := Lib.hid hbk
  have Hbe := Lib.hid hbe
  have HS := Lib.hid (show ∀ w', Below wz.heap.size wz w' → (fun w' => (Instr.loadAt 26 (.pointer (some ⟨w.heap.size, 0, none⟩))).run Try.prog w' = .ok (.agg #[.int .u32 n0, .int .u32 n1, .int .u64 n2, .int .u64 n3, .int .u64 n4, .int .u64 n5, .int .u64 n6, .int .u64 n7, .int .u64 n8]) w' ∧ Hid (Below wz.heap.size wz w')) w' from fun w' h => ⟨ld_rec (hbk.kept h) rfl, h⟩)
  clear hbk hbe
  refine wp_region_held_drew (S := (fun w' => (Instr.loadAt 26 (.pointer (some ⟨w.heap.size, 0, none⟩))).run Try.prog w' = .ok (.agg #[.int .u32 n0, .int .u32 n1, .int .u64 n2, .int .u64 n3, .int .u64 n4, .int .u64 n5, .int .u64 n6, .int .u64 n7, .int .u64 n8]) w' ∧ Hid (Below wz.heap.size wz w'))) (by kernel_rfl) ?_ (fun hHeld0 => ?_)
  · exact HS.out _ (Below.refl _ _).drew
  refine wpAnyH_take (i := 0) (v := ?_) (by first | (simp only [List.getElem?_toArray, List.getElem?_cons_zero] <;> rfl) | rfl) (by kernel_rfl) (by kernel_rfl) (by kernel_rfl) (by exact fun _ _ _ h => h) (Or.inl ⟨by rfl, ?_⟩) hHeld0 ?_
  rotate_left 1
  · intro w hSw
    refine Eq.trans (exec_load rfl rfl (hSw.1)) ?_
    with_reducible rfl
  try simp only [Act.put, List.setIfInBounds_toArray, List.set_cons_zero, List.set_cons_succ]
  refine wpAnyH_take (i := 1) (v := ?_) (by first | (simp only [List.getElem?_toArray, List.getElem?_cons_succ, List.getElem?_cons_zero] <;> rfl) | rfl) (by kernel_rfl) (by kernel_rfl) (by kernel_rfl) (by exact fun _ _ _ h => h) (Or.inl ⟨by rfl, ?_⟩) hHeld0 ?_
  rotate_left 1
  · intro w hSw
    try dsimp only at hSw
    (go_simp) <;> (with_reducible rfl)
  try simp only [Act.put, List.setIfInBounds_toArray, List.set_cons_zero, List.set_cons_succ]
  refine wpAnyH_ready (rs := [2]) (by kernel_rfl) (by simp) ?_
  refine AllReadyH.cons (by first | (simp only [List.getElem?_toArray, List.getElem?_cons_succ, List.getElem?_cons_zero] <;> rfl) | rfl) (fun K hK => ?_) AllReadyH.nil
  go_simp
  refine (Hlo.out _).mono ?_; rintro e wa ⟨rfl, rfl⟩
  go_wp2_with fail
  refine hK.out _ _ ?_ (fun hHeld1 => ?_)
  · (try dsimp only)
    exact HS.out _ (step1 hHeld0)
  clear hK K hHeld0
  try simp only [Act.put, List.setIfInBounds_toArray, List.set_cons_zero, List.set_cons_succ]
  refine wpAnyH_ready (rs := [3]) (by kernel_rfl) (by simp) ?_
  refine AllReadyH.cons (by first | (simp only [List.getElem?_toArray, List.getElem?_cons_succ, List.getElem?_cons_zero] <;> rfl) | rfl) (fun K hK => ?_) AllReadyH.nil
  go_simp
  refine (Wlo.out _).mono ?_; rintro e wa ⟨rfl, hba⟩
  go_wp2_with fail
  refine hK.out _ _ ?_ (fun hHeld2 => ?_)
  · (try dsimp only)
    exact HS.out _ (step2 hba hHeld1)
  clear hK K hHeld1
  try simp only [Act.put, List.setIfInBounds_toArray, List.set_cons_zero, List.set_cons_succ]
  refine wpAnyH_take (i := 4) (v := ?_) (by first | (simp only [List.getElem?_toArray, List.getElem?_cons_succ, List.getElem?_cons_zero] <;> rfl) | rfl) (by kernel_rfl) (by kernel_rfl) (by kernel_rfl) (by exact fun _ _ _ h => h) (Or.inl ⟨by rfl, ?_⟩) hHeld2 ?_
  rotate_left 1
  · intro w hSw
    try dsimp only at hSw
    (go_simp) <;> (with_reducible rfl)
  try simp only [Act.put, List.setIfInBounds_toArray, List.set_cons_zero, List.set_cons_succ]
  refine wpAnyH_take (i := 5) (v := ?_) (by first | (simp only [List.getElem?_toArray, List.getElem?_cons_succ, List.getElem?_cons_zero] <;> rfl) | rfl) (by kernel_rfl) (by kernel_rfl) (by kernel_rfl) (by exact fun _ _ _ h => h) (Or.inl ⟨by rfl, ?_⟩) hHeld2 ?_
  rotate_left 1
  · intro w hSw
    try dsimp only at hSw
    (go_simp) <;> (with_reducible rfl)
  try simp only [Act.put, List.setIfInBounds_toArray, List.set_cons_zero, List.set_cons_succ]
  refine wpAnyH_take (i := 6) (v := ?_) (by first | (simp only [List.getElem?_toArray, List.getElem?_cons_succ, List.getElem?_cons_zero] <;> rfl) | rfl) (by kernel_rfl) (by kernel_rfl) (by kernel_rfl) (by exact fun _ _ _ h => h) (Or.inl ⟨by rfl, ?_⟩) hHeld2 ?_
  rotate_left 1
  · intro w hSw
    try dsimp only at hSw
    (go_simp) <;> (with_reducible rfl)
  try simp only [Act.put, List.setIfInBounds_toArray, List.set_cons_zero, List.set_cons_succ]
  refine wpAnyH_take (i := 7) (v := ?_) (by first | (simp only [List.getElem?_toArray, List.getElem?_cons_succ, List.getElem?_cons_zero] <;> rfl) | rfl) (by kernel_rfl) (by kernel_rfl) (by kernel_rfl) (by exact fun _ _ _ h => h) (Or.inl ⟨by rfl, ?_⟩) hHeld2 ?_
  rotate_left 1
  · intro w hSw
    try dsimp only at hSw
    (go_simp) <;> (with_reducible rfl)
  try simp only [Act.put, List.setIfInBounds_toArray, List.set_cons_zero, List.set_cons_succ]
  refine wpAnyH_take (i := 8) (v := ?_) (by first | (simp only [List.getElem?_toArray, List.getElem?_cons_succ, List.getElem?_cons_zero] <;> rfl) | rfl) (by kernel_rfl) (by kernel_rfl) (by kernel_rfl) (by exact fun _ _ _ h => h) (Or.inl ⟨by rfl, ?_⟩) hHeld2 ?_
  rotate_left 1
  · intro w hSw
    try dsimp only at hSw
    (go_simp) <;> (with_reducible rfl)
  try simp only [Act.put, List.setIfInBounds_toArray, List.set_cons_zero, List.set_cons_succ]
  refine wpAnyH_done (by kernel_rfl) ?_ _
  have Hm := Lib.hid (step1 hHeld2)
  clear hHeld2
  go_wp2_with fail
  refine wp_region_held_drew (S := (fun w' => (Instr.loadAt 26 (.pointer (some ⟨w.heap.size, 0, none⟩))).run Try.prog w' = .ok (.agg #[.int .u32 n0, .int .u32 n1, .int .u64 n2, .int .u64 n3, .int .u64 n4, .int .u64 n5, .int .u64 n6, .int .u64 n7, .int .u64 n8]) w' ∧ Hid (Below wz.heap.size wz w'))) (by kernel_rfl) ?_ (fun hHeld0 => ?_)
  · exact HS.out _ Hm.out.drew
  refine wpAnyH_take (i := 0) (v := ?_) (by first | (simp only [List.getElem?_toArray, List.getElem?_cons_zero] <;> rfl) | rfl) (by kernel_rfl) (by kernel_rfl) (by kernel_rfl) (by exact fun _ _ _ h => h) (Or.inl ⟨by rfl, ?_⟩) hHeld0 ?_
  rotate_left 1
  · intro w hSw
    refine Eq.trans (exec_load rfl rfl (hSw.1)) ?_
    with_reducible rfl
  try simp only [Act.put, List.setIfInBounds_toArray, List.set_cons_zero, List.set_cons_succ]
  refine wpAnyH_take (i := 1) (v := ?_) (by first | (simp only [List.getElem?_toArray, List.getElem?_cons_succ, List.getElem?_cons_zero] <;> rfl) | rfl) (by kernel_rfl) (by kernel_rfl) (by kernel_rfl) (by exact fun _ _ _ h => h) (Or.inl ⟨by rfl, ?_⟩) hHeld0 ?_
  rotate_left 1
  · intro w hSw
    try dsimp only at hSw
    (go_simp) <;> (with_reducible rfl)
  try simp only [Act.put, List.setIfInBounds_toArray, List.set_cons_zero, List.set_cons_succ]
  refine wpAnyH_ready (rs := [2]) (by kernel_rfl) (by simp) ?_
  refine AllReadyH.cons (by first | (simp only [List.getElem?_toArray, List.getElem?_cons_succ, List.getElem?_cons_zero] <;> rfl) | rfl) (fun K hK => ?_) AllReadyH.nil
  go_simp
  refine (Hhi.out _).mono ?_; rintro e wb ⟨rfl, rfl⟩
  go_wp2_with fail
  refine hK.out _ _ ?_ (fun hHeld1 => ?_)
  · (try dsimp only)
    exact HS.out _ (step1 hHeld0)
  clear hK K hHeld0
  try simp only [Act.put, List.setIfInBounds_toArray, List.set_cons_zero, List.set_cons_succ]
  refine wpAnyH_ready (rs := [3]) (by kernel_rfl) (by simp) ?_
  refine AllReadyH.cons (by first | (simp only [List.getElem?_toArray, List.getElem?_cons_succ, List.getElem?_cons_zero] <;> rfl) | rfl) (fun K hK => ?_) AllReadyH.nil
  go_simp
  refine (Whi.out _).mono ?_; rintro e wb ⟨rfl, hbb⟩
  go_wp2_with fail
  refine hK.out _ _ ?_ (fun hHeld2 => ?_)
  · (try dsimp only)
    exact HS.out _ (step2 hbb hHeld1)
  clear hK K hHeld1
  try simp only [Act.put, List.setIfInBounds_toArray, List.set_cons_zero, List.set_cons_succ]
  refine wpAnyH_take (i := 4) (v := ?_) (by first | (simp only [List.getElem?_toArray, List.getElem?_cons_succ, List.getElem?_cons_zero] <;> rfl) | rfl) (by kernel_rfl) (by kernel_rfl) (by kernel_rfl) (by exact fun _ _ _ h => h) (Or.inl ⟨by rfl, ?_⟩) hHeld2 ?_
  rotate_left 1
  · intro w hSw
    try dsimp only at hSw
    (go_simp) <;> (with_reducible rfl)
  try simp only [Act.put, List.setIfInBounds_toArray, List.set_cons_zero, List.set_cons_succ]
  refine wpAnyH_take (i := 5) (v := ?_) (by first | (simp only [List.getElem?_toArray, List.getElem?_cons_succ, List.getElem?_cons_zero] <;> rfl) | rfl) (by kernel_rfl) (by kernel_rfl) (by kernel_rfl) (by exact fun _ _ _ h => h) (Or.inl ⟨by rfl, ?_⟩) hHeld2 ?_
  rotate_left 1
  · intro w hSw
    try dsimp only at hSw
    (go_simp) <;> (with_reducible rfl)
  try simp only [Act.put, List.setIfInBounds_toArray, List.set_cons_zero, List.set_cons_succ]
  refine wpAnyH_take (i := 6) (v := ?_) (by first | (simp only [List.getElem?_toArray, List.getElem?_cons_succ, List.getElem?_cons_zero] <;> rfl) | rfl) (by kernel_rfl) (by kernel_rfl) (by kernel_rfl) (by exact fun _ _ _ h => h) (Or.inl ⟨by rfl, ?_⟩) hHeld2 ?_
  rotate_left 1
  · intro w hSw
    try dsimp only at hSw
    (go_simp) <;> (with_reducible rfl)
  try simp only [Act.put, List.setIfInBounds_toArray, List.set_cons_zero, List.set_cons_succ]
  refine wpAnyH_take (i := 7) (v := ?_) (by first | (simp only [List.getElem?_toArray, List.getElem?_cons_succ, List.getElem?_cons_zero] <;> rfl) | rfl) (by kernel_rfl) (by kernel_rfl) (by kernel_rfl) (by exact fun _ _ _ h => h) (Or.inl ⟨by rfl, ?_⟩) hHeld2 ?_
  rotate_left 1
  · intro w hSw
    try dsimp only at hSw
    (go_simp) <;> (with_reducible rfl)
  try simp only [Act.put, List.setIfInBounds_toArray, List.set_cons_zero, List.set_cons_succ]
  refine wpAnyH_take (i := 8) (v := ?_) (by first | (simp only [List.getElem?_toArray, List.getElem?_cons_succ, List.getElem?_cons_zero] <;> rfl) | rfl) (by kernel_rfl) (by kernel_rfl) (by kernel_rfl) (by exact fun _ _ _ h => h) (Or.inl ⟨by rfl, ?_⟩) hHeld2 ?_
  rotate_left 1
  · intro w hSw
    try dsimp only at hSw
    (go_simp) <;> (with_reducible rfl)
  try simp only [Act.put, List.setIfInBounds_toArray, List.set_cons_zero, List.set_cons_succ]
  refine wpAnyH_done (by kernel_rfl) ?_ _
  have Hend := Lib.hid (step1 hHeld2)
  have c8 := (Hbk.out.kept Hend.out).cell 8 rfl
  clear hHeld2
  go_wp2_with fail
  go_ret
  exact ⟨rfl, Hbe.out.trans (Hend.out.mono Hbe.out.size)⟩
set_option maxRecDepth 100000 in
set_option maxHeartbeats 2000000 in
theorem halves_big (bs : List Nat) (n0 n1 n2 n3 n4 n5 n6 n7 n8 : Nat) (a : Int) (w : World) (hl : bs.length = 64) (hb : Small8 bs) (h0 : n0 = leN bs 0 4) (h1 : n1 = leN bs 4 4) (h2 : n2 = leN bs 8 8) (h3 : n3 = leN bs 16 8) (h4 : n4 = leN bs 24 8) (h5 : n5 = leN bs 32 8) (h6 : n6 = leN bs 40 8) (h7 : n7 = leN bs 48 8) (h8 : n8 = leN bs 56 8) (ha : 5 < a) :
    Calls Try.prog 4 #[.agg #[.int .u32 n0, .int .u32 n1, .int .u64 n2, .int .u64 n3, .int .u64 n4, .int .u64 n5, .int .u64 n6, .int .u64 n7, .int .u64 n8], .int .i64 a] w (Yes w) := by
  have Wlo := Lib.hid (show ∀ wx, Calls Try.prog 11 #[.agg #[.int .u32 n0, .int .u32 n1, .int .u64 n2, .int .u64 n3, .int .u64 n4, .int .u64 n5, .int .u64 n6, .int .u64 n7, .int .u64 n8], .int .u32 56] wx (WordPost (leN bs 56 4) true wx) from fun wx => by
    have h := word_yes bs 56 wx hl hb (by omega) (by omega)
    rw [show recL bs = [.int .u32 n0, .int .u32 n1, .int .u64 n2, .int .u64 n3, .int .u64 n4, .int .u64 n5, .int .u64 n6, .int .u64 n7, .int .u64 n8] by rw [h0, h1, h2, h3, h4, h5, h6, h7, h8]; rfl] at h
    exact h)
  have Whi := Lib.hid (show ∀ wx, Calls Try.prog 11 #[.agg #[.int .u32 n0, .int .u32 n1, .int .u64 n2, .int .u64 n3, .int .u64 n4, .int .u64 n5, .int .u64 n6, .int .u64 n7, .int .u64 n8], .int .u32 60] wx (WordPost (leN bs 60 4) true wx) from fun wx => by
    have h := word_yes bs 60 wx hl hb (by omega) (by omega)
    rw [show recL bs = [.int .u32 n0, .int .u32 n1, .int .u64 n2, .int .u64 n3, .int .u64 n4, .int .u64 n5, .int .u64 n6, .int .u64 n7, .int .u64 n8] by rw [h0, h1, h2, h3, h4, h5, h6, h7, h8]; rfl] at h
    exact h)
  have hlo := leN4_lt hb 56
  have hhi := leN4_lt hb 60
  have h8' := leN_8 bs 56
  rw [← h8] at h8'
  obtain ⟨lo, hlod⟩ : ∃ x, x = leN bs 56 4 := ⟨_, rfl⟩
  obtain ⟨hi, hhid⟩ : ∃ x, x = leN bs 60 4 := ⟨_, rfl⟩
  rw [show 56 + 4 = 60 from rfl, ← hhid, ← hlod] at h8'
  rw [← hlod] at Wlo hlo
  rw [← hhid] at Whi hhi
  have hor := or_hl lo hi n8 hlo hhi h8'
  have Hlo := Lib.hid (show ∀ wx, Calls Try.prog 12 #[.int .i64 a, .bool false] wx fun e w' => e = .returned (.int .u32 56) ∧ wx = w' from fun wx => by
    have h := half_any (a) false wx
    rw [show arg5 (a) = 5 by unfold arg5; omega] at h
    exact h)
  have Hhi := Lib.hid (show ∀ wx, Calls Try.prog 12 #[.int .i64 a, .bool true] wx fun e w' => e = .returned (.int .u32 60) ∧ wx = w' from fun wx => by
    have h := half_any (a) true wx
    rw [show arg5 (a) = 5 by unfold arg5; omega] at h
    exact h)
  clear h0 h1 h2 h3 h4 h5 h6 h7 h8 hlod hhid h8' hl hb
  go_enter Try.func4, Try.ntmps4
  go_wp2_with fail
  refine (awake_any _).mono ?_
  rintro e w' ⟨rfl, rfl⟩
  go_wp2_with fail
  have hbk := Bk.new w 26 #[.int .u32 n0, .int .u32 n1, .int .u64 n2, .int .u64 n3, .int .u64 n4, .int .u64 n5, .int .u64 n6, .int .u64 n7, .int .u64 n8] rfl
  have hbe := (Below.refl w.heap.size w).alloc (Nat.le_refl _) (.cells #[.int .u32 n0, .int .u32 n1, .int .u64 n2, .int .u64 n3, .int .u64 n4, .int .u64 n5, .int .u64 n6, .int .u64 n7, .int .u64 n8] 26)
  revert hbk hbe
  generalize w.alloc (.cells #[.int .u32 n0, .int .u32 n1, .int .u64 n2, .int .u64 n3, .int .u64 n4, .int .u64 n5, .int .u64 n6, .int .u64 n7, .int .u64 n8] 26) = wz
  intro hbk hbe
  have Hbk := Lib.hid hbk
  have Hbe := Lib.hid hbe
  have HS := Lib.hid (show ∀ w', Below wz.heap.size wz w' → (fun w' => (Instr.loadAt 26 (.pointer (some ⟨w.heap.size, 0, none⟩))).run Try.prog w' = .ok (.agg #[.int .u32 n0, .int .u32 n1, .int .u64 n2, .int .u64 n3, .int .u64 n4, .int .u64 n5, .int .u64 n6, .int .u64 n7, .int .u64 n8]) w' ∧ Hid (Below wz.heap.size wz w')) w' from fun w' h => ⟨ld_rec (hbk.kept h) rfl, h⟩)
  clear hbk hbe
  refine wp_region_held_drew (S := (fun w' => (Instr.loadAt 26 (.pointer (some ⟨w.heap.size, 0, none⟩))).run Try.prog w' = .ok (.agg #[.int .u32 n0, .int .u32 n1, .int .u64 n2, .int .u64 n3, .int .u64 n4, .int .u64 n5, .int .u64 n6, .int .u64 n7, .int .u64 n8]) w' ∧ Hid (Below wz.heap.size wz w'))) (by kernel_rfl) ?_ (fun hHeld0 => ?_)
  · exact HS.out _ (Below.refl _ _).drew
  refine wpAnyH_take (i := 0) (v := ?_) (by first | (simp only [List.getElem?_toArray, List.getElem?_cons_zero] <;> rfl) | rfl) (by kernel_rfl) (by kernel_rfl) (by kernel_rfl) (by exact fun _ _ _ h => h) (Or.inl ⟨by rfl, ?_⟩) hHeld0 ?_
  rotate_left 1
  · intro w hSw
    refine Eq.trans (exec_load rfl rfl (hSw.1)) ?_
    with_reducible rfl
  try simp only [Act.put, List.setIfInBounds_toArray, List.set_cons_zero, List.set_cons_succ]
  refine wpAnyH_take (i := 1) (v := ?_) (by first | (simp only [List.getElem?_toArray, List.getElem?_cons_succ, List.getElem?_cons_zero] <;> rfl) | rfl) (by kernel_rfl) (by kernel_rfl) (by kernel_rfl) (by exact fun _ _ _ h => h) (Or.inl ⟨by rfl, ?_⟩) hHeld0 ?_
  rotate_left 1
  · intro w hSw
    try dsimp only at hSw
    (go_simp) <;> (with_reducible rfl)
  try simp only [Act.put, List.setIfInBounds_toArray, List.set_cons_zero, List.set_cons_succ]
  refine wpAnyH_ready (rs := [2]) (by kernel_rfl) (by simp) ?_
  refine AllReadyH.cons (by first | (simp only [List.getElem?_toArray, List.getElem?_cons_succ, List.getElem?_cons_zero] <;> rfl) | rfl) (fun K hK => ?_) AllReadyH.nil
  go_simp
  refine (Hlo.out _).mono ?_; rintro e wa ⟨rfl, rfl⟩
  go_wp2_with fail
  refine hK.out _ _ ?_ (fun hHeld1 => ?_)
  · (try dsimp only)
    exact HS.out _ (step1 hHeld0)
  clear hK K hHeld0
  try simp only [Act.put, List.setIfInBounds_toArray, List.set_cons_zero, List.set_cons_succ]
  refine wpAnyH_ready (rs := [3]) (by kernel_rfl) (by simp) ?_
  refine AllReadyH.cons (by first | (simp only [List.getElem?_toArray, List.getElem?_cons_succ, List.getElem?_cons_zero] <;> rfl) | rfl) (fun K hK => ?_) AllReadyH.nil
  go_simp
  refine (Wlo.out _).mono ?_; rintro e wa ⟨rfl, hba⟩
  go_wp2_with fail
  refine hK.out _ _ ?_ (fun hHeld2 => ?_)
  · (try dsimp only)
    exact HS.out _ (step2 hba hHeld1)
  clear hK K hHeld1
  try simp only [Act.put, List.setIfInBounds_toArray, List.set_cons_zero, List.set_cons_succ]
  refine wpAnyH_take (i := 4) (v := ?_) (by first | (simp only [List.getElem?_toArray, List.getElem?_cons_succ, List.getElem?_cons_zero] <;> rfl) | rfl) (by kernel_rfl) (by kernel_rfl) (by kernel_rfl) (by exact fun _ _ _ h => h) (Or.inl ⟨by rfl, ?_⟩) hHeld2 ?_
  rotate_left 1
  · intro w hSw
    try dsimp only at hSw
    (go_simp) <;> (with_reducible rfl)
  try simp only [Act.put, List.setIfInBounds_toArray, List.set_cons_zero, List.set_cons_succ]
  refine wpAnyH_take (i := 5) (v := ?_) (by first | (simp only [List.getElem?_toArray, List.getElem?_cons_succ, List.getElem?_cons_zero] <;> rfl) | rfl) (by kernel_rfl) (by kernel_rfl) (by kernel_rfl) (by exact fun _ _ _ h => h) (Or.inl ⟨by rfl, ?_⟩) hHeld2 ?_
  rotate_left 1
  · intro w hSw
    try dsimp only at hSw
    (go_simp) <;> (with_reducible rfl)
  try simp only [Act.put, List.setIfInBounds_toArray, List.set_cons_zero, List.set_cons_succ]
  refine wpAnyH_take (i := 6) (v := ?_) (by first | (simp only [List.getElem?_toArray, List.getElem?_cons_succ, List.getElem?_cons_zero] <;> rfl) | rfl) (by kernel_rfl) (by kernel_rfl) (by kernel_rfl) (by exact fun _ _ _ h => h) (Or.inl ⟨by rfl, ?_⟩) hHeld2 ?_
  rotate_left 1
  · intro w hSw
    try dsimp only at hSw
    (go_simp) <;> (with_reducible rfl)
  try simp only [Act.put, List.setIfInBounds_toArray, List.set_cons_zero, List.set_cons_succ]
  refine wpAnyH_take (i := 7) (v := ?_) (by first | (simp only [List.getElem?_toArray, List.getElem?_cons_succ, List.getElem?_cons_zero] <;> rfl) | rfl) (by kernel_rfl) (by kernel_rfl) (by kernel_rfl) (by exact fun _ _ _ h => h) (Or.inl ⟨by rfl, ?_⟩) hHeld2 ?_
  rotate_left 1
  · intro w hSw
    try dsimp only at hSw
    (go_simp) <;> (with_reducible rfl)
  try simp only [Act.put, List.setIfInBounds_toArray, List.set_cons_zero, List.set_cons_succ]
  refine wpAnyH_take (i := 8) (v := ?_) (by first | (simp only [List.getElem?_toArray, List.getElem?_cons_succ, List.getElem?_cons_zero] <;> rfl) | rfl) (by kernel_rfl) (by kernel_rfl) (by kernel_rfl) (by exact fun _ _ _ h => h) (Or.inl ⟨by rfl, ?_⟩) hHeld2 ?_
  rotate_left 1
  · intro w hSw
    try dsimp only at hSw
    (go_simp) <;> (with_reducible rfl)
  try simp only [Act.put, List.setIfInBounds_toArray, List.set_cons_zero, List.set_cons_succ]
  refine wpAnyH_done (by kernel_rfl) ?_ _
  have Hm := Lib.hid (step1 hHeld2)
  clear hHeld2
  go_wp2_with fail
  refine wp_region_held_drew (S := (fun w' => (Instr.loadAt 26 (.pointer (some ⟨w.heap.size, 0, none⟩))).run Try.prog w' = .ok (.agg #[.int .u32 n0, .int .u32 n1, .int .u64 n2, .int .u64 n3, .int .u64 n4, .int .u64 n5, .int .u64 n6, .int .u64 n7, .int .u64 n8]) w' ∧ Hid (Below wz.heap.size wz w'))) (by kernel_rfl) ?_ (fun hHeld0 => ?_)
  · exact HS.out _ Hm.out.drew
  refine wpAnyH_take (i := 0) (v := ?_) (by first | (simp only [List.getElem?_toArray, List.getElem?_cons_zero] <;> rfl) | rfl) (by kernel_rfl) (by kernel_rfl) (by kernel_rfl) (by exact fun _ _ _ h => h) (Or.inl ⟨by rfl, ?_⟩) hHeld0 ?_
  rotate_left 1
  · intro w hSw
    refine Eq.trans (exec_load rfl rfl (hSw.1)) ?_
    with_reducible rfl
  try simp only [Act.put, List.setIfInBounds_toArray, List.set_cons_zero, List.set_cons_succ]
  refine wpAnyH_take (i := 1) (v := ?_) (by first | (simp only [List.getElem?_toArray, List.getElem?_cons_succ, List.getElem?_cons_zero] <;> rfl) | rfl) (by kernel_rfl) (by kernel_rfl) (by kernel_rfl) (by exact fun _ _ _ h => h) (Or.inl ⟨by rfl, ?_⟩) hHeld0 ?_
  rotate_left 1
  · intro w hSw
    try dsimp only at hSw
    (go_simp) <;> (with_reducible rfl)
  try simp only [Act.put, List.setIfInBounds_toArray, List.set_cons_zero, List.set_cons_succ]
  refine wpAnyH_ready (rs := [2]) (by kernel_rfl) (by simp) ?_
  refine AllReadyH.cons (by first | (simp only [List.getElem?_toArray, List.getElem?_cons_succ, List.getElem?_cons_zero] <;> rfl) | rfl) (fun K hK => ?_) AllReadyH.nil
  go_simp
  refine (Hhi.out _).mono ?_; rintro e wb ⟨rfl, rfl⟩
  go_wp2_with fail
  refine hK.out _ _ ?_ (fun hHeld1 => ?_)
  · (try dsimp only)
    exact HS.out _ (step1 hHeld0)
  clear hK K hHeld0
  try simp only [Act.put, List.setIfInBounds_toArray, List.set_cons_zero, List.set_cons_succ]
  refine wpAnyH_ready (rs := [3]) (by kernel_rfl) (by simp) ?_
  refine AllReadyH.cons (by first | (simp only [List.getElem?_toArray, List.getElem?_cons_succ, List.getElem?_cons_zero] <;> rfl) | rfl) (fun K hK => ?_) AllReadyH.nil
  go_simp
  refine (Whi.out _).mono ?_; rintro e wb ⟨rfl, hbb⟩
  go_wp2_with fail
  refine hK.out _ _ ?_ (fun hHeld2 => ?_)
  · (try dsimp only)
    exact HS.out _ (step2 hbb hHeld1)
  clear hK K hHeld1
  try simp only [Act.put, List.setIfInBounds_toArray, List.set_cons_zero, List.set_cons_succ]
  refine wpAnyH_take (i := 4) (v := ?_) (by first | (simp only [List.getElem?_toArray, List.getElem?_cons_succ, List.getElem?_cons_zero] <;> rfl) | rfl) (by kernel_rfl) (by kernel_rfl) (by kernel_rfl) (by exact fun _ _ _ h => h) (Or.inl ⟨by rfl, ?_⟩) hHeld2 ?_
  rotate_left 1
  · intro w hSw
    try dsimp only at hSw
    (go_simp) <;> (with_reducible rfl)
  try simp only [Act.put, List.setIfInBounds_toArray, List.set_cons_zero, List.set_cons_succ]
  refine wpAnyH_take (i := 5) (v := ?_) (by first | (simp only [List.getElem?_toArray, List.getElem?_cons_succ, List.getElem?_cons_zero] <;> rfl) | rfl) (by kernel_rfl) (by kernel_rfl) (by kernel_rfl) (by exact fun _ _ _ h => h) (Or.inl ⟨by rfl, ?_⟩) hHeld2 ?_
  rotate_left 1
  · intro w hSw
    try dsimp only at hSw
    (go_simp) <;> (with_reducible rfl)
  try simp only [Act.put, List.setIfInBounds_toArray, List.set_cons_zero, List.set_cons_succ]
  refine wpAnyH_take (i := 6) (v := ?_) (by first | (simp only [List.getElem?_toArray, List.getElem?_cons_succ, List.getElem?_cons_zero] <;> rfl) | rfl) (by kernel_rfl) (by kernel_rfl) (by kernel_rfl) (by exact fun _ _ _ h => h) (Or.inl ⟨by rfl, ?_⟩) hHeld2 ?_
  rotate_left 1
  · intro w hSw
    try dsimp only at hSw
    (go_simp) <;> (with_reducible rfl)
  try simp only [Act.put, List.setIfInBounds_toArray, List.set_cons_zero, List.set_cons_succ]
  refine wpAnyH_take (i := 7) (v := ?_) (by first | (simp only [List.getElem?_toArray, List.getElem?_cons_succ, List.getElem?_cons_zero] <;> rfl) | rfl) (by kernel_rfl) (by kernel_rfl) (by kernel_rfl) (by exact fun _ _ _ h => h) (Or.inl ⟨by rfl, ?_⟩) hHeld2 ?_
  rotate_left 1
  · intro w hSw
    try dsimp only at hSw
    (go_simp) <;> (with_reducible rfl)
  try simp only [Act.put, List.setIfInBounds_toArray, List.set_cons_zero, List.set_cons_succ]
  refine wpAnyH_take (i := 8) (v := ?_) (by first | (simp only [List.getElem?_toArray, List.getElem?_cons_succ, List.getElem?_cons_zero] <;> rfl) | rfl) (by kernel_rfl) (by kernel_rfl) (by kernel_rfl) (by exact fun _ _ _ h => h) (Or.inl ⟨by rfl, ?_⟩) hHeld2 ?_
  rotate_left 1
  · intro w hSw
    try dsimp only at hSw
    (go_simp) <;> (with_reducible rfl)
  try simp only [Act.put, List.setIfInBounds_toArray, List.set_cons_zero, List.set_cons_succ]
  refine wpAnyH_done (by kernel_rfl) ?_ _
  have Hend := Lib.hid (step1 hHeld2)
  have c8 := (Hbk.out.kept Hend.out).cell 8 rfl
  clear hHeld2
  go_wp2_with fail
  go_ret
  exact ⟨rfl, Hbe.out.trans (Hend.out.mono Hbe.out.size)⟩
theorem halves_any (bs : List Nat) (n0 n1 n2 n3 n4 n5 n6 n7 n8 : Nat) (a : Int) (w : World) (hl : bs.length = 64) (hb : Small8 bs) (h0 : n0 = leN bs 0 4) (h1 : n1 = leN bs 4 4) (h2 : n2 = leN bs 8 8) (h3 : n3 = leN bs 16 8) (h4 : n4 = leN bs 24 8) (h5 : n5 = leN bs 32 8) (h6 : n6 = leN bs 40 8) (h7 : n7 = leN bs 48 8) (h8 : n8 = leN bs 56 8) :
    Calls Try.prog 4 #[.agg #[.int .u32 n0, .int .u32 n1, .int .u64 n2, .int .u64 n3, .int .u64 n4, .int .u64 n5, .int .u64 n6, .int .u64 n7, .int .u64 n8], .int .i64 a] w (Yes w) := by
  rcases (by omega : a < 0 ∨ a = 0 ∨ a = 1 ∨ a = 2 ∨ a = 3 ∨ a = 4 ∨ a = 5 ∨ 5 < a) with h | rfl | rfl | rfl | rfl | rfl | rfl | h
  · exact halves_neg bs n0 n1 n2 n3 n4 n5 n6 n7 n8 a w hl hb h0 h1 h2 h3 h4 h5 h6 h7 h8 h
  · exact halves_0 bs n0 n1 n2 n3 n4 n5 n6 n7 n8 w hl hb h0 h1 h2 h3 h4 h5 h6 h7 h8
  · exact halves_1 bs n0 n1 n2 n3 n4 n5 n6 n7 n8 w hl hb h0 h1 h2 h3 h4 h5 h6 h7 h8
  · exact halves_2 bs n0 n1 n2 n3 n4 n5 n6 n7 n8 w hl hb h0 h1 h2 h3 h4 h5 h6 h7 h8
  · exact halves_3 bs n0 n1 n2 n3 n4 n5 n6 n7 n8 w hl hb h0 h1 h2 h3 h4 h5 h6 h7 h8
  · exact halves_4 bs n0 n1 n2 n3 n4 n5 n6 n7 n8 w hl hb h0 h1 h2 h3 h4 h5 h6 h7 h8
  · exact halves_5 bs n0 n1 n2 n3 n4 n5 n6 n7 n8 w hl hb h0 h1 h2 h3 h4 h5 h6 h7 h8
  · exact halves_big bs n0 n1 n2 n3 n4 n5 n6 n7 n8 a w hl hb h0 h1 h2 h3 h4 h5 h6 h7 h8 h
end Go.Proofs.Ytfkdhfbmpjfhbaa
