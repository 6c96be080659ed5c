/- free; taking; fresh; give; leave; take. -/
import Derived.Test.YtdlglllidolggaaInE
import Derived.StillTail
namespace Go.Proofs.Ytdlglllidolggaa.In
open Go.RowKit Go.Maps Go.WideMaps
section
variable {w w' : World} {b n m : Nat} {x : NdM}
theorem not_u8_nd (h : NodeR w b n x m) : ¬ TyB w b 5 := fun k => h.tyb.ne k (by decide) rfl
theorem NodeR.set (h : NodeR w b n x m) (j : Nat) (v : Value) (y : NdM) (hc : ∀ dv, (ndCells n x dv (mvOf x.kd m)).set j v = ndCells n y dv (mvOf y.kd m)) (hd : y.data = x.data) (hL : y.L = x.L) (hk : y.kd = x.kd) : NodeR (w.setCell ⟨b, j, none⟩ v) b n y m := by
  obtain ⟨dv, hb, hr⟩ := h.cells
  have hg := only_set w b j v
  refine ⟨⟨dv, by rw [← hc dv]; exact hb.set j v, ?_⟩, fun h2 => ?_, fun h2 => ?_⟩
  · rw [hd]
    exact hr.same hg.size (fun c k => hg.block c k.lt (fun e => not_u8_nd h (by cases e; exact k)))
  · rw [hL]
    have hn := h.names (hk ▸ h2)
    exact om_block hn (hg.block _ (om_lt hn) (fun e => om_ne hn h.tyb (Option.some.inj e)))
  · rw [hL]; exact h.leaf (hk ▸ h2)
end
section
variable {w w' : World} {B tb A : Nat} {T : TrM} {nb mb : Nat → Nat}
theorem TabR.drew (h : TabR w B tb T A nb mb) : TabR w.drew B tb T A nb mb := h.below ((Below.refl _ _).drew)
theorem TabR.fzT (h : TabR w B tb T A nb mb) (j : Nat) : w.frozen? ⟨tb, j, none⟩ = false := h.tab.fz j
theorem TabR.fzA (h : TabR w B tb T A nb mb) (j : Nat) : w.frozen? ⟨A, j, none⟩ = false := h.row.fz j
theorem TabR.fzN (h : TabR w B tb T A nb mb) {n : Nat} (hk : (T.nd n).kd ≠ 0) (j : Nat) : w.frozen? ⟨nb n, j, none⟩ = false := (h.node n hk).fz j
theorem TabR.lt (h : TabR w B tb T A nb mb) : B < w.heap.size := Nat.lt_of_le_of_lt h.hB.1 h.tab.lt
theorem FrI.tabl (h : TabR w B tb T A nb mb) (j : Nat) (v : Value) : FrI B w (w.setCell ⟨tb, j, none⟩ v) := Fr.ofGrown (only_set w tb j v) (.inr ⟨h.hB.1, h.kinT⟩)
theorem FrI.row (h : TabR w B tb T A nb mb) (j : Nat) (v : Value) : FrI B w (w.setCell ⟨A, j, none⟩ v) := Fr.ofGrown (only_set w A j v) (.inr ⟨h.hB.2, h.kinA⟩)
theorem FrI.nd (h : TabR w B tb T A nb mb) {n : Nat} (hk : (T.nd n).kd ≠ 0) (j : Nat) (v : Value) : FrI B w (w.setCell ⟨nb n, j, none⟩ v) := Fr.ofGrown (only_set w (nb n) j v) (.inr ⟨(h.hN n hk).1, h.kin hk⟩)
theorem FrI.map (h : TabR w B tb T A nb mb) {n : Nat} (hk : (T.nd n).kd = 2) (hg : w.grownBy w' (some (mb n))) : FrI B w w' := Fr.ofGrown hg (.inr ⟨(h.hN n (by rw [hk]; decide)).2 hk, h.kinM hk⟩)
/-! The least number that is free. -/
theorem free_some {k : Nat} (h1 : 1 ≤ k ∧ k ≤ T.lim) (h2 : ∀ j, 1 ≤ j → j < k → (T.nd j).kd ≠ 0) (h3 : (T.nd k).kd = 0) : freeF T = some k := by
  unfold freeF
  have e : List.range' 1 T.lim = List.range' 1 (k - 1) ++ k :: List.range' (k + 1) (T.lim - k) := by
    have : T.lim = (k - 1) + (1 + (T.lim - k)) := by omega
    rw [this, ← List.range'_append_1, ← List.range'_append_1]
    congr 1
    rw [show 1 + (k - 1) = k from by omega]
    simp
    congr 1
  rw [e, List.find?_append]
  have : (List.range' 1 (k - 1)).find? (fun n => decide ((T.nd n).kd = 0)) = none := by
    rw [List.find?_eq_none]
    intro j hj
    have := List.mem_range'_1.1 hj
    simpa using h2 j (by omega) (by omega)
  rw [this]
  simp [h3]
theorem free_none (h : ∀ j, 1 ≤ j → j ≤ T.lim → (T.nd j).kd ≠ 0) : freeF T = none := by
  unfold freeF
  rw [List.find?_eq_none]
  intro j hj
  have := List.mem_range'_1.1 hj
  simpa using h j (by omega) (by omega)
theorem free_is {k : Nat} (h : freeF T = some k) : 1 ≤ k ∧ k ≤ T.lim ∧ (T.nd k).kd = 0 := by
  unfold freeF at h
  have h1 := List.find?_some h
  have h2 := List.mem_range'_1.1 (List.mem_of_find?_eq_some h)
  exact ⟨by omega, by omega, by simpa using h1⟩
set_option maxHeartbeats 1000000 in
theorem free_any (h : TabR w B tb T A nb mb) :
    Calls Try.prog 39 #[tP tb] w fun e w' => e = .returned (.tuple #[.int .u16 ((freeF T).getD 0 : Nat), .bool (freeF T).isSome]) ∧ w = w' := by
  have hl := h.lim
  have hc := h.c0
  obtain ⟨N, hN⟩ : ∃ N, N = T.lim + 1 := ⟨_, rfl⟩
  rw [← hN] at hc
  have hb2 : N ≤ 300 := by omega
  have HN := Lib.hid hN
  clear hN
  go_enter Try.func39, Try.ntmps39
  go_wp2
  go_loop [4] (fun i => ∃ k : Nat, 1 ≤ k ∧ k ≤ N ∧ i = .int .u16 k ∧ ∀ j, 1 ≤ j → j < k → (T.nd j).kd ≠ 0) (fun i => N - (intOf i).toNat)
  case atStart => exact ⟨1, by omega, by have := HN.out; omega, rfl, fun j h1 h2 => by omega⟩
  case round =>
    obtain ⟨k, hk1, hk, rfl, hgood⟩ := hrel
    have Hg := Lib.hid hgood
    clear hgood
    by_cases hlt : k < N
    · by_cases h0 : (T.nd k).kd = 0
      · have hr := h.rowNo (n := k) (by have := HN.out; omega) h0
        have Hf := Lib.hid (free_some (T := T) ⟨hk1, by have := HN.out; omega⟩ Hg.out h0)
        clear h0
        go_wp2
        go_ret2
        exact ⟨by rw [Hf.out]; rfl, rfl⟩
      · obtain ⟨_, _, hr⟩ := h.rowYes h0
        have Hx := Lib.hid (show ∀ j, 1 ≤ j → j < k + 1 → (T.nd j).kd ≠ 0 from fun j h1 h2 => by
          by_cases e : j = k
          · subst e; exact h0
          · exact Hg.out j h1 (by omega))
        clear h0
        go_wp2
        go_round
        case rel => exact ⟨k + 1, by omega, by omega, by go_num, Hx.out⟩
        case measure => simp [intOf]; omega
    · have Hf := Lib.hid (free_none (T := T) (fun j h1 h2 => Hg.out j h1 (by have := HN.out; omega)))
      go_wp2
      go_ret2
      exact ⟨by rw [Hf.out]; rfl, rfl⟩
/-! taking. -/
set_option maxHeartbeats 2000000 in
theorem taking_yes (h : TabR w B tb T A nb mb) {n : Nat} (s : ByteArray) (hs : s.size ≤ maxLen) (hr : roomE T n s.data.toList = 0) :
    Calls Try.prog 37 #[tP tb, .int .u16 n, .string s] w fun e w' => e = .returned (.tuple #[tP (nb n), .int .i64 0]) ∧ Below w.heap.size w w' := by
  have h0 : dirE T n = 0 := by
    by_cases e : dirE T n = 0
    · exact e
    · unfold roomE at hr; rw [if_pos e] at hr; exact absurd hr e
  have h2 : (T.nd n).kd = 2 := by
    unfold dirE at h0; split at h0
    · cases h0
    · split at h0
      · assumption
      · cases h0
  unfold roomE at hr
  rw [if_neg (by rw [h0]; decide)] at hr
  by_cases q1 : nameB s.data.toList = false
  · rw [if_pos q1] at hr; cases hr
  rw [if_neg q1] at hr
  by_cases q2 : (lk s.data.toList (T.nd n).L).isSome = true
  · rw [if_pos q2] at hr; cases hr
  rw [if_neg q2] at hr
  by_cases q3 : (T.nd n).links = 0
  · rw [if_pos q3] at hr; cases hr
  rw [if_neg q3] at hr
  by_cases q4 : 32 ≤ (T.nd n).L.length
  · rw [if_pos q4] at hr; cases hr
  clear hr h0
  have hd := dir_yes h h2
  have hk0 : (T.nd n).kd ≠ 0 := by rw [h2]; decide
  have hown := (h.node n hk0).names h2
  have hc := ndN h h2
  have hhas : has (nD (T.nd n).L) (.string s.data.toList) = false := by rw [nD_has]; simpa using q2
  have Hh := Lib.hid hhas
  have Hq1 := Lib.hid (show nameB s.data.toList = true by simpa using q1)
  have hlk : (((T.nd n).links : Int) == 0) = false := by simp; omega
  have Hq4 := Lib.hid q4
  clear q1 q2 q4 hhas q3 hk0
  go_enter Try.func37, Try.ntmps37
  go_wp2_with (first | (refine hd.mono ?_; rintro e w' ⟨rfl, rfl⟩) | (at_lookup; refine wpList_lookup_own_ok_int _ rfl _ _ 81 rfl 9 29 .u16 strKeyed Try.underlying81 Try.underlying29 (zeroNum _) _ _ _ rfl hown _ _ rfl (keyStr hs) ?_; intro c hat hwc; rw [Hh.out]; clear hat hwc))
  refine (name_any s _ hs).mono ?_
  rintro e w1 ⟨rfl, hb⟩
  rw [Hq1.out]
  have h1 := h.below hb
  have hL := ndL h1 (n := n) (by rw [h2]; decide)
  have hfu := full_any h1 h2
  have hk4 := Hq4.out
  rw [show decide (32 ≤ (T.nd n).L.length) = false from decide_eq_false hk4] at hfu
  clear hk4
  have Hb := Lib.hid hb
  clear hb
  go_wp2_with fail
  refine hfu.mono ?_
  rintro e w2 ⟨rfl, rfl⟩
  go_wp2
  go_ret2
  exact ⟨rfl, Hb.out⟩
set_option maxHeartbeats 2000000 in
theorem taking_no (h : TabR w B tb T A nb mb) {n : Nat} (hn : n ≤ 65535) (s : ByteArray) (hs : s.size ≤ maxLen) (hr : roomE T n s.data.toList ≠ 0) :
    Calls Try.prog 37 #[tP tb, .int .u16 n, .string s] w fun e w' => e = .returned (.tuple #[.pointer none, .int .i64 (roomE T n s.data.toList)]) ∧ Below w.heap.size w w' := by
  by_cases hk0 : (T.nd n).kd = 0
  · rw [show roomE T n s.data.toList = 2 from by unfold roomE dirE; simp [hk0]]
    go_enter Try.func37, Try.ntmps37
    go_wp2_with (refine (dir_none h hn hk0).mono ?_; rintro e w' ⟨rfl, rfl⟩)
    go_ret2
    exact ⟨rfl, Below.refl _ _⟩
  by_cases h2 : (T.nd n).kd ≠ 2
  · rw [show roomE T n s.data.toList = 20 from by unfold roomE dirE; simp [hk0, h2]]
    go_enter Try.func37, Try.ntmps37
    go_wp2_with (refine (dir_no h hk0 h2).mono ?_; rintro e w' ⟨rfl, rfl⟩)
    go_ret2
    exact ⟨rfl, Below.refl _ _⟩
  have h2 : (T.nd n).kd = 2 := by omega
  have hd := dir_yes h h2
  have hown := (h.node n hk0).names h2
  have hc := ndN h h2
  have hde : dirE T n = 0 := by unfold dirE; rw [if_neg hk0, if_pos h2]
  have hhas := nD_has (T.nd n).L s.data.toList
  obtain ⟨q, hq⟩ : ∃ q, q = (lk s.data.toList (T.nd n).L).isSome := ⟨_, rfl⟩
  rw [← hq] at hhas
  have Hh := Lib.hid hhas
  have hre : roomE T n s.data.toList = if nameB s.data.toList = false then 22 else if q = true then 17 else if (T.nd n).links = 0 then 2 else if 32 ≤ (T.nd n).L.length then 28 else 0 := by
    unfold roomE; rw [if_neg (by rw [hde]; decide), ← hq]
  have Hre := Lib.hid hre
  have Hq := Lib.hid hq
  have Hr := Lib.hid hr
  clear hhas hre hq hk0 hde hr
  by_cases q1 : nameB s.data.toList = false
  · have Hq1 := Lib.hid q1
    clear q1
    go_enter Try.func37, Try.ntmps37
    go_wp2_with (first | (refine hd.mono ?_; rintro e w' ⟨rfl, rfl⟩) | (at_lookup; refine wpList_lookup_own_ok_int _ rfl _ _ 81 rfl 9 29 .u16 strKeyed Try.underlying81 Try.underlying29 (zeroNum _) _ _ _ rfl hown _ _ rfl (keyStr hs) ?_; intro c hat hwc; rw [Hh.out]; clear hat hwc))
    refine (name_any s _ hs).mono ?_
    rintro e w1 ⟨rfl, hb⟩
    rw [Hq1.out]
    have Hb := Lib.hid hb
    clear hb
    go_wp2_with fail
    go_ret2
    exact ⟨by rw [Hre.out, if_pos Hq1.out]; rfl, Hb.out⟩
  have Hq1 := Lib.hid q1
  have Hq1' := Lib.hid (show nameB s.data.toList = true by simpa using q1)
  clear q1
  rcases q with _ | _
  · by_cases q3 : (T.nd n).links = 0
    · have Hq3 := Lib.hid q3
      clear q3
      go_enter Try.func37, Try.ntmps37
      go_wp2_with (first | (refine hd.mono ?_; rintro e w' ⟨rfl, rfl⟩) | (at_lookup; refine wpList_lookup_own_ok_int _ rfl _ _ 81 rfl 9 29 .u16 strKeyed Try.underlying81 Try.underlying29 (zeroNum _) _ _ _ rfl hown _ _ rfl (keyStr hs) ?_; intro c hat hwc; rw [Hh.out]; clear hat hwc))
      refine (name_any s _ hs).mono ?_
      rintro e w1 ⟨rfl, hb⟩
      rw [Hq1'.out]
      have h1 := h.below hb
      have hL := ndL h1 (n := n) (by rw [h2]; decide)
      rw [Hq3.out] at hL
      have Hb := Lib.hid hb
      clear hb
      go_wp2_with fail
      go_ret2
      exact ⟨by rw [Hre.out, if_neg Hq1.out, if_neg (by decide), if_pos Hq3.out]; rfl, Hb.out⟩
    · have Hq3 := Lib.hid q3
      have hlk : (((T.nd n).links : Int) == 0) = false := by simp; omega
      have Hq4 := Lib.hid (show 32 ≤ (T.nd n).L.length from by
        by_cases q4 : 32 ≤ (T.nd n).L.length
        · exact q4
        · exact absurd (by rw [Hre.out, if_neg Hq1.out, if_neg (by decide), if_neg q3, if_neg q4]) Hr.out)
      clear q3
      go_enter Try.func37, Try.ntmps37
      go_wp2_with (first | (refine hd.mono ?_; rintro e w' ⟨rfl, rfl⟩) | (at_lookup; refine wpList_lookup_own_ok_int _ rfl _ _ 81 rfl 9 29 .u16 strKeyed Try.underlying81 Try.underlying29 (zeroNum _) _ _ _ rfl hown _ _ rfl (keyStr hs) ?_; intro c hat hwc; rw [Hh.out]; clear hat hwc))
      refine (name_any s _ hs).mono ?_
      rintro e w1 ⟨rfl, hb⟩
      rw [Hq1'.out]
      have h1 := h.below hb
      have hL := ndL h1 (n := n) (by rw [h2]; decide)
      have hfu := full_any h1 h2
      have hk4 := Hq4.out
      rw [show decide (32 ≤ (T.nd n).L.length) = true from decide_eq_true hk4] at hfu
      clear hk4
      have Hb := Lib.hid hb
      clear hb
      go_wp2_with fail
      refine hfu.mono ?_
      rintro e w2 ⟨rfl, rfl⟩
      go_wp2
      go_ret2
      exact ⟨by rw [Hre.out, if_neg Hq1.out, if_neg (by decide), if_neg Hq3.out, if_pos Hq4.out]; rfl, Hb.out⟩
  · go_enter Try.func37, Try.ntmps37
    go_wp2_with (first | (refine hd.mono ?_; rintro e w' ⟨rfl, rfl⟩) | (at_lookup; refine wpList_lookup_own_ok_int _ rfl _ _ 81 rfl 9 29 .u16 strKeyed Try.underlying81 Try.underlying29 (zeroNum _) _ _ _ rfl hown _ _ rfl (keyStr hs) ?_; intro c hat hwc; rw [Hh.out]; clear hat hwc))
    refine (name_any s _ hs).mono ?_
    rintro e w1 ⟨rfl, hb⟩
    rw [Hq1'.out]
    have Hb := Lib.hid hb
    clear hb
    go_wp2_with fail
    go_ret2
    exact ⟨by rw [show roomE T n s.data.toList = 17 from by rw [Hre.out, if_neg Hq1.out]; simp]; rfl, Hb.out⟩
end
end Go.Proofs.Ytdlglllidolggaa.In
