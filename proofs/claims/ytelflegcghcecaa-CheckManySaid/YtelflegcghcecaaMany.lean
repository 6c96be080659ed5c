/- CheckMany: the walk. -/
import Derived.Test.YtelflegcghcecaaScratch
namespace Go.Proofs.Ytelflegcghcecaa
open Go.RowKit
/-- A row of the call's own whose first k are Rets. -/
structure Rets (w wr : World) (g n k : Nat) (R : List Value) : Prop where
  own : wr.ownsRow w.heap.size 27 4 (.slice (some ⟨g, 0, none⟩) n n) n ((List.replicate k (ret 0)).flatMap Ins.cells ++ R)
  bel : Below w.heap.size w wr
theorem Rets.len {w wr : World} {g n k : Nat} {R : List Value} (h : Rets w wr g n k R) : k * 4 + R.length = n * 4 := by
  have := h.own.1
  rw [List.length_append, flat_len, List.length_replicate] at this
  exact this
theorem Rets.kept {w wr w' : World} {g n k : Nat} {R : List Value} (h : Rets w wr g n k R) (hb : Below wr.heap.size wr w') : Rets w w' g n k R := ⟨own_below h.own hb, h.bel.trans (hb.mono h.bel.size)⟩
theorem Rets.step {w wr : World} {g n k : Nat} {R : List Value} (h : Rets w wr g n k R) (hk : k < n) : ∃ v0 v1 v2 v3 R', (wr.cell? ⟨g, k * 4, none⟩ = some v0 ∧ wr.cell? ⟨g, k * 4 + 1, none⟩ = some v1 ∧ wr.cell? ⟨g, k * 4 + 2, none⟩ = some v2 ∧ wr.cell? ⟨g, k * 4 + 3, none⟩ = some v3) ∧
    Rets w ((((wr.setCell ⟨g, k * 4, none⟩ (.int .u16 6)).setCell ⟨g, k * 4 + 1, none⟩ (.int .u8 0)).setCell ⟨g, k * 4 + 2, none⟩ (.int .u8 0)).setCell ⟨g, k * 4 + 3, none⟩ (.int .u32 0)) g n (k + 1) R' := by
  have hl := h.len
  obtain ⟨v0, v1, v2, v3, R', rfl⟩ : ∃ v0 v1 v2 v3 R', R = v0 :: v1 :: v2 :: v3 :: R' := by
    match R, hl with
    | [], hl => simp at hl; omega
    | [_], hl => simp at hl; omega
    | [_, _], hl => simp at hl; omega
    | [_, _, _], hl => simp at hl; omega
    | v0 :: v1 :: v2 :: v3 :: R', _ => exact ⟨v0, v1, v2, v3, R', rfl⟩
  have hcl : ((List.replicate k (ret 0)).flatMap Ins.cells).length = k * 4 := by rw [flat_len, List.length_replicate]
  have hat : ∀ j v, (v0 :: v1 :: v2 :: v3 :: R')[j]? = some v → wr.cell? ⟨g, k * 4 + j, none⟩ = some v := fun j v hv => by
    rw [h.own.cellAt _ (by have := (List.getElem?_eq_some_iff.1 hv).1; simp at this hl; omega), List.getElem?_append_right (by omega), hcl, Nat.add_sub_cancel_left]; exact hv
  refine ⟨v0, v1, v2, v3, R', ⟨hat 0 v0 rfl, hat 1 v1 rfl, hat 2 v2 rfl, hat 3 v3 rfl⟩, ?_⟩
  have s1 := h.own.stored (k * 4) (.int .u16 6)
  have s2 := s1.1.stored (k * 4 + 1) (.int .u8 0)
  have s3 := s2.1.stored (k * 4 + 2) (.int .u8 0)
  have s4 := s3.1.stored (k * 4 + 3) (.int .u32 0)
  have hg := (h.own.lt g rfl).1
  refine ⟨?_, only_below h.bel (only_trans (only_trans (only_trans s1.2 s2.2) s3.2) s4.2) h.bel.size hg⟩
  have e : (((((List.replicate k (ret 0)).flatMap Ins.cells ++ v0 :: v1 :: v2 :: v3 :: R').set (k * 4) (.int .u16 6)).set (k * 4 + 1) (.int .u8 0)).set (k * 4 + 2) (.int .u8 0)).set (k * 4 + 3) (.int .u32 0) = (List.replicate (k + 1) (ret 0)).flatMap Ins.cells ++ R' := by
    rw [List.set_append_right _ _ (by omega), List.set_append_right _ _ (by omega), List.set_append_right _ _ (by omega), List.set_append_right _ _ (by omega), hcl, List.replicate_succ', List.flatMap_append]
    simp [Ins.cells, ret]
  have s := s4.1
  rw [← e]; exact s
theorem rets_skip {w wr : World} {g n : Nat} {R : List Value} (h : Rets w wr g n n R) (hn : 0 < n) (k : Nat) : ∃ v0 v1 v2 v3, (wr.cell? ⟨g, 0, none⟩ = some v0 ∧ wr.cell? ⟨g, 1, none⟩ = some v1 ∧ wr.cell? ⟨g, 2, none⟩ = some v2 ∧ wr.cell? ⟨g, 3, none⟩ = some v3) ∧
    ((((wr.setCell ⟨g, 0, none⟩ (.int .u16 5)).setCell ⟨g, 1, none⟩ (.int .u8 0)).setCell ⟨g, 2, none⟩ (.int .u8 0)).setCell ⟨g, 3, none⟩ (.int .u32 k)).ownsRow w.heap.size 27 4 (.slice (some ⟨g, 0, none⟩) n n) n ((manyL n k).flatMap Ins.cells) ∧
    Below w.heap.size w ((((wr.setCell ⟨g, 0, none⟩ (.int .u16 5)).setCell ⟨g, 1, none⟩ (.int .u8 0)).setCell ⟨g, 2, none⟩ (.int .u8 0)).setCell ⟨g, 3, none⟩ (.int .u32 k)) := by
  have hl := h.len
  obtain rfl : R = [] := List.eq_nil_of_length_eq_zero (by omega)
  obtain ⟨m, rfl⟩ : ∃ m, n = m + 1 := ⟨n - 1, by omega⟩
  have hx : (List.replicate (m + 1) (ret 0)).flatMap Ins.cells ++ [] = (.int .u16 6) :: (.int .u8 0) :: (.int .u8 0) :: (.int .u32 0) :: (List.replicate m (ret 0)).flatMap Ins.cells := by
    rw [List.append_nil, List.replicate_succ, List.flatMap_cons]; rfl
  have ho := h.own
  rw [hx] at ho
  have hat : ∀ j v, j < 4 → ((.int .u16 6) :: (.int .u8 0) :: (.int .u8 0) :: (.int .u32 0) :: (List.replicate m (ret 0)).flatMap Ins.cells : List Value)[j]? = some v → wr.cell? ⟨g, j, none⟩ = some v := fun j v hj hv => by
    rw [ho.cellAt j (by omega)]; exact hv
  refine ⟨_, _, _, _, ⟨hat 0 _ (by omega) rfl, hat 1 _ (by omega) rfl, hat 2 _ (by omega) rfl, hat 3 _ (by omega) rfl⟩, ?_⟩
  have s1 := ho.stored 0 (.int .u16 5)
  have s2 := s1.1.stored 1 (.int .u8 0)
  have s3 := s2.1.stored 2 (.int .u8 0)
  have s4 := s3.1.stored 3 (.int .u32 k)
  exact ⟨s4.1, only_below h.bel (only_trans (only_trans (only_trans s1.2 s2.2) s3.2) s4.2) h.bel.size (ho.lt g rfl).1⟩
theorem want_one {w w5 : World} {a e : Nat} (h : Below w.heap.size w w5) : Want w (w5.alloc (.cells #[.int .i64 a, .int .i64 e] 31)) w5.heap.size a e :=
  ⟨Bk.new _ _ _ rfl, h.size, h.alloc h.size _⟩
theorem ret_ok : ∀ i ∈ [ret 0], i.ok := by simp [ret, Ins.ok]
theorem many_ok {n k : Nat} (hk : k < 5000) : ∀ i ∈ manyL n k, i.ok := by
  intro i hi
  obtain ⟨j, hj⟩ := List.getElem?_of_mem hi
  rcases many_at hj with ⟨_, rfl⟩ | ⟨_, rfl⟩
  · simp [skip, Ins.ok]; omega
  · simp [ret, Ins.ok]
set_option maxRecDepth 100000 in
set_option maxHeartbeats 4000000 in
theorem walk_many (n0 far : Nat) (w : World) (hn0 : n0 < 256) (hfar : far < 65536) : Calls Try.prog 3 #[.int .u8 n0, .int .u16 far] w (Yes w) := by
  obtain ⟨i0, hi, hz0, hz1, hz2⟩ := info_parts infoIns
  obtain ⟨z, hz⟩ : ∃ z, z = n0 % 12 := ⟨_, rfl⟩
  obtain ⟨k, hk⟩ : ∃ k, k = far % 5000 := ⟨_, rfl⟩
  obtain ⟨n, hn⟩ : ∃ n, n = 4090 + z := ⟨_, rfl⟩
  have ez : (n0 : Int) % 12 = z := by omega
  have ek : (far : Int) % 5000 = k := by omega
  have en : (4090 : Int) + (z : Int) = n := by omega
  have hz12 : z < 12 := by omega
  have hk5 : k < 5000 := by omega
  have hnl : 4090 ≤ n ∧ n < 4102 := by omega
  have HA := Lib.hid (And.intro hz (And.intro hk hn))
  clear hz hk hn
  go_enter Try.func3, Try.ntmps3
  go_wp2_with fail
  refine (awake_any _).mono ?_
  rintro e w1 ⟨rfl, hb1⟩
  have Hb1 := Lib.hid hb1
  clear hb1
  go_wp2_with (at_make; refine wpList_make_full _ rfl _ _ 24 rfl w.heap.size 27 i0 _ 4 Try.underlying24 hi hz0 hz1 .i64 .i64 _ _ n rfl rfl (by omega) (by omega) (by rw [hz2]; omega) (by unfold maxLen; omega) Hb1.out.size ?_; intro w2 hown2 hg2; have HR := Lib.hid (show Rets w w2 w1.heap.size n 0 _ from ⟨hown2, Hb1.out.grown hg2 Hb1.out.size (fun k hk => by cases hk)⟩); clear hown2 hg2)
  obtain ⟨R0, HR0⟩ : ∃ R, Hid (Rets w w2 w1.heap.size n 0 R) := ⟨_, HR⟩
  clear HR
  generalize w1.heap.size = g at *
  go_loopw [20] (fun i wr => ∃ q R, q ≤ n ∧ i = .int .i64 (q : Nat) ∧ Hid (Rets w wr g n q R)) (fun i _ => n - (intOf i).toNat)
  case atStart => exact ⟨0, R0, by omega, rfl, HR0⟩
  case round =>
    obtain ⟨q, R, hq, rfl, HR⟩ := hrel
    by_cases hlt : q < n
    · go_wp2_with fail
      refine (return_of _ _).mono ?_
      rintro e w3 ⟨rfl, hb3⟩
      obtain ⟨v0, v1, v2, v3, R', ⟨c0, c1, c2, c3⟩, hnext⟩ := (HR.out.kept hb3).step hlt
      have f0 := (HR.out.kept hb3).own.frozenAt (q * 4)
      have f1 := (HR.out.kept hb3).own.frozenAt (q * 4 + 1)
      have f2 := (HR.out.kept hb3).own.frozenAt (q * 4 + 2)
      have f3 := (HR.out.kept hb3).own.frozenAt (q * 4 + 3)
      have HN := Lib.hid hnext
      clear hb3 hnext HR
      go_wp2_with fail
      go_roundw
      case rel => exact ⟨q + 1, R', by omega, by go_num, HN⟩
      case measure => simp [intOf]; omega
    · obtain rfl : q = n := by omega
      go_wp2_with fail
      refine (skip_of _ _).mono ?_
      rintro e w4 ⟨rfl, hb4⟩
      have HR4 := HR.out.kept hb4
      obtain ⟨v0, v1, v2, v3, ⟨c0, c1, c2, c3⟩, hown, hbel⟩ := rets_skip HR4 (by omega) k
      have f0 := HR4.own.frozenAt 0
      have f1 := HR4.own.frozenAt 1
      have f2 := HR4.own.frozenAt 2
      have f3 := HR4.own.frozenAt 3
      have Hown := Lib.hid hown
      have Hbel := Lib.hid hbel
      clear hb4 HR4 hown hbel HR
      by_cases hm : 4096 < q
      · have t1 : (4096 : Int) < (q : Int) := by omega
        go_wp2_with fail
        have HW := Lib.hid (show Want w ((((((w4.setCell ⟨g, 0, none⟩ (.int .u16 5)).setCell ⟨g, 1, none⟩ (.int .u8 0)).setCell ⟨g, 2, none⟩ (.int .u8 0)).setCell ⟨g, 3, none⟩ (.int .u32 k))).alloc (.cells #[.int .i64 4096, .int .i64 205] 31)) w4.heap.size 4096 205 from by
          have h := want_one (a := 4096) (e := 205) Hbel.out
          simpa using h)
        obtain ⟨A9, c9, he9, _, hs9⟩ := own_seg Hown.out
        simp only [Value.slice.injEq, true_and] at he9
        obtain ⟨rfl, rfl⟩ := he9
        have HL := Lib.hid (hs9.rd.below (one_below _ (.cells #[.int .i64 4096, .int .i64 205] 31)))
        clear c0 c1 c2 c3 f0 f1 f2 f3 hs9 Hown Hbel
        revert HW HL
        generalize ((((((w4.setCell ⟨g, 0, none⟩ (.int .u16 5)).setCell ⟨g, 1, none⟩ (.int .u8 0)).setCell ⟨g, 2, none⟩ (.int .u8 0)).setCell ⟨g, 3, none⟩ (.int .u32 k))).alloc (.cells #[.int .i64 4096, .int .i64 205] 31)) = wx
        generalize w4.heap.size = gw
        intro HW HL
        have C := Lib.hid (fun w' hb => check_any (manyL q k) q (some ⟨g, 0, none⟩) q w' (many_len (by omega)) (many_ok hk5) (HL.out.below hb) (by unfold maxLen; omega))
        have CN := Lib.hid (fun w' => check_any [] 0 none 0 w' rfl (by simp) (Rd.nil _ _ _) (by unfold maxLen; omega))
        have HS := Lib.hid (show ∀ w', Below wx.heap.size wx w' → (w'.cell? ⟨gw, 0, none⟩ = some (.int .i64 4096) ∧ w'.cell? ⟨gw, 1, none⟩ = some (.int .i64 205)) ∧ Hid (Below wx.heap.size wx w') from fun w' hb => ⟨⟨(HW.out.kept hb).bk.cell 0 rfl, (HW.out.kept hb).bk.cell 1 rfl⟩, hb⟩)
        have hud : undef = Value.tuple #[] := rfl
        refine wp_region_held_drew (S := (fun w' => (w'.cell? ⟨gw, 0, none⟩ = some (.int .i64 4096) ∧ w'.cell? ⟨gw, 1, none⟩ = some (.int .i64 205)) ∧ Hid (Below wx.heap.size wx w'))) (by kernel_rfl) ?_ (fun hHeld0 => ?_)
        · exact HS.out _ (Below.refl _ _).drew
        refine wpAnyH_take (i := 0) (v := ?_) (by first | (simp only [List.getElem?_toArray, List.getElem?_cons_zero] <;> rfl) | rfl) (by kernel_rfl) (by kernel_rfl) (by kernel_rfl) (by exact fun _ _ _ h => h) (Or.inl ⟨by rfl, ?_⟩) hHeld0 ?_
        rotate_left 1
        · intro w hSw
          try dsimp only at hSw
          (go_simp) <;> (with_reducible rfl)
        try simp only [Act.put, List.setIfInBounds_toArray, List.set_cons_zero, List.set_cons_succ]
        refine wpAnyH_take (i := 2) (v := ?_) (by first | (simp only [List.getElem?_toArray, List.getElem?_cons_succ, List.getElem?_cons_zero] <;> rfl) | rfl) (by kernel_rfl) (by kernel_rfl) (by kernel_rfl) (by exact fun _ _ _ h => h) (Or.inl ⟨by rfl, ?_⟩) hHeld0 ?_
        rotate_left 1
        · intro w hSw
          try dsimp only at hSw
          (go_simp) <;> (with_reducible rfl)
        try simp only [Act.put, List.setIfInBounds_toArray, List.set_cons_zero, List.set_cons_succ]
        refine wpAnyH_ready (rs := [1]) (by kernel_rfl) (by simp) ?_
        refine AllReadyH.cons (by first | (simp only [List.getElem?_toArray, List.getElem?_cons_succ, List.getElem?_cons_zero] <;> rfl) | rfl) (fun K hK => ?_) AllReadyH.nil
        go_simp
        refine (C.out _ (step1 hHeld0)).mono ?_; rintro e wa ⟨p, er, rfl, hc, hba⟩; obtain ⟨rfl, rfl⟩ := hc.of_many (by rw [many_len (by omega)]; exact hm); clear hc
        go_wp2_with fail
        refine hK.out _ _ ?_ (fun hHeld1 => ?_)
        · (try dsimp only)
          exact HS.out _ (step2 hba hHeld0)
        clear hK K hHeld0
        try simp only [Act.put, List.setIfInBounds_toArray, List.set_cons_zero, List.set_cons_succ]
        refine wpAnyH_take (i := 3) (v := ?_) (by first | (simp only [List.getElem?_toArray, List.getElem?_cons_succ, List.getElem?_cons_zero] <;> rfl) | rfl) (by kernel_rfl) (by kernel_rfl) (by kernel_rfl) (by exact fun _ _ _ h => h) (Or.inl ⟨by rfl, ?_⟩) hHeld1 ?_
        rotate_left 1
        · intro w hSw
          try dsimp only at hSw
          (go_simp) <;> (with_reducible rfl)
        try simp only [Act.put, List.setIfInBounds_toArray, List.set_cons_zero, List.set_cons_succ]
        refine wpAnyH_take (i := 4) (v := ?_) (by first | (simp only [List.getElem?_toArray, List.getElem?_cons_succ, List.getElem?_cons_zero] <;> rfl) | rfl) (by kernel_rfl) (by kernel_rfl) (by kernel_rfl) (by exact fun _ _ _ h => h) (Or.inl ⟨by rfl, ?_⟩) hHeld1 ?_
        rotate_left 1
        · intro w hSw
          try dsimp only at hSw
          (go_simp) <;> (with_reducible rfl)
        try simp only [Act.put, List.setIfInBounds_toArray, List.set_cons_zero, List.set_cons_succ]
        refine wpAnyH_take (i := 6) (v := ?_) (by first | (simp only [List.getElem?_toArray, List.getElem?_cons_succ, List.getElem?_cons_zero] <;> rfl) | rfl) (by kernel_rfl) (by kernel_rfl) (by kernel_rfl) (by exact fun _ _ _ h => h) (Or.inl ⟨by rfl, ?_⟩) hHeld1 ?_
        rotate_left 1
        · intro w hSw
          try dsimp only at hSw
          (go_simp) <;> (with_reducible rfl)
        try simp only [Act.put, List.setIfInBounds_toArray, List.set_cons_zero, List.set_cons_succ]
        refine wpAnyH_ready (rs := [5]) (by kernel_rfl) (by simp) ?_
        refine AllReadyH.cons (by first | (simp only [List.getElem?_toArray, List.getElem?_cons_succ, List.getElem?_cons_zero] <;> rfl) | rfl) (fun K hK => ?_) AllReadyH.nil
        go_simp
        refine (CN.out _).mono ?_; rintro e wb ⟨p, er, rfl, hc, hbb⟩; obtain ⟨rfl, rfl⟩ := hc.of_none rfl; clear hc
        go_wp2_with fail
        refine hK.out _ _ ?_ (fun hHeld2 => ?_)
        · (try dsimp only)
          exact HS.out _ (step2 hbb hHeld1)
        clear hK K hHeld1
        try simp only [Act.put, List.setIfInBounds_toArray, List.set_cons_zero, List.set_cons_succ]
        refine wpAnyH_take (i := 7) (v := ?_) (by first | (simp only [List.getElem?_toArray, List.getElem?_cons_succ, List.getElem?_cons_zero] <;> rfl) | rfl) (by kernel_rfl) (by kernel_rfl) (by kernel_rfl) (by exact fun _ _ _ h => h) (Or.inl ⟨by rfl, ?_⟩) hHeld2 ?_
        rotate_left 1
        · intro w hSw
          try dsimp only at hSw
          (go_simp) <;> (with_reducible rfl)
        try simp only [Act.put, List.setIfInBounds_toArray, List.set_cons_zero, List.set_cons_succ]
        refine wpAnyH_take (i := 8) (v := ?_) (by first | (simp only [List.getElem?_toArray, List.getElem?_cons_succ, List.getElem?_cons_zero] <;> rfl) | rfl) (by kernel_rfl) (by kernel_rfl) (by kernel_rfl) (by exact fun _ _ _ h => h) (Or.inl ⟨by rfl, ?_⟩) hHeld2 ?_
        rotate_left 1
        · intro w hSw
          try dsimp only at hSw
          (go_simp) <;> (with_reducible rfl)
        try simp only [Act.put, List.setIfInBounds_toArray, List.set_cons_zero, List.set_cons_succ]
        refine wpAnyH_take (i := 9) (v := ?_) (by first | (simp only [List.getElem?_toArray, List.getElem?_cons_succ, List.getElem?_cons_zero] <;> rfl) | rfl) (by kernel_rfl) (by kernel_rfl) (by kernel_rfl) (by exact fun _ _ _ h => h) (Or.inl ⟨by rfl, ?_⟩) hHeld2 ?_
        rotate_left 1
        · intro w hSw
          try dsimp only at hSw
          (go_simp) <;> (with_reducible rfl)
        try simp only [Act.put, List.setIfInBounds_toArray, List.set_cons_zero, List.set_cons_succ]
        refine wpAnyH_done (by kernel_rfl) ?_ _
        have HEnd := Lib.hid (HW.out.bel.trans ((step1 hHeld2).mono HW.out.bel.size))
        clear hHeld2
        go_wp2_with fail
        go_ret
        exact ⟨rfl, HEnd.out⟩
      · have t1 : ¬ (4096 : Int) < (q : Int) := by omega
        by_cases hj : q - 2 < k
        · have t2 : (q : Int) - 2 < (k : Int) := by omega
          go_wp2_with fail
          have HW := Lib.hid (show Want w ((((((w4.setCell ⟨g, 0, none⟩ (.int .u16 5)).setCell ⟨g, 1, none⟩ (.int .u8 0)).setCell ⟨g, 2, none⟩ (.int .u8 0)).setCell ⟨g, 3, none⟩ (.int .u32 k))).alloc (.cells #[.int .i64 0, .int .i64 207] 31)) w4.heap.size 0 207 from by
            have h := want_one (a := 0) (e := 207) Hbel.out
            simpa using h)
          obtain ⟨A9, c9, he9, _, hs9⟩ := own_seg Hown.out
          simp only [Value.slice.injEq, true_and] at he9
          obtain ⟨rfl, rfl⟩ := he9
          have HL := Lib.hid (hs9.rd.below (one_below _ (.cells #[.int .i64 0, .int .i64 207] 31)))
          clear c0 c1 c2 c3 f0 f1 f2 f3 hs9 Hown Hbel
          revert HW HL
          generalize ((((((w4.setCell ⟨g, 0, none⟩ (.int .u16 5)).setCell ⟨g, 1, none⟩ (.int .u8 0)).setCell ⟨g, 2, none⟩ (.int .u8 0)).setCell ⟨g, 3, none⟩ (.int .u32 k))).alloc (.cells #[.int .i64 0, .int .i64 207] 31)) = wx
          generalize w4.heap.size = gw
          intro HW HL
          have C := Lib.hid (fun w' hb => check_any (manyL q k) q (some ⟨g, 0, none⟩) q w' (many_len (by omega)) (many_ok hk5) (HL.out.below hb) (by unfold maxLen; omega))
          have CN := Lib.hid (fun w' => check_any [] 0 none 0 w' rfl (by simp) (Rd.nil _ _ _) (by unfold maxLen; omega))
          have HS := Lib.hid (show ∀ w', Below wx.heap.size wx w' → (w'.cell? ⟨gw, 0, none⟩ = some (.int .i64 0) ∧ w'.cell? ⟨gw, 1, none⟩ = some (.int .i64 207)) ∧ Hid (Below wx.heap.size wx w') from fun w' hb => ⟨⟨(HW.out.kept hb).bk.cell 0 rfl, (HW.out.kept hb).bk.cell 1 rfl⟩, hb⟩)
          have hud : undef = Value.tuple #[] := rfl
          refine wp_region_held_drew (S := (fun w' => (w'.cell? ⟨gw, 0, none⟩ = some (.int .i64 0) ∧ w'.cell? ⟨gw, 1, none⟩ = some (.int .i64 207)) ∧ Hid (Below wx.heap.size wx w'))) (by kernel_rfl) ?_ (fun hHeld0 => ?_)
          · exact HS.out _ (Below.refl _ _).drew
          refine wpAnyH_take (i := 0) (v := ?_) (by first | (simp only [List.getElem?_toArray, List.getElem?_cons_zero] <;> rfl) | rfl) (by kernel_rfl) (by kernel_rfl) (by kernel_rfl) (by exact fun _ _ _ h => h) (Or.inl ⟨by rfl, ?_⟩) hHeld0 ?_
          rotate_left 1
          · intro w hSw
            try dsimp only at hSw
            (go_simp) <;> (with_reducible rfl)
          try simp only [Act.put, List.setIfInBounds_toArray, List.set_cons_zero, List.set_cons_succ]
          refine wpAnyH_take (i := 2) (v := ?_) (by first | (simp only [List.getElem?_toArray, List.getElem?_cons_succ, List.getElem?_cons_zero] <;> rfl) | rfl) (by kernel_rfl) (by kernel_rfl) (by kernel_rfl) (by exact fun _ _ _ h => h) (Or.inl ⟨by rfl, ?_⟩) hHeld0 ?_
          rotate_left 1
          · intro w hSw
            try dsimp only at hSw
            (go_simp) <;> (with_reducible rfl)
          try simp only [Act.put, List.setIfInBounds_toArray, List.set_cons_zero, List.set_cons_succ]
          refine wpAnyH_ready (rs := [1]) (by kernel_rfl) (by simp) ?_
          refine AllReadyH.cons (by first | (simp only [List.getElem?_toArray, List.getElem?_cons_succ, List.getElem?_cons_zero] <;> rfl) | rfl) (fun K hK => ?_) AllReadyH.nil
          go_simp
          refine (C.out _ (step1 hHeld0)).mono ?_; rintro e wa ⟨p, er, rfl, hc, hba⟩; obtain ⟨rfl, rfl⟩ := many_jump (by omega) (by omega) hj hc; clear hc
          go_wp2_with fail
          refine hK.out _ _ ?_ (fun hHeld1 => ?_)
          · (try dsimp only)
            exact HS.out _ (step2 hba hHeld0)
          clear hK K hHeld0
          try simp only [Act.put, List.setIfInBounds_toArray, List.set_cons_zero, List.set_cons_succ]
          refine wpAnyH_take (i := 3) (v := ?_) (by first | (simp only [List.getElem?_toArray, List.getElem?_cons_succ, List.getElem?_cons_zero] <;> rfl) | rfl) (by kernel_rfl) (by kernel_rfl) (by kernel_rfl) (by exact fun _ _ _ h => h) (Or.inl ⟨by rfl, ?_⟩) hHeld1 ?_
          rotate_left 1
          · intro w hSw
            try dsimp only at hSw
            (go_simp) <;> (with_reducible rfl)
          try simp only [Act.put, List.setIfInBounds_toArray, List.set_cons_zero, List.set_cons_succ]
          refine wpAnyH_take (i := 4) (v := ?_) (by first | (simp only [List.getElem?_toArray, List.getElem?_cons_succ, List.getElem?_cons_zero] <;> rfl) | rfl) (by kernel_rfl) (by kernel_rfl) (by kernel_rfl) (by exact fun _ _ _ h => h) (Or.inl ⟨by rfl, ?_⟩) hHeld1 ?_
          rotate_left 1
          · intro w hSw
            try dsimp only at hSw
            (go_simp) <;> (with_reducible rfl)
          try simp only [Act.put, List.setIfInBounds_toArray, List.set_cons_zero, List.set_cons_succ]
          refine wpAnyH_take (i := 6) (v := ?_) (by first | (simp only [List.getElem?_toArray, List.getElem?_cons_succ, List.getElem?_cons_zero] <;> rfl) | rfl) (by kernel_rfl) (by kernel_rfl) (by kernel_rfl) (by exact fun _ _ _ h => h) (Or.inl ⟨by rfl, ?_⟩) hHeld1 ?_
          rotate_left 1
          · intro w hSw
            try dsimp only at hSw
            (go_simp) <;> (with_reducible rfl)
          try simp only [Act.put, List.setIfInBounds_toArray, List.set_cons_zero, List.set_cons_succ]
          refine wpAnyH_ready (rs := [5]) (by kernel_rfl) (by simp) ?_
          refine AllReadyH.cons (by first | (simp only [List.getElem?_toArray, List.getElem?_cons_succ, List.getElem?_cons_zero] <;> rfl) | rfl) (fun K hK => ?_) AllReadyH.nil
          go_simp
          refine (CN.out _).mono ?_; rintro e wb ⟨p, er, rfl, hc, hbb⟩; obtain ⟨rfl, rfl⟩ := hc.of_none rfl; clear hc
          go_wp2_with fail
          refine hK.out _ _ ?_ (fun hHeld2 => ?_)
          · (try dsimp only)
            exact HS.out _ (step2 hbb hHeld1)
          clear hK K hHeld1
          try simp only [Act.put, List.setIfInBounds_toArray, List.set_cons_zero, List.set_cons_succ]
          refine wpAnyH_take (i := 7) (v := ?_) (by first | (simp only [List.getElem?_toArray, List.getElem?_cons_succ, List.getElem?_cons_zero] <;> rfl) | rfl) (by kernel_rfl) (by kernel_rfl) (by kernel_rfl) (by exact fun _ _ _ h => h) (Or.inl ⟨by rfl, ?_⟩) hHeld2 ?_
          rotate_left 1
          · intro w hSw
            try dsimp only at hSw
            (go_simp) <;> (with_reducible rfl)
          try simp only [Act.put, List.setIfInBounds_toArray, List.set_cons_zero, List.set_cons_succ]
          refine wpAnyH_take (i := 8) (v := ?_) (by first | (simp only [List.getElem?_toArray, List.getElem?_cons_succ, List.getElem?_cons_zero] <;> rfl) | rfl) (by kernel_rfl) (by kernel_rfl) (by kernel_rfl) (by exact fun _ _ _ h => h) (Or.inl ⟨by rfl, ?_⟩) hHeld2 ?_
          rotate_left 1
          · intro w hSw
            try dsimp only at hSw
            (go_simp) <;> (with_reducible rfl)
          try simp only [Act.put, List.setIfInBounds_toArray, List.set_cons_zero, List.set_cons_succ]
          refine wpAnyH_take (i := 9) (v := ?_) (by first | (simp only [List.getElem?_toArray, List.getElem?_cons_succ, List.getElem?_cons_zero] <;> rfl) | rfl) (by kernel_rfl) (by kernel_rfl) (by kernel_rfl) (by exact fun _ _ _ h => h) (Or.inl ⟨by rfl, ?_⟩) hHeld2 ?_
          rotate_left 1
          · intro w hSw
            try dsimp only at hSw
            (go_simp) <;> (with_reducible rfl)
          try simp only [Act.put, List.setIfInBounds_toArray, List.set_cons_zero, List.set_cons_succ]
          refine wpAnyH_done (by kernel_rfl) ?_ _
          have HEnd := Lib.hid (HW.out.bel.trans ((step1 hHeld2).mono HW.out.bel.size))
          clear hHeld2
          go_wp2_with fail
          go_ret
          exact ⟨rfl, HEnd.out⟩
        · have t2 : ¬ (q : Int) - 2 < (k : Int) := by omega
          go_wp2_with fail
          have HW := Lib.hid (show Want w ((((((w4.setCell ⟨g, 0, none⟩ (.int .u16 5)).setCell ⟨g, 1, none⟩ (.int .u8 0)).setCell ⟨g, 2, none⟩ (.int .u8 0)).setCell ⟨g, 3, none⟩ (.int .u32 k))).alloc (.cells #[.int .i64 0, .int .i64 0] 31)) w4.heap.size 0 0 from by
            have h := want_one (a := 0) (e := 0) Hbel.out
            simpa using h)
          obtain ⟨A9, c9, he9, _, hs9⟩ := own_seg Hown.out
          simp only [Value.slice.injEq, true_and] at he9
          obtain ⟨rfl, rfl⟩ := he9
          have HL := Lib.hid (hs9.rd.below (one_below _ (.cells #[.int .i64 0, .int .i64 0] 31)))
          clear c0 c1 c2 c3 f0 f1 f2 f3 hs9 Hown Hbel
          revert HW HL
          generalize ((((((w4.setCell ⟨g, 0, none⟩ (.int .u16 5)).setCell ⟨g, 1, none⟩ (.int .u8 0)).setCell ⟨g, 2, none⟩ (.int .u8 0)).setCell ⟨g, 3, none⟩ (.int .u32 k))).alloc (.cells #[.int .i64 0, .int .i64 0] 31)) = wx
          generalize w4.heap.size = gw
          intro HW HL
          have C := Lib.hid (fun w' hb => check_any (manyL q k) q (some ⟨g, 0, none⟩) q w' (many_len (by omega)) (many_ok hk5) (HL.out.below hb) (by unfold maxLen; omega))
          have CN := Lib.hid (fun w' => check_any [] 0 none 0 w' rfl (by simp) (Rd.nil _ _ _) (by unfold maxLen; omega))
          have HS := Lib.hid (show ∀ w', Below wx.heap.size wx w' → (w'.cell? ⟨gw, 0, none⟩ = some (.int .i64 0) ∧ w'.cell? ⟨gw, 1, none⟩ = some (.int .i64 0)) ∧ Hid (Below wx.heap.size wx w') from fun w' hb => ⟨⟨(HW.out.kept hb).bk.cell 0 rfl, (HW.out.kept hb).bk.cell 1 rfl⟩, hb⟩)
          have hud : undef = Value.tuple #[] := rfl
          refine wp_region_held_drew (S := (fun w' => (w'.cell? ⟨gw, 0, none⟩ = some (.int .i64 0) ∧ w'.cell? ⟨gw, 1, none⟩ = some (.int .i64 0)) ∧ Hid (Below wx.heap.size wx w'))) (by kernel_rfl) ?_ (fun hHeld0 => ?_)
          · exact HS.out _ (Below.refl _ _).drew
          refine wpAnyH_take (i := 0) (v := ?_) (by first | (simp only [List.getElem?_toArray, List.getElem?_cons_zero] <;> rfl) | rfl) (by kernel_rfl) (by kernel_rfl) (by kernel_rfl) (by exact fun _ _ _ h => h) (Or.inl ⟨by rfl, ?_⟩) hHeld0 ?_
          rotate_left 1
          · intro w hSw
            try dsimp only at hSw
            (go_simp) <;> (with_reducible rfl)
          try simp only [Act.put, List.setIfInBounds_toArray, List.set_cons_zero, List.set_cons_succ]
          refine wpAnyH_take (i := 2) (v := ?_) (by first | (simp only [List.getElem?_toArray, List.getElem?_cons_succ, List.getElem?_cons_zero] <;> rfl) | rfl) (by kernel_rfl) (by kernel_rfl) (by kernel_rfl) (by exact fun _ _ _ h => h) (Or.inl ⟨by rfl, ?_⟩) hHeld0 ?_
          rotate_left 1
          · intro w hSw
            try dsimp only at hSw
            (go_simp) <;> (with_reducible rfl)
          try simp only [Act.put, List.setIfInBounds_toArray, List.set_cons_zero, List.set_cons_succ]
          refine wpAnyH_ready (rs := [1]) (by kernel_rfl) (by simp) ?_
          refine AllReadyH.cons (by first | (simp only [List.getElem?_toArray, List.getElem?_cons_succ, List.getElem?_cons_zero] <;> rfl) | rfl) (fun K hK => ?_) AllReadyH.nil
          go_simp
          refine (C.out _ (step1 hHeld0)).mono ?_; rintro e wa ⟨p, er, rfl, hc, hba⟩; obtain ⟨rfl, rfl⟩ := hc.of_good (many_good (by omega) (by omega) (by omega)); clear hc
          go_wp2_with fail
          refine hK.out _ _ ?_ (fun hHeld1 => ?_)
          · (try dsimp only)
            exact HS.out _ (step2 hba hHeld0)
          clear hK K hHeld0
          try simp only [Act.put, List.setIfInBounds_toArray, List.set_cons_zero, List.set_cons_succ]
          refine wpAnyH_take (i := 3) (v := ?_) (by first | (simp only [List.getElem?_toArray, List.getElem?_cons_succ, List.getElem?_cons_zero] <;> rfl) | rfl) (by kernel_rfl) (by kernel_rfl) (by kernel_rfl) (by exact fun _ _ _ h => h) (Or.inl ⟨by rfl, ?_⟩) hHeld1 ?_
          rotate_left 1
          · intro w hSw
            try dsimp only at hSw
            (go_simp) <;> (with_reducible rfl)
          try simp only [Act.put, List.setIfInBounds_toArray, List.set_cons_zero, List.set_cons_succ]
          refine wpAnyH_take (i := 4) (v := ?_) (by first | (simp only [List.getElem?_toArray, List.getElem?_cons_succ, List.getElem?_cons_zero] <;> rfl) | rfl) (by kernel_rfl) (by kernel_rfl) (by kernel_rfl) (by exact fun _ _ _ h => h) (Or.inl ⟨by rfl, ?_⟩) hHeld1 ?_
          rotate_left 1
          · intro w hSw
            try dsimp only at hSw
            (go_simp) <;> (with_reducible rfl)
          try simp only [Act.put, List.setIfInBounds_toArray, List.set_cons_zero, List.set_cons_succ]
          refine wpAnyH_take (i := 6) (v := ?_) (by first | (simp only [List.getElem?_toArray, List.getElem?_cons_succ, List.getElem?_cons_zero] <;> rfl) | rfl) (by kernel_rfl) (by kernel_rfl) (by kernel_rfl) (by exact fun _ _ _ h => h) (Or.inl ⟨by rfl, ?_⟩) hHeld1 ?_
          rotate_left 1
          · intro w hSw
            try dsimp only at hSw
            (go_simp) <;> (with_reducible rfl)
          try simp only [Act.put, List.setIfInBounds_toArray, List.set_cons_zero, List.set_cons_succ]
          refine wpAnyH_ready (rs := [5]) (by kernel_rfl) (by simp) ?_
          refine AllReadyH.cons (by first | (simp only [List.getElem?_toArray, List.getElem?_cons_succ, List.getElem?_cons_zero] <;> rfl) | rfl) (fun K hK => ?_) AllReadyH.nil
          go_simp
          refine (CN.out _).mono ?_; rintro e wb ⟨p, er, rfl, hc, hbb⟩; obtain ⟨rfl, rfl⟩ := hc.of_none rfl; clear hc
          go_wp2_with fail
          refine hK.out _ _ ?_ (fun hHeld2 => ?_)
          · (try dsimp only)
            exact HS.out _ (step2 hbb hHeld1)
          clear hK K hHeld1
          try simp only [Act.put, List.setIfInBounds_toArray, List.set_cons_zero, List.set_cons_succ]
          refine wpAnyH_take (i := 7) (v := ?_) (by first | (simp only [List.getElem?_toArray, List.getElem?_cons_succ, List.getElem?_cons_zero] <;> rfl) | rfl) (by kernel_rfl) (by kernel_rfl) (by kernel_rfl) (by exact fun _ _ _ h => h) (Or.inl ⟨by rfl, ?_⟩) hHeld2 ?_
          rotate_left 1
          · intro w hSw
            try dsimp only at hSw
            (go_simp) <;> (with_reducible rfl)
          try simp only [Act.put, List.setIfInBounds_toArray, List.set_cons_zero, List.set_cons_succ]
          refine wpAnyH_take (i := 8) (v := ?_) (by first | (simp only [List.getElem?_toArray, List.getElem?_cons_succ, List.getElem?_cons_zero] <;> rfl) | rfl) (by kernel_rfl) (by kernel_rfl) (by kernel_rfl) (by exact fun _ _ _ h => h) (Or.inl ⟨by rfl, ?_⟩) hHeld2 ?_
          rotate_left 1
          · intro w hSw
            try dsimp only at hSw
            (go_simp) <;> (with_reducible rfl)
          try simp only [Act.put, List.setIfInBounds_toArray, List.set_cons_zero, List.set_cons_succ]
          refine wpAnyH_take (i := 9) (v := ?_) (by first | (simp only [List.getElem?_toArray, List.getElem?_cons_succ, List.getElem?_cons_zero] <;> rfl) | rfl) (by kernel_rfl) (by kernel_rfl) (by kernel_rfl) (by exact fun _ _ _ h => h) (Or.inl ⟨by rfl, ?_⟩) hHeld2 ?_
          rotate_left 1
          · intro w hSw
            try dsimp only at hSw
            (go_simp) <;> (with_reducible rfl)
          try simp only [Act.put, List.setIfInBounds_toArray, List.set_cons_zero, List.set_cons_succ]
          refine wpAnyH_done (by kernel_rfl) ?_ _
          have HEnd := Lib.hid (HW.out.bel.trans ((step1 hHeld2).mono HW.out.bel.size))
          clear hHeld2
          go_wp2_with fail
          go_ret
          exact ⟨rfl, HEnd.out⟩
theorem walk_checkMany (n far : Int) (w : World) (h0 : (Lit.int .u8 n).wf = true) (h1 : (Lit.int .u16 far).wf = true) : Calls Try.prog 3 #[.int .u8 n, .int .u16 far] w (Yes w) := by
  obtain ⟨l0, u0⟩ := bounds_u8 h0
  obtain ⟨l1, u1⟩ := bounds_u16 h1
  obtain ⟨n0, rfl⟩ := Int.eq_ofNat_of_zero_le l0
  obtain ⟨n1, rfl⟩ := Int.eq_ofNat_of_zero_le l1
  exact walk_many n0 n1 w (by omega) (by omega)
end Go.Proofs.Ytelflegcghcecaa
