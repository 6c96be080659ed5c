/- Any record as bytes, and back; its words; any bytes. -/
import Derived.Test.YtfkdhfbmpjfhbaaEq
import Derived.Test.YtfkdhfbmpjfhbaaOf
import Derived.Test.YtfkdhfbmpjfhbaaOpen
namespace Go.Proofs.Ytfkdhfbmpjfhbaa
open Go.RowKit
/-- The law's memory: the record, the bytes that came, the record's bytes, the document's record. -/
structure LMem (w wx : World) (gx gm : Nat) (L U V M : List Value) : Prop where
  rc : Bk wx w.heap.size 26 L
  by_ : Bk wx (w.heap.size + 1) 27 V
  xx : Bk wx gx 27 U
  mm : Bk wx gm 31 M
  bel : Below w.heap.size w wx
theorem LMem.kept {w wx wy : World} {gx gm : Nat} {L U V M : List Value} (h : LMem w wx gx gm L U V M) (hb : Below wx.heap.size wx wy) : LMem w wy gx gm L U V M :=
  ⟨h.rc.kept hb, h.by_.kept hb, h.xx.kept hb, h.mm.kept hb, h.bel.trans (hb.mono h.bel.size)⟩
theorem zs16_lit : (#[.int .u32 0, .int .u32 0, .int .u32 0, .int .u32 0, .int .u32 0, .int .u32 0, .int .u32 0, .int .u32 0, .int .u32 0, .int .u32 0, .int .u32 0, .int .u32 0, .int .u32 0, .int .u32 0, .int .u32 0, .int .u32 0] : Array Value) = zs16.toArray := by rfl
theorem LMem.drewN {w wx : World} {gx gm : Nat} {L U V M : List Value} (h : LMem w wx gx gm L U V M) (n : Nat) : LMem w (wx.drewN n) gx gm L U V M := h.kept (below_drewN (Below.refl _ _) n)
theorem or32 (x y i m : Nat) (h0 : x < 2 ^ i) (h1 : y < 256) (hi : i ≤ 24) (hm : m = 2 ^ i) : bits .or .u32 (x : Int) ((y : Int) * (m : Nat)) = ((x + m * y : Nat) : Int) := by
  subst hm
  have hp : 2 ^ i ≤ 2 ^ 24 := Nat.pow_le_pow_right (by omega) hi
  have hy : 2 ^ i * y ≤ 2 ^ 24 * 255 := Nat.mul_le_mul hp (by omega)
  have e := u32_or_nat x (2 ^ i * y) (by omega) (by omega)
  have e2 : ((2 ^ i * y : Nat) : Int) = (y : Int) * ((2 ^ i : Nat) : Int) := by rw [Int.natCast_mul, Int.mul_comm]
  rw [e2] at e
  rw [e, Nat.or_comm, ← Nat.two_pow_add_eq_or_of_lt h0 y, Nat.add_comm]
set_option maxRecDepth 100000 in
set_option maxHeartbeats 4000000 in
theorem bytes_law (bs cs : List Nat) (at_ : Nat) (w : World) (hr : IsRec bs) (hc : IsRec cs) (hat : at_ < 4294967296) :
    Calls Try.prog 3 #[.agg (recL bs).toArray, .agg (u8s cs).toArray, .int .u32 at_] w (Yes w) := by
  have Bytes := Lib.hid (fun w => bytes_any bs w hr.1 hr.2)
  have BytesC := Lib.hid (fun w => bytes_any cs w hc.1 hc.2)
  have OfX := Lib.hid (fun w => of_any bs w hr.1 hr.2)
  have OfC := Lib.hid (fun w => of_any cs w hc.1 hc.2)
  have Ref := Lib.hid (fun w => ref_any bs w hr.2)
  have Word := Lib.hid (fun n w h4 h60 => word_yes bs n w hr.1 hr.2 h4 h60)
  have neqC := fun w => neq64 cs hc.1 w
  have neqR := fun w => neqRec (leN bs 0 4) (leN bs 4 4) (leN bs 8 8) (leN bs 16 8) (leN bs 24 8) (leN bs 32 8) (leN bs 40 8) (leN bs 48 8) (leN bs 56 8) w
  have hLl : (recL bs).length = 9 := rfl
  have hUl := u8s_len hr.1
  have hVl := u8s_len hc.1
  have hUa := u8s_all bs
  have hMl := ws_len bs
  have hMa := u32s_all (ws bs)
  have hUat := fun j (h : j < 64) => u8s_getD (bs := bs) (j := j) (by rw [hr.1]; exact h)
  have hMat := fun k (h : k < 16) => u32s_at (ws_at bs k h)
  have hneqR : ∀ w, (binOp .neq 26 (.agg (recL bs).toArray) (.agg (recL bs).toArray)).run Try.prog w = .ok (.bool false) w := neqR
  obtain ⟨L, hL⟩ : ∃ L, L = recL bs := ⟨_, rfl⟩
  obtain ⟨LC, hLC⟩ : ∃ L, L = recL cs := ⟨_, rfl⟩
  obtain ⟨U, hU⟩ : ∃ U, U = u8s bs := ⟨_, rfl⟩
  obtain ⟨V, hV⟩ : ∃ V, V = u8s cs := ⟨_, rfl⟩
  obtain ⟨M, hM⟩ : ∃ M, M = u32s (ws bs) := ⟨_, rfl⟩
  rw [← hL] at Bytes OfX Ref Word hneqR hLl ⊢
  rw [← hLC] at BytesC OfC
  rw [← hU] at Bytes OfX hUl hUa hUat
  rw [← hV] at BytesC OfC neqC hVl ⊢
  rw [← hM] at Ref hMl hMa hMat
  have Neq := Lib.hid (And.intro neqC hneqR)
  have Len := Lib.hid (And.intro hLl (And.intro hUl (And.intro hVl hMl)))
  have All := Lib.hid (And.intro hUa hMa)
  have Uat := Lib.hid hUat
  have Mat := Lib.hid hMat
  have Hr := Lib.hid hr
  clear hr hc neqC neqR hneqR hLl hUl hVl hUa hMl hMa hUat hMat hL hLC hU hV hM
  have hb0 := (Below.refl w.heap.size w).alloc (Nat.le_refl _) (.cells L.toArray 26)
  have HB0 := Lib.hid (hb0.alloc hb0.size (.cells V.toArray 27))
  have HR0 := Lib.hid ((Bk.new w 26 L.toArray rfl).alloc (.cells V.toArray 27))
  have HV0 := Lib.hid (show Bk ((w.alloc (.cells L.toArray 26)).alloc (.cells V.toArray 27)) (w.heap.size + 1) 27 V from by
    have h := Bk.new (w.alloc (.cells L.toArray 26)) 27 V.toArray rfl
    simpa using h)
  clear hb0
  go_enter Try.func3, Try.ntmps3
  go_wp2_with fail
  refine (awake_any _).mono ?_
  rintro e w' ⟨rfl, rfl⟩
  go_wp2_with (refine ld_any HR0.out rfl _ rfl rfl Try.underlying26 size9 Len.out.1 ?_)
  refine (Bytes.out _).mono ?_
  rintro e w1 ⟨rfl, hb1⟩
  have HR1 := Lib.hid (HR0.out.kept hb1)
  have HV1 := Lib.hid (HV0.out.kept hb1)
  have HB1 := Lib.hid (HB0.out.trans (hb1.mono HB0.out.size))
  clear hb1 HR0 HV0 HB0
  have Hz := Lib.hid (Bk.new w1 27 _ zs64)
  go_wp2_with (first | (refine ld_any ((HR1.out.alloc _).grown (only_row _ _ _) (by have := HR1.out.lt; simp; omega)) rfl _ rfl rfl Try.underlying26 size9 Len.out.1 ?_) | (refine st_row Hz.out rfl _ _ rfl rfl rfl size64 (u8s_len (by simp)) Len.out.2.1 All.out.1 ?_))
  rw [zs64]
  have hz := Bk.new w1 27 (u8s (List.replicate 64 0)).toArray rfl
  have hx2 := hz.row U
  have hg2 := only_row (w1.alloc (.cells (u8s (List.replicate 64 0)).toArray 27)) w1.heap.size U.toArray
  have hr2 := (HR1.out.alloc (.cells (u8s (List.replicate 64 0)).toArray 27)).grown hg2 (by have := HR1.out.lt; simp; omega)
  have hv2 := (HV1.out.alloc (.cells (u8s (List.replicate 64 0)).toArray 27)).grown hg2 (by have := HV1.out.lt; simp; omega)
  have hb2 := only_below (HB1.out.alloc HB1.out.size (.cells (u8s (List.replicate 64 0)).toArray 27)) hg2 (by have := HB1.out.size; simp; omega) HB1.out.size
  clear hz hg2 Hz HR1 HV1 HB1
  revert hx2 hr2 hv2 hb2
  generalize ((w1.alloc (.cells (u8s (List.replicate 64 0)).toArray 27)).setRow w1.heap.size U.toArray) = w2
  generalize w1.heap.size = gx
  intro hx2 hr2 hv2 hb2
  have HX2 := Lib.hid hx2
  have HR2 := Lib.hid hr2
  have HV2 := Lib.hid hv2
  have HB2 := Lib.hid hb2
  clear hx2 hr2 hv2 hb2
  refine (Ref.out _).mono ?_
  rintro e w3 ⟨rfl, hb3⟩
  have HX3 := Lib.hid (HX2.out.kept hb3)
  have HR3 := Lib.hid (HR2.out.kept hb3)
  have HV3 := Lib.hid (HV2.out.kept hb3)
  have HB3 := Lib.hid (HB2.out.trans (hb3.mono HB2.out.size))
  clear hb3 HX2 HR2 HV2 HB2
  have Hz := Lib.hid (Bk.new w3 31 _ zs16_lit)
  go_wp2_with (refine st_row Hz.out rfl _ _ rfl rfl rfl size16 rfl Len.out.2.2.2 All.out.2 ?_)
  rw [zs16_lit]
  have hz := Bk.new w3 31 zs16.toArray rfl
  have hg2 := only_row (w3.alloc (.cells zs16.toArray 31)) w3.heap.size M.toArray
  have hM4 : LMem w ((w3.alloc (.cells zs16.toArray 31)).setRow w3.heap.size M.toArray) gx w3.heap.size L U V M :=
    ⟨(HR3.out.alloc _).grown hg2 (by have := HR3.out.lt; simp; omega), (HV3.out.alloc _).grown hg2 (by have := HV3.out.lt; simp; omega), (HX3.out.alloc _).grown hg2 (by have := HX3.out.lt; simp; omega), hz.row M,
      only_below (HB3.out.alloc HB3.out.size _) hg2 (by have := HB3.out.size; simp; omega) HB3.out.size⟩
  clear hz hg2 Hz HX3 HR3 HV3 HB3
  revert hM4
  generalize ((w3.alloc (.cells zs16.toArray 31)).setRow w3.heap.size M.toArray) = wz
  generalize w3.heap.size = gm
  intro hM4
  have HM := Lib.hid hM4
  clear hM4
  have HS := Lib.hid (show ∀ w', Below wz.heap.size wz w' → (fun w' => ((Instr.loadAt 27 (.pointer (some ⟨gx, 0, none⟩))).run Try.prog w' = .ok (.agg U.toArray) w' ∧ (Instr.loadAt 26 (.pointer (some ⟨w.heap.size, 0, none⟩))).run Try.prog w' = .ok (.agg L.toArray) w' ∧ (Instr.loadAt 27 (.pointer (some ⟨w.heap.size + 1, 0, none⟩))).run Try.prog w' = .ok (.agg V.toArray) w') ∧ Hid (Below wz.heap.size wz w')) w' from fun w' h => ⟨⟨ld_64 (HM.out.xx.kept h) Len.out.2.1, ld_rec (HM.out.rc.kept h) Len.out.1, ld_64 (HM.out.by_.kept h) Len.out.2.2.1⟩, h⟩)
  have neqR := Neq.out.2
  have neqC := Neq.out.1
  refine wp_region_held_drew (S := (fun w' => ((Instr.loadAt 27 (.pointer (some ⟨gx, 0, none⟩))).run Try.prog w' = .ok (.agg U.toArray) w' ∧ (Instr.loadAt 26 (.pointer (some ⟨w.heap.size, 0, none⟩))).run Try.prog w' = .ok (.agg L.toArray) w' ∧ (Instr.loadAt 27 (.pointer (some ⟨w.heap.size + 1, 0, none⟩))).run Try.prog w' = .ok (.agg V.toArray) w') ∧ Hid (Below wz.heap.size wz w'))) (by kernel_rfl) ?_ (fun hHeld0 => ?_)
  · exact HS.out _ (Below.refl _ _).drew
  refine wpAnyH_take (i := 0) (v := ?_) (by first | (simp only [List.getElem?_toArray, List.getElem?_cons_zero] <;> rfl) | rfl) (by kernel_rfl) (by kernel_rfl) (by kernel_rfl) (by exact fun _ _ _ h => h) (Or.inl ⟨by rfl, ?_⟩) hHeld0 ?_
  rotate_left 1
  · intro w hSw
    refine Eq.trans (exec_load rfl rfl (hSw.1.1)) ?_
    with_reducible rfl
  try simp only [Act.put, List.setIfInBounds_toArray, List.set_cons_zero, List.set_cons_succ]
  refine wpAnyH_take (i := 2) (v := ?_) (by first | (simp only [List.getElem?_toArray, List.getElem?_cons_succ, List.getElem?_cons_zero] <;> rfl) | rfl) (by kernel_rfl) (by kernel_rfl) (by kernel_rfl) (by exact fun _ _ _ h => h) (Or.inl ⟨by rfl, ?_⟩) hHeld0 ?_
  rotate_left 1
  · intro w hSw
    refine Eq.trans (exec_load rfl rfl (hSw.1.2.1)) ?_
    with_reducible rfl
  try simp only [Act.put, List.setIfInBounds_toArray, List.set_cons_zero, List.set_cons_succ]
  refine wpAnyH_ready (rs := [1]) (by kernel_rfl) (by simp) ?_
  refine AllReadyH.cons (by first | (simp only [List.getElem?_toArray, List.getElem?_cons_succ, List.getElem?_cons_zero] <;> rfl) | rfl) (fun K hK => ?_) AllReadyH.nil
  go_simp
  refine (OfX.out _).mono ?_; rintro e wa ⟨rfl, hba⟩
  go_wp2_with fail
  refine hK.out _ _ ?_ (fun hHeld1 => ?_)
  · (try dsimp only)
    exact HS.out _ (step2 hba hHeld0)
  clear hK K hHeld0
  try simp only [Act.put, List.setIfInBounds_toArray, List.set_cons_zero, List.set_cons_succ]
  refine wpAnyH_take (i := 3) (v := ?_) (by first | (simp only [List.getElem?_toArray, List.getElem?_cons_succ, List.getElem?_cons_zero] <;> rfl) | rfl) (by kernel_rfl) (by kernel_rfl) (by kernel_rfl) (by exact fun _ _ _ h => h) (Or.inl ⟨by rfl, ?_⟩) hHeld1 ?_
  rotate_left 1
  · intro w hSw
    try dsimp only at hSw
    (go_simp) <;> (with_reducible rfl)
  try simp only [Act.put, List.setIfInBounds_toArray, List.set_cons_zero, List.set_cons_succ]
  refine wpAnyH_take (i := 4) (v := ?_) (by first | (simp only [List.getElem?_toArray, List.getElem?_cons_succ, List.getElem?_cons_zero] <;> rfl) | rfl) (by kernel_rfl) (by kernel_rfl) (by kernel_rfl) (by exact fun _ _ _ h => h) (Or.inl ⟨by rfl, ?_⟩) hHeld1 ?_
  rotate_left 1
  · intro w hSw
    try dsimp only at hSw
    (go_simp) <;> (with_reducible rfl)
  try simp only [Act.put, List.setIfInBounds_toArray, List.set_cons_zero, List.set_cons_succ]
  refine wpAnyH_take (i := 5) (v := ?_) (by first | (simp only [List.getElem?_toArray, List.getElem?_cons_succ, List.getElem?_cons_zero] <;> rfl) | rfl) (by kernel_rfl) (by kernel_rfl) (by kernel_rfl) (by exact fun _ _ _ h => h) (Or.inl ⟨by rfl, ?_⟩) hHeld1 ?_
  rotate_left 1
  · intro w hSw
    refine Eq.trans (exec_load rfl rfl (hSw.1.2.2)) ?_
    with_reducible rfl
  try simp only [Act.put, List.setIfInBounds_toArray, List.set_cons_zero, List.set_cons_succ]
  refine wpAnyH_take (i := 8) (v := ?_) (by first | (simp only [List.getElem?_toArray, List.getElem?_cons_succ, List.getElem?_cons_zero] <;> rfl) | rfl) (by kernel_rfl) (by kernel_rfl) (by kernel_rfl) (by exact fun _ _ _ h => h) (Or.inl ⟨by rfl, ?_⟩) hHeld1 ?_
  rotate_left 1
  · intro w hSw
    refine Eq.trans (exec_load rfl rfl (hSw.1.2.2)) ?_
    with_reducible rfl
  try simp only [Act.put, List.setIfInBounds_toArray, List.set_cons_zero, List.set_cons_succ]
  refine wpAnyH_ready (rs := [6]) (by kernel_rfl) (by simp) ?_
  refine AllReadyH.cons (by first | (simp only [List.getElem?_toArray, List.getElem?_cons_succ, List.getElem?_cons_zero] <;> rfl) | rfl) (fun K hK => ?_) AllReadyH.nil
  go_simp
  refine (OfC.out _).mono ?_; rintro e wb ⟨rfl, hbb⟩
  go_wp2_with fail
  refine hK.out _ _ ?_ (fun hHeld2 => ?_)
  · (try dsimp only)
    exact HS.out _ (step2 hbb hHeld1)
  clear hK K hHeld1
  try simp only [Act.put, List.setIfInBounds_toArray, List.set_cons_zero, List.set_cons_succ]
  refine wpAnyH_ready (rs := [7]) (by kernel_rfl) (by simp) ?_
  refine AllReadyH.cons (by first | (simp only [List.getElem?_toArray, List.getElem?_cons_succ, List.getElem?_cons_zero] <;> rfl) | rfl) (fun K hK => ?_) AllReadyH.nil
  go_simp
  refine (BytesC.out _).mono ?_; rintro e wc ⟨rfl, hbc⟩
  go_wp2_with fail
  refine hK.out _ _ ?_ (fun hHeld3 => ?_)
  · (try dsimp only)
    exact HS.out _ (step2 hbc hHeld2)
  clear hK K hHeld2
  try simp only [Act.put, List.setIfInBounds_toArray, List.set_cons_zero, List.set_cons_succ]
  refine wpAnyH_take (i := 9) (v := ?_) (by first | (simp only [List.getElem?_toArray, List.getElem?_cons_succ, List.getElem?_cons_zero] <;> rfl) | rfl) (by kernel_rfl) (by kernel_rfl) (by kernel_rfl) (by exact fun _ _ _ h => h) (Or.inl ⟨by rfl, ?_⟩) hHeld3 ?_
  rotate_left 1
  · intro w hSw
    try dsimp only at hSw
    (go_simp) <;> (with_reducible rfl)
  try simp only [Act.put, List.setIfInBounds_toArray, List.set_cons_zero, List.set_cons_succ]
  refine wpAnyH_take (i := 10) (v := ?_) (by first | (simp only [List.getElem?_toArray, List.getElem?_cons_succ, List.getElem?_cons_zero] <;> rfl) | rfl) (by kernel_rfl) (by kernel_rfl) (by kernel_rfl) (by exact fun _ _ _ h => h) (Or.inl ⟨by rfl, ?_⟩) hHeld3 ?_
  rotate_left 1
  · intro w hSw
    try dsimp only at hSw
    (go_simp) <;> (with_reducible rfl)
  try simp only [Act.put, List.setIfInBounds_toArray, List.set_cons_zero, List.set_cons_succ]
  refine wpAnyH_done (by kernel_rfl) ?_ _
  have HM5 := Lib.hid (HM.out.kept (step1 hHeld3))
  clear hHeld3 HS neqR neqC HM
  go_wp2_with fail
  go_loopw [33] (fun i wr => ∃ k : Nat, k ≤ 16 ∧ i = .int .i64 k ∧ Hid (LMem w wr gx gm L U V M)) (fun i _ => 16 - (intOf i).toNat)
  case atStart => exact ⟨0, by omega, rfl, HM5⟩
  case round =>
    obtain ⟨k, hk, rfl, HR⟩ := hrel
    clear HM5
    by_cases hlt : k < 16
    · obtain ⟨p, hp⟩ : ∃ p, p = 4 * k := ⟨_, rfl⟩
      have hp60 : p ≤ 60 := by omega
      have hp4 : p % 4 = 0 := by omega
      have hpi : (4 : Int) * (k : Int) = (p : Int) := by omega
      have hv := leN_4 bs p
      have W := Lib.hid (fun wx => Word.out p wx hp4 hp60)
      have hm := Mat.out k hlt
      rw [← hp] at hm
      have x0l := Hr.out.2 p
      have x1l := Hr.out.2 (p + 1)
      have x2l := Hr.out.2 (p + 2)
      have x3l := Hr.out.2 (p + 3)
      have c0 := HR.out.xx.cell p (Uat.out p (by omega))
      have c1 := HR.out.xx.cell (p + 1) (Uat.out (p + 1) (by omega))
      have c2 := HR.out.xx.cell (p + 2) (Uat.out (p + 2) (by omega))
      have c3 := HR.out.xx.cell (p + 3) (Uat.out (p + 3) (by omega))
      have hvl := leN4_lt Hr.out.2 p
      obtain ⟨x0, e0⟩ : ∃ x, x = bs.getD p 0 := ⟨_, rfl⟩
      obtain ⟨x1, e1⟩ : ∃ x, x = bs.getD (p + 1) 0 := ⟨_, rfl⟩
      obtain ⟨x2, e2⟩ : ∃ x, x = bs.getD (p + 2) 0 := ⟨_, rfl⟩
      obtain ⟨x3, e3⟩ : ∃ x, x = bs.getD (p + 3) 0 := ⟨_, rfl⟩
      obtain ⟨v, ev⟩ : ∃ x, x = leN bs p 4 := ⟨_, rfl⟩
      rw [← e0] at hv x0l c0
      rw [← e1] at hv x1l c1
      rw [← e2] at hv x2l c2
      rw [← e3] at hv x3l c3
      rw [← ev] at hv hm hvl W
      obtain ⟨y1, hy1⟩ : ∃ y, y = x0 + 256 * x1 := ⟨_, rfl⟩
      obtain ⟨y2, hy2⟩ : ∃ y, y = y1 + 65536 * x2 := ⟨_, rfl⟩
      have o1 : bits .or .u32 (x0 : Int) ((x1 : Int) * 256) = (y1 : Int) := by rw [hy1]; exact or32 x0 x1 8 256 (by omega) x1l (by omega) rfl
      have o2 : bits .or .u32 (y1 : Int) ((x2 : Int) * 65536) = (y2 : Int) := by rw [hy2]; exact or32 y1 x2 16 65536 (by omega) x2l (by omega) rfl
      have o3 : bits .or .u32 (y2 : Int) ((x3 : Int) * 16777216) = (v : Int) := by rw [show v = y2 + 16777216 * x3 by omega]; exact or32 y2 x3 24 16777216 (by omega) x3l (by omega) rfl
      have Hm := Lib.hid hm
      have i0 : IntKind.i64.wrap (p : Int) = p := IntWalk.i64_in _ (by omega)
      have i1 : IntKind.i64.wrap ((p : Int) + 1) = p + 1 := IntWalk.i64_in _ (by omega)
      have i2 : IntKind.i64.wrap ((p : Int) + 2) = p + 2 := IntWalk.i64_in _ (by omega)
      have i3 : IntKind.i64.wrap ((p : Int) + 3) = p + 3 := IntWalk.i64_in _ (by omega)
      have u0 : IntKind.u32.wrap (x0 : Int) = x0 := IntWalk.u32_in _ (by omega)
      have u1 : IntKind.u32.wrap (x1 : Int) = x1 := IntWalk.u32_in _ (by omega)
      have u2 : IntKind.u32.wrap (x2 : Int) = x2 := IntWalk.u32_in _ (by omega)
      have u3 : IntKind.u32.wrap (x3 : Int) = x3 := IntWalk.u32_in _ (by omega)
      have s1 : IntKind.u32.wrap ((x1 : Int) * 256) = x1 * 256 := IntWalk.u32_in _ (by omega)
      have s2 : IntKind.u32.wrap ((x2 : Int) * 65536) = x2 * 65536 := IntWalk.u32_in _ (by omega)
      have s3 : IntKind.u32.wrap ((x3 : Int) * 16777216) = x3 * 16777216 := IntWalk.u32_in _ (by omega)
      have t1 : ((p : Int) + 1).toNat = p + 1 := by omega
      have t2 : ((p : Int) + 2).toNat = p + 2 := by omega
      have t3 : ((p : Int) + 3).toNat = p + 3 := by omega
      have q1 : 0 ≤ (p : Int) + 1 := by omega
      have q2 : 0 ≤ (p : Int) + 2 := by omega
      have q3 : 0 ≤ (p : Int) + 3 := by omega
      have b0 : (p : Int) < 64 := by omega
      have b1 : (p : Int) + 1 < 64 := by omega
      have b2 : (p : Int) + 2 < 64 := by omega
      have b3 : (p : Int) + 3 < 64 := by omega
      clear hv hm hy1 hy2 e0 e1 e2 e3 ev hp hp4
      go_wp2_with fail
      go_quiet (fail)
      clear i1 i2 i3 u0 u1 u2 u3 s1 s2 s3 t1 t2 t3 q1 q2 q3 b0 b1 b2 b3 o1 o2 o3 c0 c1 c2 c3 i0
      have HRd := Lib.hid (HR.out.drewN nq)
      go_wp2_with (refine ld_any HRd.out.rc rfl _ rfl rfl Try.underlying26 size9 Len.out.1 ?_)
      refine (W.out _).mono ?_
      rintro e w6 ⟨rfl, hb6⟩
      have HR6 := Lib.hid (HRd.out.kept hb6)
      have cm := HR6.out.mm.cell k Hm.out
      clear hb6 HRd
      go_wp2_with fail
      go_roundw
      case rel => first | exact ⟨k + 1, by omega, by go_num, HR6⟩ | ((repeat apply Exists.intro); exact ⟨⟨k + 1, by omega, by go_num, HR6⟩, rfl⟩)
      case measure => simp [intOf]; omega
    · obtain rfl : k = 16 := by omega
      by_cases h4 : at_ % 4 = 0 ∧ at_ ≤ 60
      · obtain ⟨g4, g60⟩ := h4
        have W := Lib.hid (fun wx => Word.out at_ wx g4 g60)
        obtain ⟨v, ev⟩ : ∃ x, x = leN bs at_ 4 := ⟨_, rfl⟩
        rw [← ev] at W
        have b1 : ((at_ : Int) % 4 == 0) = true := by simp; omega
        have h60 : (at_ : Int) ≤ 60 := by omega
        clear ev g4 g60
        go_wp2_with (refine ld_any HR.out.rc rfl _ rfl rfl Try.underlying26 size9 Len.out.1 ?_)
        refine (W.out _).mono ?_
        rintro e w6 ⟨rfl, hb6⟩
        have Hend := Lib.hid (HR.out.bel.trans (hb6.mono HR.out.bel.size))
        clear hb6
        go_wp2_with fail
        go_ret
        exact ⟨rfl, Hend.out⟩
      · have W := Lib.hid (fun wx => word_no L at_ wx hat (by omega))
        by_cases g4 : at_ % 4 = 0
        · have b1 : ((at_ : Int) % 4 == 0) = true := by simp; omega
          have h60 : ¬ (at_ : Int) ≤ 60 := by omega
          have h61 : decide ((at_ : Int) ≤ 60) = false := by simp; omega
          clear g4 h4
          go_wp2_with (refine ld_any HR.out.rc rfl _ rfl rfl Try.underlying26 size9 Len.out.1 ?_)
          refine (W.out _).mono ?_
          rintro e w6 ⟨rfl, hb6⟩
          have Hend := Lib.hid (HR.out.bel.trans (hb6.mono HR.out.bel.size))
          clear hb6
          go_wp2_with fail
          go_ret
          exact ⟨rfl, Hend.out⟩
        · have b1 : ((at_ : Int) % 4 == 0) = false := by simp; omega
          clear g4 h4
          go_wp2_with (refine ld_any HR.out.rc rfl _ rfl rfl Try.underlying26 size9 Len.out.1 ?_)
          refine (W.out _).mono ?_
          rintro e w6 ⟨rfl, hb6⟩
          have Hend := Lib.hid (HR.out.bel.trans (hb6.mono HR.out.bel.size))
          clear hb6
          go_wp2_with fail
          go_ret
          exact ⟨rfl, Hend.out⟩
theorem walk_recordBytes (bs cs : List Nat) (n : Int) (w : World) (hr : IsRec bs) (hc : IsRec cs) (hn : (Lit.int .u32 n).wf = true) :
    Calls Try.prog 3 #[.agg (recL bs).toArray, .agg (u8s cs).toArray, .int .u32 n] w (Yes w) := by
  obtain ⟨l0, u0⟩ := bounds_u32 hn
  obtain ⟨n, rfl⟩ := Int.eq_ofNat_of_zero_le l0
  exact bytes_law bs cs n w hr hc (by omega)
end Go.Proofs.Ytfkdhfbmpjfhbaa
