/- What an instruction loads. -/
import Derived.Test.YtnkffjdoillmaaaAsk
import Derived.Test.YtnkffjdoillmaaaOpen
import Derived.Deep.RegionHeld3
import Derived.BigQuiet
namespace Go.Proofs.Ytnkffjdoillmaaa
open Go.RowKit
set_option maxRecDepth 100000 in
theorem ld_mach {w : World} {g : Nat} {v0 v1 v2 v3 v4 v5 v6 v7 v8 : Value} (h0 : w.cell? ⟨g, 0, none⟩ = some v0) (h1 : w.cell? ⟨g, 1, none⟩ = some v1) (h2 : w.cell? ⟨g, 2, none⟩ = some v2) (h3 : w.cell? ⟨g, 3, none⟩ = some v3)
    (h4 : w.cell? ⟨g, 4, none⟩ = some v4) (h5 : w.cell? ⟨g, 5, none⟩ = some v5) (h6 : w.cell? ⟨g, 6, none⟩ = some v6) (h7 : w.cell? ⟨g, 7, none⟩ = some v7) (h8 : w.cell? ⟨g, 8, none⟩ = some v8) :
    (Instr.loadAt 39 (.pointer (some ⟨g, 0, none⟩))).run Try.prog w = .ok (.agg #[v0, v1, v2, v3, v4, v5, v6, v7, v8]) w := by
  go_simp
theorem Mach.ld {w : World} {g : Nat} {R : List Value} {s : Mc} {e : Bool} {y : Nat} (h : Mach w g R s e y) : (Instr.loadAt 39 (.pointer (some ⟨g, 0, none⟩))).run Try.prog w = .ok (.agg R.toArray) w := by
  match R, h.r, h with
  | [v0, v1, v2, v3, v4, v5, v6, v7, v8], _, h =>
    exact ld_mach (h.b.cell 0 rfl) (h.b.cell 1 rfl) (h.b.cell 2 rfl) (h.b.cell 3 rfl) (h.b.cell 4 rfl) (h.b.cell 5 rfl) (h.b.cell 6 rfl) (h.b.cell 7 rfl) (h.b.cell 8 rfl)
/-- The numbers that a filter may look at. -/
def recW (bs : List Nat) (k : Nat) : Nat := Rec.leN bs k 4
theorem recW_lt {bs : List Nat} (h : Rec.IsRec bs) (k : Nat) : recW bs k < 4294967296 := Rec.leN4_lt h.2 k
theorem recL_len (bs : List Nat) : (Rec.recL bs).length = 9 := rfl
set_option maxRecDepth 100000 in
set_option maxHeartbeats 1000000 in
theorem loaded_imm (bs : List Nat) (g : Nat) (s : Mc) (e : Bool) (y : Nat) (i : Ins) (w : World) (h : Mach w g (Rec.recL bs) s e y) (_hb : Rec.IsRec bs) (hi : i.ok) (hk : i.c / 16 * 16 = 0) :
    Calls Try.prog 74 #[.pointer (some ⟨g, 0, none⟩), .agg #[.int .u16 i.c, .int .u8 i.t, .int .u8 i.f, .int .u32 i.k]] w (OneN .u32 (i.k : Nat) w) := by
  have hgl := h.lt
  have Kd := Lib.hid (fun w => kind_any i.c 0 w hi.1 (by omega))
  obtain ⟨c, t, f, k⟩ := i
  dsimp only at *
  clear h _hb hi hk
  go_enter Try.func74, Try.ntmps74
  go_wp2_with (go_at_call 84; refine (Kd.out _).mono ?_; rintro e2 w2 ⟨rfl, rfl⟩)
  go_ret
  exact ⟨rfl, one_below _ _⟩
set_option maxRecDepth 100000 in
set_option maxHeartbeats 1000000 in
theorem loaded_len (bs : List Nat) (g : Nat) (s : Mc) (e : Bool) (y : Nat) (i : Ins) (w : World) (h : Mach w g (Rec.recL bs) s e y) (_hb : Rec.IsRec bs) (hi : i.ok) (hk : i.c / 16 * 16 = 128) :
    Calls Try.prog 74 #[.pointer (some ⟨g, 0, none⟩), .agg #[.int .u16 i.c, .int .u8 i.t, .int .u8 i.f, .int .u32 i.k]] w (OneN .u32 (64 : Nat) w) := by
  have hgl := h.lt
  have Kd := Lib.hid (fun w => kind_any i.c 128 w hi.1 (by omega))
  obtain ⟨c, t, f, k⟩ := i
  dsimp only at *
  clear h _hb hi hk
  go_enter Try.func74, Try.ntmps74
  go_wp2_with (go_at_call 84; refine (Kd.out _).mono ?_; rintro e2 w2 ⟨rfl, rfl⟩)
  go_ret
  exact ⟨rfl, one_below _ _⟩
set_option maxRecDepth 100000 in
set_option maxHeartbeats 1000000 in
theorem loaded_mem (bs : List Nat) (g : Nat) (s : Mc) (e : Bool) (y : Nat) (i : Ins) (w : World) (h : Mach w g (Rec.recL bs) s e y) (_hb : Rec.IsRec bs) (hi : i.ok) (hk : i.c / 16 * 16 = 96 ∧ i.k < 16) :
    Calls Try.prog 74 #[.pointer (some ⟨g, 0, none⟩), .agg #[.int .u16 i.c, .int .u8 i.t, .int .u8 i.f, .int .u32 i.k]] w (OneN .u32 (s.m.getD i.k 0 : Nat) w) := by
  have hgl := h.lt
  have Kd := Lib.hid (fun w => kind_any i.c 96 w hi.1 (by omega))
  obtain ⟨hk1, hk2⟩ := hk
  have cm := h.cm hk2
  obtain ⟨c, t, f, k⟩ := i
  dsimp only at *
  obtain ⟨v, hv⟩ : ∃ v, v = s.m.getD k 0 := ⟨_, rfl⟩
  rw [← hv] at cm ⊢
  have k0 : (0 : Int) ≤ (k : Int) := by omega
  have k1 : (k : Int) < 16 := by omega
  have k2 : (k : Int).toNat = k := by omega
  clear h _hb hi hk1 hv
  go_enter Try.func74, Try.ntmps74
  go_wp2_with (go_at_call 84; refine (Kd.out _).mono ?_; rintro e2 w2 ⟨rfl, rfl⟩)
  go_quiet (fail)
  go_wp2_with fail
  go_ret
  exact ⟨rfl, (one_below _ _).trans (below_drewN (Below.refl _ _) _)⟩
set_option maxRecDepth 100000 in
set_option maxHeartbeats 1000000 in
theorem loaded_abs (bs : List Nat) (g : Nat) (s : Mc) (e : Bool) (y : Nat) (i : Ins) (w : World) (h : Mach w g (Rec.recL bs) s e y) (hb : Rec.IsRec bs) (hi : i.ok) (hk : i.c / 16 * 16 = 32 ∧ i.k % 4 = 0 ∧ i.k ≤ 60) :
    Calls Try.prog 74 #[.pointer (some ⟨g, 0, none⟩), .agg #[.int .u16 i.c, .int .u8 i.t, .int .u8 i.f, .int .u32 i.k]] w (OneN .u32 (recW bs i.k : Nat) w) := by
  have hgl := h.lt
  have Kd := Lib.hid (fun w => kind_any i.c 32 w hi.1 (by omega))
  obtain ⟨hk1, hk2, hk3⟩ := hk
  have Wd := Lib.hid (fun w => Rec.word_yes bs i.k w hb.1 hb.2 hk2 hk3)
  obtain ⟨R, hR⟩ : ∃ R, R = Rec.recL bs := ⟨_, rfl⟩
  rw [← hR] at h Wd
  obtain ⟨v, hv⟩ : ∃ v, v = recW bs i.k := ⟨_, rfl⟩
  rw [show Rec.leN bs i.k 4 = v from hv.symm] at Wd
  rw [← hv]
  obtain ⟨c, t, f, k⟩ := i
  dsimp only at *
  have H := Lib.hid h
  clear h hb hi hk1 hk2 hk3 hv hR
  go_enter Try.func74, Try.ntmps74
  go_wp2_with (go_at_call 84; refine (Kd.out _).mono ?_; rintro e2 w2 ⟨rfl, rfl⟩)
  have HM := Lib.hid (H.out.alloc (.cells #[.int .u16 c, .int .u8 t, .int .u8 f, .int .u32 k] 60))
  have q3 : (w.alloc (.cells #[.int .u16 c, .int .u8 t, .int .u8 f, .int .u32 k] 60)).cell? ⟨w.heap.size, 3, none⟩ = some (.int .u32 k) := by simp
  have hlt : w.heap.size < (w.alloc (.cells #[.int .u16 c, .int .u8 t, .int .u8 f, .int .u32 k] 60)).heap.size := by simp
  have HB := Lib.hid (one_below w (.cells #[.int .u16 c, .int .u8 t, .int .u8 f, .int .u32 k] 60))
  revert q3 HM HB hlt
  generalize w.alloc (.cells #[.int .u16 c, .int .u8 t, .int .u8 f, .int .u32 k] 60) = wx
  intro HM q3 hlt HB
  have HS := Lib.hid (show ∀ w', Below wx.heap.size wx w' → (w'.cell? ⟨w.heap.size, 3, none⟩ = some (.int .u32 k) ∧ (Instr.loadAt 39 (.pointer (some ⟨g, 0, none⟩))).run Try.prog w' = .ok (.agg R.toArray) w') ∧ Hid (Below wx.heap.size wx w') from fun w' h => ⟨⟨by rw [h.cell (p := ⟨w.heap.size, 3, none⟩) hlt]; exact q3, (HM.out.kept h).ld⟩, h⟩)
  clear q3 hlt hgl
  refine wp_region_held_drew (S := (fun w' => (w'.cell? ⟨w.heap.size, 3, none⟩ = some (.int .u32 k) ∧ (Instr.loadAt 39 (.pointer (some ⟨g, 0, none⟩))).run Try.prog w' = .ok (.agg R.toArray) w') ∧ Hid (Below wx.heap.size wx w'))) (by kernel_rfl) ?_ (fun hHeld0 => ?_)
  · exact HS.out _ (Below.refl _ _).drew
  refine wpAnyH_take (i := 0) (v := ?_) (by first | (simp only [List.getElem?_toArray, List.getElem?_cons_zero] <;> rfl) | rfl) (by kernel_rfl) (by kernel_rfl) (by kernel_rfl) (by exact fun _ _ _ h => h) (Or.inl ⟨by rfl, ?_⟩) hHeld0 ?_
  rotate_left 1
  · intro w hSw
    try dsimp only at hSw
    (go_simp) <;> (with_reducible rfl)
  try simp only [Act.put, List.setIfInBounds_toArray, List.set_cons_zero, List.set_cons_succ]
  refine wpAnyH_take (i := 1) (v := ?_) (by first | (simp only [List.getElem?_toArray, List.getElem?_cons_succ, List.getElem?_cons_zero] <;> rfl) | rfl) (by kernel_rfl) (by kernel_rfl) (by kernel_rfl) (by exact fun _ _ _ h => h) (Or.inl ⟨by rfl, ?_⟩) hHeld0 ?_
  rotate_left 1
  · intro w hSw
    try dsimp only at hSw
    (go_simp) <;> (with_reducible rfl)
  try simp only [Act.put, List.setIfInBounds_toArray, List.set_cons_zero, List.set_cons_succ]
  refine wpAnyH_take (i := 2) (v := ?_) (by first | (simp only [List.getElem?_toArray, List.getElem?_cons_succ, List.getElem?_cons_zero] <;> rfl) | rfl) (by kernel_rfl) (by kernel_rfl) (by kernel_rfl) (by exact fun _ _ _ h => h) (Or.inl ⟨by rfl, ?_⟩) hHeld0 ?_
  rotate_left 1
  · intro w hSw
    try dsimp only at hSw
    (go_simp) <;> (with_reducible rfl)
  try simp only [Act.put, List.setIfInBounds_toArray, List.set_cons_zero, List.set_cons_succ]
  refine wpAnyH_take (i := 3) (v := ?_) (by first | (simp only [List.getElem?_toArray, List.getElem?_cons_succ, List.getElem?_cons_zero] <;> rfl) | rfl) (by kernel_rfl) (by kernel_rfl) (by kernel_rfl) (by exact fun _ _ _ h => h) (Or.inl ⟨by rfl, ?_⟩) hHeld0 ?_
  rotate_left 1
  · intro w hSw
    refine Eq.trans (Rec.exec_load rfl rfl (hSw.1.2)) ?_
    with_reducible rfl
  try simp only [Act.put, List.setIfInBounds_toArray, List.set_cons_zero, List.set_cons_succ]
  refine wpAnyH_take (i := 4) (v := ?_) (by first | (simp only [List.getElem?_toArray, List.getElem?_cons_succ, List.getElem?_cons_zero] <;> rfl) | rfl) (by kernel_rfl) (by kernel_rfl) (by kernel_rfl) (by exact fun _ _ _ h => h) (Or.inl ⟨by rfl, ?_⟩) hHeld0 ?_
  rotate_left 1
  · intro w hSw
    try dsimp only at hSw
    (go_simp) <;> (with_reducible rfl)
  try simp only [Act.put, List.setIfInBounds_toArray, List.set_cons_zero, List.set_cons_succ]
  refine wpAnyH_take (i := 5) (v := ?_) (by first | (simp only [List.getElem?_toArray, List.getElem?_cons_succ, List.getElem?_cons_zero] <;> rfl) | rfl) (by kernel_rfl) (by kernel_rfl) (by kernel_rfl) (by exact fun _ _ _ h => h) (Or.inl ⟨by rfl, ?_⟩) hHeld0 ?_
  rotate_left 1
  · intro w hSw
    try dsimp only at hSw
    (go_simp) <;> (with_reducible rfl)
  try simp only [Act.put, List.setIfInBounds_toArray, List.set_cons_zero, List.set_cons_succ]
  refine wpAnyH_ready (rs := [6]) (by kernel_rfl) (by simp) ?_
  refine AllReadyH.cons (by first | (simp only [List.getElem?_toArray, List.getElem?_cons_succ, List.getElem?_cons_zero] <;> rfl) | rfl) (fun K hK => ?_) AllReadyH.nil
  go_simp
  refine (Wd.out _).mono ?_; rintro e3 w3 ⟨rfl, hb3⟩
  go_wp2_with fail
  refine hK.out _ _ ?_ (fun hHeld1 => ?_)
  · (try dsimp only)
    exact HS.out _ (Rec.step2 hb3 hHeld0)
  clear hK K hHeld0
  try simp only [Act.put, List.setIfInBounds_toArray, List.set_cons_zero, List.set_cons_succ]
  refine wpAnyH_take (i := 7) (v := ?_) (by first | (simp only [List.getElem?_toArray, List.getElem?_cons_succ, List.getElem?_cons_zero] <;> rfl) | rfl) (by kernel_rfl) (by kernel_rfl) (by kernel_rfl) (by exact fun _ _ _ h => h) (Or.inl ⟨by rfl, ?_⟩) hHeld1 ?_
  rotate_left 1
  · intro w hSw
    try dsimp only at hSw
    (go_simp) <;> (with_reducible rfl)
  try simp only [Act.put, List.setIfInBounds_toArray, List.set_cons_zero, List.set_cons_succ]
  refine wpAnyH_take (i := 8) (v := ?_) (by first | (simp only [List.getElem?_toArray, List.getElem?_cons_succ, List.getElem?_cons_zero] <;> rfl) | rfl) (by kernel_rfl) (by kernel_rfl) (by kernel_rfl) (by exact fun _ _ _ h => h) (Or.inl ⟨by rfl, ?_⟩) hHeld1 ?_
  rotate_left 1
  · intro w hSw
    try dsimp only at hSw
    (go_simp) <;> (with_reducible rfl)
  try simp only [Act.put, List.setIfInBounds_toArray, List.set_cons_zero, List.set_cons_succ]
  refine wpAnyH_take (i := 9) (v := ?_) (by first | (simp only [List.getElem?_toArray, List.getElem?_cons_succ, List.getElem?_cons_zero] <;> rfl) | rfl) (by kernel_rfl) (by kernel_rfl) (by kernel_rfl) (by exact fun _ _ _ h => h) (Or.inl ⟨by rfl, ?_⟩) hHeld1 ?_
  rotate_left 1
  · intro w hSw
    try dsimp only at hSw
    (go_simp) <;> (with_reducible rfl)
  try simp only [Act.put, List.setIfInBounds_toArray, List.set_cons_zero, List.set_cons_succ]
  refine wpAnyH_take (i := 10) (v := ?_) (by first | (simp only [List.getElem?_toArray, List.getElem?_cons_succ, List.getElem?_cons_zero] <;> rfl) | rfl) (by kernel_rfl) (by kernel_rfl) (by kernel_rfl) (by exact fun _ _ _ h => h) (Or.inl ⟨by rfl, ?_⟩) hHeld1 ?_
  rotate_left 1
  · intro w hSw
    try dsimp only at hSw
    (go_simp) <;> (with_reducible rfl)
  try simp only [Act.put, List.setIfInBounds_toArray, List.set_cons_zero, List.set_cons_succ]
  refine wpAnyH_take (i := 11) (v := ?_) (by first | (simp only [List.getElem?_toArray, List.getElem?_cons_succ, List.getElem?_cons_zero] <;> rfl) | rfl) (by kernel_rfl) (by kernel_rfl) (by kernel_rfl) (by exact fun _ _ _ h => h) (Or.inl ⟨by rfl, ?_⟩) hHeld1 ?_
  rotate_left 1
  · intro w hSw
    try dsimp only at hSw
    (go_simp) <;> (with_reducible rfl)
  try simp only [Act.put, List.setIfInBounds_toArray, List.set_cons_zero, List.set_cons_succ]
  refine wpAnyH_done (by kernel_rfl) ?_ _
  have HEnd := Lib.hid (HB.out.trans ((Rec.step1 hHeld1).mono HB.out.size))
  clear hHeld1
  go_wp2_with fail
  go_ret
  exact ⟨rfl, HEnd.out⟩
theorem loaded_any (bs : List Nat) (g : Nat) (s : Mc) (e : Bool) (y : Nat) (i : Ins) (w : World) (h : Mach w g (Rec.recL bs) s e y) (hb : Rec.IsRec bs) (hi : i.ok) (hk : knownB i.c = true) (hr : rangeB i = true) (h01 : i.c % 8 = 0 ∨ i.c % 8 = 1) :
    Calls Try.prog 74 #[.pointer (some ⟨g, 0, none⟩), .agg #[.int .u16 i.c, .int .u8 i.t, .int .u8 i.f, .int .u32 i.k]] w (OneN .u32 (ldN (recW bs) i s.m) w) := by
  have hc : i.c ∈ codesL := by simpa [knownB] using hk
  simp only [codesL, List.mem_cons, List.not_mem_nil, or_false] at hc
  have hop : i.c = 32 ∨ (i.c = 96 ∨ i.c = 97) ∨ (i.c = 128 ∨ i.c = 129) ∨ (i.c = 0 ∨ i.c = 1) := by omega
  clear hc
  unfold ldN
  rcases hop with e1 | e1 | e1 | e1
  · rw [if_pos (by omega)]
    have : i.k % 4 = 0 ∧ i.k ≤ 60 := by simpa [rangeB, e1] using hr
    exact loaded_abs bs g s e y i w h hb hi ⟨by omega, this.1, this.2⟩
  · rw [if_neg (by omega), if_pos (by omega)]
    exact loaded_mem bs g s e y i w h hb hi ⟨by omega, scratch_lt hr (by omega)⟩
  · rw [if_neg (by omega), if_neg (by omega), if_pos (by omega)]
    exact loaded_len bs g s e y i w h hb hi (by omega)
  · rw [if_neg (by omega), if_neg (by omega), if_neg (by omega)]
    exact loaded_imm bs g s e y i w h hb hi (by omega)
end Go.Proofs.Ytnkffjdoillmaaa
