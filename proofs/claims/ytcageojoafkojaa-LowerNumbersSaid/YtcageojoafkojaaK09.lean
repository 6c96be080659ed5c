/- Tidy: parts without Gotos tQ what comes next. -/
import Derived.Test.YtcageojoafkojaaK08
import Derived.Test.YtcageojoafkojaaK07
namespace Go.Proofs.Ytcageojoafkojaa.Ju
open Go.RowKit Go.Maps Go.WideMaps Go.WideElems Go.ChangeMaps
theorem rd_drop {w : World} {n b o k : Nat} {l : List PtM} (h : Rd w 7 n (some ⟨b, o, none⟩) (l.flatMap PtM.cells)) (hk : k ≤ n) : Rd w 7 (n - k) (some ⟨b, o + k * 7, none⟩) ((l.drop k).flatMap PtM.cells) := by
  have hl := h.len
  rw [flatz_len PtM.cells 7 (fun _ => rfl)] at hl
  refine ⟨by rw [flatz_len PtM.cells 7 (fun _ => rfl), List.length_drop]; omega, ?_⟩
  by_cases h0 : n - k = 0
  · exact Or.inl h0
  · obtain ⟨b', o', e, hb, hc⟩ := h.pos (by omega)
    cases e
    refine Or.inr ⟨b, o + k * 7, rfl, hb, fun j u hu => ?_⟩
    rw [Nat.add_assoc]
    refine hc _ _ ?_
    have e : l.flatMap PtM.cells = (l.take k).flatMap PtM.cells ++ (l.drop k).flatMap PtM.cells := by rw [← List.flatMap_append, List.take_append_drop]
    rw [e, List.getElem?_append_right (by rw [flatz_len PtM.cells 7 (fun _ => rfl), List.length_take]; omega), flatz_len PtM.cells 7 (fun _ => rfl), List.length_take]
    rw [show k * 7 + j - min k l.length * 7 = j from by rw [Nat.min_eq_left (by omega)]; omega]
    exact hu
/-- What the loop holds. -/
structure VR (w wr : World) (v : Value) (left : List PtM) : Prop where
  bel : Below w.heap.size w wr
  row : wr.ownsRow w.heap.size 125 7 v left.length (left.flatMap PtM.cells)
theorem VR.kept {w wr w' : World} {v : Value} {s : List PtM} (h : VR w wr v s) (hb : Below wr.heap.size wr w') : VR w w' v s := ⟨h.bel.trans (hb.mono h.bel.size), own_keepN h.row hb⟩
theorem VR.more {w wr w' : World} {v v' : Value} {s : List PtM} {q : PtM} (h : VR w wr v s) (hr : w'.ownsRow w.heap.size 125 7 v' (s.length + 1) (s.flatMap PtM.cells ++ q.cells)) (hg : wr.grownBy w' v.ownBlock) : VR w w' v' (s ++ [q]) :=
  ⟨h.bel.grown hg h.bel.size (fun r e => (own_ge h.row r e).1), by simpa using hr⟩
theorem VR.slice {w wr : World} {v : Value} {s : List PtM} (h : VR w wr v s) : ∃ A cp, v = .slice A s.length cp := by obtain ⟨A, cp, e, _⟩ := own_typed h.row; exact ⟨A, cp, e⟩
set_option maxHeartbeats 16000000 in
set_option maxRecDepth 100000 in
theorem leaving_any (l : List PtM) (n : Nat) (A : Option Addr) (cap : Nat) (w : World) (hl : l.length = n) (hn : n ≤ 65536) (hnc : n ≤ cap) (hr : Rd w 7 n A (l.flatMap PtM.cells)) :
    Calls Try.prog 46 #[.slice A n cap] w (ClP2 (leavF l) w) := by
  have HR := Lib.hid hr
  have HL := Lib.hid hl
  clear hr hl
  go_enter Try.func46, Try.ntmps46
  go_wp2_with fail
  go_loopw [3, 8] (fun sv iv wz => ∃ (i : Nat) (s : List PtM) (B : Option Addr) (c9 : Nat), iv = .int .i64 i ∧ sv = .slice B s.length c9 ∧ i ≤ n ∧ s.length ≤ i ∧ Hid (VR w wz (.slice B s.length c9) s) ∧ Hid (s ++ leavF (l.drop i) = leavF l)) (fun _ iv _ => n - (intOf iv).toNat)
  case atStart => exact ⟨0, [], none, 0, rfl, rfl, Nat.zero_le _, Nat.le_refl _, ⟨Below.refl _ _, World.ownsRow_nil _ _ _ _⟩, Lib.hid rfl⟩
  case round =>
    rename World => wz
    obtain ⟨i, s, B, c9, rfl, rfl, hi, hli, HA, HF⟩ := hrel
    by_cases hlt : i < n
    · obtain ⟨q, hq⟩ : ∃ q, l[i]? = some q := ⟨_, List.getElem?_eq_getElem (by have := HL.out; omega)⟩
      obtain ⟨b, o, hA, hbl, hcell⟩ := (HR.out.below HA.out.bel).one (fun _ => rfl) (by omega) (by omega)
      obtain ⟨c0, c1, c2, c3, c4, c5, c6⟩ := seven_cells hcell hq
      subst hA
      have hdr : leavF (l.drop i) = if q.kd = 4 ∧ cnB q.tQ (l.drop (i + 1)) = true then leavF (l.drop (i + 1)) else q :: leavF (l.drop (i + 1)) := by
        obtain ⟨h1, h2⟩ := List.getElem?_eq_some_iff.1 hq
        rw [List.drop_eq_getElem_cons h1, h2]; rfl
      have HD := Lib.hid hdr
      clear hcell hq hdr
      go_upto_region 5 with fail
      have hb2 := oneb wz (.cells #[.int .u8 q.kd, .int .i64 q.tQ, .int .i64 q.el, .int .u16 q.i.c, .int .u8 q.i.t, .int .u8 q.i.f, .int .u32 q.i.k] 125)
      have hk := Bk.new wz 125 #[.int .u8 q.kd, .int .i64 q.tQ, .int .i64 q.el, .int .u16 q.i.c, .int .u8 q.i.t, .int .u8 q.i.f, .int .u32 q.i.k] (l := q.cells) rfl
      generalize World.alloc wz _ = w4 at hb2 hk ⊢
      have hvx : ∀ g, (Value.slice B s.length c9).ownBlock = some g → g < wz.heap.size := fun g hg => (own_ge HA.out.row g hg).2
      generalize wz.heap.size = xb at hk hvx ⊢
      have HA := Lib.hid (HA.out.kept hb2)
      have HVX := Lib.hid hvx
      have HK := Lib.hid hk
      clear c0 c1 c2 c3 c4 c5 c6 hbl hb2 hk hvx
      have HmkS : Hid (∀ W, Below w4.heap.size w4 W → (fun W => W.cell? ⟨xb, 0, none⟩ = some (.int .u8 q.kd) ∧ W.cell? ⟨xb, 1, none⟩ = some (.int .i64 q.tQ) ∧ xb < W.heap.size) W) := Lib.hid (fun W h => ⟨(HK.out.kept h).cell 0 rfl, (HK.out.kept h).cell 1 rfl, (HK.out.kept h).lt⟩)
      by_cases h4 : q.kd = 4
      · have e4 : ((q.kd : Int) != 4) = false := by rw [h4]; rfl
        have e5 : IntKind.i64.wrap ((i : Int) + 1) = ((i + 1 : Nat) : Int) := by rw [IntKind.wrap_i64]; omega
        have hs0 : (0 : Int) ≤ (i : Int) + 1 := by omega
        have hs1 : (i : Int) + 1 ≤ (n : Int) := by omega
        obtain ⟨bb, hbb⟩ : ∃ bb, bb = cnB q.tQ (l.drop (i + 1)) := ⟨_, rfl⟩
        have HBB := Lib.hid hbb
        have HV := Lib.hid (show leavF (l.drop i) = if bb = true then leavF (l.drop (i + 1)) else q :: leavF (l.drop (i + 1)) by rw [HD.out, hbb]; simp [h4])
        have HRW := Lib.hid (HR.out.below HA.out.bel)
        clear h4 hbb
        obtain ⟨AD, hAD⟩ : ∃ AD : Option Addr, (if cap = i + 1 then some ⟨b, o, none⟩ else some ⟨b, o + (i + 1) * 7, none⟩) = AD := ⟨_, rfl⟩
        have HAD := Lib.hid hAD
        have HC := Lib.hid (fun W (h : Below w4.heap.size w4 W) => comes_any (l.drop (i + 1)) (n - (i + 1)) AD (cap - (i + 1)) q.tQ W (by rw [List.length_drop, HL.out]) (by omega) (by
          rw [← HAD.out]
          split
          · rw [show n - (i + 1) = 0 from by omega, List.drop_of_length_le (by have := HL.out; omega)]; exact Rd.nil _ _ _
          · exact rd_drop (HRW.out.below h) hlt))
        rw [← HBB.out] at HC
        refine wp_region_held_drew (S := (fun W => W.cell? ⟨xb, 0, none⟩ = some (.int .u8 q.kd) ∧ W.cell? ⟨xb, 1, none⟩ = some (.int .i64 q.tQ) ∧ xb < W.heap.size)) (by kernel_rfl) ?_ (fun hHeld0 => ?_)
        · exact HmkS.out _ (Below.refl _ _).drew
        refine wpAnyH_take (i := 0) (v := ?_) (by first | (simp only [List.getElem?_toArray, List.getElem?_cons_zero] <;> rfl) | rfl) (by kernel_rfl) (by kernel_rfl) (by kernel_rfl) (by exact fun _ _ _ h => h) (Or.inl ⟨by rfl, ?_⟩) hHeld0 ?_
        rotate_left 1
        · intro w hSw
          try dsimp only at hSw
          (go_simp) <;> (with_reducible rfl)
        try simp only [Act.put, List.setIfInBounds_toArray, List.set_cons_zero, List.set_cons_succ]
        refine wpAnyH_take (i := 1) (v := ?_) (by first | (simp only [List.getElem?_toArray, List.getElem?_cons_succ, List.getElem?_cons_zero] <;> rfl) | rfl) (by kernel_rfl) (by kernel_rfl) (by kernel_rfl) (by exact fun _ _ _ h => h) (Or.inl ⟨by rfl, ?_⟩) hHeld0 ?_
        rotate_left 1
        · intro w hSw
          try dsimp only at hSw
          (go_simp) <;> (with_reducible rfl)
        try simp only [Act.put, List.setIfInBounds_toArray, List.set_cons_zero, List.set_cons_succ]
        refine wpAnyH_take (i := 2) (v := ?_) (by first | (simp only [List.getElem?_toArray, List.getElem?_cons_succ, List.getElem?_cons_zero] <;> rfl) | rfl) (by kernel_rfl) (by kernel_rfl) (by kernel_rfl) (by exact fun _ _ _ h => h) (Or.inl ⟨by rfl, ?_⟩) hHeld0 ?_
        rotate_left 1
        · intro w hSw
          try dsimp only at hSw
          (go_simp) <;> (with_reducible rfl)
        try simp only [Act.put, List.setIfInBounds_toArray, List.set_cons_zero, List.set_cons_succ]
        refine wpAnyH_take (i := 3) (v := ?_) (by first | (simp only [List.getElem?_toArray, List.getElem?_cons_succ, List.getElem?_cons_zero] <;> rfl) | rfl) (by kernel_rfl) (by kernel_rfl) (by kernel_rfl) (by exact fun _ _ _ h => h) (Or.inl ⟨by rfl, ?_⟩) hHeld0 ?_
        rotate_left 1
        · intro w hSw
          try dsimp only at hSw
          (go_simp) <;> (with_reducible rfl)
        try simp only [Act.put, List.setIfInBounds_toArray, List.set_cons_zero, List.set_cons_succ]
        refine wpAnyH_take (i := 4) (v := ?_) (by first | (simp only [List.getElem?_toArray, List.getElem?_cons_succ, List.getElem?_cons_zero] <;> rfl) | rfl) (by kernel_rfl) (by kernel_rfl) (by kernel_rfl) (by exact fun _ _ _ h => h) (Or.inl ⟨by rfl, ?_⟩) hHeld0 ?_
        rotate_left 1
        · intro w hSw
          try dsimp only at hSw
          (go_simp) <;> (with_reducible rfl)
        try simp only [Act.put, List.setIfInBounds_toArray, List.set_cons_zero, List.set_cons_succ]
        refine wpAnyH_take (i := 5) (v := ?_) (by first | (simp only [List.getElem?_toArray, List.getElem?_cons_succ, List.getElem?_cons_zero] <;> rfl) | rfl) (by kernel_rfl) (by kernel_rfl) (by kernel_rfl) (by exact fun _ _ _ h => h) (Or.inl ⟨by rfl, ?_⟩) hHeld0 ?_
        rotate_left 1
        · intro w hSw
          try dsimp only at hSw
          (go_simp) <;> (with_reducible rfl)
        try simp only [Act.put, List.setIfInBounds_toArray, List.set_cons_zero, List.set_cons_succ]
        refine wpAnyH_take (i := 6) (v := ?_) (by first | (simp only [List.getElem?_toArray, List.getElem?_cons_succ, List.getElem?_cons_zero] <;> rfl) | rfl) (by kernel_rfl) (by kernel_rfl) (by kernel_rfl) (by exact fun _ _ _ h => h) (Or.inl ⟨by rfl, ?_⟩) hHeld0 ?_
        rotate_left 1
        · intro w hSw
          try dsimp only at hSw
          (go_simp) <;> (with_reducible rfl)
        try simp only [Act.put, List.setIfInBounds_toArray, List.set_cons_zero, List.set_cons_succ]
        refine wpAnyH_take (i := 7) (v := ?_) (by first | (simp only [List.getElem?_toArray, List.getElem?_cons_succ, List.getElem?_cons_zero] <;> rfl) | rfl) (by kernel_rfl) (by kernel_rfl) (by kernel_rfl) (by exact fun _ _ _ h => h) (Or.inl ⟨by rfl, ?_⟩) hHeld0 ?_
        rotate_left 1
        · intro w hSw
          try dsimp only at hSw
          (go_simp) <;> (with_reducible rfl)
        try simp only [Act.put, List.setIfInBounds_toArray, List.set_cons_zero, List.set_cons_succ]
        refine wpAnyH_take (i := 8) (v := ?_) (by first | (simp only [List.getElem?_toArray, List.getElem?_cons_succ, List.getElem?_cons_zero] <;> rfl) | rfl) (by kernel_rfl) (by kernel_rfl) (by kernel_rfl) (by exact fun _ _ _ h => h) (Or.inl ⟨by rfl, ?_⟩) hHeld0 ?_
        rotate_left 1
        · intro w hSw
          try dsimp only at hSw
          (go_simp) <;> (with_reducible rfl)
        try simp only [Act.put, List.setIfInBounds_toArray, List.set_cons_zero, List.set_cons_succ]
        refine wpAnyH_take (i := 9) (v := ?_) (by first | (simp only [List.getElem?_toArray, List.getElem?_cons_succ, List.getElem?_cons_zero] <;> rfl) | rfl) (by kernel_rfl) (by kernel_rfl) (by kernel_rfl) (by exact fun _ _ _ h => h) (Or.inl ⟨by rfl, ?_⟩) hHeld0 ?_
        rotate_left 1
        · intro w hSw
          try dsimp only at hSw
          (go_simp) <;> (with_reducible rfl)
        try simp only [Act.put, List.setIfInBounds_toArray, List.set_cons_zero, List.set_cons_succ]
        refine wpAnyH_ready (rs := [10]) (by kernel_rfl) (by simp) ?_
        refine AllReadyH.cons (by first | (simp only [List.getElem?_toArray, List.getElem?_cons_succ, List.getElem?_cons_zero] <;> rfl) | rfl) (fun K hK => ?_) ?_
        · go_simp
          refine (HC.out _ (Below.refl _ _).drew).mono ?_
          rintro e vh1 ⟨rfl, hbb⟩
          have HBn := Lib.hid (show Below w4.heap.size w4 vh1 from (show Below w4.heap.size w4 w4.drew from (Below.refl _ _).drew).trans hbb)
          refine hK.out _ _ (HmkS.out _ HBn.out) (fun hHeld1 => ?_)
          clear hK K hbb hHeld0
          try simp only [Act.put, List.setIfInBounds_toArray, List.set_cons_zero, List.set_cons_succ]
          refine wpAnyH_take (i := 11) (v := ?_) (by first | (simp only [List.getElem?_toArray, List.getElem?_cons_succ, List.getElem?_cons_zero] <;> rfl) | rfl) (by kernel_rfl) (by kernel_rfl) (by kernel_rfl) (by exact fun _ _ _ h => h) (Or.inl ⟨by rfl, ?_⟩) hHeld1 ?_
          rotate_left 1
          · intro w hSw
            try dsimp only at hSw
            (go_simp) <;> (with_reducible rfl)
          try simp only [Act.put, List.setIfInBounds_toArray, List.set_cons_zero, List.set_cons_succ]
          refine wpAnyH_take (i := 12) (v := ?_) (by first | (simp only [List.getElem?_toArray, List.getElem?_cons_succ, List.getElem?_cons_zero] <;> rfl) | rfl) (by kernel_rfl) (by kernel_rfl) (by kernel_rfl) (by exact fun _ _ _ h => h) (Or.inl ⟨by rfl, ?_⟩) hHeld1 ?_
          rotate_left 1
          · intro w hSw
            try dsimp only at hSw
            (go_simp) <;> (with_reducible rfl)
          try simp only [Act.put, List.setIfInBounds_toArray, List.set_cons_zero, List.set_cons_succ]
          refine wpAnyH_done (by kernel_rfl) ?_ _
          rename World => w5
          clear hHeld1
          have HA5 := Lib.hid (HA.out.kept HBn.out)
          have hk5 := HK.out.kept HBn.out
          have y0 := hk5.cell 0 rfl
          have y1 := hk5.cell 1 rfl
          have y2 := hk5.cell 2 rfl
          have y3 := hk5.cell 3 rfl
          have y4 := hk5.cell 4 rfl
          have y5 := hk5.cell 5 rfl
          have y6 := hk5.cell 6 rfl
          have yl := hk5.lt
          have HK5 := Lib.hid hk5
          have HV5 := Lib.hid (show w4.heap.size ≤ w5.heap.size from HBn.out.size)
          have HX5 := Lib.hid (show xb < w4.heap.size from HK.out.lt)
          clear hk5
          cases bb with
          | true =>
            have HFn := Lib.hid (show s ++ leavF (l.drop (i + 1)) = leavF l by rw [← HF.out, HV.out, if_pos rfl])
            clear y0 y1 y2 y3 y4 y5 y6 yl
            go_wp2_with fail
            go_roundw
            case rel => exact ⟨i + 1, s, B, c9, by go_num, rfl, by omega, by omega, HA5, HFn⟩
            case measure => simp [intOf]; omega
          | false =>
            have HFn := Lib.hid (show (s ++ [q]) ++ leavF (l.drop (i + 1)) = leavF l by rw [← HF.out, HV.out, if_neg (by decide), List.append_assoc]; rfl)
            go_wp2_with (at_builtin; refine append_one rfl (.tmp 26) (.tmp 28) 65 125 rfl _ 7 32 infoPart Try.underlying65 rfl (by decide) (by decide) w.heap.size _ s.length (s.flatMap PtM.cells) rfl (HA5.out.kept (oneb w5 (.cells #[.int .u8 q.kd, .int .i64 q.tQ, .int .i64 q.el, .int .u16 q.i.c, .int .u8 q.i.t, .int .u8 q.i.f, .int .u32 q.i.k] 125))).row w5.heap.size [.int .u8 q.kd, .int .i64 q.tQ, .int .i64 q.el, .int .u16 q.i.c, .int .u8 q.i.t, .int .u8 q.i.f, .int .u32 q.i.k] rfl rfl (Bk.new w5 _ _ rfl) (pt_one q) (by omega) (HA5.out.kept (oneb w5 (.cells #[.int .u8 q.kd, .int .i64 q.tQ, .int .i64 q.el, .int .u16 q.i.c, .int .u8 q.i.t, .int .u8 q.i.f, .int .u32 q.i.k] 125))).bel.size ?_; intro v' w6 hown hgrow _; have HA6 := Lib.hid ((HA5.out.kept (oneb w5 (.cells #[.int .u8 q.kd, .int .i64 q.tQ, .int .i64 q.el, .int .u16 q.i.c, .int .u8 q.i.t, .int .u8 q.i.f, .int .u32 q.i.k] 125))).more (q := q) hown hgrow); clear y0 y1 y2 y3 y4 y5 y6 yl hown hgrow; obtain ⟨A7, c7, hv7⟩ := HA6.out.slice; obtain ⟨n7, hn7⟩ : ∃ n7, n7 = (s ++ [q]).length := ⟨_, rfl⟩; rw [← hn7] at hv7; subst hv7; have HN7 := Lib.hid hn7; clear hn7)
            rw [HN7.out] at HA6
            go_roundw
            case rel => exact ⟨i + 1, s ++ [q], A7, c7, by go_num, by rw [HN7.out], by omega, by simp only [List.length_append, List.length_cons, List.length_nil]; omega, HA6, HFn⟩
            case measure => simp [intOf]; omega
        exact AllReadyH.nil

      · have e4 : ((q.kd : Int) != 4) = true := by rw [bne_iff_ne]; omega
        have HD4 := Lib.hid h4
        clear h4
        refine wp_region_held_drew (S := (fun W => W.cell? ⟨xb, 0, none⟩ = some (.int .u8 q.kd) ∧ W.cell? ⟨xb, 1, none⟩ = some (.int .i64 q.tQ) ∧ xb < W.heap.size)) (by kernel_rfl) ?_ (fun hHeld0 => ?_)
        · exact HmkS.out _ (Below.refl _ _).drew
        refine wpAnyH_take (i := 0) (v := ?_) (by first | (simp only [List.getElem?_toArray, List.getElem?_cons_zero] <;> rfl) | rfl) (by kernel_rfl) (by kernel_rfl) (by kernel_rfl) (by exact fun _ _ _ h => h) (Or.inl ⟨by rfl, ?_⟩) hHeld0 ?_
        rotate_left 1
        · intro w hSw
          try dsimp only at hSw
          (go_simp) <;> (with_reducible rfl)
        try simp only [Act.put, List.setIfInBounds_toArray, List.set_cons_zero, List.set_cons_succ]
        refine wpAnyH_take (i := 1) (v := ?_) (by first | (simp only [List.getElem?_toArray, List.getElem?_cons_succ, List.getElem?_cons_zero] <;> rfl) | rfl) (by kernel_rfl) (by kernel_rfl) (by kernel_rfl) (by exact fun _ _ _ h => h) (Or.inl ⟨by rfl, ?_⟩) hHeld0 ?_
        rotate_left 1
        · intro w hSw
          try dsimp only at hSw
          (go_simp) <;> (with_reducible rfl)
        try simp only [Act.put, List.setIfInBounds_toArray, List.set_cons_zero, List.set_cons_succ]
        refine wpAnyH_take (i := 2) (v := ?_) (by first | (simp only [List.getElem?_toArray, List.getElem?_cons_succ, List.getElem?_cons_zero] <;> rfl) | rfl) (by kernel_rfl) (by kernel_rfl) (by kernel_rfl) (by exact fun _ _ _ h => h) (Or.inl ⟨by rfl, ?_⟩) hHeld0 ?_
        rotate_left 1
        · intro w hSw
          try dsimp only at hSw
          (go_simp) <;> (with_reducible rfl)
        try simp only [Act.put, List.setIfInBounds_toArray, List.set_cons_zero, List.set_cons_succ]
        refine wpAnyH_take (i := 3) (v := ?_) (by first | (simp only [List.getElem?_toArray, List.getElem?_cons_succ, List.getElem?_cons_zero] <;> rfl) | rfl) (by kernel_rfl) (by kernel_rfl) (by kernel_rfl) (by exact fun _ _ _ h => h) (Or.inl ⟨by rfl, ?_⟩) hHeld0 ?_
        rotate_left 1
        · intro w hSw
          try dsimp only at hSw
          (go_simp) <;> (with_reducible rfl)
        try simp only [Act.put, List.setIfInBounds_toArray, List.set_cons_zero, List.set_cons_succ]
        refine wpAnyH_take (i := 4) (v := undef) (by first | (simp only [List.getElem?_toArray, List.getElem?_cons_succ, List.getElem?_cons_zero] <;> rfl) | rfl) (by kernel_rfl) (by kernel_rfl) (by kernel_rfl) (by exact fun _ _ _ h => h) (Or.inr ⟨by rfl, rfl⟩) hHeld0 ?_
        try simp only [Act.put, List.setIfInBounds_toArray, List.set_cons_zero, List.set_cons_succ]
        refine wpAnyH_take (i := 5) (v := undef) (by first | (simp only [List.getElem?_toArray, List.getElem?_cons_succ, List.getElem?_cons_zero] <;> rfl) | rfl) (by kernel_rfl) (by kernel_rfl) (by kernel_rfl) (by exact fun _ _ _ h => h) (Or.inr ⟨by rfl, rfl⟩) hHeld0 ?_
        try simp only [Act.put, List.setIfInBounds_toArray, List.set_cons_zero, List.set_cons_succ]
        refine wpAnyH_take (i := 6) (v := undef) (by first | (simp only [List.getElem?_toArray, List.getElem?_cons_succ, List.getElem?_cons_zero] <;> rfl) | rfl) (by kernel_rfl) (by kernel_rfl) (by kernel_rfl) (by exact fun _ _ _ h => h) (Or.inr ⟨by rfl, rfl⟩) hHeld0 ?_
        try simp only [Act.put, List.setIfInBounds_toArray, List.set_cons_zero, List.set_cons_succ]
        refine wpAnyH_take (i := 7) (v := undef) (by first | (simp only [List.getElem?_toArray, List.getElem?_cons_succ, List.getElem?_cons_zero] <;> rfl) | rfl) (by kernel_rfl) (by kernel_rfl) (by kernel_rfl) (by exact fun _ _ _ h => h) (Or.inr ⟨by rfl, rfl⟩) hHeld0 ?_
        try simp only [Act.put, List.setIfInBounds_toArray, List.set_cons_zero, List.set_cons_succ]
        refine wpAnyH_take (i := 8) (v := undef) (by first | (simp only [List.getElem?_toArray, List.getElem?_cons_succ, List.getElem?_cons_zero] <;> rfl) | rfl) (by kernel_rfl) (by kernel_rfl) (by kernel_rfl) (by exact fun _ _ _ h => h) (Or.inr ⟨by rfl, rfl⟩) hHeld0 ?_
        try simp only [Act.put, List.setIfInBounds_toArray, List.set_cons_zero, List.set_cons_succ]
        refine wpAnyH_take (i := 9) (v := undef) (by first | (simp only [List.getElem?_toArray, List.getElem?_cons_succ, List.getElem?_cons_zero] <;> rfl) | rfl) (by kernel_rfl) (by kernel_rfl) (by kernel_rfl) (by exact fun _ _ _ h => h) (Or.inr ⟨by rfl, rfl⟩) hHeld0 ?_
        try simp only [Act.put, List.setIfInBounds_toArray, List.set_cons_zero, List.set_cons_succ]
        refine wpAnyH_take (i := 10) (v := undef) (by first | (simp only [List.getElem?_toArray, List.getElem?_cons_succ, List.getElem?_cons_zero] <;> rfl) | rfl) (by kernel_rfl) (by kernel_rfl) (by kernel_rfl) (by exact fun _ _ _ h => h) (Or.inr ⟨by rfl, rfl⟩) hHeld0 ?_
        try simp only [Act.put, List.setIfInBounds_toArray, List.set_cons_zero, List.set_cons_succ]
        refine wpAnyH_take (i := 11) (v := undef) (by first | (simp only [List.getElem?_toArray, List.getElem?_cons_succ, List.getElem?_cons_zero] <;> rfl) | rfl) (by kernel_rfl) (by kernel_rfl) (by kernel_rfl) (by exact fun _ _ _ h => h) (Or.inr ⟨by rfl, rfl⟩) hHeld0 ?_
        try simp only [Act.put, List.setIfInBounds_toArray, List.set_cons_zero, List.set_cons_succ]
        refine wpAnyH_take (i := 12) (v := ?_) (by first | (simp only [List.getElem?_toArray, List.getElem?_cons_succ, List.getElem?_cons_zero] <;> rfl) | rfl) (by kernel_rfl) (by kernel_rfl) (by kernel_rfl) (by exact fun _ _ _ h => h) (Or.inl ⟨by rfl, ?_⟩) hHeld0 ?_
        rotate_left 1
        · intro w hSw
          try dsimp only at hSw
          (go_simp) <;> (with_reducible rfl)
        try simp only [Act.put, List.setIfInBounds_toArray, List.set_cons_zero, List.set_cons_succ]
        refine wpAnyH_done (by kernel_rfl) ?_ _
        clear hHeld0
        have HBn := Lib.hid (show Below w4.heap.size w4 w4.drew from (Below.refl _ _).drew)
        generalize w4.drew = w5 at HBn ⊢
        have HA5 := Lib.hid (HA.out.kept HBn.out)
        have hk5 := HK.out.kept HBn.out
        have y0 := hk5.cell 0 rfl
        have y1 := hk5.cell 1 rfl
        have y2 := hk5.cell 2 rfl
        have y3 := hk5.cell 3 rfl
        have y4 := hk5.cell 4 rfl
        have y5 := hk5.cell 5 rfl
        have y6 := hk5.cell 6 rfl
        have yl := hk5.lt
        have HK5 := Lib.hid hk5
        have HV5 := Lib.hid (show w4.heap.size ≤ w5.heap.size from HBn.out.size)
        have HX5 := Lib.hid (show xb < w4.heap.size from HK.out.lt)
        clear hk5
        have HFn := Lib.hid (show (s ++ [q]) ++ leavF (l.drop (i + 1)) = leavF l by rw [← HF.out, HD.out, if_neg (fun h => HD4.out h.1), List.append_assoc]; rfl)
        go_wp2_with (at_builtin; refine append_one rfl (.tmp 26) (.tmp 28) 65 125 rfl _ 7 32 infoPart Try.underlying65 rfl (by decide) (by decide) w.heap.size _ s.length (s.flatMap PtM.cells) rfl (HA5.out.kept (oneb w5 (.cells #[.int .u8 q.kd, .int .i64 q.tQ, .int .i64 q.el, .int .u16 q.i.c, .int .u8 q.i.t, .int .u8 q.i.f, .int .u32 q.i.k] 125))).row w5.heap.size [.int .u8 q.kd, .int .i64 q.tQ, .int .i64 q.el, .int .u16 q.i.c, .int .u8 q.i.t, .int .u8 q.i.f, .int .u32 q.i.k] rfl rfl (Bk.new w5 _ _ rfl) (pt_one q) (by omega) (HA5.out.kept (oneb w5 (.cells #[.int .u8 q.kd, .int .i64 q.tQ, .int .i64 q.el, .int .u16 q.i.c, .int .u8 q.i.t, .int .u8 q.i.f, .int .u32 q.i.k] 125))).bel.size ?_; intro v' w6 hown hgrow _; have HA6 := Lib.hid ((HA5.out.kept (oneb w5 (.cells #[.int .u8 q.kd, .int .i64 q.tQ, .int .i64 q.el, .int .u16 q.i.c, .int .u8 q.i.t, .int .u8 q.i.f, .int .u32 q.i.k] 125))).more (q := q) hown hgrow); clear y0 y1 y2 y3 y4 y5 y6 yl hown hgrow; obtain ⟨A7, c7, hv7⟩ := HA6.out.slice; obtain ⟨n7, hn7⟩ : ∃ n7, n7 = (s ++ [q]).length := ⟨_, rfl⟩; rw [← hn7] at hv7; subst hv7; have HN7 := Lib.hid hn7; clear hn7)
        rw [HN7.out] at HA6
        go_roundw
        case rel => exact ⟨i + 1, s ++ [q], A7, c7, by go_num, by rw [HN7.out], by omega, by simp only [List.length_append, List.length_cons, List.length_nil]; omega, HA6, HFn⟩
        case measure => simp [intOf]; omega

    · go_wp2_with fail
      go_ret
      have hE : s = leavF l := by rw [← HF.out, List.drop_of_length_le (by have := HL.out; omega)]; simp [leavF]
      rw [← hE]
      exact ⟨_, _, rfl, HA.out.row, HA.out.bel⟩
end Go.Proofs.Ytcageojoafkojaa.Ju
namespace Go.Proofs.Ytcageojoafkojaa.Ju
open Go.RowKit Go.Maps Go.WideMaps Go.WideElems Go.ChangeMaps
def lenOf : Value → Nat
  | .slice _ n _ => n
  | _ => 0
theorem rd_nil {w : World} {z n : Nat} {A : Option Addr} {xs : List Value} (h : Rd w z n A xs) (hA : A = none) : n = 0 := by
  rcases h.at_ with e | ⟨b, o, e, _⟩
  · exact e
  · rw [hA] at e; cases e
theorem below_own {w w' : World} {B N e z n : Nat} {v : Value} {xs : List Value} (h : w.ownsRow B e z v n xs) (hg : w.grownBy w' v.ownBlock) (hB : N ≤ B) (hw : N ≤ w.heap.size) : Below N w w' :=
  ⟨hg.os, hg.tape, hg.output, hg.size, fun i hi => hg.block i (by omega) (fun e => by have := (own_ge h i e.symm).1; omega)⟩
set_option maxHeartbeats 16000000 in
set_option maxRecDepth 100000 in
theorem tidy_any (l : List PtM) (n : Nat) (A : Option Addr) (cap : Nat) (w : World) (hl : l.length = n) (hn : n ≤ 65536) (hok : ∀ p ∈ l, p.ok) (hr : Rd w 7 n A (l.flatMap PtM.cells)) :
    Calls Try.prog 17 #[.slice A n cap] w (ClP2 (tidyF l) w) := by
  have HCl := Lib.hid (clone_any l n A cap w hl hr hn (rd_nil hr))
  have HL := Lib.hid hl
  have HOK := Lib.hid hok
  clear hr hl hok
  go_enter Try.func17, Try.ntmps17
  go_wp2_with fail
  refine HCl.out.mono ?_
  clear HCl
  rintro e w1 ⟨A1, c1, rfl, hr1, hb1⟩
  have HR1 := Lib.hid hr1
  have HB1 := Lib.hid hb1
  clear hr1 hb1
  go_wp2_with fail
  go_loopw [3] (fun v wr => ∃ (s : List PtM) (A2 : Option Addr) (c2 B : Nat), v = .slice A2 s.length c2 ∧ s.length ≤ n ∧ w.heap.size ≤ B ∧ Hid (wr.ownsRow B 125 7 (.slice A2 s.length c2) s.length (s.flatMap PtM.cells)) ∧ Hid (Below w.heap.size w wr) ∧ Hid (∀ p ∈ s, p.ok) ∧ Hid (tidyF s = tidyF l)) (fun v _ => lenOf v)
  case atStart => exact ⟨l, A1, c1, w.heap.size, rfl, Nat.le_of_eq HL.out, Nat.le_refl _, HR1, HB1, HOK, Lib.hid rfl⟩
  case round =>
    clear HR1 HB1 HOK
    obtain ⟨s, A2, c2, B, rfl, hsn, hB, HR, HB, HOK, HT⟩ := hrel
    obtain ⟨m, hm⟩ : ∃ m, m = s.length := ⟨_, rfl⟩
    rw [← hm] at HR hsn ⊢
    have HM := Lib.hid hm
    have HLe := Lib.hid (lead_any s m B A2 c2 wr hm.symm (by omega) HOK.out HR.out)
    clear hm
    go_wp2_with fail
    refine HLe.out.mono ?_
    clear HLe
    rintro e w2 ⟨rfl, hr2, hg2⟩
    have HB2 := Lib.hid (HB.out.trans (below_own HR.out hg2 hB HB.out.size))
    have HR2 := Lib.hid hr2
    have HOK2 := Lib.hid (leadF_ok HOK.out)
    have HL2 := Lib.hid (show (leadF s).length = m by rw [leadF_len, HM.out])
    have HRd2 : Hid (Rd w2 7 m A2 ((leadF s).flatMap PtM.cells)) := by obtain ⟨A9, c9, e, _, h, _⟩ := own_typed hr2; cases e; exact Lib.hid h.rd
    clear hr2 hg2
    have HAl := Lib.hid (alive_any (leadF s) m A2 c2 w2 HL2.out (by omega) HOK2.out HRd2.out)
    go_wp2_with fail
    refine HAl.out.mono ?_
    clear HAl
    rintro e w3 ⟨A3, c3, rfl, hr3, hb3⟩
    have HB3 := Lib.hid (HB2.out.trans (hb3.mono HB2.out.size))
    have HL3 := Lib.hid (show (aliveF (leadF s)).length ≤ m by have := aliveF_len (leadF s); rw [HL2.out] at this; exact this)
    obtain ⟨z3, hz3⟩ : ∃ z, z = (aliveF (leadF s)).length := ⟨_, rfl⟩
    have HZ3 := Lib.hid hz3
    rw [← hz3] at hr3 HL3 ⊢
    have HRd3 : Hid (Rd w3 7 z3 A3 ((aliveF (leadF s)).flatMap PtM.cells) ∧ z3 ≤ c3) := by obtain ⟨A9, c9, e, hc9, h, _⟩ := own_typed hr3; cases e; exact Lib.hid ⟨h.rd, hc9⟩
    have hz9 : z3 ≤ m := HL3.out
    have HLv := Lib.hid (leaving_any (aliveF (leadF s)) z3 A3 c3 w3 HZ3.out.symm (by omega) HRd3.out.2 HRd3.out.1)
    clear hr3 hb3 hz3 hz9
    go_wp2_with fail
    refine HLv.out.mono ?_
    clear HLv
    rintro e w4 ⟨A4, c4, rfl, hr4, hb4⟩
    have HB4 := Lib.hid (HB3.out.trans (hb4.mono HB3.out.size))
    have HR4 := Lib.hid hr4
    have HW3 := Lib.hid HB3.out.size
    have HOK4 := Lib.hid (show ∀ p ∈ roundF s, p.ok from roundF_ok HOK.out)
    obtain ⟨z4, hz4⟩ : ∃ z, z = (leavF (aliveF (leadF s))).length := ⟨_, rfl⟩
    have hz5 : z4 ≤ m := by rw [hz4, HM.out]; exact roundF_len s
    have HZ4 := Lib.hid hz4
    rw [← hz4] at HR4 ⊢
    clear hr4 hb4 hz4
    by_cases he : z4 = m
    · have e1 : ((z4 : Int) == (m : Int)) = true := by rw [he]; simp
      have HE := Lib.hid (show roundF s = tidyF l by rw [← HT.out, tidyF_end (by rw [← HM.out, ← he, HZ4.out]; rfl)])
      clear he
      go_wp2_with fail
      go_ret
      refine ⟨A4, c4, ?_, ?_, HB4.out⟩
      · rw [← HE.out]; show _ = Ending.returned (.slice A4 (leavF (aliveF (leadF s))).length c4); rw [← HZ4.out]; rfl
      · rw [← HE.out]
        show w4.ownsRow _ _ 7 (.slice A4 (leavF (aliveF (leadF s))).length c4) (leavF (aliveF (leadF s))).length ((leavF (aliveF (leadF s))).flatMap PtM.cells)
        rw [← HZ4.out]
        exact own_base HR4.out HW3.out
    · have e1 : ((z4 : Int) == (m : Int)) = false := by rw [beq_eq_false_iff_ne]; omega
      have HE := Lib.hid (show tidyF (roundF s) = tidyF l by rw [← HT.out]; exact (tidyF_on (fun h => he (by rw [HZ4.out, HM.out]; exact h))).symm)
      go_wp2_with fail
      go_roundw
      case rel => exact ⟨roundF s, A4, c4, w.heap.size, by rw [HZ4.out]; rfl, by show (leavF (aliveF (leadF s))).length ≤ n; rw [← HZ4.out]; omega, Nat.le_refl _, by
        have h := own_base HR4.out HW3.out
        rw [HZ4.out] at h
        exact Lib.hid h, HB4, HOK4, HE⟩
      case measure => simp [lenOf]; omega
end Go.Proofs.Ytcageojoafkojaa.Ju
