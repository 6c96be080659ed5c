/- The opening fact. -/
import Derived.Test.YtagbamengcnfeaaMeU
namespace Go.Proofs.Ytagbamengcnfeaa.Me
open Go.RowKit Go.WideElems
theorem fail13 (w : World) : Calls Try.prog 28 #[.int .i64 13] w fun e w' => e = .returned (.int .u32 327693) ∧ Below w.heap.size w w' := by
  refine (Rec.fail_any 13 w).mono ?_
  rintro e w' ⟨rfl, rfl⟩
  have h : Rec.clampN 13 = 13 := by decide
  rw [h]
  exact ⟨rfl, Below.refl _ _⟩
theorem set6_g (w : World) (g : Nat) (v0 v1 v2 v3 v4 v5 : Value) : w.grownBy ((((((w.setCell ⟨g, 0, none⟩ v0).setCell ⟨g, 1, none⟩ v1).setCell ⟨g, 2, none⟩ v2).setCell ⟨g, 3, none⟩ v3).setCell ⟨g, 4, none⟩ v4).setCell ⟨g, 5, none⟩ v5) (some g) :=
  only_trans (only_trans (only_trans (only_trans (only_trans (only_set _ g 0 v0) (only_set _ g 1 v1)) (only_set _ g 2 v2)) (only_set _ g 3 v3)) (only_set _ g 4 v4)) (only_set _ g 5 v5)
theorem cell_g6 {w : World} {b o g : Nat} {v v0 v1 v2 v3 v4 v5 : Value} (h : w.cell? ⟨b, o, none⟩ = some v) (hn : b ≠ g) : ((((((w.setCell ⟨g, 0, none⟩ v0).setCell ⟨g, 1, none⟩ v1).setCell ⟨g, 2, none⟩ v2).setCell ⟨g, 3, none⟩ v3).setCell ⟨g, 4, none⟩ v4).setCell ⟨g, 5, none⟩ v5).cell? ⟨b, o, none⟩ = some v := cell_grown h (set6_g w g v0 v1 v2 v3 v4 v5) hn
def AwR (w1 : World) (v : Value) (wx : World) : Prop := ∃ pb g5 g3 : Nat, v = .pointer (some ⟨pb, 0, none⟩) ∧ Hid (Bk wx pb 43 [.string ⟨#[]⟩, .int .u32 2147483648, .slice (some ⟨g5, 0, none⟩) 2 2, .int .u16 0, .slice none 0 0, .slice none 0 0]) ∧ Hid (Bk wx g5 64 [.int .u32 2, .int .u32 2147418112, .slice none 0 0, .int .u32 2, .int .u32 327693, .slice (some ⟨g3, 0, none⟩) 1 1]) ∧ Hid (Bk wx g3 67 [.int .i64 1, .int .u8 7, .int .u64 2, .int .u64 2]) ∧ Hid (Below w1.heap.size w1 wx)
theorem aw_end {w1 w : World} {g7 g5 g3 : Nat} {a0 a1 a2 a3 a4 a5 : Value} (h7 : Bk w g7 43 [a0, a1, a2, a3, a4, a5]) (h5 : Bk w g5 64 [.int .u32 2, .int .u32 2147418112, .slice none 0 0, .int .u32 2, .int .u32 327693, .slice (some ⟨g3, 0, none⟩) 1 1]) (h3 : Bk w g3 67 [.int .i64 1, .int .u8 7, .int .u64 2, .int .u64 2]) (n5 : g7 ≠ g5) (n3 : g7 ≠ g3) (hg : w1.heap.size ≤ g7) (hb : Below w1.heap.size w1 w) :
    AwR w1 (.pointer (some ⟨g7, 0, none⟩)) ((((((w.setCell ⟨g7, 0, none⟩ (.string ⟨#[]⟩)).setCell ⟨g7, 1, none⟩ (.int .u32 2147483648)).setCell ⟨g7, 2, none⟩ (.slice (some ⟨g5, 0, none⟩) 2 2)).setCell ⟨g7, 3, none⟩ (.int .u16 0)).setCell ⟨g7, 4, none⟩ (.slice none 0 0)).setCell ⟨g7, 5, none⟩ (.slice none 0 0)) :=
  ⟨g7, g5, g3, rfl, ((((((h7.set 0 (.string ⟨#[]⟩)).set 1 (.int .u32 2147483648)).set 2 (.slice (some ⟨g5, 0, none⟩) 2 2)).set 3 (.int .u16 0)).set 4 (.slice none 0 0)).set 5 (.slice none 0 0)),
    h5.grown (set6_g w g7 _ _ _ _ _ _) (fun e => n5 (Option.some.inj e).symm), h3.grown (set6_g w g7 _ _ _ _ _ _) (fun e => n3 (Option.some.inj e).symm), hb.grown (set6_g w g7 _ _ _ _ _ _) hb.size (fun k e => by cases e; exact hg)⟩
theorem rd_bk {w : World} {g z n : Nat} {T : TypeId} {l : List Value} (h : Bk w g T l) (hl : l.length = n * z) : Rd w z n (some ⟨g, 0, none⟩) l :=
  ⟨hl, .inr ⟨g, 0, rfl, h.lt, fun j u hu => by rw [Nat.zero_add]; exact h.cell j hu⟩⟩
def awRules (g3 : Nat) : List RuleV := [⟨⟨2, 2147418112, []⟩, none, 0⟩, ⟨⟨2, 327693, [⟨1, 7, 2, 2⟩]⟩, some ⟨g3, 0, none⟩, 1⟩]
def awRec : RcM := ⟨2, 3221225534, 0, 0, 3, 0, 0, 0, 0⟩
theorem aw_says (g3 : Nat) : saysR 2147483648 ((awRules g3).map RuleV.m) awRec = 327693 := by
  show saysR 2147483648 [⟨2, 2147418112, []⟩, ⟨2, 327693, [⟨1, 7, 2, 2⟩]⟩] awRec = 327693
  decide
theorem aw_rrd {w : World} {g5 g3 : Nat} (h5 : Bk w g5 64 [.int .u32 2, .int .u32 2147418112, .slice none 0 0, .int .u32 2, .int .u32 327693, .slice (some ⟨g3, 0, none⟩) 1 1]) (h3 : Bk w g3 67 [.int .i64 1, .int .u8 7, .int .u64 2, .int .u64 2]) : RRd w (awRules g3) (some ⟨g5, 0, none⟩) := by
  refine ⟨rd_bk (l := [.int .u32 2, .int .u32 2147418112, .slice none 0 0, .int .u32 2, .int .u32 327693, .slice (some ⟨g3, 0, none⟩) 1 1]) h5 rfl, fun x hx => ?_, fun x hx => ?_⟩
  · simp only [awRules, List.mem_cons, List.not_mem_nil, or_false] at hx
    rcases hx with rfl | rfl
    · exact Rd.nil _ _ _
    · exact rd_bk (l := [.int .i64 1, .int .u8 7, .int .u64 2, .int .u64 2]) h3 rfl
  · simp only [awRules, List.mem_cons, List.not_mem_nil, or_false] at hx
    rcases hx with rfl | rfl
    · exact ⟨by decide, by decide, by unfold maxLen; decide, fun c hc => by cases hc⟩
    · exact ⟨show 2 < 4294967296 by decide, show 327693 < 4294967296 by decide, show 1 ≤ maxLen by unfold maxLen; decide, fun c hc => by simp only [List.mem_singleton] at hc; subst hc; unfold CondM.ok; decide⟩
theorem awRec_ok : awRec.ok := ⟨by decide, by decide, by decide, by decide, by decide, by decide, by decide, by decide, by decide⟩
set_option maxHeartbeats 16000000 in
set_option maxRecDepth 100000 in
theorem awake_any (w : World) : Calls Try.prog 9 #[] w (RetB true w) := by
  go_enter Try.func9, Try.ntmps9
  go_wp2_with fail
  have hk := Bk.new w 67 #[.int .i64 1, .int .u8 7, .int .u64 2, .int .u64 2] (l := [.int .i64 1, .int .u8 7, .int .u64 2, .int .u64 2]) rfl
  have hb := oneb w (.cells #[.int .i64 1, .int .u8 7, .int .u64 2, .int .u64 2] 67)
  generalize World.alloc w _ = w1 at hk hb ⊢
  have HB0 := Lib.hid hb
  have c0 := hk.drew.cell 0 rfl
  have c1 := hk.drew.cell 1 rfl
  have c2 := hk.drew.cell 2 rfl
  have c3 := hk.drew.cell 3 rfl
  have cl := hk.lt
  have hd := (Below.refl w1.heap.size w1).drew
  clear hk hb
  go_cut [2] from 4 to 15 (fun v wx => AwR w1 v wx)
  case first =>
    refine wp_region_held_drew (S := fun w' => w'.cell? ⟨w.heap.size, 0, none⟩ = some (.int .i64 1) ∧ w'.cell? ⟨w.heap.size, 1, none⟩ = some (.int .u8 7) ∧ w'.cell? ⟨w.heap.size, 2, none⟩ = some (.int .u64 2) ∧ w'.cell? ⟨w.heap.size, 3, none⟩ = some (.int .u64 2)) (by kernel_rfl) ?_ (fun hHeld0 => ?_)
    · exact ⟨c0, c1, c2, c3⟩
    generalize w1.drew = vh0 at hHeld0 hd c0 c1 c2 c3 ⊢
    have HB := Lib.hid hd
    clear hd c0 c1 c2 c3
    refine wpAnyH_take (i := 0) (v := ?_) (by first | (simp only [List.getElem?_toArray, List.getElem?_cons_zero] <;> rfl) | rfl) (by kernel_rfl) (by kernel_rfl) (by kernel_rfl) (by exact fun _ _ _ h => h) (Or.inl ⟨by rfl, ?_⟩) hHeld0 ?_
    rotate_left 1
    · intro w hSw
      try dsimp only at hSw
      (go_simp) <;> (with_reducible rfl)
    try simp only [Act.put, List.setIfInBounds_toArray, List.set_cons_zero, List.set_cons_succ]
    refine wpAnyH_take (i := 2) (v := ?_) (by first | (simp only [List.getElem?_toArray, List.getElem?_cons_succ, List.getElem?_cons_zero] <;> rfl) | rfl) (by kernel_rfl) (by kernel_rfl) (by kernel_rfl) (by exact fun _ _ _ h => h) (Or.inl ⟨by rfl, ?_⟩) hHeld0 ?_
    rotate_left 1
    · intro w hSw
      try dsimp only at hSw
      (go_simp) <;> (with_reducible rfl)
    try simp only [Act.put, List.setIfInBounds_toArray, List.set_cons_zero, List.set_cons_succ]
    refine wpAnyH_ready (rs := [1, 3, 7]) (by kernel_rfl) (by simp) ?_
    refine AllReadyH.cons (by first | (simp only [List.getElem?_toArray, List.getElem?_cons_succ, List.getElem?_cons_zero] <;> rfl) | rfl) (fun K hK => ?_) ?_
    · go_simp
      refine (fail13 _).mono ?_
      rintro e vh1 ⟨rfl, hbb⟩
      refine hK.out _ _ ?_ (fun hHeld1 => ?_)
      · exact ⟨cell_below hHeld0.1 hbb, cell_below hHeld0.2.1 hbb, cell_below hHeld0.2.2.1 hbb, cell_below hHeld0.2.2.2 hbb⟩
      clear hK K
      first | (clear n0 nz0 n1 nz1 n2 nz2 n3 nz3 n4 nz4 n5 nz5 nl) | skip
      have HB := Lib.hid (HB.out.trans (hbb.mono HB.out.size))
      first | (have HN3 := Lib.hid (HN3.out.kept hbb)) | skip
      first | (have HN5 := Lib.hid (HN5.out.kept hbb)) | skip
      first | (have HN7 := Lib.hid (HN7.out.kept hbb)) | skip
      clear hbb hHeld0
      first | (have n0 := HN7.out.cell 0 rfl; have nz0 := HN7.out.fz 0; have n1 := HN7.out.cell 1 rfl; have nz1 := HN7.out.fz 1; have n2 := HN7.out.cell 2 rfl; have nz2 := HN7.out.fz 2; have n3 := HN7.out.cell 3 rfl; have nz3 := HN7.out.fz 3; have n4 := HN7.out.cell 4 rfl; have nz4 := HN7.out.fz 4; have n5 := HN7.out.cell 5 rfl; have nz5 := HN7.out.fz 5; have nl := HN7.out.lt) | skip
      try simp only [Act.put, List.setIfInBounds_toArray, List.set_cons_zero, List.set_cons_succ]
      refine wpAnyH_ready (rs := [3, 7]) (by kernel_rfl) (by simp) ?_
      refine AllReadyH.cons (by first | (simp only [List.getElem?_toArray, List.getElem?_cons_succ, List.getElem?_cons_zero] <;> rfl) | rfl) (fun K hK => ?_) ?_
      · go_simp
        refine hK.out _ _ ?_ (fun hHeld2 => ?_)
        · exact ⟨cell_below hHeld1.1 (oneb _ _), cell_below hHeld1.2.1 (oneb _ _), cell_below hHeld1.2.2.1 (oneb _ _), cell_below hHeld1.2.2.2 (oneb _ _)⟩
        clear hK K
        first | (clear n0 nz0 n1 nz1 n2 nz2 n3 nz3 n4 nz4 n5 nz5 nl) | skip
        have hbb := oneb vh1 (.cells #[.int .i64 1, .int .u8 7, .int .u64 2, .int .u64 2] 67)
        have hN := Bk.new vh1 67 #[.int .i64 1, .int .u8 7, .int .u64 2, .int .u64 2] (l := [.int .i64 1, .int .u8 7, .int .u64 2, .int .u64 2]) rfl
        have hge := HB.out.size
        generalize World.alloc vh1 _ = vh2 at hbb hN hHeld2 ⊢
        have HB := Lib.hid (HB.out.trans (hbb.mono HB.out.size))
        first | (have HN5 := Lib.hid (HN5.out.kept hbb)) | skip
        first | (have HN7 := Lib.hid (HN7.out.kept hbb)) | skip
        generalize vh1.heap.size = g3 at hN hge ⊢
        have HN3 := Lib.hid hN
        have HG3 := Lib.hid hge
        clear hbb hN hge hHeld1
        first | (have n0 := HN7.out.cell 0 rfl; have nz0 := HN7.out.fz 0; have n1 := HN7.out.cell 1 rfl; have nz1 := HN7.out.fz 1; have n2 := HN7.out.cell 2 rfl; have nz2 := HN7.out.fz 2; have n3 := HN7.out.cell 3 rfl; have nz3 := HN7.out.fz 3; have n4 := HN7.out.cell 4 rfl; have nz4 := HN7.out.fz 4; have n5 := HN7.out.cell 5 rfl; have nz5 := HN7.out.fz 5; have nl := HN7.out.lt) | skip
        try simp only [Act.put, List.setIfInBounds_toArray, List.set_cons_zero, List.set_cons_succ]
        refine wpAnyH_take (i := 4) (v := ?_) (by first | (simp only [List.getElem?_toArray, List.getElem?_cons_succ, List.getElem?_cons_zero] <;> rfl) | rfl) (by kernel_rfl) (by kernel_rfl) (by kernel_rfl) (by exact fun _ _ _ h => h) (Or.inl ⟨by rfl, ?_⟩) hHeld2 ?_
        rotate_left 1
        · intro w hSw
          try dsimp only at hSw
          (go_simp) <;> (with_reducible rfl)
        try simp only [Act.put, List.setIfInBounds_toArray, List.set_cons_zero, List.set_cons_succ]
        refine wpAnyH_ready (rs := [5, 7]) (by kernel_rfl) (by simp) ?_
        refine AllReadyH.cons (by first | (simp only [List.getElem?_toArray, List.getElem?_cons_succ, List.getElem?_cons_zero] <;> rfl) | rfl) (fun K hK => ?_) ?_
        · go_simp
          refine hK.out _ _ ?_ (fun hHeld3 => ?_)
          · exact ⟨cell_below hHeld2.1 (oneb _ _), cell_below hHeld2.2.1 (oneb _ _), cell_below hHeld2.2.2.1 (oneb _ _), cell_below hHeld2.2.2.2 (oneb _ _)⟩
          clear hK K
          first | (clear n0 nz0 n1 nz1 n2 nz2 n3 nz3 n4 nz4 n5 nz5 nl) | skip
          have hbb := oneb vh2 (.cells #[.int .u32 2, .int .u32 2147418112, .slice none 0 0, .int .u32 2, .int .u32 327693, .slice (some ⟨g3, 0, none⟩) 1 1] 64)
          have hN := Bk.new vh2 64 #[.int .u32 2, .int .u32 2147418112, .slice none 0 0, .int .u32 2, .int .u32 327693, .slice (some ⟨g3, 0, none⟩) 1 1] (l := [.int .u32 2, .int .u32 2147418112, .slice none 0 0, .int .u32 2, .int .u32 327693, .slice (some ⟨g3, 0, none⟩) 1 1]) rfl
          have hge := HB.out.size
          generalize World.alloc vh2 _ = vh3 at hbb hN hHeld3 ⊢
          have HB := Lib.hid (HB.out.trans (hbb.mono HB.out.size))
          first | (have HN3 := Lib.hid (HN3.out.kept hbb)) | skip
          first | (have HN7 := Lib.hid (HN7.out.kept hbb)) | skip
          generalize vh2.heap.size = g5 at hN hge ⊢
          have HN5 := Lib.hid hN
          have HG5 := Lib.hid hge
          clear hbb hN hge hHeld2
          first | (have n0 := HN7.out.cell 0 rfl; have nz0 := HN7.out.fz 0; have n1 := HN7.out.cell 1 rfl; have nz1 := HN7.out.fz 1; have n2 := HN7.out.cell 2 rfl; have nz2 := HN7.out.fz 2; have n3 := HN7.out.cell 3 rfl; have nz3 := HN7.out.fz 3; have n4 := HN7.out.cell 4 rfl; have nz4 := HN7.out.fz 4; have n5 := HN7.out.cell 5 rfl; have nz5 := HN7.out.fz 5; have nl := HN7.out.lt) | skip
          try simp only [Act.put, List.setIfInBounds_toArray, List.set_cons_zero, List.set_cons_succ]
          refine wpAnyH_take (i := 6) (v := ?_) (by first | (simp only [List.getElem?_toArray, List.getElem?_cons_succ, List.getElem?_cons_zero] <;> rfl) | rfl) (by kernel_rfl) (by kernel_rfl) (by kernel_rfl) (by exact fun _ _ _ h => h) (Or.inl ⟨by rfl, ?_⟩) hHeld3 ?_
          rotate_left 1
          · intro w hSw
            try dsimp only at hSw
            (go_simp) <;> (with_reducible rfl)
          try simp only [Act.put, List.setIfInBounds_toArray, List.set_cons_zero, List.set_cons_succ]
          refine wpAnyH_ready (rs := [7]) (by kernel_rfl) (by simp) ?_
          refine AllReadyH.cons (by first | (simp only [List.getElem?_toArray, List.getElem?_cons_succ, List.getElem?_cons_zero] <;> rfl) | rfl) (fun K hK => ?_) ?_
          · go_simp
            refine hK.out _ _ ?_ (fun hHeld4 => ?_)
            · exact ⟨cell_below hHeld3.1 (oneb _ _), cell_below hHeld3.2.1 (oneb _ _), cell_below hHeld3.2.2.1 (oneb _ _), cell_below hHeld3.2.2.2 (oneb _ _)⟩
            clear hK K
            first | (clear n0 nz0 n1 nz1 n2 nz2 n3 nz3 n4 nz4 n5 nz5 nl) | skip
            have hbb := oneb vh3 (.cells #[.string ⟨#[]⟩, .int .u32 0, .slice none 0 0, .int .u16 0, .slice none 0 0, .slice none 0 0] 43)
            have hN := Bk.new vh3 43 #[.string ⟨#[]⟩, .int .u32 0, .slice none 0 0, .int .u16 0, .slice none 0 0, .slice none 0 0] (l := [.string ⟨#[]⟩, .int .u32 0, .slice none 0 0, .int .u16 0, .slice none 0 0, .slice none 0 0]) rfl
            have hge := HB.out.size
            generalize World.alloc vh3 _ = vh4 at hbb hN hHeld4 ⊢
            have HB := Lib.hid (HB.out.trans (hbb.mono HB.out.size))
            first | (have HN3 := Lib.hid (HN3.out.kept hbb)) | skip
            first | (have HN5 := Lib.hid (HN5.out.kept hbb)) | skip
            generalize vh3.heap.size = g7 at hN hge ⊢
            have HN7 := Lib.hid hN
            have HG7 := Lib.hid hge
            clear hbb hN hge hHeld3
            first | (have n0 := HN7.out.cell 0 rfl; have nz0 := HN7.out.fz 0; have n1 := HN7.out.cell 1 rfl; have nz1 := HN7.out.fz 1; have n2 := HN7.out.cell 2 rfl; have nz2 := HN7.out.fz 2; have n3 := HN7.out.cell 3 rfl; have nz3 := HN7.out.fz 3; have n4 := HN7.out.cell 4 rfl; have nz4 := HN7.out.fz 4; have n5 := HN7.out.cell 5 rfl; have nz5 := HN7.out.fz 5; have nl := HN7.out.lt) | skip
            try simp only [Act.put, List.setIfInBounds_toArray, List.set_cons_zero, List.set_cons_succ]
            refine wpAnyH_ready (rs := [8]) (by kernel_rfl) (by simp) ?_
            refine AllReadyH.cons (by first | (simp only [List.getElem?_toArray, List.getElem?_cons_succ, List.getElem?_cons_zero] <;> rfl) | rfl) (fun K hK => ?_) ?_
            · go_simp
              refine hK.out _ _ ?_ (fun hHeld5 => ?_)
              · exact ⟨cell_g6 hHeld4.1 (by have := HG7.out; omega), cell_g6 hHeld4.2.1 (by have := HG7.out; omega), cell_g6 hHeld4.2.2.1 (by have := HG7.out; omega), cell_g6 hHeld4.2.2.2 (by have := HG7.out; omega)⟩
              clear hK K
              try simp only [Act.put, List.setIfInBounds_toArray, List.set_cons_zero, List.set_cons_succ]
              refine wpAnyH_done (by kernel_rfl) ?_ _
              clear n0 nz0 n1 nz1 n2 nz2 n3 nz3 n4 nz4 n5 nz5 nl
              go_wp2_with fail
              go_meet
              case rel =>
                exact aw_end HN7.out HN5.out HN3.out (HN7.out.tyb.ne HN5.out.tyb (by decide)) (HN7.out.tyb.ne HN3.out.tyb (by decide)) HG7.out HB.out
            exact AllReadyH.nil
          exact AllReadyH.nil
        refine AllReadyH.cons (by first | (simp only [List.getElem?_toArray, List.getElem?_cons_succ, List.getElem?_cons_zero] <;> rfl) | rfl) (fun K hK => ?_) ?_
        · go_simp
          refine hK.out _ _ ?_ (fun hHeld3 => ?_)
          · exact ⟨cell_below hHeld2.1 (oneb _ _), cell_below hHeld2.2.1 (oneb _ _), cell_below hHeld2.2.2.1 (oneb _ _), cell_below hHeld2.2.2.2 (oneb _ _)⟩
          clear hK K
          first | (clear n0 nz0 n1 nz1 n2 nz2 n3 nz3 n4 nz4 n5 nz5 nl) | skip
          have hbb := oneb vh2 (.cells #[.string ⟨#[]⟩, .int .u32 0, .slice none 0 0, .int .u16 0, .slice none 0 0, .slice none 0 0] 43)
          have hN := Bk.new vh2 43 #[.string ⟨#[]⟩, .int .u32 0, .slice none 0 0, .int .u16 0, .slice none 0 0, .slice none 0 0] (l := [.string ⟨#[]⟩, .int .u32 0, .slice none 0 0, .int .u16 0, .slice none 0 0, .slice none 0 0]) rfl
          have hge := HB.out.size
          generalize World.alloc vh2 _ = vh3 at hbb hN hHeld3 ⊢
          have HB := Lib.hid (HB.out.trans (hbb.mono HB.out.size))
          first | (have HN3 := Lib.hid (HN3.out.kept hbb)) | skip
          first | (have HN5 := Lib.hid (HN5.out.kept hbb)) | skip
          generalize vh2.heap.size = g7 at hN hge ⊢
          have HN7 := Lib.hid hN
          have HG7 := Lib.hid hge
          clear hbb hN hge hHeld2
          first | (have n0 := HN7.out.cell 0 rfl; have nz0 := HN7.out.fz 0; have n1 := HN7.out.cell 1 rfl; have nz1 := HN7.out.fz 1; have n2 := HN7.out.cell 2 rfl; have nz2 := HN7.out.fz 2; have n3 := HN7.out.cell 3 rfl; have nz3 := HN7.out.fz 3; have n4 := HN7.out.cell 4 rfl; have nz4 := HN7.out.fz 4; have n5 := HN7.out.cell 5 rfl; have nz5 := HN7.out.fz 5; have nl := HN7.out.lt) | skip
          try simp only [Act.put, List.setIfInBounds_toArray, List.set_cons_zero, List.set_cons_succ]
          refine wpAnyH_ready (rs := [5]) (by kernel_rfl) (by simp) ?_
          refine AllReadyH.cons (by first | (simp only [List.getElem?_toArray, List.getElem?_cons_succ, List.getElem?_cons_zero] <;> rfl) | rfl) (fun K hK => ?_) ?_
          · go_simp
            refine hK.out _ _ ?_ (fun hHeld4 => ?_)
            · exact ⟨cell_below hHeld3.1 (oneb _ _), cell_below hHeld3.2.1 (oneb _ _), cell_below hHeld3.2.2.1 (oneb _ _), cell_below hHeld3.2.2.2 (oneb _ _)⟩
            clear hK K
            first | (clear n0 nz0 n1 nz1 n2 nz2 n3 nz3 n4 nz4 n5 nz5 nl) | skip
            have hbb := oneb vh3 (.cells #[.int .u32 2, .int .u32 2147418112, .slice none 0 0, .int .u32 2, .int .u32 327693, .slice (some ⟨g3, 0, none⟩) 1 1] 64)
            have hN := Bk.new vh3 64 #[.int .u32 2, .int .u32 2147418112, .slice none 0 0, .int .u32 2, .int .u32 327693, .slice (some ⟨g3, 0, none⟩) 1 1] (l := [.int .u32 2, .int .u32 2147418112, .slice none 0 0, .int .u32 2, .int .u32 327693, .slice (some ⟨g3, 0, none⟩) 1 1]) rfl
            have hge := HB.out.size
            generalize World.alloc vh3 _ = vh4 at hbb hN hHeld4 ⊢
            have HB := Lib.hid (HB.out.trans (hbb.mono HB.out.size))
            first | (have HN3 := Lib.hid (HN3.out.kept hbb)) | skip
            first | (have HN7 := Lib.hid (HN7.out.kept hbb)) | skip
            generalize vh3.heap.size = g5 at hN hge ⊢
            have HN5 := Lib.hid hN
            have HG5 := Lib.hid hge
            clear hbb hN hge hHeld3
            first | (have n0 := HN7.out.cell 0 rfl; have nz0 := HN7.out.fz 0; have n1 := HN7.out.cell 1 rfl; have nz1 := HN7.out.fz 1; have n2 := HN7.out.cell 2 rfl; have nz2 := HN7.out.fz 2; have n3 := HN7.out.cell 3 rfl; have nz3 := HN7.out.fz 3; have n4 := HN7.out.cell 4 rfl; have nz4 := HN7.out.fz 4; have n5 := HN7.out.cell 5 rfl; have nz5 := HN7.out.fz 5; have nl := HN7.out.lt) | skip
            try simp only [Act.put, List.setIfInBounds_toArray, List.set_cons_zero, List.set_cons_succ]
            refine wpAnyH_take (i := 6) (v := ?_) (by first | (simp only [List.getElem?_toArray, List.getElem?_cons_succ, List.getElem?_cons_zero] <;> rfl) | rfl) (by kernel_rfl) (by kernel_rfl) (by kernel_rfl) (by exact fun _ _ _ h => h) (Or.inl ⟨by rfl, ?_⟩) hHeld4 ?_
            rotate_left 1
            · intro w hSw
              try dsimp only at hSw
              (go_simp) <;> (with_reducible rfl)
            try simp only [Act.put, List.setIfInBounds_toArray, List.set_cons_zero, List.set_cons_succ]
            refine wpAnyH_ready (rs := [8]) (by kernel_rfl) (by simp) ?_
            refine AllReadyH.cons (by first | (simp only [List.getElem?_toArray, List.getElem?_cons_succ, List.getElem?_cons_zero] <;> rfl) | rfl) (fun K hK => ?_) ?_
            · go_simp
              refine hK.out _ _ ?_ (fun hHeld5 => ?_)
              · exact ⟨cell_g6 hHeld4.1 (by have := HG7.out; omega), cell_g6 hHeld4.2.1 (by have := HG7.out; omega), cell_g6 hHeld4.2.2.1 (by have := HG7.out; omega), cell_g6 hHeld4.2.2.2 (by have := HG7.out; omega)⟩
              clear hK K
              try simp only [Act.put, List.setIfInBounds_toArray, List.set_cons_zero, List.set_cons_succ]
              refine wpAnyH_done (by kernel_rfl) ?_ _
              clear n0 nz0 n1 nz1 n2 nz2 n3 nz3 n4 nz4 n5 nz5 nl
              go_wp2_with fail
              go_meet
              case rel =>
                exact aw_end HN7.out HN5.out HN3.out (HN7.out.tyb.ne HN5.out.tyb (by decide)) (HN7.out.tyb.ne HN3.out.tyb (by decide)) HG7.out HB.out
            exact AllReadyH.nil
          exact AllReadyH.nil
        exact AllReadyH.nil
      refine AllReadyH.cons (by first | (simp only [List.getElem?_toArray, List.getElem?_cons_succ, List.getElem?_cons_zero] <;> rfl) | rfl) (fun K hK => ?_) ?_
      · go_simp
        refine hK.out _ _ ?_ (fun hHeld2 => ?_)
        · exact ⟨cell_below hHeld1.1 (oneb _ _), cell_below hHeld1.2.1 (oneb _ _), cell_below hHeld1.2.2.1 (oneb _ _), cell_below hHeld1.2.2.2 (oneb _ _)⟩
        clear hK K
        first | (clear n0 nz0 n1 nz1 n2 nz2 n3 nz3 n4 nz4 n5 nz5 nl) | skip
        have hbb := oneb vh1 (.cells #[.string ⟨#[]⟩, .int .u32 0, .slice none 0 0, .int .u16 0, .slice none 0 0, .slice none 0 0] 43)
        have hN := Bk.new vh1 43 #[.string ⟨#[]⟩, .int .u32 0, .slice none 0 0, .int .u16 0, .slice none 0 0, .slice none 0 0] (l := [.string ⟨#[]⟩, .int .u32 0, .slice none 0 0, .int .u16 0, .slice none 0 0, .slice none 0 0]) rfl
        have hge := HB.out.size
        generalize World.alloc vh1 _ = vh2 at hbb hN hHeld2 ⊢
        have HB := Lib.hid (HB.out.trans (hbb.mono HB.out.size))
        first | (have HN3 := Lib.hid (HN3.out.kept hbb)) | skip
        first | (have HN5 := Lib.hid (HN5.out.kept hbb)) | skip
        generalize vh1.heap.size = g7 at hN hge ⊢
        have HN7 := Lib.hid hN
        have HG7 := Lib.hid hge
        clear hbb hN hge hHeld1
        first | (have n0 := HN7.out.cell 0 rfl; have nz0 := HN7.out.fz 0; have n1 := HN7.out.cell 1 rfl; have nz1 := HN7.out.fz 1; have n2 := HN7.out.cell 2 rfl; have nz2 := HN7.out.fz 2; have n3 := HN7.out.cell 3 rfl; have nz3 := HN7.out.fz 3; have n4 := HN7.out.cell 4 rfl; have nz4 := HN7.out.fz 4; have n5 := HN7.out.cell 5 rfl; have nz5 := HN7.out.fz 5; have nl := HN7.out.lt) | skip
        try simp only [Act.put, List.setIfInBounds_toArray, List.set_cons_zero, List.set_cons_succ]
        refine wpAnyH_ready (rs := [3]) (by kernel_rfl) (by simp) ?_
        refine AllReadyH.cons (by first | (simp only [List.getElem?_toArray, List.getElem?_cons_succ, List.getElem?_cons_zero] <;> rfl) | rfl) (fun K hK => ?_) ?_
        · go_simp
          refine hK.out _ _ ?_ (fun hHeld3 => ?_)
          · exact ⟨cell_below hHeld2.1 (oneb _ _), cell_below hHeld2.2.1 (oneb _ _), cell_below hHeld2.2.2.1 (oneb _ _), cell_below hHeld2.2.2.2 (oneb _ _)⟩
          clear hK K
          first | (clear n0 nz0 n1 nz1 n2 nz2 n3 nz3 n4 nz4 n5 nz5 nl) | skip
          have hbb := oneb vh2 (.cells #[.int .i64 1, .int .u8 7, .int .u64 2, .int .u64 2] 67)
          have hN := Bk.new vh2 67 #[.int .i64 1, .int .u8 7, .int .u64 2, .int .u64 2] (l := [.int .i64 1, .int .u8 7, .int .u64 2, .int .u64 2]) rfl
          have hge := HB.out.size
          generalize World.alloc vh2 _ = vh3 at hbb hN hHeld3 ⊢
          have HB := Lib.hid (HB.out.trans (hbb.mono HB.out.size))
          first | (have HN5 := Lib.hid (HN5.out.kept hbb)) | skip
          first | (have HN7 := Lib.hid (HN7.out.kept hbb)) | skip
          generalize vh2.heap.size = g3 at hN hge ⊢
          have HN3 := Lib.hid hN
          have HG3 := Lib.hid hge
          clear hbb hN hge hHeld2
          first | (have n0 := HN7.out.cell 0 rfl; have nz0 := HN7.out.fz 0; have n1 := HN7.out.cell 1 rfl; have nz1 := HN7.out.fz 1; have n2 := HN7.out.cell 2 rfl; have nz2 := HN7.out.fz 2; have n3 := HN7.out.cell 3 rfl; have nz3 := HN7.out.fz 3; have n4 := HN7.out.cell 4 rfl; have nz4 := HN7.out.fz 4; have n5 := HN7.out.cell 5 rfl; have nz5 := HN7.out.fz 5; have nl := HN7.out.lt) | skip
          try simp only [Act.put, List.setIfInBounds_toArray, List.set_cons_zero, List.set_cons_succ]
          refine wpAnyH_take (i := 4) (v := ?_) (by first | (simp only [List.getElem?_toArray, List.getElem?_cons_succ, List.getElem?_cons_zero] <;> rfl) | rfl) (by kernel_rfl) (by kernel_rfl) (by kernel_rfl) (by exact fun _ _ _ h => h) (Or.inl ⟨by rfl, ?_⟩) hHeld3 ?_
          rotate_left 1
          · intro w hSw
            try dsimp only at hSw
            (go_simp) <;> (with_reducible rfl)
          try simp only [Act.put, List.setIfInBounds_toArray, List.set_cons_zero, List.set_cons_succ]
          refine wpAnyH_ready (rs := [5]) (by kernel_rfl) (by simp) ?_
          refine AllReadyH.cons (by first | (simp only [List.getElem?_toArray, List.getElem?_cons_succ, List.getElem?_cons_zero] <;> rfl) | rfl) (fun K hK => ?_) ?_
          · go_simp
            refine hK.out _ _ ?_ (fun hHeld4 => ?_)
            · exact ⟨cell_below hHeld3.1 (oneb _ _), cell_below hHeld3.2.1 (oneb _ _), cell_below hHeld3.2.2.1 (oneb _ _), cell_below hHeld3.2.2.2 (oneb _ _)⟩
            clear hK K
            first | (clear n0 nz0 n1 nz1 n2 nz2 n3 nz3 n4 nz4 n5 nz5 nl) | skip
            have hbb := oneb vh3 (.cells #[.int .u32 2, .int .u32 2147418112, .slice none 0 0, .int .u32 2, .int .u32 327693, .slice (some ⟨g3, 0, none⟩) 1 1] 64)
            have hN := Bk.new vh3 64 #[.int .u32 2, .int .u32 2147418112, .slice none 0 0, .int .u32 2, .int .u32 327693, .slice (some ⟨g3, 0, none⟩) 1 1] (l := [.int .u32 2, .int .u32 2147418112, .slice none 0 0, .int .u32 2, .int .u32 327693, .slice (some ⟨g3, 0, none⟩) 1 1]) rfl
            have hge := HB.out.size
            generalize World.alloc vh3 _ = vh4 at hbb hN hHeld4 ⊢
            have HB := Lib.hid (HB.out.trans (hbb.mono HB.out.size))
            first | (have HN3 := Lib.hid (HN3.out.kept hbb)) | skip
            first | (have HN7 := Lib.hid (HN7.out.kept hbb)) | skip
            generalize vh3.heap.size = g5 at hN hge ⊢
            have HN5 := Lib.hid hN
            have HG5 := Lib.hid hge
            clear hbb hN hge hHeld3
            first | (have n0 := HN7.out.cell 0 rfl; have nz0 := HN7.out.fz 0; have n1 := HN7.out.cell 1 rfl; have nz1 := HN7.out.fz 1; have n2 := HN7.out.cell 2 rfl; have nz2 := HN7.out.fz 2; have n3 := HN7.out.cell 3 rfl; have nz3 := HN7.out.fz 3; have n4 := HN7.out.cell 4 rfl; have nz4 := HN7.out.fz 4; have n5 := HN7.out.cell 5 rfl; have nz5 := HN7.out.fz 5; have nl := HN7.out.lt) | skip
            try simp only [Act.put, List.setIfInBounds_toArray, List.set_cons_zero, List.set_cons_succ]
            refine wpAnyH_take (i := 6) (v := ?_) (by first | (simp only [List.getElem?_toArray, List.getElem?_cons_succ, List.getElem?_cons_zero] <;> rfl) | rfl) (by kernel_rfl) (by kernel_rfl) (by kernel_rfl) (by exact fun _ _ _ h => h) (Or.inl ⟨by rfl, ?_⟩) hHeld4 ?_
            rotate_left 1
            · intro w hSw
              try dsimp only at hSw
              (go_simp) <;> (with_reducible rfl)
            try simp only [Act.put, List.setIfInBounds_toArray, List.set_cons_zero, List.set_cons_succ]
            refine wpAnyH_ready (rs := [8]) (by kernel_rfl) (by simp) ?_
            refine AllReadyH.cons (by first | (simp only [List.getElem?_toArray, List.getElem?_cons_succ, List.getElem?_cons_zero] <;> rfl) | rfl) (fun K hK => ?_) ?_
            · go_simp
              refine hK.out _ _ ?_ (fun hHeld5 => ?_)
              · exact ⟨cell_g6 hHeld4.1 (by have := HG7.out; omega), cell_g6 hHeld4.2.1 (by have := HG7.out; omega), cell_g6 hHeld4.2.2.1 (by have := HG7.out; omega), cell_g6 hHeld4.2.2.2 (by have := HG7.out; omega)⟩
              clear hK K
              try simp only [Act.put, List.setIfInBounds_toArray, List.set_cons_zero, List.set_cons_succ]
              refine wpAnyH_done (by kernel_rfl) ?_ _
              clear n0 nz0 n1 nz1 n2 nz2 n3 nz3 n4 nz4 n5 nz5 nl
              go_wp2_with fail
              go_meet
              case rel =>
                exact aw_end HN7.out HN5.out HN3.out (HN7.out.tyb.ne HN5.out.tyb (by decide)) (HN7.out.tyb.ne HN3.out.tyb (by decide)) HG7.out HB.out
            exact AllReadyH.nil
          exact AllReadyH.nil
        exact AllReadyH.nil
      exact AllReadyH.nil
    refine AllReadyH.cons (by first | (simp only [List.getElem?_toArray, List.getElem?_cons_succ, List.getElem?_cons_zero] <;> rfl) | rfl) (fun K hK => ?_) ?_
    · go_simp
      refine hK.out _ _ ?_ (fun hHeld1 => ?_)
      · exact ⟨cell_below hHeld0.1 (oneb _ _), cell_below hHeld0.2.1 (oneb _ _), cell_below hHeld0.2.2.1 (oneb _ _), cell_below hHeld0.2.2.2 (oneb _ _)⟩
      clear hK K
      first | (clear n0 nz0 n1 nz1 n2 nz2 n3 nz3 n4 nz4 n5 nz5 nl) | skip
      have hbb := oneb vh0 (.cells #[.int .i64 1, .int .u8 7, .int .u64 2, .int .u64 2] 67)
      have hN := Bk.new vh0 67 #[.int .i64 1, .int .u8 7, .int .u64 2, .int .u64 2] (l := [.int .i64 1, .int .u8 7, .int .u64 2, .int .u64 2]) rfl
      have hge := HB.out.size
      generalize World.alloc vh0 _ = vh1 at hbb hN hHeld1 ⊢
      have HB := Lib.hid (HB.out.trans (hbb.mono HB.out.size))
      first | (have HN5 := Lib.hid (HN5.out.kept hbb)) | skip
      first | (have HN7 := Lib.hid (HN7.out.kept hbb)) | skip
      generalize vh0.heap.size = g3 at hN hge ⊢
      have HN3 := Lib.hid hN
      have HG3 := Lib.hid hge
      clear hbb hN hge hHeld0
      first | (have n0 := HN7.out.cell 0 rfl; have nz0 := HN7.out.fz 0; have n1 := HN7.out.cell 1 rfl; have nz1 := HN7.out.fz 1; have n2 := HN7.out.cell 2 rfl; have nz2 := HN7.out.fz 2; have n3 := HN7.out.cell 3 rfl; have nz3 := HN7.out.fz 3; have n4 := HN7.out.cell 4 rfl; have nz4 := HN7.out.fz 4; have n5 := HN7.out.cell 5 rfl; have nz5 := HN7.out.fz 5; have nl := HN7.out.lt) | skip
      try simp only [Act.put, List.setIfInBounds_toArray, List.set_cons_zero, List.set_cons_succ]
      refine wpAnyH_ready (rs := [1, 7]) (by kernel_rfl) (by simp) ?_
      refine AllReadyH.cons (by first | (simp only [List.getElem?_toArray, List.getElem?_cons_succ, List.getElem?_cons_zero] <;> rfl) | rfl) (fun K hK => ?_) ?_
      · go_simp
        refine (fail13 _).mono ?_
        rintro e vh2 ⟨rfl, hbb⟩
        refine hK.out _ _ ?_ (fun hHeld2 => ?_)
        · exact ⟨cell_below hHeld1.1 hbb, cell_below hHeld1.2.1 hbb, cell_below hHeld1.2.2.1 hbb, cell_below hHeld1.2.2.2 hbb⟩
        clear hK K
        first | (clear n0 nz0 n1 nz1 n2 nz2 n3 nz3 n4 nz4 n5 nz5 nl) | skip
        have HB := Lib.hid (HB.out.trans (hbb.mono HB.out.size))
        first | (have HN3 := Lib.hid (HN3.out.kept hbb)) | skip
        first | (have HN5 := Lib.hid (HN5.out.kept hbb)) | skip
        first | (have HN7 := Lib.hid (HN7.out.kept hbb)) | skip
        clear hbb hHeld1
        first | (have n0 := HN7.out.cell 0 rfl; have nz0 := HN7.out.fz 0; have n1 := HN7.out.cell 1 rfl; have nz1 := HN7.out.fz 1; have n2 := HN7.out.cell 2 rfl; have nz2 := HN7.out.fz 2; have n3 := HN7.out.cell 3 rfl; have nz3 := HN7.out.fz 3; have n4 := HN7.out.cell 4 rfl; have nz4 := HN7.out.fz 4; have n5 := HN7.out.cell 5 rfl; have nz5 := HN7.out.fz 5; have nl := HN7.out.lt) | skip
        try simp only [Act.put, List.setIfInBounds_toArray, List.set_cons_zero, List.set_cons_succ]
        refine wpAnyH_take (i := 4) (v := ?_) (by first | (simp only [List.getElem?_toArray, List.getElem?_cons_succ, List.getElem?_cons_zero] <;> rfl) | rfl) (by kernel_rfl) (by kernel_rfl) (by kernel_rfl) (by exact fun _ _ _ h => h) (Or.inl ⟨by rfl, ?_⟩) hHeld2 ?_
        rotate_left 1
        · intro w hSw
          try dsimp only at hSw
          (go_simp) <;> (with_reducible rfl)
        try simp only [Act.put, List.setIfInBounds_toArray, List.set_cons_zero, List.set_cons_succ]
        refine wpAnyH_ready (rs := [5, 7]) (by kernel_rfl) (by simp) ?_
        refine AllReadyH.cons (by first | (simp only [List.getElem?_toArray, List.getElem?_cons_succ, List.getElem?_cons_zero] <;> rfl) | rfl) (fun K hK => ?_) ?_
        · go_simp
          refine hK.out _ _ ?_ (fun hHeld3 => ?_)
          · exact ⟨cell_below hHeld2.1 (oneb _ _), cell_below hHeld2.2.1 (oneb _ _), cell_below hHeld2.2.2.1 (oneb _ _), cell_below hHeld2.2.2.2 (oneb _ _)⟩
          clear hK K
          first | (clear n0 nz0 n1 nz1 n2 nz2 n3 nz3 n4 nz4 n5 nz5 nl) | skip
          have hbb := oneb vh2 (.cells #[.int .u32 2, .int .u32 2147418112, .slice none 0 0, .int .u32 2, .int .u32 327693, .slice (some ⟨g3, 0, none⟩) 1 1] 64)
          have hN := Bk.new vh2 64 #[.int .u32 2, .int .u32 2147418112, .slice none 0 0, .int .u32 2, .int .u32 327693, .slice (some ⟨g3, 0, none⟩) 1 1] (l := [.int .u32 2, .int .u32 2147418112, .slice none 0 0, .int .u32 2, .int .u32 327693, .slice (some ⟨g3, 0, none⟩) 1 1]) rfl
          have hge := HB.out.size
          generalize World.alloc vh2 _ = vh3 at hbb hN hHeld3 ⊢
          have HB := Lib.hid (HB.out.trans (hbb.mono HB.out.size))
          first | (have HN3 := Lib.hid (HN3.out.kept hbb)) | skip
          first | (have HN7 := Lib.hid (HN7.out.kept hbb)) | skip
          generalize vh2.heap.size = g5 at hN hge ⊢
          have HN5 := Lib.hid hN
          have HG5 := Lib.hid hge
          clear hbb hN hge hHeld2
          first | (have n0 := HN7.out.cell 0 rfl; have nz0 := HN7.out.fz 0; have n1 := HN7.out.cell 1 rfl; have nz1 := HN7.out.fz 1; have n2 := HN7.out.cell 2 rfl; have nz2 := HN7.out.fz 2; have n3 := HN7.out.cell 3 rfl; have nz3 := HN7.out.fz 3; have n4 := HN7.out.cell 4 rfl; have nz4 := HN7.out.fz 4; have n5 := HN7.out.cell 5 rfl; have nz5 := HN7.out.fz 5; have nl := HN7.out.lt) | skip
          try simp only [Act.put, List.setIfInBounds_toArray, List.set_cons_zero, List.set_cons_succ]
          refine wpAnyH_take (i := 6) (v := ?_) (by first | (simp only [List.getElem?_toArray, List.getElem?_cons_succ, List.getElem?_cons_zero] <;> rfl) | rfl) (by kernel_rfl) (by kernel_rfl) (by kernel_rfl) (by exact fun _ _ _ h => h) (Or.inl ⟨by rfl, ?_⟩) hHeld3 ?_
          rotate_left 1
          · intro w hSw
            try dsimp only at hSw
            (go_simp) <;> (with_reducible rfl)
          try simp only [Act.put, List.setIfInBounds_toArray, List.set_cons_zero, List.set_cons_succ]
          refine wpAnyH_ready (rs := [7]) (by kernel_rfl) (by simp) ?_
          refine AllReadyH.cons (by first | (simp only [List.getElem?_toArray, List.getElem?_cons_succ, List.getElem?_cons_zero] <;> rfl) | rfl) (fun K hK => ?_) ?_
          · go_simp
            refine hK.out _ _ ?_ (fun hHeld4 => ?_)
            · exact ⟨cell_below hHeld3.1 (oneb _ _), cell_below hHeld3.2.1 (oneb _ _), cell_below hHeld3.2.2.1 (oneb _ _), cell_below hHeld3.2.2.2 (oneb _ _)⟩
            clear hK K
            first | (clear n0 nz0 n1 nz1 n2 nz2 n3 nz3 n4 nz4 n5 nz5 nl) | skip
            have hbb := oneb vh3 (.cells #[.string ⟨#[]⟩, .int .u32 0, .slice none 0 0, .int .u16 0, .slice none 0 0, .slice none 0 0] 43)
            have hN := Bk.new vh3 43 #[.string ⟨#[]⟩, .int .u32 0, .slice none 0 0, .int .u16 0, .slice none 0 0, .slice none 0 0] (l := [.string ⟨#[]⟩, .int .u32 0, .slice none 0 0, .int .u16 0, .slice none 0 0, .slice none 0 0]) rfl
            have hge := HB.out.size
            generalize World.alloc vh3 _ = vh4 at hbb hN hHeld4 ⊢
            have HB := Lib.hid (HB.out.trans (hbb.mono HB.out.size))
            first | (have HN3 := Lib.hid (HN3.out.kept hbb)) | skip
            first | (have HN5 := Lib.hid (HN5.out.kept hbb)) | skip
            generalize vh3.heap.size = g7 at hN hge ⊢
            have HN7 := Lib.hid hN
            have HG7 := Lib.hid hge
            clear hbb hN hge hHeld3
            first | (have n0 := HN7.out.cell 0 rfl; have nz0 := HN7.out.fz 0; have n1 := HN7.out.cell 1 rfl; have nz1 := HN7.out.fz 1; have n2 := HN7.out.cell 2 rfl; have nz2 := HN7.out.fz 2; have n3 := HN7.out.cell 3 rfl; have nz3 := HN7.out.fz 3; have n4 := HN7.out.cell 4 rfl; have nz4 := HN7.out.fz 4; have n5 := HN7.out.cell 5 rfl; have nz5 := HN7.out.fz 5; have nl := HN7.out.lt) | skip
            try simp only [Act.put, List.setIfInBounds_toArray, List.set_cons_zero, List.set_cons_succ]
            refine wpAnyH_ready (rs := [8]) (by kernel_rfl) (by simp) ?_
            refine AllReadyH.cons (by first | (simp only [List.getElem?_toArray, List.getElem?_cons_succ, List.getElem?_cons_zero] <;> rfl) | rfl) (fun K hK => ?_) ?_
            · go_simp
              refine hK.out _ _ ?_ (fun hHeld5 => ?_)
              · exact ⟨cell_g6 hHeld4.1 (by have := HG7.out; omega), cell_g6 hHeld4.2.1 (by have := HG7.out; omega), cell_g6 hHeld4.2.2.1 (by have := HG7.out; omega), cell_g6 hHeld4.2.2.2 (by have := HG7.out; omega)⟩
              clear hK K
              try simp only [Act.put, List.setIfInBounds_toArray, List.set_cons_zero, List.set_cons_succ]
              refine wpAnyH_done (by kernel_rfl) ?_ _
              clear n0 nz0 n1 nz1 n2 nz2 n3 nz3 n4 nz4 n5 nz5 nl
              go_wp2_with fail
              go_meet
              case rel =>
                exact aw_end HN7.out HN5.out HN3.out (HN7.out.tyb.ne HN5.out.tyb (by decide)) (HN7.out.tyb.ne HN3.out.tyb (by decide)) HG7.out HB.out
            exact AllReadyH.nil
          exact AllReadyH.nil
        refine AllReadyH.cons (by first | (simp only [List.getElem?_toArray, List.getElem?_cons_succ, List.getElem?_cons_zero] <;> rfl) | rfl) (fun K hK => ?_) ?_
        · go_simp
          refine hK.out _ _ ?_ (fun hHeld3 => ?_)
          · exact ⟨cell_below hHeld2.1 (oneb _ _), cell_below hHeld2.2.1 (oneb _ _), cell_below hHeld2.2.2.1 (oneb _ _), cell_below hHeld2.2.2.2 (oneb _ _)⟩
          clear hK K
          first | (clear n0 nz0 n1 nz1 n2 nz2 n3 nz3 n4 nz4 n5 nz5 nl) | skip
          have hbb := oneb vh2 (.cells #[.string ⟨#[]⟩, .int .u32 0, .slice none 0 0, .int .u16 0, .slice none 0 0, .slice none 0 0] 43)
          have hN := Bk.new vh2 43 #[.string ⟨#[]⟩, .int .u32 0, .slice none 0 0, .int .u16 0, .slice none 0 0, .slice none 0 0] (l := [.string ⟨#[]⟩, .int .u32 0, .slice none 0 0, .int .u16 0, .slice none 0 0, .slice none 0 0]) rfl
          have hge := HB.out.size
          generalize World.alloc vh2 _ = vh3 at hbb hN hHeld3 ⊢
          have HB := Lib.hid (HB.out.trans (hbb.mono HB.out.size))
          first | (have HN3 := Lib.hid (HN3.out.kept hbb)) | skip
          first | (have HN5 := Lib.hid (HN5.out.kept hbb)) | skip
          generalize vh2.heap.size = g7 at hN hge ⊢
          have HN7 := Lib.hid hN
          have HG7 := Lib.hid hge
          clear hbb hN hge hHeld2
          first | (have n0 := HN7.out.cell 0 rfl; have nz0 := HN7.out.fz 0; have n1 := HN7.out.cell 1 rfl; have nz1 := HN7.out.fz 1; have n2 := HN7.out.cell 2 rfl; have nz2 := HN7.out.fz 2; have n3 := HN7.out.cell 3 rfl; have nz3 := HN7.out.fz 3; have n4 := HN7.out.cell 4 rfl; have nz4 := HN7.out.fz 4; have n5 := HN7.out.cell 5 rfl; have nz5 := HN7.out.fz 5; have nl := HN7.out.lt) | skip
          try simp only [Act.put, List.setIfInBounds_toArray, List.set_cons_zero, List.set_cons_succ]
          refine wpAnyH_ready (rs := [5]) (by kernel_rfl) (by simp) ?_
          refine AllReadyH.cons (by first | (simp only [List.getElem?_toArray, List.getElem?_cons_succ, List.getElem?_cons_zero] <;> rfl) | rfl) (fun K hK => ?_) ?_
          · go_simp
            refine hK.out _ _ ?_ (fun hHeld4 => ?_)
            · exact ⟨cell_below hHeld3.1 (oneb _ _), cell_below hHeld3.2.1 (oneb _ _), cell_below hHeld3.2.2.1 (oneb _ _), cell_below hHeld3.2.2.2 (oneb _ _)⟩
            clear hK K
            first | (clear n0 nz0 n1 nz1 n2 nz2 n3 nz3 n4 nz4 n5 nz5 nl) | skip
            have hbb := oneb vh3 (.cells #[.int .u32 2, .int .u32 2147418112, .slice none 0 0, .int .u32 2, .int .u32 327693, .slice (some ⟨g3, 0, none⟩) 1 1] 64)
            have hN := Bk.new vh3 64 #[.int .u32 2, .int .u32 2147418112, .slice none 0 0, .int .u32 2, .int .u32 327693, .slice (some ⟨g3, 0, none⟩) 1 1] (l := [.int .u32 2, .int .u32 2147418112, .slice none 0 0, .int .u32 2, .int .u32 327693, .slice (some ⟨g3, 0, none⟩) 1 1]) rfl
            have hge := HB.out.size
            generalize World.alloc vh3 _ = vh4 at hbb hN hHeld4 ⊢
            have HB := Lib.hid (HB.out.trans (hbb.mono HB.out.size))
            first | (have HN3 := Lib.hid (HN3.out.kept hbb)) | skip
            first | (have HN7 := Lib.hid (HN7.out.kept hbb)) | skip
            generalize vh3.heap.size = g5 at hN hge ⊢
            have HN5 := Lib.hid hN
            have HG5 := Lib.hid hge
            clear hbb hN hge hHeld3
            first | (have n0 := HN7.out.cell 0 rfl; have nz0 := HN7.out.fz 0; have n1 := HN7.out.cell 1 rfl; have nz1 := HN7.out.fz 1; have n2 := HN7.out.cell 2 rfl; have nz2 := HN7.out.fz 2; have n3 := HN7.out.cell 3 rfl; have nz3 := HN7.out.fz 3; have n4 := HN7.out.cell 4 rfl; have nz4 := HN7.out.fz 4; have n5 := HN7.out.cell 5 rfl; have nz5 := HN7.out.fz 5; have nl := HN7.out.lt) | skip
            try simp only [Act.put, List.setIfInBounds_toArray, List.set_cons_zero, List.set_cons_succ]
            refine wpAnyH_take (i := 6) (v := ?_) (by first | (simp only [List.getElem?_toArray, List.getElem?_cons_succ, List.getElem?_cons_zero] <;> rfl) | rfl) (by kernel_rfl) (by kernel_rfl) (by kernel_rfl) (by exact fun _ _ _ h => h) (Or.inl ⟨by rfl, ?_⟩) hHeld4 ?_
            rotate_left 1
            · intro w hSw
              try dsimp only at hSw
              (go_simp) <;> (with_reducible rfl)
            try simp only [Act.put, List.setIfInBounds_toArray, List.set_cons_zero, List.set_cons_succ]
            refine wpAnyH_ready (rs := [8]) (by kernel_rfl) (by simp) ?_
            refine AllReadyH.cons (by first | (simp only [List.getElem?_toArray, List.getElem?_cons_succ, List.getElem?_cons_zero] <;> rfl) | rfl) (fun K hK => ?_) ?_
            · go_simp
              refine hK.out _ _ ?_ (fun hHeld5 => ?_)
              · exact ⟨cell_g6 hHeld4.1 (by have := HG7.out; omega), cell_g6 hHeld4.2.1 (by have := HG7.out; omega), cell_g6 hHeld4.2.2.1 (by have := HG7.out; omega), cell_g6 hHeld4.2.2.2 (by have := HG7.out; omega)⟩
              clear hK K
              try simp only [Act.put, List.setIfInBounds_toArray, List.set_cons_zero, List.set_cons_succ]
              refine wpAnyH_done (by kernel_rfl) ?_ _
              clear n0 nz0 n1 nz1 n2 nz2 n3 nz3 n4 nz4 n5 nz5 nl
              go_wp2_with fail
              go_meet
              case rel =>
                exact aw_end HN7.out HN5.out HN3.out (HN7.out.tyb.ne HN5.out.tyb (by decide)) (HN7.out.tyb.ne HN3.out.tyb (by decide)) HG7.out HB.out
            exact AllReadyH.nil
          exact AllReadyH.nil
        exact AllReadyH.nil
      refine AllReadyH.cons (by first | (simp only [List.getElem?_toArray, List.getElem?_cons_succ, List.getElem?_cons_zero] <;> rfl) | rfl) (fun K hK => ?_) ?_
      · go_simp
        refine hK.out _ _ ?_ (fun hHeld2 => ?_)
        · exact ⟨cell_below hHeld1.1 (oneb _ _), cell_below hHeld1.2.1 (oneb _ _), cell_below hHeld1.2.2.1 (oneb _ _), cell_below hHeld1.2.2.2 (oneb _ _)⟩
        clear hK K
        first | (clear n0 nz0 n1 nz1 n2 nz2 n3 nz3 n4 nz4 n5 nz5 nl) | skip
        have hbb := oneb vh1 (.cells #[.string ⟨#[]⟩, .int .u32 0, .slice none 0 0, .int .u16 0, .slice none 0 0, .slice none 0 0] 43)
        have hN := Bk.new vh1 43 #[.string ⟨#[]⟩, .int .u32 0, .slice none 0 0, .int .u16 0, .slice none 0 0, .slice none 0 0] (l := [.string ⟨#[]⟩, .int .u32 0, .slice none 0 0, .int .u16 0, .slice none 0 0, .slice none 0 0]) rfl
        have hge := HB.out.size
        generalize World.alloc vh1 _ = vh2 at hbb hN hHeld2 ⊢
        have HB := Lib.hid (HB.out.trans (hbb.mono HB.out.size))
        first | (have HN3 := Lib.hid (HN3.out.kept hbb)) | skip
        first | (have HN5 := Lib.hid (HN5.out.kept hbb)) | skip
        generalize vh1.heap.size = g7 at hN hge ⊢
        have HN7 := Lib.hid hN
        have HG7 := Lib.hid hge
        clear hbb hN hge hHeld1
        first | (have n0 := HN7.out.cell 0 rfl; have nz0 := HN7.out.fz 0; have n1 := HN7.out.cell 1 rfl; have nz1 := HN7.out.fz 1; have n2 := HN7.out.cell 2 rfl; have nz2 := HN7.out.fz 2; have n3 := HN7.out.cell 3 rfl; have nz3 := HN7.out.fz 3; have n4 := HN7.out.cell 4 rfl; have nz4 := HN7.out.fz 4; have n5 := HN7.out.cell 5 rfl; have nz5 := HN7.out.fz 5; have nl := HN7.out.lt) | skip
        try simp only [Act.put, List.setIfInBounds_toArray, List.set_cons_zero, List.set_cons_succ]
        refine wpAnyH_ready (rs := [1]) (by kernel_rfl) (by simp) ?_
        refine AllReadyH.cons (by first | (simp only [List.getElem?_toArray, List.getElem?_cons_succ, List.getElem?_cons_zero] <;> rfl) | rfl) (fun K hK => ?_) ?_
        · go_simp
          refine (fail13 _).mono ?_
          rintro e vh3 ⟨rfl, hbb⟩
          refine hK.out _ _ ?_ (fun hHeld3 => ?_)
          · exact ⟨cell_below hHeld2.1 hbb, cell_below hHeld2.2.1 hbb, cell_below hHeld2.2.2.1 hbb, cell_below hHeld2.2.2.2 hbb⟩
          clear hK K
          first | (clear n0 nz0 n1 nz1 n2 nz2 n3 nz3 n4 nz4 n5 nz5 nl) | skip
          have HB := Lib.hid (HB.out.trans (hbb.mono HB.out.size))
          first | (have HN3 := Lib.hid (HN3.out.kept hbb)) | skip
          first | (have HN5 := Lib.hid (HN5.out.kept hbb)) | skip
          first | (have HN7 := Lib.hid (HN7.out.kept hbb)) | skip
          clear hbb hHeld2
          first | (have n0 := HN7.out.cell 0 rfl; have nz0 := HN7.out.fz 0; have n1 := HN7.out.cell 1 rfl; have nz1 := HN7.out.fz 1; have n2 := HN7.out.cell 2 rfl; have nz2 := HN7.out.fz 2; have n3 := HN7.out.cell 3 rfl; have nz3 := HN7.out.fz 3; have n4 := HN7.out.cell 4 rfl; have nz4 := HN7.out.fz 4; have n5 := HN7.out.cell 5 rfl; have nz5 := HN7.out.fz 5; have nl := HN7.out.lt) | skip
          try simp only [Act.put, List.setIfInBounds_toArray, List.set_cons_zero, List.set_cons_succ]
          refine wpAnyH_take (i := 4) (v := ?_) (by first | (simp only [List.getElem?_toArray, List.getElem?_cons_succ, List.getElem?_cons_zero] <;> rfl) | rfl) (by kernel_rfl) (by kernel_rfl) (by kernel_rfl) (by exact fun _ _ _ h => h) (Or.inl ⟨by rfl, ?_⟩) hHeld3 ?_
          rotate_left 1
          · intro w hSw
            try dsimp only at hSw
            (go_simp) <;> (with_reducible rfl)
          try simp only [Act.put, List.setIfInBounds_toArray, List.set_cons_zero, List.set_cons_succ]
          refine wpAnyH_ready (rs := [5]) (by kernel_rfl) (by simp) ?_
          refine AllReadyH.cons (by first | (simp only [List.getElem?_toArray, List.getElem?_cons_succ, List.getElem?_cons_zero] <;> rfl) | rfl) (fun K hK => ?_) ?_
          · go_simp
            refine hK.out _ _ ?_ (fun hHeld4 => ?_)
            · exact ⟨cell_below hHeld3.1 (oneb _ _), cell_below hHeld3.2.1 (oneb _ _), cell_below hHeld3.2.2.1 (oneb _ _), cell_below hHeld3.2.2.2 (oneb _ _)⟩
            clear hK K
            first | (clear n0 nz0 n1 nz1 n2 nz2 n3 nz3 n4 nz4 n5 nz5 nl) | skip
            have hbb := oneb vh3 (.cells #[.int .u32 2, .int .u32 2147418112, .slice none 0 0, .int .u32 2, .int .u32 327693, .slice (some ⟨g3, 0, none⟩) 1 1] 64)
            have hN := Bk.new vh3 64 #[.int .u32 2, .int .u32 2147418112, .slice none 0 0, .int .u32 2, .int .u32 327693, .slice (some ⟨g3, 0, none⟩) 1 1] (l := [.int .u32 2, .int .u32 2147418112, .slice none 0 0, .int .u32 2, .int .u32 327693, .slice (some ⟨g3, 0, none⟩) 1 1]) rfl
            have hge := HB.out.size
            generalize World.alloc vh3 _ = vh4 at hbb hN hHeld4 ⊢
            have HB := Lib.hid (HB.out.trans (hbb.mono HB.out.size))
            first | (have HN3 := Lib.hid (HN3.out.kept hbb)) | skip
            first | (have HN7 := Lib.hid (HN7.out.kept hbb)) | skip
            generalize vh3.heap.size = g5 at hN hge ⊢
            have HN5 := Lib.hid hN
            have HG5 := Lib.hid hge
            clear hbb hN hge hHeld3
            first | (have n0 := HN7.out.cell 0 rfl; have nz0 := HN7.out.fz 0; have n1 := HN7.out.cell 1 rfl; have nz1 := HN7.out.fz 1; have n2 := HN7.out.cell 2 rfl; have nz2 := HN7.out.fz 2; have n3 := HN7.out.cell 3 rfl; have nz3 := HN7.out.fz 3; have n4 := HN7.out.cell 4 rfl; have nz4 := HN7.out.fz 4; have n5 := HN7.out.cell 5 rfl; have nz5 := HN7.out.fz 5; have nl := HN7.out.lt) | skip
            try simp only [Act.put, List.setIfInBounds_toArray, List.set_cons_zero, List.set_cons_succ]
            refine wpAnyH_take (i := 6) (v := ?_) (by first | (simp only [List.getElem?_toArray, List.getElem?_cons_succ, List.getElem?_cons_zero] <;> rfl) | rfl) (by kernel_rfl) (by kernel_rfl) (by kernel_rfl) (by exact fun _ _ _ h => h) (Or.inl ⟨by rfl, ?_⟩) hHeld4 ?_
            rotate_left 1
            · intro w hSw
              try dsimp only at hSw
              (go_simp) <;> (with_reducible rfl)
            try simp only [Act.put, List.setIfInBounds_toArray, List.set_cons_zero, List.set_cons_succ]
            refine wpAnyH_ready (rs := [8]) (by kernel_rfl) (by simp) ?_
            refine AllReadyH.cons (by first | (simp only [List.getElem?_toArray, List.getElem?_cons_succ, List.getElem?_cons_zero] <;> rfl) | rfl) (fun K hK => ?_) ?_
            · go_simp
              refine hK.out _ _ ?_ (fun hHeld5 => ?_)
              · exact ⟨cell_g6 hHeld4.1 (by have := HG7.out; omega), cell_g6 hHeld4.2.1 (by have := HG7.out; omega), cell_g6 hHeld4.2.2.1 (by have := HG7.out; omega), cell_g6 hHeld4.2.2.2 (by have := HG7.out; omega)⟩
              clear hK K
              try simp only [Act.put, List.setIfInBounds_toArray, List.set_cons_zero, List.set_cons_succ]
              refine wpAnyH_done (by kernel_rfl) ?_ _
              clear n0 nz0 n1 nz1 n2 nz2 n3 nz3 n4 nz4 n5 nz5 nl
              go_wp2_with fail
              go_meet
              case rel =>
                exact aw_end HN7.out HN5.out HN3.out (HN7.out.tyb.ne HN5.out.tyb (by decide)) (HN7.out.tyb.ne HN3.out.tyb (by decide)) HG7.out HB.out
            exact AllReadyH.nil
          exact AllReadyH.nil
        exact AllReadyH.nil
      exact AllReadyH.nil
    refine AllReadyH.cons (by first | (simp only [List.getElem?_toArray, List.getElem?_cons_succ, List.getElem?_cons_zero] <;> rfl) | rfl) (fun K hK => ?_) ?_
    · go_simp
      refine hK.out _ _ ?_ (fun hHeld1 => ?_)
      · exact ⟨cell_below hHeld0.1 (oneb _ _), cell_below hHeld0.2.1 (oneb _ _), cell_below hHeld0.2.2.1 (oneb _ _), cell_below hHeld0.2.2.2 (oneb _ _)⟩
      clear hK K
      first | (clear n0 nz0 n1 nz1 n2 nz2 n3 nz3 n4 nz4 n5 nz5 nl) | skip
      have hbb := oneb vh0 (.cells #[.string ⟨#[]⟩, .int .u32 0, .slice none 0 0, .int .u16 0, .slice none 0 0, .slice none 0 0] 43)
      have hN := Bk.new vh0 43 #[.string ⟨#[]⟩, .int .u32 0, .slice none 0 0, .int .u16 0, .slice none 0 0, .slice none 0 0] (l := [.string ⟨#[]⟩, .int .u32 0, .slice none 0 0, .int .u16 0, .slice none 0 0, .slice none 0 0]) rfl
      have hge := HB.out.size
      generalize World.alloc vh0 _ = vh1 at hbb hN hHeld1 ⊢
      have HB := Lib.hid (HB.out.trans (hbb.mono HB.out.size))
      first | (have HN3 := Lib.hid (HN3.out.kept hbb)) | skip
      first | (have HN5 := Lib.hid (HN5.out.kept hbb)) | skip
      generalize vh0.heap.size = g7 at hN hge ⊢
      have HN7 := Lib.hid hN
      have HG7 := Lib.hid hge
      clear hbb hN hge hHeld0
      first | (have n0 := HN7.out.cell 0 rfl; have nz0 := HN7.out.fz 0; have n1 := HN7.out.cell 1 rfl; have nz1 := HN7.out.fz 1; have n2 := HN7.out.cell 2 rfl; have nz2 := HN7.out.fz 2; have n3 := HN7.out.cell 3 rfl; have nz3 := HN7.out.fz 3; have n4 := HN7.out.cell 4 rfl; have nz4 := HN7.out.fz 4; have n5 := HN7.out.cell 5 rfl; have nz5 := HN7.out.fz 5; have nl := HN7.out.lt) | skip
      try simp only [Act.put, List.setIfInBounds_toArray, List.set_cons_zero, List.set_cons_succ]
      refine wpAnyH_ready (rs := [1, 3]) (by kernel_rfl) (by simp) ?_
      refine AllReadyH.cons (by first | (simp only [List.getElem?_toArray, List.getElem?_cons_succ, List.getElem?_cons_zero] <;> rfl) | rfl) (fun K hK => ?_) ?_
      · go_simp
        refine (fail13 _).mono ?_
        rintro e vh2 ⟨rfl, hbb⟩
        refine hK.out _ _ ?_ (fun hHeld2 => ?_)
        · exact ⟨cell_below hHeld1.1 hbb, cell_below hHeld1.2.1 hbb, cell_below hHeld1.2.2.1 hbb, cell_below hHeld1.2.2.2 hbb⟩
        clear hK K
        first | (clear n0 nz0 n1 nz1 n2 nz2 n3 nz3 n4 nz4 n5 nz5 nl) | skip
        have HB := Lib.hid (HB.out.trans (hbb.mono HB.out.size))
        first | (have HN3 := Lib.hid (HN3.out.kept hbb)) | skip
        first | (have HN5 := Lib.hid (HN5.out.kept hbb)) | skip
        first | (have HN7 := Lib.hid (HN7.out.kept hbb)) | skip
        clear hbb hHeld1
        first | (have n0 := HN7.out.cell 0 rfl; have nz0 := HN7.out.fz 0; have n1 := HN7.out.cell 1 rfl; have nz1 := HN7.out.fz 1; have n2 := HN7.out.cell 2 rfl; have nz2 := HN7.out.fz 2; have n3 := HN7.out.cell 3 rfl; have nz3 := HN7.out.fz 3; have n4 := HN7.out.cell 4 rfl; have nz4 := HN7.out.fz 4; have n5 := HN7.out.cell 5 rfl; have nz5 := HN7.out.fz 5; have nl := HN7.out.lt) | skip
        try simp only [Act.put, List.setIfInBounds_toArray, List.set_cons_zero, List.set_cons_succ]
        refine wpAnyH_ready (rs := [3]) (by kernel_rfl) (by simp) ?_
        refine AllReadyH.cons (by first | (simp only [List.getElem?_toArray, List.getElem?_cons_succ, List.getElem?_cons_zero] <;> rfl) | rfl) (fun K hK => ?_) ?_
        · go_simp
          refine hK.out _ _ ?_ (fun hHeld3 => ?_)
          · exact ⟨cell_below hHeld2.1 (oneb _ _), cell_below hHeld2.2.1 (oneb _ _), cell_below hHeld2.2.2.1 (oneb _ _), cell_below hHeld2.2.2.2 (oneb _ _)⟩
          clear hK K
          first | (clear n0 nz0 n1 nz1 n2 nz2 n3 nz3 n4 nz4 n5 nz5 nl) | skip
          have hbb := oneb vh2 (.cells #[.int .i64 1, .int .u8 7, .int .u64 2, .int .u64 2] 67)
          have hN := Bk.new vh2 67 #[.int .i64 1, .int .u8 7, .int .u64 2, .int .u64 2] (l := [.int .i64 1, .int .u8 7, .int .u64 2, .int .u64 2]) rfl
          have hge := HB.out.size
          generalize World.alloc vh2 _ = vh3 at hbb hN hHeld3 ⊢
          have HB := Lib.hid (HB.out.trans (hbb.mono HB.out.size))
          first | (have HN5 := Lib.hid (HN5.out.kept hbb)) | skip
          first | (have HN7 := Lib.hid (HN7.out.kept hbb)) | skip
          generalize vh2.heap.size = g3 at hN hge ⊢
          have HN3 := Lib.hid hN
          have HG3 := Lib.hid hge
          clear hbb hN hge hHeld2
          first | (have n0 := HN7.out.cell 0 rfl; have nz0 := HN7.out.fz 0; have n1 := HN7.out.cell 1 rfl; have nz1 := HN7.out.fz 1; have n2 := HN7.out.cell 2 rfl; have nz2 := HN7.out.fz 2; have n3 := HN7.out.cell 3 rfl; have nz3 := HN7.out.fz 3; have n4 := HN7.out.cell 4 rfl; have nz4 := HN7.out.fz 4; have n5 := HN7.out.cell 5 rfl; have nz5 := HN7.out.fz 5; have nl := HN7.out.lt) | skip
          try simp only [Act.put, List.setIfInBounds_toArray, List.set_cons_zero, List.set_cons_succ]
          refine wpAnyH_take (i := 4) (v := ?_) (by first | (simp only [List.getElem?_toArray, List.getElem?_cons_succ, List.getElem?_cons_zero] <;> rfl) | rfl) (by kernel_rfl) (by kernel_rfl) (by kernel_rfl) (by exact fun _ _ _ h => h) (Or.inl ⟨by rfl, ?_⟩) hHeld3 ?_
          rotate_left 1
          · intro w hSw
            try dsimp only at hSw
            (go_simp) <;> (with_reducible rfl)
          try simp only [Act.put, List.setIfInBounds_toArray, List.set_cons_zero, List.set_cons_succ]
          refine wpAnyH_ready (rs := [5]) (by kernel_rfl) (by simp) ?_
          refine AllReadyH.cons (by first | (simp only [List.getElem?_toArray, List.getElem?_cons_succ, List.getElem?_cons_zero] <;> rfl) | rfl) (fun K hK => ?_) ?_
          · go_simp
            refine hK.out _ _ ?_ (fun hHeld4 => ?_)
            · exact ⟨cell_below hHeld3.1 (oneb _ _), cell_below hHeld3.2.1 (oneb _ _), cell_below hHeld3.2.2.1 (oneb _ _), cell_below hHeld3.2.2.2 (oneb _ _)⟩
            clear hK K
            first | (clear n0 nz0 n1 nz1 n2 nz2 n3 nz3 n4 nz4 n5 nz5 nl) | skip
            have hbb := oneb vh3 (.cells #[.int .u32 2, .int .u32 2147418112, .slice none 0 0, .int .u32 2, .int .u32 327693, .slice (some ⟨g3, 0, none⟩) 1 1] 64)
            have hN := Bk.new vh3 64 #[.int .u32 2, .int .u32 2147418112, .slice none 0 0, .int .u32 2, .int .u32 327693, .slice (some ⟨g3, 0, none⟩) 1 1] (l := [.int .u32 2, .int .u32 2147418112, .slice none 0 0, .int .u32 2, .int .u32 327693, .slice (some ⟨g3, 0, none⟩) 1 1]) rfl
            have hge := HB.out.size
            generalize World.alloc vh3 _ = vh4 at hbb hN hHeld4 ⊢
            have HB := Lib.hid (HB.out.trans (hbb.mono HB.out.size))
            first | (have HN3 := Lib.hid (HN3.out.kept hbb)) | skip
            first | (have HN7 := Lib.hid (HN7.out.kept hbb)) | skip
            generalize vh3.heap.size = g5 at hN hge ⊢
            have HN5 := Lib.hid hN
            have HG5 := Lib.hid hge
            clear hbb hN hge hHeld3
            first | (have n0 := HN7.out.cell 0 rfl; have nz0 := HN7.out.fz 0; have n1 := HN7.out.cell 1 rfl; have nz1 := HN7.out.fz 1; have n2 := HN7.out.cell 2 rfl; have nz2 := HN7.out.fz 2; have n3 := HN7.out.cell 3 rfl; have nz3 := HN7.out.fz 3; have n4 := HN7.out.cell 4 rfl; have nz4 := HN7.out.fz 4; have n5 := HN7.out.cell 5 rfl; have nz5 := HN7.out.fz 5; have nl := HN7.out.lt) | skip
            try simp only [Act.put, List.setIfInBounds_toArray, List.set_cons_zero, List.set_cons_succ]
            refine wpAnyH_take (i := 6) (v := ?_) (by first | (simp only [List.getElem?_toArray, List.getElem?_cons_succ, List.getElem?_cons_zero] <;> rfl) | rfl) (by kernel_rfl) (by kernel_rfl) (by kernel_rfl) (by exact fun _ _ _ h => h) (Or.inl ⟨by rfl, ?_⟩) hHeld4 ?_
            rotate_left 1
            · intro w hSw
              try dsimp only at hSw
              (go_simp) <;> (with_reducible rfl)
            try simp only [Act.put, List.setIfInBounds_toArray, List.set_cons_zero, List.set_cons_succ]
            refine wpAnyH_ready (rs := [8]) (by kernel_rfl) (by simp) ?_
            refine AllReadyH.cons (by first | (simp only [List.getElem?_toArray, List.getElem?_cons_succ, List.getElem?_cons_zero] <;> rfl) | rfl) (fun K hK => ?_) ?_
            · go_simp
              refine hK.out _ _ ?_ (fun hHeld5 => ?_)
              · exact ⟨cell_g6 hHeld4.1 (by have := HG7.out; omega), cell_g6 hHeld4.2.1 (by have := HG7.out; omega), cell_g6 hHeld4.2.2.1 (by have := HG7.out; omega), cell_g6 hHeld4.2.2.2 (by have := HG7.out; omega)⟩
              clear hK K
              try simp only [Act.put, List.setIfInBounds_toArray, List.set_cons_zero, List.set_cons_succ]
              refine wpAnyH_done (by kernel_rfl) ?_ _
              clear n0 nz0 n1 nz1 n2 nz2 n3 nz3 n4 nz4 n5 nz5 nl
              go_wp2_with fail
              go_meet
              case rel =>
                exact aw_end HN7.out HN5.out HN3.out (HN7.out.tyb.ne HN5.out.tyb (by decide)) (HN7.out.tyb.ne HN3.out.tyb (by decide)) HG7.out HB.out
            exact AllReadyH.nil
          exact AllReadyH.nil
        exact AllReadyH.nil
      refine AllReadyH.cons (by first | (simp only [List.getElem?_toArray, List.getElem?_cons_succ, List.getElem?_cons_zero] <;> rfl) | rfl) (fun K hK => ?_) ?_
      · go_simp
        refine hK.out _ _ ?_ (fun hHeld2 => ?_)
        · exact ⟨cell_below hHeld1.1 (oneb _ _), cell_below hHeld1.2.1 (oneb _ _), cell_below hHeld1.2.2.1 (oneb _ _), cell_below hHeld1.2.2.2 (oneb _ _)⟩
        clear hK K
        first | (clear n0 nz0 n1 nz1 n2 nz2 n3 nz3 n4 nz4 n5 nz5 nl) | skip
        have hbb := oneb vh1 (.cells #[.int .i64 1, .int .u8 7, .int .u64 2, .int .u64 2] 67)
        have hN := Bk.new vh1 67 #[.int .i64 1, .int .u8 7, .int .u64 2, .int .u64 2] (l := [.int .i64 1, .int .u8 7, .int .u64 2, .int .u64 2]) rfl
        have hge := HB.out.size
        generalize World.alloc vh1 _ = vh2 at hbb hN hHeld2 ⊢
        have HB := Lib.hid (HB.out.trans (hbb.mono HB.out.size))
        first | (have HN5 := Lib.hid (HN5.out.kept hbb)) | skip
        first | (have HN7 := Lib.hid (HN7.out.kept hbb)) | skip
        generalize vh1.heap.size = g3 at hN hge ⊢
        have HN3 := Lib.hid hN
        have HG3 := Lib.hid hge
        clear hbb hN hge hHeld1
        first | (have n0 := HN7.out.cell 0 rfl; have nz0 := HN7.out.fz 0; have n1 := HN7.out.cell 1 rfl; have nz1 := HN7.out.fz 1; have n2 := HN7.out.cell 2 rfl; have nz2 := HN7.out.fz 2; have n3 := HN7.out.cell 3 rfl; have nz3 := HN7.out.fz 3; have n4 := HN7.out.cell 4 rfl; have nz4 := HN7.out.fz 4; have n5 := HN7.out.cell 5 rfl; have nz5 := HN7.out.fz 5; have nl := HN7.out.lt) | skip
        try simp only [Act.put, List.setIfInBounds_toArray, List.set_cons_zero, List.set_cons_succ]
        refine wpAnyH_ready (rs := [1]) (by kernel_rfl) (by simp) ?_
        refine AllReadyH.cons (by first | (simp only [List.getElem?_toArray, List.getElem?_cons_succ, List.getElem?_cons_zero] <;> rfl) | rfl) (fun K hK => ?_) ?_
        · go_simp
          refine (fail13 _).mono ?_
          rintro e vh3 ⟨rfl, hbb⟩
          refine hK.out _ _ ?_ (fun hHeld3 => ?_)
          · exact ⟨cell_below hHeld2.1 hbb, cell_below hHeld2.2.1 hbb, cell_below hHeld2.2.2.1 hbb, cell_below hHeld2.2.2.2 hbb⟩
          clear hK K
          first | (clear n0 nz0 n1 nz1 n2 nz2 n3 nz3 n4 nz4 n5 nz5 nl) | skip
          have HB := Lib.hid (HB.out.trans (hbb.mono HB.out.size))
          first | (have HN3 := Lib.hid (HN3.out.kept hbb)) | skip
          first | (have HN5 := Lib.hid (HN5.out.kept hbb)) | skip
          first | (have HN7 := Lib.hid (HN7.out.kept hbb)) | skip
          clear hbb hHeld2
          first | (have n0 := HN7.out.cell 0 rfl; have nz0 := HN7.out.fz 0; have n1 := HN7.out.cell 1 rfl; have nz1 := HN7.out.fz 1; have n2 := HN7.out.cell 2 rfl; have nz2 := HN7.out.fz 2; have n3 := HN7.out.cell 3 rfl; have nz3 := HN7.out.fz 3; have n4 := HN7.out.cell 4 rfl; have nz4 := HN7.out.fz 4; have n5 := HN7.out.cell 5 rfl; have nz5 := HN7.out.fz 5; have nl := HN7.out.lt) | skip
          try simp only [Act.put, List.setIfInBounds_toArray, List.set_cons_zero, List.set_cons_succ]
          refine wpAnyH_take (i := 4) (v := ?_) (by first | (simp only [List.getElem?_toArray, List.getElem?_cons_succ, List.getElem?_cons_zero] <;> rfl) | rfl) (by kernel_rfl) (by kernel_rfl) (by kernel_rfl) (by exact fun _ _ _ h => h) (Or.inl ⟨by rfl, ?_⟩) hHeld3 ?_
          rotate_left 1
          · intro w hSw
            try dsimp only at hSw
            (go_simp) <;> (with_reducible rfl)
          try simp only [Act.put, List.setIfInBounds_toArray, List.set_cons_zero, List.set_cons_succ]
          refine wpAnyH_ready (rs := [5]) (by kernel_rfl) (by simp) ?_
          refine AllReadyH.cons (by first | (simp only [List.getElem?_toArray, List.getElem?_cons_succ, List.getElem?_cons_zero] <;> rfl) | rfl) (fun K hK => ?_) ?_
          · go_simp
            refine hK.out _ _ ?_ (fun hHeld4 => ?_)
            · exact ⟨cell_below hHeld3.1 (oneb _ _), cell_below hHeld3.2.1 (oneb _ _), cell_below hHeld3.2.2.1 (oneb _ _), cell_below hHeld3.2.2.2 (oneb _ _)⟩
            clear hK K
            first | (clear n0 nz0 n1 nz1 n2 nz2 n3 nz3 n4 nz4 n5 nz5 nl) | skip
            have hbb := oneb vh3 (.cells #[.int .u32 2, .int .u32 2147418112, .slice none 0 0, .int .u32 2, .int .u32 327693, .slice (some ⟨g3, 0, none⟩) 1 1] 64)
            have hN := Bk.new vh3 64 #[.int .u32 2, .int .u32 2147418112, .slice none 0 0, .int .u32 2, .int .u32 327693, .slice (some ⟨g3, 0, none⟩) 1 1] (l := [.int .u32 2, .int .u32 2147418112, .slice none 0 0, .int .u32 2, .int .u32 327693, .slice (some ⟨g3, 0, none⟩) 1 1]) rfl
            have hge := HB.out.size
            generalize World.alloc vh3 _ = vh4 at hbb hN hHeld4 ⊢
            have HB := Lib.hid (HB.out.trans (hbb.mono HB.out.size))
            first | (have HN3 := Lib.hid (HN3.out.kept hbb)) | skip
            first | (have HN7 := Lib.hid (HN7.out.kept hbb)) | skip
            generalize vh3.heap.size = g5 at hN hge ⊢
            have HN5 := Lib.hid hN
            have HG5 := Lib.hid hge
            clear hbb hN hge hHeld3
            first | (have n0 := HN7.out.cell 0 rfl; have nz0 := HN7.out.fz 0; have n1 := HN7.out.cell 1 rfl; have nz1 := HN7.out.fz 1; have n2 := HN7.out.cell 2 rfl; have nz2 := HN7.out.fz 2; have n3 := HN7.out.cell 3 rfl; have nz3 := HN7.out.fz 3; have n4 := HN7.out.cell 4 rfl; have nz4 := HN7.out.fz 4; have n5 := HN7.out.cell 5 rfl; have nz5 := HN7.out.fz 5; have nl := HN7.out.lt) | skip
            try simp only [Act.put, List.setIfInBounds_toArray, List.set_cons_zero, List.set_cons_succ]
            refine wpAnyH_take (i := 6) (v := ?_) (by first | (simp only [List.getElem?_toArray, List.getElem?_cons_succ, List.getElem?_cons_zero] <;> rfl) | rfl) (by kernel_rfl) (by kernel_rfl) (by kernel_rfl) (by exact fun _ _ _ h => h) (Or.inl ⟨by rfl, ?_⟩) hHeld4 ?_
            rotate_left 1
            · intro w hSw
              try dsimp only at hSw
              (go_simp) <;> (with_reducible rfl)
            try simp only [Act.put, List.setIfInBounds_toArray, List.set_cons_zero, List.set_cons_succ]
            refine wpAnyH_ready (rs := [8]) (by kernel_rfl) (by simp) ?_
            refine AllReadyH.cons (by first | (simp only [List.getElem?_toArray, List.getElem?_cons_succ, List.getElem?_cons_zero] <;> rfl) | rfl) (fun K hK => ?_) ?_
            · go_simp
              refine hK.out _ _ ?_ (fun hHeld5 => ?_)
              · exact ⟨cell_g6 hHeld4.1 (by have := HG7.out; omega), cell_g6 hHeld4.2.1 (by have := HG7.out; omega), cell_g6 hHeld4.2.2.1 (by have := HG7.out; omega), cell_g6 hHeld4.2.2.2 (by have := HG7.out; omega)⟩
              clear hK K
              try simp only [Act.put, List.setIfInBounds_toArray, List.set_cons_zero, List.set_cons_succ]
              refine wpAnyH_done (by kernel_rfl) ?_ _
              clear n0 nz0 n1 nz1 n2 nz2 n3 nz3 n4 nz4 n5 nz5 nl
              go_wp2_with fail
              go_meet
              case rel =>
                exact aw_end HN7.out HN5.out HN3.out (HN7.out.tyb.ne HN5.out.tyb (by decide)) (HN7.out.tyb.ne HN3.out.tyb (by decide)) HG7.out HB.out
            exact AllReadyH.nil
          exact AllReadyH.nil
        exact AllReadyH.nil
      exact AllReadyH.nil
    exact AllReadyH.nil
  case rest =>
    obtain ⟨pb, g5, g3, rfl, HP, H5, H3, HB1⟩ := hcut
    rename World => w4
    clear c0 c1 c2 c3 hd
    have p0 := HP.out.cell 0 rfl
    have p1 := HP.out.cell 1 rfl
    have p2 := HP.out.cell 2 rfl
    have p3 := HP.out.cell 3 rfl
    have p4 := HP.out.cell 4 rfl
    have p5 := HP.out.cell 5 rfl
    have pl := HP.out.lt
    have HS := Lib.hid (says_any ⟨#[]⟩ 2147483648 (awRules g3) (some ⟨g5, 0, none⟩) 2 2 0 none 0 0 none 0 0 awRec w4 rfl (by omega) (aw_rrd H5.out H3.out) awRec_ok)
    rw [aw_says] at HS
    go_wp2_with fail
    refine HS.out.mono ?_
    clear HS p0 p1 p2 p3 p4 p5
    rintro e w5 ⟨rfl, hb5⟩
    have HB5 := Lib.hid ((HB0.out.trans (HB1.out.mono HB0.out.size)).trans (hb5.mono (Nat.le_trans HB0.out.size HB1.out.size)))
    go_wp2_with fail
    go_ret
    exact ⟨rfl, HB5.out⟩
end Go.Proofs.Ytagbamengcnfeaa.Me

