/- The line that tells an instruction whole. -/
import Derived.Test.YthiohihbcfahhaaDoorTells
import Derived.Test.YthiohihbcfahhaaDoorEqI
import Derived.Deep.RegionHeld3
import Derived.Deep.QuietTactic
import Derived.BigQuiet
import Derived.BigRegion
namespace Go.Proofs.YthiohihbcfahhaaDoor
open Go.RowKit
theorem step2 {X : Prop} {wx wA wB : World} (hb : Below wA.heap.size wA wB) (h : X ∧ Hid (Below wx.heap.size wx wA)) : Below wx.heap.size wx wB := h.2.out.trans (hb.mono h.2.out.size)
theorem step1 {X : Prop} {wx wA : World} (h : X ∧ Hid (Below wx.heap.size wx wA)) : Below wx.heap.size wx wA := h.2.out
def NoHitI (i : Ins) (k : Nat) : Prop := ∀ j, j < k → hits i (lnAt j) = false
theorem noHitI_step {i : Ins} {k : Nat} (h : NoHitI i k) (h2 : hits i (lnAt k) = false) : NoHitI i (k + 1) := fun j hj => by
  rcases (by omega : j < k ∨ j = k) with hj | rfl
  · exact h j hj
  · exact h2
theorem lineOf_hit {i : Ins} {k : Nat} (hk : k < 41) (hn : NoHitI i k) (h : hits i (lnAt k) = true) : lineOf i = lnAt k := by
  unfold lineOf
  rw [find_at tab k _ (lnAt_get k hk) h (fun j y hj hy => by rw [lnAt_of hy]; exact hn j hj)]; rfl
theorem lineOf_miss {i : Ins} (hn : NoHitI i 41) : lineOf i = rawL := by
  unfold lineOf
  rw [find_none tab (fun j y hy => by
    have : j < 41 := by
      have := (List.getElem?_eq_some_iff.1 hy).1
      rw [tab_len] at this; exact this
    rw [lnAt_of hy]; exact hn j this)]; rfl
theorem lineOf_ok (i : Ins) : (lineOf i).c < 65536 ∧ (lineOf i).s < 5 ∧ (lineOf i).w.length < 100 := by
  unfold lineOf
  cases h : tab.find? (hits i) with
  | none => decide
  | some l => have := tab_ok l (List.mem_of_find?_eq_some h); exact ⟨this.1, this.2.1, this.2.2.1⟩
structure LoR (w : World) (i : Ins) (wr : World) : Prop where
  ins : Bk wr w.heap.size 38 i.cells
  ans : Bk wr (w.heap.size + 1) 81 noL.cells
  bel : Below w.heap.size w wr
theorem LoR.kept {w wr w' : World} {i : Ins} (h : LoR w i wr) (hb : Below wr.heap.size wr w') : LoR w i w' := ⟨h.ins.kept hb, h.ans.kept hb, h.bel.trans (hb.mono h.bel.size)⟩
def LineOfPost (i : Ins) (w : World) (e : Ending) (w' : World) : Prop := e = .returned (.agg #[.string ⟨(lineOf i).w.toArray⟩, .int .u16 (lineOf i).c, .int .u8 (lineOf i).s]) ∧ Below w.heap.size w w'
theorem lineOf_ret {i : Ins} {l : Ln} {w W : World} {tmps : Array Value} (hp : tmps.getD 2 undef = .pointer (some ⟨w.heap.size + 1, 0, none⟩)) (hA : LoR w i W) (h : lineOf i = l) :
    bodyPost Tryd.prog Tryd.f39 (LineOfPost i w) .ret { tmps, defers := [] } (((W.setCell ⟨w.heap.size + 1, 0, none⟩ (.string ⟨l.w.toArray⟩)).setCell ⟨w.heap.size + 1, 1, none⟩ (.int .u16 l.c)).setCell ⟨w.heap.size + 1, 2, none⟩ (.int .u8 l.s)) := by
  have hR := ((hA.ans.set 0 (.string ⟨l.w.toArray⟩)).set 1 (.int .u16 l.c)).set 2 (.int .u8 l.s)
  have hB := ((hA.bel.setCell (p := ⟨w.heap.size + 1, 0, none⟩) (by simp) (.string ⟨l.w.toArray⟩)).setCell (p := ⟨w.heap.size + 1, 1, none⟩) (by simp) (.int .u16 l.c)).setCell (p := ⟨w.heap.size + 1, 2, none⟩) (by simp) (.int .u8 l.s)
  exact bodyPost_ret (v := .agg #[.string ⟨l.w.toArray⟩, .int .u16 l.c, .int .u8 l.s]) (results_cell_row Tryd.results39 tmps _ _ _ _ (0, 0) _ hp hR Tryd.underlying81 rfl sizeLn) rfl ⟨by rw [h], hB⟩
set_option maxRecDepth 100000 in
set_option maxHeartbeats 2000000 in
theorem lineOf_any (i : Ins) (w : World) (hT : TabAt w) (hi : i.ok) : Calls Tryd.prog 39 #[.agg #[.int .u16 i.c, .int .u8 i.t, .int .u8 i.f, .int .u32 i.k]] w (LineOfPost i w) := by
  have HT := Lib.hid hT
  have Hi := Lib.hid hi
  clear hT hi
  have hL0 : LoR w i ((w.alloc (.cells #[.int .u16 i.c, .int .u8 i.t, .int .u8 i.f, .int .u32 i.k] 38)).alloc (.cells #[.string ⟨#[]⟩, .int .u16 0, .int .u8 0] 81)) :=
    ⟨(bk_new_at _ _ _ rfl rfl).alloc _, bk_new_at _ _ _ rfl (by simp), two_below w _ _⟩
  have HL0 := Lib.hid hL0
  clear hL0
  go_enter Tryd.func39, Tryd.ntmps39
  go_wp2_with (refine wpList_load_tab rfl _ rfl rfl (HT.out.below (two_below w _ _)) ?_)
  go_loopw [6] (fun c wr => ∃ k : Nat, k ≤ 41 ∧ c = .int .i64 k ∧ Hid (NoHitI i k) ∧ Hid (LoR w i wr)) (fun c _ => 41 - (intOf c).toNat)
  case atStart => exact ⟨0, by omega, rfl, fun j hj => absurd hj (by omega), HL0.out⟩
  case round =>
    obtain ⟨k, hk, rfl, Hn, HL⟩ := hrel
    clear HL0
    by_cases hlt : k < 41
    · have hix := fun w => tab_index w k hlt
      have hlo := lnAt_ok k hlt
      have HLl := Lib.hid (HL.out.kept ((Below.refl _ _).alloc (Nat.le_refl _) (.cells #[.string ⟨(lnAt k).w.toArray⟩, .int .u16 (lnAt k).c, .int .u8 (lnAt k).s] 81)))
      have HB := Lib.hid (bk_new_at (l := (lnAt k).cells) wr 81 #[.string ⟨(lnAt k).w.toArray⟩, .int .u16 (lnAt k).c, .int .u8 (lnAt k).s] rfl rfl)
      by_cases heq : (lnAt k).c = i.c
      · have hg : (((lnAt k).c : Int) == (i.c : Int)) = true := by rw [heq]; simp
        have Heq := Lib.hid heq
        have Hlo := Lib.hid hlo
        clear heq hlo
        go_wp2_with fail
        revert HLl HB
        generalize wr.alloc (.cells #[.string ⟨(lnAt k).w.toArray⟩, .int .u16 (lnAt k).c, .int .u8 (lnAt k).s] 81) = wx
        intro HLl HB
        clear HL
        have hglt : wr.heap.size < wx.heap.size := HB.out.lt
        generalize wr.heap.size = gl at *
        have hlo := Hlo.out
        have HS : Hid (∀ w', Below wx.heap.size wx w' → (fun w' => ((w'.cell? ⟨gl, 0, none⟩ = some (.string ⟨(lnAt k).w.toArray⟩) ∧ w'.cell? ⟨gl, 1, none⟩ = some (.int .u16 (lnAt k).c) ∧ w'.cell? ⟨gl, 2, none⟩ = some (.int .u8 (lnAt k).s)) ∧ (w'.cell? ⟨w.heap.size, 0, none⟩ = some (.int .u16 i.c) ∧ w'.cell? ⟨w.heap.size, 1, none⟩ = some (.int .u8 i.t) ∧ w'.cell? ⟨w.heap.size, 2, none⟩ = some (.int .u8 i.f) ∧ w'.cell? ⟨w.heap.size, 3, none⟩ = some (.int .u32 i.k))) ∧ Hid (Below wx.heap.size wx w')) w') := Lib.hid (fun w' hb => ⟨⟨⟨(HB.out.kept hb).cell 0 rfl, (HB.out.kept hb).cell 1 rfl, (HB.out.kept hb).cell 2 rfl⟩, ⟨(HLl.out.kept hb).ins.cell 0 rfl, (HLl.out.kept hb).ins.cell 1 rfl, (HLl.out.kept hb).ins.cell 2 rfl, (HLl.out.kept hb).ins.cell 3 rfl⟩⟩, hb⟩)
        obtain ⟨b, hb⟩ : ∃ b, sameI (tells (lnAt k) i) i = b := ⟨_, rfl⟩
        have hE := fun w' => hb ▸ eql_ins (tells (lnAt k) i) i w'
        have Hhit := Lib.hid (show hits i (lnAt k) = b by unfold hits; rw [hb]; simp [Heq.out])
        clear hb
        refine wp_region_held_drew (S := (fun w' => ((w'.cell? ⟨gl, 0, none⟩ = some (.string ⟨(lnAt k).w.toArray⟩) ∧ w'.cell? ⟨gl, 1, none⟩ = some (.int .u16 (lnAt k).c) ∧ w'.cell? ⟨gl, 2, none⟩ = some (.int .u8 (lnAt k).s)) ∧ (w'.cell? ⟨w.heap.size, 0, none⟩ = some (.int .u16 i.c) ∧ w'.cell? ⟨w.heap.size, 1, none⟩ = some (.int .u8 i.t) ∧ w'.cell? ⟨w.heap.size, 2, none⟩ = some (.int .u8 i.f) ∧ w'.cell? ⟨w.heap.size, 3, none⟩ = some (.int .u32 i.k))) ∧ Hid (Below wx.heap.size wx w'))) (by kernel_rfl) ?_ (fun hHeld0 => ?_)
        · exact HS.out _ (Below.refl _ _).drew
        refine wpAnyH_take (i := 0) (v := ?_) (by first | (simp only [List.getElem?_toArray, List.getElem?_cons_zero] <;> rfl) | rfl) (by kernel_rfl) (by kernel_rfl) (by kernel_rfl) (by exact fun _ _ _ h => h) (Or.inl ⟨by rfl, ?_⟩) hHeld0 ?_
        rotate_left 1
        · intro w hSw
          try dsimp only at hSw
          (go_simp) <;> (with_reducible rfl)
        try simp only [Act.put, List.setIfInBounds_toArray, List.set_cons_zero, List.set_cons_succ]
        refine wpAnyH_take (i := 1) (v := ?_) (by first | (simp only [List.getElem?_toArray, List.getElem?_cons_succ, List.getElem?_cons_zero] <;> rfl) | rfl) (by kernel_rfl) (by kernel_rfl) (by kernel_rfl) (by exact fun _ _ _ h => h) (Or.inl ⟨by rfl, ?_⟩) hHeld0 ?_
        rotate_left 1
        · intro w hSw
          try dsimp only at hSw
          (go_simp) <;> (with_reducible rfl)
        try simp only [Act.put, List.setIfInBounds_toArray, List.set_cons_zero, List.set_cons_succ]
        refine wpAnyH_take (i := 2) (v := ?_) (by first | (simp only [List.getElem?_toArray, List.getElem?_cons_succ, List.getElem?_cons_zero] <;> rfl) | rfl) (by kernel_rfl) (by kernel_rfl) (by kernel_rfl) (by exact fun _ _ _ h => h) (Or.inl ⟨by rfl, ?_⟩) hHeld0 ?_
        rotate_left 1
        · intro w hSw
          try dsimp only at hSw
          (go_simp) <;> (with_reducible rfl)
        try simp only [Act.put, List.setIfInBounds_toArray, List.set_cons_zero, List.set_cons_succ]
        refine wpAnyH_take (i := 3) (v := ?_) (by first | (simp only [List.getElem?_toArray, List.getElem?_cons_succ, List.getElem?_cons_zero] <;> rfl) | rfl) (by kernel_rfl) (by kernel_rfl) (by kernel_rfl) (by exact fun _ _ _ h => h) (Or.inl ⟨by rfl, ?_⟩) hHeld0 ?_
        rotate_left 1
        · intro w hSw
          try dsimp only at hSw
          (go_simp) <;> (with_reducible rfl)
        try simp only [Act.put, List.setIfInBounds_toArray, List.set_cons_zero, List.set_cons_succ]
        refine wpAnyH_take (i := 4) (v := ?_) (by first | (simp only [List.getElem?_toArray, List.getElem?_cons_succ, List.getElem?_cons_zero] <;> rfl) | rfl) (by kernel_rfl) (by kernel_rfl) (by kernel_rfl) (by exact fun _ _ _ h => h) (Or.inl ⟨by rfl, ?_⟩) hHeld0 ?_
        rotate_left 1
        · intro w hSw
          try dsimp only at hSw
          (go_simp) <;> (with_reducible rfl)
        try simp only [Act.put, List.setIfInBounds_toArray, List.set_cons_zero, List.set_cons_succ]
        refine wpAnyH_take (i := 5) (v := ?_) (by first | (simp only [List.getElem?_toArray, List.getElem?_cons_succ, List.getElem?_cons_zero] <;> rfl) | rfl) (by kernel_rfl) (by kernel_rfl) (by kernel_rfl) (by exact fun _ _ _ h => h) (Or.inl ⟨by rfl, ?_⟩) hHeld0 ?_
        rotate_left 1
        · intro w hSw
          try dsimp only at hSw
          (go_simp) <;> (with_reducible rfl)
        try simp only [Act.put, List.setIfInBounds_toArray, List.set_cons_zero, List.set_cons_succ]
        refine wpAnyH_take (i := 6) (v := ?_) (by first | (simp only [List.getElem?_toArray, List.getElem?_cons_succ, List.getElem?_cons_zero] <;> rfl) | rfl) (by kernel_rfl) (by kernel_rfl) (by kernel_rfl) (by exact fun _ _ _ h => h) (Or.inl ⟨by rfl, ?_⟩) hHeld0 ?_
        rotate_left 1
        · intro w hSw
          try dsimp only at hSw
          (go_simp) <;> (with_reducible rfl)
        try simp only [Act.put, List.setIfInBounds_toArray, List.set_cons_zero, List.set_cons_succ]
        refine wpAnyH_take (i := 7) (v := ?_) (by first | (simp only [List.getElem?_toArray, List.getElem?_cons_succ, List.getElem?_cons_zero] <;> rfl) | rfl) (by kernel_rfl) (by kernel_rfl) (by kernel_rfl) (by exact fun _ _ _ h => h) (Or.inl ⟨by rfl, ?_⟩) hHeld0 ?_
        rotate_left 1
        · intro w hSw
          try dsimp only at hSw
          (go_simp) <;> (with_reducible rfl)
        try simp only [Act.put, List.setIfInBounds_toArray, List.set_cons_zero, List.set_cons_succ]
        refine wpAnyH_take (i := 9) (v := ?_) (by first | (simp only [List.getElem?_toArray, List.getElem?_cons_succ, List.getElem?_cons_zero] <;> rfl) | rfl) (by kernel_rfl) (by kernel_rfl) (by kernel_rfl) (by exact fun _ _ _ h => h) (Or.inl ⟨by rfl, ?_⟩) hHeld0 ?_
        rotate_left 1
        · intro w hSw
          try dsimp only at hSw
          (go_simp) <;> (with_reducible rfl)
        try simp only [Act.put, List.setIfInBounds_toArray, List.set_cons_zero, List.set_cons_succ]
        refine wpAnyH_ready (rs := [8]) (by kernel_rfl) (by simp) ?_
        refine AllReadyH.cons (by first | (simp only [List.getElem?_toArray, List.getElem?_cons_succ, List.getElem?_cons_zero] <;> rfl) | rfl) (fun K hK => ?_) AllReadyH.nil
        go_simp
        refine (tells_any (lnAt k) i _ hlo.1 hlo.2.1 Hi.out).mono ?_; rintro e wa ⟨rfl, hba⟩
        go_wp2_with fail
        refine hK.out _ _ ?_ (fun hHeld1 => ?_)
        · (try dsimp only)
          exact HS.out _ (step2 hba hHeld0)
        clear hK K hHeld0
        try simp only [Act.put, List.setIfInBounds_toArray, List.set_cons_zero, List.set_cons_succ]
        refine wpAnyH_take (i := 10) (v := ?_) (by first | (simp only [List.getElem?_toArray, List.getElem?_cons_succ, List.getElem?_cons_zero] <;> rfl) | rfl) (by kernel_rfl) (by kernel_rfl) (by kernel_rfl) (by exact fun _ _ _ h => h) (Or.inl ⟨by rfl, ?_⟩) hHeld1 ?_
        rotate_left 1
        · intro w hSw
          try dsimp only at hSw
          (go_simp) <;> (with_reducible rfl)
        try simp only [Act.put, List.setIfInBounds_toArray, List.set_cons_zero, List.set_cons_succ]
        refine wpAnyH_take (i := 11) (v := ?_) (by first | (simp only [List.getElem?_toArray, List.getElem?_cons_succ, List.getElem?_cons_zero] <;> rfl) | rfl) (by kernel_rfl) (by kernel_rfl) (by kernel_rfl) (by exact fun _ _ _ h => h) (Or.inl ⟨by rfl, ?_⟩) hHeld1 ?_
        rotate_left 1
        · intro w hSw
          try dsimp only at hSw
          (go_simp) <;> (with_reducible rfl)
        try simp only [Act.put, List.setIfInBounds_toArray, List.set_cons_zero, List.set_cons_succ]
        refine wpAnyH_done (by kernel_rfl) ?_ _
        have HLn := Lib.hid (HLl.out.kept (step1 hHeld1))
        obtain ⟨⟨⟨l0, l1, l2⟩, _⟩, _⟩ := hHeld1
        clear HS HB hE
        cases b with
        | true =>
          have d0 := HLn.out.ans.cell 0 rfl
          have d1 := HLn.out.ans.cell 1 rfl
          have d2 := HLn.out.ans.cell 2 rfl
          have f0 := HLn.out.ans.fz 0
          have f1 := HLn.out.ans.fz 1
          have f2 := HLn.out.ans.fz 2
          go_wp2_with fail
          exact lineOf_ret (l := lnAt k) rfl HLn.out (lineOf_hit hlt Hn.out Hhit.out)
        | false =>
          go_wp2_with fail
          go_roundw
          case rel => exact ⟨k + 1, by omega, by go_num, noHitI_step Hn.out Hhit.out, HLn.out⟩
          case measure => simp [intOf]; omega
      · have hg : (((lnAt k).c : Int) == (i.c : Int)) = false := by simp; omega
        have Hh := Lib.hid (noHitI_step Hn.out (show hits i (lnAt k) = false by unfold hits; simp [heq]))
        clear heq
        have d0 := HLl.out.ins.cell 0 rfl
        have e1 := HB.out.cell 1 rfl
        go_wp2_with fail
        go_quiet (fail)
        go_wp2_with fail
        go_roundw
        case rel => exact ⟨k + 1, by omega, by go_num, Hh.out, HLl.out.kept (below_drewN (Below.refl _ _) _)⟩
        case measure => simp [intOf]; omega
    · obtain rfl : k = 41 := by omega
      have r0 := (HT.out.below HL.out.bel).raw 0 _ rfl
      have r1 := (HT.out.below HL.out.bel).raw 1 _ rfl
      have r2 := (HT.out.below HL.out.bel).raw 2 _ rfl
      have d0 := HL.out.ans.cell 0 rfl
      have d1 := HL.out.ans.cell 1 rfl
      have d2 := HL.out.ans.cell 2 rfl
      have f0 := HL.out.ans.fz 0
      have f1 := HL.out.ans.fz 1
      have f2 := HL.out.ans.fz 2
      go_wp2_with fail
      exact lineOf_ret (l := rawL) rfl HL.out (lineOf_miss Hn.out)
end Go.Proofs.YthiohihbcfahhaaDoor
