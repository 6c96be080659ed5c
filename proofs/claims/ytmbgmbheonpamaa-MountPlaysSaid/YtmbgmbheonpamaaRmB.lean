/- The document's Bind; a place as the document has it; New. -/
import Derived.Test.YtmbgmbheonpamaaRmH
import Derived.Test.YtmbgmbheonpamaaMtG
namespace Go.Proofs.Ytmbgmbheonpamaa.Mt
open Go.RowKit Go.Maps Go.WideElems In
theorem infoRm : (Try.prog.info? 94).map (fun i => (i.zero, i.size, i.bytes)) = some (some (.agg #[.int .i64 0, .int .i64 0, .int .i64 0, .int .i64 0, .int .i64 0]), 5, 40) := by kernel_rfl
theorem rm_one (m : MtM) : ∀ u ∈ rmC m, u.oneCell' = true := fun u hu => by
  simp only [rmC, List.mem_cons, List.not_mem_nil, or_false] at hu
  rcases hu with rfl | rfl | rfl | rfl | rfl <;> rfl
theorem ref_any (p : Pl) (hp : 0 ≤ p.2 ∧ p.2 ≤ 65535) (w : World) : Calls Try.prog 27 #[plV p] w (RPlP p w) := by
  obtain ⟨x, y⟩ := p
  unfold plV
  obtain ⟨h0, h1⟩ := hp
  dsimp only at h0 h1 ⊢
  go_enter Try.func27, Try.ntmps27
  go_wp2_with fail
  exact bodyPost_ret (v := rpV (x, y)) (by simp [results, Try.results27, go_sem, rpV]) rfl ⟨rfl, twob _ _ _⟩
section
variable {w w' : World} {B tb A c : Nat} {nv lv cv : Value} {M : Ms} {last : Int}
theorem RmR.setLast (h : RmR w B tb nv lv cv M last A c) (hl : last + 1 ≤ 1000000000) : RmR (w.setCell ⟨tb, 3, none⟩ (.int .i64 (last + 1 + 1))) B tb nv lv cv M (last + 1) A c := by
  have hg := only_set w tb 3 (.int .i64 (last + 1 + 1))
  have hne : A ≠ tb := h.tyA.ne (bk_tyb h.tab) (by decide)
  have h1 := h.last
  refine ⟨h.tab.set 3 _, own_keep h.row hg (fun b hb e => by cases hb; exact hne e), h.hB, h.sm, ⟨h.fit.ids, h.fit.ahead, fun m hm => by have := h.fit.pos m hm; omega, h.fit.one, h.fit.there, h.fit.first, h.fit.len, h.fit.held⟩, by omega⟩
theorem RmR.run (h : RmR w B tb nv lv cv M last A c) (q : MtM) (hs : Sm q) (hf : Fit (M ++ [q]) last) {g : Nat} (hB : Bk w g 94 (rmC q)) (ty : TypeId) :
    ∃ A' c' wb, (Builtin.append_ #[54, 54] ty #[.slice (some ⟨A, 0, none⟩) M.length c, .slice (some ⟨g, 0, none⟩) 1 1]).run Try.prog w = .ok (.slice (some ⟨A', 0, none⟩) (M.length + 1) c') wb ∧
      RmR (wb.setCell ⟨tb, 2, none⟩ (.slice (some ⟨A', 0, none⟩) (M.length + 1) c')) B tb nv lv cv (M ++ [q]) last A' c' ∧ Bk wb tb 56 [nv, lv, .slice (some ⟨A, 0, none⟩) M.length c, .int .i64 (last + 1), cv] ∧ w.grownBy wb (some A) ∧ FrN B w (wb.setCell ⟨tb, 2, none⟩ (.slice (some ⟨A', 0, none⟩) (M.length + 1) c')) := by
  obtain ⟨i0, hi, hz0, hz1, hz2⟩ := info_parts infoRm
  have hlen := hf.len
  have hlen2 : (M ++ [q]).length = M.length + 1 := by simp
  obtain ⟨v', wb, hr, ho, hg, hnn, hat⟩ := run_append_own_at (P := Try.prog) w B 54 ty 94 i0 _ 5 40 Try.underlying54 hi hz0 hz1 hz2 rfl (by decide) (.slice (some ⟨A, 0, none⟩) M.length c) M.length _ h.row ⟨g, 0, none⟩ 1 1 (rmC q) rfl (fun j u hu => by rw [addr_at, Nat.zero_add]; exact hB.cell j hu) (rm_one q) (by unfold maxLen; omega) (by omega) (Nat.le_of_lt h.lt)
  obtain ⟨Av, c', rfl, hc', hrd, hty, hcn⟩ := own_typed ho
  have hg : w.grownBy wb (some A) := hg
  cases Av with
  | none => obtain rfl := hcn rfl; omega
  | some a =>
    have hav : ∃ A', a = ⟨A', 0, none⟩ := by
      rcases ho.2 with ⟨e, _⟩ | ⟨b, cap, cur, e, _⟩
      · cases e
      · cases e; exact ⟨b, rfl⟩
    obtain ⟨A', rfl⟩ := hav
    have htb : Bk wb tb 56 [nv, lv, .slice (some ⟨A, 0, none⟩) M.length c, .int .i64 (last + 1), cv] := h.tab.grown hg (fun e => (bk_tyb h.tab).ne h.tyA (by decide) (Option.some.inj e))
    have hs2 := only_set wb tb 2 (.slice (some ⟨A', 0, none⟩) (M.length + 1) c')
    refine ⟨A', c', wb, hr, ⟨?_, ?_, h.hB, fun m hm => ?_, hf, h.last⟩, htb, hg, ?_⟩
    · rw [hlen2]; exact htb.set 2 _
    · rw [hlen2, List.flatMap_append]
      have := own_keep ho hs2 (fun b hb e => by cases hb; exact (hty A' rfl).ne (bk_tyb htb) (by decide) e)
      simpa using this
    · rcases List.mem_append.1 hm with hm | hm
      · exact h.sm m hm
      · simp at hm; subst hm; exact hs
    · exact (Fr.ofGrown hg (.inr ⟨h.hA, h.kinA⟩)).trans (Fr.ofGrown hs2 (.inr ⟨h.hB, .inl ⟨_, by simp [RMT], bk_tyb htb⟩⟩))
def RBindP (B tb : Nat) (nv lv cv : Value) (M : Ms) (last root : Int) (p : Pl) (w : World) (e : Ending) (w' : World) : Prop :=
  e = .returned (.tuple #[.int .i64 (if bindE M p = 0 then last + 1 else 0), .int .i64 (bindE M p)]) ∧ Rmt w' B tb nv lv cv (if bindE M p = 0 then bindF M (last + 1) root p else M) (if bindE M p = 0 then last + 1 else last) ∧ FrN B w w'
theorem rbind_noP {E : Int} {root : Int} {p : Pl} (hE : bindE M p = E) (h0 : E ≠ 0) {e : Ending} (he : e = .returned (.tuple #[.int .i64 0, .int .i64 E])) (h : Rmt w' B tb nv lv cv M last) (hf : FrN B w w') : RBindP B tb nv lv cv M last root p w e w' := by
  unfold RBindP
  rw [hE, if_neg h0, if_neg h0, if_neg h0]
  exact ⟨he, h, hf⟩
set_option maxRecDepth 100000 in
set_option maxHeartbeats 4000000 in
theorem rbind_any (h : RmR w B tb nv lv cv M last A c) (root : Int) (hroot : 0 ≤ root ∧ root ≤ 65535) (p : Pl) (hp : InR p.1 ∧ 0 ≤ p.2 ∧ p.2 ≤ 65535) (hl : last + 1 ≤ 1000000000) : Calls Try.prog 26 #[.pointer (some ⟨tb, 0, none⟩), .int .i64 root, rpV p] w (RBindP B tb nv lv cv M last root p w) := by
  obtain ⟨x, y⟩ := p
  unfold rpV
  dsimp only
  obtain ⟨W0, hW0⟩ : ∃ W0, W0 = w.alloc (.cells #[.int .i64 x, .int .i64 y] 81) := ⟨_, rfl⟩
  have Hb := Lib.hid (show Below w.heap.size w W0 by rw [hW0]; exact oneb _ _)
  have Hx := Lib.hid (show Bk W0 w.heap.size 81 [.int .i64 x, .int .i64 y] by rw [hW0]; exact Bk.new _ _ _ rfl)
  have HW0 := Lib.hid hW0
  have Hh := Lib.hid (h.below Hb.out)
  have hi := rfind_any Hh.out x
  have hlen := h.fit.len
  have Hp := Lib.hid hp
  clear hW0
  rcases idxF_find (q := isId x) (l := M) with ⟨h1, h2, _⟩ | ⟨i, m, h1, h2, h3, h4, h5, _⟩
  · rw [h1] at hi
    have HE := Lib.hid (show bindE M (x, y) = 22 by unfold bindE; rw [if_pos h2])
    clear h1 h2 h hp hl
    go_enter Try.func26, Try.ntmps26
    go_wp2_with fail
    rw [← HW0.out]
    obtain ⟨l0, k0, k1, f0, f1⟩ := Bk.all2 Hx.out
    go_wp2_with fail
    refine hi.mono ?_
    rintro e w2 ⟨rfl, rfl⟩
    clear hi
    go_wp2_with fail
    go_ret2
    exact rbind_noP HE.out (by decide) rfl ⟨A, c, Hh.out⟩ (Fr.ofBelow Hb.out)
  rw [h1] at hi
  have hE : bindE M (x, y) = if M.find? (stB (x, y)) ≠ none then 16 else if 16 ≤ M.length then 28 else 0 := by unfold bindE; rw [if_neg (by rw [h2]; exact fun e => by cases e)]
  have HI := Lib.hid (show M.find? (isId x) ≠ none by rw [h2]; exact fun e => by cases e)
  have HE := Lib.hid hE
  have gi : ¬ ((i : Int) < 0) := by omega
  clear h1 h2 h3 h4 h5 hE
  by_cases hst : M.find? (stB (x, y)) = none
  · have Hne := Lib.hid (show false = decide (¬ ((seenF M (x, y)).1 = x ∧ (seenF M (x, y)).2 = y)) by
      rw [seen_none hst]; simp)
    by_cases hfull : 16 ≤ M.length
    · have HE2 := Lib.hid (show bindE M (x, y) = 28 by rw [HE.out, if_neg (fun e => e hst), if_pos hfull])
      obtain ⟨N, hN⟩ : ∃ N, N = M.length := ⟨_, rfl⟩
      rw [← hN] at hfull hlen
      have HN := Lib.hid hN
      have hd : decide (16 ≤ N) = true := decide_eq_true hfull
      have hN16 : N = 16 := by omega
      clear h hp hl hN hst
      subst hN16
      go_enter Try.func26, Try.ntmps26
      go_wp2_with fail
      rw [← HW0.out]
      obtain ⟨l0, k0, k1, f0, f1⟩ := Bk.all2 Hx.out
      go_wp2_with fail
      refine hi.mono ?_
      rintro e w2 ⟨rfl, rfl⟩
      clear hi
      go_wp2_with fail
      clear l0 k0 k1 f0 f1
      obtain ⟨bb, hbb⟩ : ∃ bb, bb = w.heap.size := ⟨_, rfl⟩
      rw [← hbb] at Hx ⊢
      have Hbb := Lib.hid hbb
      clear hbb
      have HmkS := Lib.hid (fun (W : World) (hb : Below W0.heap.size W0 W) => (⟨(Hx.out.kept hb).cell 0 rfl, (Hx.out.kept hb).cell 1 rfl⟩ : W.cell? ⟨bb, 0, none⟩ = some (.int .i64 x) ∧ W.cell? ⟨bb, 1, none⟩ = some (.int .i64 y)))
      have HBv := Lib.hid (Below.refl W0.heap.size W0).drew
      obtain ⟨s1, hs1⟩ : ∃ s, s = (seenF M (x, y)).1 := ⟨_, rfl⟩
      obtain ⟨s2, hs2⟩ : ∃ s, s = (seenF M (x, y)).2 := ⟨_, rfl⟩
      have Hs1 := Lib.hid hs1
      have Hs2 := Lib.hid hs2
      have heq := fun W => neqRPl s1 s2 x y W false (by rw [hs1, hs2]; exact Hne.out)
      clear hs1 hs2
      refine wp_region_held_drew (S := (fun W => W.cell? ⟨bb, 0, none⟩ = some (.int .i64 x) ∧ W.cell? ⟨bb, 1, none⟩ = some (.int .i64 y))) (by kernel_rfl) ?_ (fun hHeld0 => ?_)
      · exact HmkS.out _ (Below.refl _ _).drew
      generalize World.drew W0 = vh0 at hHeld0 HBv ⊢
      refine wpAnyH_take (i := 0) (v := ?_) (by first | (simp only [List.getElem?_toArray, List.getElem?_cons_zero] <;> rfl) | rfl) (by kernel_rfl) (by kernel_rfl) (by kernel_rfl) (by exact fun _ _ _ h => h) (Or.inl ⟨by rfl, ?_⟩) hHeld0 ?_
      rotate_left 1
      · intro w hSw
        try dsimp only at hSw
        (go_simp) <;> (with_reducible rfl)
      try simp only [Act.put, List.setIfInBounds_toArray, List.set_cons_zero, List.set_cons_succ]
      refine wpAnyH_take (i := 1) (v := ?_) (by first | (simp only [List.getElem?_toArray, List.getElem?_cons_succ, List.getElem?_cons_zero] <;> rfl) | rfl) (by kernel_rfl) (by kernel_rfl) (by kernel_rfl) (by exact fun _ _ _ h => h) (Or.inl ⟨by rfl, ?_⟩) hHeld0 ?_
      rotate_left 1
      · intro w hSw
        try dsimp only at hSw
        (go_simp) <;> (with_reducible rfl)
      try simp only [Act.put, List.setIfInBounds_toArray, List.set_cons_zero, List.set_cons_succ]
      refine wpAnyH_take (i := 3) (v := ?_) (by first | (simp only [List.getElem?_toArray, List.getElem?_cons_succ, List.getElem?_cons_zero] <;> rfl) | rfl) (by kernel_rfl) (by kernel_rfl) (by kernel_rfl) (by exact fun _ _ _ h => h) (Or.inl ⟨by rfl, ?_⟩) hHeld0 ?_
      rotate_left 1
      · intro w hSw
        try dsimp only at hSw
        (go_simp) <;> (with_reducible rfl)
      try simp only [Act.put, List.setIfInBounds_toArray, List.set_cons_zero, List.set_cons_succ]
      refine wpAnyH_ready (rs := [2]) (by kernel_rfl) (by simp) ?_
      refine AllReadyH.cons (by first | (simp only [List.getElem?_toArray, List.getElem?_cons_succ, List.getElem?_cons_zero] <;> rfl) | rfl) (fun K hK => ?_) ?_
      · skip
        go_simp
        refine (rseen_any (Hh.out.below HBv.out) (x, y)).mono ?_
        rintro e vh1 ⟨rfl, hbb⟩
        have HBn := Lib.hid (HBv.out.trans (hbb.mono HBv.out.size))
        skip
        unfold rpV
        dsimp only
        rw [← Hs1.out, ← Hs2.out]
        refine hK.out _ _ (HmkS.out _ HBn.out) (fun hHeld1 => ?_)
        clear hK K
        have HBv := HBn
        clear HBn hbb hHeld0
        try simp only [Act.put, List.setIfInBounds_toArray, List.set_cons_zero, List.set_cons_succ]
        refine wpAnyH_take (i := 4) (v := ?_) (by first | (simp only [List.getElem?_toArray, List.getElem?_cons_succ, List.getElem?_cons_zero] <;> rfl) | rfl) (by kernel_rfl) (by kernel_rfl) (by kernel_rfl) (by exact fun _ _ _ h => h) (Or.inl ⟨by rfl, ?_⟩) hHeld1 ?_
        rotate_left 1
        · intro w hSw
          try dsimp only at hSw
          (go_simp) <;> (with_reducible rfl)
        try simp only [Act.put, List.setIfInBounds_toArray, List.set_cons_zero, List.set_cons_succ]
        refine wpAnyH_done (by kernel_rfl) ?_ _
        rename World => w5
        clear hHeld1
        have HB5 := Lib.hid (Hb.out.trans (HBv.out.mono Hb.out.size))
        have hw := Hh.out.below HBv.out
        have e0 := hw.c2
        rw [← HN.out] at e0
        have e1 := hw.tab.lt
        clear hw
        go_wp2_with fail
        go_ret2
        exact rbind_noP HE2.out (by decide) rfl ⟨A, c, Hh.out.below HBv.out⟩ (Fr.ofBelow HB5.out)
      exact AllReadyH.nil
    · have HE2 := Lib.hid (show bindE M (x, y) = 0 by rw [HE.out, if_neg (fun e => e hst), if_neg hfull])
      have HFit := Lib.hid (fit_bind (root := root) h.fit HI.out hst (by omega))
      have Hroot := Lib.hid hroot
      obtain ⟨N, hN⟩ : ∃ N, N = M.length := ⟨_, rfl⟩
      rw [← hN] at hfull hlen
      have HN := Lib.hid hN
      have hd : decide (16 ≤ N) = false := decide_eq_false hfull
      clear h hp hN hroot hst
      go_enter Try.func26, Try.ntmps26
      go_wp2_with fail
      rw [← HW0.out]
      obtain ⟨l0, k0, k1, f0, f1⟩ := Bk.all2 Hx.out
      go_wp2_with fail
      refine hi.mono ?_
      rintro e w2 ⟨rfl, rfl⟩
      clear hi
      go_wp2_with fail
      clear l0 k0 k1 f0 f1
      obtain ⟨bb, hbb⟩ : ∃ bb, bb = w.heap.size := ⟨_, rfl⟩
      rw [← hbb] at Hx ⊢
      have Hbb := Lib.hid hbb
      clear hbb
      have HmkS := Lib.hid (fun (W : World) (hb : Below W0.heap.size W0 W) => (⟨(Hx.out.kept hb).cell 0 rfl, (Hx.out.kept hb).cell 1 rfl⟩ : W.cell? ⟨bb, 0, none⟩ = some (.int .i64 x) ∧ W.cell? ⟨bb, 1, none⟩ = some (.int .i64 y)))
      have HBv := Lib.hid (Below.refl W0.heap.size W0).drew
      obtain ⟨s1, hs1⟩ : ∃ s, s = (seenF M (x, y)).1 := ⟨_, rfl⟩
      obtain ⟨s2, hs2⟩ : ∃ s, s = (seenF M (x, y)).2 := ⟨_, rfl⟩
      have Hs1 := Lib.hid hs1
      have Hs2 := Lib.hid hs2
      have heq := fun W => neqRPl s1 s2 x y W false (by rw [hs1, hs2]; exact Hne.out)
      clear hs1 hs2
      refine wp_region_held_drew (S := (fun W => W.cell? ⟨bb, 0, none⟩ = some (.int .i64 x) ∧ W.cell? ⟨bb, 1, none⟩ = some (.int .i64 y))) (by kernel_rfl) ?_ (fun hHeld0 => ?_)
      · exact HmkS.out _ (Below.refl _ _).drew
      generalize World.drew W0 = vh0 at hHeld0 HBv ⊢
      refine wpAnyH_take (i := 0) (v := ?_) (by first | (simp only [List.getElem?_toArray, List.getElem?_cons_zero] <;> rfl) | rfl) (by kernel_rfl) (by kernel_rfl) (by kernel_rfl) (by exact fun _ _ _ h => h) (Or.inl ⟨by rfl, ?_⟩) hHeld0 ?_
      rotate_left 1
      · intro w hSw
        try dsimp only at hSw
        (go_simp) <;> (with_reducible rfl)
      try simp only [Act.put, List.setIfInBounds_toArray, List.set_cons_zero, List.set_cons_succ]
      refine wpAnyH_take (i := 1) (v := ?_) (by first | (simp only [List.getElem?_toArray, List.getElem?_cons_succ, List.getElem?_cons_zero] <;> rfl) | rfl) (by kernel_rfl) (by kernel_rfl) (by kernel_rfl) (by exact fun _ _ _ h => h) (Or.inl ⟨by rfl, ?_⟩) hHeld0 ?_
      rotate_left 1
      · intro w hSw
        try dsimp only at hSw
        (go_simp) <;> (with_reducible rfl)
      try simp only [Act.put, List.setIfInBounds_toArray, List.set_cons_zero, List.set_cons_succ]
      refine wpAnyH_take (i := 3) (v := ?_) (by first | (simp only [List.getElem?_toArray, List.getElem?_cons_succ, List.getElem?_cons_zero] <;> rfl) | rfl) (by kernel_rfl) (by kernel_rfl) (by kernel_rfl) (by exact fun _ _ _ h => h) (Or.inl ⟨by rfl, ?_⟩) hHeld0 ?_
      rotate_left 1
      · intro w hSw
        try dsimp only at hSw
        (go_simp) <;> (with_reducible rfl)
      try simp only [Act.put, List.setIfInBounds_toArray, List.set_cons_zero, List.set_cons_succ]
      refine wpAnyH_ready (rs := [2]) (by kernel_rfl) (by simp) ?_
      refine AllReadyH.cons (by first | (simp only [List.getElem?_toArray, List.getElem?_cons_succ, List.getElem?_cons_zero] <;> rfl) | rfl) (fun K hK => ?_) ?_
      · skip
        go_simp
        refine (rseen_any (Hh.out.below HBv.out) (x, y)).mono ?_
        rintro e vh1 ⟨rfl, hbb⟩
        have HBn := Lib.hid (HBv.out.trans (hbb.mono HBv.out.size))
        skip
        unfold rpV
        dsimp only
        rw [← Hs1.out, ← Hs2.out]
        refine hK.out _ _ (HmkS.out _ HBn.out) (fun hHeld1 => ?_)
        clear hK K
        have HBv := HBn
        clear HBn hbb hHeld0
        try simp only [Act.put, List.setIfInBounds_toArray, List.set_cons_zero, List.set_cons_succ]
        refine wpAnyH_take (i := 4) (v := ?_) (by first | (simp only [List.getElem?_toArray, List.getElem?_cons_succ, List.getElem?_cons_zero] <;> rfl) | rfl) (by kernel_rfl) (by kernel_rfl) (by kernel_rfl) (by exact fun _ _ _ h => h) (Or.inl ⟨by rfl, ?_⟩) hHeld1 ?_
        rotate_left 1
        · intro w hSw
          try dsimp only at hSw
          (go_simp) <;> (with_reducible rfl)
        try simp only [Act.put, List.setIfInBounds_toArray, List.set_cons_zero, List.set_cons_succ]
        refine wpAnyH_done (by kernel_rfl) ?_ _
        rename World => w5
        clear hHeld1
        have HB5 := Lib.hid (Hb.out.trans (HBv.out.mono Hb.out.size))
        have hw := Hh.out.below HBv.out
        have e0 := hw.c2
        rw [← HN.out] at e0
        have e1 := hw.tab.lt
        have e2 := hw.c3
        have e3 := hw.fzT 3
        have Hw4 := Lib.hid (hw.setLast hl)
        have HF4 := Lib.hid ((Fr.ofBelow HB5.out : FrN B w w5).trans (FrN.tab hw 3 (.int .i64 (last + 1 + 1))))
        have Hk4 := Lib.hid ((Hx.out.kept HBv.out).grown (only_set w5 tb 3 (.int .i64 (last + 1 + 1))) (fun e => (bk_tyb Hx.out).ne (bk_tyb Hh.out.tab) (by decide) (Option.some.inj e)))
        clear hw HmkS heq
        have hl0 := Hh.out.last
        go_upto_region 9 with fail
        generalize World.setCell w5 ⟨tb, 3, none⟩ (.int .i64 (last + 1 + 1)) = w4 at Hw4 HF4 Hk4 ⊢
        clear e0 e1 e2 e3 HB5 HBv
        obtain ⟨L, hL⟩ : ∃ L, L = last + 1 := ⟨_, rfl⟩
        rw [← hL] at Hw4 HFit ⊢
        have HLe := Lib.hid hL
        clear hL
        have HmkT := Lib.hid (fun (W : World) (hb : Below w4.heap.size w4 W) => (⟨(Hk4.out.kept hb).cell 0 rfl, (Hk4.out.kept hb).cell 1 rfl⟩ : W.cell? ⟨bb, 0, none⟩ = some (.int .i64 x) ∧ W.cell? ⟨bb, 1, none⟩ = some (.int .i64 y)))
        have HBv := Lib.hid (Below.refl w4.heap.size w4).drew
        have HSmq := Lib.hid (show Sm ⟨L, x, y, root, 0⟩ from ⟨by show 0 ≤ L ∧ L ≤ 1000000000; have := HLe.out; omega, Hp.out.1, Hp.out.2, Hroot.out, by show (0 : Int) ≤ 0 ∧ (0 : Int) ≤ 1000000000; decide⟩)
        clear hl hl0
        refine wp_region_held_drew (S := (fun W => W.cell? ⟨bb, 0, none⟩ = some (.int .i64 x) ∧ W.cell? ⟨bb, 1, none⟩ = some (.int .i64 y))) (by kernel_rfl) ?_ (fun hHeld0 => ?_)
        · exact HmkT.out _ (Below.refl _ _).drew
        generalize World.drew w4 = vh0 at hHeld0 HBv ⊢
        refine wpAnyH_take (i := 0) (v := ?_) (by first | (simp only [List.getElem?_toArray, List.getElem?_cons_zero] <;> rfl) | rfl) (by kernel_rfl) (by kernel_rfl) (by kernel_rfl) (by exact fun _ _ _ h => h) (Or.inl ⟨by rfl, ?_⟩) hHeld0 ?_
        rotate_left 1
        · intro w hSw
          try dsimp only at hSw
          (go_simp) <;> (with_reducible rfl)
        try simp only [Act.put, List.setIfInBounds_toArray, List.set_cons_zero, List.set_cons_succ]
        refine wpAnyH_take (i := 1) (v := ?_) (by first | (simp only [List.getElem?_toArray, List.getElem?_cons_succ, List.getElem?_cons_zero] <;> rfl) | rfl) (by kernel_rfl) (by kernel_rfl) (by kernel_rfl) (by exact fun _ _ _ h => h) (Or.inl ⟨by rfl, ?_⟩) hHeld0 ?_
        rotate_left 1
        · intro w hSw
          try dsimp only at hSw
          (go_simp) <;> (with_reducible rfl)
        try simp only [Act.put, List.setIfInBounds_toArray, List.set_cons_zero, List.set_cons_succ]
        refine wpAnyH_take (i := 2) (v := ?_) (by first | (simp only [List.getElem?_toArray, List.getElem?_cons_succ, List.getElem?_cons_zero] <;> rfl) | rfl) (by kernel_rfl) (by kernel_rfl) (by kernel_rfl) (by exact fun _ _ _ h => h) (Or.inl ⟨by rfl, ?_⟩) hHeld0 ?_
        rotate_left 1
        · intro w hSw
          try dsimp only at hSw
          (go_simp) <;> (with_reducible rfl)
        try simp only [Act.put, List.setIfInBounds_toArray, List.set_cons_zero, List.set_cons_succ]
        refine wpAnyH_take (i := 3) (v := ?_) (by first | (simp only [List.getElem?_toArray, List.getElem?_cons_succ, List.getElem?_cons_zero] <;> rfl) | rfl) (by kernel_rfl) (by kernel_rfl) (by kernel_rfl) (by exact fun _ _ _ h => h) (Or.inl ⟨by rfl, ?_⟩) hHeld0 ?_
        rotate_left 1
        · intro w hSw
          try dsimp only at hSw
          (go_simp) <;> (with_reducible rfl)
        try simp only [Act.put, List.setIfInBounds_toArray, List.set_cons_zero, List.set_cons_succ]
        refine wpAnyH_take (i := 5) (v := ?_) (by first | (simp only [List.getElem?_toArray, List.getElem?_cons_succ, List.getElem?_cons_zero] <;> rfl) | rfl) (by kernel_rfl) (by kernel_rfl) (by kernel_rfl) (by exact fun _ _ _ h => h) (Or.inl ⟨by rfl, ?_⟩) hHeld0 ?_
        rotate_left 1
        · intro w hSw
          try dsimp only at hSw
          (go_simp) <;> (with_reducible rfl)
        try simp only [Act.put, List.setIfInBounds_toArray, List.set_cons_zero, List.set_cons_succ]
        refine wpAnyH_take (i := 6) (v := ?_) (by first | (simp only [List.getElem?_toArray, List.getElem?_cons_succ, List.getElem?_cons_zero] <;> rfl) | rfl) (by kernel_rfl) (by kernel_rfl) (by kernel_rfl) (by exact fun _ _ _ h => h) (Or.inl ⟨by rfl, ?_⟩) hHeld0 ?_
        rotate_left 1
        · intro w hSw
          try dsimp only at hSw
          (go_simp) <;> (with_reducible rfl)
        try simp only [Act.put, List.setIfInBounds_toArray, List.set_cons_zero, List.set_cons_succ]
        refine wpAnyH_take (i := 7) (v := ?_) (by first | (simp only [List.getElem?_toArray, List.getElem?_cons_succ, List.getElem?_cons_zero] <;> rfl) | rfl) (by kernel_rfl) (by kernel_rfl) (by kernel_rfl) (by exact fun _ _ _ h => h) (Or.inl ⟨by rfl, ?_⟩) hHeld0 ?_
        rotate_left 1
        · intro w hSw
          try dsimp only at hSw
          (go_simp) <;> (with_reducible rfl)
        try simp only [Act.put, List.setIfInBounds_toArray, List.set_cons_zero, List.set_cons_succ]
        refine wpAnyH_take (i := 8) (v := ?_) (by first | (simp only [List.getElem?_toArray, List.getElem?_cons_succ, List.getElem?_cons_zero] <;> rfl) | rfl) (by kernel_rfl) (by kernel_rfl) (by kernel_rfl) (by exact fun _ _ _ h => h) (Or.inl ⟨by rfl, ?_⟩) hHeld0 ?_
        rotate_left 1
        · intro w hSw
          try dsimp only at hSw
          (go_simp) <;> (with_reducible rfl)
        try simp only [Act.put, List.setIfInBounds_toArray, List.set_cons_zero, List.set_cons_succ]
        refine wpAnyH_ready (rs := [4, 9]) (by kernel_rfl) (by simp) ?_
        refine AllReadyH.cons (by first | (simp only [List.getElem?_toArray, List.getElem?_cons_succ, List.getElem?_cons_zero] <;> rfl) | rfl) (fun K hK => ?_) ?_
        · skip
          have hc := (Hw4.out.below HBv.out).c2
          rw [← HN.out] at hc
          go_simp
          refine hK.out _ _ hHeld0 (fun hHeld1 => ?_)
          clear hK K hHeld0
          try clear hc
          rename World => vh1
          try simp only [Act.put, List.setIfInBounds_toArray, List.set_cons_zero, List.set_cons_succ]
          refine wpAnyH_ready (rs := [9]) (by kernel_rfl) (by simp) ?_
          refine AllReadyH.cons (by first | (simp only [List.getElem?_toArray, List.getElem?_cons_succ, List.getElem?_cons_zero] <;> rfl) | rfl) (fun K hK => ?_) ?_
          · go_simp
            have HG := Lib.hid (Bk.new vh1 94 #[.int .i64 L, .int .i64 root, .int .i64 x, .int .i64 y, .int .i64 0] (l := rmC ⟨L, x, y, root, 0⟩) rfl)
            have HBn := Lib.hid (HBv.out.trans ((oneb vh1 (.cells #[.int .i64 L, .int .i64 root, .int .i64 x, .int .i64 y, .int .i64 0] 94)).mono HBv.out.size))
            refine hK.out _ _ (HmkT.out _ HBn.out) (fun hHeld2 => ?_)
            clear hK K
            obtain ⟨gg, hgg⟩ : ∃ gg, gg = vh1.heap.size := ⟨_, rfl⟩
            rw [← hgg] at HG ⊢
            clear hgg hHeld1 HBv
            generalize World.alloc vh1 (.cells #[.int .i64 L, .int .i64 root, .int .i64 x, .int .i64 y, .int .i64 0] 94) = vh2 at HG HBn hHeld2 ⊢
            have HBv := HBn
            clear HBn
            try simp only [Act.put, List.setIfInBounds_toArray, List.set_cons_zero, List.set_cons_succ]
            refine wpAnyH_ready (rs := [10]) (by kernel_rfl) (by simp) ?_
            refine AllReadyH.cons (by first | (simp only [List.getElem?_toArray, List.getElem?_cons_succ, List.getElem?_cons_zero] <;> rfl) | rfl) (fun K hK => ?_) ?_
            · skip
              have hR := Hw4.out.below HBv.out
              have hkk := Hk4.out.kept HBv.out
              obtain ⟨A2, c2, wb, hr, hM2, htb2, hg2, hF2⟩ := hR.run ⟨L, x, y, root, 0⟩ HSmq.out HFit.out HG.out 54
              rw [← HN.out] at hr hM2 htb2 hF2
              refine op_append (.tmp 41) (.tmp 46) 54 rfl _ _ _ wb rfl rfl hr ?_
              have hk2 := hkk.grown hg2 (fun e => (bk_tyb hkk).ne hR.tyA (by decide) (Option.some.inj e))
              refine hK.out _ _ ⟨hk2.cell 0 rfl, hk2.cell 1 rfl⟩ (fun hHeld3 => ?_)
              have HM2 := Lib.hid hM2
              have HT2 := Lib.hid htb2
              have HF2 := Lib.hid (HF4.out.trans ((Fr.ofBelow HBv.out).trans hF2))
              have HK2 := Lib.hid hk2
              clear hK K hr hR hkk hM2 htb2 hg2 hF2 hk2 HBv hHeld2
              try simp only [Act.put, List.setIfInBounds_toArray, List.set_cons_zero, List.set_cons_succ]
              refine wpAnyH_take (i := 11) (v := ?_) (by first | (simp only [List.getElem?_toArray, List.getElem?_cons_succ, List.getElem?_cons_zero] <;> rfl) | rfl) (by kernel_rfl) (by kernel_rfl) (by kernel_rfl) (by exact fun _ _ _ h => h) (Or.inl ⟨by rfl, ?_⟩) hHeld3 ?_
              rotate_left 1
              · intro w hSw
                try dsimp only at hSw
                (go_simp) <;> (with_reducible rfl)
              try simp only [Act.put, List.setIfInBounds_toArray, List.set_cons_zero, List.set_cons_succ]
              refine wpAnyH_take (i := 12) (v := ?_) (by first | (simp only [List.getElem?_toArray, List.getElem?_cons_succ, List.getElem?_cons_zero] <;> rfl) | rfl) (by kernel_rfl) (by kernel_rfl) (by kernel_rfl) (by exact fun _ _ _ h => h) (Or.inl ⟨by rfl, ?_⟩) hHeld3 ?_
              rotate_left 1
              · intro w hSw
                try dsimp only at hSw
                (go_simp) <;> (with_reducible rfl)
              try simp only [Act.put, List.setIfInBounds_toArray, List.set_cons_zero, List.set_cons_succ]
              refine wpAnyH_ready (rs := [13]) (by kernel_rfl) (by simp) ?_
              refine AllReadyH.cons (by first | (simp only [List.getElem?_toArray, List.getElem?_cons_succ, List.getElem?_cons_zero] <;> rfl) | rfl) (fun K hK => ?_) ?_
              · skip
                have r0 := HT2.out.cell 2 rfl
                have r1 := HT2.out.fz 2
                have r2 := HT2.out.lt
                have hk3 := HK2.out.grown (only_set wb tb 2 (.slice (some ⟨A2, 0, none⟩) (N + 1) c2)) (fun e => (bk_tyb HK2.out).ne (bk_tyb HT2.out) (by decide) (Option.some.inj e))
                go_simp
                refine hK.out _ _ ⟨hk3.cell 0 rfl, hk3.cell 1 rfl⟩ (fun hHeld4 => ?_)
                clear hK K r0 r1 r2 hk3 hHeld3 hHeld4
                try simp only [Act.put, List.setIfInBounds_toArray, List.set_cons_zero, List.set_cons_succ]
                refine wpAnyH_done (by kernel_rfl) ?_ _
                go_wp2_with fail
                go_ret2
                unfold RBindP
                rw [HE2.out, if_pos rfl, if_pos rfl, if_pos rfl, ← HLe.out]
                exact ⟨rfl, ⟨A2, c2, HM2.out⟩, HF2.out⟩
              exact AllReadyH.nil
            exact AllReadyH.nil
          exact AllReadyH.nil
        refine AllReadyH.cons (by first | (simp only [List.getElem?_toArray, List.getElem?_cons_succ, List.getElem?_cons_zero] <;> rfl) | rfl) (fun K hK => ?_) ?_
        · go_simp
          have HG := Lib.hid (Bk.new vh0 94 #[.int .i64 L, .int .i64 root, .int .i64 x, .int .i64 y, .int .i64 0] (l := rmC ⟨L, x, y, root, 0⟩) rfl)
          have HBn := Lib.hid (HBv.out.trans ((oneb vh0 (.cells #[.int .i64 L, .int .i64 root, .int .i64 x, .int .i64 y, .int .i64 0] 94)).mono HBv.out.size))
          refine hK.out _ _ (HmkT.out _ HBn.out) (fun hHeld1 => ?_)
          clear hK K
          obtain ⟨gg, hgg⟩ : ∃ gg, gg = vh0.heap.size := ⟨_, rfl⟩
          rw [← hgg] at HG ⊢
          clear hgg hHeld0 HBv
          generalize World.alloc vh0 (.cells #[.int .i64 L, .int .i64 root, .int .i64 x, .int .i64 y, .int .i64 0] 94) = vh1 at HG HBn hHeld1 ⊢
          have HBv := HBn
          clear HBn
          try simp only [Act.put, List.setIfInBounds_toArray, List.set_cons_zero, List.set_cons_succ]
          refine wpAnyH_ready (rs := [4]) (by kernel_rfl) (by simp) ?_
          refine AllReadyH.cons (by first | (simp only [List.getElem?_toArray, List.getElem?_cons_succ, List.getElem?_cons_zero] <;> rfl) | rfl) (fun K hK => ?_) ?_
          · skip
            have hc := (Hw4.out.below HBv.out).c2
            rw [← HN.out] at hc
            go_simp
            refine hK.out _ _ hHeld1 (fun hHeld2 => ?_)
            clear hK K hHeld1
            try clear hc
            rename World => vh2
            try simp only [Act.put, List.setIfInBounds_toArray, List.set_cons_zero, List.set_cons_succ]
            refine wpAnyH_ready (rs := [10]) (by kernel_rfl) (by simp) ?_
            refine AllReadyH.cons (by first | (simp only [List.getElem?_toArray, List.getElem?_cons_succ, List.getElem?_cons_zero] <;> rfl) | rfl) (fun K hK => ?_) ?_
            · skip
              have hR := Hw4.out.below HBv.out
              have hkk := Hk4.out.kept HBv.out
              obtain ⟨A2, c2, wb, hr, hM2, htb2, hg2, hF2⟩ := hR.run ⟨L, x, y, root, 0⟩ HSmq.out HFit.out HG.out 54
              rw [← HN.out] at hr hM2 htb2 hF2
              refine op_append (.tmp 41) (.tmp 46) 54 rfl _ _ _ wb rfl rfl hr ?_
              have hk2 := hkk.grown hg2 (fun e => (bk_tyb hkk).ne hR.tyA (by decide) (Option.some.inj e))
              refine hK.out _ _ ⟨hk2.cell 0 rfl, hk2.cell 1 rfl⟩ (fun hHeld3 => ?_)
              have HM2 := Lib.hid hM2
              have HT2 := Lib.hid htb2
              have HF2 := Lib.hid (HF4.out.trans ((Fr.ofBelow HBv.out).trans hF2))
              have HK2 := Lib.hid hk2
              clear hK K hr hR hkk hM2 htb2 hg2 hF2 hk2 HBv hHeld2
              try simp only [Act.put, List.setIfInBounds_toArray, List.set_cons_zero, List.set_cons_succ]
              refine wpAnyH_take (i := 11) (v := ?_) (by first | (simp only [List.getElem?_toArray, List.getElem?_cons_succ, List.getElem?_cons_zero] <;> rfl) | rfl) (by kernel_rfl) (by kernel_rfl) (by kernel_rfl) (by exact fun _ _ _ h => h) (Or.inl ⟨by rfl, ?_⟩) hHeld3 ?_
              rotate_left 1
              · intro w hSw
                try dsimp only at hSw
                (go_simp) <;> (with_reducible rfl)
              try simp only [Act.put, List.setIfInBounds_toArray, List.set_cons_zero, List.set_cons_succ]
              refine wpAnyH_take (i := 12) (v := ?_) (by first | (simp only [List.getElem?_toArray, List.getElem?_cons_succ, List.getElem?_cons_zero] <;> rfl) | rfl) (by kernel_rfl) (by kernel_rfl) (by kernel_rfl) (by exact fun _ _ _ h => h) (Or.inl ⟨by rfl, ?_⟩) hHeld3 ?_
              rotate_left 1
              · intro w hSw
                try dsimp only at hSw
                (go_simp) <;> (with_reducible rfl)
              try simp only [Act.put, List.setIfInBounds_toArray, List.set_cons_zero, List.set_cons_succ]
              refine wpAnyH_ready (rs := [13]) (by kernel_rfl) (by simp) ?_
              refine AllReadyH.cons (by first | (simp only [List.getElem?_toArray, List.getElem?_cons_succ, List.getElem?_cons_zero] <;> rfl) | rfl) (fun K hK => ?_) ?_
              · skip
                have r0 := HT2.out.cell 2 rfl
                have r1 := HT2.out.fz 2
                have r2 := HT2.out.lt
                have hk3 := HK2.out.grown (only_set wb tb 2 (.slice (some ⟨A2, 0, none⟩) (N + 1) c2)) (fun e => (bk_tyb HK2.out).ne (bk_tyb HT2.out) (by decide) (Option.some.inj e))
                go_simp
                refine hK.out _ _ ⟨hk3.cell 0 rfl, hk3.cell 1 rfl⟩ (fun hHeld4 => ?_)
                clear hK K r0 r1 r2 hk3 hHeld3 hHeld4
                try simp only [Act.put, List.setIfInBounds_toArray, List.set_cons_zero, List.set_cons_succ]
                refine wpAnyH_done (by kernel_rfl) ?_ _
                go_wp2_with fail
                go_ret2
                unfold RBindP
                rw [HE2.out, if_pos rfl, if_pos rfl, if_pos rfl, ← HLe.out]
                exact ⟨rfl, ⟨A2, c2, HM2.out⟩, HF2.out⟩
              exact AllReadyH.nil
            exact AllReadyH.nil
          exact AllReadyH.nil
        exact AllReadyH.nil
      exact AllReadyH.nil
  · have HE2 := Lib.hid (show bindE M (x, y) = 16 by rw [HE.out, if_pos hst])
    have Hne := Lib.hid (show true = decide (¬ ((seenF M (x, y)).1 = x ∧ (seenF M (x, y)).2 = y)) by
      have hk := (seen_ne (p := (x, y)) h.fit).2 hst
      rw [eq_comm, decide_eq_true_iff]
      exact fun e => hk (Prod.ext e.1 e.2))
    clear h hp hl hst
    go_enter Try.func26, Try.ntmps26
    go_wp2_with fail
    rw [← HW0.out]
    obtain ⟨l0, k0, k1, f0, f1⟩ := Bk.all2 Hx.out
    go_wp2_with fail
    refine hi.mono ?_
    rintro e w2 ⟨rfl, rfl⟩
    clear hi
    go_wp2_with fail
    clear l0 k0 k1 f0 f1
    obtain ⟨bb, hbb⟩ : ∃ bb, bb = w.heap.size := ⟨_, rfl⟩
    rw [← hbb] at Hx ⊢
    have Hbb := Lib.hid hbb
    clear hbb
    have HmkS := Lib.hid (fun (W : World) (hb : Below W0.heap.size W0 W) => (⟨(Hx.out.kept hb).cell 0 rfl, (Hx.out.kept hb).cell 1 rfl⟩ : W.cell? ⟨bb, 0, none⟩ = some (.int .i64 x) ∧ W.cell? ⟨bb, 1, none⟩ = some (.int .i64 y)))
    have HBv := Lib.hid (Below.refl W0.heap.size W0).drew
    obtain ⟨s1, hs1⟩ : ∃ s, s = (seenF M (x, y)).1 := ⟨_, rfl⟩
    obtain ⟨s2, hs2⟩ : ∃ s, s = (seenF M (x, y)).2 := ⟨_, rfl⟩
    have Hs1 := Lib.hid hs1
    have Hs2 := Lib.hid hs2
    have heq := fun W => neqRPl s1 s2 x y W true (by rw [hs1, hs2]; exact Hne.out)
    clear hs1 hs2
    refine wp_region_held_drew (S := (fun W => W.cell? ⟨bb, 0, none⟩ = some (.int .i64 x) ∧ W.cell? ⟨bb, 1, none⟩ = some (.int .i64 y))) (by kernel_rfl) ?_ (fun hHeld0 => ?_)
    · exact HmkS.out _ (Below.refl _ _).drew
    generalize World.drew W0 = vh0 at hHeld0 HBv ⊢
    refine wpAnyH_take (i := 0) (v := ?_) (by first | (simp only [List.getElem?_toArray, List.getElem?_cons_zero] <;> rfl) | rfl) (by kernel_rfl) (by kernel_rfl) (by kernel_rfl) (by exact fun _ _ _ h => h) (Or.inl ⟨by rfl, ?_⟩) hHeld0 ?_
    rotate_left 1
    · intro w hSw
      try dsimp only at hSw
      (go_simp) <;> (with_reducible rfl)
    try simp only [Act.put, List.setIfInBounds_toArray, List.set_cons_zero, List.set_cons_succ]
    refine wpAnyH_take (i := 1) (v := ?_) (by first | (simp only [List.getElem?_toArray, List.getElem?_cons_succ, List.getElem?_cons_zero] <;> rfl) | rfl) (by kernel_rfl) (by kernel_rfl) (by kernel_rfl) (by exact fun _ _ _ h => h) (Or.inl ⟨by rfl, ?_⟩) hHeld0 ?_
    rotate_left 1
    · intro w hSw
      try dsimp only at hSw
      (go_simp) <;> (with_reducible rfl)
    try simp only [Act.put, List.setIfInBounds_toArray, List.set_cons_zero, List.set_cons_succ]
    refine wpAnyH_take (i := 3) (v := ?_) (by first | (simp only [List.getElem?_toArray, List.getElem?_cons_succ, List.getElem?_cons_zero] <;> rfl) | rfl) (by kernel_rfl) (by kernel_rfl) (by kernel_rfl) (by exact fun _ _ _ h => h) (Or.inl ⟨by rfl, ?_⟩) hHeld0 ?_
    rotate_left 1
    · intro w hSw
      try dsimp only at hSw
      (go_simp) <;> (with_reducible rfl)
    try simp only [Act.put, List.setIfInBounds_toArray, List.set_cons_zero, List.set_cons_succ]
    refine wpAnyH_ready (rs := [2]) (by kernel_rfl) (by simp) ?_
    refine AllReadyH.cons (by first | (simp only [List.getElem?_toArray, List.getElem?_cons_succ, List.getElem?_cons_zero] <;> rfl) | rfl) (fun K hK => ?_) ?_
    · skip
      go_simp
      refine (rseen_any (Hh.out.below HBv.out) (x, y)).mono ?_
      rintro e vh1 ⟨rfl, hbb⟩
      have HBn := Lib.hid (HBv.out.trans (hbb.mono HBv.out.size))
      skip
      unfold rpV
      dsimp only
      rw [← Hs1.out, ← Hs2.out]
      refine hK.out _ _ (HmkS.out _ HBn.out) (fun hHeld1 => ?_)
      clear hK K
      have HBv := HBn
      clear HBn hbb hHeld0
      try simp only [Act.put, List.setIfInBounds_toArray, List.set_cons_zero, List.set_cons_succ]
      refine wpAnyH_take (i := 4) (v := ?_) (by first | (simp only [List.getElem?_toArray, List.getElem?_cons_succ, List.getElem?_cons_zero] <;> rfl) | rfl) (by kernel_rfl) (by kernel_rfl) (by kernel_rfl) (by exact fun _ _ _ h => h) (Or.inl ⟨by rfl, ?_⟩) hHeld1 ?_
      rotate_left 1
      · intro w hSw
        try dsimp only at hSw
        (go_simp) <;> (with_reducible rfl)
      try simp only [Act.put, List.setIfInBounds_toArray, List.set_cons_zero, List.set_cons_succ]
      refine wpAnyH_done (by kernel_rfl) ?_ _
      rename World => w5
      clear hHeld1
      have HB5 := Lib.hid (Hb.out.trans (HBv.out.mono Hb.out.size))
      go_wp2_with fail
      go_ret2
      exact rbind_noP HE2.out (by decide) rfl ⟨A, c, Hh.out.below HBv.out⟩ (Fr.ofBelow HB5.out)
    exact AllReadyH.nil
end
end Go.Proofs.Ytmbgmbheonpamaa.Mt
