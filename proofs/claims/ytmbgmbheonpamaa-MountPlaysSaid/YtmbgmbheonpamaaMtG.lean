/- Bind. -/
import Derived.Test.YtmbgmbheonpamaaMtF
import Derived.Test.YtmbgmbheonpamaaApp
import Derived.Deep.CutRange
import Derived.Deep.RegionHeld3
import Derived.BigQuiet
namespace Go.Proofs.Ytmbgmbheonpamaa.Mt
open Go.RowKit Go.Maps Go.WideElems In
theorem infoMt : (Try.prog.info? 90).map (fun i => (i.zero, i.size, i.bytes)) = some (some (.agg #[.int .i64 0, .int .i64 0, .int .u16 0, .int .u16 0, .int .i64 0]), 5, 40) := by kernel_rfl
theorem mt_one (m : MtM) : ∀ u ∈ mtC m, u.oneCell' = true := fun u hu => by
  simp only [mtC, List.mem_cons, List.not_mem_nil, or_false] at hu
  rcases hu with rfl | rfl | rfl | rfl | rfl <;> rfl
section
variable {w w' : World} {B tb : Nat} {M : Ms} {last : Int} {A c : Nat}
theorem MtR.setLast (h : MtR w B tb M last A c) (hl : last + 1 ≤ 1000000000) : MtR (w.setCell ⟨tb, 1, none⟩ (.int .i64 (last + 1))) B tb M (last + 1) A c := by
  have hg := only_set w tb 1 (.int .i64 (last + 1))
  have hne : A ≠ tb := h.tyA.ne (bk_tyb h.tab) (by decide)
  have h1 := h.last
  refine ⟨h.tab.set 1 _, own_keep h.row hg (fun b hb e => by cases hb; exact hne e), h.hB, h.sm, ⟨h.fit.ids, h.fit.ahead, fun m hm => by have := h.fit.pos m hm; omega, h.fit.one, h.fit.there, h.fit.first, h.fit.len, h.fit.held⟩, by omega⟩
/-- What the append makes. -/
theorem MtR.run (h : MtR w B tb M last A c) (q : MtM) (hs : Sm q) (hf : Fit (M ++ [q]) last) {g : Nat} (hB : Bk w g 90 (mtC q)) (ty : TypeId) :
    ∃ A' c' wb, (Builtin.append_ #[87, 87] ty #[.slice (some ⟨A, 0, none⟩) M.length c, .slice (some ⟨g, 0, none⟩) 1 1]).run Try.prog w = .ok (.slice (some ⟨A', 0, none⟩) (M.length + 1) c') wb ∧
      MtR (wb.setCell ⟨tb, 0, none⟩ (.slice (some ⟨A', 0, none⟩) (M.length + 1) c')) B tb (M ++ [q]) last A' c' ∧ Bk wb tb 149 [.slice (some ⟨A, 0, none⟩) M.length c, .int .i64 last] ∧ w.grownBy wb (some A) ∧ FrM B w (wb.setCell ⟨tb, 0, none⟩ (.slice (some ⟨A', 0, none⟩) (M.length + 1) c')) := by
  obtain ⟨i0, hi, hz0, hz1, hz2⟩ := info_parts infoMt
  have hlen := hf.len
  have hlen2 : (M ++ [q]).length = M.length + 1 := by simp
  obtain ⟨v', wb, hr, ho, hg, hnn, hat⟩ := run_append_own_at (P := Try.prog) w B 87 ty 90 i0 _ 5 40 Try.underlying87 hi hz0 hz1 hz2 rfl (by decide) (.slice (some ⟨A, 0, none⟩) M.length c) M.length _ h.row ⟨g, 0, none⟩ 1 1 (mtC q) rfl (fun j u hu => by rw [addr_at, Nat.zero_add]; exact hB.cell j hu) (mt_one q) (by unfold maxLen; omega) (by omega) (Nat.le_of_lt h.lt)
  obtain ⟨Av, c', rfl, hc', hrd, hty, hcn⟩ := own_typed ho
  have hg : w.grownBy wb (some A) := hg
  cases Av with
  | none => obtain rfl := hcn rfl; omega
  | some a =>
    have hav : ∃ A', a = ⟨A', 0, none⟩ := by
      rcases ho.2 with ⟨e, _⟩ | ⟨b, cap, cur, e, _⟩
      · cases e
      · cases e; exact ⟨b, rfl⟩
    obtain ⟨A', rfl⟩ := hav
    have htb : Bk wb tb 149 [.slice (some ⟨A, 0, none⟩) M.length c, .int .i64 last] := h.tab.grown hg (fun e => (bk_tyb h.tab).ne h.tyA (by decide) (Option.some.inj e))
    have hs2 := only_set wb tb 0 (.slice (some ⟨A', 0, none⟩) (M.length + 1) c')
    refine ⟨A', c', wb, hr, ⟨?_, ?_, h.hB, fun m hm => ?_, hf, h.last⟩, htb, hg, ?_⟩
    · rw [hlen2]; exact htb.set 0 _
    · rw [hlen2, List.flatMap_append]
      have := own_keep ho hs2 (fun b hb e => by cases hb; exact (hty A' rfl).ne (bk_tyb htb) (by decide) e)
      simpa using this
    · rcases List.mem_append.1 hm with hm | hm
      · exact h.sm m hm
      · simp at hm; subst hm; exact hs
    · exact (Fr.ofGrown hg (.inr ⟨h.hA, h.kinA⟩)).trans (Fr.ofGrown hs2 (.inr ⟨h.hB, .inl ⟨_, by simp [MT], bk_tyb htb⟩⟩))
def BindP (B tb : Nat) (M : Ms) (last root : Int) (p : Pl) (w : World) (e : Ending) (w' : World) : Prop :=
  e = .returned (.tuple #[.int .i64 (if bindE M p = 0 then last + 1 else 0), .int .i64 (bindE M p)]) ∧ Mtb w' B tb (if bindE M p = 0 then bindF M (last + 1) root p else M) (if bindE M p = 0 then last + 1 else last) ∧ FrM B w w'
theorem bind_noP {E : Int} {root : Int} {p : Pl} (hE : bindE M p = E) (h0 : E ≠ 0) {e : Ending} (he : e = .returned (.tuple #[.int .i64 0, .int .i64 E])) (h : Mtb w' B tb M last) (hf : FrM B w w') : BindP B tb M last root p w e w' := by
  unfold BindP
  rw [hE, if_neg h0, if_neg h0, if_neg h0]
  exact ⟨he, h, hf⟩
set_option maxHeartbeats 1000000 in
theorem bind_any (h : MtR w B tb M last A c) (root : Int) (hroot : 0 ≤ root ∧ root ≤ 65535) (p : Pl) (hp : InR p.1 ∧ 0 ≤ p.2 ∧ p.2 ≤ 65535) (hl : last + 1 ≤ 1000000000) : Calls Try.prog 25 #[.pointer (some ⟨tb, 0, none⟩), .int .u16 root, plV p] w (BindP B tb M last root p w) := by
  obtain ⟨x, y⟩ := p
  unfold plV
  dsimp only
  have hb := oneb w (.cells #[.int .i64 x, .int .u16 y] 74)
  have hi := index_any (h.below hb) x
  have Hb := Lib.hid hb
  have Hx := Lib.hid (Bk.new w 74 #[.int .i64 x, .int .u16 y] (l := [.int .i64 x, .int .u16 y]) rfl)
  have Hh := Lib.hid h
  have hlen := h.fit.len
  have ht := h.tab.lt
  have c0 := h.c0
  have Hp := Lib.hid hp
  rcases idxF_find (q := isId x) (l := M) with ⟨h1, h2, _⟩ | ⟨i, m, h1, h2, h3, h4, h5, _⟩
  · rw [h1] at hi
    have HE := Lib.hid (show bindE M (x, y) = 22 by unfold bindE; rw [if_pos h2])
    clear h1 h2 h hb c0 hp hl
    go_enter Try.func25, Try.ntmps25
    go_wp2_with fail
    refine hi.mono ?_
    rintro e w2 ⟨rfl, hb2⟩
    have Hk := Lib.hid (Hx.out.kept hb2)
    have HB := Lib.hid (Hb.out.trans (hb2.mono Hb.out.size))
    clear hb2 hi
    obtain ⟨l0, k0, k1, f0, f1⟩ := Bk.all2 Hk.out
    go_wp2_with fail
    go_ret2
    exact bind_noP HE.out (by decide) rfl ⟨A, c, Hh.out.below HB.out⟩ (Fr.ofBelow HB.out)
  rw [h1] at hi
  have hE : bindE M (x, y) = if M.find? (stB (x, y)) ≠ none then 16 else if 16 ≤ M.length then 28 else 0 := by unfold bindE; rw [if_neg (by rw [h2]; exact fun e => by cases e)]
  have HI := Lib.hid (show M.find? (isId x) ≠ none by rw [h2]; exact fun e => by cases e)
  have HE := Lib.hid hE
  clear h1 h2 h3 h4 h5 hE
  rcases idxF_find (q := stB (x, y)) (l := M) with ⟨h1, h2, _⟩ | ⟨j, m2, h1, h2, h3, h4, h5, _⟩
  · by_cases hfull : 16 ≤ M.length
    · have HE2 := Lib.hid (show bindE M (x, y) = 28 by rw [HE.out, if_neg (by rw [h2]; exact fun e => e rfl), if_pos hfull])
      have Hv := Lib.hid h1
      obtain ⟨N, hN⟩ : ∃ N, N = M.length := ⟨_, rfl⟩
      rw [← hN] at hfull hlen c0
      have HN := Lib.hid hN
      have hd : decide (16 ≤ N) = true := decide_eq_true hfull
      have hN16 : N = 16 := by omega
      clear h1 h2 h hb hp hl c0 hN
      subst hN16
      go_enter Try.func25, Try.ntmps25
      go_wp2_with fail
      refine hi.mono ?_
      rintro e w2 ⟨rfl, hb2⟩
      have Hk := Lib.hid (Hx.out.kept hb2)
      have HB := Lib.hid (Hb.out.trans (hb2.mono Hb.out.size))
      clear hb2 hi
      obtain ⟨l0, k0, k1, f0, f1⟩ := Bk.all2 Hk.out
      go_wp2_with fail
      refine (standing_any (Hh.out.below HB.out) (x, y)).mono ?_
      rintro e w3 ⟨rfl, hb3⟩
      have Hk3 := Lib.hid (Hk.out.kept hb3)
      have HB3 := Lib.hid (HB.out.trans (hb3.mono HB.out.size))
      clear hb3 l0 k0 k1 f0 f1
      rw [Hv.out]
      have hw := Hh.out.below HB3.out
      have e0 := hw.c0
      rw [← HN.out] at e0
      have e1 := hw.tab.lt
      clear hw
      go_wp2_with fail
      go_ret2
      exact bind_noP HE2.out (by decide) rfl ⟨A, c, Hh.out.below HB3.out⟩ (Fr.ofBelow HB3.out)
    · have HE2 := Lib.hid (show bindE M (x, y) = 0 by rw [HE.out, if_neg (by rw [h2]; exact fun e => e rfl), if_neg hfull])
      have HFit := Lib.hid (fit_bind (root := root) h.fit HI.out h2 (by omega))
      have Hv := Lib.hid h1
      have Hroot := Lib.hid hroot
      have hl0 := h.last
      obtain ⟨N, hN⟩ : ∃ N, N = M.length := ⟨_, rfl⟩
      rw [← hN] at hfull hlen c0
      have HN := Lib.hid hN
      have hd : decide (16 ≤ N) = false := decide_eq_false hfull
      clear h1 h2 h hb hp c0 hN hroot
      go_enter Try.func25, Try.ntmps25
      go_wp2_with fail
      refine hi.mono ?_
      rintro e w2 ⟨rfl, hb2⟩
      have Hk := Lib.hid (Hx.out.kept hb2)
      have HB := Lib.hid (Hb.out.trans (hb2.mono Hb.out.size))
      clear hb2 hi
      obtain ⟨l0, k0, k1, f0, f1⟩ := Bk.all2 Hk.out
      go_wp2_with fail
      refine (standing_any (Hh.out.below HB.out) (x, y)).mono ?_
      rintro e w3 ⟨rfl, hb3⟩
      have Hk3 := Lib.hid (Hk.out.kept hb3)
      have HB3 := Lib.hid (HB.out.trans (hb3.mono HB.out.size))
      clear hb3 l0 k0 k1 f0 f1
      rw [Hv.out]
      have hw := Hh.out.below HB3.out
      have e0 := hw.c0
      rw [← HN.out] at e0
      have e1 := hw.tab.lt
      have e2 := hw.c1
      have e3 := hw.fzT 1
      have Hw4 := Lib.hid (hw.setLast hl)
      have HF4 := Lib.hid ((Fr.ofBelow HB3.out : FrM B w w3).trans (FrM.tab hw 1 (.int .i64 (last + 1))))
      have Hk4 := Lib.hid (Hk3.out.grown (only_set w3 tb 1 (.int .i64 (last + 1))) (fun e => by have := Option.some.inj e; have := Hh.out.tab.lt; omega))
      clear hw Hx Hk
      go_upto_region 10 with fail
      generalize World.setCell w3 ⟨tb, 1, none⟩ (.int .i64 (last + 1)) = w4 at Hw4 HF4 Hk4 ⊢
      clear e0 e1 e2 e3 HB3 HB Hb
      obtain ⟨L, hL⟩ : ∃ L, L = last + 1 := ⟨_, rfl⟩
      rw [← hL] at Hw4 HFit
      have HLe := Lib.hid hL
      clear hL
      obtain ⟨bb, hbb⟩ : ∃ bb, bb = w.heap.size := ⟨_, rfl⟩
      rw [← hbb] at Hk4 ⊢
      have Hbb := Lib.hid hbb
      clear hbb
      have HmkS := Lib.hid (fun (W : World) (hb : Below w4.heap.size w4 W) => (⟨(Hw4.out.below hb).c1, (Hk4.out.kept hb).cell 0 rfl, (Hk4.out.kept hb).cell 1 rfl⟩ : W.cell? ⟨tb, 1, none⟩ = some (.int .i64 L) ∧ W.cell? ⟨bb, 0, none⟩ = some (.int .i64 x) ∧ W.cell? ⟨bb, 1, none⟩ = some (.int .u16 y)))
      have HBv := Lib.hid (Below.refl w4.heap.size w4).drew
      have HSmq := Lib.hid (show Sm ⟨L, x, y, root, 0⟩ from ⟨by show 0 ≤ L ∧ L ≤ 1000000000; have := HLe.out; omega, Hp.out.1, Hp.out.2, Hroot.out, by show (0 : Int) ≤ 0 ∧ (0 : Int) ≤ 1000000000; decide⟩)
      clear hl hl0 ht
      refine wp_region_held_drew (S := (fun W => W.cell? ⟨tb, 1, none⟩ = some (.int .i64 L) ∧ W.cell? ⟨bb, 0, none⟩ = some (.int .i64 x) ∧ W.cell? ⟨bb, 1, none⟩ = some (.int .u16 y))) (by kernel_rfl) ?_ (fun hHeld0 => ?_)
      · exact HmkS.out _ (Below.refl _ _).drew
      generalize World.drew w4 = vh0 at hHeld0 HBv ⊢
      refine wpAnyH_take (i := 0) (v := ?_) (by first | (simp only [List.getElem?_toArray, List.getElem?_cons_zero] <;> rfl) | rfl) (by kernel_rfl) (by kernel_rfl) (by kernel_rfl) (by exact fun _ _ _ h => h) (Or.inl ⟨by rfl, ?_⟩) hHeld0 ?_
      rotate_left 1
      · intro w hSw
        try dsimp only at hSw
        (go_simp) <;> (with_reducible rfl)
      try simp only [Act.put, List.setIfInBounds_toArray, List.set_cons_zero, List.set_cons_succ]
      refine wpAnyH_take (i := 1) (v := ?_) (by first | (simp only [List.getElem?_toArray, List.getElem?_cons_succ, List.getElem?_cons_zero] <;> rfl) | rfl) (by kernel_rfl) (by kernel_rfl) (by kernel_rfl) (by exact fun _ _ _ h => h) (Or.inl ⟨by rfl, ?_⟩) hHeld0 ?_
      rotate_left 1
      · intro w hSw
        try dsimp only at hSw
        (go_simp) <;> (with_reducible rfl)
      try simp only [Act.put, List.setIfInBounds_toArray, List.set_cons_zero, List.set_cons_succ]
      refine wpAnyH_take (i := 2) (v := ?_) (by first | (simp only [List.getElem?_toArray, List.getElem?_cons_succ, List.getElem?_cons_zero] <;> rfl) | rfl) (by kernel_rfl) (by kernel_rfl) (by kernel_rfl) (by exact fun _ _ _ h => h) (Or.inl ⟨by rfl, ?_⟩) hHeld0 ?_
      rotate_left 1
      · intro w hSw
        try dsimp only at hSw
        (go_simp) <;> (with_reducible rfl)
      try simp only [Act.put, List.setIfInBounds_toArray, List.set_cons_zero, List.set_cons_succ]
      refine wpAnyH_take (i := 3) (v := ?_) (by first | (simp only [List.getElem?_toArray, List.getElem?_cons_succ, List.getElem?_cons_zero] <;> rfl) | rfl) (by kernel_rfl) (by kernel_rfl) (by kernel_rfl) (by exact fun _ _ _ h => h) (Or.inl ⟨by rfl, ?_⟩) hHeld0 ?_
      rotate_left 1
      · intro w hSw
        try dsimp only at hSw
        (go_simp) <;> (with_reducible rfl)
      try simp only [Act.put, List.setIfInBounds_toArray, List.set_cons_zero, List.set_cons_succ]
      refine wpAnyH_take (i := 5) (v := ?_) (by first | (simp only [List.getElem?_toArray, List.getElem?_cons_succ, List.getElem?_cons_zero] <;> rfl) | rfl) (by kernel_rfl) (by kernel_rfl) (by kernel_rfl) (by exact fun _ _ _ h => h) (Or.inl ⟨by rfl, ?_⟩) hHeld0 ?_
      rotate_left 1
      · intro w hSw
        try dsimp only at hSw
        (go_simp) <;> (with_reducible rfl)
      try simp only [Act.put, List.setIfInBounds_toArray, List.set_cons_zero, List.set_cons_succ]
      refine wpAnyH_take (i := 6) (v := ?_) (by first | (simp only [List.getElem?_toArray, List.getElem?_cons_succ, List.getElem?_cons_zero] <;> rfl) | rfl) (by kernel_rfl) (by kernel_rfl) (by kernel_rfl) (by exact fun _ _ _ h => h) (Or.inl ⟨by rfl, ?_⟩) hHeld0 ?_
      rotate_left 1
      · intro w hSw
        try dsimp only at hSw
        (go_simp) <;> (with_reducible rfl)
      try simp only [Act.put, List.setIfInBounds_toArray, List.set_cons_zero, List.set_cons_succ]
      refine wpAnyH_take (i := 7) (v := ?_) (by first | (simp only [List.getElem?_toArray, List.getElem?_cons_succ, List.getElem?_cons_zero] <;> rfl) | rfl) (by kernel_rfl) (by kernel_rfl) (by kernel_rfl) (by exact fun _ _ _ h => h) (Or.inl ⟨by rfl, ?_⟩) hHeld0 ?_
      rotate_left 1
      · intro w hSw
        try dsimp only at hSw
        (go_simp) <;> (with_reducible rfl)
      try simp only [Act.put, List.setIfInBounds_toArray, List.set_cons_zero, List.set_cons_succ]
      refine wpAnyH_take (i := 8) (v := ?_) (by first | (simp only [List.getElem?_toArray, List.getElem?_cons_succ, List.getElem?_cons_zero] <;> rfl) | rfl) (by kernel_rfl) (by kernel_rfl) (by kernel_rfl) (by exact fun _ _ _ h => h) (Or.inl ⟨by rfl, ?_⟩) hHeld0 ?_
      rotate_left 1
      · intro w hSw
        try dsimp only at hSw
        (go_simp) <;> (with_reducible rfl)
      try simp only [Act.put, List.setIfInBounds_toArray, List.set_cons_zero, List.set_cons_succ]
      refine wpAnyH_take (i := 9) (v := ?_) (by first | (simp only [List.getElem?_toArray, List.getElem?_cons_succ, List.getElem?_cons_zero] <;> rfl) | rfl) (by kernel_rfl) (by kernel_rfl) (by kernel_rfl) (by exact fun _ _ _ h => h) (Or.inl ⟨by rfl, ?_⟩) hHeld0 ?_
      rotate_left 1
      · intro w hSw
        try dsimp only at hSw
        (go_simp) <;> (with_reducible rfl)
      try simp only [Act.put, List.setIfInBounds_toArray, List.set_cons_zero, List.set_cons_succ]
      refine wpAnyH_take (i := 10) (v := ?_) (by first | (simp only [List.getElem?_toArray, List.getElem?_cons_succ, List.getElem?_cons_zero] <;> rfl) | rfl) (by kernel_rfl) (by kernel_rfl) (by kernel_rfl) (by exact fun _ _ _ h => h) (Or.inl ⟨by rfl, ?_⟩) hHeld0 ?_
      rotate_left 1
      · intro w hSw
        try dsimp only at hSw
        (go_simp) <;> (with_reducible rfl)
      try simp only [Act.put, List.setIfInBounds_toArray, List.set_cons_zero, List.set_cons_succ]
      refine wpAnyH_take (i := 11) (v := ?_) (by first | (simp only [List.getElem?_toArray, List.getElem?_cons_succ, List.getElem?_cons_zero] <;> rfl) | rfl) (by kernel_rfl) (by kernel_rfl) (by kernel_rfl) (by exact fun _ _ _ h => h) (Or.inl ⟨by rfl, ?_⟩) hHeld0 ?_
      rotate_left 1
      · intro w hSw
        try dsimp only at hSw
        (go_simp) <;> (with_reducible rfl)
      try simp only [Act.put, List.setIfInBounds_toArray, List.set_cons_zero, List.set_cons_succ]
      refine wpAnyH_ready (rs := [4, 12]) (by kernel_rfl) (by simp) ?_
      refine AllReadyH.cons (by first | (simp only [List.getElem?_toArray, List.getElem?_cons_succ, List.getElem?_cons_zero] <;> rfl) | rfl) (fun K hK => ?_) ?_
      · skip
        have hc := (Hw4.out.below HBv.out).c0
        rw [← HN.out] at hc
        go_simp
        refine hK.out _ _ hHeld0 (fun hHeld1 => ?_)
        clear hK K hHeld0
        try clear hc
        rename World => vh1
        try simp only [Act.put, List.setIfInBounds_toArray, List.set_cons_zero, List.set_cons_succ]
        refine wpAnyH_ready (rs := [12]) (by kernel_rfl) (by simp) ?_
        refine AllReadyH.cons (by first | (simp only [List.getElem?_toArray, List.getElem?_cons_succ, List.getElem?_cons_zero] <;> rfl) | rfl) (fun K hK => ?_) ?_
        · go_simp
          have HG := Lib.hid (Bk.new vh1 90 #[.int .i64 L, .int .i64 x, .int .u16 y, .int .u16 root, .int .i64 0] (l := mtC ⟨L, x, y, root, 0⟩) rfl)
          have HBn := Lib.hid (HBv.out.trans ((oneb vh1 (.cells #[.int .i64 L, .int .i64 x, .int .u16 y, .int .u16 root, .int .i64 0] 90)).mono HBv.out.size))
          refine hK.out _ _ (HmkS.out _ HBn.out) (fun hHeld2 => ?_)
          clear hK K
          obtain ⟨gg, hgg⟩ : ∃ gg, gg = vh1.heap.size := ⟨_, rfl⟩
          rw [← hgg] at HG ⊢
          clear hgg hHeld1 HBv
          generalize (World.alloc vh1 (.cells #[.int .i64 L, .int .i64 x, .int .u16 y, .int .u16 root, .int .i64 0] 90)) = vh2 at HG HBn hHeld2 ⊢
          have HBv := HBn
          clear HBn
          try simp only [Act.put, List.setIfInBounds_toArray, List.set_cons_zero, List.set_cons_succ]
          refine wpAnyH_ready (rs := [13]) (by kernel_rfl) (by simp) ?_
          refine AllReadyH.cons (by first | (simp only [List.getElem?_toArray, List.getElem?_cons_succ, List.getElem?_cons_zero] <;> rfl) | rfl) (fun K hK => ?_) ?_
          · skip
            have hR := Hw4.out.below HBv.out
            have hkk := Hk4.out.kept HBv.out
            obtain ⟨A2, c2, wb, hr, hM2, htb2, hg2, hF2⟩ := hR.run ⟨L, x, y, root, 0⟩ HSmq.out HFit.out HG.out 87
            rw [← HN.out] at hr hM2 htb2 hF2
            refine op_append (.tmp 40) (.tmp 48) 87 rfl _ _ _ wb rfl rfl hr ?_
            have hk2 := hkk.grown hg2 (fun e => (bk_tyb hkk).ne hR.tyA (by decide) (Option.some.inj e))
            refine hK.out _ _ ⟨htb2.cell 1 rfl, hk2.cell 0 rfl, hk2.cell 1 rfl⟩ (fun hHeld3 => ?_)
            have HM2 := Lib.hid hM2
            have HT2 := Lib.hid htb2
            have HF2 := Lib.hid (HF4.out.trans ((Fr.ofBelow HBv.out).trans hF2))
            have HK2 := Lib.hid hk2
            clear hK K hr hR hkk hM2 htb2 hg2 hF2 hk2 HBv hHeld2
            try simp only [Act.put, List.setIfInBounds_toArray, List.set_cons_zero, List.set_cons_succ]
            refine wpAnyH_take (i := 14) (v := ?_) (by first | (simp only [List.getElem?_toArray, List.getElem?_cons_succ, List.getElem?_cons_zero] <;> rfl) | rfl) (by kernel_rfl) (by kernel_rfl) (by kernel_rfl) (by exact fun _ _ _ h => h) (Or.inl ⟨by rfl, ?_⟩) hHeld3 ?_
            rotate_left 1
            · intro w hSw
              try dsimp only at hSw
              (go_simp) <;> (with_reducible rfl)
            try simp only [Act.put, List.setIfInBounds_toArray, List.set_cons_zero, List.set_cons_succ]
            refine wpAnyH_take (i := 15) (v := ?_) (by first | (simp only [List.getElem?_toArray, List.getElem?_cons_succ, List.getElem?_cons_zero] <;> rfl) | rfl) (by kernel_rfl) (by kernel_rfl) (by kernel_rfl) (by exact fun _ _ _ h => h) (Or.inl ⟨by rfl, ?_⟩) hHeld3 ?_
            rotate_left 1
            · intro w hSw
              try dsimp only at hSw
              (go_simp) <;> (with_reducible rfl)
            try simp only [Act.put, List.setIfInBounds_toArray, List.set_cons_zero, List.set_cons_succ]
            refine wpAnyH_ready (rs := [16]) (by kernel_rfl) (by simp) ?_
            refine AllReadyH.cons (by first | (simp only [List.getElem?_toArray, List.getElem?_cons_succ, List.getElem?_cons_zero] <;> rfl) | rfl) (fun K hK => ?_) ?_
            · skip
              have r0 := HT2.out.cell 0 rfl
              have r1 := HT2.out.fz 0
              have r2 := HT2.out.lt
              have s1 := (HT2.out.set 0 (.slice (some ⟨A2, 0, none⟩) (N + 1) c2)).cell 1 rfl
              have hk3 := HK2.out.grown (only_set wb tb 0 (.slice (some ⟨A2, 0, none⟩) (N + 1) c2)) (fun e => (bk_tyb HK2.out).ne (bk_tyb HT2.out) (by decide) (Option.some.inj e))
              go_simp
              refine hK.out _ _ ⟨s1, hk3.cell 0 rfl, hk3.cell 1 rfl⟩ (fun hHeld4 => ?_)
              clear hK K r0 r1 r2 s1 hk3 hHeld3 hHeld4
              try simp only [Act.put, List.setIfInBounds_toArray, List.set_cons_zero, List.set_cons_succ]
              refine wpAnyH_done (by kernel_rfl) ?_ _
              have m1 := HM2.out.c1
              have m2 := HM2.out.tab.lt
              go_wp2_with fail
              go_ret2
              unfold BindP
              rw [HE2.out, if_pos rfl, if_pos rfl, if_pos rfl, ← HLe.out]
              exact ⟨rfl, ⟨A2, c2, HM2.out⟩, HF2.out⟩
            exact AllReadyH.nil
          exact AllReadyH.nil
        exact AllReadyH.nil
      refine AllReadyH.cons (by first | (simp only [List.getElem?_toArray, List.getElem?_cons_succ, List.getElem?_cons_zero] <;> rfl) | rfl) (fun K hK => ?_) ?_
      · go_simp
        have HG := Lib.hid (Bk.new vh0 90 #[.int .i64 L, .int .i64 x, .int .u16 y, .int .u16 root, .int .i64 0] (l := mtC ⟨L, x, y, root, 0⟩) rfl)
        have HBn := Lib.hid (HBv.out.trans ((oneb vh0 (.cells #[.int .i64 L, .int .i64 x, .int .u16 y, .int .u16 root, .int .i64 0] 90)).mono HBv.out.size))
        refine hK.out _ _ (HmkS.out _ HBn.out) (fun hHeld1 => ?_)
        clear hK K
        obtain ⟨gg, hgg⟩ : ∃ gg, gg = vh0.heap.size := ⟨_, rfl⟩
        rw [← hgg] at HG ⊢
        clear hgg hHeld0 HBv
        generalize (World.alloc vh0 (.cells #[.int .i64 L, .int .i64 x, .int .u16 y, .int .u16 root, .int .i64 0] 90)) = vh1 at HG HBn hHeld1 ⊢
        have HBv := HBn
        clear HBn
        try simp only [Act.put, List.setIfInBounds_toArray, List.set_cons_zero, List.set_cons_succ]
        refine wpAnyH_ready (rs := [4]) (by kernel_rfl) (by simp) ?_
        refine AllReadyH.cons (by first | (simp only [List.getElem?_toArray, List.getElem?_cons_succ, List.getElem?_cons_zero] <;> rfl) | rfl) (fun K hK => ?_) ?_
        · skip
          have hc := (Hw4.out.below HBv.out).c0
          rw [← HN.out] at hc
          go_simp
          refine hK.out _ _ hHeld1 (fun hHeld2 => ?_)
          clear hK K hHeld1
          try clear hc
          rename World => vh2
          try simp only [Act.put, List.setIfInBounds_toArray, List.set_cons_zero, List.set_cons_succ]
          refine wpAnyH_ready (rs := [13]) (by kernel_rfl) (by simp) ?_
          refine AllReadyH.cons (by first | (simp only [List.getElem?_toArray, List.getElem?_cons_succ, List.getElem?_cons_zero] <;> rfl) | rfl) (fun K hK => ?_) ?_
          · skip
            have hR := Hw4.out.below HBv.out
            have hkk := Hk4.out.kept HBv.out
            obtain ⟨A2, c2, wb, hr, hM2, htb2, hg2, hF2⟩ := hR.run ⟨L, x, y, root, 0⟩ HSmq.out HFit.out HG.out 87
            rw [← HN.out] at hr hM2 htb2 hF2
            refine op_append (.tmp 40) (.tmp 48) 87 rfl _ _ _ wb rfl rfl hr ?_
            have hk2 := hkk.grown hg2 (fun e => (bk_tyb hkk).ne hR.tyA (by decide) (Option.some.inj e))
            refine hK.out _ _ ⟨htb2.cell 1 rfl, hk2.cell 0 rfl, hk2.cell 1 rfl⟩ (fun hHeld3 => ?_)
            have HM2 := Lib.hid hM2
            have HT2 := Lib.hid htb2
            have HF2 := Lib.hid (HF4.out.trans ((Fr.ofBelow HBv.out).trans hF2))
            have HK2 := Lib.hid hk2
            clear hK K hr hR hkk hM2 htb2 hg2 hF2 hk2 HBv hHeld2
            try simp only [Act.put, List.setIfInBounds_toArray, List.set_cons_zero, List.set_cons_succ]
            refine wpAnyH_take (i := 14) (v := ?_) (by first | (simp only [List.getElem?_toArray, List.getElem?_cons_succ, List.getElem?_cons_zero] <;> rfl) | rfl) (by kernel_rfl) (by kernel_rfl) (by kernel_rfl) (by exact fun _ _ _ h => h) (Or.inl ⟨by rfl, ?_⟩) hHeld3 ?_
            rotate_left 1
            · intro w hSw
              try dsimp only at hSw
              (go_simp) <;> (with_reducible rfl)
            try simp only [Act.put, List.setIfInBounds_toArray, List.set_cons_zero, List.set_cons_succ]
            refine wpAnyH_take (i := 15) (v := ?_) (by first | (simp only [List.getElem?_toArray, List.getElem?_cons_succ, List.getElem?_cons_zero] <;> rfl) | rfl) (by kernel_rfl) (by kernel_rfl) (by kernel_rfl) (by exact fun _ _ _ h => h) (Or.inl ⟨by rfl, ?_⟩) hHeld3 ?_
            rotate_left 1
            · intro w hSw
              try dsimp only at hSw
              (go_simp) <;> (with_reducible rfl)
            try simp only [Act.put, List.setIfInBounds_toArray, List.set_cons_zero, List.set_cons_succ]
            refine wpAnyH_ready (rs := [16]) (by kernel_rfl) (by simp) ?_
            refine AllReadyH.cons (by first | (simp only [List.getElem?_toArray, List.getElem?_cons_succ, List.getElem?_cons_zero] <;> rfl) | rfl) (fun K hK => ?_) ?_
            · skip
              have r0 := HT2.out.cell 0 rfl
              have r1 := HT2.out.fz 0
              have r2 := HT2.out.lt
              have s1 := (HT2.out.set 0 (.slice (some ⟨A2, 0, none⟩) (N + 1) c2)).cell 1 rfl
              have hk3 := HK2.out.grown (only_set wb tb 0 (.slice (some ⟨A2, 0, none⟩) (N + 1) c2)) (fun e => (bk_tyb HK2.out).ne (bk_tyb HT2.out) (by decide) (Option.some.inj e))
              go_simp
              refine hK.out _ _ ⟨s1, hk3.cell 0 rfl, hk3.cell 1 rfl⟩ (fun hHeld4 => ?_)
              clear hK K r0 r1 r2 s1 hk3 hHeld3 hHeld4
              try simp only [Act.put, List.setIfInBounds_toArray, List.set_cons_zero, List.set_cons_succ]
              refine wpAnyH_done (by kernel_rfl) ?_ _
              have m1 := HM2.out.c1
              have m2 := HM2.out.tab.lt
              go_wp2_with fail
              go_ret2
              unfold BindP
              rw [HE2.out, if_pos rfl, if_pos rfl, if_pos rfl, ← HLe.out]
              exact ⟨rfl, ⟨A2, c2, HM2.out⟩, HF2.out⟩
            exact AllReadyH.nil
          exact AllReadyH.nil
        exact AllReadyH.nil
      exact AllReadyH.nil
  · have HE2 := Lib.hid (show bindE M (x, y) = 16 by rw [HE.out, if_pos (by rw [h2]; exact fun e => by cases e)])
    have Hv := Lib.hid h1
    have hj : (0 : Int) ≤ (j : Int) := by omega
    clear h1 h2 h3 h4 h5 h hb hp hl c0
    go_enter Try.func25, Try.ntmps25
    go_wp2_with fail
    refine hi.mono ?_
    rintro e w2 ⟨rfl, hb2⟩
    have Hk := Lib.hid (Hx.out.kept hb2)
    have HB := Lib.hid (Hb.out.trans (hb2.mono Hb.out.size))
    clear hb2 hi
    obtain ⟨l0, k0, k1, f0, f1⟩ := Bk.all2 Hk.out
    go_wp2_with fail
    refine (standing_any (Hh.out.below HB.out) (x, y)).mono ?_
    rintro e w3 ⟨rfl, hb3⟩
    have Hk3 := Lib.hid (Hk.out.kept hb3)
    have HB3 := Lib.hid (HB.out.trans (hb3.mono HB.out.size))
    clear hb3 l0 k0 k1 f0 f1
    rw [Hv.out]
    go_wp2_with fail
    go_ret2
    exact bind_noP HE2.out (by decide) rfl ⟨A, c, Hh.out.below HB3.out⟩ (Fr.ofBelow HB3.out)
end
end Go.Proofs.Ytmbgmbheonpamaa.Mt
