/- A rule's branch behind a case's others. -/
import Derived.Test.YtgdoampokcpagaaIrP
import Derived.Test.YtgdoampokcpagaaGs
namespace Go.Proofs.Ytgdoampokcpagaa.Ir
open Go.RowKit Go.WideElems
theorem infoBr : (Try.prog.info? 63).map (fun i => (i.zero, i.size, i.bytes)) = some (some (.agg #[.slice none 0 0, .int .u32 0]), 2, 32) := by kernel_rfl
section
variable {w0 wr w' : World} {cs : List CaV} {num : Nat} {lb : List BrV} {g cap : Nat} {vB : Value} {Bb pb d : Nat}
theorem PS.cell (h : PS w0 wr cs num lb g cap vB Bb pb d) : wr.cell? ⟨g, cs.length * 2 + 1, none⟩ = some vB ∧ wr.frozen? ⟨g, cs.length * 2 + 1, none⟩ = false ∧ g < wr.heap.size := by
  refine or_cell h.row ?_
  rw [List.getElem?_append_right (by rw [flat2]; omega), flat2, show cs.length * 2 + 1 - cs.length * 2 = 1 from by omega]; rfl
theorem PS.run (h : PS w0 wr cs num lb g cap vB Bb pb d) (b : BrV) (hc : Con wr b) (hn : lb.length ≤ 60000) (ty : TypeId) :
    ∃ v' wb, (Builtin.append_ #[57, 57] ty #[vB, .slice (some ⟨wr.heap.size, 0, none⟩) 1 1]).run Try.prog (wr.alloc (.cells #[.slice b.A b.m.conds.length b.cap, .int .u32 b.m.act] 63)) = .ok v' wb ∧
      PS w0 (wb.setCell ⟨g, cs.length * 2 + 1, none⟩ v') cs num (lb ++ [b]) g cap v' Bb pb d ∧ wb.cell? ⟨g, cs.length * 2 + 1, none⟩ = some vB ∧ wb.frozen? ⟨g, cs.length * 2 + 1, none⟩ = false ∧ g < wb.heap.size := by
  obtain ⟨i0, hi, hz0, hz1, hz2⟩ := info_parts infoBr
  have hk := h.kept (oneb wr (.cells #[.slice b.A b.m.conds.length b.cap, .int .u32 b.m.act] 63))
  have hB : Bk (wr.alloc (.cells #[.slice b.A b.m.conds.length b.cap, .int .u32 b.m.act] 63)) wr.heap.size 63 b.cells := Bk.new wr _ _ rfl
  obtain ⟨v', wb, hr, ho, hg, _, _⟩ := run_append_own_at (P := Try.prog) (wr.alloc (.cells #[.slice b.A b.m.conds.length b.cap, .int .u32 b.m.act] 63)) Bb 57 ty 63 i0 _ 2 32 Try.underlying57 hi hz0 hz1 hz2 rfl (by decide) vB lb.length (lb.flatMap BrV.cells) hk.brs ⟨wr.heap.size, 0, none⟩ 1 1 b.cells (by rfl) (fun j u hu => by rw [addr_at, Nat.zero_add]; exact hB.cell j hu) (by intro u hu; simp [BrV.cells] at hu; rcases hu with rfl | rfl <;> rfl) (by unfold maxLen; omega) (by omega) hk.hb.2
  have htb : ∀ k, vB.ownBlock = some k → TyB (wr.alloc (.cells #[.slice b.A b.m.conds.length b.cap, .int .u32 b.m.act] 63)) k 63 := by obtain ⟨_, _, _, _, _, h1, _⟩ := own_typed hk.brs; exact h1
  have hrow := own_appended hk.row hg htb (by decide)
  have h2 := or_cell (j := cs.length * 2 + 1) (u := vB) hrow (by rw [List.getElem?_append_right (by rw [flat2]; omega), flat2, show cs.length * 2 + 1 - cs.length * 2 = 1 from by omega]; rfl)
  exact ⟨v', wb, hr, hk.addBr (hc.below (oneb wr _)) ho hg, h2.1, h2.2.1, h2.2.2⟩
theorem flatBr (l : List BrV) : ∀ (k : Nat) {b : BrV}, l[k]? = some b → (l.flatMap BrV.cells)[k * 2]? = some (.slice b.A b.m.conds.length b.cap) := by
  induction l with
  | nil => intro k b hk; simp at hk
  | cons x t ih =>
    intro k b hk
    cases k with
    | zero => simp at hk; subst hk; rfl
    | succ k =>
      rw [List.flatMap_cons, List.getElem?_append_right (by show 2 ≤ _; omega), show (k + 1) * 2 - x.cells.length = k * 2 from by show (k + 1) * 2 - 2 = _; omega]
      exact ih k (by simpa using hk)
theorem br_cells {w : World} {B n gb c : Nat} {l : List BrV} {b : BrV} (h : w.ownsRow B 63 2 (.slice (some ⟨gb, 0, none⟩) n c) n (l.flatMap BrV.cells)) {k : Nat} (hk : l[k]? = some b) : w.cell? ⟨gb, k * 2, none⟩ = some (.slice b.A b.m.conds.length b.cap) := by
  exact (or_cell h (flatBr l k hk)).1
end
set_option maxHeartbeats 8000000 in
set_option maxRecDepth 100000 in
theorem add_any (w0 wr : World) (cs : List CaV) (num : Nat) (lb : List BrV) (g cap : Nat) (vB : Value) (Bb pb d : Nat) (xn act n : Nat) (cl : List CondM) (A : Option Addr) (cp : Nat) (h : PS w0 wr cs num lb g cap vB Bb pb d) (hok : ∀ c ∈ cl, c.ok) (hn : cl.length = n) (hn2 : n ≤ 60000) (hlb : lb.length ≤ 60000) (hr : Rd wr 4 n A (cl.flatMap CondM.cells)) :
    Calls Try.prog 25 #[.pointer (some ⟨g, cs.length * 2, none⟩), .agg #[.int .u32 xn, .int .u32 act, .slice A n cp]] wr fun e w' => e = .returned (.tuple #[]) ∧ ∃ lb' vB', lb'.map BrV.m = addF (lb.map BrV.m) ⟨xn, act, cl⟩ ∧ PS w0 w' cs num lb' g cap vB' Bb pb d := by
  obtain ⟨W, hW⟩ : ∃ W, W = wr.alloc (.cells #[.int .u32 xn, .int .u32 act, .slice A n cp] 56) := ⟨_, rfl⟩
  have hbx : Bk W wr.heap.size 56 [.int .u32 xn, .int .u32 act, .slice A n cp] := by rw [hW]; exact Bk.new wr _ _ rfl
  have hb1 : Below wr.heap.size wr W := by rw [hW]; exact oneb wr _
  have HP := Lib.hid (h.kept hb1)
  have HR := Lib.hid (hr.below hb1)
  have HOK := Lib.hid hok
  have HN := Lib.hid hn
  have HBx := Lib.hid hbx
  go_enter Try.func25, Try.ntmps25
  go_upto_region 1 with fail
  rw [← hW]
  generalize wr.heap.size = xb at *
  clear hW hb1 hbx h hr hok hn
  obtain ⟨k0, k1, k2⟩ := HP.out.cell
  obtain ⟨Ab, cb, rfl⟩ := own_slice HP.out.brs
  have y1 := HBx.out.cell 1 rfl
  have y2 := HBx.out.cell 2 rfl
  have yl := HBx.out.lt
  obtain ⟨bb, hbb⟩ : ∃ bb, bb = fullB (lb.map BrV.m) := ⟨_, rfl⟩
  have HBB := Lib.hid hbb
  clear hbb
  go_upto_region 2 with fail
  go_cut [26] from 12 to 26 (fun s26 wx => s26 = .bool bb ∧ wx = W)
  case first =>
    by_cases hz : lb.length = 0
    · have hz2 : ¬ (0 : Int) < (lb.length : Int) := by omega
      have e0 : bb = false := by rw [HBB.out, List.length_eq_zero_iff.1 hz]; rfl
      subst e0
      clear hz
      go_wp2_with fail
      go_meet
      case rel => exact ⟨rfl, rfl⟩
    · obtain ⟨k, hk⟩ : ∃ k, lb.length = k + 1 := ⟨lb.length - 1, by omega⟩
      obtain ⟨b, hb⟩ : ∃ b, lb[k]? = some b := ⟨_, List.getElem?_eq_getElem (by omega)⟩
      obtain ⟨gb, rfl⟩ : ∃ gb, Ab = some ⟨gb, 0, none⟩ := by
        obtain ⟨_, ⟨h2, h3⟩ | ⟨g', _, _, h2, _⟩⟩ := HP.out.brs
        · exact absurd h3 hz
        · injection h2 with h2; exact ⟨g', h2⟩
      have x0 := br_cells HP.out.brs hb
      have xl : gb < W.heap.size := by
        obtain ⟨_, ⟨h2, h3⟩ | ⟨g', _, _, h2, _, h4, _⟩⟩ := HP.out.brs
        · exact absurd h3 hz
        · injection h2 with h2; injection h2 with h2; injection h2 with h2; subst h2; exact (Array.getElem?_eq_some_iff.1 h4).1
      have e0 : bb = decide (b.m.conds.length = 0) := by
        rw [HBB.out]; unfold fullB; rw [List.getLast?_eq_getElem?, List.length_map, hk, List.getElem?_map, show k + 1 - 1 = k from rfl, hb]
        show b.m.conds.isEmpty = _
        cases b.m.conds <;> simp
      have z1 : (0 : Int) < (lb.length : Int) := by omega
      have z2 : ((lb.length : Int) - 1).toNat = k := by omega
      have z3 : (0 : Int) ≤ (lb.length : Int) - 1 := by omega
      have z4 : (lb.length : Int) - 1 < (lb.length : Int) := by omega
      have z5 : IntKind.i64.wrap ((lb.length : Int) - 1) = (lb.length : Int) - 1 := by rw [IntKind.wrap_i64]; omega
      subst e0
      clear hz hk hb
      go_wp2_with fail
      go_meet
      case rel => exact ⟨by congr 1; rw [Bool.eq_iff_iff]; simp, rfl⟩
  case rest =>
    obtain ⟨rfl, rfl⟩ := hcut
    cases hb : bb with
    | true =>
      rw [hb] at HBB
      have HV := Lib.hid (show addF (lb.map BrV.m) ⟨xn, act, cl⟩ = lb.map BrV.m by unfold addF; rw [if_pos HBB.out.symm])
      clear hb
      go_wp2_with fail
      (try simp only [Exit.inBlock, Exit.then]); refine bodyPost_ret (results_none rfl _ _ _) rfl ?_
      exact ⟨rfl, lb, _, HV.out.symm, HP.out⟩
    | false =>
      rw [hb] at HBB
      clear hb
      go_wp2_with fail
      refine (needed_any cl n A cp _ HOK.out HN.out hn2 HR.out).mono ?_
      clear k0 k1 k2 y1 y2 yl
      rintro e w5 ⟨hb5, hm⟩
      have HP5 := Lib.hid (HP.out.kept hb5)
      have hbx5 := HBx.out.kept hb5
      obtain ⟨k0, k1, k2⟩ := HP5.out.cell
      have y1 := hbx5.cell 1 rfl
      have yl := hbx5.lt
      clear hb5 hbx5
      cases hF : needF [] [] cl with
      | none =>
        rw [hF] at hm
        have HV := Lib.hid (show addF (lb.map BrV.m) ⟨xn, act, cl⟩ = lb.map BrV.m by unfold addF; rw [if_neg (by rw [← HBB.out]; decide)]; simp only [hF])
        subst hm
        clear hF
        go_wp2_with fail
        go_end0
        exact ⟨rfl, lb, _, HV.out.symm, HP5.out⟩
      | some left =>
        rw [hF] at hm
        have HV := Lib.hid (show addF (lb.map BrV.m) ⟨xn, act, cl⟩ = lb.map BrV.m ++ [⟨left, act⟩] by unfold addF; rw [if_neg (by rw [← HBB.out]; decide)]; simp only [hF])
        obtain ⟨AL, cL, rfl, hown⟩ := hm
        have HC5 : Hid (Con w5 ⟨⟨left, act⟩, AL, cL⟩) := by
          obtain ⟨A1, c1, h1, _, h2, _⟩ := own_typed hown
          cases h1
          exact Lib.hid h2
        clear hF hown
        go_wp2_with fail
        refine wp_region_any (by kernel_rfl) ?_
        try (change wpAny _ _ _ _ _ _ _ (World.drew _))
        refine wpAny_take (i := 0) (v := ?_) rfl (by kernel_rfl) (by kernel_rfl) (by kernel_rfl) (fun _ _ _ h => h) (Or.inl ⟨by rfl, ?_⟩) ?_
        rotate_left 1
        · intro w
          (go_simp) <;> (with_reducible rfl)
        refine wpAny_take (i := 1) (v := ?_) rfl (by kernel_rfl) (by kernel_rfl) (by kernel_rfl) (fun _ _ _ h => h) (Or.inl ⟨by rfl, ?_⟩) ?_
        rotate_left 1
        · intro w
          (go_simp) <;> (with_reducible rfl)
        refine wpAny_take (i := 2) (v := ?_) rfl (by kernel_rfl) (by kernel_rfl) (by kernel_rfl) (fun _ _ _ h => h) (Or.inl ⟨by rfl, ?_⟩) ?_
        rotate_left 1
        · intro w
          (go_simp) <;> (with_reducible rfl)
        refine wpAny_take (i := 3) (v := ?_) rfl (by kernel_rfl) (by kernel_rfl) (by kernel_rfl) (fun _ _ _ h => h) (Or.inl ⟨by rfl, ?_⟩) ?_
        rotate_left 1
        · intro w
          (go_simp) <;> (with_reducible rfl)
        refine wpAny_take (i := 5) (v := ?_) rfl (by kernel_rfl) (by kernel_rfl) (by kernel_rfl) (fun _ _ _ h => h) (Or.inl ⟨by rfl, ?_⟩) ?_
        rotate_left 1
        · intro w
          (go_simp) <;> (with_reducible rfl)
        refine wpAny_take (i := 6) (v := ?_) rfl (by kernel_rfl) (by kernel_rfl) (by kernel_rfl) (fun _ _ _ h => h) (Or.inl ⟨by rfl, ?_⟩) ?_
        rotate_left 1
        · intro w
          (go_simp) <;> (with_reducible rfl)
        refine wpAny_ready (rs := [4, 7]) (by kernel_rfl) (by simp) ?_
        refine AllReady.cons rfl (fun K hK => ?_) ?_
        · skip
          go_simp
          refine hK _ _ ?_
          clear hK K
          refine wpAny_ready (rs := [7]) (by kernel_rfl) (by simp) ?_
          refine AllReady.cons rfl (fun K hK => ?_) ?_
          · skip
            go_simp
            refine hK _ _ ?_
            clear hK K
            refine wpAny_take (i := 8) (v := ?_) rfl (by kernel_rfl) (by kernel_rfl) (by kernel_rfl) (fun _ _ _ h => h) (Or.inl ⟨by rfl, ?_⟩) ?_
            rotate_left 1
            · intro w
              (go_simp) <;> (with_reducible rfl)
            refine wpAny_ready (rs := [9]) (by kernel_rfl) (by simp) ?_
            refine AllReady.cons rfl (fun K hK => ?_) ?_
            · skip
              go_simp
              refine hK _ _ ?_
              clear hK K
              refine wpAny_ready (rs := [10]) (by kernel_rfl) (by simp) ?_
              refine AllReady.cons rfl (fun K hK => ?_) ?_
              · skip
                rw [if_pos (by rfl)]
                obtain ⟨v', wb, hr, hPS, r0, r1, r2⟩ := PS.run (HP5.out.kept (Below.refl _ _).drew) ⟨⟨left, act⟩, AL, cL⟩ (HC5.out.below (Below.refl _ _).drew) hlb 57
                obtain ⟨Av, cv9, hve⟩ := own_slice hPS.brs
                obtain ⟨nl, hnl⟩ : ∃ nl, nl = (lb ++ [(⟨⟨left, act⟩, AL, cL⟩ : BrV)]).length := ⟨_, rfl⟩
                rw [← hnl] at hve
                clear hnl
                subst hve
                have HPS := Lib.hid hPS
                refine op_append (.tmp 38) (.tmp 43) 57 rfl _ _ _ wb rfl rfl hr ?_
                refine hK _ _ ?_
                clear hK K hr hPS k0 k1 k2 y1 yl
                refine wpAny_take (i := 11) (v := ?_) rfl (by kernel_rfl) (by kernel_rfl) (by kernel_rfl) (fun _ _ _ h => h) (Or.inl ⟨by rfl, ?_⟩) ?_
                rotate_left 1
                · intro w
                  (go_simp) <;> (with_reducible rfl)
                refine wpAny_take (i := 12) (v := ?_) rfl (by kernel_rfl) (by kernel_rfl) (by kernel_rfl) (fun _ _ _ h => h) (Or.inl ⟨by rfl, ?_⟩) ?_
                rotate_left 1
                · intro w
                  (go_simp) <;> (with_reducible rfl)
                refine wpAny_ready (rs := [13]) (by kernel_rfl) (by simp) ?_
                refine AllReady.cons rfl (fun K hK => ?_) ?_
                · skip
                  go_simp
                  refine hK _ _ ?_
                  clear hK K
                  refine wpAny_done (by kernel_rfl) ?_ _
                  go_wp2_with fail
                  go_end0
                  exact ⟨rfl, _, _, by rw [List.map_append]; exact HV.out.symm, HPS.out⟩
                exact AllReady.nil
              exact AllReady.nil
            exact AllReady.nil
          exact AllReady.nil
        refine AllReady.cons rfl (fun K hK => ?_) ?_
        · skip
          go_simp
          refine hK _ _ ?_
          clear hK K
          refine wpAny_take (i := 8) (v := ?_) rfl (by kernel_rfl) (by kernel_rfl) (by kernel_rfl) (fun _ _ _ h => h) (Or.inl ⟨by rfl, ?_⟩) ?_
          rotate_left 1
          · intro w
            (go_simp) <;> (with_reducible rfl)
          refine wpAny_ready (rs := [4, 9]) (by kernel_rfl) (by simp) ?_
          refine AllReady.cons rfl (fun K hK => ?_) ?_
          · skip
            go_simp
            refine hK _ _ ?_
            clear hK K
            refine wpAny_ready (rs := [9]) (by kernel_rfl) (by simp) ?_
            refine AllReady.cons rfl (fun K hK => ?_) ?_
            · skip
              go_simp
              refine hK _ _ ?_
              clear hK K
              refine wpAny_ready (rs := [10]) (by kernel_rfl) (by simp) ?_
              refine AllReady.cons rfl (fun K hK => ?_) ?_
              · skip
                rw [if_pos (by rfl)]
                obtain ⟨v', wb, hr, hPS, r0, r1, r2⟩ := PS.run (HP5.out.kept (Below.refl _ _).drew) ⟨⟨left, act⟩, AL, cL⟩ (HC5.out.below (Below.refl _ _).drew) hlb 57
                obtain ⟨Av, cv9, hve⟩ := own_slice hPS.brs
                obtain ⟨nl, hnl⟩ : ∃ nl, nl = (lb ++ [(⟨⟨left, act⟩, AL, cL⟩ : BrV)]).length := ⟨_, rfl⟩
                rw [← hnl] at hve
                clear hnl
                subst hve
                have HPS := Lib.hid hPS
                refine op_append (.tmp 38) (.tmp 43) 57 rfl _ _ _ wb rfl rfl hr ?_
                refine hK _ _ ?_
                clear hK K hr hPS k0 k1 k2 y1 yl
                refine wpAny_take (i := 11) (v := ?_) rfl (by kernel_rfl) (by kernel_rfl) (by kernel_rfl) (fun _ _ _ h => h) (Or.inl ⟨by rfl, ?_⟩) ?_
                rotate_left 1
                · intro w
                  (go_simp) <;> (with_reducible rfl)
                refine wpAny_take (i := 12) (v := ?_) rfl (by kernel_rfl) (by kernel_rfl) (by kernel_rfl) (fun _ _ _ h => h) (Or.inl ⟨by rfl, ?_⟩) ?_
                rotate_left 1
                · intro w
                  (go_simp) <;> (with_reducible rfl)
                refine wpAny_ready (rs := [13]) (by kernel_rfl) (by simp) ?_
                refine AllReady.cons rfl (fun K hK => ?_) ?_
                · skip
                  go_simp
                  refine hK _ _ ?_
                  clear hK K
                  refine wpAny_done (by kernel_rfl) ?_ _
                  go_wp2_with fail
                  go_end0
                  exact ⟨rfl, _, _, by rw [List.map_append]; exact HV.out.symm, HPS.out⟩
                exact AllReady.nil
              exact AllReady.nil
            exact AllReady.nil
          refine AllReady.cons rfl (fun K hK => ?_) ?_
          · skip
            go_simp
            refine hK _ _ ?_
            clear hK K
            refine wpAny_ready (rs := [4]) (by kernel_rfl) (by simp) ?_
            refine AllReady.cons rfl (fun K hK => ?_) ?_
            · skip
              go_simp
              refine hK _ _ ?_
              clear hK K
              refine wpAny_ready (rs := [10]) (by kernel_rfl) (by simp) ?_
              refine AllReady.cons rfl (fun K hK => ?_) ?_
              · skip
                rw [if_pos (by rfl)]
                obtain ⟨v', wb, hr, hPS, r0, r1, r2⟩ := PS.run (HP5.out.kept (Below.refl _ _).drew) ⟨⟨left, act⟩, AL, cL⟩ (HC5.out.below (Below.refl _ _).drew) hlb 57
                obtain ⟨Av, cv9, hve⟩ := own_slice hPS.brs
                obtain ⟨nl, hnl⟩ : ∃ nl, nl = (lb ++ [(⟨⟨left, act⟩, AL, cL⟩ : BrV)]).length := ⟨_, rfl⟩
                rw [← hnl] at hve
                clear hnl
                subst hve
                have HPS := Lib.hid hPS
                refine op_append (.tmp 38) (.tmp 43) 57 rfl _ _ _ wb rfl rfl hr ?_
                refine hK _ _ ?_
                clear hK K hr hPS k0 k1 k2 y1 yl
                refine wpAny_take (i := 11) (v := ?_) rfl (by kernel_rfl) (by kernel_rfl) (by kernel_rfl) (fun _ _ _ h => h) (Or.inl ⟨by rfl, ?_⟩) ?_
                rotate_left 1
                · intro w
                  (go_simp) <;> (with_reducible rfl)
                refine wpAny_take (i := 12) (v := ?_) rfl (by kernel_rfl) (by kernel_rfl) (by kernel_rfl) (fun _ _ _ h => h) (Or.inl ⟨by rfl, ?_⟩) ?_
                rotate_left 1
                · intro w
                  (go_simp) <;> (with_reducible rfl)
                refine wpAny_ready (rs := [13]) (by kernel_rfl) (by simp) ?_
                refine AllReady.cons rfl (fun K hK => ?_) ?_
                · skip
                  go_simp
                  refine hK _ _ ?_
                  clear hK K
                  refine wpAny_done (by kernel_rfl) ?_ _
                  go_wp2_with fail
                  go_end0
                  exact ⟨rfl, _, _, by rw [List.map_append]; exact HV.out.symm, HPS.out⟩
                exact AllReady.nil
              exact AllReady.nil
            exact AllReady.nil
          exact AllReady.nil
        exact AllReady.nil
end Go.Proofs.Ytgdoampokcpagaa.Ir

