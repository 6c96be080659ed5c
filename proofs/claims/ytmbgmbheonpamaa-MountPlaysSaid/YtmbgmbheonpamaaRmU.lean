/- The document's Unmount. -/
import Derived.Test.YtmbgmbheonpamaaRmB
namespace Go.Proofs.Ytmbgmbheonpamaa.Mt
open Go.RowKit Go.Maps Go.WideElems In
theorem own_someM {w : World} {B : Nat} {e : TypeId} {z n c : Nat} {A9 : Option Addr} {xs : List Value} (ho : w.ownsRow B e z (.slice A9 n c) n xs) (hn : 0 < n) : ∃ q, A9 = some ⟨q, 0, none⟩ := by
  rcases ho.2 with ⟨e, e2⟩ | ⟨b, cap, cur, e, _⟩
  · cases e; omega
  · cases e; exact ⟨b, rfl⟩
theorem own_geM {w : World} {n : Nat} {e : TypeId} {z : Nat} {v : Value} {xs : List Value} {B : Nat} (h : w.ownsRow B e z v n xs) : ∀ g, v.ownBlock = some g → B ≤ g := by
  intro g hg
  obtain ⟨h1, ⟨h2, h3⟩ | ⟨g', cap, cur, h2, h3, h4, h5⟩⟩ := h
  · subst h2; cases hg
  · subst h2; cases hg; exact h3
theorem own_monoM {w : World} {B B' : Nat} {e : TypeId} {z n : Nat} {v : Value} {xs : List Value} (h : w.ownsRow B e z v n xs) (hB : B' ≤ B) : w.ownsRow B' e z v n xs := by
  obtain ⟨h1, h2 | ⟨g, cap, cur, e, h3, h4⟩⟩ := h
  · exact ⟨h1, Or.inl h2⟩
  · exact ⟨h1, Or.inr ⟨g, cap, cur, e, Nat.le_trans hB h3, h4⟩⟩
section
variable {w w' : World} {B tb A c : Nat} {nv lv cv : Value} {M : Ms} {last : Int}
theorem RmR.rd (h : RmR w B tb nv lv cv M last A c) : Rd w 5 M.length (some ⟨A, 0, none⟩) (M.flatMap rmC) := by
  obtain ⟨A', c', e, _, hr, _⟩ := own_typed h.row
  cases e
  exact hr.rd
theorem rflat_take (M : Ms) (k : Nat) : (M.flatMap rmC).take (k * 5) = (M.take k).flatMap rmC := by
  induction M generalizing k with
  | nil => simp
  | cons m M ih =>
    cases k with
    | zero => simp
    | succ k => rw [List.flatMap_cons, List.take_succ_cons, List.flatMap_cons, List.take_append, ← ih k, show (k + 1) * 5 - (rmC m).length = k * 5 from by show (k + 1) * 5 - 5 = k * 5; omega, List.take_of_length_le (by show 5 ≤ _; omega)]
theorem rflat_drop (M : Ms) (k : Nat) : (M.flatMap rmC).drop (k * 5) = (M.drop k).flatMap rmC := by
  induction M generalizing k with
  | nil => simp
  | cons m M ih =>
    cases k with
    | zero => simp
    | succ k => rw [List.flatMap_cons, List.drop_succ_cons, List.drop_append, ← ih k, show (k + 1) * 5 - (rmC m).length = k * 5 from by show (k + 1) * 5 - 5 = k * 5; omega, List.drop_of_length_le (by show 5 ≤ _; omega)]; simp
theorem rm_ones (l : Ms) : ∀ u ∈ l.flatMap rmC, u.oneCell' = true := fun u hu => by
  obtain ⟨x, _, hx⟩ := List.mem_flatMap.1 hu
  exact rm_one x u hx
def RDropP (B tb : Nat) (nv lv cv : Value) (M : Ms) (last : Int) (p : Pl) (w : World) (e : Ending) (w' : World) : Prop :=
  e = .returned (.int .i64 (dropE M p)) ∧ Rmt w' B tb nv lv cv (if dropE M p = 0 then cutF M (ixN (isId p.1) M) else M) last ∧ FrN B w w'
theorem rdrop_noP {E : Int} {p : Pl} (hE : dropE M p = E) (h0 : E ≠ 0) {e : Ending} (he : e = .returned (.int .i64 E)) (h : Rmt w' B tb nv lv cv M last) (hf : FrN B w w') : RDropP B tb nv lv cv M last p w e w' := by
  unfold RDropP
  rw [hE, if_neg h0]
  exact ⟨he, h, hf⟩
/-- Behind the last store. -/
theorem RmR.cutRow (h : RmR w B tb nv lv cv M last A c) {i A' c' : Nat} (hi : i < M.length) (hf : Fit (cutF M i) last) {N : Nat} (hN : N = M.length) (ho : w.ownsRow B 94 5 (.slice (some ⟨A', 0, none⟩) (N - 1) c') (N - 1) ((cutF M i).flatMap rmC)) :
    RmR (w.setCell ⟨tb, 2, none⟩ (.slice (some ⟨A', 0, none⟩) (N - 1) c')) B tb nv lv cv (cutF M i) last A' c' := by
  have hlen : (cutF M i).length = N - 1 := by unfold cutF; rw [List.length_eraseIdx_of_lt hi, hN]
  have hs2 := only_set w tb 2 (.slice (some ⟨A', 0, none⟩) (N - 1) c')
  have hsub : (cutF M i).Sublist M := List.eraseIdx_sublist M i
  have hty : TyB w A' 94 := by
    obtain ⟨_, _, _, _, _, q, _⟩ := own_typed ho
    exact q A' rfl
  refine ⟨?_, ?_, h.hB, fun m hm => h.sm m (hsub.subset hm), hf, h.last⟩
  · rw [hlen]; exact h.tab.set 2 _
  · rw [hlen]; exact own_keep ho hs2 (fun b hb e => by cases hb; exact hty.ne (bk_tyb h.tab) (by decide) e)
set_option maxRecDepth 100000 in
set_option maxHeartbeats 8000000 in
theorem runm_any (h : RmR w B tb nv lv cv M last A c) (p : Pl) : Calls Try.prog 29 #[.pointer (some ⟨tb, 0, none⟩), rpV p] w (RDropP B tb nv lv cv M last p w) := by
  obtain ⟨x, y⟩ := p
  obtain ⟨W0, hW0⟩ : ∃ W0, W0 = w.alloc (.cells #[.int .i64 x, .int .i64 y] 81) := ⟨_, rfl⟩
  have Hb := Lib.hid (show Below w.heap.size w W0 by rw [hW0]; exact oneb _ _)
  have Hx := Lib.hid (show Bk W0 w.heap.size 81 [.int .i64 x, .int .i64 y] by rw [hW0]; exact Bk.new _ _ _ rfl)
  have HW0 := Lib.hid hW0
  have Hh0 := Lib.hid h
  have Hh := Lib.hid (h.below Hb.out)
  have hd := rdown_any Hh.out (x, y)
  have hlen := h.fit.len
  unfold rpV at hd ⊢
  dsimp only at hd ⊢
  clear hW0
  cases hdn : downF M (x, y) with
  | none =>
    rw [hdn] at hd
    have HE := Lib.hid (show dropE M (x, y) = 22 by unfold dropE; rw [if_pos hdn])
    clear hdn h
    go_enter Try.func29, Try.ntmps29
    go_wp2_with fail
    rw [← HW0.out]
    obtain ⟨l0, k0, k1, f0, f1⟩ := Bk.all2 Hx.out
    go_wp2_with fail
    refine hd.mono ?_
    rintro e w2 ⟨rfl, hb2⟩
    have HB2 := Lib.hid (Hb.out.trans (hb2.mono Hb.out.size))
    have Hx2 := Lib.hid (Hx.out.kept hb2)
    have H2 := Lib.hid (Hh.out.below hb2)
    clear hb2 hd l0 k0 k1 f0 f1
    unfold rpV
    dsimp only [Option.getD_none, Option.getD_some, Option.isSome_none, Option.isSome_some]
    have HB3 := Lib.hid (HB2.out.trans ((oneb w2 (.cells #[.int .i64 0, .int .i64 0] 81)).mono HB2.out.size))
    go_wp2_with fail
    go_ret
    exact rdrop_noP HE.out (by decide) rfl ⟨A, c, Hh0.out.below HB3.out⟩ (Fr.ofBelow HB3.out)
  | some pl =>
    rw [hdn] at hd
    obtain ⟨m, hm, hm0, hroot⟩ : ∃ m, M.find? (isId x) = some m ∧ m.id ≠ 0 ∧ m.root = y := by
      unfold downF at hdn
      cases hf : M.find? (isId x) with
      | none => rw [show ((x, y) : Pl).1 = x from rfl, hf] at hdn; cases hdn
      | some m =>
        rw [show ((x, y) : Pl).1 = x from rfl, hf] at hdn
        by_cases hc : m.id ≠ 0 ∧ m.root = y
        · exact ⟨m, rfl, hc.1, hc.2⟩
        · simp only [if_neg hc] at hdn; cases hdn
    have hE : dropE M (x, y) = if 0 < m.held ∨ M.any (inB x) = true then 16 else 0 := by
      unfold dropE; rw [if_neg (by rw [hdn]; exact fun e => by cases e), show ((x, y) : Pl).1 = x from rfl, hm]
    rcases idxF_find (q := isId x) (l := M) with ⟨h1, h2, _⟩ | ⟨i, m', h1, h2, h3, h4, hi5, _⟩
    · rw [h2] at hm; cases hm
    obtain rfl : m' = m := Option.some.inj (h2.symm.trans hm)
    have hi1 : 1 ≤ i := by
      rcases Nat.eq_zero_or_pos i with e | e
      · obtain ⟨q, M', eM⟩ := h.fit.first
        rw [e, eM] at h3
        simp at h3
        rw [← h3] at hm0
        exact absurd rfl hm0
      · exact e
    have hid : m'.id = x := by unfold isId at h4; exact of_decide_eq_true h4
    have HFit0 := Lib.hid (fun (hno : M.any (inB x) = false) => fit_cut h.fit h3 hm0 (by rw [hid]; exact hno))
    have HM := Lib.hid h3
    have Hi := Lib.hid h1
    obtain ⟨v, hv⟩ : ∃ v, v = m'.held := ⟨_, rfl⟩
    have HV := Lib.hid hv
    obtain ⟨N, hN⟩ : ∃ N, N = M.length := ⟨_, rfl⟩
    have HN := Lib.hid hN
    have hs := (h.sm m' (List.mem_of_getElem? h3)).held
    rw [← hv] at hs hE
    rw [← hN] at hlen hi5
    have HE16 := Lib.hid (fun (hk : M.any (inB x) = true) => hE.trans (if_pos (.inr hk)))
    have HEv := Lib.hid (fun (hk : 0 < v) => hE.trans (if_pos (.inl hk)))
    have HE00' := Lib.hid (fun (hk : ¬ 0 < v) (hno : M.any (inB x) = false) => hE.trans (if_neg (by rintro (q | q); exact hk q; rw [hno] at q; cases q)))
    clear hdn hm hm0 hroot hE h1 h2 h3 h4 hid hv hN h
    by_cases q0 : 0 < v
    · have HE := Lib.hid (HEv.out q0)
      go_enter Try.func29, Try.ntmps29
      go_wp2_with fail
      rw [← HW0.out]
      obtain ⟨l0, k0, k1, f0, f1⟩ := Bk.all2 Hx.out
      go_wp2_with fail
      refine hd.mono ?_
      rintro e w2 ⟨rfl, hb2⟩
      have HB2 := Lib.hid (Hb.out.trans (hb2.mono Hb.out.size))
      have Hx2 := Lib.hid (Hx.out.kept hb2)
      have H2 := Lib.hid (Hh.out.below hb2)
      clear hb2 hd l0 k0 k1 f0 f1
      unfold rpV
      dsimp only [Option.getD_none, Option.getD_some, Option.isSome_none, Option.isSome_some]
      have HB3 := Lib.hid (HB2.out.trans ((oneb w2 (.cells #[.int .i64 pl.1, .int .i64 pl.2] 81)).mono HB2.out.size))
      have Hx3 := Lib.hid (Hx2.out.alloc (.cells #[.int .i64 pl.1, .int .i64 pl.2] 81))
      have H3 := Lib.hid (H2.out.below (oneb w2 (.cells #[.int .i64 pl.1, .int .i64 pl.2] 81)))
      have hi := rfind_any H3.out x
      rw [Hi.out] at hi
      obtain ⟨l0, k0, k1, -, -⟩ := Bk.all2 Hx3.out
      have c2 := H3.out.c2
      rw [← HN.out] at c2
      have ht := H3.out.tab.lt
      have hA := H3.out.tyA.lt
      obtain ⟨-, -, -, -, d4⟩ := H3.out.cells5 HM.out
      rw [← HV.out] at d4
      go_wp2_with fail
      refine hi.mono ?_
      rintro e w4 ⟨rfl, rfl⟩
      clear hi
      go_wp2_with fail
      go_ret
      exact rdrop_noP HE.out (by decide) rfl ⟨A, c, Hh0.out.below HB3.out⟩ (Fr.ofBelow HB3.out)
    · have hv0 : v = 0 := by omega
      have HE00 := Lib.hid (HE00'.out q0)
      clear q0 hs
      subst hv0
      go_enter Try.func29, Try.ntmps29
      go_wp2_with fail
      rw [← HW0.out]
      obtain ⟨l0, k0, k1, f0, f1⟩ := Bk.all2 Hx.out
      go_wp2_with fail
      refine hd.mono ?_
      rintro e w2 ⟨rfl, hb2⟩
      have HB2 := Lib.hid (Hb.out.trans (hb2.mono Hb.out.size))
      have Hx2 := Lib.hid (Hx.out.kept hb2)
      have H2 := Lib.hid (Hh.out.below hb2)
      clear hb2 hd l0 k0 k1 f0 f1
      unfold rpV
      dsimp only [Option.getD_none, Option.getD_some, Option.isSome_none, Option.isSome_some]
      have HB3 := Lib.hid (HB2.out.trans ((oneb w2 (.cells #[.int .i64 pl.1, .int .i64 pl.2] 81)).mono HB2.out.size))
      have Hx3 := Lib.hid (Hx2.out.alloc (.cells #[.int .i64 pl.1, .int .i64 pl.2] 81))
      have H3 := Lib.hid (H2.out.below (oneb w2 (.cells #[.int .i64 pl.1, .int .i64 pl.2] 81)))
      have hi := rfind_any H3.out x
      rw [Hi.out] at hi
      obtain ⟨l0, k0, k1, -, -⟩ := Bk.all2 Hx3.out
      have c2 := H3.out.c2
      rw [← HN.out] at c2
      have ht := H3.out.tab.lt
      have hA := H3.out.tyA.lt
      obtain ⟨-, -, -, -, d4⟩ := H3.out.cells5 HM.out
      rw [← HV.out] at d4
      go_wp2_with fail
      refine hi.mono ?_
      rintro e w4 ⟨rfl, rfl⟩
      clear hi
      generalize w2.alloc (.cells #[.int .i64 pl.1, .int .i64 pl.2] 81) = w3 at HB3 Hx3 H3 l0 k0 k1 c2 ht hA d4 ⊢
      go_wp2_with fail
      go_loopw [8] (fun v wx => ∃ j : Nat, v = .int .i64 j ∧ j ≤ N ∧ Hid (∀ q m, q < j → M[q]? = some m → inB x m = false) ∧ Hid (Below w3.heap.size w3 wx)) (fun v _ => N - (intOf v).toNat)
      case atStart => exact ⟨0, rfl, by omega, fun q m hq _ => absurd hq (by omega), Below.refl _ _⟩
      case round =>
        obtain ⟨j, rfl, hj, Hg, HBw⟩ := hrel
        have hw := H3.out.below HBw.out
        have c2 := hw.c2
        rw [← HN.out] at c2
        have ht := hw.tab.lt
        have hA := hw.tyA.lt
        obtain ⟨l0, k0, k1, -, -⟩ := Bk.all2 (Hx3.out.kept HBw.out)
        by_cases hlt : j < N
        · obtain ⟨m2, hm2⟩ : ∃ m2, M[j]? = some m2 := ⟨_, List.getElem?_eq_getElem (by rw [← HN.out]; exact hlt)⟩
          obtain ⟨d0, -, d2, -, -⟩ := hw.cells5 hm2
          have Hm2 := Lib.hid hm2
          have HNo := Lib.hid (fun (hq : inB x m2 = false) => (show ∀ q m, q < j + 1 → M[q]? = some m → inB x m = false from fun q m hq2 hm => by
            by_cases e : q = j
            · subst e; rw [Hm2.out] at hm; cases hm; exact hq
            · exact Hg.out q m (by omega) hm))
          by_cases q0 : m2.id = 0
          · have Hn := Lib.hid (HNo.out (decide_eq_false (fun k => k.1 q0)))
            have e0 : (m2.id != 0) = false := by simp [q0]
            clear hm2 hw q0
            go_wp2_with fail
            refine wp_region_quiet_lit (by kernel_rfl) (by kernel_rfl) ?_
            repeat (any_goals (first | go_big_quiet_step (fail) | quiet_step (fail)))
            refine wpQuiet_nil ?_
            intro wv hwv
            have HBv := Lib.hid (show Below wr.heap.size wr wv by obtain ⟨q, rfl⟩ := hwv; exact below_drewN (Below.refl _ _) q)
            clear hwv
            clear c2 ht hA l0 k0 k1 d0 d2
            go_wp2_with fail
            go_roundw
            case rel => exact ⟨j + 1, by go_num, by omega, Hn, Lib.hid (HBw.out.trans (HBv.out.mono HBw.out.size))⟩
            case measure => simp [intOf]; omega
          have e0 : (m2.id != 0) = true := by simp [q0]
          by_cases qa : m2.am = x
          · have HE := Lib.hid (HE16.out (List.any_eq_true.2 ⟨m2, List.mem_of_getElem? hm2, decide_eq_true ⟨q0, qa⟩⟩))
            have e1 : (m2.am == x) = true := by simp [qa]
            clear hm2 hw q0 qa
            go_wp2_with fail
            refine wp_region_quiet_lit (by kernel_rfl) (by kernel_rfl) ?_
            repeat (any_goals (first | go_big_quiet_step (fail) | quiet_step (fail)))
            refine wpQuiet_nil ?_
            intro wv hwv
            have HBv := Lib.hid (show Below wr.heap.size wr wv by obtain ⟨q, rfl⟩ := hwv; exact below_drewN (Below.refl _ _) q)
            clear hwv
            have HBf := Lib.hid (HB3.out.trans ((HBw.out.trans (HBv.out.mono HBw.out.size)).mono HB3.out.size))
            clear c2 ht hA l0 k0 k1 d0 d2
            go_wp2_with fail
            go_ret
            exact rdrop_noP HE.out (by decide) rfl ⟨A, c, Hh0.out.below HBf.out⟩ (Fr.ofBelow HBf.out)
          · have Hn := Lib.hid (HNo.out (decide_eq_false (fun k => qa k.2)))
            have e1 : (m2.am == x) = false := by simp [qa]
            clear hm2 hw q0 qa
            go_wp2_with fail
            refine wp_region_quiet_lit (by kernel_rfl) (by kernel_rfl) ?_
            repeat (any_goals (first | go_big_quiet_step (fail) | quiet_step (fail)))
            refine wpQuiet_nil ?_
            intro wv hwv
            have HBv := Lib.hid (show Below wr.heap.size wr wv by obtain ⟨q, rfl⟩ := hwv; exact below_drewN (Below.refl _ _) q)
            clear hwv
            clear c2 ht hA l0 k0 k1 d0 d2
            go_wp2_with fail
            go_roundw
            case rel => exact ⟨j + 1, by go_num, by omega, Hn, Lib.hid (HBw.out.trans (HBv.out.mono HBw.out.size))⟩
            case measure => simp [intOf]; omega
        · have hno : M.any (inB x) = false := List.any_eq_false.2 fun m hm => by
            obtain ⟨q, hq⟩ := List.mem_iff_getElem?.1 hm
            rw [Hg.out q m (by have := (List.getElem?_eq_some_iff.1 hq).1; have := HN.out; omega) hq]; decide
          have HE0 := Lib.hid (HE00.out hno)
          have HFit := Lib.hid (HFit0.out hno)
          have HB5 := Lib.hid (HB3.out.trans (HBw.out.mono HB3.out.size))
          have H5 := Lib.hid hw
          clear hno hw HBw Hg
          go_wp2_with fail
          clear c2 ht hA l0 k0 k1
          rename World => W5
          have HBv := Lib.hid (Below.refl W5.heap.size W5).drew
          have hcap : N ≤ c := by
            have hrow := H5.out.row
            rw [← HN.out] at hrow
            rcases hrow.2 with ⟨e, _⟩ | ⟨g, cap, cur, e, _, _, h1, h2, _⟩
            · cases e
            · cases e; exact h1
          obtain ⟨AA, hAA, HAA⟩ : ∃ AA : Addr, (if c = i + 1 then some (⟨A, 0, none⟩ : Addr) else some ⟨A, (i + 1) * 5, none⟩) = some AA ∧ Hid (∀ W, Below W5.heap.size W5 W → Rd W 5 (N - (i + 1)) (some AA) ((M.drop (i + 1)).flatMap rmC)) := by
            by_cases hc : c = i + 1
            · refine ⟨⟨A, 0, none⟩, by simp [hc], fun W hW => ?_⟩
              have h0 : N - (i + 1) = 0 := by omega
              rw [h0, List.drop_of_length_le (by rw [← HN.out]; omega)]
              exact Rd.nil _ _ _
            · refine ⟨⟨A, (i + 1) * 5, none⟩, by simp [hc], fun W hW => ?_⟩
              have hq := rd_dr (H5.out.below hW).rd (m := i + 1) (by rw [← HN.out]; omega)
              rw [rflat_drop, addr_at, Nat.zero_add, ← HN.out] at hq
              exact hq
          have g1 : i ≤ c := by omega
          have g2 : i + 1 ≤ c := by omega
          have g3 : i + 1 ≤ N := by omega
          have g4 : (0 : Int) ≤ (i : Int) + 1 := by omega
          have g5 : (i : Int) + 1 ≤ (N : Int) := by omega
          have g6 : IntKind.i64.wrap ((i : Int) + 1) = (i : Int) + 1 := by rw [IntKind.wrap_i64]; omega
          have g7 : ((i : Int) + 1).toNat = i + 1 := by omega
          refine wp_region_held_drew (S := (fun _ => True)) (by kernel_rfl) ?_ (fun hHeld0 => ?_)
          · exact trivial
          generalize World.drew W5 = vh0 at hHeld0 HBv ⊢
          refine wpAnyH_take (i := 0) (v := ?_) (by first | (simp only [List.getElem?_toArray, List.getElem?_cons_zero] <;> rfl) | rfl) (by kernel_rfl) (by kernel_rfl) (by kernel_rfl) (by exact fun _ _ _ h => h) (Or.inl ⟨by rfl, ?_⟩) hHeld0 ?_
          rotate_left 1
          · intro w hSw
            try dsimp only at hSw
            (go_simp) <;> (with_reducible rfl)
          try simp only [Act.put, List.setIfInBounds_toArray, List.set_cons_zero, List.set_cons_succ]
          refine wpAnyH_take (i := 2) (v := ?_) (by first | (simp only [List.getElem?_toArray, List.getElem?_cons_succ, List.getElem?_cons_zero] <;> rfl) | rfl) (by kernel_rfl) (by kernel_rfl) (by kernel_rfl) (by exact fun _ _ _ h => h) (Or.inl ⟨by rfl, ?_⟩) hHeld0 ?_
          rotate_left 1
          · intro w hSw
            try dsimp only at hSw
            (go_simp) <;> (with_reducible rfl)
          try simp only [Act.put, List.setIfInBounds_toArray, List.set_cons_zero, List.set_cons_succ]
          refine wpAnyH_take (i := 3) (v := ?_) (by first | (simp only [List.getElem?_toArray, List.getElem?_cons_succ, List.getElem?_cons_zero] <;> rfl) | rfl) (by kernel_rfl) (by kernel_rfl) (by kernel_rfl) (by exact fun _ _ _ h => h) (Or.inl ⟨by rfl, ?_⟩) hHeld0 ?_
          rotate_left 1
          · intro w hSw
            try dsimp only at hSw
            (go_simp) <;> (with_reducible rfl)
          try simp only [Act.put, List.setIfInBounds_toArray, List.set_cons_zero, List.set_cons_succ]
          refine wpAnyH_take (i := 4) (v := ?_) (by first | (simp only [List.getElem?_toArray, List.getElem?_cons_succ, List.getElem?_cons_zero] <;> rfl) | rfl) (by kernel_rfl) (by kernel_rfl) (by kernel_rfl) (by exact fun _ _ _ h => h) (Or.inl ⟨by rfl, ?_⟩) hHeld0 ?_
          rotate_left 1
          · intro w hSw
            try dsimp only at hSw
            (go_simp) <;> (with_reducible rfl)
          try simp only [Act.put, List.setIfInBounds_toArray, List.set_cons_zero, List.set_cons_succ]
          refine wpAnyH_take (i := 6) (v := ?_) (by first | (simp only [List.getElem?_toArray, List.getElem?_cons_succ, List.getElem?_cons_zero] <;> rfl) | rfl) (by kernel_rfl) (by kernel_rfl) (by kernel_rfl) (by exact fun _ _ _ h => h) (Or.inl ⟨by rfl, ?_⟩) hHeld0 ?_
          rotate_left 1
          · intro w hSw
            try dsimp only at hSw
            (go_simp) <;> (with_reducible rfl)
          try simp only [Act.put, List.setIfInBounds_toArray, List.set_cons_zero, List.set_cons_succ]
          refine wpAnyH_take (i := 9) (v := ?_) (by first | (simp only [List.getElem?_toArray, List.getElem?_cons_succ, List.getElem?_cons_zero] <;> rfl) | rfl) (by kernel_rfl) (by kernel_rfl) (by kernel_rfl) (by exact fun _ _ _ h => h) (Or.inl ⟨by rfl, ?_⟩) hHeld0 ?_
          rotate_left 1
          · intro w hSw
            try dsimp only at hSw
            (go_simp) <;> (with_reducible rfl)
          try simp only [Act.put, List.setIfInBounds_toArray, List.set_cons_zero, List.set_cons_succ]
          refine wpAnyH_take (i := 10) (v := ?_) (by first | (simp only [List.getElem?_toArray, List.getElem?_cons_succ, List.getElem?_cons_zero] <;> rfl) | rfl) (by kernel_rfl) (by kernel_rfl) (by kernel_rfl) (by exact fun _ _ _ h => h) (Or.inl ⟨by rfl, ?_⟩) hHeld0 ?_
          rotate_left 1
          · intro w hSw
            try dsimp only at hSw
            (go_simp) <;> (with_reducible rfl)
          try simp only [Act.put, List.setIfInBounds_toArray, List.set_cons_zero, List.set_cons_succ]
          refine wpAnyH_take (i := 11) (v := ?_) (by first | (simp only [List.getElem?_toArray, List.getElem?_cons_succ, List.getElem?_cons_zero] <;> rfl) | rfl) (by kernel_rfl) (by kernel_rfl) (by kernel_rfl) (by exact fun _ _ _ h => h) (Or.inl ⟨by rfl, ?_⟩) hHeld0 ?_
          rotate_left 1
          · intro w hSw
            try dsimp only at hSw
            (go_simp) <;> (with_reducible rfl)
          try simp only [Act.put, List.setIfInBounds_toArray, List.set_cons_zero, List.set_cons_succ]
          refine wpAnyH_take (i := 13) (v := ?_) (by first | (simp only [List.getElem?_toArray, List.getElem?_cons_succ, List.getElem?_cons_zero] <;> rfl) | rfl) (by kernel_rfl) (by kernel_rfl) (by kernel_rfl) (by exact fun _ _ _ h => h) (Or.inl ⟨by rfl, ?_⟩) hHeld0 ?_
          rotate_left 1
          · intro w hSw
            try dsimp only at hSw
            (go_simp) <;> (with_reducible rfl)
          try simp only [Act.put, List.setIfInBounds_toArray, List.set_cons_zero, List.set_cons_succ]
          refine wpAnyH_take (i := 14) (v := ?_) (by first | (simp only [List.getElem?_toArray, List.getElem?_cons_succ, List.getElem?_cons_zero] <;> rfl) | rfl) (by kernel_rfl) (by kernel_rfl) (by kernel_rfl) (by exact fun _ _ _ h => h) (Or.inl ⟨by rfl, ?_⟩) hHeld0 ?_
          rotate_left 1
          · intro w hSw
            try dsimp only at hSw
            (go_simp) <;> (with_reducible rfl)
          try simp only [Act.put, List.setIfInBounds_toArray, List.set_cons_zero, List.set_cons_succ]
          refine wpAnyH_ready (rs := [1, 5, 12]) (by kernel_rfl) (by simp) ?_
          refine AllReadyH.cons (by first | (simp only [List.getElem?_toArray, List.getElem?_cons_succ, List.getElem?_cons_zero] <;> rfl) | rfl) (fun K hK => ?_) ?_
          · skip
            go_simp
            have HO := Lib.hid (World.ownsRow_lit (base := W5.heap.size) (e := 94) (size := 5) vh0 #[] 0 HBv.out.size (by unfold maxLen; omega) rfl)
            have HBn := Lib.hid (HBv.out.trans ((oneb vh0 (.cells #[] 94)).mono HBv.out.size))
            refine hK.out _ _ trivial (fun hHeld1 => ?_)
            clear hK K hHeld0
            obtain ⟨gg, hgg⟩ : ∃ gg, gg = vh0.heap.size := ⟨_, rfl⟩
            rw [← hgg] at HO ⊢
            have Hgg := Lib.hid (show W5.heap.size ≤ gg by rw [hgg]; exact HBv.out.size)
            clear hgg HBv
            generalize World.alloc vh0 (.cells #[] 94) = vh1 at HO HBn hHeld1 ⊢
            have HBv := HBn
            clear HBn
            try simp only [Act.put, List.setIfInBounds_toArray, List.set_cons_zero, List.set_cons_succ]
            refine wpAnyH_ready (rs := [5, 12]) (by kernel_rfl) (by simp) ?_
            refine AllReadyH.cons (by first | (simp only [List.getElem?_toArray, List.getElem?_cons_succ, List.getElem?_cons_zero] <;> rfl) | rfl) (fun K hK => ?_) ?_
            · skip
              have hc := (H5.out.below HBv.out).c2
              rw [← HN.out] at hc
              go_simp
              refine hK.out _ _ trivial (fun hHeld2 => ?_)
              clear hK K hHeld1
              try clear hc
              rename World => vh2
              try simp only [Act.put, List.setIfInBounds_toArray, List.set_cons_zero, List.set_cons_succ]
              refine wpAnyH_take (i := 7) (v := ?_) (by first | (simp only [List.getElem?_toArray, List.getElem?_cons_succ, List.getElem?_cons_zero] <;> rfl) | rfl) (by kernel_rfl) (by kernel_rfl) (by kernel_rfl) (by exact fun _ _ _ h => h) (Or.inl ⟨by rfl, ?_⟩) hHeld2 ?_
              rotate_left 1
              · intro w hSw
                try dsimp only at hSw
                (go_simp) <;> (with_reducible rfl)
              try simp only [Act.put, List.setIfInBounds_toArray, List.set_cons_zero, List.set_cons_succ]
              refine wpAnyH_ready (rs := [8, 12]) (by kernel_rfl) (by simp) ?_
              refine AllReadyH.cons (by first | (simp only [List.getElem?_toArray, List.getElem?_cons_succ, List.getElem?_cons_zero] <;> rfl) | rfl) (fun K hK => ?_) ?_
              · skip
                obtain ⟨v8, wb, hr, ho, hg, hat⟩ := run_list8 54 54 94 _ 5 40 infoRm Try.underlying54 rfl (by decide) (by decide) W5.heap.size (.slice (some ⟨gg, 0, none⟩) 0 0) 0 [] HO.out (some ⟨A, 0, none⟩) i c ((M.take i).flatMap rmC) (by have hq := rd_tk (H5.out.below HBv.out).rd (m := i) (by rw [← HN.out]; omega); rw [rflat_take] at hq; exact hq) (rm_ones _) (by omega) HBv.out.size
                rw [Nat.zero_add, List.nil_append] at ho
                obtain ⟨A8, c8, rfl, o1, -, -, -⟩ := own_typed ho
                refine op_append (.tmp 63) (.tmp 69) 54 rfl _ _ _ wb rfl rfl hr ?_
                have HBn := Lib.hid (show Below W5.heap.size W5 wb from HBv.out.grown hg HBv.out.size (fun q hq => by cases hq; exact Hgg.out))
                have HO8 := Lib.hid ho
                have Hgn := Lib.hid (show ∀ q, (Value.slice A8 i c8).ownBlock = some q → W5.heap.size ≤ q from fun q hq => (own_geM ho q hq))
                refine hK.out _ _ trivial (fun hHeld3 => ?_)
                clear hK K hr ho hg hat hHeld2 o1 HBv HO
                have HBv := HBn
                have HO := HO8
                clear HBn HO8
                rename World => vh3
                try simp only [Act.put, List.setIfInBounds_toArray, List.set_cons_zero, List.set_cons_succ]
                refine wpAnyH_ready (rs := [12]) (by kernel_rfl) (by simp) ?_
                refine AllReadyH.cons (by first | (simp only [List.getElem?_toArray, List.getElem?_cons_succ, List.getElem?_cons_zero] <;> rfl) | rfl) (fun K hK => ?_) ?_
                · skip
                  have hc := (H5.out.below HBv.out).c2
                  rw [← HN.out] at hc
                  go_simp
                  refine hK.out _ _ trivial (fun hHeld4 => ?_)
                  clear hK K hHeld3
                  try clear hc
                  rename World => vh4
                  try simp only [Act.put, List.setIfInBounds_toArray, List.set_cons_zero, List.set_cons_succ]
                  refine wpAnyH_take (i := 15) (v := ?_) (by first | (simp only [List.getElem?_toArray, List.getElem?_cons_succ, List.getElem?_cons_zero] <;> rfl) | rfl) (by kernel_rfl) (by kernel_rfl) (by kernel_rfl) (by exact fun _ _ _ h => h) (Or.inl ⟨by rfl, ?_⟩) hHeld4 ?_
                  rotate_left 1
                  · intro w hSw
                    try dsimp only at hSw
                    (go_simp) <;> (with_reducible rfl)
                  try simp only [Act.put, List.setIfInBounds_toArray, List.set_cons_zero, List.set_cons_succ]
                  refine wpAnyH_ready (rs := [16]) (by kernel_rfl) (by simp) ?_
                  refine AllReadyH.cons (by first | (simp only [List.getElem?_toArray, List.getElem?_cons_succ, List.getElem?_cons_zero] <;> rfl) | rfl) (fun K hK => ?_) ?_
                  · skip
                    obtain ⟨v9, wb, hr, ho, hg, hat⟩ := run_list8 54 54 94 _ 5 40 infoRm Try.underlying54 rfl (by decide) (by decide) W5.heap.size (.slice A8 i c8) i ((M.take i).flatMap rmC) HO.out (some AA) (N - (i + 1)) (c - (i + 1)) ((M.drop (i + 1)).flatMap rmC) (HAA.out _ HBv.out) (rm_ones _) (by omega) HBv.out.size
                    rw [← List.flatMap_append, show M.take i ++ M.drop (i + 1) = cutF M i from by unfold cutF; rw [List.eraseIdx_eq_take_drop_succ], show i + (N - (i + 1)) = N - 1 by omega] at ho
                    obtain ⟨A9, c9, rfl, o1, -, -, o4⟩ := own_typed ho
                    obtain ⟨q9, rfl⟩ := own_someM ho (by omega)
                    refine op_append (.tmp 70) (.tmp 77) 54 rfl _ _ _ wb rfl rfl hr ?_
                    have HBn := Lib.hid (show Below W5.heap.size W5 wb from HBv.out.grown hg HBv.out.size (fun q hq => Hgn.out q hq))
                    have HO9 := Lib.hid ho
                    refine hK.out _ _ trivial (fun hHeld5 => ?_)
                    clear hK K hr ho hg hat hHeld4 o1 o4 HBv HO
                    have HBv := HBn
                    have HO := HO9
                    clear HBn HO9
                    rename World => vh5
                    try simp only [Act.put, List.setIfInBounds_toArray, List.set_cons_zero, List.set_cons_succ]
                    refine wpAnyH_take (i := 17) (v := ?_) (by first | (simp only [List.getElem?_toArray, List.getElem?_cons_succ, List.getElem?_cons_zero] <;> rfl) | rfl) (by kernel_rfl) (by kernel_rfl) (by kernel_rfl) (by exact fun _ _ _ h => h) (Or.inl ⟨by rfl, ?_⟩) hHeld5 ?_
                    rotate_left 1
                    · intro w hSw
                      try dsimp only at hSw
                      (go_simp) <;> (with_reducible rfl)
                    try simp only [Act.put, List.setIfInBounds_toArray, List.set_cons_zero, List.set_cons_succ]
                    refine wpAnyH_take (i := 18) (v := ?_) (by first | (simp only [List.getElem?_toArray, List.getElem?_cons_succ, List.getElem?_cons_zero] <;> rfl) | rfl) (by kernel_rfl) (by kernel_rfl) (by kernel_rfl) (by exact fun _ _ _ h => h) (Or.inl ⟨by rfl, ?_⟩) hHeld5 ?_
                    rotate_left 1
                    · intro w hSw
                      try dsimp only at hSw
                      (go_simp) <;> (with_reducible rfl)
                    try simp only [Act.put, List.setIfInBounds_toArray, List.set_cons_zero, List.set_cons_succ]
                    refine wpAnyH_ready (rs := [19]) (by kernel_rfl) (by simp) ?_
                    refine AllReadyH.cons (by first | (simp only [List.getElem?_toArray, List.getElem?_cons_succ, List.getElem?_cons_zero] <;> rfl) | rfl) (fun K hK => ?_) ?_
                    · skip
                      have hR := H5.out.below HBv.out
                      have r0 := hR.c2
                      rw [← HN.out] at r0
                      have r1 := hR.fzT 2
                      have r2 := hR.tab.lt
                      have HR9 := Lib.hid (hR.cutRow (i := i) (by rw [← HN.out]; exact hi5) HFit.out HN.out (own_monoM HO.out (Nat.le_of_lt H5.out.lt)))
                      have HF9 := Lib.hid ((Fr.ofBelow HB5.out : FrN B w W5).trans ((Fr.ofBelow HBv.out).trans (FrN.tab hR 2 (.slice (some ⟨q9, 0, none⟩) (N - 1) c9))))
                      go_simp
                      refine hK.out _ _ trivial (fun hHeld6 => ?_)
                      clear hK K r0 r1 r2 hHeld5 hHeld6 hR
                      try simp only [Act.put, List.setIfInBounds_toArray, List.set_cons_zero, List.set_cons_succ]
                      refine wpAnyH_done (by kernel_rfl) ?_ _
                      go_wp2_with fail
                      go_ret
                      unfold RDropP
                      have hix : ixN (isId x) M = i := by unfold ixN; rw [Hi.out]; rfl
                      rw [HE0.out, if_pos rfl]
                      dsimp only
                      rw [hix]
                      exact ⟨rfl, ⟨q9, c9, HR9.out⟩, HF9.out⟩
                    exact AllReadyH.nil
                  exact AllReadyH.nil
                exact AllReadyH.nil
              refine AllReadyH.cons (by first | (simp only [List.getElem?_toArray, List.getElem?_cons_succ, List.getElem?_cons_zero] <;> rfl) | rfl) (fun K hK => ?_) ?_
              · skip
                have hc := (H5.out.below HBv.out).c2
                rw [← HN.out] at hc
                go_simp
                refine hK.out _ _ trivial (fun hHeld3 => ?_)
                clear hK K hHeld2
                try clear hc
                rename World => vh3
                try simp only [Act.put, List.setIfInBounds_toArray, List.set_cons_zero, List.set_cons_succ]
                refine wpAnyH_take (i := 15) (v := ?_) (by first | (simp only [List.getElem?_toArray, List.getElem?_cons_succ, List.getElem?_cons_zero] <;> rfl) | rfl) (by kernel_rfl) (by kernel_rfl) (by kernel_rfl) (by exact fun _ _ _ h => h) (Or.inl ⟨by rfl, ?_⟩) hHeld3 ?_
                rotate_left 1
                · intro w hSw
                  try dsimp only at hSw
                  (go_simp) <;> (with_reducible rfl)
                try simp only [Act.put, List.setIfInBounds_toArray, List.set_cons_zero, List.set_cons_succ]
                refine wpAnyH_ready (rs := [8]) (by kernel_rfl) (by simp) ?_
                refine AllReadyH.cons (by first | (simp only [List.getElem?_toArray, List.getElem?_cons_succ, List.getElem?_cons_zero] <;> rfl) | rfl) (fun K hK => ?_) ?_
                · skip
                  obtain ⟨v8, wb, hr, ho, hg, hat⟩ := run_list8 54 54 94 _ 5 40 infoRm Try.underlying54 rfl (by decide) (by decide) W5.heap.size (.slice (some ⟨gg, 0, none⟩) 0 0) 0 [] HO.out (some ⟨A, 0, none⟩) i c ((M.take i).flatMap rmC) (by have hq := rd_tk (H5.out.below HBv.out).rd (m := i) (by rw [← HN.out]; omega); rw [rflat_take] at hq; exact hq) (rm_ones _) (by omega) HBv.out.size
                  rw [Nat.zero_add, List.nil_append] at ho
                  obtain ⟨A8, c8, rfl, o1, -, -, -⟩ := own_typed ho
                  refine op_append (.tmp 63) (.tmp 69) 54 rfl _ _ _ wb rfl rfl hr ?_
                  have HBn := Lib.hid (show Below W5.heap.size W5 wb from HBv.out.grown hg HBv.out.size (fun q hq => by cases hq; exact Hgg.out))
                  have HO8 := Lib.hid ho
                  have Hgn := Lib.hid (show ∀ q, (Value.slice A8 i c8).ownBlock = some q → W5.heap.size ≤ q from fun q hq => (own_geM ho q hq))
                  refine hK.out _ _ trivial (fun hHeld4 => ?_)
                  clear hK K hr ho hg hat hHeld3 o1 HBv HO
                  have HBv := HBn
                  have HO := HO8
                  clear HBn HO8
                  rename World => vh4
                  try simp only [Act.put, List.setIfInBounds_toArray, List.set_cons_zero, List.set_cons_succ]
                  refine wpAnyH_ready (rs := [16]) (by kernel_rfl) (by simp) ?_
                  refine AllReadyH.cons (by first | (simp only [List.getElem?_toArray, List.getElem?_cons_succ, List.getElem?_cons_zero] <;> rfl) | rfl) (fun K hK => ?_) ?_
                  · skip
                    obtain ⟨v9, wb, hr, ho, hg, hat⟩ := run_list8 54 54 94 _ 5 40 infoRm Try.underlying54 rfl (by decide) (by decide) W5.heap.size (.slice A8 i c8) i ((M.take i).flatMap rmC) HO.out (some AA) (N - (i + 1)) (c - (i + 1)) ((M.drop (i + 1)).flatMap rmC) (HAA.out _ HBv.out) (rm_ones _) (by omega) HBv.out.size
                    rw [← List.flatMap_append, show M.take i ++ M.drop (i + 1) = cutF M i from by unfold cutF; rw [List.eraseIdx_eq_take_drop_succ], show i + (N - (i + 1)) = N - 1 by omega] at ho
                    obtain ⟨A9, c9, rfl, o1, -, -, o4⟩ := own_typed ho
                    obtain ⟨q9, rfl⟩ := own_someM ho (by omega)
                    refine op_append (.tmp 70) (.tmp 77) 54 rfl _ _ _ wb rfl rfl hr ?_
                    have HBn := Lib.hid (show Below W5.heap.size W5 wb from HBv.out.grown hg HBv.out.size (fun q hq => Hgn.out q hq))
                    have HO9 := Lib.hid ho
                    refine hK.out _ _ trivial (fun hHeld5 => ?_)
                    clear hK K hr ho hg hat hHeld4 o1 o4 HBv HO
                    have HBv := HBn
                    have HO := HO9
                    clear HBn HO9
                    rename World => vh5
                    try simp only [Act.put, List.setIfInBounds_toArray, List.set_cons_zero, List.set_cons_succ]
                    refine wpAnyH_take (i := 17) (v := ?_) (by first | (simp only [List.getElem?_toArray, List.getElem?_cons_succ, List.getElem?_cons_zero] <;> rfl) | rfl) (by kernel_rfl) (by kernel_rfl) (by kernel_rfl) (by exact fun _ _ _ h => h) (Or.inl ⟨by rfl, ?_⟩) hHeld5 ?_
                    rotate_left 1
                    · intro w hSw
                      try dsimp only at hSw
                      (go_simp) <;> (with_reducible rfl)
                    try simp only [Act.put, List.setIfInBounds_toArray, List.set_cons_zero, List.set_cons_succ]
                    refine wpAnyH_take (i := 18) (v := ?_) (by first | (simp only [List.getElem?_toArray, List.getElem?_cons_succ, List.getElem?_cons_zero] <;> rfl) | rfl) (by kernel_rfl) (by kernel_rfl) (by kernel_rfl) (by exact fun _ _ _ h => h) (Or.inl ⟨by rfl, ?_⟩) hHeld5 ?_
                    rotate_left 1
                    · intro w hSw
                      try dsimp only at hSw
                      (go_simp) <;> (with_reducible rfl)
                    try simp only [Act.put, List.setIfInBounds_toArray, List.set_cons_zero, List.set_cons_succ]
                    refine wpAnyH_ready (rs := [19]) (by kernel_rfl) (by simp) ?_
                    refine AllReadyH.cons (by first | (simp only [List.getElem?_toArray, List.getElem?_cons_succ, List.getElem?_cons_zero] <;> rfl) | rfl) (fun K hK => ?_) ?_
                    · skip
                      have hR := H5.out.below HBv.out
                      have r0 := hR.c2
                      rw [← HN.out] at r0
                      have r1 := hR.fzT 2
                      have r2 := hR.tab.lt
                      have HR9 := Lib.hid (hR.cutRow (i := i) (by rw [← HN.out]; exact hi5) HFit.out HN.out (own_monoM HO.out (Nat.le_of_lt H5.out.lt)))
                      have HF9 := Lib.hid ((Fr.ofBelow HB5.out : FrN B w W5).trans ((Fr.ofBelow HBv.out).trans (FrN.tab hR 2 (.slice (some ⟨q9, 0, none⟩) (N - 1) c9))))
                      go_simp
                      refine hK.out _ _ trivial (fun hHeld6 => ?_)
                      clear hK K r0 r1 r2 hHeld5 hHeld6 hR
                      try simp only [Act.put, List.setIfInBounds_toArray, List.set_cons_zero, List.set_cons_succ]
                      refine wpAnyH_done (by kernel_rfl) ?_ _
                      go_wp2_with fail
                      go_ret
                      unfold RDropP
                      have hix : ixN (isId x) M = i := by unfold ixN; rw [Hi.out]; rfl
                      rw [HE0.out, if_pos rfl]
                      dsimp only
                      rw [hix]
                      exact ⟨rfl, ⟨q9, c9, HR9.out⟩, HF9.out⟩
                    exact AllReadyH.nil
                  exact AllReadyH.nil
                exact AllReadyH.nil
              exact AllReadyH.nil
            refine AllReadyH.cons (by first | (simp only [List.getElem?_toArray, List.getElem?_cons_succ, List.getElem?_cons_zero] <;> rfl) | rfl) (fun K hK => ?_) ?_
            · skip
              have hc := (H5.out.below HBv.out).c2
              rw [← HN.out] at hc
              go_simp
              refine hK.out _ _ trivial (fun hHeld2 => ?_)
              clear hK K hHeld1
              try clear hc
              rename World => vh2
              try simp only [Act.put, List.setIfInBounds_toArray, List.set_cons_zero, List.set_cons_succ]
              refine wpAnyH_take (i := 15) (v := ?_) (by first | (simp only [List.getElem?_toArray, List.getElem?_cons_succ, List.getElem?_cons_zero] <;> rfl) | rfl) (by kernel_rfl) (by kernel_rfl) (by kernel_rfl) (by exact fun _ _ _ h => h) (Or.inl ⟨by rfl, ?_⟩) hHeld2 ?_
              rotate_left 1
              · intro w hSw
                try dsimp only at hSw
                (go_simp) <;> (with_reducible rfl)
              try simp only [Act.put, List.setIfInBounds_toArray, List.set_cons_zero, List.set_cons_succ]
              refine wpAnyH_ready (rs := [5]) (by kernel_rfl) (by simp) ?_
              refine AllReadyH.cons (by first | (simp only [List.getElem?_toArray, List.getElem?_cons_succ, List.getElem?_cons_zero] <;> rfl) | rfl) (fun K hK => ?_) ?_
              · skip
                have hc := (H5.out.below HBv.out).c2
                rw [← HN.out] at hc
                go_simp
                refine hK.out _ _ trivial (fun hHeld3 => ?_)
                clear hK K hHeld2
                try clear hc
                rename World => vh3
                try simp only [Act.put, List.setIfInBounds_toArray, List.set_cons_zero, List.set_cons_succ]
                refine wpAnyH_take (i := 7) (v := ?_) (by first | (simp only [List.getElem?_toArray, List.getElem?_cons_succ, List.getElem?_cons_zero] <;> rfl) | rfl) (by kernel_rfl) (by kernel_rfl) (by kernel_rfl) (by exact fun _ _ _ h => h) (Or.inl ⟨by rfl, ?_⟩) hHeld3 ?_
                rotate_left 1
                · intro w hSw
                  try dsimp only at hSw
                  (go_simp) <;> (with_reducible rfl)
                try simp only [Act.put, List.setIfInBounds_toArray, List.set_cons_zero, List.set_cons_succ]
                refine wpAnyH_ready (rs := [8]) (by kernel_rfl) (by simp) ?_
                refine AllReadyH.cons (by first | (simp only [List.getElem?_toArray, List.getElem?_cons_succ, List.getElem?_cons_zero] <;> rfl) | rfl) (fun K hK => ?_) ?_
                · skip
                  obtain ⟨v8, wb, hr, ho, hg, hat⟩ := run_list8 54 54 94 _ 5 40 infoRm Try.underlying54 rfl (by decide) (by decide) W5.heap.size (.slice (some ⟨gg, 0, none⟩) 0 0) 0 [] HO.out (some ⟨A, 0, none⟩) i c ((M.take i).flatMap rmC) (by have hq := rd_tk (H5.out.below HBv.out).rd (m := i) (by rw [← HN.out]; omega); rw [rflat_take] at hq; exact hq) (rm_ones _) (by omega) HBv.out.size
                  rw [Nat.zero_add, List.nil_append] at ho
                  obtain ⟨A8, c8, rfl, o1, -, -, -⟩ := own_typed ho
                  refine op_append (.tmp 63) (.tmp 69) 54 rfl _ _ _ wb rfl rfl hr ?_
                  have HBn := Lib.hid (show Below W5.heap.size W5 wb from HBv.out.grown hg HBv.out.size (fun q hq => by cases hq; exact Hgg.out))
                  have HO8 := Lib.hid ho
                  have Hgn := Lib.hid (show ∀ q, (Value.slice A8 i c8).ownBlock = some q → W5.heap.size ≤ q from fun q hq => (own_geM ho q hq))
                  refine hK.out _ _ trivial (fun hHeld4 => ?_)
                  clear hK K hr ho hg hat hHeld3 o1 HBv HO
                  have HBv := HBn
                  have HO := HO8
                  clear HBn HO8
                  rename World => vh4
                  try simp only [Act.put, List.setIfInBounds_toArray, List.set_cons_zero, List.set_cons_succ]
                  refine wpAnyH_ready (rs := [16]) (by kernel_rfl) (by simp) ?_
                  refine AllReadyH.cons (by first | (simp only [List.getElem?_toArray, List.getElem?_cons_succ, List.getElem?_cons_zero] <;> rfl) | rfl) (fun K hK => ?_) ?_
                  · skip
                    obtain ⟨v9, wb, hr, ho, hg, hat⟩ := run_list8 54 54 94 _ 5 40 infoRm Try.underlying54 rfl (by decide) (by decide) W5.heap.size (.slice A8 i c8) i ((M.take i).flatMap rmC) HO.out (some AA) (N - (i + 1)) (c - (i + 1)) ((M.drop (i + 1)).flatMap rmC) (HAA.out _ HBv.out) (rm_ones _) (by omega) HBv.out.size
                    rw [← List.flatMap_append, show M.take i ++ M.drop (i + 1) = cutF M i from by unfold cutF; rw [List.eraseIdx_eq_take_drop_succ], show i + (N - (i + 1)) = N - 1 by omega] at ho
                    obtain ⟨A9, c9, rfl, o1, -, -, o4⟩ := own_typed ho
                    obtain ⟨q9, rfl⟩ := own_someM ho (by omega)
                    refine op_append (.tmp 70) (.tmp 77) 54 rfl _ _ _ wb rfl rfl hr ?_
                    have HBn := Lib.hid (show Below W5.heap.size W5 wb from HBv.out.grown hg HBv.out.size (fun q hq => Hgn.out q hq))
                    have HO9 := Lib.hid ho
                    refine hK.out _ _ trivial (fun hHeld5 => ?_)
                    clear hK K hr ho hg hat hHeld4 o1 o4 HBv HO
                    have HBv := HBn
                    have HO := HO9
                    clear HBn HO9
                    rename World => vh5
                    try simp only [Act.put, List.setIfInBounds_toArray, List.set_cons_zero, List.set_cons_succ]
                    refine wpAnyH_take (i := 17) (v := ?_) (by first | (simp only [List.getElem?_toArray, List.getElem?_cons_succ, List.getElem?_cons_zero] <;> rfl) | rfl) (by kernel_rfl) (by kernel_rfl) (by kernel_rfl) (by exact fun _ _ _ h => h) (Or.inl ⟨by rfl, ?_⟩) hHeld5 ?_
                    rotate_left 1
                    · intro w hSw
                      try dsimp only at hSw
                      (go_simp) <;> (with_reducible rfl)
                    try simp only [Act.put, List.setIfInBounds_toArray, List.set_cons_zero, List.set_cons_succ]
                    refine wpAnyH_take (i := 18) (v := ?_) (by first | (simp only [List.getElem?_toArray, List.getElem?_cons_succ, List.getElem?_cons_zero] <;> rfl) | rfl) (by kernel_rfl) (by kernel_rfl) (by kernel_rfl) (by exact fun _ _ _ h => h) (Or.inl ⟨by rfl, ?_⟩) hHeld5 ?_
                    rotate_left 1
                    · intro w hSw
                      try dsimp only at hSw
                      (go_simp) <;> (with_reducible rfl)
                    try simp only [Act.put, List.setIfInBounds_toArray, List.set_cons_zero, List.set_cons_succ]
                    refine wpAnyH_ready (rs := [19]) (by kernel_rfl) (by simp) ?_
                    refine AllReadyH.cons (by first | (simp only [List.getElem?_toArray, List.getElem?_cons_succ, List.getElem?_cons_zero] <;> rfl) | rfl) (fun K hK => ?_) ?_
                    · skip
                      have hR := H5.out.below HBv.out
                      have r0 := hR.c2
                      rw [← HN.out] at r0
                      have r1 := hR.fzT 2
                      have r2 := hR.tab.lt
                      have HR9 := Lib.hid (hR.cutRow (i := i) (by rw [← HN.out]; exact hi5) HFit.out HN.out (own_monoM HO.out (Nat.le_of_lt H5.out.lt)))
                      have HF9 := Lib.hid ((Fr.ofBelow HB5.out : FrN B w W5).trans ((Fr.ofBelow HBv.out).trans (FrN.tab hR 2 (.slice (some ⟨q9, 0, none⟩) (N - 1) c9))))
                      go_simp
                      refine hK.out _ _ trivial (fun hHeld6 => ?_)
                      clear hK K r0 r1 r2 hHeld5 hHeld6 hR
                      try simp only [Act.put, List.setIfInBounds_toArray, List.set_cons_zero, List.set_cons_succ]
                      refine wpAnyH_done (by kernel_rfl) ?_ _
                      go_wp2_with fail
                      go_ret
                      unfold RDropP
                      have hix : ixN (isId x) M = i := by unfold ixN; rw [Hi.out]; rfl
                      rw [HE0.out, if_pos rfl]
                      dsimp only
                      rw [hix]
                      exact ⟨rfl, ⟨q9, c9, HR9.out⟩, HF9.out⟩
                    exact AllReadyH.nil
                  exact AllReadyH.nil
                exact AllReadyH.nil
              exact AllReadyH.nil
            exact AllReadyH.nil
          refine AllReadyH.cons (by first | (simp only [List.getElem?_toArray, List.getElem?_cons_succ, List.getElem?_cons_zero] <;> rfl) | rfl) (fun K hK => ?_) ?_
          · skip
            have hc := (H5.out.below HBv.out).c2
            rw [← HN.out] at hc
            go_simp
            refine hK.out _ _ trivial (fun hHeld1 => ?_)
            clear hK K hHeld0
            try clear hc
            rename World => vh1
            try simp only [Act.put, List.setIfInBounds_toArray, List.set_cons_zero, List.set_cons_succ]
            refine wpAnyH_take (i := 7) (v := ?_) (by first | (simp only [List.getElem?_toArray, List.getElem?_cons_succ, List.getElem?_cons_zero] <;> rfl) | rfl) (by kernel_rfl) (by kernel_rfl) (by kernel_rfl) (by exact fun _ _ _ h => h) (Or.inl ⟨by rfl, ?_⟩) hHeld1 ?_
            rotate_left 1
            · intro w hSw
              try dsimp only at hSw
              (go_simp) <;> (with_reducible rfl)
            try simp only [Act.put, List.setIfInBounds_toArray, List.set_cons_zero, List.set_cons_succ]
            refine wpAnyH_ready (rs := [1, 12]) (by kernel_rfl) (by simp) ?_
            refine AllReadyH.cons (by first | (simp only [List.getElem?_toArray, List.getElem?_cons_succ, List.getElem?_cons_zero] <;> rfl) | rfl) (fun K hK => ?_) ?_
            · skip
              go_simp
              have HO := Lib.hid (World.ownsRow_lit (base := W5.heap.size) (e := 94) (size := 5) vh1 #[] 0 HBv.out.size (by unfold maxLen; omega) rfl)
              have HBn := Lib.hid (HBv.out.trans ((oneb vh1 (.cells #[] 94)).mono HBv.out.size))
              refine hK.out _ _ trivial (fun hHeld2 => ?_)
              clear hK K hHeld1
              obtain ⟨gg, hgg⟩ : ∃ gg, gg = vh1.heap.size := ⟨_, rfl⟩
              rw [← hgg] at HO ⊢
              have Hgg := Lib.hid (show W5.heap.size ≤ gg by rw [hgg]; exact HBv.out.size)
              clear hgg HBv
              generalize World.alloc vh1 (.cells #[] 94) = vh2 at HO HBn hHeld2 ⊢
              have HBv := HBn
              clear HBn
              try simp only [Act.put, List.setIfInBounds_toArray, List.set_cons_zero, List.set_cons_succ]
              refine wpAnyH_ready (rs := [8, 12]) (by kernel_rfl) (by simp) ?_
              refine AllReadyH.cons (by first | (simp only [List.getElem?_toArray, List.getElem?_cons_succ, List.getElem?_cons_zero] <;> rfl) | rfl) (fun K hK => ?_) ?_
              · skip
                obtain ⟨v8, wb, hr, ho, hg, hat⟩ := run_list8 54 54 94 _ 5 40 infoRm Try.underlying54 rfl (by decide) (by decide) W5.heap.size (.slice (some ⟨gg, 0, none⟩) 0 0) 0 [] HO.out (some ⟨A, 0, none⟩) i c ((M.take i).flatMap rmC) (by have hq := rd_tk (H5.out.below HBv.out).rd (m := i) (by rw [← HN.out]; omega); rw [rflat_take] at hq; exact hq) (rm_ones _) (by omega) HBv.out.size
                rw [Nat.zero_add, List.nil_append] at ho
                obtain ⟨A8, c8, rfl, o1, -, -, -⟩ := own_typed ho
                refine op_append (.tmp 63) (.tmp 69) 54 rfl _ _ _ wb rfl rfl hr ?_
                have HBn := Lib.hid (show Below W5.heap.size W5 wb from HBv.out.grown hg HBv.out.size (fun q hq => by cases hq; exact Hgg.out))
                have HO8 := Lib.hid ho
                have Hgn := Lib.hid (show ∀ q, (Value.slice A8 i c8).ownBlock = some q → W5.heap.size ≤ q from fun q hq => (own_geM ho q hq))
                refine hK.out _ _ trivial (fun hHeld3 => ?_)
                clear hK K hr ho hg hat hHeld2 o1 HBv HO
                have HBv := HBn
                have HO := HO8
                clear HBn HO8
                rename World => vh3
                try simp only [Act.put, List.setIfInBounds_toArray, List.set_cons_zero, List.set_cons_succ]
                refine wpAnyH_ready (rs := [12]) (by kernel_rfl) (by simp) ?_
                refine AllReadyH.cons (by first | (simp only [List.getElem?_toArray, List.getElem?_cons_succ, List.getElem?_cons_zero] <;> rfl) | rfl) (fun K hK => ?_) ?_
                · skip
                  have hc := (H5.out.below HBv.out).c2
                  rw [← HN.out] at hc
                  go_simp
                  refine hK.out _ _ trivial (fun hHeld4 => ?_)
                  clear hK K hHeld3
                  try clear hc
                  rename World => vh4
                  try simp only [Act.put, List.setIfInBounds_toArray, List.set_cons_zero, List.set_cons_succ]
                  refine wpAnyH_take (i := 15) (v := ?_) (by first | (simp only [List.getElem?_toArray, List.getElem?_cons_succ, List.getElem?_cons_zero] <;> rfl) | rfl) (by kernel_rfl) (by kernel_rfl) (by kernel_rfl) (by exact fun _ _ _ h => h) (Or.inl ⟨by rfl, ?_⟩) hHeld4 ?_
                  rotate_left 1
                  · intro w hSw
                    try dsimp only at hSw
                    (go_simp) <;> (with_reducible rfl)
                  try simp only [Act.put, List.setIfInBounds_toArray, List.set_cons_zero, List.set_cons_succ]
                  refine wpAnyH_ready (rs := [16]) (by kernel_rfl) (by simp) ?_
                  refine AllReadyH.cons (by first | (simp only [List.getElem?_toArray, List.getElem?_cons_succ, List.getElem?_cons_zero] <;> rfl) | rfl) (fun K hK => ?_) ?_
                  · skip
                    obtain ⟨v9, wb, hr, ho, hg, hat⟩ := run_list8 54 54 94 _ 5 40 infoRm Try.underlying54 rfl (by decide) (by decide) W5.heap.size (.slice A8 i c8) i ((M.take i).flatMap rmC) HO.out (some AA) (N - (i + 1)) (c - (i + 1)) ((M.drop (i + 1)).flatMap rmC) (HAA.out _ HBv.out) (rm_ones _) (by omega) HBv.out.size
                    rw [← List.flatMap_append, show M.take i ++ M.drop (i + 1) = cutF M i from by unfold cutF; rw [List.eraseIdx_eq_take_drop_succ], show i + (N - (i + 1)) = N - 1 by omega] at ho
                    obtain ⟨A9, c9, rfl, o1, -, -, o4⟩ := own_typed ho
                    obtain ⟨q9, rfl⟩ := own_someM ho (by omega)
                    refine op_append (.tmp 70) (.tmp 77) 54 rfl _ _ _ wb rfl rfl hr ?_
                    have HBn := Lib.hid (show Below W5.heap.size W5 wb from HBv.out.grown hg HBv.out.size (fun q hq => Hgn.out q hq))
                    have HO9 := Lib.hid ho
                    refine hK.out _ _ trivial (fun hHeld5 => ?_)
                    clear hK K hr ho hg hat hHeld4 o1 o4 HBv HO
                    have HBv := HBn
                    have HO := HO9
                    clear HBn HO9
                    rename World => vh5
                    try simp only [Act.put, List.setIfInBounds_toArray, List.set_cons_zero, List.set_cons_succ]
                    refine wpAnyH_take (i := 17) (v := ?_) (by first | (simp only [List.getElem?_toArray, List.getElem?_cons_succ, List.getElem?_cons_zero] <;> rfl) | rfl) (by kernel_rfl) (by kernel_rfl) (by kernel_rfl) (by exact fun _ _ _ h => h) (Or.inl ⟨by rfl, ?_⟩) hHeld5 ?_
                    rotate_left 1
                    · intro w hSw
                      try dsimp only at hSw
                      (go_simp) <;> (with_reducible rfl)
                    try simp only [Act.put, List.setIfInBounds_toArray, List.set_cons_zero, List.set_cons_succ]
                    refine wpAnyH_take (i := 18) (v := ?_) (by first | (simp only [List.getElem?_toArray, List.getElem?_cons_succ, List.getElem?_cons_zero] <;> rfl) | rfl) (by kernel_rfl) (by kernel_rfl) (by kernel_rfl) (by exact fun _ _ _ h => h) (Or.inl ⟨by rfl, ?_⟩) hHeld5 ?_
                    rotate_left 1
                    · intro w hSw
                      try dsimp only at hSw
                      (go_simp) <;> (with_reducible rfl)
                    try simp only [Act.put, List.setIfInBounds_toArray, List.set_cons_zero, List.set_cons_succ]
                    refine wpAnyH_ready (rs := [19]) (by kernel_rfl) (by simp) ?_
                    refine AllReadyH.cons (by first | (simp only [List.getElem?_toArray, List.getElem?_cons_succ, List.getElem?_cons_zero] <;> rfl) | rfl) (fun K hK => ?_) ?_
                    · skip
                      have hR := H5.out.below HBv.out
                      have r0 := hR.c2
                      rw [← HN.out] at r0
                      have r1 := hR.fzT 2
                      have r2 := hR.tab.lt
                      have HR9 := Lib.hid (hR.cutRow (i := i) (by rw [← HN.out]; exact hi5) HFit.out HN.out (own_monoM HO.out (Nat.le_of_lt H5.out.lt)))
                      have HF9 := Lib.hid ((Fr.ofBelow HB5.out : FrN B w W5).trans ((Fr.ofBelow HBv.out).trans (FrN.tab hR 2 (.slice (some ⟨q9, 0, none⟩) (N - 1) c9))))
                      go_simp
                      refine hK.out _ _ trivial (fun hHeld6 => ?_)
                      clear hK K r0 r1 r2 hHeld5 hHeld6 hR
                      try simp only [Act.put, List.setIfInBounds_toArray, List.set_cons_zero, List.set_cons_succ]
                      refine wpAnyH_done (by kernel_rfl) ?_ _
                      go_wp2_with fail
                      go_ret
                      unfold RDropP
                      have hix : ixN (isId x) M = i := by unfold ixN; rw [Hi.out]; rfl
                      rw [HE0.out, if_pos rfl]
                      dsimp only
                      rw [hix]
                      exact ⟨rfl, ⟨q9, c9, HR9.out⟩, HF9.out⟩
                    exact AllReadyH.nil
                  exact AllReadyH.nil
                exact AllReadyH.nil
              refine AllReadyH.cons (by first | (simp only [List.getElem?_toArray, List.getElem?_cons_succ, List.getElem?_cons_zero] <;> rfl) | rfl) (fun K hK => ?_) ?_
              · skip
                have hc := (H5.out.below HBv.out).c2
                rw [← HN.out] at hc
                go_simp
                refine hK.out _ _ trivial (fun hHeld3 => ?_)
                clear hK K hHeld2
                try clear hc
                rename World => vh3
                try simp only [Act.put, List.setIfInBounds_toArray, List.set_cons_zero, List.set_cons_succ]
                refine wpAnyH_take (i := 15) (v := ?_) (by first | (simp only [List.getElem?_toArray, List.getElem?_cons_succ, List.getElem?_cons_zero] <;> rfl) | rfl) (by kernel_rfl) (by kernel_rfl) (by kernel_rfl) (by exact fun _ _ _ h => h) (Or.inl ⟨by rfl, ?_⟩) hHeld3 ?_
                rotate_left 1
                · intro w hSw
                  try dsimp only at hSw
                  (go_simp) <;> (with_reducible rfl)
                try simp only [Act.put, List.setIfInBounds_toArray, List.set_cons_zero, List.set_cons_succ]
                refine wpAnyH_ready (rs := [8]) (by kernel_rfl) (by simp) ?_
                refine AllReadyH.cons (by first | (simp only [List.getElem?_toArray, List.getElem?_cons_succ, List.getElem?_cons_zero] <;> rfl) | rfl) (fun K hK => ?_) ?_
                · skip
                  obtain ⟨v8, wb, hr, ho, hg, hat⟩ := run_list8 54 54 94 _ 5 40 infoRm Try.underlying54 rfl (by decide) (by decide) W5.heap.size (.slice (some ⟨gg, 0, none⟩) 0 0) 0 [] HO.out (some ⟨A, 0, none⟩) i c ((M.take i).flatMap rmC) (by have hq := rd_tk (H5.out.below HBv.out).rd (m := i) (by rw [← HN.out]; omega); rw [rflat_take] at hq; exact hq) (rm_ones _) (by omega) HBv.out.size
                  rw [Nat.zero_add, List.nil_append] at ho
                  obtain ⟨A8, c8, rfl, o1, -, -, -⟩ := own_typed ho
                  refine op_append (.tmp 63) (.tmp 69) 54 rfl _ _ _ wb rfl rfl hr ?_
                  have HBn := Lib.hid (show Below W5.heap.size W5 wb from HBv.out.grown hg HBv.out.size (fun q hq => by cases hq; exact Hgg.out))
                  have HO8 := Lib.hid ho
                  have Hgn := Lib.hid (show ∀ q, (Value.slice A8 i c8).ownBlock = some q → W5.heap.size ≤ q from fun q hq => (own_geM ho q hq))
                  refine hK.out _ _ trivial (fun hHeld4 => ?_)
                  clear hK K hr ho hg hat hHeld3 o1 HBv HO
                  have HBv := HBn
                  have HO := HO8
                  clear HBn HO8
                  rename World => vh4
                  try simp only [Act.put, List.setIfInBounds_toArray, List.set_cons_zero, List.set_cons_succ]
                  refine wpAnyH_ready (rs := [16]) (by kernel_rfl) (by simp) ?_
                  refine AllReadyH.cons (by first | (simp only [List.getElem?_toArray, List.getElem?_cons_succ, List.getElem?_cons_zero] <;> rfl) | rfl) (fun K hK => ?_) ?_
                  · skip
                    obtain ⟨v9, wb, hr, ho, hg, hat⟩ := run_list8 54 54 94 _ 5 40 infoRm Try.underlying54 rfl (by decide) (by decide) W5.heap.size (.slice A8 i c8) i ((M.take i).flatMap rmC) HO.out (some AA) (N - (i + 1)) (c - (i + 1)) ((M.drop (i + 1)).flatMap rmC) (HAA.out _ HBv.out) (rm_ones _) (by omega) HBv.out.size
                    rw [← List.flatMap_append, show M.take i ++ M.drop (i + 1) = cutF M i from by unfold cutF; rw [List.eraseIdx_eq_take_drop_succ], show i + (N - (i + 1)) = N - 1 by omega] at ho
                    obtain ⟨A9, c9, rfl, o1, -, -, o4⟩ := own_typed ho
                    obtain ⟨q9, rfl⟩ := own_someM ho (by omega)
                    refine op_append (.tmp 70) (.tmp 77) 54 rfl _ _ _ wb rfl rfl hr ?_
                    have HBn := Lib.hid (show Below W5.heap.size W5 wb from HBv.out.grown hg HBv.out.size (fun q hq => Hgn.out q hq))
                    have HO9 := Lib.hid ho
                    refine hK.out _ _ trivial (fun hHeld5 => ?_)
                    clear hK K hr ho hg hat hHeld4 o1 o4 HBv HO
                    have HBv := HBn
                    have HO := HO9
                    clear HBn HO9
                    rename World => vh5
                    try simp only [Act.put, List.setIfInBounds_toArray, List.set_cons_zero, List.set_cons_succ]
                    refine wpAnyH_take (i := 17) (v := ?_) (by first | (simp only [List.getElem?_toArray, List.getElem?_cons_succ, List.getElem?_cons_zero] <;> rfl) | rfl) (by kernel_rfl) (by kernel_rfl) (by kernel_rfl) (by exact fun _ _ _ h => h) (Or.inl ⟨by rfl, ?_⟩) hHeld5 ?_
                    rotate_left 1
                    · intro w hSw
                      try dsimp only at hSw
                      (go_simp) <;> (with_reducible rfl)
                    try simp only [Act.put, List.setIfInBounds_toArray, List.set_cons_zero, List.set_cons_succ]
                    refine wpAnyH_take (i := 18) (v := ?_) (by first | (simp only [List.getElem?_toArray, List.getElem?_cons_succ, List.getElem?_cons_zero] <;> rfl) | rfl) (by kernel_rfl) (by kernel_rfl) (by kernel_rfl) (by exact fun _ _ _ h => h) (Or.inl ⟨by rfl, ?_⟩) hHeld5 ?_
                    rotate_left 1
                    · intro w hSw
                      try dsimp only at hSw
                      (go_simp) <;> (with_reducible rfl)
                    try simp only [Act.put, List.setIfInBounds_toArray, List.set_cons_zero, List.set_cons_succ]
                    refine wpAnyH_ready (rs := [19]) (by kernel_rfl) (by simp) ?_
                    refine AllReadyH.cons (by first | (simp only [List.getElem?_toArray, List.getElem?_cons_succ, List.getElem?_cons_zero] <;> rfl) | rfl) (fun K hK => ?_) ?_
                    · skip
                      have hR := H5.out.below HBv.out
                      have r0 := hR.c2
                      rw [← HN.out] at r0
                      have r1 := hR.fzT 2
                      have r2 := hR.tab.lt
                      have HR9 := Lib.hid (hR.cutRow (i := i) (by rw [← HN.out]; exact hi5) HFit.out HN.out (own_monoM HO.out (Nat.le_of_lt H5.out.lt)))
                      have HF9 := Lib.hid ((Fr.ofBelow HB5.out : FrN B w W5).trans ((Fr.ofBelow HBv.out).trans (FrN.tab hR 2 (.slice (some ⟨q9, 0, none⟩) (N - 1) c9))))
                      go_simp
                      refine hK.out _ _ trivial (fun hHeld6 => ?_)
                      clear hK K r0 r1 r2 hHeld5 hHeld6 hR
                      try simp only [Act.put, List.setIfInBounds_toArray, List.set_cons_zero, List.set_cons_succ]
                      refine wpAnyH_done (by kernel_rfl) ?_ _
                      go_wp2_with fail
                      go_ret
                      unfold RDropP
                      have hix : ixN (isId x) M = i := by unfold ixN; rw [Hi.out]; rfl
                      rw [HE0.out, if_pos rfl]
                      dsimp only
                      rw [hix]
                      exact ⟨rfl, ⟨q9, c9, HR9.out⟩, HF9.out⟩
                    exact AllReadyH.nil
                  exact AllReadyH.nil
                exact AllReadyH.nil
              exact AllReadyH.nil
            refine AllReadyH.cons (by first | (simp only [List.getElem?_toArray, List.getElem?_cons_succ, List.getElem?_cons_zero] <;> rfl) | rfl) (fun K hK => ?_) ?_
            · skip
              have hc := (H5.out.below HBv.out).c2
              rw [← HN.out] at hc
              go_simp
              refine hK.out _ _ trivial (fun hHeld2 => ?_)
              clear hK K hHeld1
              try clear hc
              rename World => vh2
              try simp only [Act.put, List.setIfInBounds_toArray, List.set_cons_zero, List.set_cons_succ]
              refine wpAnyH_take (i := 15) (v := ?_) (by first | (simp only [List.getElem?_toArray, List.getElem?_cons_succ, List.getElem?_cons_zero] <;> rfl) | rfl) (by kernel_rfl) (by kernel_rfl) (by kernel_rfl) (by exact fun _ _ _ h => h) (Or.inl ⟨by rfl, ?_⟩) hHeld2 ?_
              rotate_left 1
              · intro w hSw
                try dsimp only at hSw
                (go_simp) <;> (with_reducible rfl)
              try simp only [Act.put, List.setIfInBounds_toArray, List.set_cons_zero, List.set_cons_succ]
              refine wpAnyH_ready (rs := [1]) (by kernel_rfl) (by simp) ?_
              refine AllReadyH.cons (by first | (simp only [List.getElem?_toArray, List.getElem?_cons_succ, List.getElem?_cons_zero] <;> rfl) | rfl) (fun K hK => ?_) ?_
              · skip
                go_simp
                have HO := Lib.hid (World.ownsRow_lit (base := W5.heap.size) (e := 94) (size := 5) vh2 #[] 0 HBv.out.size (by unfold maxLen; omega) rfl)
                have HBn := Lib.hid (HBv.out.trans ((oneb vh2 (.cells #[] 94)).mono HBv.out.size))
                refine hK.out _ _ trivial (fun hHeld3 => ?_)
                clear hK K hHeld2
                obtain ⟨gg, hgg⟩ : ∃ gg, gg = vh2.heap.size := ⟨_, rfl⟩
                rw [← hgg] at HO ⊢
                have Hgg := Lib.hid (show W5.heap.size ≤ gg by rw [hgg]; exact HBv.out.size)
                clear hgg HBv
                generalize World.alloc vh2 (.cells #[] 94) = vh3 at HO HBn hHeld3 ⊢
                have HBv := HBn
                clear HBn
                try simp only [Act.put, List.setIfInBounds_toArray, List.set_cons_zero, List.set_cons_succ]
                refine wpAnyH_ready (rs := [8]) (by kernel_rfl) (by simp) ?_
                refine AllReadyH.cons (by first | (simp only [List.getElem?_toArray, List.getElem?_cons_succ, List.getElem?_cons_zero] <;> rfl) | rfl) (fun K hK => ?_) ?_
                · skip
                  obtain ⟨v8, wb, hr, ho, hg, hat⟩ := run_list8 54 54 94 _ 5 40 infoRm Try.underlying54 rfl (by decide) (by decide) W5.heap.size (.slice (some ⟨gg, 0, none⟩) 0 0) 0 [] HO.out (some ⟨A, 0, none⟩) i c ((M.take i).flatMap rmC) (by have hq := rd_tk (H5.out.below HBv.out).rd (m := i) (by rw [← HN.out]; omega); rw [rflat_take] at hq; exact hq) (rm_ones _) (by omega) HBv.out.size
                  rw [Nat.zero_add, List.nil_append] at ho
                  obtain ⟨A8, c8, rfl, o1, -, -, -⟩ := own_typed ho
                  refine op_append (.tmp 63) (.tmp 69) 54 rfl _ _ _ wb rfl rfl hr ?_
                  have HBn := Lib.hid (show Below W5.heap.size W5 wb from HBv.out.grown hg HBv.out.size (fun q hq => by cases hq; exact Hgg.out))
                  have HO8 := Lib.hid ho
                  have Hgn := Lib.hid (show ∀ q, (Value.slice A8 i c8).ownBlock = some q → W5.heap.size ≤ q from fun q hq => (own_geM ho q hq))
                  refine hK.out _ _ trivial (fun hHeld4 => ?_)
                  clear hK K hr ho hg hat hHeld3 o1 HBv HO
                  have HBv := HBn
                  have HO := HO8
                  clear HBn HO8
                  rename World => vh4
                  try simp only [Act.put, List.setIfInBounds_toArray, List.set_cons_zero, List.set_cons_succ]
                  refine wpAnyH_ready (rs := [16]) (by kernel_rfl) (by simp) ?_
                  refine AllReadyH.cons (by first | (simp only [List.getElem?_toArray, List.getElem?_cons_succ, List.getElem?_cons_zero] <;> rfl) | rfl) (fun K hK => ?_) ?_
                  · skip
                    obtain ⟨v9, wb, hr, ho, hg, hat⟩ := run_list8 54 54 94 _ 5 40 infoRm Try.underlying54 rfl (by decide) (by decide) W5.heap.size (.slice A8 i c8) i ((M.take i).flatMap rmC) HO.out (some AA) (N - (i + 1)) (c - (i + 1)) ((M.drop (i + 1)).flatMap rmC) (HAA.out _ HBv.out) (rm_ones _) (by omega) HBv.out.size
                    rw [← List.flatMap_append, show M.take i ++ M.drop (i + 1) = cutF M i from by unfold cutF; rw [List.eraseIdx_eq_take_drop_succ], show i + (N - (i + 1)) = N - 1 by omega] at ho
                    obtain ⟨A9, c9, rfl, o1, -, -, o4⟩ := own_typed ho
                    obtain ⟨q9, rfl⟩ := own_someM ho (by omega)
                    refine op_append (.tmp 70) (.tmp 77) 54 rfl _ _ _ wb rfl rfl hr ?_
                    have HBn := Lib.hid (show Below W5.heap.size W5 wb from HBv.out.grown hg HBv.out.size (fun q hq => Hgn.out q hq))
                    have HO9 := Lib.hid ho
                    refine hK.out _ _ trivial (fun hHeld5 => ?_)
                    clear hK K hr ho hg hat hHeld4 o1 o4 HBv HO
                    have HBv := HBn
                    have HO := HO9
                    clear HBn HO9
                    rename World => vh5
                    try simp only [Act.put, List.setIfInBounds_toArray, List.set_cons_zero, List.set_cons_succ]
                    refine wpAnyH_take (i := 17) (v := ?_) (by first | (simp only [List.getElem?_toArray, List.getElem?_cons_succ, List.getElem?_cons_zero] <;> rfl) | rfl) (by kernel_rfl) (by kernel_rfl) (by kernel_rfl) (by exact fun _ _ _ h => h) (Or.inl ⟨by rfl, ?_⟩) hHeld5 ?_
                    rotate_left 1
                    · intro w hSw
                      try dsimp only at hSw
                      (go_simp) <;> (with_reducible rfl)
                    try simp only [Act.put, List.setIfInBounds_toArray, List.set_cons_zero, List.set_cons_succ]
                    refine wpAnyH_take (i := 18) (v := ?_) (by first | (simp only [List.getElem?_toArray, List.getElem?_cons_succ, List.getElem?_cons_zero] <;> rfl) | rfl) (by kernel_rfl) (by kernel_rfl) (by kernel_rfl) (by exact fun _ _ _ h => h) (Or.inl ⟨by rfl, ?_⟩) hHeld5 ?_
                    rotate_left 1
                    · intro w hSw
                      try dsimp only at hSw
                      (go_simp) <;> (with_reducible rfl)
                    try simp only [Act.put, List.setIfInBounds_toArray, List.set_cons_zero, List.set_cons_succ]
                    refine wpAnyH_ready (rs := [19]) (by kernel_rfl) (by simp) ?_
                    refine AllReadyH.cons (by first | (simp only [List.getElem?_toArray, List.getElem?_cons_succ, List.getElem?_cons_zero] <;> rfl) | rfl) (fun K hK => ?_) ?_
                    · skip
                      have hR := H5.out.below HBv.out
                      have r0 := hR.c2
                      rw [← HN.out] at r0
                      have r1 := hR.fzT 2
                      have r2 := hR.tab.lt
                      have HR9 := Lib.hid (hR.cutRow (i := i) (by rw [← HN.out]; exact hi5) HFit.out HN.out (own_monoM HO.out (Nat.le_of_lt H5.out.lt)))
                      have HF9 := Lib.hid ((Fr.ofBelow HB5.out : FrN B w W5).trans ((Fr.ofBelow HBv.out).trans (FrN.tab hR 2 (.slice (some ⟨q9, 0, none⟩) (N - 1) c9))))
                      go_simp
                      refine hK.out _ _ trivial (fun hHeld6 => ?_)
                      clear hK K r0 r1 r2 hHeld5 hHeld6 hR
                      try simp only [Act.put, List.setIfInBounds_toArray, List.set_cons_zero, List.set_cons_succ]
                      refine wpAnyH_done (by kernel_rfl) ?_ _
                      go_wp2_with fail
                      go_ret
                      unfold RDropP
                      have hix : ixN (isId x) M = i := by unfold ixN; rw [Hi.out]; rfl
                      rw [HE0.out, if_pos rfl]
                      dsimp only
                      rw [hix]
                      exact ⟨rfl, ⟨q9, c9, HR9.out⟩, HF9.out⟩
                    exact AllReadyH.nil
                  exact AllReadyH.nil
                exact AllReadyH.nil
              exact AllReadyH.nil
            exact AllReadyH.nil
          refine AllReadyH.cons (by first | (simp only [List.getElem?_toArray, List.getElem?_cons_succ, List.getElem?_cons_zero] <;> rfl) | rfl) (fun K hK => ?_) ?_
          · skip
            have hc := (H5.out.below HBv.out).c2
            rw [← HN.out] at hc
            go_simp
            refine hK.out _ _ trivial (fun hHeld1 => ?_)
            clear hK K hHeld0
            try clear hc
            rename World => vh1
            try simp only [Act.put, List.setIfInBounds_toArray, List.set_cons_zero, List.set_cons_succ]
            refine wpAnyH_take (i := 15) (v := ?_) (by first | (simp only [List.getElem?_toArray, List.getElem?_cons_succ, List.getElem?_cons_zero] <;> rfl) | rfl) (by kernel_rfl) (by kernel_rfl) (by kernel_rfl) (by exact fun _ _ _ h => h) (Or.inl ⟨by rfl, ?_⟩) hHeld1 ?_
            rotate_left 1
            · intro w hSw
              try dsimp only at hSw
              (go_simp) <;> (with_reducible rfl)
            try simp only [Act.put, List.setIfInBounds_toArray, List.set_cons_zero, List.set_cons_succ]
            refine wpAnyH_ready (rs := [1, 5]) (by kernel_rfl) (by simp) ?_
            refine AllReadyH.cons (by first | (simp only [List.getElem?_toArray, List.getElem?_cons_succ, List.getElem?_cons_zero] <;> rfl) | rfl) (fun K hK => ?_) ?_
            · skip
              go_simp
              have HO := Lib.hid (World.ownsRow_lit (base := W5.heap.size) (e := 94) (size := 5) vh1 #[] 0 HBv.out.size (by unfold maxLen; omega) rfl)
              have HBn := Lib.hid (HBv.out.trans ((oneb vh1 (.cells #[] 94)).mono HBv.out.size))
              refine hK.out _ _ trivial (fun hHeld2 => ?_)
              clear hK K hHeld1
              obtain ⟨gg, hgg⟩ : ∃ gg, gg = vh1.heap.size := ⟨_, rfl⟩
              rw [← hgg] at HO ⊢
              have Hgg := Lib.hid (show W5.heap.size ≤ gg by rw [hgg]; exact HBv.out.size)
              clear hgg HBv
              generalize World.alloc vh1 (.cells #[] 94) = vh2 at HO HBn hHeld2 ⊢
              have HBv := HBn
              clear HBn
              try simp only [Act.put, List.setIfInBounds_toArray, List.set_cons_zero, List.set_cons_succ]
              refine wpAnyH_ready (rs := [5]) (by kernel_rfl) (by simp) ?_
              refine AllReadyH.cons (by first | (simp only [List.getElem?_toArray, List.getElem?_cons_succ, List.getElem?_cons_zero] <;> rfl) | rfl) (fun K hK => ?_) ?_
              · skip
                have hc := (H5.out.below HBv.out).c2
                rw [← HN.out] at hc
                go_simp
                refine hK.out _ _ trivial (fun hHeld3 => ?_)
                clear hK K hHeld2
                try clear hc
                rename World => vh3
                try simp only [Act.put, List.setIfInBounds_toArray, List.set_cons_zero, List.set_cons_succ]
                refine wpAnyH_take (i := 7) (v := ?_) (by first | (simp only [List.getElem?_toArray, List.getElem?_cons_succ, List.getElem?_cons_zero] <;> rfl) | rfl) (by kernel_rfl) (by kernel_rfl) (by kernel_rfl) (by exact fun _ _ _ h => h) (Or.inl ⟨by rfl, ?_⟩) hHeld3 ?_
                rotate_left 1
                · intro w hSw
                  try dsimp only at hSw
                  (go_simp) <;> (with_reducible rfl)
                try simp only [Act.put, List.setIfInBounds_toArray, List.set_cons_zero, List.set_cons_succ]
                refine wpAnyH_ready (rs := [8]) (by kernel_rfl) (by simp) ?_
                refine AllReadyH.cons (by first | (simp only [List.getElem?_toArray, List.getElem?_cons_succ, List.getElem?_cons_zero] <;> rfl) | rfl) (fun K hK => ?_) ?_
                · skip
                  obtain ⟨v8, wb, hr, ho, hg, hat⟩ := run_list8 54 54 94 _ 5 40 infoRm Try.underlying54 rfl (by decide) (by decide) W5.heap.size (.slice (some ⟨gg, 0, none⟩) 0 0) 0 [] HO.out (some ⟨A, 0, none⟩) i c ((M.take i).flatMap rmC) (by have hq := rd_tk (H5.out.below HBv.out).rd (m := i) (by rw [← HN.out]; omega); rw [rflat_take] at hq; exact hq) (rm_ones _) (by omega) HBv.out.size
                  rw [Nat.zero_add, List.nil_append] at ho
                  obtain ⟨A8, c8, rfl, o1, -, -, -⟩ := own_typed ho
                  refine op_append (.tmp 63) (.tmp 69) 54 rfl _ _ _ wb rfl rfl hr ?_
                  have HBn := Lib.hid (show Below W5.heap.size W5 wb from HBv.out.grown hg HBv.out.size (fun q hq => by cases hq; exact Hgg.out))
                  have HO8 := Lib.hid ho
                  have Hgn := Lib.hid (show ∀ q, (Value.slice A8 i c8).ownBlock = some q → W5.heap.size ≤ q from fun q hq => (own_geM ho q hq))
                  refine hK.out _ _ trivial (fun hHeld4 => ?_)
                  clear hK K hr ho hg hat hHeld3 o1 HBv HO
                  have HBv := HBn
                  have HO := HO8
                  clear HBn HO8
                  rename World => vh4
                  try simp only [Act.put, List.setIfInBounds_toArray, List.set_cons_zero, List.set_cons_succ]
                  refine wpAnyH_ready (rs := [16]) (by kernel_rfl) (by simp) ?_
                  refine AllReadyH.cons (by first | (simp only [List.getElem?_toArray, List.getElem?_cons_succ, List.getElem?_cons_zero] <;> rfl) | rfl) (fun K hK => ?_) ?_
                  · skip
                    obtain ⟨v9, wb, hr, ho, hg, hat⟩ := run_list8 54 54 94 _ 5 40 infoRm Try.underlying54 rfl (by decide) (by decide) W5.heap.size (.slice A8 i c8) i ((M.take i).flatMap rmC) HO.out (some AA) (N - (i + 1)) (c - (i + 1)) ((M.drop (i + 1)).flatMap rmC) (HAA.out _ HBv.out) (rm_ones _) (by omega) HBv.out.size
                    rw [← List.flatMap_append, show M.take i ++ M.drop (i + 1) = cutF M i from by unfold cutF; rw [List.eraseIdx_eq_take_drop_succ], show i + (N - (i + 1)) = N - 1 by omega] at ho
                    obtain ⟨A9, c9, rfl, o1, -, -, o4⟩ := own_typed ho
                    obtain ⟨q9, rfl⟩ := own_someM ho (by omega)
                    refine op_append (.tmp 70) (.tmp 77) 54 rfl _ _ _ wb rfl rfl hr ?_
                    have HBn := Lib.hid (show Below W5.heap.size W5 wb from HBv.out.grown hg HBv.out.size (fun q hq => Hgn.out q hq))
                    have HO9 := Lib.hid ho
                    refine hK.out _ _ trivial (fun hHeld5 => ?_)
                    clear hK K hr ho hg hat hHeld4 o1 o4 HBv HO
                    have HBv := HBn
                    have HO := HO9
                    clear HBn HO9
                    rename World => vh5
                    try simp only [Act.put, List.setIfInBounds_toArray, List.set_cons_zero, List.set_cons_succ]
                    refine wpAnyH_take (i := 17) (v := ?_) (by first | (simp only [List.getElem?_toArray, List.getElem?_cons_succ, List.getElem?_cons_zero] <;> rfl) | rfl) (by kernel_rfl) (by kernel_rfl) (by kernel_rfl) (by exact fun _ _ _ h => h) (Or.inl ⟨by rfl, ?_⟩) hHeld5 ?_
                    rotate_left 1
                    · intro w hSw
                      try dsimp only at hSw
                      (go_simp) <;> (with_reducible rfl)
                    try simp only [Act.put, List.setIfInBounds_toArray, List.set_cons_zero, List.set_cons_succ]
                    refine wpAnyH_take (i := 18) (v := ?_) (by first | (simp only [List.getElem?_toArray, List.getElem?_cons_succ, List.getElem?_cons_zero] <;> rfl) | rfl) (by kernel_rfl) (by kernel_rfl) (by kernel_rfl) (by exact fun _ _ _ h => h) (Or.inl ⟨by rfl, ?_⟩) hHeld5 ?_
                    rotate_left 1
                    · intro w hSw
                      try dsimp only at hSw
                      (go_simp) <;> (with_reducible rfl)
                    try simp only [Act.put, List.setIfInBounds_toArray, List.set_cons_zero, List.set_cons_succ]
                    refine wpAnyH_ready (rs := [19]) (by kernel_rfl) (by simp) ?_
                    refine AllReadyH.cons (by first | (simp only [List.getElem?_toArray, List.getElem?_cons_succ, List.getElem?_cons_zero] <;> rfl) | rfl) (fun K hK => ?_) ?_
                    · skip
                      have hR := H5.out.below HBv.out
                      have r0 := hR.c2
                      rw [← HN.out] at r0
                      have r1 := hR.fzT 2
                      have r2 := hR.tab.lt
                      have HR9 := Lib.hid (hR.cutRow (i := i) (by rw [← HN.out]; exact hi5) HFit.out HN.out (own_monoM HO.out (Nat.le_of_lt H5.out.lt)))
                      have HF9 := Lib.hid ((Fr.ofBelow HB5.out : FrN B w W5).trans ((Fr.ofBelow HBv.out).trans (FrN.tab hR 2 (.slice (some ⟨q9, 0, none⟩) (N - 1) c9))))
                      go_simp
                      refine hK.out _ _ trivial (fun hHeld6 => ?_)
                      clear hK K r0 r1 r2 hHeld5 hHeld6 hR
                      try simp only [Act.put, List.setIfInBounds_toArray, List.set_cons_zero, List.set_cons_succ]
                      refine wpAnyH_done (by kernel_rfl) ?_ _
                      go_wp2_with fail
                      go_ret
                      unfold RDropP
                      have hix : ixN (isId x) M = i := by unfold ixN; rw [Hi.out]; rfl
                      rw [HE0.out, if_pos rfl]
                      dsimp only
                      rw [hix]
                      exact ⟨rfl, ⟨q9, c9, HR9.out⟩, HF9.out⟩
                    exact AllReadyH.nil
                  exact AllReadyH.nil
                exact AllReadyH.nil
              exact AllReadyH.nil
            refine AllReadyH.cons (by first | (simp only [List.getElem?_toArray, List.getElem?_cons_succ, List.getElem?_cons_zero] <;> rfl) | rfl) (fun K hK => ?_) ?_
            · skip
              have hc := (H5.out.below HBv.out).c2
              rw [← HN.out] at hc
              go_simp
              refine hK.out _ _ trivial (fun hHeld2 => ?_)
              clear hK K hHeld1
              try clear hc
              rename World => vh2
              try simp only [Act.put, List.setIfInBounds_toArray, List.set_cons_zero, List.set_cons_succ]
              refine wpAnyH_take (i := 7) (v := ?_) (by first | (simp only [List.getElem?_toArray, List.getElem?_cons_succ, List.getElem?_cons_zero] <;> rfl) | rfl) (by kernel_rfl) (by kernel_rfl) (by kernel_rfl) (by exact fun _ _ _ h => h) (Or.inl ⟨by rfl, ?_⟩) hHeld2 ?_
              rotate_left 1
              · intro w hSw
                try dsimp only at hSw
                (go_simp) <;> (with_reducible rfl)
              try simp only [Act.put, List.setIfInBounds_toArray, List.set_cons_zero, List.set_cons_succ]
              refine wpAnyH_ready (rs := [1]) (by kernel_rfl) (by simp) ?_
              refine AllReadyH.cons (by first | (simp only [List.getElem?_toArray, List.getElem?_cons_succ, List.getElem?_cons_zero] <;> rfl) | rfl) (fun K hK => ?_) ?_
              · skip
                go_simp
                have HO := Lib.hid (World.ownsRow_lit (base := W5.heap.size) (e := 94) (size := 5) vh2 #[] 0 HBv.out.size (by unfold maxLen; omega) rfl)
                have HBn := Lib.hid (HBv.out.trans ((oneb vh2 (.cells #[] 94)).mono HBv.out.size))
                refine hK.out _ _ trivial (fun hHeld3 => ?_)
                clear hK K hHeld2
                obtain ⟨gg, hgg⟩ : ∃ gg, gg = vh2.heap.size := ⟨_, rfl⟩
                rw [← hgg] at HO ⊢
                have Hgg := Lib.hid (show W5.heap.size ≤ gg by rw [hgg]; exact HBv.out.size)
                clear hgg HBv
                generalize World.alloc vh2 (.cells #[] 94) = vh3 at HO HBn hHeld3 ⊢
                have HBv := HBn
                clear HBn
                try simp only [Act.put, List.setIfInBounds_toArray, List.set_cons_zero, List.set_cons_succ]
                refine wpAnyH_ready (rs := [8]) (by kernel_rfl) (by simp) ?_
                refine AllReadyH.cons (by first | (simp only [List.getElem?_toArray, List.getElem?_cons_succ, List.getElem?_cons_zero] <;> rfl) | rfl) (fun K hK => ?_) ?_
                · skip
                  obtain ⟨v8, wb, hr, ho, hg, hat⟩ := run_list8 54 54 94 _ 5 40 infoRm Try.underlying54 rfl (by decide) (by decide) W5.heap.size (.slice (some ⟨gg, 0, none⟩) 0 0) 0 [] HO.out (some ⟨A, 0, none⟩) i c ((M.take i).flatMap rmC) (by have hq := rd_tk (H5.out.below HBv.out).rd (m := i) (by rw [← HN.out]; omega); rw [rflat_take] at hq; exact hq) (rm_ones _) (by omega) HBv.out.size
                  rw [Nat.zero_add, List.nil_append] at ho
                  obtain ⟨A8, c8, rfl, o1, -, -, -⟩ := own_typed ho
                  refine op_append (.tmp 63) (.tmp 69) 54 rfl _ _ _ wb rfl rfl hr ?_
                  have HBn := Lib.hid (show Below W5.heap.size W5 wb from HBv.out.grown hg HBv.out.size (fun q hq => by cases hq; exact Hgg.out))
                  have HO8 := Lib.hid ho
                  have Hgn := Lib.hid (show ∀ q, (Value.slice A8 i c8).ownBlock = some q → W5.heap.size ≤ q from fun q hq => (own_geM ho q hq))
                  refine hK.out _ _ trivial (fun hHeld4 => ?_)
                  clear hK K hr ho hg hat hHeld3 o1 HBv HO
                  have HBv := HBn
                  have HO := HO8
                  clear HBn HO8
                  rename World => vh4
                  try simp only [Act.put, List.setIfInBounds_toArray, List.set_cons_zero, List.set_cons_succ]
                  refine wpAnyH_ready (rs := [16]) (by kernel_rfl) (by simp) ?_
                  refine AllReadyH.cons (by first | (simp only [List.getElem?_toArray, List.getElem?_cons_succ, List.getElem?_cons_zero] <;> rfl) | rfl) (fun K hK => ?_) ?_
                  · skip
                    obtain ⟨v9, wb, hr, ho, hg, hat⟩ := run_list8 54 54 94 _ 5 40 infoRm Try.underlying54 rfl (by decide) (by decide) W5.heap.size (.slice A8 i c8) i ((M.take i).flatMap rmC) HO.out (some AA) (N - (i + 1)) (c - (i + 1)) ((M.drop (i + 1)).flatMap rmC) (HAA.out _ HBv.out) (rm_ones _) (by omega) HBv.out.size
                    rw [← List.flatMap_append, show M.take i ++ M.drop (i + 1) = cutF M i from by unfold cutF; rw [List.eraseIdx_eq_take_drop_succ], show i + (N - (i + 1)) = N - 1 by omega] at ho
                    obtain ⟨A9, c9, rfl, o1, -, -, o4⟩ := own_typed ho
                    obtain ⟨q9, rfl⟩ := own_someM ho (by omega)
                    refine op_append (.tmp 70) (.tmp 77) 54 rfl _ _ _ wb rfl rfl hr ?_
                    have HBn := Lib.hid (show Below W5.heap.size W5 wb from HBv.out.grown hg HBv.out.size (fun q hq => Hgn.out q hq))
                    have HO9 := Lib.hid ho
                    refine hK.out _ _ trivial (fun hHeld5 => ?_)
                    clear hK K hr ho hg hat hHeld4 o1 o4 HBv HO
                    have HBv := HBn
                    have HO := HO9
                    clear HBn HO9
                    rename World => vh5
                    try simp only [Act.put, List.setIfInBounds_toArray, List.set_cons_zero, List.set_cons_succ]
                    refine wpAnyH_take (i := 17) (v := ?_) (by first | (simp only [List.getElem?_toArray, List.getElem?_cons_succ, List.getElem?_cons_zero] <;> rfl) | rfl) (by kernel_rfl) (by kernel_rfl) (by kernel_rfl) (by exact fun _ _ _ h => h) (Or.inl ⟨by rfl, ?_⟩) hHeld5 ?_
                    rotate_left 1
                    · intro w hSw
                      try dsimp only at hSw
                      (go_simp) <;> (with_reducible rfl)
                    try simp only [Act.put, List.setIfInBounds_toArray, List.set_cons_zero, List.set_cons_succ]
                    refine wpAnyH_take (i := 18) (v := ?_) (by first | (simp only [List.getElem?_toArray, List.getElem?_cons_succ, List.getElem?_cons_zero] <;> rfl) | rfl) (by kernel_rfl) (by kernel_rfl) (by kernel_rfl) (by exact fun _ _ _ h => h) (Or.inl ⟨by rfl, ?_⟩) hHeld5 ?_
                    rotate_left 1
                    · intro w hSw
                      try dsimp only at hSw
                      (go_simp) <;> (with_reducible rfl)
                    try simp only [Act.put, List.setIfInBounds_toArray, List.set_cons_zero, List.set_cons_succ]
                    refine wpAnyH_ready (rs := [19]) (by kernel_rfl) (by simp) ?_
                    refine AllReadyH.cons (by first | (simp only [List.getElem?_toArray, List.getElem?_cons_succ, List.getElem?_cons_zero] <;> rfl) | rfl) (fun K hK => ?_) ?_
                    · skip
                      have hR := H5.out.below HBv.out
                      have r0 := hR.c2
                      rw [← HN.out] at r0
                      have r1 := hR.fzT 2
                      have r2 := hR.tab.lt
                      have HR9 := Lib.hid (hR.cutRow (i := i) (by rw [← HN.out]; exact hi5) HFit.out HN.out (own_monoM HO.out (Nat.le_of_lt H5.out.lt)))
                      have HF9 := Lib.hid ((Fr.ofBelow HB5.out : FrN B w W5).trans ((Fr.ofBelow HBv.out).trans (FrN.tab hR 2 (.slice (some ⟨q9, 0, none⟩) (N - 1) c9))))
                      go_simp
                      refine hK.out _ _ trivial (fun hHeld6 => ?_)
                      clear hK K r0 r1 r2 hHeld5 hHeld6 hR
                      try simp only [Act.put, List.setIfInBounds_toArray, List.set_cons_zero, List.set_cons_succ]
                      refine wpAnyH_done (by kernel_rfl) ?_ _
                      go_wp2_with fail
                      go_ret
                      unfold RDropP
                      have hix : ixN (isId x) M = i := by unfold ixN; rw [Hi.out]; rfl
                      rw [HE0.out, if_pos rfl]
                      dsimp only
                      rw [hix]
                      exact ⟨rfl, ⟨q9, c9, HR9.out⟩, HF9.out⟩
                    exact AllReadyH.nil
                  exact AllReadyH.nil
                exact AllReadyH.nil
              exact AllReadyH.nil
            exact AllReadyH.nil
          exact AllReadyH.nil
end
end Go.Proofs.Ytmbgmbheonpamaa.Mt
