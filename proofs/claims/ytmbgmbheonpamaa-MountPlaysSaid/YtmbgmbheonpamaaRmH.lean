/- The document's Used, HoldMount. -/
import Derived.Test.YtmbgmbheonpamaaRmS
namespace Go.Proofs.Ytmbgmbheonpamaa.Mt
open Go.RowKit Go.Maps Go.WideElems In
section
variable {w w' : World} {B tb A c : Nat} {nv lv cv : Value} {M : Ms} {last : Int}
set_option maxHeartbeats 1000000 in
theorem rused_any (h : RmR w B tb nv lv cv M last A c) (n : Int) : Calls Try.prog 39 #[.pointer (some ⟨tb, 0, none⟩), .int .i64 n] w fun e w' => e = .returned (.bool (M.any (usB n))) ∧ w = w' := by
  have HH := Lib.hid h
  have hlen := h.fit.len
  have c2 := h.c2
  have ht := h.tab.lt
  have hA := h.tyA.lt
  obtain ⟨N, hN⟩ : ∃ N, N = M.length := ⟨_, rfl⟩
  rw [← hN] at hlen c2
  have HN := Lib.hid hN
  obtain ⟨b, hb⟩ : ∃ b, b = M.any (usB n) := ⟨_, rfl⟩
  have HB := Lib.hid hb
  rw [← hb]
  clear h hN hb
  go_enter Try.func39, Try.ntmps39
  go_wp2_with fail
  go_loop [5] (fun iv => ∃ k : Nat, iv = .int .i64 k ∧ k ≤ N ∧ Hid (∀ j x, j < k → M[j]? = some x → usB n x = false)) (fun iv => N - (intOf iv).toNat)
  case atStart => exact ⟨0, rfl, Nat.zero_le _, fun j x hj _ => absurd hj (by omega)⟩
  case round =>
    obtain ⟨k, rfl, hk, HT⟩ := hrel
    by_cases hlt : k < N
    · obtain ⟨x, hx⟩ : ∃ x, M[k]? = some x := ⟨_, List.getElem?_eq_getElem (by rw [← HN.out]; exact hlt)⟩
      obtain ⟨d0, d1, -, d3, -⟩ := HH.out.cells5 hx
      have HX := Lib.hid hx
      clear hx
      have HYes := Lib.hid (fun (hq : usB n x = true) => (show b = true from HB.out.trans (List.any_eq_true.2 ⟨x, List.mem_of_getElem? HX.out, hq⟩)))
      have HNo := Lib.hid (fun (hq : usB n x = false) => (show ∀ j y, j < k + 1 → M[j]? = some y → usB n y = false from fun j y hj hy => by
        by_cases e : j = k
        · subst e; rw [HX.out] at hy; cases hy; exact hq
        · exact HT.out j y (by omega) hy))
      by_cases hr : x.root = n
      · have HV := Lib.hid (HYes.out (decide_eq_true (.inl hr)))
        have e1 : (x.root == n) = true := by simp [hr]
        clear hr
        go_wp2_with fail
        go_ret
        exact ⟨by rw [HV.out]; rfl, rfl⟩
      have e1 : (x.root == n) = false := by simp [hr]
      by_cases h0 : x.id = 0
      · have HK := Lib.hid (HNo.out (decide_eq_false (by rintro (q | q); exact hr q; exact q.1 h0)))
        have e2 : (x.id != 0) = false := by simp [h0]
        clear hr h0
        go_wp2_with fail
        go_round
        case rel => exact ⟨k + 1, by go_num, by omega, HK⟩
        case measure => simp [intOf]; omega
      have e2 : (x.id != 0) = true := by simp [h0]
      by_cases ha : x.ai = n
      · have HV := Lib.hid (HYes.out (decide_eq_true (.inr ⟨h0, ha⟩)))
        have e3 : (x.ai == n) = true := by simp [ha]
        clear hr h0 ha
        go_wp2_with fail
        go_ret
        exact ⟨by rw [HV.out]; rfl, rfl⟩
      · have HK := Lib.hid (HNo.out (decide_eq_false (by rintro (q | q); exact hr q; exact ha q.2)))
        have e3 : (x.ai == n) = false := by simp [ha]
        clear hr h0 ha
        go_wp2_with fail
        go_round
        case rel => exact ⟨k + 1, by go_num, by omega, HK⟩
        case measure => simp [intOf]; omega
    · have HV := Lib.hid (show b = false by
        rw [HB.out]
        exact List.any_eq_false.2 fun m hm => by
          obtain ⟨j, hj⟩ := List.mem_iff_getElem?.1 hm
          rw [HT.out j m (by have := (List.getElem?_eq_some_iff.1 hj).1; have := HN.out; omega) hj]; decide)
      go_wp2_with fail
      go_ret
      exact ⟨by rw [HV.out]; rfl, rfl⟩
/-! HoldMount. -/
theorem rm_set {M : Ms} {i : Nat} {m : MtM} (hi : M[i]? = some m) (v : Int) : (M.flatMap rmC).set (i * 5 + 4) (.int .i64 v) = (heldM M i m v).flatMap rmC := by
  have hl := (List.getElem?_eq_some_iff.1 hi).1
  have hlen : (heldM M i m v).length = M.length := by unfold heldM; simp
  apply List.ext_getElem?
  intro j
  rw [List.getElem?_set, len5 rmC (fun _ => rfl)]
  by_cases hj : j < M.length * 5
  · have e : j = (j / 5) * 5 + j % 5 := by omega
    have hr : j % 5 < 5 := by omega
    rw [e, flat5 rmC (fun _ => rfl) _ _ _ hr, flat5 rmC (fun _ => rfl) _ _ _ hr]
    unfold heldM
    rw [List.getElem?_set]
    by_cases hq : i = j / 5
    · rw [if_pos hq]
      by_cases h4 : j % 5 = 4
      · rw [if_pos (by omega), if_pos (by omega), if_pos hl, h4]; rfl
      · rw [if_neg (by omega), if_pos hl, ← hq, hi]
        rcases (by omega : j % 5 = 0 ∨ j % 5 = 1 ∨ j % 5 = 2 ∨ j % 5 = 3) with h | h | h | h <;> rw [h] <;> rfl
    · rw [if_neg hq, if_neg (by omega)]
  · have e1 : ((heldM M i m v).flatMap rmC)[j]? = none := List.getElem?_eq_none (by rw [len5 rmC (fun _ => rfl), hlen]; omega)
    have e2 : (M.flatMap rmC)[j]? = none := List.getElem?_eq_none (by rw [len5 rmC (fun _ => rfl)]; omega)
    rw [e1, e2]
    split
    · rw [if_neg (by omega)]
    · rfl
theorem RmR.setHeld (h : RmR w B tb nv lv cv M last A c) {i : Nat} {m : MtM} (hi : M[i]? = some m) (v : Int) (hv : 0 ≤ v ∧ v ≤ 1000000000) : RmR (w.setCell ⟨A, i * 5 + 4, none⟩ (.int .i64 v)) B tb nv lv cv (heldM M i m v) last A c := by
  have hlen : (heldM M i m v).length = M.length := by unfold heldM; simp
  have hg := only_set w A (i * 5 + 4) (.int .i64 v)
  refine ⟨?_, ?_, h.hB, fun x hx => ?_, fit_held h.fit hi hv.1, h.last⟩
  · rw [hlen]; exact h.tab.grown hg (fun e => (bk_tyb h.tab).ne h.tyA (by decide) (Option.some.inj e))
  · rw [hlen]
    have := (h.row.stored (i * 5 + 4) (.int .i64 v)).1
    rwa [rm_set hi v] at this
  · obtain ⟨y, hy, e1, e2, e3, e4, e5⟩ := heldM_get (v := v) hi x hx
    have hs := h.sm y hy
    refine ⟨by rw [e1]; exact hs.id, by rw [e2]; exact hs.am, by rw [e3]; exact hs.ai, by rw [e4]; exact hs.root, ?_⟩
    rcases e5 with e5 | e5
    · rw [e5]; exact hs.held
    · rw [e5]; exact hv
theorem FrN.row (h : RmR w B tb nv lv cv M last A c) (j : Nat) (v : Value) : FrN B w (w.setCell ⟨A, j, none⟩ v) := Fr.ofGrown (only_set w A j v) (.inr ⟨h.hA, h.kinA⟩)
theorem FrN.tab (h : RmR w B tb nv lv cv M last A c) (j : Nat) (v : Value) : FrN B w (w.setCell ⟨tb, j, none⟩ v) := Fr.ofGrown (only_set w tb j v) (.inr ⟨h.hB, h.kinT⟩)
def RHoldP (B tb : Nat) (nv lv cv : Value) (M : Ms) (last : Int) (n : Int) (more : Bool) (w : World) (e : Ending) (w' : World) : Prop := e = .returned (.int .i64 (holdE M n more)) ∧ Rmt w' B tb nv lv cv (holdF M n more) last ∧ FrN B w w'
set_option maxRecDepth 100000 in
set_option maxHeartbeats 2000000 in
theorem rhold_any (h : RmR w B tb nv lv cv M last A c) (n : Int) (more : Bool) (hh : ∀ m ∈ M, m.held ≤ 999999999) : Calls Try.prog 31 #[.pointer (some ⟨tb, 0, none⟩), .int .i64 n, .bool more] w (RHoldP B tb nv lv cv M last n more w) := by
  have hi := rfind_any h n
  have hlen := h.fit.len
  have Hh := Lib.hid h
  rcases idxF_find (q := isId n) (l := M) with ⟨h1, h2, _⟩ | ⟨i, m, h1, h2, h3, h4, h5, _⟩
  · rw [h1] at hi
    have HE := Lib.hid (show holdE M n more = 2 by unfold holdE; rw [h2])
    have HF := Lib.hid (show holdF M n more = M by unfold holdF; rw [h2])
    clear h1 h2 h hh
    go_enter Try.func31, Try.ntmps31
    go_wp2_with fail
    refine hi.mono ?_
    rintro e w2 ⟨rfl, rfl⟩
    clear hi
    go_wp2_with fail
    go_ret
    exact ⟨by rw [HE.out]; rfl, by rw [HF.out]; exact ⟨A, c, Hh.out⟩, Fr.refl _ _ _ _⟩
  · rw [h1] at hi
    have hm := List.mem_of_getElem? h3
    have hs := (h.sm m hm).held
    have hh1 := hh m hm
    have H3 := Lib.hid h3
    have HE := Lib.hid (show holdE M n more = if more = true then 0 else if m.held = 0 then 22 else 0 by unfold holdE; rw [h2])
    have HF := Lib.hid (show holdF M n more = if more = true then heldM M i m (m.held + 1) else if m.held = 0 then M else heldM M i m (m.held - 1) by unfold holdF ixN; rw [h2, h1]; rfl)
    obtain ⟨N, hN⟩ : ∃ N, N = M.length := ⟨_, rfl⟩
    have HN := Lib.hid hN
    rw [← hN] at h5 hlen
    obtain ⟨v, hv⟩ : ∃ v, v = m.held := ⟨_, rfl⟩
    have HV := Lib.hid hv
    rw [← hv] at hs hh1
    have hwd := h.drew
    have c2 := h.c2
    have c2d := hwd.c2
    rw [← hN] at c2 c2d
    have ht := h.tab.lt
    have htd := hwd.tab.lt
    have hA := h.tyA.lt
    have hAd := hwd.tyA.lt
    obtain ⟨-, -, -, -, d4⟩ := h.cells5 h3
    obtain ⟨-, -, -, -, d4d⟩ := hwd.cells5 h3
    rw [← hv] at d4 d4d
    have f4 := h.fzA (i * 5 + 4)
    have f4d := hwd.fzA (i * 5 + 4)
    have gi : ¬ ((i : Int) < 0) := by omega
    have HD := Lib.hid hwd
    clear h1 h2 h3 h4 h hh hm hN hv hwd
    cases more with
    | true =>
      go_enter Try.func31, Try.ntmps31
      go_wp2_with fail
      refine hi.mono ?_
      rintro e w2 ⟨rfl, rfl⟩
      clear hi
      go_wp2_with fail
      go_still_tail 16, (by kernel_rfl)
      change wpList _ _ _ _ _ (World.drew w)
      go_wp2_with fail
      go_ret
      refine ⟨by rw [HE.out]; rfl, ?_, (Fr.ofBelow (Below.refl _ w).drew).trans (FrN.row HD.out _ _)⟩
      rw [HF.out, if_pos True.intro]
      exact ⟨A, c, by have := HD.out.setHeld H3.out (v + 1) (by omega); rw [HV.out] at this ⊢; exact this⟩
    | false =>
      by_cases q0 : v = 0
      · have Hq := Lib.hid (HV.out.symm.trans q0)
        rw [q0] at d4 d4d
        clear q0
        go_enter Try.func31, Try.ntmps31
        go_wp2_with fail
        refine hi.mono ?_
        rintro e w2 ⟨rfl, rfl⟩
        clear hi
        go_wp2_with fail
        go_ret
        exact ⟨by rw [HE.out, if_neg (by decide), if_pos Hq.out]; rfl, by rw [HF.out, if_neg (by decide), if_pos Hq.out]; exact ⟨A, c, Hh.out⟩, Fr.refl _ _ _ _⟩
      · have e0 : (v == 0) = false := by simpa using q0
        have Hq := Lib.hid (show ¬ m.held = 0 by rw [← HV.out]; exact q0)
        have hv1 : 1 ≤ v := by omega
        clear q0
        go_enter Try.func31, Try.ntmps31
        go_wp2_with fail
        refine hi.mono ?_
        rintro e w2 ⟨rfl, rfl⟩
        clear hi
        go_wp2_with fail
        go_still_tail 16, (by kernel_rfl)
        change wpList _ _ _ _ _ (World.drew w)
        go_wp2_with fail
        go_ret
        refine ⟨by rw [HE.out, if_neg (by decide), if_neg Hq.out]; rfl, ?_, (Fr.ofBelow (Below.refl _ w).drew).trans (FrN.row HD.out _ _)⟩
        rw [HF.out, if_neg (by decide), if_neg Hq.out]
        exact ⟨A, c, by have := HD.out.setHeld H3.out (v - 1) (by omega); rw [HV.out] at this ⊢; exact this⟩
end
end Go.Proofs.Ytmbgmbheonpamaa.Mt
