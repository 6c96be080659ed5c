/- Where among mounts the first one is of which something is so. -/
import Derived.Test.YtmbgmbheonpamaaMtC
namespace Go.Proofs.Ytmbgmbheonpamaa.Mt
open Go.RowKit Go.Maps Go.WideElems In
def IxP (n : Int) (w : World) (e : Ending) (w' : World) : Prop := e = .returned (.int .i64 n) ∧ Below w.heap.size w w'
set_option maxHeartbeats 1000000 in
set_option maxRecDepth 100000 in
theorem ix_index {w : World} {B tb : Nat} {M : Ms} {last : Int} {A c : Nat} (h : MtR w B tb M last A c) (bb : Nat) (q : MtM → Bool) (hF : ∀ m ∈ M, ∀ W, Below w.heap.size w W → Calls Try.prog 97 #[mtV m, .pointer (some ⟨bb, 0, none⟩)] W (BoP (q m) W)) :
    Calls Try.prog 100 #[.slice (some ⟨A, 0, none⟩) M.length c,   .func (.func 97) #[] #[.pointer (some ⟨bb, 0, none⟩)]] w (IxP (idxF q M) w) := by
  have HF := Lib.hid hF
  have HH := Lib.hid h
  have hlen := h.fit.len
  obtain ⟨N, hN⟩ : ∃ N, N = M.length := ⟨_, rfl⟩
  rw [← hN] at hlen ⊢
  have HN := Lib.hid hN
  have hA := h.tyA.lt
  clear hF h hN
  go_enter Try.func100, Try.ntmps100
  go_wp2_with fail
  go_loopw [8] (fun iv wr => ∃ k : Nat, iv = .int .i64 k ∧ k ≤ N ∧ Hid (∀ j x, j < k → M[j]? = some x → q x = false) ∧ Hid (Below w.heap.size w wr)) (fun iv _ => N - (intOf iv).toNat)
  case atStart => exact ⟨0, rfl, Nat.zero_le _, fun j x hj _ => absurd hj (by omega), Below.refl _ _⟩
  case round =>
    obtain ⟨k, rfl, hk, HT, HB⟩ := hrel
    by_cases hlt : k < N
    · obtain ⟨x, hx⟩ : ∃ x, M[k]? = some x := ⟨_, List.getElem?_eq_getElem (by rw [← HN.out]; exact hlt)⟩
      have hr := HH.out.below HB.out
      obtain ⟨c0, c1, c2, c3, c4⟩ := hr.cells5 hx
      have hAl := hr.tyA.lt
      have hp := Lib.hid (HF.out x (List.mem_of_getElem? hx) wr HB.out)
      have HX := Lib.hid hx
      clear hx hr
      go_wp2_with fail
      refine hp.out.mono ?_
      clear hp c0 c1 c2 c3 c4
      rintro e w2 ⟨rfl, hb2⟩
      have HB2 := Lib.hid (HB.out.trans (hb2.mono HB.out.size))
      clear hb2
      cases hq : q x with
      | true =>
        have HV := Lib.hid (idxF_some HX.out hq HT.out)
        clear hq
        go_wp2_with fail
        go_ret
        exact ⟨by rw [HV.out]; rfl, HB2.out⟩
      | false =>
        have HK := Lib.hid (show ∀ j y, j < k + 1 → M[j]? = some y → q y = false from fun j y hj hy => by
          by_cases e : j = k
          · subst e; rw [HX.out] at hy; cases hy; exact hq
          · exact HT.out j y (by omega) hy)
        clear hq
        go_wp2_with fail
        go_roundw
        case rel => exact ⟨k + 1, by go_num, by omega, HK, HB2⟩
        case measure => simp [intOf]; omega
    · have HV := Lib.hid (idxF_none (q := q) (l := M) (fun m hm => by
        obtain ⟨j, hj⟩ := List.mem_iff_getElem?.1 hm
        exact HT.out j m (by have := (List.getElem?_eq_some_iff.1 hj).1; have := HN.out; omega) hj))
      go_wp2_with fail
      go_ret
      exact ⟨by rw [HV.out]; rfl, HB.out⟩
/-- Where the first one stands, by the table. -/
theorem find_index {w : World} {B tb : Nat} {M : Ms} {last : Int} {A c : Nat} (h : MtR w B tb M last A c) (bb : Nat) (q : MtM → Bool) (hF : ∀ m ∈ M, ∀ W, Below w.heap.size w W → Calls Try.prog 97 #[mtV m, .pointer (some ⟨bb, 0, none⟩)] W (BoP (q m) W)) :
    Calls Try.prog 87 #[.pointer (some ⟨tb, 0, none⟩), .func (.func 97) #[] #[.pointer (some ⟨bb, 0, none⟩)]] w (IxP (idxF q M) w) := by
  have hi := ix_index h bb q hF
  have c0 := h.c0
  have ht := h.tab.lt
  clear h hF
  go_enter Try.func87, Try.ntmps87
  go_wp2_with fail
  refine hi.mono ?_
  rintro e w2 ⟨rfl, hb⟩
  have Hb := Lib.hid hb
  clear hb hi
  go_wp2_with fail
  go_ret
  exact ⟨rfl, Hb.out⟩
set_option maxHeartbeats 1000000 in
set_option maxRecDepth 100000 in
theorem ix_standing {w : World} {B tb : Nat} {M : Ms} {last : Int} {A c : Nat} (h : MtR w B tb M last A c) (bb : Nat) (q : MtM → Bool) (hF : ∀ m ∈ M, ∀ W, Below w.heap.size w W → Calls Try.prog 98 #[mtV m, .pointer (some ⟨bb, 0, none⟩)] W (BoP (q m) W)) :
    Calls Try.prog 100 #[.slice (some ⟨A, 0, none⟩) M.length c,   .func (.func 98) #[] #[.pointer (some ⟨bb, 0, none⟩)]] w (IxP (idxF q M) w) := by
  have HF := Lib.hid hF
  have HH := Lib.hid h
  have hlen := h.fit.len
  obtain ⟨N, hN⟩ : ∃ N, N = M.length := ⟨_, rfl⟩
  rw [← hN] at hlen ⊢
  have HN := Lib.hid hN
  have hA := h.tyA.lt
  clear hF h hN
  go_enter Try.func100, Try.ntmps100
  go_wp2_with fail
  go_loopw [8] (fun iv wr => ∃ k : Nat, iv = .int .i64 k ∧ k ≤ N ∧ Hid (∀ j x, j < k → M[j]? = some x → q x = false) ∧ Hid (Below w.heap.size w wr)) (fun iv _ => N - (intOf iv).toNat)
  case atStart => exact ⟨0, rfl, Nat.zero_le _, fun j x hj _ => absurd hj (by omega), Below.refl _ _⟩
  case round =>
    obtain ⟨k, rfl, hk, HT, HB⟩ := hrel
    by_cases hlt : k < N
    · obtain ⟨x, hx⟩ : ∃ x, M[k]? = some x := ⟨_, List.getElem?_eq_getElem (by rw [← HN.out]; exact hlt)⟩
      have hr := HH.out.below HB.out
      obtain ⟨c0, c1, c2, c3, c4⟩ := hr.cells5 hx
      have hAl := hr.tyA.lt
      have hp := Lib.hid (HF.out x (List.mem_of_getElem? hx) wr HB.out)
      have HX := Lib.hid hx
      clear hx hr
      go_wp2_with fail
      refine hp.out.mono ?_
      clear hp c0 c1 c2 c3 c4
      rintro e w2 ⟨rfl, hb2⟩
      have HB2 := Lib.hid (HB.out.trans (hb2.mono HB.out.size))
      clear hb2
      cases hq : q x with
      | true =>
        have HV := Lib.hid (idxF_some HX.out hq HT.out)
        clear hq
        go_wp2_with fail
        go_ret
        exact ⟨by rw [HV.out]; rfl, HB2.out⟩
      | false =>
        have HK := Lib.hid (show ∀ j y, j < k + 1 → M[j]? = some y → q y = false from fun j y hj hy => by
          by_cases e : j = k
          · subst e; rw [HX.out] at hy; cases hy; exact hq
          · exact HT.out j y (by omega) hy)
        clear hq
        go_wp2_with fail
        go_roundw
        case rel => exact ⟨k + 1, by go_num, by omega, HK, HB2⟩
        case measure => simp [intOf]; omega
    · have HV := Lib.hid (idxF_none (q := q) (l := M) (fun m hm => by
        obtain ⟨j, hj⟩ := List.mem_iff_getElem?.1 hm
        exact HT.out j m (by have := (List.getElem?_eq_some_iff.1 hj).1; have := HN.out; omega) hj))
      go_wp2_with fail
      go_ret
      exact ⟨by rw [HV.out]; rfl, HB.out⟩
/-- Where the first one stands, by the table. -/
theorem find_standing {w : World} {B tb : Nat} {M : Ms} {last : Int} {A c : Nat} (h : MtR w B tb M last A c) (bb : Nat) (q : MtM → Bool) (hF : ∀ m ∈ M, ∀ W, Below w.heap.size w W → Calls Try.prog 98 #[mtV m, .pointer (some ⟨bb, 0, none⟩)] W (BoP (q m) W)) :
    Calls Try.prog 87 #[.pointer (some ⟨tb, 0, none⟩), .func (.func 98) #[] #[.pointer (some ⟨bb, 0, none⟩)]] w (IxP (idxF q M) w) := by
  have hi := ix_standing h bb q hF
  have c0 := h.c0
  have ht := h.tab.lt
  clear h hF
  go_enter Try.func87, Try.ntmps87
  go_wp2_with fail
  refine hi.mono ?_
  rintro e w2 ⟨rfl, hb⟩
  have Hb := Lib.hid hb
  clear hb hi
  go_wp2_with fail
  go_ret
  exact ⟨rfl, Hb.out⟩
set_option maxHeartbeats 1000000 in
set_option maxRecDepth 100000 in
theorem ix_within {w : World} {B tb : Nat} {M : Ms} {last : Int} {A c : Nat} (h : MtR w B tb M last A c) (bb : Nat) (q : MtM → Bool) (hF : ∀ m ∈ M, ∀ W, Below w.heap.size w W → Calls Try.prog 99 #[mtV m, .pointer (some ⟨bb, 0, none⟩)] W (BoP (q m) W)) :
    Calls Try.prog 100 #[.slice (some ⟨A, 0, none⟩) M.length c,   .func (.func 99) #[] #[.pointer (some ⟨bb, 0, none⟩)]] w (IxP (idxF q M) w) := by
  have HF := Lib.hid hF
  have HH := Lib.hid h
  have hlen := h.fit.len
  obtain ⟨N, hN⟩ : ∃ N, N = M.length := ⟨_, rfl⟩
  rw [← hN] at hlen ⊢
  have HN := Lib.hid hN
  have hA := h.tyA.lt
  clear hF h hN
  go_enter Try.func100, Try.ntmps100
  go_wp2_with fail
  go_loopw [8] (fun iv wr => ∃ k : Nat, iv = .int .i64 k ∧ k ≤ N ∧ Hid (∀ j x, j < k → M[j]? = some x → q x = false) ∧ Hid (Below w.heap.size w wr)) (fun iv _ => N - (intOf iv).toNat)
  case atStart => exact ⟨0, rfl, Nat.zero_le _, fun j x hj _ => absurd hj (by omega), Below.refl _ _⟩
  case round =>
    obtain ⟨k, rfl, hk, HT, HB⟩ := hrel
    by_cases hlt : k < N
    · obtain ⟨x, hx⟩ : ∃ x, M[k]? = some x := ⟨_, List.getElem?_eq_getElem (by rw [← HN.out]; exact hlt)⟩
      have hr := HH.out.below HB.out
      obtain ⟨c0, c1, c2, c3, c4⟩ := hr.cells5 hx
      have hAl := hr.tyA.lt
      have hp := Lib.hid (HF.out x (List.mem_of_getElem? hx) wr HB.out)
      have HX := Lib.hid hx
      clear hx hr
      go_wp2_with fail
      refine hp.out.mono ?_
      clear hp c0 c1 c2 c3 c4
      rintro e w2 ⟨rfl, hb2⟩
      have HB2 := Lib.hid (HB.out.trans (hb2.mono HB.out.size))
      clear hb2
      cases hq : q x with
      | true =>
        have HV := Lib.hid (idxF_some HX.out hq HT.out)
        clear hq
        go_wp2_with fail
        go_ret
        exact ⟨by rw [HV.out]; rfl, HB2.out⟩
      | false =>
        have HK := Lib.hid (show ∀ j y, j < k + 1 → M[j]? = some y → q y = false from fun j y hj hy => by
          by_cases e : j = k
          · subst e; rw [HX.out] at hy; cases hy; exact hq
          · exact HT.out j y (by omega) hy)
        clear hq
        go_wp2_with fail
        go_roundw
        case rel => exact ⟨k + 1, by go_num, by omega, HK, HB2⟩
        case measure => simp [intOf]; omega
    · have HV := Lib.hid (idxF_none (q := q) (l := M) (fun m hm => by
        obtain ⟨j, hj⟩ := List.mem_iff_getElem?.1 hm
        exact HT.out j m (by have := (List.getElem?_eq_some_iff.1 hj).1; have := HN.out; omega) hj))
      go_wp2_with fail
      go_ret
      exact ⟨by rw [HV.out]; rfl, HB.out⟩
/-- Where the first one stands, by the table. -/
theorem find_within {w : World} {B tb : Nat} {M : Ms} {last : Int} {A c : Nat} (h : MtR w B tb M last A c) (bb : Nat) (q : MtM → Bool) (hF : ∀ m ∈ M, ∀ W, Below w.heap.size w W → Calls Try.prog 99 #[mtV m, .pointer (some ⟨bb, 0, none⟩)] W (BoP (q m) W)) :
    Calls Try.prog 87 #[.pointer (some ⟨tb, 0, none⟩), .func (.func 99) #[] #[.pointer (some ⟨bb, 0, none⟩)]] w (IxP (idxF q M) w) := by
  have hi := ix_within h bb q hF
  have c0 := h.c0
  have ht := h.tab.lt
  clear h hF
  go_enter Try.func87, Try.ntmps87
  go_wp2_with fail
  refine hi.mono ?_
  rintro e w2 ⟨rfl, hb⟩
  have Hb := Lib.hid hb
  clear hb hi
  go_wp2_with fail
  go_ret
  exact ⟨rfl, Hb.out⟩
set_option maxHeartbeats 1000000 in
set_option maxRecDepth 100000 in
theorem ix_Used {w : World} {B tb : Nat} {M : Ms} {last : Int} {A c : Nat} (h : MtR w B tb M last A c) (bb : Nat) (q : MtM → Bool) (hF : ∀ m ∈ M, ∀ W, Below w.heap.size w W → Calls Try.prog 88 #[mtV m, .pointer (some ⟨bb, 0, none⟩)] W (BoP (q m) W)) :
    Calls Try.prog 100 #[.slice (some ⟨A, 0, none⟩) M.length c,   .func (.func 88) #[] #[.pointer (some ⟨bb, 0, none⟩)]] w (IxP (idxF q M) w) := by
  have HF := Lib.hid hF
  have HH := Lib.hid h
  have hlen := h.fit.len
  obtain ⟨N, hN⟩ : ∃ N, N = M.length := ⟨_, rfl⟩
  rw [← hN] at hlen ⊢
  have HN := Lib.hid hN
  have hA := h.tyA.lt
  clear hF h hN
  go_enter Try.func100, Try.ntmps100
  go_wp2_with fail
  go_loopw [8] (fun iv wr => ∃ k : Nat, iv = .int .i64 k ∧ k ≤ N ∧ Hid (∀ j x, j < k → M[j]? = some x → q x = false) ∧ Hid (Below w.heap.size w wr)) (fun iv _ => N - (intOf iv).toNat)
  case atStart => exact ⟨0, rfl, Nat.zero_le _, fun j x hj _ => absurd hj (by omega), Below.refl _ _⟩
  case round =>
    obtain ⟨k, rfl, hk, HT, HB⟩ := hrel
    by_cases hlt : k < N
    · obtain ⟨x, hx⟩ : ∃ x, M[k]? = some x := ⟨_, List.getElem?_eq_getElem (by rw [← HN.out]; exact hlt)⟩
      have hr := HH.out.below HB.out
      obtain ⟨c0, c1, c2, c3, c4⟩ := hr.cells5 hx
      have hAl := hr.tyA.lt
      have hp := Lib.hid (HF.out x (List.mem_of_getElem? hx) wr HB.out)
      have HX := Lib.hid hx
      clear hx hr
      go_wp2_with fail
      refine hp.out.mono ?_
      clear hp c0 c1 c2 c3 c4
      rintro e w2 ⟨rfl, hb2⟩
      have HB2 := Lib.hid (HB.out.trans (hb2.mono HB.out.size))
      clear hb2
      cases hq : q x with
      | true =>
        have HV := Lib.hid (idxF_some HX.out hq HT.out)
        clear hq
        go_wp2_with fail
        go_ret
        exact ⟨by rw [HV.out]; rfl, HB2.out⟩
      | false =>
        have HK := Lib.hid (show ∀ j y, j < k + 1 → M[j]? = some y → q y = false from fun j y hj hy => by
          by_cases e : j = k
          · subst e; rw [HX.out] at hy; cases hy; exact hq
          · exact HT.out j y (by omega) hy)
        clear hq
        go_wp2_with fail
        go_roundw
        case rel => exact ⟨k + 1, by go_num, by omega, HK, HB2⟩
        case measure => simp [intOf]; omega
    · have HV := Lib.hid (idxF_none (q := q) (l := M) (fun m hm => by
        obtain ⟨j, hj⟩ := List.mem_iff_getElem?.1 hm
        exact HT.out j m (by have := (List.getElem?_eq_some_iff.1 hj).1; have := HN.out; omega) hj))
      go_wp2_with fail
      go_ret
      exact ⟨by rw [HV.out]; rfl, HB.out⟩
/-- Where the first one stands, by the table. -/
theorem find_Used {w : World} {B tb : Nat} {M : Ms} {last : Int} {A c : Nat} (h : MtR w B tb M last A c) (bb : Nat) (q : MtM → Bool) (hF : ∀ m ∈ M, ∀ W, Below w.heap.size w W → Calls Try.prog 88 #[mtV m, .pointer (some ⟨bb, 0, none⟩)] W (BoP (q m) W)) :
    Calls Try.prog 87 #[.pointer (some ⟨tb, 0, none⟩), .func (.func 88) #[] #[.pointer (some ⟨bb, 0, none⟩)]] w (IxP (idxF q M) w) := by
  have hi := ix_Used h bb q hF
  have c0 := h.c0
  have ht := h.tab.lt
  clear h hF
  go_enter Try.func87, Try.ntmps87
  go_wp2_with fail
  refine hi.mono ?_
  rintro e w2 ⟨rfl, hb⟩
  have Hb := Lib.hid hb
  clear hb hi
  go_wp2_with fail
  go_ret
  exact ⟨rfl, Hb.out⟩
section
variable {w : World} {B tb : Nat} {M : Ms} {last : Int} {A c : Nat}
theorem index_any (h : MtR w B tb M last A c) (n : Int) : Calls Try.prog 79 #[.pointer (some ⟨tb, 0, none⟩), .int .i64 n] w (IxP (idxF (isId n) M) w) := by
  have hb := oneb w (.cells #[.int .i64 n] 3)
  have hf := find_index (h.below hb) w.heap.size (isId n) (fun m _ W hW => by
    have hk := bx w [.int .i64 n] _ _ rfl W hW
    exact cl_index m W n w.heap.size (hk.cell 0 rfl) hk.lt)
  have Hb := Lib.hid hb
  clear h hb
  go_enter Try.func79, Try.ntmps79
  go_wp2_with fail
  refine hf.mono ?_
  rintro e w2 ⟨rfl, hb2⟩
  have Hb2 := Lib.hid (Hb.out.trans (hb2.mono Hb.out.size))
  clear hb2 hf
  go_wp2_with fail
  go_ret
  exact ⟨rfl, Hb2.out⟩
theorem standing_any (h : MtR w B tb M last A c) (p : Pl) : Calls Try.prog 80 #[.pointer (some ⟨tb, 0, none⟩), .agg #[.int .i64 p.1, .int .u16 p.2]] w (IxP (idxF (stB p) M) w) := by
  have hb := oneb w (.cells #[.int .i64 p.1, .int .u16 p.2] 74)
  have hf := find_standing (h.below hb) w.heap.size (stB p) (fun m hm W hW => by
    have hk := bx w [.int .i64 p.1, .int .u16 p.2] _ _ rfl W hW
    exact cl_standing m W p w.heap.size (h.sm m hm) (hk.cell 0 rfl) (hk.cell 1 rfl) hk.lt)
  have Hb := Lib.hid hb
  clear h hb
  go_enter Try.func80, Try.ntmps80
  go_wp2_with fail
  refine hf.mono ?_
  rintro e w2 ⟨rfl, hb2⟩
  have Hb2 := Lib.hid (Hb.out.trans (hb2.mono Hb.out.size))
  clear hb2 hf
  go_wp2_with fail
  go_ret
  exact ⟨rfl, Hb2.out⟩
theorem ge_iff (q : MtM → Bool) (M : Ms) : decide (0 ≤ idxF q M) = M.any q := by
  rcases idxF_find (q := q) (l := M) with ⟨h1, _, h3⟩ | ⟨i, m, h1, _, h3, h4, _⟩
  · rw [h1, decide_eq_false (by decide)]; exact (List.any_eq_false.2 fun x hx => by rw [h3 x hx]; decide).symm
  · rw [h1, decide_eq_true (by omega)]; exact (List.any_eq_true.2 ⟨m, List.mem_of_getElem? h3, h4⟩).symm
theorem within_any (h : MtR w B tb M last A c) (n : Int) : Calls Try.prog 82 #[.pointer (some ⟨tb, 0, none⟩), .int .i64 n] w (BoP (M.any (inB n)) w) := by
  have hb := oneb w (.cells #[.int .i64 n] 3)
  have hf := find_within (h.below hb) w.heap.size (inB n) (fun m hm W hW => by
    have hk := bx w [.int .i64 n] _ _ rfl W hW
    exact cl_within m W n w.heap.size (h.sm m hm) (hk.cell 0 rfl) hk.lt)
  have Hb := Lib.hid hb
  have hg := ge_iff (inB n) M
  obtain ⟨v, hv⟩ : ∃ v, v = idxF (inB n) M := ⟨_, rfl⟩
  obtain ⟨b, hb'⟩ : ∃ b, b = M.any (inB n) := ⟨_, rfl⟩
  rw [← hv] at hf hg
  rw [← hb'] at hg ⊢
  clear h hb hv hb'
  go_enter Try.func82, Try.ntmps82
  go_wp2_with fail
  refine hf.mono ?_
  rintro e w2 ⟨rfl, hb2⟩
  have Hb2 := Lib.hid (Hb.out.trans (hb2.mono Hb.out.size))
  clear hb2 hf
  go_wp2_with fail
  go_ret
  exact ⟨by first | rfl | (rw [← hg]; rfl), Hb2.out⟩
theorem used_any (h : MtR w B tb M last A c) (n : Int) : Calls Try.prog 38 #[.pointer (some ⟨tb, 0, none⟩), .int .u16 n] w (BoP (M.any (usB n)) w) := by
  have hb := oneb w (.cells #[.int .u16 n] 28)
  have hf := find_Used (h.below hb) w.heap.size (usB n) (fun m hm W hW => by
    have hk := bx w [.int .u16 n] _ _ rfl W hW
    exact cl_used m W n w.heap.size (h.sm m hm) (hk.cell 0 rfl) hk.lt)
  have Hb := Lib.hid hb
  have hg := ge_iff (usB n) M
  obtain ⟨v, hv⟩ : ∃ v, v = idxF (usB n) M := ⟨_, rfl⟩
  obtain ⟨b, hb'⟩ : ∃ b, b = M.any (usB n) := ⟨_, rfl⟩
  rw [← hv] at hf hg
  rw [← hb'] at hg ⊢
  clear h hb hv hb'
  go_enter Try.func38, Try.ntmps38
  go_wp2_with fail
  refine hf.mono ?_
  rintro e w2 ⟨rfl, hb2⟩
  have Hb2 := Lib.hid (Hb.out.trans (hb2.mono Hb.out.size))
  clear hb2 hf
  go_wp2_with fail
  go_ret
  exact ⟨by first | rfl | (rw [← hg]; rfl), Hb2.out⟩
end
end Go.Proofs.Ytmbgmbheonpamaa.Mt
