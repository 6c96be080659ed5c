/- The document's Seen. -/
import Derived.Test.YtmbgmbheonpamaaRmC
import Derived.StillTail
import Derived.StillTailTactics
import Derived.Deep.CutRange
namespace Go.Proofs.Ytmbgmbheonpamaa.Mt
open Go.RowKit Go.Maps Go.WideElems In
theorem eqRPl (a b x y : Int) (W : World) (q : Bool) (hq : q = decide (a = x ∧ b = y)) : (binOp .eql 81 (.agg #[.int .i64 a, .int .i64 b]) (.agg #[.int .i64 x, .int .i64 y])).run Try.prog W = .ok (.bool q) W := by
  rw [hq]
  simp only [go_sem]
  rw [run_equalIn_agg W 9999 _ _ _ (by simp [Program.fieldsOf, Try.underlying81]) (by kernel_rfl)]
  simp [Op.eqFields, Program.fieldsOf, Try.underlying81, go_sem]
  by_cases h1 : a = x <;> by_cases h2 : b = y <;> simp [h1, h2]
theorem neqRPl (a b x y : Int) (W : World) (q : Bool) (hq : q = decide (¬ (a = x ∧ b = y))) : (binOp .neq 81 (.agg #[.int .i64 a, .int .i64 b]) (.agg #[.int .i64 x, .int .i64 y])).run Try.prog W = .ok (.bool q) W := by
  rw [hq]
  rw [run_neq_struct, run_equalIn_agg W 9999 _ _ _ (by simp [Program.fieldsOf, Try.underlying81]) (by kernel_rfl)]
  simp [Op.eqFields, Program.fieldsOf, Try.underlying81, go_sem]
  by_cases h1 : a = x <;> by_cases h2 : b = y <;> simp [h1, h2]
theorem idx_snoc_no {q : MtM → Bool} {l : Ms} {x : MtM} (h : q x = false) : idxF q (l ++ [x]) = idxF q l := by
  induction l with
  | nil => show (if q x = true then (0 : Int) else if (-1 : Int) < 0 then -1 else (-1) + 1) = -1; rw [if_neg (by rw [h]; decide)]; decide
  | cons y l ih =>
    show idxF q (y :: (l ++ [x])) = _
    unfold idxF
    rw [ih]
theorem idx_snoc_yes {q : MtM → Bool} {l : Ms} {x : MtM} (h : q x = true) (hn : ∀ m ∈ l, q m = false) : idxF q (l ++ [x]) = l.length :=
  idxF_some (i := l.length) (m := x) (by simp) h fun j y hj hy => by
    rw [List.getElem?_append_left hj] at hy
    exact hn y (List.mem_of_getElem? hy)
theorem st_uniq {M : Ms} {last : Int} (hf : Fit M last) {p : Pl} {i : Nat} {m : MtM} (hi : M[i]? = some m) (hs : stB p m = true) : ∀ x ∈ M.take i, stB p x = false := fun x hx => by
  cases hq : stB p x with
  | false => rfl
  | true =>
    exfalso
    obtain ⟨j, hj⟩ := List.mem_iff_getElem?.1 hx
    have hji : j < i := by have := (List.getElem?_eq_some_iff.1 hj).1; simp at this; omega
    rw [List.getElem?_take_of_lt hji] at hj
    have h1 := (List.pairwise_iff_getElem.1 hf.one) j i (List.getElem?_eq_some_iff.1 hj).1 (List.getElem?_eq_some_iff.1 hi).1 hji
    rw [(List.getElem?_eq_some_iff.1 hj).2, (List.getElem?_eq_some_iff.1 hi).2] at h1
    unfold stB at hq hs
    have hq := of_decide_eq_true hq
    have hs := of_decide_eq_true hs
    exact h1 hq.1 hs.1 ⟨by omega, by omega⟩
section
variable {w w' : World} {B tb A c : Nat} {nv lv cv : Value} {M : Ms} {last : Int}
def RPlP (p : Pl) (w : World) (e : Ending) (w' : World) : Prop := e = .returned (rpV p) ∧ Below w.heap.size w w'
theorem sm_drew {w : World} {b : Nat} {t : Nat} {l : List Value} (h : Bk w b t l) : Bk w.drew b t l := h
set_option maxRecDepth 100000 in
set_option maxHeartbeats 4000000 in
theorem rseen_any (h : RmR w B tb nv lv cv M last A c) (p : Pl) : Calls Try.prog 37 #[.pointer (some ⟨tb, 0, none⟩), rpV p] w (RPlP (seenF M p) w) := by
  obtain ⟨x, y⟩ := p
  unfold rpV
  dsimp only
  obtain ⟨W0, hW0⟩ : ∃ W0, W0 = (w.alloc (.cells #[.int .i64 x, .int .i64 y] 81)).alloc (.cells #[.int .i64 0, .int .i64 0] 81) := ⟨_, rfl⟩
  have Hb := Lib.hid (show Below w.heap.size w W0 by rw [hW0]; exact twob _ _ _)
  have hsz : (w.alloc (.cells #[.int .i64 x, .int .i64 y] 81)).heap.size = w.heap.size + 1 := World.size_alloc _ _
  have Hx1 := Lib.hid (show Bk W0 w.heap.size 81 [.int .i64 x, .int .i64 y] by rw [hW0]; exact (Bk.new w _ _ rfl).alloc _)
  have Hx2 := Lib.hid (show Bk W0 (w.heap.size + 1) 81 [.int .i64 0, .int .i64 0] by rw [hW0, ← hsz]; exact Bk.new _ _ _ rfl)
  have Hh := Lib.hid h
  have hlen := h.fit.len
  have HW0 := Lib.hid hW0
  clear hsz hW0
  obtain ⟨N, hN⟩ : ∃ N, N = M.length := ⟨_, rfl⟩
  have HN := Lib.hid hN
  rw [← hN] at hlen
  clear h hN
  go_enter Try.func37, Try.ntmps37
  go_wp2_with fail
  rw [← HW0.out]
  go_loopw [5] (fun u5 wx => ∃ (k : Nat) (x' y' : Int), u5 = .int .i64 k ∧ k ≤ 20 ∧ Hid (seenN (20 - k) M (x', y') = seenF M (x, y)) ∧ Hid (Bk wx w.heap.size 81 [.int .i64 x', .int .i64 y']) ∧ Hid (Bk wx (w.heap.size + 1) 81 [.int .i64 0, .int .i64 0]) ∧ Hid (Below w.heap.size w wx)) (fun u5 _ => 20 - (intOf u5).toNat)
  case atStart => exact ⟨0, x, y, rfl, by omega, rfl, Hx1.out, Hx2.out, Hb.out⟩
  case round =>
    obtain ⟨k, x', y', rfl, hk, HS, HK1, HK2, HB⟩ := hrel
    by_cases hlt : k < 20
    · skip
      have hw := Hh.out.below HB.out
      have c2 := hw.c2
      have ht := hw.tab.lt
      have hA := hw.tyA.lt
      rw [← HN.out] at c2
      clear hw
      obtain ⟨l1, j0, j1, g0, g1⟩ := Bk.all2 HK1.out
      have k20 : (k : Int) < 20 := by omega
      go_wp2_with fail
      clear c2 ht hA l1 j0 j1 g0 g1
      rename World => wo
      go_loopw [6, 7] (fun u6 u7 wx => ∃ (i : Nat) (f : Int), u7 = .int .i64 i ∧ u6 = .int .i64 f ∧ i ≤ N ∧ Hid (f = idxF (stB (x', y')) (M.take i)) ∧ Hid (Below wo.heap.size wo wx)) (fun _ u7 _ => N - (intOf u7).toNat)
      case atStart => exact ⟨0, -1, rfl, rfl, by omega, rfl, Below.refl _ _⟩
      case round =>
        obtain ⟨i, f, rfl, rfl, hi, Hf, HBi⟩ := hrel
        have hw := (Hh.out.below HB.out).below HBi.out
        by_cases hlt2 : i < N
        · obtain ⟨m, hm⟩ : ∃ m, M[i]? = some m := ⟨_, List.getElem?_eq_getElem (by rw [← HN.out]; exact hlt2)⟩
          have htk : M.take (i + 1) = M.take i ++ [m] := by rw [List.take_add_one, hm]; rfl
          have Hm := Lib.hid hm
          have c2 := hw.c2
          have ht := hw.tab.lt
          have hA := hw.tyA.lt
          rw [← HN.out] at c2
          obtain ⟨d0, -, d2, d3, -⟩ := hw.cells5 hm
          obtain ⟨l1, j0, j1, -, -⟩ := Bk.all2 (HK1.out.kept HBi.out)
          by_cases q0 : m.id = 0
          · have Hn := Lib.hid (show f = idxF (stB (x', y')) (M.take (i + 1)) by rw [htk, idx_snoc_no (by unfold stB; rw [q0]; simp)]; exact Hf.out)
            have e0 : (m.id != 0) = false := by simp [q0]
            clear hm htk hw q0
            go_wp2_with fail
            refine wp_region_quiet_lit (by kernel_rfl) (by kernel_rfl) ?_
            repeat (any_goals (first | go_big_quiet_step (fail) | quiet_step (fail)))
            refine wpQuiet_nil ?_
            intro wv hwv
            have HBv := Lib.hid (show Below wr.heap.size wr wv by obtain ⟨q, rfl⟩ := hwv; exact below_drewN (Below.refl _ _) q)
            clear hwv
            clear c2 ht hA l1 j0 j1 d0 d2 d3
            go_wp2_with fail
            go_roundw
            case rel => exact ⟨i + 1, f, by go_num, rfl, by omega, Hn, Lib.hid (HBi.out.trans (HBv.out.mono HBi.out.size))⟩
            case measure => simp [intOf]; omega
          have e0 : (m.id != 0) = true := by simp [q0]
          by_cases qq : m.am = x' ∧ m.ai = y'
          · have hst : stB (x', y') m = true := decide_eq_true ⟨q0, qq⟩
            have Hn := Lib.hid (show (i : Int) = idxF (stB (x', y')) (M.take (i + 1)) by rw [htk, idx_snoc_yes hst (st_uniq Hh.out.fit hm hst), List.length_take, Nat.min_eq_left (by rw [← HN.out]; omega)])
            have heq := fun W => eqRPl m.am m.ai x' y' W true (by simp [qq])
            clear hm htk hw q0 qq hst
            go_wp2_with fail
            refine wp_region_quiet_lit (by kernel_rfl) (by kernel_rfl) ?_
            repeat (any_goals (first | go_big_quiet_step (fail) | quiet_step (fail)))
            refine wpQuiet_nil ?_
            intro wv hwv
            have HBv := Lib.hid (show Below wr.heap.size wr wv by obtain ⟨q, rfl⟩ := hwv; exact below_drewN (Below.refl _ _) q)
            clear hwv
            clear c2 ht hA l1 j0 j1 d0 d2 d3
            go_wp2_with fail
            go_roundw
            case rel => exact ⟨i + 1, (i : Int), by go_num, rfl, by omega, Hn, Lib.hid (HBi.out.trans (HBv.out.mono HBi.out.size))⟩
            case measure => simp [intOf]; omega
          · have hst : stB (x', y') m = false := decide_eq_false (fun k => qq k.2)
            have Hn := Lib.hid (show f = idxF (stB (x', y')) (M.take (i + 1)) by rw [htk, idx_snoc_no hst]; exact Hf.out)
            have heq := fun W => eqRPl m.am m.ai x' y' W false (by simp [qq])
            clear hm htk hw q0 qq hst
            go_wp2_with fail
            refine wp_region_quiet_lit (by kernel_rfl) (by kernel_rfl) ?_
            repeat (any_goals (first | go_big_quiet_step (fail) | quiet_step (fail)))
            refine wpQuiet_nil ?_
            intro wv hwv
            have HBv := Lib.hid (show Below wr.heap.size wr wv by obtain ⟨q, rfl⟩ := hwv; exact below_drewN (Below.refl _ _) q)
            clear hwv
            clear c2 ht hA l1 j0 j1 d0 d2 d3
            go_wp2_with fail
            go_roundw
            case rel => exact ⟨i + 1, f, by go_num, rfl, by omega, Hn, Lib.hid (HBi.out.trans (HBv.out.mono HBi.out.size))⟩
            case measure => simp [intOf]; omega
        · have hiN : M.take i = M := List.take_of_length_le (by rw [← HN.out]; omega)
          have c2 := hw.c2
          have ht := hw.tab.lt
          have hA := hw.tyA.lt
          rw [← HN.out] at c2
          have HB2 := Lib.hid (HB.out.trans (HBi.out.mono HB.out.size))
          have HJ1 := Lib.hid (HK1.out.kept HBi.out)
          have HJ2 := Lib.hid (HK2.out.kept HBi.out)
          obtain ⟨l1, j0, j1, g0, g1⟩ := Bk.all2 HJ1.out
          obtain ⟨l0, k0, k1, f0, f1⟩ := Bk.all2 HJ2.out
          rw [hiN] at Hf
          rcases idxF_find (q := stB (x', y')) (l := M) with ⟨h1, h2, _⟩ | ⟨j, m, h1, h2, h3, h4, h5, _⟩
          · obtain rfl : f = -1 := Hf.out.trans h1
            have HS2 := Lib.hid (show seenF M (x, y) = (x', y') by
              rw [← HS.out, show 20 - k = (19 - k) + 1 by omega]; unfold seenN; rw [h2])
            have HS := HS2
            clear h1 h2 hw hiN HS2
            go_wp2_with fail
            have hk5 := put2_bk (.int .i64 x') (.int .i64 y') HJ2.out
            have HB2 := Lib.hid (below_new HB2.out (put2_grown wr (w.heap.size + 1) (.int .i64 x') (.int .i64 y')) (by omega))
            change bodyPost _ _ _ _ _ (put2 wr (w.heap.size + 1) (.int .i64 x') (.int .i64 y'))
            generalize put2 wr (w.heap.size + 1) (.int .i64 x') (.int .i64 y') = W5 at *
            obtain ⟨-, z0, z1, -⟩ := Bk.all2 hk5
            exact bodyPost_ret (v := rpV (x', y')) (by simp [results, Try.results37, go_sem, z0, z1, rpV]) rfl ⟨by rw [HS.out], HB2.out⟩
          · obtain rfl : f = (j : Int) := Hf.out.trans h1
            have HS2 := Lib.hid (show seenN (20 - (k + 1)) M (m.id, m.root) = seenF M (x, y) by
              rw [← HS.out, show 20 - k = (20 - (k + 1)) + 1 by omega]; conv => rhs; unfold seenN
              rw [h2]; rfl)
            rw [← HN.out] at h5
            have H3 := Lib.hid h3
            have hwd := hw.drew
            have c2d := hwd.c2
            rw [← HN.out] at c2d
            have htd := hwd.tab.lt
            have hAd := hwd.tyA.lt
            obtain ⟨d0, d1, -, -, -⟩ := hwd.cells5 h3
            obtain ⟨l1d, j0d, j1d, g0d, g1d⟩ := Bk.all2 HJ1.out.drew
            have G := Lib.hid hw
            have gj : ¬ ((j : Int) < 0) := by omega
            clear h1 h2 h3 h4 hw hiN hwd l1 j0 j1 g0 g1 l0 k0 k1 f0 f1
            go_wp2_with fail
            clear c2 ht hA
            go_still_tail 17, (by kernel_rfl)
            change wpList _ _ _ _ _ (World.drew wr)
            have hgr := put2_grown wr.drew w.heap.size (.int .i64 m.id) (.int .i64 m.root)
            have HN1 := Lib.hid (put2_bk (.int .i64 m.id) (.int .i64 m.root) HJ1.out.drew)
            have HN2 := Lib.hid (HJ2.out.drew.grown hgr (fun e => by have := Option.some.inj e; omega))
            have HNB := Lib.hid (below_new (HB2.out.drew) hgr (Nat.le_refl _))
            clear hgr
            obtain ⟨l1, j0, j1, g0, g1⟩ := Bk.all2 HJ1.out
            go_wp2_with fail
            go_roundw
            case rel => exact ⟨k + 1, m.id, m.root, by go_num, by omega, HS2, HN1, HN2, HNB⟩
            case measure => simp [intOf]; omega
    · have k20 : ¬ (k : Int) < 20 := by omega
      have HS2 := Lib.hid (show (x', y') = seenF M (x, y) by have h := HS.out; rw [show 20 - k = 0 by omega] at h; exact h)
      have HS := Lib.hid HS2.out.symm
      clear HS2
      obtain ⟨l1, j0, j1, g0, g1⟩ := Bk.all2 HK1.out
      obtain ⟨l0, k0, k1, f0, f1⟩ := Bk.all2 HK2.out
      go_wp2_with fail
      have hk5 := put2_bk (.int .i64 x') (.int .i64 y') HK2.out
      have HB2 := Lib.hid (below_new HB.out (put2_grown wr (w.heap.size + 1) (.int .i64 x') (.int .i64 y')) (by omega))
      change bodyPost _ _ _ _ _ (put2 wr (w.heap.size + 1) (.int .i64 x') (.int .i64 y'))
      generalize put2 wr (w.heap.size + 1) (.int .i64 x') (.int .i64 y') = W5 at *
      obtain ⟨-, z0, z1, -⟩ := Bk.all2 hk5
      exact bodyPost_ret (v := rpV (x', y')) (by simp [results, Try.results37, go_sem, z0, z1, rpV]) rfl ⟨by rw [HS.out], HB2.out⟩
end
end Go.Proofs.Ytmbgmbheonpamaa.Mt
