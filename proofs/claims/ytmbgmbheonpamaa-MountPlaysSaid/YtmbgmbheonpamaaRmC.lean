/- The document's mounts in memory; find, Down. -/
import Derived.Test.YtmbgmbheonpamaaMtH
import Derived.BigQuiet
namespace Go.Proofs.Ytmbgmbheonpamaa.Mt
open Go.RowKit Go.Maps Go.WideElems In
abbrev RMT : List TypeId := [56, 94]
abbrev FrN := Fr RMT false
def rmC (m : MtM) : List Value := [.int .i64 m.id, .int .i64 m.root, .int .i64 m.am, .int .i64 m.ai, .int .i64 m.held]
structure RmR (w : World) (B tb : Nat) (nv lv cv : Value) (M : Ms) (last : Int) (A c : Nat) : Prop where
  tab : Bk w tb 56 [nv, lv, .slice (some ⟨A, 0, none⟩) M.length c, .int .i64 (last + 1), cv]
  row : w.ownsRow B 94 5 (.slice (some ⟨A, 0, none⟩) M.length c) M.length (M.flatMap rmC)
  hB : B ≤ tb
  sm : ∀ m ∈ M, Sm m
  fit : Fit M last
  last : 0 ≤ last ∧ last ≤ 1000000000
def Rmt (w : World) (B tb : Nat) (nv lv cv : Value) (M : Ms) (last : Int) : Prop := ∃ A c, RmR w B tb nv lv cv M last A c
def rpV (p : Pl) : Value := .agg #[.int .i64 p.1, .int .i64 p.2]
section
variable {w w' : World} {B tb A c : Nat} {nv lv cv : Value} {M : Ms} {last : Int}
theorem RmR.tyA (h : RmR w B tb nv lv cv M last A c) : TyB w A 94 := by
  obtain ⟨_, _, _, _, _, hty, _⟩ := own_typed h.row
  exact hty A rfl
theorem RmR.lt (h : RmR w B tb nv lv cv M last A c) : B < w.heap.size := Nat.lt_of_le_of_lt h.hB h.tab.lt
theorem RmR.same (h : RmR w B tb nv lv cv M last A c) (hb : ∀ b, (TyB w b 56 ∨ TyB w b 94) → w'.heap[b]? = w.heap[b]?) : RmR w' B tb nv lv cv M last A c :=
  ⟨(hb _ (.inl (bk_tyb h.tab))).trans h.tab, own_sameM h.row (fun b e => by cases e; exact hb _ (.inr h.tyA)), h.hB, h.sm, h.fit, h.last⟩
theorem RmR.below (h : RmR w B tb nv lv cv M last A c) (hb : Below w.heap.size w w') : RmR w' B tb nv lv cv M last A c :=
  h.same fun b q => hb.block _ (by rcases q with q | q <;> exact q.lt)
theorem Rmt.below (h : Rmt w B tb nv lv cv M last) (hb : Below w.heap.size w w') : Rmt w' B tb nv lv cv M last := by obtain ⟨A, c, h⟩ := h; exact ⟨A, c, h.below hb⟩
theorem Rmt.other {ts : List TypeId} {m : Bool} {B2 : Nat} (h : Rmt w B tb nv lv cv M last) (hf : Fr ts m B2 w w') (h1 : 56 ∉ ts) (h2 : 94 ∉ ts) : Rmt w' B tb nv lv cv M last := by
  obtain ⟨A, c, h⟩ := h
  refine ⟨A, c, h.same fun b q => ?_⟩
  rcases q with q | q
  · exact hf.tyb q h1
  · exact hf.tyb q h2
theorem RmR.cell (h : RmR w B tb nv lv cv M last A c) {n : Nat} {m : MtM} (hn : M[n]? = some m) (j : Nat) (hj : j < 5) {v : Value} (hv : (rmC m)[j]? = some v) : w.cell? ⟨A, n * 5 + j, none⟩ = some v := by
  have := h.row.cells (g := A) rfl (n * 5 + j) v (by rw [flat5 rmC (fun _ => rfl) _ _ _ hj, hn]; exact hv)
  rwa [addr_at, Nat.zero_add] at this
theorem RmR.cells5 (h : RmR w B tb nv lv cv M last A c) {n : Nat} {m : MtM} (hn : M[n]? = some m) :
    w.cell? ⟨A, n * 5, none⟩ = some (.int .i64 m.id) ∧ w.cell? ⟨A, n * 5 + 1, none⟩ = some (.int .i64 m.root) ∧ w.cell? ⟨A, n * 5 + 2, none⟩ = some (.int .i64 m.am) ∧ w.cell? ⟨A, n * 5 + 3, none⟩ = some (.int .i64 m.ai) ∧ w.cell? ⟨A, n * 5 + 4, none⟩ = some (.int .i64 m.held) :=
  ⟨h.cell hn 0 (by omega) rfl, h.cell hn 1 (by omega) rfl, h.cell hn 2 (by omega) rfl, h.cell hn 3 (by omega) rfl, h.cell hn 4 (by omega) rfl⟩
theorem RmR.fzA (h : RmR w B tb nv lv cv M last A c) (j : Nat) : w.frozen? ⟨A, j, none⟩ = false := h.row.frozenAt j
theorem RmR.c2 (h : RmR w B tb nv lv cv M last A c) : w.cell? ⟨tb, 2, none⟩ = some (.slice (some ⟨A, 0, none⟩) M.length c) := h.tab.cell 2 rfl
theorem RmR.c3 (h : RmR w B tb nv lv cv M last A c) : w.cell? ⟨tb, 3, none⟩ = some (.int .i64 (last + 1)) := h.tab.cell 3 rfl
theorem RmR.fzT (h : RmR w B tb nv lv cv M last A c) (j : Nat) : w.frozen? ⟨tb, j, none⟩ = false := h.tab.fz j
theorem RmR.kinT (h : RmR w B tb nv lv cv M last A c) : Kin RMT false w tb := .inl ⟨_, by simp [RMT], bk_tyb h.tab⟩
theorem RmR.kinA (h : RmR w B tb nv lv cv M last A c) : Kin RMT false w A := .inl ⟨_, by simp [RMT], h.tyA⟩
theorem RmR.hA (h : RmR w B tb nv lv cv M last A c) : B ≤ A := (h.row.lt A rfl).1
theorem RmR.drewN (h : RmR w B tb nv lv cv M last A c) (n : Nat) : RmR (w.drewN n) B tb nv lv cv M last A c := h.below (below_drewN (Below.refl _ _) n)
theorem RmR.drew (h : RmR w B tb nv lv cv M last A c) : RmR w.drew B tb nv lv cv M last A c := h.below (Below.refl _ _).drew
set_option maxHeartbeats 1000000 in
theorem rfind_any (h : RmR w B tb nv lv cv M last A c) (n : Int) : Calls Try.prog 81 #[.pointer (some ⟨tb, 0, none⟩), .int .i64 n] w fun e w' => e = .returned (.int .i64 (idxF (isId n) M)) ∧ w = w' := by
  have HH := Lib.hid h
  have hlen := h.fit.len
  have c2 := h.c2
  have ht := h.tab.lt
  have hA := h.tyA.lt
  obtain ⟨N, hN⟩ : ∃ N, N = M.length := ⟨_, rfl⟩
  rw [← hN] at hlen c2
  have HN := Lib.hid hN
  clear h hN
  go_enter Try.func81, Try.ntmps81
  go_wp2_with fail
  go_loop [5] (fun iv => ∃ k : Nat, iv = .int .i64 k ∧ k ≤ N ∧ Hid (∀ j x, j < k → M[j]? = some x → isId n x = false)) (fun iv => N - (intOf iv).toNat)
  case atStart => exact ⟨0, rfl, Nat.zero_le _, fun j x hj _ => absurd hj (by omega)⟩
  case round =>
    obtain ⟨k, rfl, hk, HT⟩ := hrel
    by_cases hlt : k < N
    · obtain ⟨x, hx⟩ : ∃ x, M[k]? = some x := ⟨_, List.getElem?_eq_getElem (by rw [← HN.out]; exact hlt)⟩
      obtain ⟨d0, -⟩ := HH.out.cells5 hx
      have HX := Lib.hid hx
      clear hx
      by_cases hq : x.id = n
      · have HV := Lib.hid (idxF_some (q := isId n) HX.out (decide_eq_true hq) HT.out)
        have e1 : (x.id == n) = true := by simp [hq]
        clear hq
        go_wp2_with fail
        go_ret
        exact ⟨by rw [HV.out]; rfl, rfl⟩
      · have HK := Lib.hid (show ∀ j y, j < k + 1 → M[j]? = some y → isId n y = false from fun j y hj hy => by
          by_cases e : j = k
          · subst e; rw [HX.out] at hy; cases hy; exact decide_eq_false hq
          · exact HT.out j y (by omega) hy)
        have e1 : (x.id == n) = false := by simp [hq]
        clear hq
        go_wp2_with fail
        go_round
        case rel => exact ⟨k + 1, by go_num, by omega, HK⟩
        case measure => simp [intOf]; omega
    · have HV := Lib.hid (idxF_none (q := isId n) (l := M) (fun m hm => by
        obtain ⟨j, hj⟩ := List.mem_iff_getElem?.1 hm
        exact HT.out j m (by have := (List.getElem?_eq_some_iff.1 hj).1; have := HN.out; omega) hj))
      go_wp2_with fail
      go_ret
      exact ⟨by rw [HV.out]; rfl, rfl⟩
def RDownP (o : Option Pl) (w : World) (e : Ending) (w' : World) : Prop := e = .returned (.tuple #[rpV (o.getD (0, 0)), .bool o.isSome]) ∧ Below w.heap.size w w'
set_option maxHeartbeats 1000000 in
theorem rdown_any (h : RmR w B tb nv lv cv M last A c) (p : Pl) : Calls Try.prog 35 #[.pointer (some ⟨tb, 0, none⟩), rpV p] w (RDownP (downF M p) w) := by
  obtain ⟨x, y⟩ := p
  unfold rpV
  dsimp only
  obtain ⟨W0, hW0⟩ : ∃ W0, W0 = (w.alloc (.cells #[.int .i64 x, .int .i64 y] 81)).alloc (.cells #[.int .i64 0, .int .i64 0] 81) := ⟨_, rfl⟩
  have Hb := Lib.hid (show Below w.heap.size w W0 by rw [hW0]; exact twob _ _ _)
  have hsz : (w.alloc (.cells #[.int .i64 x, .int .i64 y] 81)).heap.size = w.heap.size + 1 := World.size_alloc _ _
  have Hx1 := Lib.hid (show Bk W0 w.heap.size 81 [.int .i64 x, .int .i64 y] by rw [hW0]; exact (Bk.new w _ _ rfl).alloc _)
  have Hx2 := Lib.hid (show Bk W0 (w.heap.size + 1) 81 [.int .i64 0, .int .i64 0] by rw [hW0, ← hsz]; exact Bk.new _ _ _ rfl)
  have Hh := Lib.hid (h.below Hb.out)
  have hlen := h.fit.len
  have hi := rfind_any Hh.out x
  have HW0 := Lib.hid hW0
  clear hsz hW0
  rcases idxF_find (q := isId x) (l := M) with ⟨h1, h2, _⟩ | ⟨i, m, h1, h2, h3, h4, h5, _⟩
  · rw [h1] at hi
    have HD := Lib.hid (show downF M (x, y) = none by unfold downF; rw [h2])
    clear h1 h2 h
    go_enter Try.func35, Try.ntmps35
    go_wp2_with fail
    rw [← HW0.out]
    refine hi.mono ?_
    rintro e w2 ⟨rfl, rfl⟩
    clear hi
    obtain ⟨l1, j0, j1, -, -⟩ := Bk.all2 Hx1.out
    go_wp2_with fail
    refine wp_region_quiet_lit (by kernel_rfl) (by kernel_rfl) ?_
    repeat (any_goals (first | go_big_quiet_step (fail) | quiet_step (fail)))
    refine wpQuiet_nil ?_
    intro wv hwv
    have HBv := Lib.hid (show Below W0.heap.size W0 wv by obtain ⟨q, rfl⟩ := hwv; exact below_drewN (Below.refl _ _) q)
    clear hwv
    have hk := Hx2.out.kept HBv.out
    have HB := Lib.hid (Hb.out.trans (HBv.out.mono Hb.out.size))
    obtain ⟨l0, k0, k1, f0, f1⟩ := Bk.all2 hk
    clear Hx1
    go_wp2_with fail
    have hk5 := put2_bk (.int .i64 0) (.int .i64 0) hk
    have HB2 := Lib.hid (below_new HB.out (put2_grown wv (w.heap.size + 1) (.int .i64 0) (.int .i64 0)) (by omega))
    change bodyPost _ _ _ _ _ (put2 wv (w.heap.size + 1) (.int .i64 0) (.int .i64 0))
    generalize put2 wv (w.heap.size + 1) (.int .i64 0) (.int .i64 0) = W5 at *
    obtain ⟨-, z0, z1, -⟩ := Bk.all2 hk5
    exact bodyPost_ret (v := .tuple #[rpV (0, 0), .bool false]) (by simp [results, Try.results35, go_sem, z0, z1, rpV]) rfl ⟨by rw [HD.out]; rfl, HB2.out⟩
  · rw [h1] at hi
    have hid : m.id = x := by unfold isId at h4; exact of_decide_eq_true h4
    have hd : downF M (x, y) = if m.id ≠ 0 ∧ m.root = y then some m.at_ else none := by unfold downF; rw [h2]
    have H3 := Lib.hid h3
    have g1 : ¬ ((i : Int) < 0) := by omega
    have g2 : decide ((i : Int) < 0) = false := decide_eq_false g1
    obtain ⟨N, hN⟩ : ∃ N, N = M.length := ⟨_, rfl⟩
    have HN := Lib.hid hN
    rw [← hN] at hlen h5
    clear h1 h2 h3 h4 h hN
    by_cases q0 : x = 0
    · have HD := Lib.hid (show downF M (x, y) = none by rw [hd, if_neg (fun k => k.1 (hid.trans q0))])
      clear hd hid
      subst q0
      have e0 : ((0 : Int) == 0) = true := rfl
      go_enter Try.func35, Try.ntmps35
      go_wp2_with fail
      rw [← HW0.out]
      refine hi.mono ?_
      rintro e w2 ⟨rfl, rfl⟩
      clear hi
      obtain ⟨l1, j0, j1, -, -⟩ := Bk.all2 Hx1.out
      go_wp2_with fail
      refine wp_region_quiet_lit (by kernel_rfl) (by kernel_rfl) ?_
      repeat (any_goals (first | go_big_quiet_step (fail) | quiet_step (fail)))
      refine wpQuiet_nil ?_
      intro wv hwv
      have HBv := Lib.hid (show Below W0.heap.size W0 wv by obtain ⟨q, rfl⟩ := hwv; exact below_drewN (Below.refl _ _) q)
      clear hwv
      have hk := Hx2.out.kept HBv.out
      have HB := Lib.hid (Hb.out.trans (HBv.out.mono Hb.out.size))
      obtain ⟨l0, k0, k1, f0, f1⟩ := Bk.all2 hk
      clear Hx1
      go_wp2_with fail
      have hk5 := put2_bk (.int .i64 0) (.int .i64 0) hk
      have HB2 := Lib.hid (below_new HB.out (put2_grown wv (w.heap.size + 1) (.int .i64 0) (.int .i64 0)) (by omega))
      change bodyPost _ _ _ _ _ (put2 wv (w.heap.size + 1) (.int .i64 0) (.int .i64 0))
      generalize put2 wv (w.heap.size + 1) (.int .i64 0) (.int .i64 0) = W5 at *
      obtain ⟨-, z0, z1, -⟩ := Bk.all2 hk5
      exact bodyPost_ret (v := .tuple #[rpV (0, 0), .bool false]) (by simp [results, Try.results35, go_sem, z0, z1, rpV]) rfl ⟨by rw [HD.out]; rfl, HB2.out⟩
    have e0 : (x == 0) = false := by simp [q0]
    by_cases qr : m.root = y
    · have HD := Lib.hid (show downF M (x, y) = some m.at_ by rw [hd, if_pos ⟨fun e => q0 (hid.symm.trans e), qr⟩])
      have e1 : (m.root != y) = false := by simp [qr]
      clear hd hid q0 qr
      go_enter Try.func35, Try.ntmps35
      go_wp2_with fail
      rw [← HW0.out]
      refine hi.mono ?_
      rintro e w2 ⟨rfl, rfl⟩
      clear hi
      obtain ⟨l1, j0, j1, -, -⟩ := Bk.all2 Hx1.out
      go_wp2_with fail
      obtain ⟨d0, d1, d2, d3, d4⟩ := Hh.out.cells5 H3.out
      have c2 := Hh.out.c2
      have ht := Hh.out.tab.lt
      have hA := Hh.out.tyA.lt
      rw [← HN.out] at c2
      refine wp_region_quiet_lit (by kernel_rfl) (by kernel_rfl) ?_
      repeat (any_goals (first | go_big_quiet_step (fail) | quiet_step (fail)))
      refine wpQuiet_nil ?_
      intro wv hwv
      have HBv := Lib.hid (show Below W0.heap.size W0 wv by obtain ⟨q, rfl⟩ := hwv; exact below_drewN (Below.refl _ _) q)
      clear hwv
      clear d0 d1 d2 d3 d4 c2 ht hA
      have hk := Hx2.out.kept HBv.out
      have HB := Lib.hid (Hb.out.trans (HBv.out.mono Hb.out.size))
      obtain ⟨l0, k0, k1, f0, f1⟩ := Bk.all2 hk
      obtain ⟨d0, d1, d2, d3, d4⟩ := (Hh.out.below HBv.out).cells5 H3.out
      have c2 := (Hh.out.below HBv.out).c2
      have ht := (Hh.out.below HBv.out).tab.lt
      have hA := (Hh.out.below HBv.out).tyA.lt
      rw [← HN.out] at c2
      go_wp2_with fail
      have hk5 := put2_bk (.int .i64 m.am) (.int .i64 m.ai) hk
      have HB2 := Lib.hid (below_new HB.out (put2_grown wv (w.heap.size + 1) (.int .i64 m.am) (.int .i64 m.ai)) (by omega))
      change bodyPost _ _ _ _ _ (put2 wv (w.heap.size + 1) (.int .i64 m.am) (.int .i64 m.ai))
      generalize put2 wv (w.heap.size + 1) (.int .i64 m.am) (.int .i64 m.ai) = W5 at *
      obtain ⟨-, z0, z1, -⟩ := Bk.all2 hk5
      exact bodyPost_ret (v := .tuple #[rpV m.at_, .bool true]) (by simp [results, Try.results35, go_sem, z0, z1, rpV, MtM.at_]) rfl ⟨by rw [HD.out]; rfl, HB2.out⟩
    · have HD := Lib.hid (show downF M (x, y) = none by rw [hd, if_neg (fun k => qr k.2)])
      have e1 : (m.root != y) = true := by simp [qr]
      clear hd hid q0 qr
      go_enter Try.func35, Try.ntmps35
      go_wp2_with fail
      rw [← HW0.out]
      refine hi.mono ?_
      rintro e w2 ⟨rfl, rfl⟩
      clear hi
      obtain ⟨l1, j0, j1, -, -⟩ := Bk.all2 Hx1.out
      go_wp2_with fail
      obtain ⟨d0, d1, d2, d3, d4⟩ := Hh.out.cells5 H3.out
      have c2 := Hh.out.c2
      have ht := Hh.out.tab.lt
      have hA := Hh.out.tyA.lt
      rw [← HN.out] at c2
      refine wp_region_quiet_lit (by kernel_rfl) (by kernel_rfl) ?_
      repeat (any_goals (first | go_big_quiet_step (fail) | quiet_step (fail)))
      refine wpQuiet_nil ?_
      intro wv hwv
      have HBv := Lib.hid (show Below W0.heap.size W0 wv by obtain ⟨q, rfl⟩ := hwv; exact below_drewN (Below.refl _ _) q)
      clear hwv
      clear d0 d1 d2 d3 d4 c2 ht hA
      have hk := Hx2.out.kept HBv.out
      have HB := Lib.hid (Hb.out.trans (HBv.out.mono Hb.out.size))
      obtain ⟨l0, k0, k1, f0, f1⟩ := Bk.all2 hk
      clear Hx1
      go_wp2_with fail
      have hk5 := put2_bk (.int .i64 0) (.int .i64 0) hk
      have HB2 := Lib.hid (below_new HB.out (put2_grown wv (w.heap.size + 1) (.int .i64 0) (.int .i64 0)) (by omega))
      change bodyPost _ _ _ _ _ (put2 wv (w.heap.size + 1) (.int .i64 0) (.int .i64 0))
      generalize put2 wv (w.heap.size + 1) (.int .i64 0) (.int .i64 0) = W5 at *
      obtain ⟨-, z0, z1, -⟩ := Bk.all2 hk5
      exact bodyPost_ret (v := .tuple #[rpV (0, 0), .bool false]) (by simp [results, Try.results35, go_sem, z0, z1, rpV]) rfl ⟨by rw [HD.out]; rfl, HB2.out⟩
end
end Go.Proofs.Ytmbgmbheonpamaa.Mt
