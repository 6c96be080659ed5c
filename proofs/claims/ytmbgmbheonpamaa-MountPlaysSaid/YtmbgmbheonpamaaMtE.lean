/- New, Get, Down, Seen, Top. -/
import Derived.Test.YtmbgmbheonpamaaMtD
namespace Go.Proofs.Ytmbgmbheonpamaa.Mt
open Go.RowKit Go.Maps Go.WideElems In
section
variable {w : World} {B tb : Nat} {M : Ms} {last : Int} {A c : Nat}
def mtZ : MtM := ⟨0, 0, 0, 0, 0⟩
def NewM (w : World) (e : Ending) (w' : World) : Prop := ∃ tb A c, e = .returned (.pointer (some ⟨tb, 0, none⟩)) ∧ MtR w' w.heap.size tb [⟨0, 0, 0, 1, 0⟩] 0 A c ∧ Below w.heap.size w w'
theorem new_any (w : World) : Calls Try.prog 24 #[] w (NewM w) := by
  go_enter Try.func24, Try.ntmps24
  go_wp2_with fail
  go_ret
  have hrow : ((w.alloc (.cells #[.int .i64 0, .int .i64 0, .int .u16 0, .int .u16 1, .int .i64 0] 90)).alloc (.cells #[.slice (some ⟨w.heap.size, 0, none⟩) 1 1, .int .i64 0] 149)).ownsRow w.heap.size 90 5 (.slice (some ⟨w.heap.size, 0, none⟩) 1 1) 1 (mtC ⟨0, 0, 0, 1, 0⟩) :=
    bk_own ((Bk.new w 90 _ rfl).alloc _) rfl (by decide) (Nat.le_refl _)
  have hsz : (w.alloc (.cells #[.int .i64 0, .int .i64 0, .int .u16 0, .int .u16 1, .int .i64 0] 90)).heap.size = w.heap.size + 1 := World.size_alloc _ _
  refine ⟨w.heap.size + 1, w.heap.size, 1, rfl, ⟨?_, ?_, by omega, fun m hm => ?_, fit_new, by decide⟩, twob _ _ _⟩
  · rw [← hsz]; exact Bk.new _ _ _ rfl
  · exact hrow
  · simp at hm; subst hm; exact ⟨by decide, ⟨by decide, by decide⟩, by decide, by decide, by decide⟩
/-- A block of five cells, of two, all stored anew. -/
def put5 (W : World) (b : Nat) (v0 v1 v2 v3 v4 : Value) : World := ((((W.setCell ⟨b, 0, none⟩ v0).setCell ⟨b, 1, none⟩ v1).setCell ⟨b, 2, none⟩ v2).setCell ⟨b, 3, none⟩ v3).setCell ⟨b, 4, none⟩ v4
def put2 (W : World) (b : Nat) (v0 v1 : Value) : World := (W.setCell ⟨b, 0, none⟩ v0).setCell ⟨b, 1, none⟩ v1
theorem put5_bk {W : World} {b t : Nat} {a0 a1 a2 a3 a4 : Value} (v0 v1 v2 v3 v4 : Value) (h : Bk W b t [a0, a1, a2, a3, a4]) : Bk (put5 W b v0 v1 v2 v3 v4) b t [v0, v1, v2, v3, v4] :=
  ((((h.set 0 v0).set 1 v1).set 2 v2).set 3 v3).set 4 v4
theorem put2_bk {W : World} {b t : Nat} {a0 a1 : Value} (v0 v1 : Value) (h : Bk W b t [a0, a1]) : Bk (put2 W b v0 v1) b t [v0, v1] := (h.set 0 v0).set 1 v1
theorem put5_grown (W : World) (b : Nat) (v0 v1 v2 v3 v4 : Value) : W.grownBy (put5 W b v0 v1 v2 v3 v4) (some b) :=
  only_trans (only_trans (only_trans (only_trans (only_set _ _ _ _) (only_set _ _ _ _)) (only_set _ _ _ _)) (only_set _ _ _ _)) (only_set _ _ _ _)
theorem put2_grown (W : World) (b : Nat) (v0 v1 : Value) : W.grownBy (put2 W b v0 v1) (some b) := only_trans (only_set _ _ _ _) (only_set _ _ _ _)
theorem Bk.all5 {W : World} {b t : Nat} {a0 a1 a2 a3 a4 : Value} (h : Bk W b t [a0, a1, a2, a3, a4]) : b < W.heap.size ∧ W.cell? ⟨b, 0, none⟩ = some a0 ∧ W.cell? ⟨b, 1, none⟩ = some a1 ∧ W.cell? ⟨b, 2, none⟩ = some a2 ∧ W.cell? ⟨b, 3, none⟩ = some a3 ∧ W.cell? ⟨b, 4, none⟩ = some a4 ∧ W.frozen? ⟨b, 0, none⟩ = false ∧ W.frozen? ⟨b, 1, none⟩ = false ∧ W.frozen? ⟨b, 2, none⟩ = false ∧ W.frozen? ⟨b, 3, none⟩ = false ∧ W.frozen? ⟨b, 4, none⟩ = false :=
  ⟨h.lt, h.cell 0 rfl, h.cell 1 rfl, h.cell 2 rfl, h.cell 3 rfl, h.cell 4 rfl, h.fz 0, h.fz 1, h.fz 2, h.fz 3, h.fz 4⟩
theorem Bk.all2 {W : World} {b t : Nat} {a0 a1 : Value} (h : Bk W b t [a0, a1]) : b < W.heap.size ∧ W.cell? ⟨b, 0, none⟩ = some a0 ∧ W.cell? ⟨b, 1, none⟩ = some a1 ∧ W.frozen? ⟨b, 0, none⟩ = false ∧ W.frozen? ⟨b, 1, none⟩ = false :=
  ⟨h.lt, h.cell 0 rfl, h.cell 1 rfl, h.fz 0, h.fz 1⟩
theorem below_new {w W W' : World} {b : Nat} (h : Below w.heap.size w W) (hg : W.grownBy W' (some b)) (hb : w.heap.size ≤ b) : Below w.heap.size w W' := h.grown hg h.size (fun q hq => by cases hq; exact hb)
def GetP (o : Option MtM) (w : World) (e : Ending) (w' : World) : Prop := e = .returned (.tuple #[mtV (o.getD mtZ), .bool o.isSome]) ∧ Below w.heap.size w w'
set_option maxHeartbeats 1000000 in
theorem get_any (h : MtR w B tb M last A c) (n : Int) : Calls Try.prog 33 #[.pointer (some ⟨tb, 0, none⟩), .int .i64 n] w (GetP (M.find? (isId n)) w) := by
  have hb := oneb w (.cells #[.int .i64 0, .int .i64 0, .int .u16 0, .int .u16 0, .int .i64 0] 90)
  have hi := index_any (h.below hb) n
  have Hb := Lib.hid hb
  have hlen := h.fit.len
  rcases idxF_find (q := isId n) (l := M) with ⟨h1, h2, _⟩ | ⟨i, m, h1, h2, h3, h4, h5, _⟩
  · rw [h1] at hi
    rw [h2]
    clear h1 h2 h hb
    go_enter Try.func33, Try.ntmps33
    go_wp2_with fail
    refine hi.mono ?_
    rintro e w2 ⟨rfl, hb2⟩
    have hk := bx w [.int .i64 0, .int .i64 0, .int .u16 0, .int .u16 0, .int .i64 0] _ _ rfl w2 hb2
    obtain ⟨kl, k0, k1, k2, k3, k4, f0, f1, f2, f3, f4⟩ := Bk.all5 hk
    have HB := Lib.hid (Hb.out.trans (hb2.mono Hb.out.size))
    clear hb2 hi
    go_wp2_with fail
    have hk5 := Bk.all5 (put5_bk (.int .i64 0) (.int .i64 0) (.int .u16 0) (.int .u16 0) (.int .i64 0) hk)
    have HB2 := Lib.hid (below_new HB.out (put5_grown w2 w.heap.size (.int .i64 0) (.int .i64 0) (.int .u16 0) (.int .u16 0) (.int .i64 0)) (Nat.le_refl _))
    clear k0 k1 k2 k3 k4 f0 f1 f2 f3 f4 hk
    change bodyPost _ _ _ _ _ (put5 w2 w.heap.size (.int .i64 0) (.int .i64 0) (.int .u16 0) (.int .u16 0) (.int .i64 0))
    generalize put5 w2 w.heap.size (.int .i64 0) (.int .i64 0) (.int .u16 0) (.int .u16 0) (.int .i64 0) = W5 at *
    obtain ⟨-, k0, k1, k2, k3, k4, -⟩ := hk5
    exact bodyPost_ret (v := .tuple #[mtV mtZ, .bool false]) (by simp [results, Try.results33, go_sem, k0, k1, k2, k3, k4, mtV, mtZ]) rfl ⟨rfl, HB2.out⟩
  · rw [h1] at hi
    rw [h2]
    have Hh := Lib.hid h
    have H3 := Lib.hid h3
    have H5 := Lib.hid h5
    have c0 := h.c0
    have hlt := h.tab.lt
    have g1 : ¬ ((i : Int) < 0) := by omega
    obtain ⟨N, hN⟩ : ∃ N, N = M.length := ⟨_, rfl⟩
    rw [← hN] at h5 c0 hlen
    clear h1 h2 h3 h4 h hb hN
    go_enter Try.func33, Try.ntmps33
    go_wp2_with fail
    refine hi.mono ?_
    rintro e w2 ⟨rfl, hb2⟩
    have hk := bx w [.int .i64 0, .int .i64 0, .int .u16 0, .int .u16 0, .int .i64 0] _ _ rfl w2 hb2
    obtain ⟨kl, k0, k1, k2, k3, k4, f0, f1, f2, f3, f4⟩ := Bk.all5 hk
    have hB := Hb.out.trans (hb2.mono Hb.out.size)
    have h2 := Hh.out.below hB
    obtain ⟨d0, d1, d2, d3, d4⟩ := h2.cells5 H3.out
    have e0 := h2.c0
    have hA := h2.tyA.lt
    have HB := Lib.hid hB
    clear hb2 hi h2 hB c0
    go_wp2_with fail
    have hk5 := Bk.all5 (put5_bk (.int .i64 m.id) (.int .i64 m.am) (.int .u16 m.ai) (.int .u16 m.root) (.int .i64 m.held) hk)
    have HB2 := Lib.hid (below_new HB.out (put5_grown w2 w.heap.size (.int .i64 m.id) (.int .i64 m.am) (.int .u16 m.ai) (.int .u16 m.root) (.int .i64 m.held)) (Nat.le_refl _))
    clear k0 k1 k2 k3 k4 f0 f1 f2 f3 f4 hk d0 d1 d2 d3 d4
    change bodyPost _ _ _ _ _ (put5 w2 w.heap.size (.int .i64 m.id) (.int .i64 m.am) (.int .u16 m.ai) (.int .u16 m.root) (.int .i64 m.held))
    generalize put5 w2 w.heap.size (.int .i64 m.id) (.int .i64 m.am) (.int .u16 m.ai) (.int .u16 m.root) (.int .i64 m.held) = W5 at *
    obtain ⟨-, k0, k1, k2, k3, k4, -⟩ := hk5
    exact bodyPost_ret (v := .tuple #[mtV m, .bool true]) (by simp [results, Try.results33, go_sem, k0, k1, k2, k3, k4, mtV]) rfl ⟨rfl, HB2.out⟩
/-! Down. -/
def plV (p : Pl) : Value := .agg #[.int .i64 p.1, .int .u16 p.2]
def DownP (o : Option Pl) (w : World) (e : Ending) (w' : World) : Prop := e = .returned (.tuple #[plV (o.getD (0, 0)), .bool o.isSome]) ∧ Below w.heap.size w w'
set_option maxHeartbeats 1000000 in
theorem down_any (h : MtR w B tb M last A c) (p : Pl) : Calls Try.prog 34 #[.pointer (some ⟨tb, 0, none⟩), plV p] w (DownP (downF M p) w) := by
  obtain ⟨x, y⟩ := p
  unfold plV
  dsimp only
  have hb := twob w (.cells #[.int .i64 x, .int .u16 y] 74) (.cells #[.int .i64 0, .int .u16 0] 74)
  have hg := get_any (h.below hb) x
  have Hb := Lib.hid hb
  have hsz : (w.alloc (.cells #[.int .i64 x, .int .u16 y] 74)).heap.size = w.heap.size + 1 := World.size_alloc _ _
  have hs2 : ((w.alloc (.cells #[.int .i64 x, .int .u16 y] 74)).alloc (.cells #[.int .i64 0, .int .u16 0] 74)).heap.size = w.heap.size + 2 := by rw [World.size_alloc, hsz]
  have hbx1 : Bk ((w.alloc (.cells #[.int .i64 x, .int .u16 y] 74)).alloc (.cells #[.int .i64 0, .int .u16 0] 74)) w.heap.size 74 [.int .i64 x, .int .u16 y] := (Bk.new w _ _ rfl).alloc _
  have hbx2 : Bk ((w.alloc (.cells #[.int .i64 x, .int .u16 y] 74)).alloc (.cells #[.int .i64 0, .int .u16 0] 74)) (w.heap.size + 1) 74 [.int .i64 0, .int .u16 0] := by rw [← hsz]; exact Bk.new _ _ _ rfl
  have Hx1 := Lib.hid hbx1
  have Hx2 := Lib.hid hbx2
  have Hs2 := Lib.hid hs2
  cases hm : M.find? (isId x) with
  | none =>
    rw [hm] at hg
    rw [show downF M (x, y) = none from by unfold downF; rw [hm]]
    clear hm hb h hsz hs2 hbx1 hbx2
    go_enter Try.func34, Try.ntmps34
    go_wp2_with fail
    refine hg.mono ?_
    rintro e w2 ⟨rfl, hb2⟩
    have hk1 := Hx1.out.kept hb2
    have hk := Hx2.out.kept hb2
    have HB := Lib.hid (Hb.out.trans (hb2.mono Hb.out.size))
    clear hb2 hg
    unfold mtV mtZ
    obtain ⟨kl, k0, k1, f0, f1⟩ := Bk.all2 hk
    go_wp2_with fail
    have hk5 := (put2_bk (.int .i64 0) (.int .u16 0) hk).alloc (.cells #[.int .i64 0, .int .i64 0, .int .u16 0, .int .u16 0, .int .i64 0] 90)
    have HB2 := Lib.hid ((below_new HB.out (put2_grown w2 (w.heap.size + 1) (.int .i64 0) (.int .u16 0)) (by omega)).alloc (Nat.le_trans HB.out.size (put2_grown w2 (w.heap.size + 1) (.int .i64 0) (.int .u16 0)).size) (.cells #[.int .i64 0, .int .i64 0, .int .u16 0, .int .u16 0, .int .i64 0] 90))
    clear k0 k1 f0 f1 hk kl hk1
    change bodyPost _ _ _ _ _ ((put2 w2 (w.heap.size + 1) (.int .i64 0) (.int .u16 0)).alloc _)
    generalize (put2 w2 (w.heap.size + 1) (.int .i64 0) (.int .u16 0)).alloc (.cells #[.int .i64 0, .int .i64 0, .int .u16 0, .int .u16 0, .int .i64 0] 90) = W5 at *
    obtain ⟨-, z0, z1, -⟩ := Bk.all2 hk5
    exact bodyPost_ret (v := .tuple #[plV (0, 0), .bool false]) (by simp [results, Try.results34, go_sem, z0, z1, plV]) rfl ⟨rfl, HB2.out⟩
  | some m =>
    rw [hm] at hg
    have hmem := List.mem_of_find?_eq_some hm
    have hs := h.sm m hmem
    have hd : downF M (x, y) = if m.id ≠ 0 ∧ m.root = y then some m.at_ else none := by unfold downF; rw [hm]
    rw [hd]
    clear hm hb h hsz hs2 hbx1 hbx2 hd hmem
    by_cases q0 : m.id = 0
    · have hst := fun W => stands_any m W hs false (by rw [q0]; rfl)
      rw [if_neg (fun k => k.1 q0)]
      clear q0
      go_enter Try.func34, Try.ntmps34
      unfold mtV at *
      go_wp2_with fail
      refine hg.mono ?_
      rintro e w2 ⟨rfl, hb2⟩
      have hk1 := Hx1.out.kept hb2
      have hk := Hx2.out.kept hb2
      have HB := Lib.hid (Hb.out.trans (hb2.mono Hb.out.size))
      clear hb2 hg
      dsimp only [mtV, Option.getD_some, Option.isSome_some]
      go_wp2_with fail
      refine (hst _).mono ?_
      rintro e w3 ⟨rfl, hb3⟩
      have hb4 := (oneb w2 (.cells #[.int .i64 m.id, .int .i64 m.am, .int .u16 m.ai, .int .u16 m.root, .int .i64 m.held] 90)).trans (hb3.mono (oneb w2 _).size)
      have hk2 := hk.kept hb4
      obtain ⟨kl, k0, k1, f0, f1⟩ := Bk.all2 hk2
      have HB1 := Lib.hid (HB.out.trans (hb4.mono HB.out.size))
      clear hb3 hb4 hst hk hk1
      go_wp2_with fail
      have hk5 := put2_bk (.int .i64 0) (.int .u16 0) hk2
      have HB2 := Lib.hid (below_new HB1.out (put2_grown w3 (w.heap.size + 1) (.int .i64 0) (.int .u16 0)) (by omega))
      clear k0 k1 f0 f1 kl
      change bodyPost _ _ _ _ _ (put2 w3 (w.heap.size + 1) (.int .i64 0) (.int .u16 0))
      generalize put2 w3 (w.heap.size + 1) (.int .i64 0) (.int .u16 0) = W5 at *
      obtain ⟨-, z0, z1, -⟩ := Bk.all2 hk5
      exact bodyPost_ret (v := .tuple #[plV (0, 0), .bool false]) (by simp [results, Try.results34, go_sem, z0, z1, plV]) rfl ⟨rfl, HB2.out⟩
    have hst := fun W => stands_any m W hs true (by simp [q0])
    by_cases qr : m.root = y
    · rw [if_pos ⟨q0, qr⟩]
      have eq : (m.root != y) = false := by simp [qr]
      clear q0 qr
      go_enter Try.func34, Try.ntmps34
      unfold mtV at *
      go_wp2_with fail
      refine hg.mono ?_
      rintro e w2 ⟨rfl, hb2⟩
      have hk1 := Hx1.out.kept hb2
      have hk := Hx2.out.kept hb2
      have HB := Lib.hid (Hb.out.trans (hb2.mono Hb.out.size))
      clear hb2 hg
      dsimp only [mtV, Option.getD_some, Option.isSome_some]
      go_wp2_with fail
      refine (hst _).mono ?_
      rintro e w3 ⟨rfl, hb3⟩
      have hb4 := (oneb w2 (.cells #[.int .i64 m.id, .int .i64 m.am, .int .u16 m.ai, .int .u16 m.root, .int .i64 m.held] 90)).trans (hb3.mono (oneb w2 _).size)
      obtain ⟨ml, m0, m1, m2, m3, m4, -⟩ := Bk.all5 (bx w2 [.int .i64 m.id, .int .i64 m.am, .int .u16 m.ai, .int .u16 m.root, .int .i64 m.held] _ _ rfl w3 hb3)
      have hk2 := hk.kept hb4
      obtain ⟨-, j0, j1, -⟩ := Bk.all2 (hk1.kept hb4)
      obtain ⟨kl, k0, k1, f0, f1⟩ := Bk.all2 hk2
      have HB1 := Lib.hid (HB.out.trans (hb4.mono HB.out.size))
      clear hb3 hb4 hst hk hk1
      go_wp2_with fail
      have hk5 := put2_bk (.int .i64 m.am) (.int .u16 m.ai) hk2
      have HB2 := Lib.hid (below_new HB1.out (put2_grown w3 (w.heap.size + 1) (.int .i64 m.am) (.int .u16 m.ai)) (by omega))
      clear k0 k1 f0 f1 kl j0 j1 m0 m1 m2 m3 m4 ml
      change bodyPost _ _ _ _ _ (put2 w3 (w.heap.size + 1) (.int .i64 m.am) (.int .u16 m.ai))
      generalize put2 w3 (w.heap.size + 1) (.int .i64 m.am) (.int .u16 m.ai) = W5 at *
      obtain ⟨-, z0, z1, -⟩ := Bk.all2 hk5
      exact bodyPost_ret (v := .tuple #[plV m.at_, .bool true]) (by simp [results, Try.results34, go_sem, z0, z1, plV, MtM.at_]) rfl ⟨rfl, HB2.out⟩
    · rw [if_neg (fun k => qr k.2)]
      have eq : (m.root != y) = true := by simp [qr]
      clear q0 qr
      go_enter Try.func34, Try.ntmps34
      unfold mtV at *
      go_wp2_with fail
      refine hg.mono ?_
      rintro e w2 ⟨rfl, hb2⟩
      have hk1 := Hx1.out.kept hb2
      have hk := Hx2.out.kept hb2
      have HB := Lib.hid (Hb.out.trans (hb2.mono Hb.out.size))
      clear hb2 hg
      dsimp only [mtV, Option.getD_some, Option.isSome_some]
      go_wp2_with fail
      refine (hst _).mono ?_
      rintro e w3 ⟨rfl, hb3⟩
      have hb4 := (oneb w2 (.cells #[.int .i64 m.id, .int .i64 m.am, .int .u16 m.ai, .int .u16 m.root, .int .i64 m.held] 90)).trans (hb3.mono (oneb w2 _).size)
      obtain ⟨ml, m0, m1, m2, m3, m4, -⟩ := Bk.all5 (bx w2 [.int .i64 m.id, .int .i64 m.am, .int .u16 m.ai, .int .u16 m.root, .int .i64 m.held] _ _ rfl w3 hb3)
      have hk2 := hk.kept hb4
      obtain ⟨-, j0, j1, -⟩ := Bk.all2 (hk1.kept hb4)
      obtain ⟨kl, k0, k1, f0, f1⟩ := Bk.all2 hk2
      have HB1 := Lib.hid (HB.out.trans (hb4.mono HB.out.size))
      clear hb3 hb4 hst hk hk1
      go_wp2_with fail
      have hk5 := put2_bk (.int .i64 0) (.int .u16 0) hk2
      have HB2 := Lib.hid (below_new HB1.out (put2_grown w3 (w.heap.size + 1) (.int .i64 0) (.int .u16 0)) (by omega))
      clear k0 k1 f0 f1 kl j0 j1 m0 m1 m2 m3 m4 ml
      change bodyPost _ _ _ _ _ (put2 w3 (w.heap.size + 1) (.int .i64 0) (.int .u16 0))
      generalize put2 w3 (w.heap.size + 1) (.int .i64 0) (.int .u16 0) = W5 at *
      obtain ⟨-, z0, z1, -⟩ := Bk.all2 hk5
      exact bodyPost_ret (v := .tuple #[plV (0, 0), .bool false]) (by simp [results, Try.results34, go_sem, z0, z1, plV]) rfl ⟨rfl, HB2.out⟩
end
end Go.Proofs.Ytmbgmbheonpamaa.Mt
