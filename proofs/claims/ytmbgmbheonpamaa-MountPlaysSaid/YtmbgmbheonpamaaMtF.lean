/- Seen, Top, Hold, List. -/
import Derived.Test.YtmbgmbheonpamaaMtE
import Derived.Deep.LoopGhost
namespace Go.Proofs.Ytmbgmbheonpamaa.Mt
open Go.RowKit Go.Maps Go.WideElems In
section
variable {w : World} {B tb : Nat} {M : Ms} {last : Int} {A c : Nat}
def PlP (p : Pl) (w : World) (e : Ending) (w' : World) : Prop := e = .returned (plV p) ∧ Below w.heap.size w w'
theorem mtop_any (w : World) : Calls Try.prog 40 #[] w (PlP (0, 1) w) := by
  go_enter Try.func40, Try.ntmps40
  go_wp2_with fail
  exact bodyPost_ret (v := plV (0, 1)) (by simp [results, Try.results40, go_sem, plV]) rfl ⟨rfl, oneb _ _⟩
set_option maxHeartbeats 1000000 in
theorem seen_any (h : MtR w B tb M last A c) (p : Pl) : Calls Try.prog 36 #[.pointer (some ⟨tb, 0, none⟩), plV p] w (PlP (seenF M p) w) := by
  obtain ⟨x, y⟩ := p
  unfold plV
  dsimp only
  have hb := twob w (.cells #[.int .i64 x, .int .u16 y] 74) (.cells #[.int .i64 0, .int .u16 0] 74)
  have hg := standing_any (h.below hb) (x, y)
  have Hb := Lib.hid hb
  have hsz : (w.alloc (.cells #[.int .i64 x, .int .u16 y] 74)).heap.size = w.heap.size + 1 := World.size_alloc _ _
  have hbx1 : Bk ((w.alloc (.cells #[.int .i64 x, .int .u16 y] 74)).alloc (.cells #[.int .i64 0, .int .u16 0] 74)) w.heap.size 74 [.int .i64 x, .int .u16 y] := (Bk.new w _ _ rfl).alloc _
  have hbx2 : Bk ((w.alloc (.cells #[.int .i64 x, .int .u16 y] 74)).alloc (.cells #[.int .i64 0, .int .u16 0] 74)) (w.heap.size + 1) 74 [.int .i64 0, .int .u16 0] := by rw [← hsz]; exact Bk.new _ _ _ rfl
  have Hx1 := Lib.hid hbx1
  have Hx2 := Lib.hid hbx2
  have Hh := Lib.hid h
  have hlen := h.fit.len
  have ht := h.tab.lt
  clear hb hsz hbx1 hbx2 h
  go_enter Try.func36, Try.ntmps36
  go_wp2_with fail
  refine hg.mono ?_
  rintro e w2 ⟨rfl, hb2⟩
  have Hk1 := Lib.hid (Hx1.out.kept hb2)
  have Hk2 := Lib.hid (Hx2.out.kept hb2)
  have HB := Lib.hid (Hb.out.trans (hb2.mono Hb.out.size))
  clear hb2 hg
  obtain ⟨v0, hv0⟩ : ∃ v, v = idxF (stB (x, y)) M := ⟨_, rfl⟩
  have Hv0 := Lib.hid hv0
  rw [← hv0]
  clear hv0
  go_wp2_with fail
  go_loopg [5] (mu M (x, y)) (fun g u5 wx => ∃ (p' : Pl) (v : Int), u5 = .int .i64 v ∧ Hid (v = idxF (stB p') M) ∧ Hid (mu M p' ≤ g) ∧ Hid (seenF M p' = seenF M (x, y)) ∧ Hid (Bk wx w.heap.size 74 [.int .i64 p'.1, .int .u16 p'.2]) ∧ Hid (Bk wx (w.heap.size + 1) 74 [.int .i64 0, .int .u16 0]) ∧ Hid (Below w.heap.size w wx))
  case atStart => exact ⟨(x, y), v0, rfl, Hv0.out, Nat.le_refl _, rfl, Hk1.out, Hk2.out, HB.out⟩
  case round =>
    obtain ⟨p', v, rfl, Hv, Hmu, Hs, HK1, HK2, HBx⟩ := hrel
    rcases idxF_find (q := stB p') (l := M) with ⟨h1, h2, _⟩ | ⟨i, m, h1, h2, h3, h4, h5, _⟩
    · obtain rfl : v = -1 := Hv.out.trans h1
      have HS := Lib.hid (show seenF M (x, y) = p' by rw [← Hs.out]; exact seen_none h2)
      obtain ⟨l0, k0, k1, f0, f1⟩ := Bk.all2 HK1.out
      obtain ⟨l1, z0, z1, e0, e1⟩ := Bk.all2 HK2.out
      clear h1 h2
      go_wp2_with fail
      have hk5 := put2_bk (.int .i64 p'.1) (.int .u16 p'.2) HK2.out
      have HB2 := Lib.hid (below_new HBx.out (put2_grown wr (w.heap.size + 1) (.int .i64 p'.1) (.int .u16 p'.2)) (by omega))
      clear k0 k1 f0 f1 z0 z1 e0 e1 l0 l1
      change bodyPost _ _ _ _ _ (put2 wr (w.heap.size + 1) (.int .i64 p'.1) (.int .u16 p'.2))
      generalize put2 wr (w.heap.size + 1) (.int .i64 p'.1) (.int .u16 p'.2) = W5 at *
      obtain ⟨-, z0, z1, -⟩ := Bk.all2 hk5
      exact bodyPost_ret (v := plV p') (by simp [results, Try.results36, go_sem, z0, z1, plV]) rfl ⟨by rw [HS.out], HB2.out⟩
    · cases gk with
      | zero => exact absurd (mu_lt Hh.out.fit h2) (by have := Hmu.out; omega)
      | succ g =>
        obtain rfl : v = i := Hv.out.trans h1
        have Hmu2 := Lib.hid (show mu M m.top ≤ g by have := mu_lt Hh.out.fit h2; have := Hmu.out; omega)
        have HS := Lib.hid (show seenF M m.top = seenF M (x, y) by rw [← Hs.out]; exact (seen_some Hh.out.fit h2).symm)
        have hw := Hh.out.below HBx.out
        obtain ⟨d0, d1, d2, d3, d4⟩ := hw.cells5 h3
        have c0 := hw.c0
        have hA := hw.tyA.lt
        obtain ⟨l0, k0, k1, f0, f1⟩ := Bk.all2 HK1.out
        have htop := fun W => top_any m W
        obtain ⟨N, hN⟩ : ∃ N, N = M.length := ⟨_, rfl⟩
        rw [← hN] at h5 c0 hlen
        clear h1 h2 h3 h4 hw hN
        go_wp2_with fail
        refine (htop _).mono ?_
        rintro e w3 ⟨rfl, hb3⟩
        have hk1 := HK1.out.kept hb3
        have HK2' := Lib.hid (HK2.out.kept hb3)
        obtain ⟨l0', k0', k1', f0', f1'⟩ := Bk.all2 hk1
        have HB3 := Lib.hid (HBx.out.trans (hb3.mono HBx.out.size))
        clear hb3 htop d0 d1 d2 d3 d4 c0 k0 k1 f0 f1 l0
        have hk5 := put2_bk (.int .i64 m.id) (.int .u16 m.root) hk1
        have HB4 := Lib.hid (below_new HB3.out (put2_grown w3 w.heap.size (.int .i64 m.id) (.int .u16 m.root)) (Nat.le_refl _))
        have HK2b := Lib.hid (HK2'.out.grown (put2_grown w3 w.heap.size (.int .i64 m.id) (.int .u16 m.root)) (fun e => by have := Option.some.inj e; omega))
        have hst := standing_any (Hh.out.below HB4.out) m.top
        have HK5 := Lib.hid hk5
        obtain ⟨l5, z0, z1, -⟩ := Bk.all2 hk5
        clear hk1 hk5
        go_wp2_with fail
        refine hst.mono ?_
        rintro e w4 ⟨rfl, hb4⟩
        have HK1n := Lib.hid (HK5.out.kept hb4)
        have HK2n := Lib.hid (HK2b.out.kept hb4)
        have HBn := Lib.hid (HB4.out.trans (hb4.mono HB4.out.size))
        clear hb4 hst z0 z1 l5 k0' k1' f0' f1' l0'
        go_wp2_with fail
        go_roundg g
        case rel => exact ⟨m.top, _, rfl, rfl, Hmu2.out, HS.out, HK1n.out, HK2n.out, HBn.out⟩
        case measure => omega
/-! How often one is held. -/
theorem mt_set {M : Ms} {i : Nat} {m : MtM} (hi : M[i]? = some m) (v : Int) : (M.flatMap mtC).set (i * 5 + 4) (.int .i64 v) = (heldM M i m v).flatMap mtC := by
  have hl := (List.getElem?_eq_some_iff.1 hi).1
  have hlen : (heldM M i m v).length = M.length := by unfold heldM; simp
  apply List.ext_getElem?
  intro j
  rw [List.getElem?_set, len5 mtC (fun _ => rfl)]
  by_cases hj : j < M.length * 5
  · have e : j = (j / 5) * 5 + j % 5 := by omega
    have hr : j % 5 < 5 := by omega
    rw [e, flat5 mtC (fun _ => rfl) _ _ _ hr, flat5 mtC (fun _ => rfl) _ _ _ hr]
    unfold heldM
    rw [List.getElem?_set]
    by_cases hq : i = j / 5
    · rw [if_pos hq]
      by_cases h4 : j % 5 = 4
      · rw [if_pos (by omega), if_pos (by omega), if_pos hl, h4]; rfl
      · rw [if_neg (by omega), if_pos hl, ← hq, hi]
        rcases (by omega : j % 5 = 0 ∨ j % 5 = 1 ∨ j % 5 = 2 ∨ j % 5 = 3) with h | h | h | h <;> rw [h] <;> rfl
    · rw [if_neg hq, if_neg (by omega)]
  · have e1 : ((heldM M i m v).flatMap mtC)[j]? = none := List.getElem?_eq_none (by rw [len5 mtC (fun _ => rfl), hlen]; omega)
    have e2 : (M.flatMap mtC)[j]? = none := List.getElem?_eq_none (by rw [len5 mtC (fun _ => rfl)]; omega)
    rw [e1, e2]
    split
    · rw [if_neg (by omega)]
    · rfl
theorem MtR.setHeld (h : MtR w B tb M last A c) {i : Nat} {m : MtM} (hi : M[i]? = some m) (v : Int) (hv : 0 ≤ v ∧ v ≤ 1000000000) : MtR (w.setCell ⟨A, i * 5 + 4, none⟩ (.int .i64 v)) B tb (heldM M i m v) last A c := by
  have hlen : (heldM M i m v).length = M.length := by unfold heldM; simp
  have hg := only_set w A (i * 5 + 4) (.int .i64 v)
  refine ⟨?_, ?_, h.hB, fun x hx => ?_, fit_held h.fit hi hv.1, h.last⟩
  · rw [hlen]; exact h.tab.grown hg (fun e => (bk_tyb h.tab).ne h.tyA (by decide) (Option.some.inj e))
  · rw [hlen]
    have := (h.row.stored (i * 5 + 4) (.int .i64 v)).1
    rwa [mt_set hi v] at this
  · obtain ⟨y, hy, e1, e2, e3, e4, e5⟩ := heldM_get (v := v) hi x hx
    have hs := h.sm y hy
    refine ⟨by rw [e1]; exact hs.id, by rw [e2]; exact hs.am, by rw [e3]; exact hs.ai, by rw [e4]; exact hs.root, ?_⟩
    rcases e5 with e5 | e5
    · rw [e5]; exact hs.held
    · rw [e5]; exact hv
theorem FrM.row (h : MtR w B tb M last A c) (j : Nat) (v : Value) : FrM B w (w.setCell ⟨A, j, none⟩ v) := Fr.ofGrown (only_set w A j v) (.inr ⟨h.hA, h.kinA⟩)
theorem FrM.tab (h : MtR w B tb M last A c) (j : Nat) (v : Value) : FrM B w (w.setCell ⟨tb, j, none⟩ v) := Fr.ofGrown (only_set w tb j v) (.inr ⟨h.hB, h.kinT⟩)
def ixN (q : MtM → Bool) (M : Ms) : Nat := (idxF q M).toNat
def holdF (M : Ms) (n : Int) (more : Bool) : Ms := match M.find? (isId n) with | none => M | some m => if more = true then heldM M (ixN (isId n) M) m (m.held + 1) else if m.held = 0 then M else heldM M (ixN (isId n) M) m (m.held - 1)
def HoldP (B tb : Nat) (M : Ms) (last : Int) (n : Int) (more : Bool) (w : World) (e : Ending) (w' : World) : Prop := e = .returned (.int .i64 (holdE M n more)) ∧ Mtb w' B tb (holdF M n more) last ∧ FrM B w w'
set_option maxHeartbeats 1000000 in
theorem hold_any (h : MtR w B tb M last A c) (n : Int) (more : Bool) (hh : ∀ m ∈ M, m.held ≤ 999999999) : Calls Try.prog 30 #[.pointer (some ⟨tb, 0, none⟩), .int .i64 n, .bool more] w (HoldP B tb M last n more w) := by
  have hi := index_any h n
  have hlen := h.fit.len
  have Hh := Lib.hid h
  have HH := Lib.hid hh
  rcases idxF_find (q := isId n) (l := M) with ⟨h1, h2, _⟩ | ⟨i, m, h1, h2, h3, h4, h5, _⟩
  · rw [h1] at hi
    have HE := Lib.hid (show holdE M n more = 2 by unfold holdE; rw [h2])
    have HF := Lib.hid (show holdF M n more = M by unfold holdF; rw [h2])
    clear h1 h2 h hh
    go_enter Try.func30, Try.ntmps30
    go_wp2_with fail
    refine hi.mono ?_
    rintro e w2 ⟨rfl, hb2⟩
    have Hb := Lib.hid hb2
    clear hb2 hi
    go_wp2_with fail
    go_ret
    exact ⟨by rw [HE.out]; rfl, by rw [HF.out]; exact ⟨A, c, Hh.out.below Hb.out⟩, Fr.ofBelow Hb.out⟩
  · rw [h1] at hi
    have hm := List.mem_of_getElem? h3
    have hs := (h.sm m hm).held
    have hh1 := hh m hm
    have H3 := Lib.hid h3
    have HE := Lib.hid (show holdE M n more = if more = true then 0 else if m.held = 0 then 22 else 0 by unfold holdE; rw [h2])
    have HF := Lib.hid (show holdF M n more = if more = true then heldM M i m (m.held + 1) else if m.held = 0 then M else heldM M i m (m.held - 1) by unfold holdF ixN; rw [h2, h1]; rfl)
    obtain ⟨N, hN⟩ : ∃ N, N = M.length := ⟨_, rfl⟩
    have HN := Lib.hid hN
    rw [← hN] at h5 hlen
    obtain ⟨v, hv⟩ : ∃ v, v = m.held := ⟨_, rfl⟩
    have HV := Lib.hid hv
    rw [← hv] at hs hh1
    clear h1 h2 h3 h4 h hh hm hN hv
    cases more with
    | true =>
      go_enter Try.func30, Try.ntmps30
      go_wp2_with fail
      refine hi.mono ?_
      rintro e w2 ⟨rfl, hb2⟩
      have hw := Hh.out.below hb2
      have c0 := hw.c0
      rw [← HN.out] at c0
      have ht := hw.tab.lt
      have hA := hw.tyA.lt
      obtain ⟨-, -, -, -, d4⟩ := hw.cells5 H3.out
      rw [← HV.out] at d4
      have f4 := hw.fzA (i * 5 + 4)
      have Hb := Lib.hid hb2
      have Hw := Lib.hid hw
      clear hb2 hi hw
      go_wp2_with fail
      go_ret
      refine ⟨by rw [HE.out]; rfl, ?_, (Fr.ofBelow Hb.out).trans (FrM.row Hw.out _ _)⟩
      rw [HF.out, if_pos True.intro]
      exact ⟨A, c, by have := Hw.out.setHeld H3.out (v + 1) (by omega); rw [HV.out] at this ⊢; exact this⟩
    | false =>
      by_cases q0 : v = 0
      · go_enter Try.func30, Try.ntmps30
        go_wp2_with fail
        refine hi.mono ?_
        rintro e w2 ⟨rfl, hb2⟩
        have hw := Hh.out.below hb2
        have c0 := hw.c0
        rw [← HN.out] at c0
        have ht := hw.tab.lt
        have hA := hw.tyA.lt
        obtain ⟨-, -, -, -, d4⟩ := hw.cells5 H3.out
        rw [← HV.out, q0] at d4
        have Hb := Lib.hid hb2
        have Hw := Lib.hid hw
        have Hq := Lib.hid (HV.out.symm.trans q0)
        clear hb2 hi hw q0
        go_wp2_with fail
        go_ret
        exact ⟨by rw [HE.out, if_neg (by decide), if_pos Hq.out]; rfl, by rw [HF.out, if_neg (by decide), if_pos Hq.out]; exact ⟨A, c, Hw.out⟩, Fr.ofBelow Hb.out⟩
      · have e0 : (v == 0) = false := by simpa using q0
        have Hq := Lib.hid (show ¬ m.held = 0 by rw [← HV.out]; exact q0)
        have hv1 : 1 ≤ v := by omega
        clear q0
        go_enter Try.func30, Try.ntmps30
        go_wp2_with fail
        refine hi.mono ?_
        rintro e w2 ⟨rfl, hb2⟩
        have hw := Hh.out.below hb2
        have c0 := hw.c0
        rw [← HN.out] at c0
        have ht := hw.tab.lt
        have hA := hw.tyA.lt
        obtain ⟨-, -, -, -, d4⟩ := hw.cells5 H3.out
        rw [← HV.out] at d4
        have f4 := hw.fzA (i * 5 + 4)
        have Hb := Lib.hid hb2
        have Hw := Lib.hid hw
        clear hb2 hi hw
        go_wp2_with fail
        go_ret
        refine ⟨by rw [HE.out, if_neg (by decide), if_neg Hq.out]; rfl, ?_, (Fr.ofBelow Hb.out).trans (FrM.row Hw.out _ _)⟩
        rw [HF.out, if_neg (by decide), if_neg Hq.out]
        exact ⟨A, c, by have := Hw.out.setHeld H3.out (v - 1) (by omega); rw [HV.out] at this ⊢; exact this⟩
end
end Go.Proofs.Ytmbgmbheonpamaa.Mt
