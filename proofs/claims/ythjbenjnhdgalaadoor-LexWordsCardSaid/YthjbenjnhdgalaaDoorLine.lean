/- A line's words. -/
import Derived.Test.YthjbenjnhdgalaaDoorTokW
import Derived.Lib.CutLaws
import Derived.Laws.EntriesVeiled
namespace Go.Proofs.YthjbenjnhdgalaaDoor
open Go.RowKit
theorem cutH_len (s : Bs) : (cutH s).length ≤ s.length := by
  induction s with
  | nil => simp [cutH]
  | cons a t ih => unfold cutH; split <;> simp; exact ih
def CutterPost (s : Bs) (w : World) (e : Ending) (w' : World) : Prop :=
  ∃ B, B = w.heap.size ∧ e = .returned (.func (.func 44) #[] #[.pointer (some ⟨B + 2, 0, none⟩), .pointer (some ⟨B + 1, 0, none⟩), .pointer (some ⟨B, 0, none⟩)]) ∧ Cut w' B B (B + 1) (B + 2) s 0 ∧ Below w.heap.size w w'
theorem cutter_any (s : Bs) (w : World) : Calls Tryd.prog 26 #[.string ⟨s.toArray⟩] w (CutterPost s w) := by
  go_enter Tryd.func26, Tryd.ntmps26
  go_wp2_with fail
  go_ret
  have h0 := Bk.new w 9 (l := [.string ⟨s.toArray⟩]) _ rfl
  have h1 := Bk.new (w.alloc (.cells #[.string ⟨s.toArray⟩] 9)) 3 (l := [.int .i64 0]) _ rfl
  have h2 := Bk.new ((w.alloc (.cells #[.string ⟨s.toArray⟩] 9)).alloc (.cells #[.int .i64 0] 3)) 80 (l := [.func (.func 43) #[] #[.pointer (some ⟨w.heap.size + 1, 0, none⟩), .pointer (some ⟨w.heap.size, 0, none⟩)]]) _ rfl
  simp at h1 h2
  refine ⟨_, rfl, rfl, ⟨(h0.alloc _).alloc _, h1.alloc _, h2, by omega, by omega, by omega, by omega⟩, ?_⟩
  exact (((Below.refl _ _).alloc (Nat.le_refl _) _).alloc (by simp) _).alloc (by simp; omega) _
theorem nx_false {s : Bs} {a k col a' ln : Nat} {t : Bs} {acc : List Tok} (h : Nx s a k t col false a') : lexP ln (s.drop a) a acc = (acc, 0, 0) := by
  unfold Nx at h
  cases hn : nextS (s.drop a) with
  | none => exact lexP_none hn
  | some x => rw [hn] at h; exact absurd h.1 (by simp)
theorem nx_true {s : Bs} {a k col a' : Nat} {t : Bs} (h : Nx s a k t col true a') : ∃ g r, nextS (s.drop a) = some (k, t, g, r) ∧ col = a + g + 1 ∧ a' = a + g + t.length ∧ r = s.drop a' ∧ a + g < s.length := by
  unfold Nx at h
  cases hn : nextS (s.drop a) with
  | none => rw [hn] at h; cases h
  | some x =>
    obtain ⟨k', t', g, r⟩ := x
    rw [hn] at h
    obtain ⟨_, rfl, rfl, rfl, rfl⟩ := h
    have hl := nextS_len hn
    refine ⟨g, r, rfl, rfl, rfl, ?_, ?_⟩
    · rw [hl.2.1, List.drop_drop, Nat.add_assoc]
    · have := hl.2.2.2; rw [List.length_drop] at this; omega
theorem nx_kind {s : Bs} {a k col a' : Nat} {t : Bs} (h : Nx s a k t col true a') : (1 ≤ k ∧ k ≤ 4) ∧ t.length ≤ s.length ∧ col ≤ s.length := by
  obtain ⟨g, r, hn, rfl, rfl, _, hlt⟩ := nx_true h
  have hl := nextS_len hn
  rw [List.length_drop] at hl
  refine ⟨?_, by omega, by omega⟩
  unfold nextS at hn
  split at hn
  · cases hn
  · simp only [Option.some.injEq, Prod.mk.injEq] at hn
    rw [← hn.1]
    exact begunB_pos _
theorem nx_bad {s : Bs} {a k col a' ln : Nat} {t : Bs} {acc : List Tok} (h : Nx s a k t col true a') (hv : (valB k t).2 ≠ 0) : lexP ln (s.drop a) a acc = ([], col, (valB k t).2) := by
  obtain ⟨g, r, hn, rfl, rfl, _, _⟩ := nx_true h
  exact lexP_bad hn hv
theorem nx_step {s : Bs} {a k col a' ln : Nat} {t : Bs} {acc : List Tok} (h : Nx s a k t col true a') (hv : (valB k t).2 = 0) :
    lexP ln (s.drop a) a acc = lexP ln (s.drop a') a' (acc ++ [⟨k, t, (valB k t).1, ln, col⟩]) ∧ a < a' := by
  obtain ⟨g, r, hn, rfl, rfl, hr, _⟩ := nx_true h
  have ht := List.length_pos_iff.2 (next_pos hn hv)
  exact ⟨by rw [lexP_step hn hv, hr], by omega⟩
def wr0 : List Value := [.int .i64 0, .int .i64 0, .int .i64 0]
structure LnR (w : World) (W0 B p : Nat) (s : Bs) (a : Nat) (tk : List Value) (acc : List Tok) (v : Value) (wr : World) : Prop where
  cut : Cut wr 0 B (B + 1) (B + 2) s a
  wrg : Bk wr W0 39 wr0
  tok : Bk wr p 35 tk
  own : wr.ownsRow w.heap.size 35 5 v acc.length (flatT acc)
  apart : ∀ g, v.ownBlock = some g → g ≠ W0 ∧ g ≠ B ∧ g ≠ B + 1 ∧ g ≠ B + 2 ∧ g ≠ p
  far : W0 < B ∧ B + 2 < p ∧ w.heap.size ≤ W0
  bel : Below w.heap.size w wr
section
variable {w : World} {W0 B p : Nat} {s : Bs} {a : Nat} {tk : List Value} {acc : List Tok} {v : Value} {wr : World}
theorem LnR.kept {w' : World} (h : LnR w W0 B p s a tk acc v wr) (hb : Below wr.heap.size wr w') : LnR w W0 B p s a tk acc v w' :=
  ⟨h.cut.below hb, h.wrg.kept hb, h.tok.kept hb, own_below h.own hb, h.apart, h.far, h.bel.trans (hb.mono h.bel.size)⟩
theorem own_other {w w' : World} {base : Nat} {e : TypeId} {z n : Nat} {v : Value} {xs : List Value} {r : Option Nat} (h : w.ownsRow base e z v n xs) (hg : w.grownBy w' r) (hr : ∀ g, v.ownBlock = some g → r ≠ some g) : w'.ownsRow base e z v n xs := by
  refine ⟨h.1, h.2.imp id fun ⟨g, cap, cur, e, h1, h2, h3⟩ => ⟨g, cap, cur, e, h1, ?_, h3⟩⟩
  rw [hg.block g (Array.getElem?_eq_some_iff.1 h2).1 (fun e' => hr g (by rw [e]; rfl) e'.symm)]; exact h2
theorem LnR.setp (h : LnR w W0 B p s a tk acc v wr) (j : Nat) (u : Value) : LnR w W0 B p s a (tk.set j u) acc v (wr.setCell ⟨p, j, none⟩ u) := by
  have hg := only_set wr p j u
  have hf := h.far
  refine ⟨h.cut.grown' hg (by omega) (by omega) (by omega), h.wrg.grown hg (fun e => by have := Option.some.inj e; omega), h.tok.set j u, own_other h.own hg (fun g hg' e => (h.apart g hg').2.2.2.2 (Option.some.inj e).symm), h.apart, h.far, h.bel.grown hg h.bel.size (fun q hq => by cases hq; omega)⟩
theorem LnR.next {w' : World} {a' : Nat} (h : LnR w W0 B p s a tk acc v wr) (hg : wr.grownBy w' (some (B + 1))) (hC : Cut w' 0 B (B + 1) (B + 2) s a') : LnR w W0 B p s a' tk acc v w' := by
  have hf := h.far
  exact ⟨hC, h.wrg.grown hg (fun e => by have := Option.some.inj e; omega), h.tok.grown hg (fun e => by have := Option.some.inj e; omega), own_other h.own hg (fun g hg' e => (h.apart g hg').2.2.1 (Option.some.inj e).symm), h.apart, h.far, h.bel.grown hg h.bel.size (fun q hq => by cases hq; omega)⟩
theorem LnR.newp (h : LnR w W0 B p s a tk acc v wr) (tk' : List Value) : LnR w W0 B wr.heap.size s a tk' acc v (wr.alloc (.cells tk'.toArray 35)) := by
  have hf := h.far
  have hl := h.tok.lt
  have hb : Below wr.heap.size wr (wr.alloc (.cells tk'.toArray 35)) := (Below.refl _ _).alloc (Nat.le_refl _) _
  refine ⟨h.cut.below hb, h.wrg.kept hb, Bk.new wr _ _ rfl, own_below h.own hb, fun g hg => ?_, ⟨by omega, by omega, by omega⟩, h.bel.trans (hb.mono h.bel.size)⟩
  have := h.apart g hg
  have := (h.own.lt g hg).2
  omega
theorem LnR.app {w' : World} {v' : Value} {o : Obj} {x : Tok} (h : LnR w W0 B p s a tk acc v wr) (hown : w'.ownsRow w.heap.size 35 5 v' (acc.length + 1) (flatT acc ++ x.cells))
    (hg : (wr.alloc o).grownBy w' v.ownBlock) (hat : v'.ownBlock = v.ownBlock ∨ v'.ownBlock = some (wr.alloc o).heap.size) : LnR w W0 B p s a tk (acc ++ [x]) v' w' := by
  have h1 := h.kept ((Below.refl _ _).alloc (Nat.le_refl _) o)
  have hf := h.far
  have hsz : (wr.alloc o).heap.size = wr.heap.size + 1 := by simp
  have q : ∀ b, (∀ g, v.ownBlock = some g → g ≠ b) → some b ≠ v.ownBlock := fun b hb e => hb b e.symm rfl
  have l1 := h.cut.txt.lt
  have l2 := h.cut.pos.lt
  have l3 := h.cut.tk.lt
  have l4 := h.wrg.lt
  have l5 := h.tok.lt
  refine ⟨⟨h1.cut.txt.grown hg (q _ fun g e => (h.apart g e).2.1), h1.cut.pos.grown hg (q _ fun g e => (h.apart g e).2.2.1), h1.cut.tk.grown hg (q _ fun g e => (h.apart g e).2.2.2.1), h.cut.ne1, h.cut.ne2, h.cut.hB, h.cut.ha⟩,
    h1.wrg.grown hg (q _ fun g e => (h.apart g e).1), h1.tok.grown hg (q _ fun g e => (h.apart g e).2.2.2.2), by rw [flatT_app, flatT_one, List.length_append]; exact hown, fun g hg' => ?_, h.far, ?_⟩
  · rcases hat with e | e
    · exact h.apart g (e ▸ hg')
    · rw [e] at hg'; have := Option.some.inj hg'; omega
  · exact h1.bel.grown hg h1.bel.size (fun g hg' => (h.own.lt g hg').1)
end
end Go.Proofs.YthjbenjnhdgalaaDoor
