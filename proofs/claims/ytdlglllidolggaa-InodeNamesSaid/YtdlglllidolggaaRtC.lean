/- The document's tree in memory. -/
import Derived.Test.YtdlglllidolggaaInC
import Derived.Deep.MidRow
namespace Go.Proofs.Ytdlglllidolggaa.In
open Go.RowKit Go.Maps Go.WideElems
abbrev RT : List TypeId := [45, 41]
abbrev FrR := Fr RT false
def enC (e : Bs × Nat) : List Value := [.string ⟨e.1.toArray⟩, .int .i64 e.2]
def ERd (w : World) (lv : Value) (L : Es) : Prop := ∃ A c, lv = .slice A L.length c ∧ L.length ≤ c ∧ (A = none → c = 0) ∧ TRd w 47 2 L.length A (L.flatMap enC)
def rnCells (x : NdM) (dv lv : Value) : List Value := [.int .i64 x.kd, dv, lv, .int .i64 x.par, .string x.text, .int .i64 x.links, .int .i64 x.held]
theorem rn_len (x : NdM) (dv lv : Value) : (rnCells x dv lv).length = 7 := rfl
def rcL (T : TrM) (k : Nat) (df lf : Nat → Value) : List Value := (List.range k).flatMap fun n => rnCells (T.nd n) (df n) (lf n)
theorem ERd.same {w w' : World} {lv : Value} {L : Es} (h : ERd w lv L) (hs : w.heap.size ≤ w'.heap.size) (hb : ∀ b, TyB w b 47 → w'.heap[b]? = w.heap[b]?) : ERd w' lv L := by
  obtain ⟨A, c, e, h1, h2, h3⟩ := h; exact ⟨A, c, e, h1, h2, h3.same hs hb⟩
theorem flat7 (f : Nat → List Value) (hf : ∀ x, (f x).length = 7) : ∀ (l : List Nat) (i j : Nat), j < 7 → (l.flatMap f)[i * 7 + j]? = (l[i]?).bind (fun x => (f x)[j]?)
  | [], i, j, _ => by simp
  | x :: l, 0, j, hj => by
    rw [List.flatMap_cons, List.getElem?_append_left (by rw [hf]; omega)]; simp
  | x :: l, i + 1, j, hj => by
    rw [List.flatMap_cons, List.getElem?_append_right (by rw [hf]; omega), hf, show (i + 1) * 7 + j - 7 = i * 7 + j from by omega, flat7 f hf l i j hj]; simp
theorem rc_get (T : TrM) (k : Nat) (df lf : Nat → Value) {n j : Nat} (hn : n < k) (hj : j < 7) : (rcL T k df lf)[n * 7 + j]? = (rnCells (T.nd n) (df n) (lf n))[j]? := by
  unfold rcL
  rw [flat7 _ (fun _ => rn_len _ _ _) _ _ _ hj, List.getElem?_range hn]; rfl
theorem rc_len (T : TrM) (k : Nat) (df lf : Nat → Value) : (rcL T k df lf).length = k * 7 := by
  unfold rcL
  induction k with
  | zero => rfl
  | succ k ih => rw [List.range_succ, List.flatMap_append, List.length_append, ih]; simp [rn_len]; omega
theorem rc_set {T T' : TrM} {k : Nat} {df lf df' lf' : Nat → Value} {n j : Nat} {v : Value} (hn : n < k) (hj : j < 7) (h1 : ∀ i, i ≠ n → rnCells (T'.nd i) (df' i) (lf' i) = rnCells (T.nd i) (df i) (lf i)) (h2 : (rnCells (T.nd n) (df n) (lf n)).set j v = rnCells (T'.nd n) (df' n) (lf' n)) :
    (rcL T k df lf).set (n * 7 + j) v = rcL T' k df' lf' := by
  apply List.ext_getElem?
  intro i
  rw [List.getElem?_set]
  by_cases hi : i < k * 7
  · have e : i = (i / 7) * 7 + i % 7 := by omega
    have hq : i / 7 < k := by omega
    have hr : i % 7 < 7 := by omega
    rw [e, rc_get T' k df' lf' hq hr, rc_get T k df lf hq hr, rc_len]
    by_cases hqn : i / 7 = n
    · rw [hqn, ← h2, List.getElem?_set]
      by_cases hrj : j = i % 7
      · rw [if_pos (by omega), if_pos hrj, if_pos (by omega), if_pos (by rw [rn_len]; exact hj)]
      · rw [if_neg (by omega), if_neg hrj]
    · rw [h1 _ hqn, if_neg (by omega)]
  · have e1 : (rcL T' k df' lf')[i]? = none := List.getElem?_eq_none (by rw [rc_len]; omega)
    have e2 : (rcL T k df lf)[i]? = none := List.getElem?_eq_none (by rw [rc_len]; omega)
    rw [e1, e2]
    split
    · rw [if_neg (by rw [rc_len]; omega)]
    · rfl
structure RtR (w : World) (B tb : Nat) (T : TrM) (A k c : Nat) (mv nx : Value) (df lf : Nat → Value) : Prop where
  tab : Bk w tb 45 [.slice (some ⟨A, 0, none⟩) k c, .int .i64 T.lim, mv, nx, .int .i64 T.ch]
  row : w.ownsRow B 41 7 (.slice (some ⟨A, 0, none⟩) k c) k (rcL T k df lf)
  data : ∀ n, n < k → DRd w (df n) (T.nd n).data
  list : ∀ n, n < k → ERd w (lf n) (T.nd n).L
  hB : B ≤ tb
  kk : 2 ≤ k ∧ k ≤ T.lim + 1
  lim : 1 ≤ T.lim ∧ T.lim ≤ 256
  out : ∀ n, n = 0 ∨ k ≤ n → T.nd n = ndZ
  ls : ∀ n, Loose (T.nd n)
  ch : T.ch ≤ 1000000000
/-- A tree: its block, what it is. -/
def Rt (w : World) (B tb : Nat) (T : TrM) : Prop := ∃ A k c mv nx df lf, RtR w B tb T A k c mv nx df lf
section
variable {w w' : World} {B tb A k c g : Nat} {T : TrM} {mv nx : Value} {df lf : Nat → Value}
theorem RtR.tyA (h : RtR w B tb T A k c mv nx df lf) : TyB w A 41 := by
  obtain ⟨_, _, _, _, _, hty, _⟩ := own_typed h.row
  exact hty A rfl
theorem RtR.lt (h : RtR w B tb T A k c mv nx df lf) : B < w.heap.size := Nat.lt_of_le_of_lt h.hB h.tab.lt
theorem own_same {base : Nat} {e : TypeId} {z n : Nat} {v : Value} {xs : List Value} (h : w.ownsRow base e z v n xs) (hb : ∀ b, v.ownBlock = some b → w'.heap[b]? = w.heap[b]?) : w'.ownsRow base e z v n xs := by
  refine ⟨h.1, h.2.imp id ?_⟩
  rintro ⟨b, cap, cur, e, h1, h2, h3⟩
  refine ⟨b, cap, cur, e, h1, ?_, h3⟩
  rw [hb b (by subst e; rfl)]
  exact h2
theorem RtR.same (h : RtR w B tb T A k c mv nx df lf) (hs : w.heap.size ≤ w'.heap.size) (hb : ∀ b, (TyB w b 45 ∨ TyB w b 41 ∨ TyB w b 47 ∨ TyB w b 5) → w'.heap[b]? = w.heap[b]?) : RtR w' B tb T A k c mv nx df lf :=
  ⟨(hb _ (.inl (bk_tyb h.tab))).trans h.tab, own_same h.row (fun b e => by cases e; exact hb _ (.inr (.inl h.tyA))), fun n hn => (h.data n hn).same hs (fun b k => hb b (.inr (.inr (.inr k)))), fun n hn => (h.list n hn).same hs (fun b k => hb b (.inr (.inr (.inl k)))), h.hB, h.kk, h.lim, h.out, h.ls, h.ch⟩
theorem RtR.below (h : RtR w B tb T A k c mv nx df lf) (hb : Below w.heap.size w w') : RtR w' B tb T A k c mv nx df lf :=
  h.same hb.size fun b q => hb.block _ (by rcases q with q | q | q | q <;> exact q.lt)
theorem Rt.below (h : Rt w B tb T) (hb : Below w.heap.size w w') : Rt w' B tb T := by obtain ⟨A, k, c, mv, nx, df, lf, h⟩ := h; exact ⟨A, k, c, mv, nx, df, lf, h.below hb⟩
/-- What the table's calls leave of it. -/
theorem Rt.other {B2 : Nat} (h : Rt w B tb T) (hf : FrI B2 w w') : Rt w' B tb T := by
  obtain ⟨A, k, c, mv, nx, df, lf, h⟩ := h
  refine ⟨A, k, c, mv, nx, df, lf, h.same hf.size fun b q => ?_⟩
  rcases q with q | q | q | q
  · exact hf.tyb q (by decide)
  · exact hf.tyb q (by decide)
  · exact hf.tyb q (by decide)
  · exact hf.tyb q (by decide)
theorem Tab.ref {B2 : Nat} (h : Tab w B tb T) (hf : FrR B2 w w') : Tab w' B tb T := h.other hf (by decide) (by decide) (by decide) (by decide)
theorem RtR.cell (h : RtR w B tb T A k c mv nx df lf) {n : Nat} (hn : n < k) (j : Nat) (hj : j < 7) {v : Value} (hv : (rnCells (T.nd n) (df n) (lf n))[j]? = some v) : w.cell? ⟨A, n * 7 + j, none⟩ = some v := by
  have := h.row.cells (g := A) rfl (n * 7 + j) v (by rw [rc_get _ _ _ _ hn hj]; exact hv)
  rwa [addr_at, Nat.zero_add] at this
theorem RtR.cells7 (h : RtR w B tb T A k c mv nx df lf) {n : Nat} (hn : n < k) :
    w.cell? ⟨A, n * 7, none⟩ = some (.int .i64 (T.nd n).kd) ∧ w.cell? ⟨A, n * 7 + 1, none⟩ = some (df n) ∧ w.cell? ⟨A, n * 7 + 2, none⟩ = some (lf n) ∧ w.cell? ⟨A, n * 7 + 3, none⟩ = some (.int .i64 (T.nd n).par) ∧ w.cell? ⟨A, n * 7 + 4, none⟩ = some (.string (T.nd n).text) ∧ w.cell? ⟨A, n * 7 + 5, none⟩ = some (.int .i64 (T.nd n).links) ∧ w.cell? ⟨A, n * 7 + 6, none⟩ = some (.int .i64 (T.nd n).held) :=
  ⟨h.cell hn 0 (by omega) rfl, h.cell hn 1 (by omega) rfl, h.cell hn 2 (by omega) rfl, h.cell hn 3 (by omega) rfl, h.cell hn 4 (by omega) rfl, h.cell hn 5 (by omega) rfl, h.cell hn 6 (by omega) rfl⟩
theorem RtR.fzA (h : RtR w B tb T A k c mv nx df lf) (j : Nat) : w.frozen? ⟨A, j, none⟩ = false := h.row.frozenAt j
theorem RtR.c0 (h : RtR w B tb T A k c mv nx df lf) : w.cell? ⟨tb, 0, none⟩ = some (.slice (some ⟨A, 0, none⟩) k c) := h.tab.cell 0 rfl
theorem RtR.c1 (h : RtR w B tb T A k c mv nx df lf) : w.cell? ⟨tb, 1, none⟩ = some (.int .i64 T.lim) := h.tab.cell 1 rfl
theorem RtR.c4 (h : RtR w B tb T A k c mv nx df lf) : w.cell? ⟨tb, 4, none⟩ = some (.int .i64 T.ch) := h.tab.cell 4 rfl
theorem RtR.fzT (h : RtR w B tb T A k c mv nx df lf) (j : Nat) : w.frozen? ⟨tb, j, none⟩ = false := h.tab.fz j
theorem RtR.kinT (h : RtR w B tb T A k c mv nx df lf) : Kin RT false w tb := .inl ⟨_, by simp [RT], bk_tyb h.tab⟩
theorem RtR.kinA (h : RtR w B tb T A k c mv nx df lf) : Kin RT false w A := .inl ⟨_, by simp [RT], h.tyA⟩
theorem RtR.hA (h : RtR w B tb T A k c mv nx df lf) : B ≤ A := (h.row.lt A rfl).1
theorem FrR.tab (h : RtR w B tb T A k c mv nx df lf) (j : Nat) (v : Value) : FrR B w (w.setCell ⟨tb, j, none⟩ v) := Fr.ofGrown (only_set w tb j v) (.inr ⟨h.hB, h.kinT⟩)
theorem FrR.row (h : RtR w B tb T A k c mv nx df lf) (j : Nat) (v : Value) : FrR B w (w.setCell ⟨A, j, none⟩ v) := Fr.ofGrown (only_set w A j v) (.inr ⟨h.hA, h.kinA⟩)
theorem tyb_of {b A : Nat} {U V : TypeId} (q : TyB w b U) (hA : TyB w A V) (hn : U ≠ V) (j : Nat) (v : Value) : (w.setCell ⟨A, j, none⟩ v).heap[b]? = w.heap[b]? := Below.heap_setCell w _ v b (q.ne hA hn)
/-- A cell of a node is another one. -/
theorem RtR.setC (h : RtR w B tb T A k c mv nx df lf) {n : Nat} (hn : n < k) (j : Nat) (hj : j < 7) (v : Value) (x : NdM) (df' lf' : Nat → Value) (hd : ∀ i, i ≠ n → df' i = df i) (hl : ∀ i, i ≠ n → lf' i = lf i) (h0 : n = 0 → x = ndZ) (ho : Loose x)
    (hc : (rnCells (T.nd n) (df n) (lf n)).set j v = rnCells x (df' n) (lf' n)) (hdn : DRd w (df' n) x.data) (hln : ERd w (lf' n) x.L) :
    RtR (w.setCell ⟨A, n * 7 + j, none⟩ v) B tb { T with nd := upd T.nd n x } A k c mv nx df' lf' := by
  have hg := only_set w A (n * 7 + j) v
  refine ⟨h.tab.grown hg (fun e => (bk_tyb h.tab).ne h.tyA (by decide) (Option.some.inj e)), ?_, fun i hi => ?_, fun i hi => ?_, h.hB, h.kk, h.lim, fun i hi => ?_, fun i => ?_, h.ch⟩
  · have := (h.row.stored (n * 7 + j) v).1
    rwa [rc_set (T' := { T with nd := upd T.nd n x }) (df' := df') (lf' := lf') hn hj (fun i hi => by show rnCells (upd T.nd n x i) _ _ = _; rw [upd_other _ _ hi, hd i hi, hl i hi]) (by show _ = rnCells (upd T.nd n x n) _ _; rw [upd_same]; exact hc)] at this
  · show DRd _ (df' i) (upd T.nd n x i).data
    by_cases e : i = n
    · subst e; rw [upd_same]; exact hdn.same hg.size (fun b q => tyb_of q h.tyA (by decide) _ _)
    · rw [upd_other _ _ e, hd i e]; exact (h.data i hi).same hg.size (fun b q => tyb_of q h.tyA (by decide) _ _)
  · show ERd _ (lf' i) (upd T.nd n x i).L
    by_cases e : i = n
    · subst e; rw [upd_same]; exact hln.same hg.size (fun b q => tyb_of q h.tyA (by decide) _ _)
    · rw [upd_other _ _ e, hl i e]; exact (h.list i hi).same hg.size (fun b q => tyb_of q h.tyA (by decide) _ _)
  · show upd T.nd n x i = ndZ
    by_cases e : i = n
    · subst e; rw [upd_same]; rcases hi with hi | hi
      · exact h0 hi
      · omega
    · rw [upd_other _ _ e]; exact h.out i hi
  · show Loose (upd T.nd n x i)
    unfold upd; split
    · exact ho
    · exact h.ls i
end
end Go.Proofs.Ytdlglllidolggaa.In
