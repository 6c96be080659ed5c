/- The document's Make: what it does to a tree in memory. -/
import Derived.Test.YtdlglllidolggaaRtI
import Derived.Test.YtdlglllidolggaaInF
import Derived.Laws.IdiomCopy
namespace Go.Proofs.Ytdlglllidolggaa.In
open Go.RowKit Go.Maps Go.WideElems
abbrev NIL : Value := .slice none 0 0
def rcG (f : Nat → List Value) (k : Nat) : List Value := (List.range k).flatMap f
theorem rcG_len {f : Nat → List Value} (hf : ∀ i, (f i).length = 7) (k : Nat) : (rcG f k).length = k * 7 := by
  unfold rcG
  induction k with
  | zero => rfl
  | succ k ih => rw [List.range_succ, List.flatMap_append, List.length_append, ih]; simp [hf]; omega
theorem rcG_get {f : Nat → List Value} (hf : ∀ i, (f i).length = 7) {k n j : Nat} (hn : n < k) (hj : j < 7) : (rcG f k)[n * 7 + j]? = (f n)[j]? := by
  unfold rcG
  rw [flat7 _ hf _ _ _ hj, List.getElem?_range hn]; rfl
theorem rcG_set {f : Nat → List Value} (hf : ∀ i, (f i).length = 7) {k n j : Nat} (hn : n < k) (hj : j < 7) (v : Value) : (rcG f k).set (n * 7 + j) v = rcG (fun i => if i = n then (f n).set j v else f i) k := by
  have hf2 : ∀ i, ((fun i => if i = n then (f n).set j v else f i) i).length = 7 := fun i => by
    show (if i = n then (f n).set j v else f i).length = 7
    split
    · rw [List.length_set, hf]
    · exact hf i
  apply List.ext_getElem?
  intro i
  rw [List.getElem?_set]
  by_cases hi : i < k * 7
  · have e : i = (i / 7) * 7 + i % 7 := by omega
    have hq : i / 7 < k := by omega
    have hr : i % 7 < 7 := by omega
    rw [e, rcG_get hf2 hq hr, rcG_get hf hq hr, rcG_len hf]
    by_cases hqn : i / 7 = n
    · rw [hqn, if_pos rfl, List.getElem?_set]
      by_cases hrj : j = i % 7
      · rw [if_pos (by omega), if_pos hrj, if_pos (by omega), if_pos (by rw [hf]; exact hj)]
      · rw [if_neg (by omega), if_neg hrj]
    · rw [if_neg hqn, if_neg (by omega)]
  · have e1 : (rcG (fun i => if i = n then (f n).set j v else f i) k)[i]? = none := List.getElem?_eq_none (by rw [rcG_len hf2]; omega)
    have e2 : (rcG f k)[i]? = none := List.getElem?_eq_none (by rw [rcG_len hf]; omega)
    rw [e1, e2]
    split
    · rw [if_neg (by rw [rcG_len hf]; omega)]
    · rfl
theorem rcG_congr {f g : Nat → List Value} {k : Nat} (h : ∀ i, i < k → f i = g i) : rcG f k = rcG g k := by
  unfold rcG
  induction k with
  | zero => rfl
  | succ k ih => rw [List.range_succ, List.flatMap_append, List.flatMap_append, ih (fun i hi => h i (by omega))]; simp [h k (by omega)]
theorem set_split {l : List Value} {j : Nat} {v : Value} (hj : j < l.length) (m : Nat) : (l.set j v).take (j + 1) = l.take j ++ [v] ∧ (l.set j v).drop (j + 1 + m) = l.drop (j + (m + 1)) := by
  have hs : l.set j v = l.take j ++ v :: l.drop (j + 1) := by rw [List.set_eq_take_append_cons_drop, if_pos hj]
  have ht : (l.take j).length = j := by rw [List.length_take]; omega
  constructor
  · rw [hs, List.take_append, ht, List.take_of_length_le (by omega), show j + 1 - j = 1 from by omega]; rfl
  · rw [hs, List.drop_append, ht, List.drop_eq_nil_of_le (by omega), show j + 1 + m - j = m + 1 from by omega]
    simp [List.drop_drop]
    congr 1; omega
/-- A whole node's cells laid over another one's. -/
theorem own_put {B A k c : Nat} {n : Nat} (hn : n < k) : ∀ (cs : List Value) (j : Nat) (f : Nat → List Value), (∀ i, (f i).length = 7) → j + cs.length ≤ 7 → ∀ w : World,
    w.ownsRow B 41 7 (.slice (some ⟨A, 0, none⟩) k c) k (rcG f k) → (w.setCells A (n * 7 + j) cs).ownsRow B 41 7 (.slice (some ⟨A, 0, none⟩) k c) k (rcG (fun i => if i = n then (f n).take j ++ cs ++ (f n).drop (j + cs.length) else f i) k)
  | [], j, f, hf, _, w, h => by
    have e : rcG (fun i => if i = n then (f n).take j ++ [] ++ (f n).drop (j + 0) else f i) k = rcG f k := rcG_congr fun i _ => by
      by_cases q : i = n
      · subst q; simp
      · rw [if_neg q]
    show w.ownsRow _ _ _ _ _ (rcG (fun i => if i = n then (f n).take j ++ [] ++ (f n).drop (j + 0) else f i) k)
    rw [e]; exact h
  | v :: cs, j, f, hf, hl, w, h => by
    have hl2 : j + (cs.length + 1) ≤ 7 := hl
    have h1 := (h.stored (n * 7 + j) v).1
    rw [rcG_set hf hn (by omega) v] at h1
    have h2 := own_put hn cs (j + 1) (fun i => if i = n then (f n).set j v else f i) (fun i => by
      show (if i = n then (f n).set j v else f i).length = 7
      split
      · rw [List.length_set, hf]
      · exact hf i) (by omega) _ h1
    have e : rcG (fun i => if i = n then ((if n = n then (f n).set j v else f n)).take (j + 1) ++ cs ++ ((if n = n then (f n).set j v else f n)).drop (j + 1 + cs.length) else if i = n then (f n).set j v else f i) k = rcG (fun i => if i = n then (f n).take j ++ v :: cs ++ (f n).drop (j + (cs.length + 1)) else f i) k := rcG_congr fun i _ => by
      by_cases q : i = n
      · subst q
        rw [if_pos rfl, if_pos rfl, if_pos rfl]
        have hj : j < (f i).length := by rw [hf]; omega
        rw [set_split hj cs.length |>.1, set_split hj cs.length |>.2]
        simp
      · rw [if_neg q, if_neg q, if_neg q]
    rw [e] at h2
    exact h2
theorem setCells_heap (A : Nat) : ∀ (cs : List Value) (o : Nat) (w : World), w.grownBy (w.setCells A o cs) (some A)
  | [], _, w => only_refl w _
  | v :: cs, o, w => only_trans (only_set w A o v) (setCells_heap A cs (o + 1) _)
/-! The least number that is free, and how many there are. -/
theorem cnt_lt (T : TrM) (h0 : (T.nd 0).kd = 0) : ∀ k, cntN T (k + 1) ≤ k
  | 0 => by rw [cnt_succ, h0]; exact Nat.le_refl _
  | k + 1 => by rw [cnt_succ]; have := cnt_lt T h0 k; split <;> omega
theorem cnt_gap (T : TrM) (h0 : (T.nd 0).kd = 0) {m : Nat} (h1 : 1 ≤ m) (hm : (T.nd m).kd = 0) : ∀ k, m < k → cntN T k + 2 ≤ k
  | 0, h => by omega
  | k + 1, h => by
    rw [cnt_succ]
    by_cases e : m = k
    · subst e
      rw [if_pos hm]
      obtain ⟨q, rfl⟩ : ∃ q, m = q + 1 := ⟨m - 1, by omega⟩
      have := cnt_lt T h0 q
      omega
    · have := cnt_gap T h0 h1 hm k (by omega)
      split <;> omega
theorem cnt_all (T : TrM) (h0 : (T.nd 0).kd = 0) {k : Nat} (h : ∀ m, 1 ≤ m → m < k → (T.nd m).kd ≠ 0) : ∀ j, j < k → cntN T (j + 1) = j
  | 0, _ => by rw [cnt_succ, h0]; rfl
  | j + 1, hj => by rw [cnt_succ, if_neg (h _ (by omega) hj), cnt_all T h0 h j (by omega)]
section
variable {w w' : World} {B tb A k c g : Nat} {T : TrM} {mv nx : Value} {df lf : Nat → Value}
theorem RtR.cnt (h : RtR w B tb T A k c mv nx df lf) : T.lim ≤ cntN T k ↔ freeF T = none := by
  have h0 : (T.nd 0).kd = 0 := by rw [h.out 0 (.inl rfl)]; rfl
  have hk := h.kk
  obtain ⟨q, rfl⟩ : ∃ q, k = q + 1 := ⟨k - 1, by omega⟩
  constructor
  · intro hc
    refine free_none fun m h1 h2 => ?_
    intro hm
    rcases Nat.lt_or_ge m (q + 1) with hl | hl
    · have := cnt_gap T h0 h1 hm _ hl; omega
    · have := cnt_lt T h0 q; omega
  · intro hf
    have hall : ∀ m, 1 ≤ m → m ≤ T.lim → (T.nd m).kd ≠ 0 := fun m h1 h2 hm => by
      unfold freeF at hf
      have := List.find?_eq_none.1 hf m (List.mem_range'_1.2 (by omega))
      simp [hm] at this
    have hq : q = T.lim := by
      rcases Nat.lt_or_ge q T.lim with hl | hl
      · exact absurd (by rw [h.out (q + 1) (.inr (Nat.le_refl _))]; rfl) (hall (q + 1) (by omega) (by omega))
      · omega
    rw [cnt_all T h0 (k := q + 1) (fun m h1 h2 => hall m h1 (by omega)) q (by omega)]
    omega
theorem RtR.freeAt (h : RtR w B tb T A k c mv nx df lf) {n : Nat} (hn : 1 ≤ n ∧ n ≤ k) (hg : ∀ m, 1 ≤ m → m < n → (T.nd m).kd ≠ 0) (hz : n = k ∨ (T.nd n).kd = 0) (hf : ¬ T.lim ≤ cntN T k) : freeF T = some n ∧ n ≤ T.lim := by
  have h0 : (T.nd 0).kd = 0 := by rw [h.out 0 (.inl rfl)]; rfl
  have hk := h.kk
  have hz2 : (T.nd n).kd = 0 := by
    rcases hz with e | e
    · rw [h.out n (.inr (by omega))]; rfl
    · exact e
  have hl : n ≤ T.lim := by
    rcases Nat.lt_or_ge n k with hl | hl
    · omega
    · have e : n = k := by omega
      subst e
      obtain ⟨qq, rfl⟩ : ∃ q, n = q + 1 := ⟨n - 1, by omega⟩
      rw [cnt_all T h0 hg qq (by omega)] at hf
      omega
  exact ⟨free_some ⟨hn.1, hl⟩ hg hz2, hl⟩
/-- A node laid whole. -/
theorem RtR.put (h : RtR w B tb T A k c mv nx df lf) {n : Nat} (hn : n < k) (h0 : n ≠ 0) (x : NdM) (hx : Loose x) (hd : x.data = []) (hL : x.L = []) :
    RtR (w.setCells A (n * 7) (rnCells x NIL NIL)) B tb { T with nd := upd T.nd n x } A k c mv nx (fun i => if i = n then NIL else df i) (fun i => if i = n then NIL else lf i) := by
  have hg := setCells_heap A (rnCells x NIL NIL) (n * 7) w
  refine ⟨h.tab.grown hg (fun e => (bk_tyb h.tab).ne h.tyA (by decide) (Option.some.inj e)), ?_, fun i hi => ?_, fun i hi => ?_, h.hB, h.kk, h.lim, fun i hi => ?_, fun i => ?_, h.ch⟩
  · have h1 := own_put hn (rnCells x NIL NIL) 0 (fun i => rnCells (T.nd i) (df i) (lf i)) (fun _ => rfl) (by rw [rn_len]; omega) w h.row
    rw [Nat.add_zero] at h1
    have e : rcG (fun i => if i = n then ((fun i => rnCells (T.nd i) (df i) (lf i)) n).take 0 ++ rnCells x NIL NIL ++ ((fun i => rnCells (T.nd i) (df i) (lf i)) n).drop (0 + (rnCells x NIL NIL).length) else (fun i => rnCells (T.nd i) (df i) (lf i)) i) k = rcL { T with nd := upd T.nd n x } k (fun i => if i = n then NIL else df i) (fun i => if i = n then NIL else lf i) := rcG_congr fun i _ => by
      show _ = rnCells (upd T.nd n x i) _ _
      by_cases q : i = n
      · subst q
        dsimp only
        rw [if_pos rfl, if_pos rfl, if_pos rfl, upd_same]
        rfl
      · dsimp only
        rw [if_neg q, if_neg q, if_neg q, upd_other _ _ q]
    rw [e] at h1
    exact h1
  · show DRd _ (if i = n then NIL else df i) (upd T.nd n x i).data
    by_cases e : i = n
    · subst e; rw [upd_same, if_pos rfl, hd]; exact ⟨none, 0, rfl, Nat.le_refl _, TRd.nil _ _ _⟩
    · rw [upd_other _ _ e, if_neg e]; exact (h.data i hi).same hg.size (fun b q => hg.block b q.lt (fun e => q.ne h.tyA (by decide) (Option.some.inj e)))
  · show ERd _ (if i = n then NIL else lf i) (upd T.nd n x i).L
    by_cases e : i = n
    · subst e; rw [upd_same, if_pos rfl, hL]; exact erd_nil _
    · rw [upd_other _ _ e, if_neg e]; exact (h.list i hi).same hg.size (fun b q => hg.block b q.lt (fun e => q.ne h.tyA (by decide) (Option.some.inj e)))
  · show upd T.nd n x i = ndZ
    rw [upd_other _ _ (by omega)]; exact h.out i hi
  · show Loose (upd T.nd n x i)
    unfold upd; split
    · exact hx
    · exact h.ls i
theorem FrR.put (h : RtR w B tb T A k c mv nx df lf) (o : Nat) (cs : List Value) : FrR B w (w.setCells A o cs) := Fr.ofGrown (setCells_heap A cs o w) (.inr ⟨h.hA, h.kinA⟩)
/-- One change more. -/
theorem RtR.setCh (h : RtR w B tb T A k c mv nx df lf) (q : Nat) (hq : q ≤ 1000000000) : RtR (w.setCell ⟨tb, 4, none⟩ (.int .i64 q)) B tb { T with ch := q } A k c mv nx df lf := by
  have hg := only_set w tb 4 (.int .i64 q)
  have ht := bk_tyb h.tab
  exact ⟨h.tab.set 4 _, own_same h.row (fun b e => by cases e; exact hg.block _ h.tyA.lt (fun e => h.tyA.ne ht (by decide) (Option.some.inj e))), fun n hn => (h.data n hn).same hg.size (fun b q => hg.block b q.lt (fun e => q.ne ht (by decide) (Option.some.inj e))), fun n hn => (h.list n hn).same hg.size (fun b q => hg.block b q.lt (fun e => q.ne ht (by decide) (Option.some.inj e))), h.hB, h.kk, h.lim, h.out, h.ls, hq⟩
/-- One place more at the end. -/
theorem RtR.push {v : Value} (h : RtR w B tb T A k c mv nx df lf) (hk : k ≤ T.lim) (ho : w'.ownsRow B 41 7 v (k + 1) (rcL T k df lf ++ rnCells ndZ NIL NIL)) (hg : w.grownBy w' (some A)) :
    ∃ A' c', v = .slice (some ⟨A', 0, none⟩) (k + 1) c' ∧ RtR (w'.setCell ⟨tb, 0, none⟩ v) B tb T A' (k + 1) c' mv nx (fun i => if i = k then NIL else df i) (fun i => if i = k then NIL else lf i) := by
  obtain ⟨A1, c', rfl, _, _, hty, _⟩ := own_typed ho
  rcases ho.2 with ⟨e, _⟩ | ⟨A', cap, cur, e, hB', hh, _⟩
  · simp at e
  simp only [Value.slice.injEq, Option.some.injEq, true_and] at e
  obtain ⟨rfl, rfl⟩ := e
  have hA' : TyB w' A' 41 := hty A' rfl
  have htb' : Bk w' tb 45 _ := h.tab.grown hg (fun e => (bk_tyb h.tab).ne h.tyA (by decide) (Option.some.inj e))
  have hs := only_set w' tb 0 (.slice (some ⟨A', 0, none⟩) (k + 1) c')
  have ht := bk_tyb htb'
  have hk2 := h.kk
  refine ⟨A', c', rfl, htb'.set 0 _, own_same (xs := rcL T (k + 1) _ _) ?_ (fun b e => by cases e; exact hs.block _ hA'.lt (fun e => hA'.ne ht (by decide) (Option.some.inj e))), fun n hn => ?_, fun n hn => ?_, h.hB, ⟨by omega, by omega⟩, h.lim, fun i hi => h.out i (by omega), h.ls, h.ch⟩
  · have e : rcL T (k + 1) (fun i => if i = k then NIL else df i) (fun i => if i = k then NIL else lf i) = rcL T k df lf ++ rnCells ndZ NIL NIL := by
      show rcG _ (k + 1) = _
      unfold rcG
      rw [List.range_succ, List.flatMap_append]
      show rcG _ k ++ _ = _
      rw [show rcL T k df lf = rcG (fun i => rnCells (T.nd i) (if i = k then NIL else df i) (if i = k then NIL else lf i)) k from rcG_congr (f := fun i => rnCells (T.nd i) (df i) (lf i)) fun i hi => by rw [if_neg (by omega), if_neg (by omega)]]
      simp [h.out k (.inr (Nat.le_refl _))]
    rw [e]; exact ho
  · by_cases e : n = k
    · subst e; rw [if_pos rfl, h.out n (.inr (Nat.le_refl _))]; exact ⟨none, 0, rfl, Nat.le_refl _, TRd.nil _ _ _⟩
    · rw [if_neg e]
      have h1 := (h.data n (by omega)).same (w' := w') hg.size (fun b q => hg.block b q.lt (fun e => q.ne h.tyA (by decide) (Option.some.inj e)))
      exact h1.same hs.size (fun b q => hs.block b q.lt (fun e => q.ne ht (by decide) (Option.some.inj e)))
  · by_cases e : n = k
    · subst e; rw [if_pos rfl, h.out n (.inr (Nat.le_refl _))]; exact erd_nil _
    · rw [if_neg e]
      have h1 := (h.list n (by omega)).same (w' := w') hg.size (fun b q => hg.block b q.lt (fun e => q.ne h.tyA (by decide) (Option.some.inj e)))
      exact h1.same hs.size (fun b q => hs.block b q.lt (fun e => q.ne ht (by decide) (Option.some.inj e)))
end
end Go.Proofs.Ytdlglllidolggaa.In
