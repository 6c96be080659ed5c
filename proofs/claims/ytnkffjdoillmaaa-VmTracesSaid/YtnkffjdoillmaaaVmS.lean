/- Runs of filters as lists: stripped, with more behind them; what traces tell. -/
import Derived.Test.YtnkffjdoillmaaaVmM
namespace Go.Proofs.Ytnkffjdoillmaaa
theorem step_at (W : Nat → Nat) (i : Ins) (s : Mc) (q : Nat) : stepN W i { s with nx := q } = ({ (stepN W i s).1 with nx := q + ((stepN W i s).1.nx - s.nx) }, (stepN W i s).2) := by
  have e1 : opd i { s with nx := q } = opd i s := rfl
  have e2 : farN i { s with nx := q } = farN i s := rfl
  unfold stepN
  rw [e1, e2]
  repeat' split
  all_goals (simp; try omega)
theorem step_one {W : Nat → Nat} {i : Ins} {s : Mc} (h : i.c % 8 ≠ 5) : (stepN W i s).1.nx = s.nx + 1 := by
  unfold stepN
  rw [if_neg h]
  repeat' split
  all_goals rfl
theorem strip_step {W : Nat → Nat} {l : List Ins} (g : Good l) {i : Ins} {s : Mc} (h : rb l s.nx = true) (hi : l[s.nx]? = some i) :
    ∃ s' : Mc, stepN W (mv (cnt (rb l)) i s.nx) { s with nx := cnt (rb l) s.nx } = ({ s' with nx := cnt (rb l) (stepN W i s).1.nx }, (stepN W i s).2) ∧ s' = (stepN W i s).1 := by
  refine ⟨_, ?_, rfl⟩
  by_cases h5 : i.c % 8 = 5
  · have hk := (alone_zero.1 (g.each _ _ hi)).1
    have hc : i.c ∈ codesL := by simpa [knownB] using hk
    simp only [codesL, List.mem_cons, List.not_mem_nil, or_false] at hc
    have hst : ∀ (j : Ins) (t : Mc), j.c = i.c → stepN W j t = ({ t with nx := t.nx + 1 + farN j t }, none) := fun j t hj => by
      unfold stepN
      rw [hj, if_neg (by omega), if_neg (by omega), if_neg (by omega), if_neg (by omega), if_neg (by omega), if_pos h5]
    rw [hst _ _ (mv_c _ _ _), hst i s rfl]
    have hlt : ∀ d, cnt (rb l) s.nx < cnt (rb l) (s.nx + 1 + d) := fun d => cnt_lt h (by omega)
    have hfar : farN (mv (cnt (rb l)) i s.nx) { s with nx := cnt (rb l) s.nx } = cnt (rb l) (s.nx + 1 + farN i s) - cnt (rb l) s.nx - 1 := by
      unfold farN
      rw [mv_c]
      by_cases h0 : i.c = 5
      · rw [if_pos (by omega), if_pos (by omega)]
        unfold mv
        simp [h0]
      · have hop : opd (mv (cnt (rb l)) i s.nx) { s with nx := cnt (rb l) s.nx } = opd i s := by
          unfold opd
          rw [mv_c, mv_k h0]
        have hn0 : ¬ i.c / 16 = 0 := by omega
        rw [if_neg hn0, hop]
        split
        · unfold mv; simp [h0, h5]
        · unfold mv; simp [h0, h5]
    have := hlt (farN i s)
    simp only [hfar, Prod.mk.injEq, Mc.mk.injEq, true_and, and_true]
    omega
  · rw [mv_same h5, step_at, step_one h5, cnt_yes h]
    simp
theorem strip_exec {W : Nat → Nat} {l : List Ins} (g : Good l) : ∀ (n : Nat) (s : Mc), rb l s.nx = true → (exec W (stripL l) n { s with nx := cnt (rb l) s.nx }).2 = (exec W l n s).2 ∧ (exec W (stripL l) n { s with nx := cnt (rb l) s.nx }).1.length = (exec W l n s).1.length
  | 0, s, _ => ⟨rfl, rfl⟩
  | n + 1, s, h => by
    have ha := rb_lt g h
    have hi : l[s.nx]? = some l[s.nx] := List.getElem?_eq_getElem ha
    obtain ⟨s', hs, hs'⟩ := strip_step (W := W) g h hi
    have hk := (alone_zero.1 (g.each _ _ hi)).1
    have h2 := strip_at g h hi
    rcases hst : stepN W l[s.nx] s with ⟨t, _ | r⟩
    · rw [hst] at hs hs'
      subst hs'
      have hw := step_ways hk hst
      have ih := strip_exec (W := W) g n s' (rb_way g h hi hw)
      simp only [exec, h2, hi, hst, hs, List.length_cons]
      exact ⟨ih.1, by rw [ih.2]⟩
    · rw [hst] at hs
      simp [exec, h2, hi, hst, hs]
theorem strip_run {W : Nat → Nat} {l : List Ins} (g : Good l) : (runN W (stripL l)).2 = (runN W l).2 ∧ (runN W (stripL l)).1.length = (runN W l).1.length := by
  have h := strip_exec (W := W) g l.length mc0 (g0 g)
  have hl : (stripL l).length ≤ l.length := by rw [len_strip g]; exact cnt_le _
  unfold runN
  rw [exec_fuel W (stripL l) (stripL l).length l.length mc0 (by omega) (by omega)]
  exact h
theorem behind_exec {W : Nat → Nat} {l : List Ins} (g : Good l) (k : Nat) : ∀ (n : Nat) (s : Mc), s.nx < l.length → exec W (l ++ [ret k]) n s = exec W l n s
  | 0, s, _ => rfl
  | n + 1, s, h => by
    have hi : l[s.nx]? = some l[s.nx] := List.getElem?_eq_getElem h
    have hi2 : (l ++ [ret k])[s.nx]? = some l[s.nx] := by rw [List.getElem?_append_left h]; exact hi
    have hk := (alone_zero.1 (g.each _ _ hi)).1
    rcases hst : stepN W l[s.nx] s with ⟨t, _ | r⟩
    · have hw := step_ways hk hst
      have ih := behind_exec (W := W) g k n t (g.inr _ _ hi _ hw)
      simp only [exec, hi, hi2, hst, ih]
    · simp only [exec, hi, hi2, hst]
theorem behind_run {W : Nat → Nat} {l : List Ins} (g : Good l) (k : Nat) : runN W (l ++ [ret k]) = runN W l := by
  have hp := g.pos
  unfold runN
  rw [behind_exec g k _ mc0 hp, exec_fuel W l (l ++ [ret k]).length l.length mc0 (by simp; omega) (by omega)]
/-- What a step of a run tells, whatever comes behind it. -/
def TrAt (W : Nat → Nat) (l : List Ins) (act : Nat) (ts : List (Nat × Nat × Nat)) : Prop :=
  ∀ j t, ts[j]? = some t → ∃ i, l[t.1]? = some i ∧ (i.c = 32 → t.2.1 = W i.k) ∧ (i.c = 1 → t.2.2 = i.k) ∧ (∀ t', ts[j + 1]? = some t' → t'.1 ∈ ways i t.1) ∧
    (j + 1 = ts.length → (i.c = 6 → act = i.k) ∧ (i.c = 22 → act = t.2.1) ∧ (i.c % 8 ≠ 6 → (i.c = 52 ∨ i.c = 60) ∧ act = 0))
theorem tr_step {W : Nat → Nat} {i : Ins} {s s' : Mc} {e : Option Nat} (h : stepN W i s = (s', e)) : (i.c = 32 → s'.a = W i.k) ∧ (i.c = 1 → s'.x = i.k) := by
  refine ⟨fun hc => ?_, fun hc => ?_⟩
  · unfold stepN at h
    simp [hc, ldN] at h
    rw [← h.1]
  · unfold stepN at h
    simp [hc, ldN] at h
    rw [← h.1]
theorem tr_end {W : Nat → Nat} {i : Ins} {s s' : Mc} {r : Nat} (hk : knownB i.c = true) (h : stepN W i s = (s', some r)) : (i.c = 6 → r = i.k) ∧ (i.c = 22 → r = s'.a) ∧ (i.c % 8 ≠ 6 → (i.c = 52 ∨ i.c = 60) ∧ r = 0) := by
  have hc : i.c ∈ codesL := by simpa [knownB] using hk
  simp only [codesL, List.mem_cons, List.not_mem_nil, or_false] at hc
  refine ⟨fun h6 => ?_, fun h6 => ?_, fun h6 => ?_⟩
  · unfold stepN at h
    simp [h6] at h
    exact h.2.symm
  · unfold stepN at h
    simp [h6] at h
    rw [← h.1]; exact h.2.symm
  · unfold stepN at h
    by_cases h4 : i.c % 8 = 4
    · simp only [h4] at h
      by_cases h0 : i.c / 16 = 3 ∧ opd i s = 0
      · simp [h0] at h
        exact ⟨by omega, h.2.symm⟩
      · simp [h0] at h
    · simp only [h4, h6, if_false] at h
      repeat' split at h
      all_goals cases h
theorem tr_exec {W : Nat → Nat} {l : List Ins} (g : Good l) : ∀ (n : Nat) (s : Mc), s.nx < l.length → l.length - s.nx ≤ n → TrAt W l (exec W l n s).2 (exec W l n s).1 ∧ ∃ a x ts, (exec W l n s).1 = (s.nx, a, x) :: ts
  | 0, s, h, hn => by omega
  | n + 1, s, h, hn => by
    have hi : l[s.nx]? = some l[s.nx] := List.getElem?_eq_getElem h
    have hk := (alone_zero.1 (g.each _ _ hi)).1
    rcases hst : stepN W l[s.nx] s with ⟨t, _ | r⟩
    · have hw := step_ways hk hst
      have hlt := ways_gt hw
      obtain ⟨ih, a, x, ts, ht⟩ := tr_exec (W := W) g n t (g.inr _ _ hi _ hw) (by omega)
      simp only [exec, hi, hst]
      refine ⟨fun j u hu => ?_, _, _, _, rfl⟩
      cases j with
      | zero =>
        simp at hu
        subst hu
        refine ⟨_, hi, (tr_step hst).1, (tr_step hst).2, fun t' ht' => ?_, fun hl => ?_⟩
        · rw [ht] at ht'
          simp at ht'
          subst ht'
          exact hw
        · rw [ht] at hl
          simp at hl
      | succ j =>
        simp only [List.getElem?_cons_succ] at hu ⊢
        obtain ⟨i, h1, h2, h3, h4, h5⟩ := ih j u hu
        exact ⟨i, h1, h2, h3, h4, fun hl => h5 (by simpa using hl)⟩
    · simp only [exec, hi, hst]
      refine ⟨fun j u hu => ?_, _, _, _, rfl⟩
      cases j with
      | zero =>
        simp at hu
        subst hu
        exact ⟨_, hi, (tr_step hst).1, (tr_step hst).2, fun t' ht' => by simp at ht', fun _ => tr_end hk hst⟩
      | succ j => simp at hu
theorem tr_run {W : Nat → Nat} {l : List Ins} (g : Good l) : TrAt W l (runN W l).2 (runN W l).1 ∧ ∃ a x ts, (runN W l).1 = (0, a, x) :: ts := tr_exec g _ mc0 g.pos (Nat.sub_le _ _)
end Go.Proofs.Ytnkffjdoillmaaa
