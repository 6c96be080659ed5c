/- Long paths, names' parts, by lists alone. -/
import Derived.Test.YthjbenjnhdgalaaDoorWordsM
import Derived.Test.YthjbenjnhdgalaaDoorTxtB
namespace Go.Proofs.YthjbenjnhdgalaaDoor
theorem nextS_word0 {g t r : Bs} {k : Nat} (hg : ∀ c ∈ g, isP c.toNat = true) (hne : t ≠ []) (hh : ∀ c, t.head? = some c → begunB c.toNat = k) (ha : ∀ c ∈ t, hasB k c.toNat = true) (hk : 1 ≤ k ∧ k ≤ 4) (hr : ∀ c, r.head? = some c → isP c.toNat = true) : nextS (g ++ (t ++ r)) = some (k, t, g.length, r) := by
  cases ht : t with
  | nil => exact absurd ht hne
  | cons c t' =>
    have hb := hh c (by rw [ht]; rfl)
    have h0 := ha c (by rw [ht]; simp)
    have hnp : isP c.toNat = false := by
      cases hp : isP c.toNat with
      | false => rfl
      | true => rw [(isP_not _ hp).2 k hk.1 hk.2] at h0; cases h0
    obtain ⟨h1, h2⟩ := tw_app isP g (c :: t' ++ r) hg (fun d hd => by simp at hd; subst hd; exact hnp)
    rw [ht] at ha
    obtain ⟨h3, h4⟩ := tw_app (hasB k) (c :: t') r ha (fun d hd => (isP_not _ (hr d hd)).2 k hk.1 hk.2)
    unfold nextS
    rw [h2, h1]
    show some (begunB c.toNat, tw (hasB (begunB c.toNat)) (c :: t' ++ r), g.length, dw (hasB (begunB c.toNat)) (c :: t' ++ r)) = _
    rw [hb, h3, h4]
/-- A text that is one word, blanks ahead of it. -/
theorem lex_one {g t : Bs} {k : Nat} (hg : ∀ c ∈ g, isP c.toNat = true) (hne : t ≠ []) (hh : ∀ c, t.head? = some c → begunB c.toNat = k) (ha : ∀ c ∈ t, hasB k c.toNat = true) (hk : 1 ≤ k ∧ k ≤ 4) (hl : (g ++ t).length ≤ 65536) :
    lexB (g ++ t) = if (valB k t).2 ≠ 0 then ([], ⟨1, g.length + 1, (valB k t).2⟩) else ([⟨k, t, (valB k t).1, 1, g.length + 1⟩, ⟨0, [], 0, 1, (g ++ t).length + 1⟩], noW) := by
  have hpl : ∀ c ∈ g ++ t, c.toNat ≠ 10 ∧ c.toNat ≠ 35 := fun c hc => by
    rcases List.mem_append.1 hc with hc | hc
    · exact isP_plain _ (hg c hc)
    · exact has_plain k _ hk.1 hk.2 (ha c hc)
  have hn := nextS_word0 (r := []) hg hne hh ha hk (fun c hc => by simp at hc)
  rw [List.append_nil] at hn
  have hc : cutH (g ++ t) = g ++ t := cutH_none _ (fun c hc => (hpl c hc).2)
  unfold lexB
  rw [if_neg (by omega), lines_end _ (fun c hc => u8_ne (n := 10) (by omega) (hpl c hc).1)]
  by_cases hv : (valB k t).2 = 0
  · rw [if_neg (by simpa using hv)]
    have hb : lineB (0 + 1) (g ++ t) = ([⟨k, t, (valB k t).1, 1, g.length + 1⟩, ⟨0, [], 0, 1, (g ++ t).length + 1⟩], noW) := by
      unfold lineB
      rw [hc, lexF_step hn hv]
      have : lexF (0 + 1) (g ++ t).length [] (0 + g.length + t.length) = ([], 0, 0) := by
        cases (g ++ t).length with
        | zero => rfl
        | succ f => exact lexF_none rfl
      rw [this]
      unfold lineR
      rw [if_neg (by simp), if_neg (by simp)]
      simp [endT]
    rw [lexL_line hb]
    rfl
  · rw [if_pos hv]
    have hb : lineB (0 + 1) (g ++ t) = ([], ⟨1, g.length + 1, (valB k t).2⟩) := by
      unfold lineB
      rw [hc, lexF_bad hn hv]
      unfold lineR
      rw [if_pos hv]
      simp
    rw [lexL, hb]
    simp only
    rw [if_pos (by intro e; exact hv (congrArg Wr.e e))]
def pathB (n : Nat) : Bs := 47 :: List.replicate n 97
theorem pathB_len (n : Nat) : (pathB n).length = n + 1 := by simp [pathB]
theorem pathB_snoc (n : Nat) : pathB n ++ [97] = pathB (n + 1) := by unfold pathB; rw [List.cons_append, ← List.replicate_succ']
theorem path_lex (n : Nat) (hn : n ≤ 200) : lexB ([32] ++ pathB n) = if 120 < n + 1 then ([], ⟨1, 2, 36⟩) else ([⟨3, pathB n, 0, 1, 2⟩, ⟨0, [], 0, 1, n + 3⟩], noW) := by
  have h := lex_one (g := [32]) (t := pathB n) (k := 3) (by decide) (by simp [pathB]) (fun c hc => by simp [pathB] at hc; subst hc; decide) (fun c hc => by
    rcases List.mem_cons.1 hc with rfl | hc
    · decide
    · rw [List.eq_of_mem_replicate hc]; decide) (by omega) (by rw [List.length_append, pathB_len]; simp; omega)
  rw [h]
  have hv : valB 3 (pathB n) = (0, if 120 < n + 1 then 36 else 0) := by unfold valB; rw [pathB_len]; rfl
  rw [hv]
  by_cases hl : 120 < n + 1
  · simp [hl]
  · simp [hl, pathB_len]
def nmB (l : List Nat) : Bs := 97 :: l.flatMap fun p => if p % 2 = 0 then [44, 98] else [99]
def evs (l : List Nat) : Nat := (l.filter fun p => decide (p % 2 = 0)).length
theorem nmB_snoc (l : List Nat) (p : Nat) : nmB (l ++ [p]) = nmB l ++ (if p % 2 = 0 then [44, 98] else [99]) := by simp [nmB]
theorem evs_snoc (l : List Nat) (p : Nat) : evs (l ++ [p]) = evs l + (if p % 2 = 0 then 1 else 0) := by
  unfold evs
  rw [List.filter_append, List.length_append]
  by_cases h : p % 2 = 0 <;> simp [h]
theorem nmB_len (l : List Nat) : (nmB l).length ≤ 1 + 2 * l.length := by
  unfold nmB
  induction l with
  | nil => simp
  | cons p l ih =>
    simp only [List.flatMap_cons, List.length_cons, List.length_append] at ih ⊢
    have h : (if p % 2 = 0 then ([44, 98] : Bs) else [99]).length ≤ 2 := by split <;> simp
    omega
theorem evs_len (l : List Nat) : evs l ≤ l.length := List.length_filter_le _ _
theorem name_lex (l : List Nat) (hl : l.length ≤ 20) : lexB (nmB l) = ([⟨1, nmB l, 0, 1, 1⟩, ⟨0, [], 0, 1, (nmB l).length + 1⟩], noW) := by
  have h0 := nmB_len l
  have h := lex_one (g := []) (t := nmB l) (k := 1) (by simp) (by simp [nmB]) (fun c hc => by simp [nmB] at hc; subst hc; decide) (fun c hc => by
    rcases List.mem_cons.1 hc with rfl | hc
    · decide
    · obtain ⟨p, _, hp⟩ := List.mem_flatMap.1 hc
      split at hp
      · exact (show ∀ c ∈ ([44, 98] : Bs), hasB 1 c.toNat = true by decide) c hp
      · exact (show ∀ c ∈ ([99] : Bs), hasB 1 c.toNat = true by decide) c hp) (by omega) (by simp; omega)
  rw [List.nil_append] at h
  rw [h]
  rfl
theorem name_count (l : List Nat) : Lib.count (nmB l) [44] = evs l := by
  unfold nmB evs
  rw [Lib.count_cons_ne _ _ _ (by decide)]
  induction l with
  | nil => rfl
  | cons p l ih =>
    rw [List.flatMap_cons, List.filter_cons]
    by_cases h : p % 2 = 0
    · rw [if_pos h, if_pos (by simpa using h)]
      show Lib.count (44 :: 98 :: (l.flatMap fun p => if p % 2 = 0 then [44, 98] else [99])) [44] = _
      rw [Lib.count_cons_eq, Lib.count_cons_ne _ _ _ (by decide), ih, List.length_cons, Nat.add_comm]
    · rw [if_neg h, if_neg (by simpa using h)]
      show Lib.count (99 :: (l.flatMap fun p => if p % 2 = 0 then [44, 98] else [99])) [44] = _
      rw [Lib.count_cons_ne _ _ _ (by decide), ih]
end Go.Proofs.YthjbenjnhdgalaaDoor
