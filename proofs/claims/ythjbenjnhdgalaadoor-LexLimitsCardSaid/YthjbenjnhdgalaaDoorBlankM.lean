/- Words with blanks, empty lines and notes between: the same words, by lists alone. -/
import Derived.Test.YthjbenjnhdgalaaDoorAnyM
namespace Go.Proofs.YthjbenjnhdgalaaDoor
def sig (x : Tok) : Nat × Bs × Nat := (x.k, x.t, x.n)
def gapS (k : Nat) : Bs := if k = 0 then [32] else if k = 1 then [9, 32, 9] else if k = 2 then [32, 32] else [13, 32]
def tailS (k : Nat) : Bs := if k = 0 then [10] else if k = 1 then [10, 10] else if k = 2 then [35, 32, 110, 111, 116, 101, 32, 61, 32, 36, 10] else [10, 35, 32, 36, 10, 32, 10]
def body (k : Nat) (x : Tok) : Bs := if x.k = 0 then tailS k else x.t
/-- The text that is put together of words and of what stands between them. -/
def bt (l : List Nat) : Nat → List Tok → Bs
  | _, [] => []
  | i, x :: r => gapS (l.getD i 0 % 4) ++ (body (l.getD i 0 % 4) x ++ bt l (i + 1) r)
theorem bt_app (l : List Nat) : ∀ (L M : List Tok) (i : Nat), bt l i (L ++ M) = bt l i L ++ bt l (i + L.length) M
  | [], M, i => by simp [bt]
  | x :: L, M, i => by
    rw [List.cons_append, bt, bt, bt_app l L M (i + 1), List.length_cons, show i + 1 + L.length = i + (L.length + 1) by omega]
    simp only [List.append_assoc]
/-- A word that is right. -/
structure WordOk (x : Tok) : Prop where
  ne : x.t ≠ []
  head : ∀ c, x.t.head? = some c → begunB c.toNat = x.k
  all : ∀ c ∈ x.t, hasB x.k c.toNat = true
  val : valB x.k x.t = (x.n, 0)
theorem isP_not (c : Nat) (h : isP c = true) : begunB c = 4 ∧ ∀ k, 1 ≤ k → k ≤ 4 → hasB k c = false := by
  have h3 : c = 32 ∨ c = 9 ∨ c = 13 := by
    unfold isP at h
    simp at h
    omega
  rcases h3 with rfl | rfl | rfl
  · exact ⟨by decide, fun k h1 h2 => by rcases (by omega : k = 1 ∨ k = 2 ∨ k = 3 ∨ k = 4) with rfl | rfl | rfl | rfl <;> decide⟩
  · exact ⟨by decide, fun k h1 h2 => by rcases (by omega : k = 1 ∨ k = 2 ∨ k = 3 ∨ k = 4) with rfl | rfl | rfl | rfl <;> decide⟩
  · exact ⟨by decide, fun k h1 h2 => by rcases (by omega : k = 1 ∨ k = 2 ∨ k = 3 ∨ k = 4) with rfl | rfl | rfl | rfl <;> decide⟩
theorem word_kind {x : Tok} (h : WordOk x) : 1 ≤ x.k ∧ x.k ≤ 4 := by
  cases ht : x.t with
  | nil => exact absurd ht h.ne
  | cons c r =>
    have := h.head c (by rw [ht]; rfl)
    rw [← this]
    exact begunB_pos _
theorem nextS_word {g : Bs} {x : Tok} {r : Bs} (hg : ∀ c ∈ g, isP c.toNat = true) (hx : WordOk x) (hr : ∀ c, r.head? = some c → isP c.toNat = true) : nextS (g ++ (x.t ++ r)) = some (x.k, x.t, g.length, r) := by
  have hk := word_kind hx
  cases ht : x.t with
  | nil => exact absurd ht hx.ne
  | cons c t =>
    have hb := hx.head c (by rw [ht]; rfl)
    have hh := hx.all c (by rw [ht]; simp)
    have hnp : isP c.toNat = false := by
      cases hp : isP c.toNat with
      | false => rfl
      | true => rw [(isP_not _ hp).2 x.k hk.1 hk.2] at hh; cases hh
    obtain ⟨h1, h2⟩ := tw_app isP g (c :: t ++ r) hg (fun d hd => by simp at hd; subst hd; exact hnp)
    have ha := hx.all
    rw [ht] at ha
    obtain ⟨h3, h4⟩ := tw_app (hasB x.k) (c :: t) r ha (fun d hd => (isP_not _ (hr d hd)).2 x.k hk.1 hk.2)
    unfold nextS
    rw [h2, h1]
    show some (begunB c.toNat, tw (hasB (begunB c.toNat)) (c :: t ++ r), g.length, dw (hasB (begunB c.toNat)) (c :: t ++ r)) = _
    rw [hb, h3, h4]
theorem gapS_p (k : Nat) : (∀ c ∈ gapS k, isP c.toNat = true) ∧ gapS k ≠ [] ∧ (gapS k).length ≤ 3 := by
  unfold gapS
  split
  · decide
  split
  · decide
  split <;> decide
theorem gap_head (k : Nat) (r : Bs) : ∀ c, (gapS k ++ r).head? = some c → isP c.toNat = true := by
  intro c hc
  obtain ⟨h1, h2, _⟩ := gapS_p k
  cases hg : gapS k with
  | nil => exact absurd hg h2
  | cons d t =>
    rw [hg] at hc
    simp at hc
    subst hc
    exact h1 d (by rw [hg]; simp)
theorem nextS_blank {g : Bs} (hg : ∀ c ∈ g, isP c.toNat = true) : nextS g = none := by
  have h := tw_app isP g [] hg (fun c hc => by simp at hc)
  rw [List.append_nil] at h
  unfold nextS
  rw [h.2]
theorem lex_words (l : List Nat) (ln : Nat) (k : Nat) : ∀ (ws : List Tok) (i a f : Nat), (∀ x ∈ ws, WordOk x) → (bt l i ws ++ gapS k).length < f →
    ∃ W, lexF ln f (bt l i ws ++ gapS k) a = (W, 0, 0) ∧ W.map sig = ws.map sig
  | _, _, _, 0, _, h => by omega
  | [], i, a, f + 1, _, h => ⟨[], by rw [bt, List.nil_append, lexF_none (nextS_blank (gapS_p k).1)], rfl⟩
  | x :: ws, i, a, f + 1, hw, h => by
    have hx := hw x (by simp)
    have hk := word_kind hx
    have hb : body (l.getD i 0 % 4) x = x.t := by unfold body; rw [if_neg (by omega)]
    have hr : ∀ c, (bt l (i + 1) ws ++ gapS k).head? = some c → isP c.toNat = true := by
      cases ws with
      | nil => rw [bt, List.nil_append, ← List.append_nil (gapS k)]; exact gap_head k []
      | cons y ws => rw [bt, List.append_assoc]; exact gap_head _ _
    have he : bt l i (x :: ws) ++ gapS k = gapS (l.getD i 0 % 4) ++ (x.t ++ (bt l (i + 1) ws ++ gapS k)) := by
      rw [bt, hb]; simp only [List.append_assoc]
    have hn := nextS_word (gapS_p (l.getD i 0 % 4)).1 hx hr
    have hl := congrArg List.length he
    simp only [List.length_append] at hl h
    have ht := List.length_pos_iff.2 hx.ne
    have hg := List.length_pos_iff.2 (gapS_p (l.getD i 0 % 4)).2.1
    rw [he, lexF_step hn (by rw [hx.val])]
    obtain ⟨W, h1, h2⟩ := lex_words l ln k ws (i + 1) (a + (gapS (l.getD i 0 % 4)).length + x.t.length) f (fun y hy => hw y (List.mem_cons_of_mem _ hy)) (by simp only [List.length_append]; omega)
    rw [h1]
    exact ⟨_, rfl, by rw [List.map_cons, h2, List.map_cons]; simp [sig, hx.val]⟩
/-- The bytes that part lines, or leave out, stand in no word. -/
theorem has_plain (k c : Nat) (h1 : 1 ≤ k) (h2 : k ≤ 4) (h : hasB k c = true) : c ≠ 10 ∧ c ≠ 35 := by
  refine ⟨?_, ?_⟩
  · rintro rfl
    rcases (by omega : k = 1 ∨ k = 2 ∨ k = 3 ∨ k = 4) with rfl | rfl | rfl | rfl <;> simp [hasB, isL, isD, prn, sgn] at h
  · rintro rfl
    rcases (by omega : k = 1 ∨ k = 2 ∨ k = 3 ∨ k = 4) with rfl | rfl | rfl | rfl <;> simp [hasB, isL, isD, prn, sgn] at h
theorem isP_plain (c : Nat) (h : isP c = true) : c ≠ 10 ∧ c ≠ 35 := by
  unfold isP at h
  simp at h
  omega
theorem u8_ne {c : UInt8} {n : Nat} (hn : n < 256) (h : c.toNat ≠ n) : c ≠ UInt8.ofNat n := by
  rintro rfl; exact h (by simp; omega)
theorem bt_plain (l : List Nat) : ∀ (ws : List Tok) (i : Nat), (∀ x ∈ ws, WordOk x) → ∀ c ∈ bt l i ws, c.toNat ≠ 10 ∧ c.toNat ≠ 35
  | [], _, _, c, hc => by simp [bt] at hc
  | x :: ws, i, hw, c, hc => by
    have hx := hw x (by simp)
    have hk := word_kind hx
    have hb : body (l.getD i 0 % 4) x = x.t := by unfold body; rw [if_neg (by omega)]
    rw [bt, hb] at hc
    rcases List.mem_append.1 hc with hc | hc
    · exact isP_plain _ ((gapS_p _).1 c hc)
    · rcases List.mem_append.1 hc with hc | hc
      · exact has_plain x.k _ hk.1 hk.2 (hx.all c hc)
      · exact bt_plain l ws (i + 1) (fun y hy => hw y (List.mem_cons_of_mem _ hy)) c hc
inductive Grp : List Tok → Prop
  | nil : Grp []
  | line (ws : List Tok) (e : Tok) (r : List Tok) : ws ≠ [] → (∀ x ∈ ws, WordOk x) → e.k = 0 → e.t = [] → e.n = 0 → Grp r → Grp (ws ++ e :: r)
theorem Grp.app {a b : List Tok} (h : Grp a) (k : Grp b) : Grp (a ++ b) := by
  induction h with
  | nil => exact k
  | line ws e r h1 h2 h3 h4 h5 _ ih => rw [List.append_assoc, List.cons_append]; exact Grp.line ws e _ h1 h2 h3 h4 h5 ih
theorem lexL_skip {l : Bs} {ls : List Bs} {k : Nat} {acc : List Tok} (h : lineB (k + 1) l = ([], noW)) : lexL (l :: ls) k acc = lexL ls (k + 1) acc := by
  rw [lexL, h]; simp
theorem lexL_line {l : Bs} {ls : List Bs} {k : Nat} {acc : List Tok} {W : List Tok} (h : lineB (k + 1) l = (W, noW)) : lexL (l :: ls) k acc = lexL ls (k + 1) (acc ++ W) := by
  rw [lexL, h]; simp
theorem cutH_app (a b : Bs) (h : ∀ c ∈ a, c.toNat ≠ 35) : cutH (a ++ 35 :: b) = a := by
  induction a with
  | nil => simp [cutH]
  | cons c a ih =>
    have h1 : c ≠ 35 := fun e => h c (by simp) (by rw [e]; rfl)
    rw [List.cons_append, cutH, if_neg h1, ih (fun d hd => h d (by simp [hd]))]
theorem cutH_none (a : Bs) (h : ∀ c ∈ a, c.toNat ≠ 35) : cutH a = a := cutH_plain a (fun c hc e => h c hc (by rw [e]; rfl))
theorem line_of {l : List Nat} {ws : List Tok} {i k ln : Nat} {s : Bs} (hne : ws ≠ []) (hw : ∀ x ∈ ws, WordOk x) (hs : cutH s = bt l i ws ++ gapS k) :
    ∃ W e, lineB ln s = (W ++ [e], noW) ∧ W.map sig = ws.map sig ∧ e.k = 0 ∧ e.t = [] ∧ e.n = 0 := by
  obtain ⟨W, h1, h2⟩ := lex_words l ln k ws i 0 ((bt l i ws ++ gapS k).length + 1) hw (by omega)
  have hWne : W ≠ [] := by
    rintro rfl
    cases ws with
    | nil => exact hne rfl
    | cons x ws => simp at h2
  refine ⟨W, endT ln (cutH s).length, ?_, h2, rfl, rfl, rfl⟩
  unfold lineB
  rw [hs, h1]
  unfold lineR
  rw [if_neg (by simp), if_neg hWne]
/-- A text put together of words says these words. -/
theorem blank_reads (l : List Nat) {L : List Tok} (h : Grp L) : ∀ (i k : Nat) (acc : List Tok), ∃ M, lexL (lines (bt l i L)) k acc = (acc ++ M, noW) ∧ M.map sig = L.map sig := by
  induction h with
  | nil =>
    intro i k acc
    refine ⟨[], ?_, rfl⟩
    rw [bt]
    show lexL [[]] k acc = _
    rw [lexL_skip rfl]
    simp [lexL]
  | line ws e r h1 h2 h3 h4 h5 _ ih =>
    intro i k acc
    obtain ⟨j, hj⟩ : ∃ j, j = l.getD (i + ws.length) 0 % 4 := ⟨_, rfl⟩
    have hjl : j < 4 := by rw [hj]; exact Nat.mod_lt _ (by omega)
    have hbt : bt l i (ws ++ e :: r) = (bt l i ws ++ gapS j) ++ (tailS j ++ bt l (i + ws.length + 1) r) := by
      rw [bt_app, bt, ← hj]
      unfold body
      rw [if_pos h3]
      simp only [List.append_assoc]
    have hp : ∀ c ∈ bt l i ws ++ gapS j, c.toNat ≠ 10 ∧ c.toNat ≠ 35 := fun c hc => by
      rcases List.mem_append.1 hc with hc | hc
      · exact bt_plain l ws i h2 c hc
      · exact isP_plain _ ((gapS_p _).1 c hc)
    have hp10 : ∀ c ∈ bt l i ws ++ gapS j, c ≠ 10 := fun c hc => u8_ne (n := 10) (by omega) (hp c hc).1
    have hfin : ∀ (W : List Tok) (e' : Tok) (k' : Nat), W.map sig = ws.map sig → e'.k = 0 → e'.t = [] → e'.n = 0 →
        ∃ M, lexL (lines (bt l (i + ws.length + 1) r)) k' (acc ++ (W ++ [e'])) = (acc ++ M, noW) ∧ M.map sig = (ws ++ e :: r).map sig := fun W e' k' a1 a2 a3 a4 => by
      obtain ⟨M, b1, b2⟩ := ih (i + ws.length + 1) k' (acc ++ (W ++ [e']))
      refine ⟨(W ++ [e']) ++ M, by rw [b1, List.append_assoc], ?_⟩
      simp only [List.map_append, List.map_cons, a1, b2, List.append_assoc, List.cons_append, List.nil_append]
      simp [sig, a2, a3, a4, h3, h4, h5]
    rw [hbt]
    rcases (by omega : j = 0 ∨ j = 1 ∨ j = 2 ∨ j = 3) with hj0 | hj0 | hj0 | hj0
    · obtain ⟨W, e', c1, c2, c3, c4, c5⟩ := line_of (l := l) (i := i) (k := j) (ln := k + 1) h1 h2 (cutH_none _ (fun c hc => (hp c hc).2))
      rw [show tailS j = [10] by rw [hj0]; rfl]
      show ∃ M, lexL (lines ((bt l i ws ++ gapS j) ++ 10 :: bt l (i + ws.length + 1) r)) k acc = _ ∧ _
      rw [lines_plain _ _ hp10, lexL_line c1]
      exact hfin W e' _ c2 c3 c4 c5
    · obtain ⟨W, e', c1, c2, c3, c4, c5⟩ := line_of (l := l) (i := i) (k := j) (ln := k + 1) h1 h2 (cutH_none _ (fun c hc => (hp c hc).2))
      rw [show tailS j = [10, 10] by rw [hj0]; rfl]
      show ∃ M, lexL (lines ((bt l i ws ++ gapS j) ++ 10 :: ([] ++ 10 :: bt l (i + ws.length + 1) r))) k acc = _ ∧ _
      rw [lines_plain _ _ hp10, lines_plain [] _ (by simp), lexL_line c1, lexL_skip rfl]
      exact hfin W e' _ c2 c3 c4 c5
    · obtain ⟨W, e', c1, c2, c3, c4, c5⟩ := line_of (l := l) (i := i) (k := j) (ln := k + 1) (s := (bt l i ws ++ gapS j) ++ [35, 32, 110, 111, 116, 101, 32, 61, 32, 36]) h1 h2 (cutH_app _ _ (fun c hc => (hp c hc).2))
      rw [show tailS j = [35, 32, 110, 111, 116, 101, 32, 61, 32, 36, 10] by rw [hj0]; rfl]
      have e1 : (bt l i ws ++ gapS j) ++ ([35, 32, 110, 111, 116, 101, 32, 61, 32, 36, 10] ++ bt l (i + ws.length + 1) r) = ((bt l i ws ++ gapS j) ++ [35, 32, 110, 111, 116, 101, 32, 61, 32, 36]) ++ 10 :: bt l (i + ws.length + 1) r := by simp
      rw [e1, lines_plain _ _ (fun c hc => by
        rcases List.mem_append.1 hc with hc | hc
        · exact hp10 c hc
        · exact (show ∀ c ∈ ([35, 32, 110, 111, 116, 101, 32, 61, 32, 36] : Bs), c ≠ 10 by decide) c hc), lexL_line c1]
      exact hfin W e' _ c2 c3 c4 c5
    · obtain ⟨W, e', c1, c2, c3, c4, c5⟩ := line_of (l := l) (i := i) (k := j) (ln := k + 1) h1 h2 (cutH_none _ (fun c hc => (hp c hc).2))
      rw [show tailS j = [10, 35, 32, 36, 10, 32, 10] by rw [hj0]; rfl]
      show ∃ M, lexL (lines ((bt l i ws ++ gapS j) ++ 10 :: ([35, 32, 36] ++ 10 :: ([32] ++ 10 :: bt l (i + ws.length + 1) r)))) k acc = _ ∧ _
      rw [lines_plain _ _ hp10, lines_plain [35, 32, 36] _ (by decide), lines_plain [32] _ (by decide), lexL_line c1, lexL_skip rfl, lexL_skip rfl]
      exact hfin W e' _ c2 c3 c4 c5
theorem next_word {s : Bs} {k g : Nat} {t r : Bs} (h : nextS s = some (k, t, g, r)) (hv : (valB k t).2 = 0) (ln col : Nat) : WordOk ⟨k, t, (valB k t).1, ln, col⟩ := by
  have hne := next_pos h hv
  unfold nextS at h
  split at h
  · cases h
  · rename_i c r0 e
    simp only [Option.some.injEq, Prod.mk.injEq] at h
    obtain ⟨rfl, rfl, rfl, rfl⟩ := h
    refine ⟨hne, fun d hd => ?_, tw_all _ _, ?_⟩
    · simp only at hd hne ⊢
      unfold tw at hd hne
      rw [List.takeWhile_cons] at hd hne
      split at hd
      · simp at hd; rw [hd]
      · rename_i hf; rw [if_neg hf] at hne; exact absurd rfl hne
    · simp only
      rw [← hv]
theorem lexF_words (ln : Nat) : ∀ (f : Nat) (s : Bs) (a : Nat), ∀ x ∈ (lexF ln f s a).1, WordOk x
  | 0, _, _, x, hx => by simp [lexF] at hx
  | f + 1, s, a, x, hx => by
    cases hn : nextS s with
    | none => rw [lexF_none hn] at hx; simp at hx
    | some y =>
      obtain ⟨k, t, g, r⟩ := y
      by_cases hv : (valB k t).2 = 0
      · rw [lexF_step hn hv] at hx
        rcases List.mem_cons.1 hx with rfl | hx
        · exact next_word hn hv _ _
        · exact lexF_words ln f r _ x hx
      · rw [lexF_bad hn hv] at hx; simp at hx
theorem lineB_grp (ln : Nat) (l : Bs) : Grp (lineB ln l).1 := by
  have h := lexF_words ln ((cutH l).length + 1) (cutH l) 0
  unfold lineB lineR
  split
  · exact .nil
  · split
    · exact .nil
    · rename_i h1 h2
      exact Grp.line _ (endT ln (cutH l).length) [] h2 h rfl rfl rfl .nil
theorem lexL_grp : ∀ (ls : List Bs) (k : Nat) (acc : List Tok), Grp acc → Grp (lexL ls k acc).1
  | [], _, _, h => h
  | l :: ls, k, acc, h => by
    rw [lexL]
    split
    · exact .nil
    · exact lexL_grp ls (k + 1) _ (h.app (lineB_grp _ _))
theorem lexB_grp (s : Bs) : Grp (lexB s).1 := by
  unfold lexB
  split
  · exact .nil
  · exact lexL_grp _ _ _ .nil
/-- How long a text gets that is put together of words. -/
def wt (L : List Tok) : Nat := (L.map fun x => x.t.length + 14).sum
theorem wt_app (L M : List Tok) : wt (L ++ M) = wt L + wt M := by simp [wt]
theorem tailS_len (k : Nat) : (tailS k).length ≤ 11 := by
  unfold tailS
  split
  · decide
  split
  · decide
  split <;> decide
theorem bt_len (l : List Nat) : ∀ (L : List Tok) (i : Nat), (bt l i L).length ≤ wt L
  | [], _ => by simp [bt]
  | x :: L, i => by
    have ih := bt_len l L (i + 1)
    have h1 := (gapS_p (l.getD i 0 % 4)).2.2
    have h2 := tailS_len (l.getD i 0 % 4)
    have h3 : (body (l.getD i 0 % 4) x).length ≤ x.t.length + 11 := by unfold body; split <;> omega
    rw [bt]
    simp only [List.length_append, wt, List.map_cons, List.sum_cons] at ih ⊢
    omega
theorem lexF_wt (ln : Nat) : ∀ (f : Nat) (s : Bs) (a : Nat), wt (lexF ln f s a).1 ≤ 15 * s.length
  | 0, _, _ => by simp [lexF, wt]
  | f + 1, s, a => by
    cases hn : nextS s with
    | none => rw [lexF_none hn]; simp [wt]
    | some y =>
      obtain ⟨k, t, g, r⟩ := y
      by_cases hv : (valB k t).2 = 0
      · have hl := nextS_len hn
        have ht := List.length_pos_iff.2 (next_pos hn hv)
        have ih := lexF_wt ln f r (a + g + t.length)
        rw [lexF_step hn hv]
        simp only [wt, List.map_cons, List.sum_cons] at ih ⊢
        omega
      · rw [lexF_bad hn hv]; simp [wt]
theorem lineB_wt (ln : Nat) (l : Bs) : wt (lineB ln l).1 ≤ 29 * l.length := by
  have h := lexF_wt ln ((cutH l).length + 1) (cutH l) 0
  obtain ⟨n, hn1, hn2⟩ := cutH_take l
  have hcl : (cutH l).length ≤ l.length := by rw [hn2, List.length_take]; omega
  have hz : (cutH l).length = 0 → (lexF ln ((cutH l).length + 1) (cutH l) 0).1 = [] := fun e => by
    rw [List.length_eq_zero_iff.1 e]
    rfl
  unfold lineB lineR
  split
  · simp [wt]
  · split
    · simp [wt]
    · rename_i h1 h2
      have : (cutH l).length ≠ 0 := fun e => h2 (hz e)
      rw [wt_app]
      simp only [wt, endT, List.map_cons, List.map_nil, List.sum_cons, List.sum_nil, List.length_nil] at h ⊢
      omega
theorem lexL_wt : ∀ (ls : List Bs) (k : Nat) (acc : List Tok), wt (lexL ls k acc).1 ≤ wt acc + 29 * (ls.map List.length).sum
  | [], _, _ => by simp [lexL]
  | l :: ls, k, acc => by
    rw [lexL]
    split
    · simp [wt]
    · have ih := lexL_wt ls (k + 1) (acc ++ (lineB (k + 1) l).1)
      have h1 := lineB_wt (k + 1) l
      rw [wt_app] at ih
      rw [List.map_cons, List.sum_cons]
      omega
theorem lines_sum (s : Bs) : ((lines s).map List.length).sum ≤ s.length := by
  induction s with
  | nil => simp [lines]
  | cons c t ih =>
    unfold lines
    split
    · simp; omega
    · split
      · rename_i h r e
        rw [e] at ih
        simp at ih ⊢; omega
      · simp
theorem lexB_wt (s : Bs) : wt (lexB s).1 ≤ 29 * s.length := by
  unfold lexB
  split
  · simp [wt]
  · have h := lexL_wt (lines s) 0 []
    have h2 := lines_sum s
    simp only [wt, List.map_nil, List.sum_nil] at h ⊢
    omega
theorem wt_len (L : List Tok) : L.length ≤ wt L := by
  induction L with
  | nil => simp
  | cons x L ih => simp only [wt, List.map_cons, List.sum_cons, List.length_cons] at ih ⊢; omega
theorem blank_lex (s : Bs) (l : List Nat) (hs : s.length ≤ 200) (L : List Tok) (hL : (lexB s).1 = L) : ∃ M, lexB (bt l 0 L) = (M, noW) ∧ M.map sig = L.map sig := by
  have hg := lexB_grp s
  have hw := lexB_wt s
  rw [hL] at hg hw
  have hb := bt_len l L 0
  obtain ⟨M, h1, h2⟩ := blank_reads l hg 0 0 []
  refine ⟨M, ?_, h2⟩
  unfold lexB
  rw [if_neg (by omega), h1]
  rfl
end Go.Proofs.YthjbenjnhdgalaaDoor
