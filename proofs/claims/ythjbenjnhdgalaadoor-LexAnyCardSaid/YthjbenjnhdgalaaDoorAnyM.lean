/- Where a text's words stand, by lists alone. -/
import Derived.Test.YthjbenjnhdgalaaDoorLexM
namespace Go.Proofs.YthjbenjnhdgalaaDoor
def follows (a b : Tok) : Prop := a.line ≤ b.line ∧ (a.line = b.line → a.col + a.t.length ≤ b.col)
def chainT : Tok → List Tok → Prop
  | _, [] => True
  | a, b :: r => follows a b ∧ chainT b r
def lastT : Tok → List Tok → Tok
  | a, [] => a
  | _, b :: r => lastT b r
theorem chain_app : ∀ (L M : List Tok) (a : Tok), chainT a (L ++ M) ↔ chainT a L ∧ chainT (lastT a L) M
  | [], M, a => by simp [chainT, lastT]
  | b :: L, M, a => by
    rw [List.cons_append, chainT, chainT, lastT, chain_app L M b, and_assoc]
theorem last_app : ∀ (L M : List Tok) (a : Tok), lastT a (L ++ M) = lastT (lastT a L) M
  | [], M, a => rfl
  | b :: L, M, a => by rw [List.cons_append, lastT, lastT, last_app L M b]
theorem last_mem : ∀ (L : List Tok) (a : Tok), lastT a L = a ∨ lastT a L ∈ L
  | [], a => .inl rfl
  | b :: L, a => by
    rw [lastT]
    rcases last_mem L b with h | h
    · right; rw [h]; simp
    · right; exact List.mem_cons_of_mem _ h
/-- A word that stands in a line where it is told. -/
def stands (l : Bs) (x : Tok) : Prop := x.t ≠ [] ∧ x.col - 1 + x.t.length ≤ l.length ∧ (l.drop (x.col - 1)).take x.t.length = x.t
def isErr (e : Nat) : Prop := e = 204 ∨ e = 36 ∨ e = 202
theorem valB_err {k : Nat} {t : Bs} (h : (valB k t).2 ≠ 0) : isErr (valB k t).2 := by
  unfold valB at h ⊢
  unfold isErr
  by_cases h2 : k = 2
  · rw [if_pos h2] at h ⊢
    cases hn : number t with
    | none => simp
    | some u => rw [hn] at h; simp at h
  rw [if_neg h2] at h ⊢
  by_cases h3 : k = 3
  · rw [if_pos h3] at h ⊢
    by_cases h4 : 120 < t.length
    · simp [h4]
    · simp [h4] at h
  rw [if_neg h3] at h ⊢
  by_cases h4 : k = 4
  · rw [if_pos h4] at h ⊢
    by_cases h5 : isSign t = true
    · simp [h5] at h
    · simp [h5]
  · rw [if_neg h4] at h; simp at h
theorem nextS_kind {s : Bs} {k g : Nat} {t r : Bs} (h : nextS s = some (k, t, g, r)) : 1 ≤ k ∧ k ≤ 4 := by
  unfold nextS at h
  split at h
  · cases h
  · simp only [Option.some.injEq, Prod.mk.injEq] at h
    rw [← h.1]
    exact begunB_pos _
theorem lexF_ok (l0 : Bs) (ln : Nat) : ∀ (f : Nat) (s : Bs) (a : Nat), s = l0.drop a → a ≤ l0.length →
    ((lexF ln f s a).2.2 ≠ 0 → 1 ≤ (lexF ln f s a).2.1 ∧ (lexF ln f s a).2.1 ≤ l0.length ∧ isErr (lexF ln f s a).2.2) ∧
    (∀ x ∈ (lexF ln f s a).1, x.line = ln ∧ 1 ≤ x.col ∧ x.k ≠ 0 ∧ stands l0 x) ∧
    (∀ p : Tok, p.line = ln → p.col + p.t.length ≤ a + 1 → chainT p (lexF ln f s a).1)
  | 0, _, _, _, _ => by simp [lexF, chainT]
  | f + 1, s, a, hs, ha => by
    cases hn : nextS s with
    | none => rw [lexF_none hn]; simp [chainT]
    | some y =>
      obtain ⟨k, t, g, r⟩ := y
      have hl := nextS_len hn
      have hk := nextS_kind hn
      have hsl : s.length = l0.length - a := by rw [hs, List.length_drop]
      by_cases hv : (valB k t).2 = 0
      · have ht := next_pos hn hv
        have htl := List.length_pos_iff.2 ht
        rw [lexF_step hn hv]
        have ih := lexF_ok l0 ln f r (a + g + t.length) (by rw [hl.2.1, hs, List.drop_drop, Nat.add_assoc]) (by omega)
        refine ⟨ih.1, fun x hx => ?_, fun p h1 h2 => ?_⟩
        · rcases List.mem_cons.1 hx with rfl | hx
          · refine ⟨rfl, by simp, by show k ≠ 0; omega, ht, by show a + g + 1 - 1 + t.length ≤ l0.length; omega, ?_⟩
            show (l0.drop (a + g + 1 - 1)).take t.length = t
            rw [Nat.add_sub_cancel, ← List.drop_drop, ← hs, hl.2.2.1]
            simp
          · exact ih.2.1 x hx
        · exact ⟨⟨by show p.line ≤ ln; omega, fun _ => by show p.col + p.t.length ≤ a + g + 1; omega⟩, ih.2.2 _ rfl (by show a + g + 1 + t.length ≤ _; omega)⟩
      · rw [lexF_bad hn hv]
        exact ⟨fun _ => ⟨by simp, by show a + g + 1 ≤ l0.length; omega, valB_err hv⟩, fun x hx => by simp at hx, fun p _ _ => trivial⟩
theorem cutH_take (l : Bs) : ∃ n, n ≤ l.length ∧ cutH l = l.take n := by
  induction l with
  | nil => exact ⟨0, by simp, by simp [cutH]⟩
  | cons c l ih =>
    obtain ⟨n, h1, h2⟩ := ih
    unfold cutH
    split
    · exact ⟨0, by simp, by simp⟩
    · exact ⟨n + 1, by simp; omega, by simp [h2]⟩
theorem stands_cut {l : Bs} {x : Tok} (h : stands (cutH l) x) : stands l x := by
  obtain ⟨n, h1, h2⟩ := cutH_take l
  obtain ⟨h3, h4, h5⟩ := h
  rw [h2] at h4 h5
  have hlen : (l.take n).length = n := by rw [List.length_take]; omega
  rw [hlen] at h4
  refine ⟨h3, by omega, ?_⟩
  rw [List.drop_take, List.take_take, show min x.t.length (n - (x.col - 1)) = x.t.length by omega] at h5
  exact h5
theorem lineB_ok (ln : Nat) (l : Bs) :
    ((lineB ln l).2 ≠ noW → (lineB ln l).2.l = ln ∧ 1 ≤ (lineB ln l).2.c ∧ (lineB ln l).2.c ≤ l.length ∧ isErr (lineB ln l).2.e) ∧
    (∀ x ∈ (lineB ln l).1, x.line = ln ∧ 1 ≤ x.col ∧ x.col ≤ l.length + 1 ∧ (x.k ≠ 0 → stands l x)) ∧
    (∀ p : Tok, p.line < ln → chainT p (lineB ln l).1 ∧ ((lineB ln l).1 = [] ∨ (lastT p (lineB ln l).1).k = 0)) := by
  have h := lexF_ok (cutH l) ln ((cutH l).length + 1) (cutH l) 0 (by simp) (by omega)
  obtain ⟨n, hn1, hn2⟩ := cutH_take l
  have hcl : (cutH l).length ≤ l.length := by rw [hn2, List.length_take]; omega
  unfold lineB lineR
  generalize lexF ln ((cutH l).length + 1) (cutH l) 0 = R at h
  by_cases h0 : R.2.2 ≠ 0
  · rw [if_pos h0]
    have h1 := h.1 h0
    exact ⟨fun _ => ⟨rfl, h1.1, by show R.2.1 ≤ l.length; omega, h1.2.2⟩, fun x hx => by simp at hx, fun p _ => ⟨trivial, .inl rfl⟩⟩
  · rw [if_neg h0]
    by_cases h1 : R.1 = []
    · rw [if_pos h1]
      exact ⟨fun e => absurd rfl e, fun x hx => by simp at hx, fun p _ => ⟨trivial, .inl rfl⟩⟩
    · rw [if_neg h1]
      refine ⟨fun e => absurd rfl e, fun x hx => ?_, fun p hp => ?_⟩
      · rcases List.mem_append.1 hx with hx | hx
        · have := h.2.1 x hx
          have h9 := stands_cut this.2.2.2
          exact ⟨this.1, this.2.1, by have := h9.2.1; omega, fun _ => h9⟩
        · simp at hx; subst hx
          exact ⟨rfl, by simp [endT], by show (cutH l).length + 1 ≤ _; omega, fun e => absurd rfl e⟩
      · rw [chain_app, last_app]
        refine ⟨⟨?_, ?_, trivial⟩, .inr rfl⟩
        · cases hR : R.1 with
          | nil => exact absurd hR h1
          | cons b r =>
            have hb := (h.2.1 b (by rw [hR]; simp)).1
            have h3 := h.2.2 ⟨0, [], 0, ln, 0⟩ rfl (by simp)
            rw [hR] at h3
            exact ⟨⟨by omega, fun e => by omega⟩, h3.2⟩
        · rcases last_mem R.1 p with e | e
          · rw [e]; exact ⟨by show p.line ≤ ln; omega, fun e2 => by have : p.line = ln := e2; omega⟩
          · obtain ⟨i1, i2, i3, i4⟩ := h.2.1 _ e
            obtain ⟨_, j2, _⟩ := i4
            exact ⟨by show _ ≤ ln; omega, fun _ => by show _ ≤ (cutH l).length + 1; omega⟩
/-- A word's place in a text's lines. -/
def okA (ls : List Bs) (x : Tok) : Prop := 1 ≤ x.line ∧ x.line ≤ ls.length ∧ 1 ≤ x.col ∧ ∃ l, ls[x.line - 1]? = some l ∧ x.col ≤ l.length + 1 ∧ (x.k ≠ 0 → stands l x)
def zTok : Tok := ⟨0, [], 0, 0, 0⟩
def badA (ls : List Bs) (x : Wr) : Prop := 1 ≤ x.l ∧ x.l ≤ ls.length ∧ 1 ≤ x.c ∧ isErr x.e ∧ ∃ l, ls[x.l - 1]? = some l ∧ x.c ≤ l.length
def goodA (ls : List Bs) (L : List Tok) : Prop := (∀ x ∈ L, okA ls x) ∧ chainT zTok L ∧ (L = [] ∨ (lastT zTok L).k = 0)
theorem lexL_ok (all : List Bs) : ∀ (ls : List Bs) (k : Nat) (acc : List Tok), ls = all.drop k → k ≤ all.length → goodA all acc → (∀ x ∈ acc, x.line ≤ k) →
    ((lexL ls k acc).2 ≠ noW → (lexL ls k acc).1 = [] ∧ badA all (lexL ls k acc).2) ∧ ((lexL ls k acc).2 = noW → goodA all (lexL ls k acc).1)
  | [], k, acc, _, _, hg, _ => ⟨fun e => absurd rfl e, fun _ => hg⟩
  | l :: ls, k, acc, hd, hk, hg, hlt => by
    have h := lineB_ok (k + 1) l
    have hlen := congrArg List.length hd
    rw [List.length_drop, List.length_cons] at hlen
    have hat : all[k]? = some l := by
      have := congrArg (fun x => x[0]?) hd
      simpa using this.symm
    rw [lexL]
    by_cases hw : (lineB (k + 1) l).2 ≠ noW
    · rw [if_pos hw]
      obtain ⟨h1, h2, h3, h4⟩ := h.1 hw
      refine ⟨fun _ => ⟨rfl, by show 1 ≤ (lineB (k + 1) l).2.l; omega, by show (lineB (k + 1) l).2.l ≤ _; omega, h2, h4, l, by show all[(lineB (k + 1) l).2.l - 1]? = some l; rw [h1]; exact hat, h3⟩, fun e => absurd e hw⟩
    · rw [if_neg hw]
      have hlast : (lastT zTok acc).line < k + 1 := by
        rcases last_mem acc zTok with e | e
        · rw [e]; show 0 < k + 1; omega
        · have := hlt _ e; omega
      obtain ⟨c1, c2⟩ := h.2.2 _ hlast
      refine lexL_ok all ls (k + 1) _ ?_ (by omega) ⟨fun x hx => ?_, ?_, ?_⟩ (fun x hx => ?_)
      · have := congrArg (List.drop 1) hd
        rw [List.drop_drop, List.drop_one] at this
        exact this
      · rcases List.mem_append.1 hx with hx | hx
        · exact hg.1 x hx
        · obtain ⟨i1, i2, i3⟩ := h.2.1 x hx
          exact ⟨by omega, by omega, i2, l, by rw [i1]; exact hat, i3⟩
      · rw [chain_app]; exact ⟨hg.2.1, c1⟩
      · rw [last_app]
        rcases c2 with e | e
        · rw [e, List.append_nil]; exact hg.2.2
        · exact .inr e
      · rcases List.mem_append.1 hx with hx | hx
        · have := hlt x hx; omega
        · have := (h.2.1 x hx).1; omega
theorem lexB_ok (s : Bs) (hs : s.length ≤ 65536) : ((lexB s).2 ≠ noW → (lexB s).1 = [] ∧ badA (lines s) (lexB s).2) ∧ ((lexB s).2 = noW → goodA (lines s) (lexB s).1) := by
  unfold lexB
  rw [if_neg (by omega)]
  exact lexL_ok (lines s) (lines s) 0 [] (by simp) (by omega) ⟨fun x hx => by simp at hx, trivial, .inl rfl⟩ (fun x hx => by simp at hx)
end Go.Proofs.YthjbenjnhdgalaaDoor
