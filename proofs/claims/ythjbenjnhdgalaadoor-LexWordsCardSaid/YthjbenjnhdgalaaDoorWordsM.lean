/- Words in any order, blanks and lines between: each one's kind and place, by lists alone. -/
import Derived.Test.YthjbenjnhdgalaaDoorBlankM
namespace Go.Proofs.YthjbenjnhdgalaaDoor
/-- A piece: its text, its kind, what is wrong with it. -/
structure Pc where
  t : Bs
  k : Nat
  e : Nat
deriving DecidableEq
def goodP : List Pc := [⟨[99, 97, 108, 108], 1, 0⟩, ⟨[97, 44, 98, 45, 99, 95, 49], 1, 0⟩, ⟨[55], 2, 0⟩, ⟨[48, 120, 49, 102], 2, 0⟩, ⟨[49, 56, 52, 52, 54, 55, 52, 52, 48, 55, 51, 55, 48, 57, 53, 53, 49, 54, 49, 53], 2, 0⟩, ⟨[47], 3, 0⟩, ⟨[47, 97, 47, 98, 46, 99], 3, 0⟩, ⟨[61, 61], 4, 0⟩, ⟨[33, 61], 4, 0⟩, ⟨[60], 4, 0⟩, ⟨[60, 61], 4, 0⟩, ⟨[62], 4, 0⟩, ⟨[62, 61], 4, 0⟩, ⟨[38], 4, 0⟩]
def badP : List Pc := [⟨[48, 49], 2, 204⟩, ⟨[55, 120], 2, 204⟩, ⟨[49, 56, 52, 52, 54, 55, 52, 52, 48, 55, 51, 55, 48, 57, 53, 53, 49, 54, 49, 54], 2, 204⟩, ⟨[61], 4, 202⟩, ⟨[38, 38], 4, 202⟩, ⟨[36], 4, 202⟩, ⟨[65], 4, 202⟩, ⟨[45], 4, 202⟩, ⟨[0], 4, 202⟩, ⟨[61, 60], 4, 202⟩, ⟨[44], 4, 202⟩]
def sepS (g : Nat) : Bs := if g = 0 then [32] else if g = 1 then [32, 32] else if g = 2 then [9] else [32, 13]
structure WS where
  text : Bs
  line : Nat
  col : Nat
  want : List Tok
  some_ : Bool
def ws0 : WS := ⟨[], 1, 1, [], false⟩
def wtok (p : Pc) (line col : Nat) : Tok := ⟨p.k, p.t, (valB p.k p.t).1, line, col⟩
def stepW (st : WS) (p : Pc) (g : Nat) : WS :=
  if g = 4 then ⟨(st.text ++ p.t) ++ [10], st.line + 1, 1, (st.want ++ [wtok p st.line st.col]) ++ [⟨0, [], 0, st.line, st.col + p.t.length⟩], false⟩
  else ⟨(st.text ++ p.t) ++ sepS g, st.line, st.col + p.t.length + (sepS g).length, st.want ++ [wtok p st.line st.col], true⟩
theorem good_ok : ∀ p ∈ goodP, p.t ≠ [] ∧ (∀ c ∈ p.t, hasB p.k c.toNat = true) ∧ (p.t.head?.map fun c => begunB c.toNat) = some p.k ∧ (valB p.k p.t).2 = 0 ∧ p.t.length ≤ 20 ∧ 1 ≤ p.k ∧ p.k ≤ 4 ∧ p.e = 0 := by decide +kernel
theorem good_word {p : Pc} (h : p ∈ goodP) (line col : Nat) : WordOk (wtok p line col) := by
  obtain ⟨h1, h2, h3, h4, _⟩ := good_ok p h
  refine ⟨h1, fun c hc => ?_, h2, ?_⟩
  · have hc' : p.t.head? = some c := hc
    rw [hc'] at h3
    have h5 : begunB c.toNat = p.k := by simpa using h3
    exact h5
  · show valB p.k p.t = ((valB p.k p.t).1, 0)
    rw [← h4]
theorem sepS_p (g : Nat) : (∀ c ∈ sepS g, isP c.toNat = true) ∧ sepS g ≠ [] ∧ (sepS g).length ≤ 2 := by
  unfold sepS
  split
  · decide
  split
  · decide
  split <;> decide
theorem nextS_sep {g c : Bs} (hg : ∀ b ∈ g, isP b.toNat = true) : nextS (g ++ c) = (nextS c).map fun x => (x.1, x.2.1, x.2.2.1 + g.length, x.2.2.2) := by
  have h1 : dw isP (g ++ c) = dw isP c ∧ (tw isP (g ++ c)).length = (tw isP c).length + g.length := by
    induction g with
    | nil => simp
    | cons b g ih =>
      have hb := hg b (by simp)
      obtain ⟨i1, i2⟩ := ih (fun d hd => hg d (by simp [hd]))
      unfold tw dw at *
      rw [List.cons_append, List.dropWhile_cons, List.takeWhile_cons]
      simp only [hb, if_true, i1, List.length_cons, i2, true_and]
      omega
  unfold nextS
  rw [h1.1, h1.2]
  cases dw isP c <;> rfl
theorem lexF_sep {ln f a : Nat} {g c : Bs} (hg : ∀ b ∈ g, isP b.toNat = true) : lexF ln (f + 1) (g ++ c) a = lexF ln (f + 1) c (a + g.length) := by
  have h := nextS_sep (c := c) hg
  cases hn : nextS c with
  | none => rw [hn] at h; rw [lexF_none h, lexF_none hn]
  | some x =>
    obtain ⟨k, t, g', r⟩ := x
    rw [hn] at h
    have h' : nextS (g ++ c) = some (k, t, g' + g.length, r) := h
    by_cases hv : (valB k t).2 = 0
    · rw [lexF_step h' hv, lexF_step hn hv, show a + (g' + g.length) = a + g.length + g' by omega]
    · rw [lexF_bad h' hv, lexF_bad hn hv, show a + (g' + g.length) = a + g.length + g' by omega]
structure WInv (st : WS) (T1 T2 : Bs) (W1 W2 : List Tok) : Prop where
  text : st.text = T1 ++ T2
  want : st.want = W1 ++ W2
  col : st.col = T2.length + 1
  some_ : st.some_ = !decide (W2 = [])
  plain : ∀ c ∈ T2, c.toNat ≠ 10 ∧ c.toNat ≠ 35
  pos : 1 ≤ st.line
  full : ∀ c : Bs, lexL (lines (T1 ++ c)) 0 [] = lexL (lines c) (st.line - 1) W1
  part : ∀ (c : Bs) (f : Nat), (T2 ++ c).length < f → ∃ f', c.length < f' ∧ lexF st.line f (T2 ++ c) 0 = (W2 ++ (lexF st.line f' c T2.length).1, (lexF st.line f' c T2.length).2)
theorem winv0 : WInv ws0 [] [] [] [] := ⟨rfl, rfl, rfl, by simp [ws0], by simp, Nat.le_refl _, fun c => rfl, fun c f h => ⟨f, by simpa using h, by simp⟩⟩
theorem good_plain {p : Pc} (h : p ∈ goodP) : ∀ c ∈ p.t, c.toNat ≠ 10 ∧ c.toNat ≠ 35 := by
  obtain ⟨_, h2, _, _, _, h6, h7, _⟩ := good_ok p h
  exact fun c hc => has_plain p.k _ h6 h7 (h2 c hc)
/-- A word behind what is lexed. -/
theorem part_word {st : WS} {T1 T2 : Bs} {W1 W2 : List Tok} (h : WInv st T1 T2 W1 W2) {p : Pc} (hp : p ∈ goodP) (r : Bs) (hr : ∀ c, r.head? = some c → isP c.toNat = true) (f : Nat) (hf : (T2 ++ (p.t ++ r)).length < f) :
    ∃ f', r.length < f' ∧ lexF st.line f (T2 ++ (p.t ++ r)) 0 = ((W2 ++ [wtok p st.line st.col]) ++ (lexF st.line f' r (T2.length + p.t.length)).1, (lexF st.line f' r (T2.length + p.t.length)).2) := by
  obtain ⟨f1, h1, h2⟩ := h.part (p.t ++ r) f hf
  have hw := good_word hp st.line st.col
  have hn := nextS_word (g := []) (by simp) hw hr
  have hn' : nextS (p.t ++ r) = some (p.k, p.t, 0, r) := hn
  have hlen := List.length_pos_iff.2 (good_ok p hp).1
  cases f1 with
  | zero => omega
  | succ f1 =>
    rw [h2, lexF_step hn' (good_ok p hp).2.2.2.1]
    refine ⟨f1, by rw [List.length_append] at h1; omega, ?_⟩
    rw [List.append_assoc]
    unfold wtok
    rw [h.col]
    rfl
theorem lines_nl (a c : Bs) (h : ∀ d ∈ a, d.toNat ≠ 10) : lines (a ++ 10 :: c) = a :: lines c := lines_plain a c (fun d hd => u8_ne (n := 10) (by omega) (h d hd))
theorem step_inv {st : WS} {T1 T2 : Bs} {W1 W2 : List Tok} (h : WInv st T1 T2 W1 W2) {p : Pc} (hp : p ∈ goodP) (g : Nat) : ∃ T1' T2' W1' W2', WInv (stepW st p g) T1' T2' W1' W2' := by
  unfold stepW
  by_cases hg : g = 4
  · rw [if_pos hg]
    refine ⟨(T1 ++ (T2 ++ p.t)) ++ [10], [], (W1 ++ (W2 ++ [wtok p st.line st.col])) ++ [⟨0, [], 0, st.line, st.col + p.t.length⟩], [], ⟨?_, ?_, rfl, by simp, by simp, by show 1 ≤ st.line + 1; omega, fun c => ?_, fun c f hf => ⟨f, by simpa using hf, by simp⟩⟩⟩
    · show (st.text ++ p.t) ++ [10] = _
      rw [h.text]; simp
    · show (st.want ++ [wtok p st.line st.col]) ++ [_] = _
      rw [h.want]; simp
    · have e1 : ((T1 ++ (T2 ++ p.t)) ++ [10]) ++ c = T1 ++ ((T2 ++ p.t) ++ 10 :: c) := by simp
      have hpl : ∀ d ∈ T2 ++ p.t, d.toNat ≠ 10 ∧ d.toNat ≠ 35 := fun d hd => by
        rcases List.mem_append.1 hd with hd | hd
        · exact h.plain d hd
        · exact good_plain hp d hd
      rw [e1, h.full, lines_nl _ _ (fun d hd => (hpl d hd).1)]
      have hc : cutH (T2 ++ p.t) = T2 ++ p.t := cutH_none _ (fun d hd => (hpl d hd).2)
      obtain ⟨f', q1, q2⟩ := part_word h hp [] (fun c hc => by simp at hc) ((T2 ++ p.t).length + 1) (by simp)
      have q3 : lexF st.line f' [] (T2.length + p.t.length) = ([], 0, 0) := by
        cases f' with
        | zero => rfl
        | succ f' => exact lexF_none rfl
      rw [q3, List.append_nil, List.append_nil] at q2
      have hln : st.line - 1 + 1 = st.line := by have := h.pos; omega
      have hb : lineB (st.line - 1 + 1) (T2 ++ p.t) = ((W2 ++ [wtok p st.line st.col]) ++ [⟨0, [], 0, st.line, st.col + p.t.length⟩], noW) := by
        rw [hln]
        unfold lineB
        rw [hc, q2]
        unfold lineR
        rw [if_neg (by simp), if_neg (by simp)]
        unfold endT
        rw [List.length_append, h.col, show T2.length + p.t.length + 1 = T2.length + 1 + p.t.length by omega]
      rw [lexL_line hb, hln]
      show lexL (lines c) st.line _ = lexL (lines c) (st.line + 1 - 1) _
      rw [Nat.add_sub_cancel]
      simp only [List.append_assoc]
  · rw [if_neg hg]
    obtain ⟨s1, s2, s3⟩ := sepS_p g
    refine ⟨T1, (T2 ++ p.t) ++ sepS g, W1, W2 ++ [wtok p st.line st.col], ⟨?_, ?_, ?_, by simp, fun c hc => ?_, h.pos, h.full, fun c f hf => ?_⟩⟩
    · show (st.text ++ p.t) ++ sepS g = _
      rw [h.text]; simp
    · show st.want ++ [wtok p st.line st.col] = _
      rw [h.want]; simp
    · show st.col + p.t.length + (sepS g).length = _
      rw [h.col]; simp only [List.length_append]; omega
    · rcases List.mem_append.1 hc with hc | hc
      · rcases List.mem_append.1 hc with hc | hc
        · exact h.plain c hc
        · exact good_plain hp c hc
      · exact isP_plain _ (s1 c hc)
    · have e1 : (T2 ++ p.t) ++ sepS g ++ c = T2 ++ (p.t ++ (sepS g ++ c)) := by simp only [List.append_assoc]
      rw [e1] at hf ⊢
      obtain ⟨f', q1, q2⟩ := part_word h hp (sepS g ++ c) (fun d hd => by
        cases hs : sepS g with
        | nil => exact absurd hs s2
        | cons b r => rw [hs] at hd; simp at hd; subst hd; exact s1 b (by rw [hs]; simp)) f hf
      cases f' with
      | zero => omega
      | succ f' =>
        refine ⟨f' + 1, by rw [List.length_append] at q1; omega, ?_⟩
        rw [q2, lexF_sep s1]
        simp only [List.length_append]
/-- What is asked of the whole text. -/
theorem winv_lex {st : WS} {T1 T2 : Bs} {W1 W2 : List Tok} (h : WInv st T1 T2 W1 W2) (hl : st.text.length ≤ 65536) : lexB st.text = (if st.some_ then st.want ++ [⟨0, [], 0, st.line, st.col⟩] else st.want, noW) := by
  unfold lexB
  rw [if_neg (by omega), h.text, h.full]
  have hln : st.line - 1 + 1 = st.line := by have := h.pos; omega
  have h10 : ∀ c ∈ T2, c ≠ 10 := fun c hc => u8_ne (n := 10) (by omega) (h.plain c hc).1
  rw [lines_end T2 h10]
  have hc : cutH T2 = T2 := cutH_none _ (fun d hd => (h.plain d hd).2)
  obtain ⟨f', q1, q2⟩ := h.part [] (T2.length + 1) (by simp)
  have q3 : lexF st.line f' [] T2.length = ([], 0, 0) := by
    cases f' with
    | zero => rfl
    | succ f' => exact lexF_none rfl
  rw [q3, List.append_nil, List.append_nil] at q2
  rw [h.some_, h.want]
  by_cases hw : W2 = []
  · have hb : lineB (st.line - 1 + 1) T2 = ([], noW) := by
      rw [hln]; unfold lineB; rw [hc, q2]; unfold lineR; rw [if_neg (by simp), if_pos hw]
    rw [lexL_skip hb]
    simp [lexL, hw]
  · have hb : lineB (st.line - 1 + 1) T2 = (W2 ++ [⟨0, [], 0, st.line, st.col⟩], noW) := by
      rw [hln]; unfold lineB; rw [hc, q2]; unfold lineR; rw [if_neg (by simp), if_neg hw, h.col]; rfl
    rw [lexL_line hb]
    simp [lexL, hw]
theorem bad_plain : ∀ x ∈ badP, (∀ c ∈ x.t, c.toNat ≠ 10 ∧ c.toNat ≠ 35) ∧ x.t.length ≤ 20 ∧ x.e ≠ 0 := by decide +kernel
theorem bad_next : ∀ x ∈ badP, ((nextS (x.t ++ [32, 122])).map fun y => (y.2.2.1, (valB y.1 y.2.1).2)) = some (0, x.e) := by decide +kernel
theorem bad_lex {x : Pc} (h : x ∈ badP) (ln f a : Nat) : lexF ln (f + 1) (x.t ++ [32, 122]) a = ([], a + 1, x.e) := by
  have h1 := bad_next x h
  have h2 := (bad_plain x h).2.2
  cases hn : nextS (x.t ++ [32, 122]) with
  | none => rw [hn] at h1; simp at h1
  | some y =>
    obtain ⟨k, t, g, r⟩ := y
    rw [hn] at h1
    simp only [Option.map_some, Option.some.injEq, Prod.mk.injEq] at h1
    obtain ⟨h3, h4⟩ := h1
    rw [lexF_bad hn (by rw [h4]; exact h2), h3, h4]
theorem winv_bad {st : WS} {T1 T2 : Bs} {W1 W2 : List Tok} (h : WInv st T1 T2 W1 W2) {x : Pc} (hx : x ∈ badP) (hl : st.text.length ≤ 60000) : lexB ((st.text ++ x.t) ++ [32, 122, 10]) = ([], ⟨st.line, st.col, x.e⟩) := by
  obtain ⟨p1, p2, p3⟩ := bad_plain x hx
  have hln : st.line - 1 + 1 = st.line := by have := h.pos; omega
  unfold lexB
  have hlen : ((st.text ++ x.t) ++ [32, 122, 10]).length ≤ 65536 := by simp only [List.length_append, List.length_cons, List.length_nil]; omega
  have e1 : (st.text ++ x.t) ++ [32, 122, 10] = T1 ++ ((T2 ++ (x.t ++ [32, 122])) ++ 10 :: []) := by rw [h.text]; simp
  rw [if_neg (by omega), e1, h.full]
  have hpl : ∀ d ∈ T2 ++ (x.t ++ [32, 122]), d.toNat ≠ 10 ∧ d.toNat ≠ 35 := fun d hd => by
    rcases List.mem_append.1 hd with hd | hd
    · exact h.plain d hd
    · rcases List.mem_append.1 hd with hd | hd
      · exact p1 d hd
      · exact (show ∀ c ∈ ([32, 122] : Bs), c.toNat ≠ 10 ∧ c.toNat ≠ 35 by decide) d hd
  rw [lines_nl _ _ (fun d hd => (hpl d hd).1)]
  have hc : cutH (T2 ++ (x.t ++ [32, 122])) = T2 ++ (x.t ++ [32, 122]) := cutH_none _ (fun d hd => (hpl d hd).2)
  obtain ⟨f', q1, q2⟩ := h.part (x.t ++ [32, 122]) ((T2 ++ (x.t ++ [32, 122])).length + 1) (by omega)
  cases f' with
  | zero => omega
  | succ f' =>
    rw [bad_lex hx] at q2
    have hb : lineB (st.line - 1 + 1) (T2 ++ (x.t ++ [32, 122])) = ([], ⟨st.line, st.col, x.e⟩) := by
      rw [hln]; unfold lineB; rw [hc, q2]; unfold lineR; rw [if_pos p3, h.col]
    rw [lexL, hb]
    simp only
    rw [if_pos (by intro e; exact p3 (congrArg Wr.e e))]
/-- The state behind some pieces, each with its gap. -/
def runW : List (Pc × Nat) → WS → WS
  | [], st => st
  | x :: r, st => runW r (stepW st x.1 x.2)
theorem runW_snoc : ∀ (l : List (Pc × Nat)) (x : Pc × Nat) (st : WS), runW (l ++ [x]) st = stepW (runW l st) x.1 x.2
  | [], _, _ => rfl
  | y :: l, x, st => by rw [List.cons_append, runW, runW, runW_snoc l x]
theorem step_len (st : WS) {p : Pc} (hp : p ∈ goodP) (g : Nat) : (stepW st p g).text.length ≤ st.text.length + 22 ∧ (stepW st p g).want.length ≤ st.want.length + 2 ∧ (stepW st p g).line ≤ st.line + 1 ∧ (stepW st p g).col ≤ st.col + 22 := by
  have h1 := (good_ok p hp).2.2.2.2.1
  have h2 := (sepS_p g).2.2
  unfold stepW
  split
  · simp; omega
  · simp; omega
end Go.Proofs.YthjbenjnhdgalaaDoor
