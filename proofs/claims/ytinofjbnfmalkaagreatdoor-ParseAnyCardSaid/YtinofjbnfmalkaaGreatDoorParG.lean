/- What is read without a fault may be a policy; by lists alone. -/
import Derived.Test.YtinofjbnfmalkaaGreatDoorParB
namespace Go.Proofs.YtinofjbnfmalkaaGreatDoor
def TokIn (x : Tok) : Prop := (WordOk x ∨ (x.k = 0 ∧ x.t = [] ∧ x.n = 0)) ∧ x.n < 18446744073709551616 ∧ x.t.length ≤ 65536
theorem zTok_in : TokIn zTok := ⟨.inr ⟨rfl, rfl, rfl⟩, by decide, by decide⟩
def AllIn (s : RS) : Prop := ∀ x ∈ s.left, TokIn x
theorem nx_in {s : RS} (h : AllIn s) : TokIn (nx s) := by
  unfold nx
  cases hl : s.left with
  | nil => exact zTok_in
  | cons x l => exact h x (by rw [hl]; simp)
def OkS (s : RS) : Prop := s.wr ≠ noW → s.left = []
structure Sub (a b : RS) : Prop where
  mem : ∀ x ∈ a.left, x ∈ b.left
  len : a.left.length ≤ b.left.length
  bad : OkS b → OkS a
theorem Sub.refl (a : RS) : Sub a a := ⟨fun _ h => h, Nat.le_refl _, id⟩
theorem Sub.trans {a b c : RS} (h : Sub a b) (k : Sub b c) : Sub a c := ⟨fun x hx => k.mem x (h.mem x hx), Nat.le_trans h.len k.len, fun x => h.bad (k.bad x)⟩
theorem AllIn.sub {a b : RS} (h : AllIn b) (k : Sub a b) : AllIn a := fun x hx => h x (k.mem x hx)
theorem dp_sub (s : RS) : Sub (dp s) s := ⟨fun x hx => List.mem_of_mem_tail hx, by simp [dp], fun h hw => by show s.left.tail = []; rw [h hw]; rfl⟩
theorem fl_sub {a b : RS} (h : Sub a b) (t : Tok) (e : Nat) : Sub (fl a t e) b := by
  unfold fl; split
  · exact ⟨fun x hx => by simp at hx, Nat.zero_le _, fun _ _ => rfl⟩
  · exact h
theorem tk_sub (k : Nat) (s : RS) : Sub (tkS k s) s := by
  unfold tkS; split
  · exact dp_sub s
  · exact fl_sub (dp_sub s) _ _
theorem nm_sub (s : RS) : Sub (nmS s) s := by
  unfold nmS; split
  · exact fl_sub (tk_sub 1 s) _ _
  · exact tk_sub 1 s
theorem wn_sub (t : Bs) (s : RS) : Sub (wnS t s) s := by
  unfold wnS; split
  · exact dp_sub s
  · exact fl_sub (dp_sub s) _ _
theorem er_sub (s : RS) : Sub (erS s) s := by
  unfold erS; split
  · exact fl_sub (tk_sub 2 s) _ _
  · exact tk_sub 2 s
theorem act_sub (s : RS) : Sub (actS s) s := by
  unfold actS
  split
  · exact nm_sub s
  split
  · exact (er_sub _).trans (nm_sub s)
  split
  · exact nm_sub s
  split
  · exact nm_sub s
  · exact fl_sub (nm_sub s) _ _
theorem call_sub (s : RS) : Sub (callS s) s := by
  unfold callS; split
  · exact nm_sub s
  · exact fl_sub (nm_sub s) _ _
theorem ag_sub (s : RS) : Sub (agS s) s := by
  unfold agS; split
  · exact nm_sub s
  · exact fl_sub (nm_sub s) _ _
theorem mk_sub (o : Nat) (s : RS) : Sub (mkS o s) s := by
  unfold mkS; split
  · exact (wn_sub _ _).trans (tk_sub 2 s)
  · exact Sub.refl s
theorem cnd_sub (s : RS) : Sub (cndS s) s := by
  have h : Sub (mkS (opV (agS s)) (tkS 4 (agS s))) s := (mk_sub _ _).trans ((tk_sub 4 _).trans (ag_sub s))
  unfold cndS vlS; split
  · exact (tk_sub 2 _).trans h
  · exact fl_sub ((tk_sub 2 _).trans h) _ _
theorem round_sub (l : List CondM) (s : RS) : Sub (roundS l s) s := by
  unfold roundS; split
  · exact fl_sub ((cnd_sub _).trans (wn_sub _ s)) _ _
  · exact (cnd_sub _).trans (wn_sub _ s)
theorem cnds_sub : ∀ (f : Nat) (l : List CondM) (s : RS), Sub (cndsF f l s).2 s
  | 0, _, s => Sub.refl s
  | f + 1, l, s => by
    unfold cndsF; split
    · exact Sub.refl s
    · exact (cnds_sub f _ _).trans (round_sub l s)
theorem rul_sub (s : RS) : Sub (rulS s) s := (cnds_sub _ _ _).trans ((act_sub _).trans (call_sub s))
theorem rt1_sub (s : RS) : Sub (rt1 s) s := by
  unfold rt1; split
  · exact tk_sub 1 s
  · exact fl_sub (tk_sub 1 s) _ _
theorem rt_sub (may : Nat) (s : RS) : Sub (rtS may s) s := by
  unfold rtS; split
  · exact rt1_sub s
  · exact fl_sub (rt1_sub s) _ _
theorem hd_sub (h : Nat) (t : Tok) (s : RS) : Sub (hdS h t s) s := by
  unfold hdS; split
  · exact Sub.refl s
  · exact fl_sub (Sub.refl s) _ _
theorem pt1_sub (s : RS) : Sub (pt1 s) s := by
  unfold pt1; split
  · exact tk_sub 3 s
  · exact fl_sub (tk_sub 3 s) _ _
theorem pt_sub (h : Nat) (l : List (Bs × Nat)) (s : RS) : Sub (ptS h l s) s := by
  unfold ptS; split
  · exact fl_sub ((rt_sub _ _).trans (pt1_sub s)) _ _
  · exact (rt_sub _ _).trans (pt1_sub s)
theorem qt1_sub (s : RS) : Sub (qt1 s) s := by
  unfold qt1; split
  · exact fl_sub (tk_sub 2 s) _ _
  · exact tk_sub 2 s
theorem qt_sub (h : Nat) (l : List (Nat × Nat)) (s : RS) : Sub (qtS h l s) s := by
  unfold qtS; split
  · exact fl_sub ((rt_sub _ _).trans (qt1_sub s)) _ _
  · exact (rt_sub _ _).trans (qt1_sub s)
theorem body_sub (p : PolM) (t : Tok) (s : RS) : Sub (bodyS p t s) s := by
  unfold bodyS
  split
  · exact rul_sub s
  split
  · exact (rt_sub _ _).trans (hd_sub _ _ s)
  split
  · exact pt_sub _ _ s
  split
  · exact qt_sub _ _ s
  · exact fl_sub (Sub.refl s) _ _
theorem hd2_sub (s : RS) : Sub (hd2 s) s := by
  have h : Sub (owS (wnS policyW s)) s := by
    unfold owS; split
    · exact (nm_sub _).trans (wn_sub _ s)
    · exact fl_sub ((nm_sub _).trans (wn_sub _ s)) _ _
  exact (tk_sub 0 _).trans h
structure In (s : RS) : Prop where
  all : AllIn s
  len : s.left.length ≤ 2000000
  bad : OkS s
theorem In.sub {a b : RS} (h : In b) (k : Sub a b) : In a := ⟨h.all.sub k, Nat.le_trans k.len h.len, k.bad h.bad⟩
theorem fl_left {s : RS} (h : OkS s) (t : Tok) (e : Nat) : (fl s t e).left = [] := by
  unfold fl; split
  · rfl
  · rename_i hw; exact h hw
theorem In.nx {s : RS} (h : In s) : TokIn (Go.Proofs.YtinofjbnfmalkaaGreatDoor.nx s) := nx_in h.all
theorem fl_len (s : RS) (t : Tok) (e : Nat) : (fl s t e).left.length ≤ s.left.length := by
  unfold fl; split
  · exact Nat.zero_le _
  · exact Nat.le_refl _
theorem dp_lt {s : RS} (h : s.left ≠ []) : (dp s).left.length < s.left.length := by
  have := List.length_pos_iff.2 h
  unfold dp; simp; omega
theorem wn_lt {t : Bs} {s : RS} (h : s.left ≠ []) : (wnS t s).left.length < s.left.length := by
  have h1 := dp_lt h
  unfold wnS; split
  · exact h1
  · exact Nat.lt_of_le_of_lt (fl_len _ _ _) h1
theorem tk_lt {k : Nat} {s : RS} (h : s.left ≠ []) : (tkS k s).left.length < s.left.length := by
  have h1 := dp_lt h
  unfold tkS; split
  · exact h1
  · exact Nat.lt_of_le_of_lt (fl_len _ _ _) h1
theorem nm_lt {s : RS} (h : s.left ≠ []) : (nmS s).left.length < s.left.length := by
  have h1 := tk_lt (k := 1) h
  unfold nmS; split
  · exact Nat.lt_of_le_of_lt (fl_len _ _ _) h1
  · exact h1
theorem round_lt (l : List CondM) {s : RS} (h : s.left ≠ []) : (roundS l s).left.length < s.left.length := by
  have h1 : (cndS (wnS (if l = [] then ifW else andW) s)).left.length < s.left.length := Nat.lt_of_le_of_lt (cnd_sub _).len (wn_lt h)
  unfold roundS; split
  · exact Nat.lt_of_le_of_lt (fl_len _ _ _) h1
  · exact h1
theorem line_lt (p : PolM) {s : RS} (h : s.left ≠ []) : (lineS p s).left.length < s.left.length := by
  have h1 : (tkS 0 (bodyS p (nx s) (nmS s))).left.length < s.left.length := Nat.lt_of_le_of_lt ((tk_sub 0 _).trans (body_sub _ _ _)).len (nm_lt h)
  unfold lineS; split
  · exact Nat.lt_of_le_of_lt (fl_len _ _ _) h1
  · exact h1
theorem ended_left {s : RS} (h : (Go.Proofs.YtinofjbnfmalkaaGreatDoor.nx s).k ≠ 0) : s.left ≠ [] := by
  intro e
  apply h
  unfold Go.Proofs.YtinofjbnfmalkaaGreatDoor.nx
  rw [e]; rfl
theorem fl_no (s : RS) (t : Tok) (e : Nat) (he : e ≠ 0) : (fl s t e).wr ≠ noW := by
  unfold fl; split
  · intro h; exact he (congrArg Wr.e h)
  · assumption
theorem tk_inv {k : Nat} {s : RS} (h : (tkS k s).wr = noW) : s.wr = noW ∧ (nx s).k = k ∧ tkS k s = dp s := by
  unfold tkS at h ⊢
  by_cases hk : (nx s).k = k
  · rw [if_pos hk] at h ⊢; exact ⟨h, hk, rfl⟩
  · rw [if_neg hk] at h; exact absurd h (fl_no _ _ _ (by decide))
theorem nm_inv {s : RS} (h : (nmS s).wr = noW) : s.wr = noW ∧ (nx s).k = 1 ∧ (44 : UInt8) ∉ (nx s).t := by
  unfold nmS at h
  by_cases hk : (44 : UInt8) ∈ (nx s).t
  · rw [if_pos hk] at h; exact absurd h (fl_no _ _ _ (by decide))
  · rw [if_neg hk] at h; obtain ⟨h1, h2, _⟩ := tk_inv h; exact ⟨h1, h2, hk⟩
theorem wn_inv {t : Bs} {s : RS} (h : (wnS t s).wr = noW) : s.wr = noW ∧ (nx s).t = t := by
  unfold wnS at h
  by_cases hk : (nx s).t = t
  · rw [if_pos hk] at h; exact ⟨h, hk⟩
  · rw [if_neg hk] at h; exact absurd h (fl_no _ _ _ (by decide))
theorem er_inv {s : RS} (h : (erS s).wr = noW) : s.wr = noW ∧ 1 ≤ (nx s).n ∧ (nx s).n ≤ 4095 := by
  unfold erS at h
  by_cases hk : (nx s).n < 1 ∨ 4095 < (nx s).n
  · rw [if_pos hk] at h; exact absurd h (fl_no _ _ _ (by decide))
  · rw [if_neg hk] at h; exact ⟨(tk_inv h).1, by omega, by omega⟩
theorem act_inv {s : RS} (h : (actS s).wr = noW) : s.wr = noW ∧ actB (actV s) = true := by
  unfold actS at h
  unfold actV
  by_cases h1 : (nx s).t = killW
  · rw [if_pos h1] at h ⊢; exact ⟨(nm_inv h).1, by decide⟩
  rw [if_neg h1] at h ⊢
  by_cases h2 : (nx s).t = errnoW
  · rw [if_pos h2] at h ⊢
    obtain ⟨e1, e2, e3⟩ := er_inv h
    refine ⟨(nm_inv e1).1, ?_⟩
    rw [errV_of e3]
    unfold actB
    rw [decide_eq_true]
    omega
  rw [if_neg h2] at h ⊢
  by_cases h3 : (nx s).t = logW
  · rw [if_pos h3] at h ⊢; exact ⟨(nm_inv h).1, by decide⟩
  rw [if_neg h3] at h ⊢
  by_cases h4 : (nx s).t = allowW
  · rw [if_pos h4] at h ⊢; exact ⟨(nm_inv h).1, by decide⟩
  rw [if_neg h4] at h
  exact absurd h (fl_no _ _ _ (by decide))
theorem errV_lt (n : Nat) : errV n < 4294967296 := by
  have := Rec.clamp_le (IntKind.i64.wrap n)
  unfold errV; omega
theorem actV_lt (s : RS) : actV s < 4294967296 := by
  unfold actV
  have := errV_lt (nx (nmS s)).n
  (repeat' split) <;> omega
theorem call_inv {s : RS} (h : (callS s).wr = noW) : s.wr = noW ∧ (byNum (callV s : Nat)).isSome = true := by
  unfold callS at h
  by_cases hk : (byName (nx s).t).isSome = true
  · rw [if_pos hk] at h
    refine ⟨(nm_inv h).1, ?_⟩
    obtain ⟨r, hr⟩ := Option.isSome_iff_exists.1 hk
    unfold callV
    rw [hr]
    show (byNum (r.1 : Nat)).isSome = true
    rw [(call_tab r (List.mem_of_find?_eq_some hr)).1]; rfl
  · rw [if_neg hk] at h; exact absurd h (fl_no _ _ _ (by decide))
theorem byName_lt (t : Bs) : ((byName t).getD zeroRow).1 ≤ 446 := by
  cases h : byName t with
  | none => decide
  | some r => exact (show ∀ r ∈ rows, r.1 ≤ 446 by decide) r (List.mem_of_find?_eq_some h)
theorem opB_le (t : Bs) : opB t ≤ 7 := by
  unfold opB
  cases h : ([1, 2, 3, 4, 5, 6, 7].find? fun o => decide (sgT.getD o [] = t)) with
  | none => decide
  | some o =>
    have := List.mem_of_find?_eq_some h
    simp at this
    show o ≤ 7
    omega
theorem argB_le (t : Bs) : (argB t).getD 0 ≤ 5 := by
  unfold argB
  cases h : ([0, 1, 2, 3, 4, 5].find? fun i => decide (t = argT i)) with
  | none => decide
  | some o =>
    have := List.mem_of_find?_eq_some h
    simp at this
    show o ≤ 5
    omega
theorem cnd_good {s : RS} (hs : AllIn s) : (cndV s).ok := by
  have h1 := argB_le (nx s).t
  have h2 := opB_le (nx (agS s)).t
  have h3 := hs.sub ((tk_sub 4 _).trans (ag_sub s))
  have h4 := h3.sub (mk_sub (opV (agS s)) _)
  refine ⟨?_, ?_, ?_, ?_, ?_⟩
  · show -9223372036854775808 ≤ ((agV s : Nat) : Int); omega
  · show ((agV s : Nat) : Int) ≤ 9223372036854775807; unfold agV; omega
  · show opV (agS s) < 256; unfold opV; omega
  · show mkV _ _ < _
    unfold mkV; split
    · exact (nx_in h3).2.1
    · decide
  · exact (nx_in h4).2.1
theorem cnd_inv {s : RS} (h : (cndS s).wr = noW) : s.wr = noW ∧ condE (cndV s) = 0 := by
  unfold cndS vlS at h
  by_cases hk : condE (cndV s) = 0
  · rw [if_pos hk] at h
    refine ⟨?_, hk⟩
    have h1 := (tk_inv h).1
    have h2 : (tkS 4 (agS s)).wr = noW := by
      unfold mkS at h1
      split at h1
      · exact (tk_inv (wn_inv h1).1).1
      · exact h1
    have h3 := (tk_inv h2).1
    unfold agS at h3
    split at h3
    · exact (nm_inv h3).1
    · exact absurd h3 (fl_no _ _ _ (by decide))
  · rw [if_neg hk] at h; exact absurd h (fl_no _ _ _ hk)
theorem round_inv {l : List CondM} {s : RS} (h : (roundS l s).wr = noW) : s.wr = noW ∧ condE (roundV l s) = 0 ∧ l.length < 6 := by
  unfold roundS at h
  by_cases hk : 6 < l.length + 1
  · rw [if_pos hk] at h; exact absurd h (fl_no _ _ _ (by decide))
  · rw [if_neg hk] at h
    obtain ⟨h1, h2⟩ := cnd_inv h
    exact ⟨(wn_inv h1).1, h2, by omega⟩
theorem cnds_inv : ∀ (f : Nat) (l : List CondM) (s : RS), (cndsF f l s).2.wr = noW → s.wr = noW ∧ (l.length ≤ 6 → (∀ c ∈ l, condE c = 0) → (cndsF f l s).1.length ≤ 6 ∧ ∀ c ∈ (cndsF f l s).1, condE c = 0)
  | 0, _, _, h => ⟨h, fun a b => ⟨a, b⟩⟩
  | f + 1, l, s, h => by
    unfold cndsF at h ⊢
    by_cases hk : (nx s).k = 0
    · rw [if_pos hk] at h ⊢; exact ⟨h, fun a b => ⟨a, b⟩⟩
    · rw [if_neg hk] at h ⊢
      obtain ⟨h1, h2⟩ := cnds_inv f _ _ h
      obtain ⟨r1, r2, r3⟩ := round_inv h1
      refine ⟨r1, fun _ hb => h2 (by simp; omega) (fun c hc => ?_)⟩
      rcases List.mem_append.1 hc with hc | hc
      · exact hb c hc
      · simp at hc; subst hc; exact r2
theorem cnds_good : ∀ (f : Nat) (l : List CondM) (s : RS), AllIn s → (∀ c ∈ l, c.ok) → ∀ c ∈ (cndsF f l s).1, c.ok
  | 0, _, _, _, hl => hl
  | f + 1, l, s, hs, hl => by
    unfold cndsF
    split
    · exact hl
    · refine cnds_good f _ _ (hs.sub (round_sub l s)) (fun c hc => ?_)
      rcases List.mem_append.1 hc with hc | hc
      · exact hl c hc
      · simp at hc; subst hc; exact cnd_good (hs.sub (wn_sub _ s))
theorem rul_inv {s : RS} (h : (rulS s).wr = noW) : s.wr = noW ∧ ruleE (rulV s) = 0 := by
  obtain ⟨h1, h2⟩ := cnds_inv _ _ _ h
  obtain ⟨h3, h4⟩ := act_inv h1
  obtain ⟨h5, h6⟩ := call_inv h3
  obtain ⟨h7, h8⟩ := h2 (by simp) (by simp)
  refine ⟨h5, ?_⟩
  unfold ruleE
  rw [if_neg (by show ¬ (byNum (callV s : Nat)).isSome = false; rw [h6]; simp), if_neg (by show ¬ actB (actV (callS s)) = false; rw [h4]; simp), if_neg (by show ¬ 6 < (cnds _).1.length; unfold cnds; omega)]
  exact firstE_zero _ _ _ (fun i x hx => h8 x (List.mem_of_getElem? hx))
theorem pars_ne : ∀ (ws : List Bs) (a : Nat), (Rt.pars a ws).2 = 0 → (ws ≠ [] ∨ a ≠ 0) → (Rt.pars a ws).1 ≠ 0
  | [], a, _, h => by rcases h with h | h; exact absurd rfl h; exact h
  | x :: r, a, h, _ => by
    unfold Rt.pars at h ⊢
    cases hx : Rt.idx x with
    | none => rw [hx] at h; cases h
    | some i =>
      rw [hx] at h
      simp only at h ⊢
      split at h
      · cases h
      · rename_i ht
        rw [if_neg ht]
        refine pars_ne r _ h (.inr (fun e => ?_))
        have := congrArg (fun n => n.testBit i) e
        simp [Nat.testBit_or] at this
theorem pars_mask : ∀ (ws : List Bs) (a : Nat), a &&& 51199 = a → (Rt.pars a ws).1 &&& 51199 = (Rt.pars a ws).1
  | [], a, h => h
  | x :: r, a, h => by
    unfold Rt.pars
    cases hx : Rt.idx x with
    | none => exact Nat.zero_and 51199
    | some i =>
      simp only
      split
      · exact Nat.zero_and 51199
      · refine pars_mask r _ ?_
        rw [Nat.and_or_distrib_right, h]
        congr 1
        exact (show ∀ i ∈ Rt.nbits, 2 ^ i &&& 51199 = 2 ^ i by decide) i (Rt.idx_some hx).1
theorem rt_inv {may : Nat} {s : RS} (h : (rtS may s).wr = noW) : s.wr = noW ∧ rtV s ≠ 0 ∧ hasS may (rtV s) = true := by
  unfold rtS at h
  by_cases hk : hasS may (rtV s) = true
  · rw [if_pos hk] at h
    unfold rt1 at h
    by_cases he : rtE s = 0
    · rw [if_pos he] at h
      exact ⟨(tk_inv h).1, pars_ne _ _ he (.inl (Rt.words_ne _)), hk⟩
    · rw [if_neg he] at h; exact absurd h (fl_no _ _ _ he)
  · rw [if_neg hk] at h; exact absurd h (fl_no _ _ _ (by decide))
theorem rtV_lt (s : RS) : rtV s < 65536 := Rt.pars_lt _ _ (by decide)
theorem rtV_mask (s : RS) : rtV s &&& 51199 = rtV s := pars_mask _ _ (by decide)
theorem grant_of {h k r : Nat} (h0 : r ≠ 0) (hs : hasS (h &&& k) r = true) : grantB h r k = true := by
  unfold hasS at hs
  have hs := of_decide_eq_true hs
  unfold grantB hasS
  rw [decide_eq_true h0, Bool.true_and, Bool.and_eq_true, decide_eq_true_eq, decide_eq_true_eq]
  have e1 : h &&& r = h &&& (h &&& k &&& r) := by rw [hs]
  have e2 : k &&& r = k &&& (h &&& k &&& r) := by rw [hs]
  constructor
  · rw [e1, ← Nat.and_assoc, ← Nat.and_assoc, Nat.and_self, hs]
  · rw [e2, ← Nat.and_assoc, ← Nat.and_assoc, Nat.and_comm k h, Nat.and_assoc h k k, Nat.and_self, hs]
theorem many_inv {p : PolM} (h : many p = false) : Lim p := by
  unfold many at h
  simp only [Bool.or_eq_false_iff, decide_eq_false_iff_not] at h
  exact ⟨by omega, by omega, by omega⟩
theorem line_inv {p : PolM} {s : RS} (h : (lineS p s).wr = noW) : s.wr = noW ∧ Lim (lineV p s) ∧ ∃ i : Itm, lineV p s = i.add p ∧ (Lim p → i.ok p) := by
  unfold lineS at h
  by_cases hm : many (lineV p s) = true
  · rw [if_pos hm] at h; exact absurd h (fl_no _ _ _ (by decide))
  rw [if_neg hm] at h
  have hl := many_inv (eq_false_of_ne_true hm)
  have h1 := (tk_inv h).1
  have goal : (nmS s).wr = noW ∧ ∃ i : Itm, lineV p s = i.add p ∧ (Lim p → i.ok p) := by
    unfold lineV at hl ⊢
    unfold bodyS at h1
    unfold bodyP at hl ⊢
    by_cases c1 : (nx s).t = callW
    · rw [if_pos c1] at h1 hl ⊢
      obtain ⟨r1, r2⟩ := rul_inv h1
      exact ⟨r1, .rule _, rfl, fun _ => ⟨r2, by have := hl.r; simp at this; omega⟩⟩
    rw [if_neg c1] at h1 hl ⊢
    by_cases c2 : (nx s).t = handleW
    · rw [if_pos c2] at h1 hl ⊢
      obtain ⟨r1, r2, r3⟩ := rt_inv h1
      unfold hdS at r1
      by_cases hh : p.handled = 0
      · rw [if_pos hh] at r1
        refine ⟨r1, .hand _, rfl, fun _ => ⟨hh, r2, rtV_mask _⟩⟩
      · rw [if_neg hh] at r1; exact absurd r1 (fl_no _ _ _ (by decide))
    rw [if_neg c2] at h1 hl ⊢
    by_cases c3 : (nx s).t = beneathW
    · rw [if_pos c3] at h1 hl ⊢
      unfold ptS at h1
      by_cases ha : (p.paths.any fun y => decide (y.1 = (nx (nmS s)).t)) = true
      · rw [if_pos ha] at h1; exact absurd h1 (fl_no _ _ _ (by decide))
      rw [if_neg ha] at h1
      obtain ⟨r1, r2, r3⟩ := rt_inv h1
      unfold pt1 at r1
      by_cases hp : pathB (nx (nmS s)).t = true
      · rw [if_pos hp] at r1
        exact ⟨(tk_inv r1).1, .path _, rfl, fun _ => ⟨hp, grant_of r2 r3, eq_false_of_ne_true ha, by have := hl.p; simp at this; omega⟩⟩
      · rw [if_neg hp] at r1; exact absurd r1 (fl_no _ _ _ (by decide))
    rw [if_neg c3] at h1 hl ⊢
    by_cases c4 : (nx s).t = portW
    · rw [if_pos c4] at h1 hl ⊢
      unfold qtS at h1
      by_cases ha : (p.ports.any fun y => decide (y.1 = (nx (nmS s)).n % 65536)) = true
      · rw [if_pos ha] at h1; exact absurd h1 (fl_no _ _ _ (by decide))
      rw [if_neg ha] at h1
      obtain ⟨r1, r2, r3⟩ := rt_inv h1
      unfold qt1 at r1
      by_cases hp : 65535 < (nx (nmS s)).n
      · rw [if_pos hp] at r1; exact absurd r1 (fl_no _ _ _ (by decide))
      · rw [if_neg hp] at r1
        exact ⟨(tk_inv r1).1, .port _, rfl, fun _ => ⟨Nat.mod_lt _ (by decide), grant_of r2 r3, eq_false_of_ne_true ha, by have := hl.q; simp at this; omega⟩⟩
    rw [if_neg c4] at h1
    exact absurd h1 (fl_no _ _ _ (by decide))
  exact ⟨(nm_inv goal.1).1, hl, goal.2⟩
theorem any_last {α : Type} [DecidableEq α] {l : List (α × Nat)} {x : α × Nat} {F : α × Nat → Prop} (h1 : (l.any fun y => decide (y.1 = x.1)) = false) (hF : F x)
    (h : ∀ i z, l[i]? = some z → F z ∧ ((l.take i).any fun y => decide (y.1 = z.1)) = false) : ∀ i z, (l ++ [x])[i]? = some z → F z ∧ (((l ++ [x]).take i).any fun y => decide (y.1 = z.1)) = false := by
  intro i z hz
  by_cases hi : i < l.length
  · rw [List.getElem?_append_left hi] at hz
    obtain ⟨q1, q2⟩ := h i z hz
    refine ⟨q1, ?_⟩
    rw [List.take_append_of_le_length (by omega)]
    exact q2
  · rw [List.getElem?_append_right (by omega)] at hz
    obtain ⟨h2, h3⟩ := List.getElem?_eq_some_iff.1 hz
    have e : i = l.length := by simp at h2; omega
    subst e
    simp at h3
    subst h3
    refine ⟨hF, ?_⟩
    rw [List.take_append_of_le_length (by omega), List.take_length]
    exact h1
theorem add_gd {p : PolM} (h : Gd p) {i : Itm} (hi : i.ok p) (hl : Lim (i.add p)) : Gd (i.add p) := by
  cases i with
  | rule r =>
    refine ⟨h.name, h.dflt, hl, h.hd, fun x hx => ?_, h.paths, h.ports⟩
    rcases List.mem_append.1 (show x ∈ p.rules ++ [r] from hx) with hx | hx
    · exact h.rules x hx
    · simp at hx; subst hx; exact hi.1
  | hand n =>
    obtain ⟨h1, h2, h3⟩ := hi
    refine ⟨h.name, h.dflt, hl, h3, h.rules, fun i x hx => ?_, fun i x hx => ?_⟩
    · have := (h.paths i x hx).2.1
      obtain ⟨g1, g2, g3⟩ := grant_parts this
      rw [h1] at g2
      unfold hasS at g2
      have := of_decide_eq_true g2
      rw [Nat.zero_and] at this
      exact absurd this.symm g1
    · have := (h.ports i x hx).1
      obtain ⟨g1, g2, g3⟩ := grant_parts this
      rw [h1] at g2
      unfold hasS at g2
      have := of_decide_eq_true g2
      rw [Nat.zero_and] at this
      exact absurd this.symm g1
  | path x =>
    obtain ⟨h1, h2, h3, h4⟩ := hi
    refine ⟨h.name, h.dflt, hl, h.hd, h.rules, fun i z hz => ?_, h.ports⟩
    have := any_last (F := fun z => pathB z.1 = true ∧ grantB p.handled z.2 2047 = true) h3 ⟨h1, h2⟩ (fun i z hz => by obtain ⟨a, b, c⟩ := h.paths i z hz; exact ⟨⟨a, b⟩, c⟩) i z hz
    exact ⟨this.1.1, this.1.2, this.2⟩
  | port x =>
    obtain ⟨h1, h2, h3, h4⟩ := hi
    refine ⟨h.name, h.dflt, hl, h.hd, h.rules, h.paths, fun i z hz => ?_⟩
    exact any_last (F := fun z => grantB p.handled z.2 49152 = true) h3 h2 h.ports i z hz
theorem lines_inv : ∀ (f : Nat) (p : PolM) (s : RS), (linesF f p s).2.wr = noW → s.wr = noW ∧ (Gd p → Gd (linesF f p s).1)
  | 0, _, _, h => ⟨h, id⟩
  | f + 1, p, s, h => by
    unfold linesF at h ⊢
    by_cases hk : s.left = []
    · rw [if_pos hk] at h ⊢; exact ⟨h, id⟩
    · rw [if_neg hk] at h ⊢
      obtain ⟨h1, h2⟩ := lines_inv f _ _ h
      obtain ⟨r1, r2, i, r3, r4⟩ := line_inv h1
      refine ⟨r1, fun hg => h2 ?_⟩
      rw [r3] at r2 ⊢
      exact add_gd hg (r4 hg.lim) r2
theorem head_inv {s : RS} (h : (hdE s).wr = noW) : s.wr = noW ∧ Gd (hdV s) := by
  have h1 := (tk_inv h).1
  obtain ⟨h2, h3⟩ := act_inv h1
  have h4 := (tk_inv (wn_inv h2).1).1
  unfold owS at h4
  by_cases hw : wordB (nx (wnS policyW s)).t = true
  · rw [if_pos hw] at h4
    refine ⟨(wn_inv (nm_inv h4).1).1, ⟨hw, h3, ⟨Nat.zero_le _, Nat.zero_le _, Nat.zero_le _⟩, Nat.zero_and 51199, fun r hr => by simp [hdV] at hr, fun i x hx => by simp [hdV] at hx, fun i x hx => by simp [hdV] at hx⟩⟩
  · rw [if_neg hw] at h4; exact absurd h4 (fl_no _ _ _ (by decide))
theorem read_gd {L : List Tok} (h : (readP L).2.wr = noW) : Gd (readP L).1 := by
  obtain ⟨h1, h2⟩ := lines_inv _ _ _ h
  exact h2 (head_inv h1).2
structure Sz (p : PolM) : Prop where
  name : p.name.length ≤ 65536
  dflt : p.dflt < 4294967296
  each : ∀ r ∈ p.rules, r.num ≤ 446 ∧ r.act < 4294967296 ∧ ∀ c ∈ r.conds, c.ok
  hd : p.handled < 65536
  path : ∀ x ∈ p.paths, x.1.length ≤ 65536 ∧ x.2 < 65536
  port : ∀ x ∈ p.ports, x.1 < 65536 ∧ x.2 < 65536
theorem hdE_sub (s : RS) : Sub (hdE s) s := (tk_sub 0 _).trans ((act_sub _).trans ((wn_sub _ _).trans (hd2_sub s)))
theorem sz_ok {p : PolM} (h : Sz p) (g : Gd p) : p.ok := by
  have hl := g.lim
  have h1 := hl.r
  have h2 := hl.p
  have h3 := hl.q
  have hn := h.name
  refine ⟨by unfold maxLen; omega, h.dflt, by unfold maxLen; omega, fun r hr => ?_, h.hd, by unfold maxLen; omega, fun x hx => ?_, by unfold maxLen; omega, h.port⟩
  · obtain ⟨a, b, c⟩ := h.each r hr
    have := (ruleE_zero (g.rules r hr)).2.2.1
    exact ⟨by omega, b, by unfold maxLen; omega, c⟩
  · have := h.path x hx
    exact ⟨by unfold maxLen; omega, this.2⟩
end Go.Proofs.YtinofjbnfmalkaaGreatDoor
