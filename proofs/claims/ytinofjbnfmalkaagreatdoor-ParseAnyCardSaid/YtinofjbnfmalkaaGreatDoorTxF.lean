/- Where a text isn't right the told error is none of the good ones; of a text that is right what is told is good. Lists alone. -/
import Derived.Test.YtinofjbnfmalkaaGreatDoorTxE
namespace Go.Proofs.YtinofjbnfmalkaaGreatDoor.Tx
open Go.RowKit Pa
def B0 (s : RS) : Prop := s.wr = noW ∨ s.wr.e ≠ 0
theorem fl_b {s : RS} {t : Tok} {e : Nat} (h : B0 s) (he : e ≠ 0) : B0 (fl s t e) := by
  unfold fl; split
  · exact .inr he
  · exact h
theorem dp_b {s : RS} (h : B0 s) : B0 (dp s) := h
theorem tk_b {s : RS} {k : Nat} (h : B0 s) : B0 (tkS k s) := by
  unfold tkS; split
  · exact dp_b h
  · exact fl_b (dp_b h) (by decide)
theorem nm_b {s : RS} (h : B0 s) : B0 (nmS s) := by
  unfold nmS; split
  · exact fl_b (tk_b h) (by decide)
  · exact tk_b h
theorem wn_b {s : RS} {x : Bs} (h : B0 s) : B0 (wnS x s) := by
  unfold wnS; split
  · exact dp_b h
  · exact fl_b (dp_b h) (by decide)
theorem ow_b {s : RS} (h : B0 s) : B0 (owS s) := by
  unfold owS; split
  · exact nm_b h
  · exact fl_b (nm_b h) (by decide)
theorem er_b {s : RS} (h : B0 s) : B0 (erS s) := by
  unfold erS; split
  · exact fl_b (tk_b h) (by decide)
  · exact tk_b h
theorem act_b {s : RS} (h : B0 s) : B0 (actS s) := by
  unfold actS; split
  · exact nm_b h
  · split
    · exact er_b (nm_b h)
    · split
      · exact nm_b h
      · split
        · exact nm_b h
        · exact fl_b (nm_b h) (by decide)
theorem call_b {s : RS} (h : B0 s) : B0 (callS s) := by
  unfold callS; split
  · exact nm_b h
  · exact fl_b (nm_b h) (by decide)
theorem ag_b {s : RS} (h : B0 s) : B0 (agS s) := by
  unfold agS; split
  · exact nm_b h
  · exact fl_b (nm_b h) (by decide)
theorem mk_b {s : RS} {o : Nat} (h : B0 s) : B0 (mkS o s) := by
  unfold mkS; split
  · exact wn_b (tk_b h)
  · exact h
theorem vl_b {s : RS} {c : CondM} (h : B0 s) : B0 (vlS c s) := by
  unfold vlS; split
  · exact tk_b h
  · exact fl_b (tk_b h) (by assumption)
theorem cnd_b {s : RS} (h : B0 s) : B0 (cndS s) := by
  unfold cndS; exact vl_b (mk_b (tk_b (ag_b h)))
theorem round_b {s : RS} {l : List CondM} (h : B0 s) : B0 (roundS l s) := by
  unfold roundS; split
  · exact fl_b (cnd_b (wn_b h)) (by decide)
  · exact cnd_b (wn_b h)
theorem cndsF_b : ∀ (f : Nat) (l : List CondM) (s : RS), B0 s → B0 (cndsF f l s).2
  | 0, _, _, h => h
  | f + 1, l, s, h => by
    unfold cndsF; split
    · exact h
    · exact cndsF_b f _ _ (round_b h)
theorem rul_b {s : RS} (h : B0 s) : B0 (rulS s) := by
  unfold rulS cnds; exact cndsF_b _ _ _ (act_b (call_b h))
theorem rt1_b {s : RS} (h : B0 s) : B0 (rt1 s) := by
  unfold rt1; split
  · exact tk_b h
  · exact fl_b (tk_b h) (by assumption)
theorem rt_b {s : RS} {m : Nat} (h : B0 s) : B0 (rtS m s) := by
  unfold rtS; split
  · exact rt1_b h
  · exact fl_b (rt1_b h) (by decide)
theorem hd_b {s : RS} {n : Nat} {t : Tok} (h : B0 s) : B0 (hdS n t s) := by
  unfold hdS; split
  · exact h
  · exact fl_b h (by decide)
theorem pt1_b {s : RS} (h : B0 s) : B0 (pt1 s) := by
  unfold pt1; split
  · exact tk_b h
  · exact fl_b (tk_b h) (by decide)
theorem pt_b {s : RS} {n : Nat} {l : List (Bs × Nat)} (h : B0 s) : B0 (ptS n l s) := by
  unfold ptS; split
  · exact fl_b (rt_b (pt1_b h)) (by decide)
  · exact rt_b (pt1_b h)
theorem qt1_b {s : RS} (h : B0 s) : B0 (qt1 s) := by
  unfold qt1; split
  · exact fl_b (tk_b h) (by decide)
  · exact tk_b h
theorem qt_b {s : RS} {n : Nat} {l : List (Nat × Nat)} (h : B0 s) : B0 (qtS n l s) := by
  unfold qtS; split
  · exact fl_b (rt_b (qt1_b h)) (by decide)
  · exact rt_b (qt1_b h)
theorem body_b {s : RS} {p : PolM} {t : Tok} (h : B0 s) : B0 (bodyS p t s) := by
  unfold bodyS; split
  · exact rul_b h
  · split
    · exact rt_b (hd_b h)
    · split
      · exact pt_b h
      · split
        · exact qt_b h
        · exact fl_b h (by decide)
theorem line_b {s : RS} {p : PolM} (h : B0 s) : B0 (lineS p s) := by
  unfold lineS; split
  · exact fl_b (tk_b (body_b (nm_b h))) (by decide)
  · exact tk_b (body_b (nm_b h))
theorem lines_b : ∀ (f : Nat) (p : PolM) (s : RS), B0 s → B0 (linesF f p s).2
  | 0, _, _, h => h
  | f + 1, p, s, h => by
    unfold linesF; split
    · exact h
    · exact lines_b f _ _ (line_b h)
theorem read_b (L : List Tok) : B0 (readP L).2 := by
  unfold readP hdE hd2
  exact lines_b _ _ _ (tk_b (act_b (wn_b (tk_b (ow_b (wn_b (s := ⟨L, noW⟩) (.inl rfl)))))))
theorem lineR_b (ln n : Nat) (r : List Tok × Nat × Nat) : (lineR ln n r).2 = noW ∨ (lineR ln n r).2.e ≠ 0 := by
  unfold lineR; split
  · exact .inr (by assumption)
  · split <;> exact .inl rfl
theorem lexL_b : ∀ (l : List Bs) (k : Nat) (acc : List Tok), (lexL l k acc).2 = noW ∨ (lexL l k acc).2.e ≠ 0
  | [], _, _ => .inl rfl
  | l :: ls, k, acc => by
    unfold lexL; split
    · rcases lineR_b (k + 1) (cutH l).length (lexF (k + 1) ((cutH l).length + 1) (cutH l) 0) with h | h
      · exact .inl h
      · exact .inr h
    · exact lexL_b ls _ _
theorem lexB_b (s : Bs) : (lexB s).2 = noW ∨ (lexB s).2.e ≠ 0 := by
  unfold lexB; split
  · exact .inr (by decide)
  · exact lexL_b _ _ _
theorem pars_bad {s : Bs} (h : (parsB s).2 ≠ noW) : (parsB s).1 = zP ∧ (parsB s).2.e ≠ 0 := by
  unfold parsB at h ⊢
  split at h
  · rename_i hl
    rw [if_pos hl]
    exact ⟨rfl, (lexB_b s).resolve_left hl⟩
  · rename_i hl
    rw [if_neg hl] 
    split at h
    · rename_i hr
      rw [if_pos hr]
      exact ⟨rfl, (read_b _).resolve_left hr⟩
    · exact absurd rfl h
theorem pars_good {s : Bs} (h : (parsB s).2 = noW) : Gd (parsB s).1 := by
  unfold parsB at h ⊢
  split at h
  · rename_i hl; exact absurd h hl
  · rename_i hl
    rw [if_neg hl]
    split at h
    · rename_i hr; exact absurd h hr
    · rename_i hr
      rw [if_neg hr]
      exact read_gd (Decidable.not_not.1 hr)
theorem pars_back {p : PolM} (h : Gd p) (ho : p.ok) : parsB (textP p) = (p, noW) := by
  have hl := pol_lin h ho
  have hw : (txt (polWs p)).length ≤ 65536 := by have h1 := txt_wt (polWs p); have h2 := pol_wt h ho; omega
  obtain ⟨M, h1, h2⟩ := lexB_txt hl hw
  exact parsB_of h (fun x hx => (ho.port x hx).1) h1 h2
theorem text_size {p : PolM} (h : Gd p) (ho : p.ok) : (textP p).length ≤ 50000 := Nat.le_trans (txt_wt (polWs p)) (pol_wt h ho)
end Go.Proofs.YtinofjbnfmalkaaGreatDoor.Tx
