/- The lexer's words are as the reader wants them; by lists alone. -/
import Derived.Test.YtinofjbnfmalkaaGreatDoorParG
import Derived.Test.YtinofjbnfmalkaaGreatDoorGl
namespace Go.Proofs.YtinofjbnfmalkaaGreatDoor
theorem horner_lt (b : Nat) : ∀ (s : Bs) (n m : Nat), n < 18446744073709551616 → horner b s n = some m → m < 18446744073709551616
  | [], n, m, h, e => by simp [horner] at e; omega
  | c :: t, n, m, h, e => by
    unfold horner at e
    cases hd : dig b c with
    | none => rw [hd] at e; cases e
    | some d =>
      rw [hd] at e
      simp only at e
      split at e
      · rename_i hlt; exact horner_lt b t _ m hlt e
      · cases e
theorem number_lt {s : Bs} {n : Nat} (h : number s = some n) : n < 18446744073709551616 := by
  unfold number at h
  split at h
  · cases h
  · split at h
    · cases h
    · exact horner_lt _ _ _ _ (by decide) h
theorem word_lt {x : Tok} (h : WordOk x) : x.n < 18446744073709551616 := by
  have hv := h.val
  unfold valB at hv
  split at hv
  · cases hn : number x.t with
    | none => rw [hn] at hv; simp at hv
    | some n => rw [hn] at hv; simp at hv; rw [← hv]; exact number_lt hn
  · split at hv
    · simp at hv; omega
    · split at hv
      · simp at hv; omega
      · simp at hv; omega
theorem grp_mem {L : List Tok} (h : Grp L) : ∀ x ∈ L, WordOk x ∨ (x.k = 0 ∧ x.t = [] ∧ x.n = 0) := by
  induction h with
  | nil => intro x hx; simp at hx
  | line ws e r h1 h2 h3 h4 h5 _ ih =>
    intro x hx
    rcases List.mem_append.1 hx with hx | hx
    · exact .inl (h2 x hx)
    · rcases List.mem_cons.1 hx with rfl | hx
      · exact .inr ⟨h3, h4, h5⟩
      · exact ih x hx
theorem lex_long0 {s : Bs} (h : 65536 < s.length) : lexB s = ([], ⟨0, 0, 36⟩) := by unfold lexB; rw [if_pos h]
theorem lex_in (s : Bs) : (∀ x ∈ (lexB s).1, TokIn x) ∧ (lexB s).1.length ≤ 2000000 := by
  by_cases hs : 65536 < s.length
  · rw [lex_long0 hs]; exact ⟨fun x hx => by simp at hx, by simp⟩
  · have hl : s.length ≤ 65536 := by omega
    have hok := lexB_ok s hl
    refine ⟨fun x hx => ?_, ?_⟩
    · have hw : (lexB s).2 = noW := by
        cases hd : decide ((lexB s).2 = noW) with
        | true => exact of_decide_eq_true hd
        | false => rw [(hok.1 (of_decide_eq_false hd)).1] at hx; simp at hx
      obtain ⟨_, _, _, l, hll, _, hst⟩ := (hok.2 hw).1 x hx
      have hm := grp_mem (lexB_grp s) x hx
      refine ⟨hm, ?_, ?_⟩
      · rcases hm with h | ⟨_, _, h⟩
        · exact word_lt h
        · rw [h]; decide
      · rcases hm with h | ⟨_, h, _⟩
        · have hk := word_kind h
          obtain ⟨_, h2, _⟩ := hst (by omega)
          have := (lines_mem s l (List.mem_of_getElem? hll)).1
          omega
        · rw [h]; decide
    · have h1 := wt_len (lexB s).1
      have h2 := lexB_wt s
      omega
end Go.Proofs.YtinofjbnfmalkaaGreatDoor
