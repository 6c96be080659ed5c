/- Policies' texts are cut into the words that were laid; so they are read as what they tell; by lists alone. -/
import Derived.Test.YtinofjbnfmalkaaGreatDoorParT
namespace Go.Proofs.YtinofjbnfmalkaaGreatDoor
def tk0 (w : Wd3) : Tok := ⟨w.1, w.2.1, w.2.2, 0, 0⟩
def txs (ws : List Wd3) : List Bs := ws.map fun w => w.2.1
theorem jt_cons (g a : Bs) (r : List Bs) : Lib.joinTail g (a :: r) = g ++ (a ++ Lib.joinTail g r) := by
  simp [Lib.joinTail]
theorem head_blank {g c : Bs} (h : ∀ d ∈ g, isP d.toNat = true) (hne : g ≠ []) : ∀ d, (g ++ c).head? = some d → isP d.toNat = true := by
  intro d hd
  cases g with
  | nil => exact absurd rfl hne
  | cons x g => simp at hd; subst hd; exact h x (by simp)
theorem jt_head {g b : Bs} (hg : ∀ d ∈ g, isP d.toNat = true) (hne : g ≠ []) (hb : ∀ d ∈ b, isP d.toNat = true) (r : List Bs) : ∀ d, (Lib.joinTail g r ++ b).head? = some d → isP d.toNat = true := by
  cases r with
  | nil =>
    intro d hd
    simp [Lib.joinTail] at hd
    exact hb d (List.mem_of_mem_head? hd)
  | cons a r => rw [jt_cons, List.append_assoc]; exact head_blank hg hne
theorem lexF_tail {ln : Nat} {g b : Bs} (hg : ∀ d ∈ g, isP d.toNat = true) (hne : g ≠ []) (hb : ∀ d ∈ b, isP d.toNat = true) : ∀ (ws : List Wd3) (a f : Nat), (∀ w ∈ ws, WordOk (tk0 w)) → (Lib.joinTail g (txs ws) ++ b).length < f →
    ∃ W, lexF ln f (Lib.joinTail g (txs ws) ++ b) a = (W, 0, 0) ∧ W.map sig = ws
  | _, _, 0, _, h => by omega
  | [], a, f + 1, _, _ => ⟨[], by rw [show Lib.joinTail g (txs []) ++ b = b by simp [txs, Lib.joinTail], lexF_none (nextS_blank hb)], rfl⟩
  | w :: ws, a, f + 1, hw, hf => by
    have hx := hw w (by simp)
    have he : Lib.joinTail g (txs (w :: ws)) ++ b = g ++ ((tk0 w).t ++ (Lib.joinTail g (txs ws) ++ b)) := by
      show Lib.joinTail g (w.2.1 :: txs ws) ++ b = _
      rw [jt_cons]; simp [tk0]
    have hn := nextS_word hg hx (jt_head hg hne hb (txs ws))
    have hl := congrArg List.length he
    have ht := List.length_pos_iff.2 hx.ne
    have hg2 := List.length_pos_iff.2 hne
    simp only [List.length_append] at hl hf
    rw [he, lexF_step hn (by rw [hx.val])]
    obtain ⟨W, h1, h2⟩ := lexF_tail hg hne hb ws (a + g.length + (tk0 w).t.length) f (fun y hy => hw y (List.mem_cons_of_mem _ hy)) (by simp only [List.length_append]; omega)
    rw [h1]
    exact ⟨_, rfl, by rw [List.map_cons, h2]; simp [sig, hx.val]; rfl⟩
theorem lineB_join {ln : Nat} {g b s : Bs} {ws : List Wd3} (hg : ∀ d ∈ g, isP d.toNat = true) (hne : g ≠ []) (hb : ∀ d ∈ b, isP d.toNat = true) (hw0 : ws ≠ []) (hw : ∀ w ∈ ws, WordOk (tk0 w)) (hs : cutH s = Lib.join (txs ws) g ++ b) :
    ∃ W, lineB ln s = (W, noW) ∧ W.map sig = ws ++ [enT] := by
  cases ws with
  | nil => exact absurd rfl hw0
  | cons w ws =>
    have hx := hw w (by simp)
    have he : Lib.join (txs (w :: ws)) g ++ b = [] ++ ((tk0 w).t ++ (Lib.joinTail g (txs ws) ++ b)) := by
      show Lib.join (w.2.1 :: txs ws) g ++ b = _
      rw [Lib.join_cons]; simp [tk0]
    have hn := nextS_word (g := []) (by simp) hx (jt_head hg hne hb (txs ws))
    have ht := List.length_pos_iff.2 hx.ne
    have hl := congrArg List.length he
    simp only [List.length_append, List.length_nil] at hl
    unfold lineB
    rw [hs]
    obtain ⟨W, h1, h2⟩ := lexF_tail (ln := ln) hg hne hb ws (0 + ([] : Bs).length + (tk0 w).t.length) (Lib.join (txs (w :: ws)) g ++ b).length (fun y hy => hw y (List.mem_cons_of_mem _ hy)) (by simp only [List.length_append]; omega)
    rw [he] at h1 ⊢
    rw [lexF_step hn (by rw [hx.val]), h1]
    unfold lineR
    rw [if_neg (by simp), if_neg (by simp)]
    refine ⟨_, rfl, ?_⟩
    simp only [List.map_append, List.map_cons, h2, List.map_nil]
    simp [sig, endT, enT, hx.val]
    rfl
theorem join_mem' {g : Bs} {ws : List Bs} {c : UInt8} (h : c ∈ Lib.join ws g) : c ∈ g ∨ ∃ w ∈ ws, c ∈ w := by
  cases ws with
  | nil => simp [Lib.join_nil] at h
  | cons a r =>
    rw [Lib.join_cons] at h
    rcases List.mem_append.1 h with h | h
    · exact .inr ⟨a, by simp, h⟩
    · simp only [Lib.joinTail, List.mem_flatten, List.mem_map] at h
      obtain ⟨l, ⟨w, hw, rfl⟩, hc⟩ := h
      rcases List.mem_append.1 hc with hc | hc
      · exact .inl hc
      · exact .inr ⟨w, List.mem_cons_of_mem _ hw, hc⟩
theorem join_plain {g : Bs} {ws : List Wd3} (hg : ∀ d ∈ g, isP d.toNat = true) (hw : ∀ w ∈ ws, WordOk (tk0 w)) : ∀ c ∈ Lib.join (txs ws) g, c.toNat ≠ 10 ∧ c.toNat ≠ 35 := by
  intro c hc
  rcases join_mem' hc with h | ⟨t, ht, hc⟩
  · exact isP_plain _ (hg c h)
  · obtain ⟨w, hm, rfl⟩ := List.mem_map.1 ht
    have hk := word_kind (hw w hm)
    exact has_plain w.1 _ hk.1 hk.2 ((hw w hm).all c hc)
def txt (WL : List (List Wd3)) : Bs := WL.flatMap fun ws => Lib.join (txs ws) [32] ++ [10]
def enS (WL : List (List Wd3)) : List Wd3 := WL.flatMap fun ws => ws ++ [enT]
def LinOk (WL : List (List Wd3)) : Prop := ∀ ws ∈ WL, ws ≠ [] ∧ ∀ w ∈ ws, WordOk (tk0 w)
theorem lex_txt (c : Bs) : ∀ (WL : List (List Wd3)) (k : Nat) (acc : List Tok), LinOk WL → ∃ M, lexL (lines (txt WL ++ c)) k acc = lexL (lines c) (k + WL.length) (acc ++ M) ∧ M.map sig = enS WL
  | [], k, acc, _ => ⟨[], by simp [txt], rfl⟩
  | ws :: WL, k, acc, h => by
    obtain ⟨h1, h2⟩ := h ws (by simp)
    have hp := join_plain (g := [32]) (by decide) h2
    have e1 : txt (ws :: WL) ++ c = Lib.join (txs ws) [32] ++ 10 :: (txt WL ++ c) := by simp [txt]
    obtain ⟨W, w1, w2⟩ := lineB_join (ln := k + 1) (g := [32]) (b := []) (s := Lib.join (txs ws) [32]) (by decide) (by simp) (by simp) h1 h2 (by rw [cutH_none _ (fun d hd => (hp d hd).2), List.append_nil])
    obtain ⟨M, m1, m2⟩ := lex_txt c WL (k + 1) (acc ++ W) (fun x hx => h x (List.mem_cons_of_mem _ hx))
    refine ⟨W ++ M, ?_, ?_⟩
    · rw [e1, lines_plain _ _ (fun d hd => u8_ne (n := 10) (by omega) (hp d hd).1), lexL_line w1, m1, List.length_cons, List.append_assoc, show k + 1 + WL.length = k + (WL.length + 1) by omega]
    · rw [List.map_append, w2, m2]; simp [enS]
theorem lineB_nil (ln : Nat) : lineB ln [] = ([], noW) := rfl
theorem lexB_txt {WL : List (List Wd3)} (h : LinOk WL) (hl : (txt WL).length ≤ 65536) : ∃ M, lexB (txt WL) = (M, noW) ∧ M.map sig = enS WL := by
  obtain ⟨M, m1, m2⟩ := lex_txt [] WL 0 [] h
  refine ⟨M, ?_, m2⟩
  unfold lexB
  rw [if_neg (by omega)]
  rw [List.append_nil] at m1
  rw [m1, List.nil_append]
  show lexL [[]] _ _ = _
  rw [lexL_skip (lineB_nil _)]; rfl
def nmOk (t : Bs) : Bool := match t with | [] => false | c :: _ => isL c.toNat && t.all fun d => hasB 1 d.toNat
theorem begun_L {c : Nat} (h : isL c = true) : begunB c = 1 := by unfold begunB; rw [if_pos h]
theorem word_nm {t : Bs} (h : nmOk t = true) : WordOk (tk0 (nmT t)) := by
  unfold nmOk at h
  cases t with
  | nil => cases h
  | cons c r =>
    simp only [Bool.and_eq_true, List.all_eq_true] at h
    refine ⟨by simp [tk0, nmT], fun d hd => ?_, fun d hd => h.2 d hd, rfl⟩
    simp [tk0, nmT] at hd
    subst hd
    exact begun_L h.1
theorem word_sg {t : Bs} (h : t ∈ sgT.tail) : WordOk (tk0 (sgT1 t)) := by
  have : ∀ t ∈ sgT.tail, t ≠ [] ∧ (t.head?.map fun c => begunB c.toNat) = some 4 ∧ (∀ c ∈ t, hasB 4 c.toNat = true) ∧ valB 4 t = (0, 0) := by decide
  obtain ⟨h1, h2, h3, h4⟩ := this t h
  refine ⟨h1, fun c hc => ?_, h3, h4⟩
  rw [show (tk0 (sgT1 t)).t = t from rfl] at hc
  rw [hc] at h2
  show begunB c.toNat = 4
  simpa using h2
theorem word_num {n : Nat} (h : n < 18446744073709551616) : WordOk (tk0 (numT n)) := by
  have hb := dec_bytes n
  have hd : ∀ c : Nat, 48 ≤ c → c ≤ 57 → isL c = false ∧ isD c = true := by
    intro c h1 h2
    unfold isL isD
    simp; omega
  refine ⟨dec_ne n, fun c hc => ?_, fun c hc => ?_, ?_⟩
  · have hm : c ∈ Lib.decDigits n := List.mem_of_mem_head? hc
    have := hb c hm
    obtain ⟨h1, h2⟩ := hd c.toNat this.1 this.2
    show begunB c.toNat = 2
    unfold begunB
    rw [h1, h2]; simp
  · have := hb c hc
    obtain ⟨h1, h2⟩ := hd c.toNat this.1 this.2
    show hasB 2 c.toNat = true
    unfold hasB
    simp [h2]
  · show valB 2 (Lib.decDigits n) = (n, 0)
    unfold valB
    rw [number_dec n h]; rfl
theorem parts_bytes : ∀ (t : Bs) (c : UInt8), c ∈ t → c = 47 ∨ ∃ l ∈ parts t, c ∈ l
  | [], c, h => by simp at h
  | d :: t, c, h => by
    unfold parts
    by_cases hd : d = 47
    · rw [if_pos hd]
      rcases List.mem_cons.1 h with rfl | h
      · exact .inl hd
      · rcases parts_bytes t c h with h | ⟨l, hl, hc⟩
        · exact .inl h
        · exact .inr ⟨l, List.mem_cons_of_mem _ hl, hc⟩
    · rw [if_neg hd]
      cases hp : parts t with
      | nil => exact absurd hp (parts_ne t)
      | cons a r =>
        rcases List.mem_cons.1 h with rfl | h
        · exact .inr ⟨c :: a, by simp, by simp⟩
        · rcases parts_bytes t c h with h | ⟨l, hl, hc⟩
          · exact .inl h
          · rw [hp] at hl
            rcases List.mem_cons.1 hl with rfl | hl
            · exact .inr ⟨d :: l, by simp, by simp [hc]⟩
            · exact .inr ⟨l, by simp [hl], hc⟩
theorem pathB_bytes {s : Bs} (h : pathB s = true) : s.head? = some 47 ∧ s.length ≤ 120 ∧ ∀ c ∈ s, prn c.toNat = true := by
  cases s with
  | nil => cases h
  | cons a t =>
    unfold pathB at h
    simp only [Bool.and_eq_true, decide_eq_true_eq, Bool.or_eq_true, Bool.not_eq_true'] at h
    obtain ⟨rfl, h2, h3⟩ := h
    refine ⟨rfl, h2, fun c hc => ?_⟩
    rcases List.mem_cons.1 hc with rfl | hc
    · decide
    · rcases h3 with rfl | h3
      · simp at hc
      · rcases parts_bytes t c hc with rfl | ⟨l, hl, hcl⟩
        · decide
        · have := List.any_eq_false.1 h3 l hl
          unfold noB at this
          simp only [Bool.or_eq_true, Bool.not_eq_true', not_or, Bool.not_eq_true, Bool.not_eq_false] at this
          exact List.all_eq_true.1 this.2 c hcl
theorem word_pt {t : Bs} (h : pathB t = true) : WordOk (tk0 (ptT t)) := by
  obtain ⟨h1, h2, h3⟩ := pathB_bytes h
  refine ⟨?_, fun c hc => ?_, fun c hc => h3 c hc, ?_⟩
  · show t ≠ []
    rintro rfl; cases h1
  · have : t.head? = some c := hc
    rw [h1] at this
    cases this; rfl
  · show valB 3 t = (0, 0)
    unfold valB
    simp only [show (3 : Nat) ≠ 2 by decide, if_false, if_true]
    rw [if_neg (by omega)]
theorem nm_words : ∀ i ∈ Rt.nbits, nmOk (Rt.nm i) = true := by decide
theorem nmOk_all {t : Bs} (h : nmOk t = true) : t ≠ [] ∧ ∀ c ∈ t, hasB 1 c.toNat = true := by
  unfold nmOk at h
  cases t with
  | nil => cases h
  | cons c r => simp only [Bool.and_eq_true, List.all_eq_true] at h; exact ⟨by simp, h.2⟩
theorem nmOk_join {a : Bs} {r : List Bs} (h : ∀ t ∈ a :: r, nmOk t = true) : nmOk (Lib.join (a :: r) [44]) = true := by
  have ha := h a (by simp)
  have hall : ∀ c ∈ Lib.join (a :: r) [44], hasB 1 c.toNat = true := by
    intro c hc
    rcases join_mem' hc with hc | ⟨t, ht, hc⟩
    · simp at hc; subst hc; decide
    · exact (nmOk_all (h t ht)).2 c hc
  rw [Lib.join_cons] at hall ⊢
  cases a with
  | nil => cases ha
  | cons c a =>
    unfold nmOk at ha ⊢
    simp only [List.cons_append, Bool.and_eq_true] at ha ⊢
    exact ⟨ha.1, List.all_eq_true.2 (fun d hd => hall d (by simpa using hd))⟩
theorem textL_ok {n : Nat} (h0 : n ≠ 0) (h : n &&& 51199 = n) : nmOk (Rt.textL n) = true := by
  have hn : Rt.named n ≠ [] := fun e => h0 (by rw [← h]; exact (Rt.named_nil n).1 e)
  unfold Rt.textL
  rw [if_neg hn]
  cases hm : Rt.named n with
  | nil => exact absurd hm hn
  | cons i r =>
    rw [List.map_cons]
    refine nmOk_join (fun t ht => ?_)
    rw [← List.map_cons, ← hm] at ht
    obtain ⟨j, hj, rfl⟩ := List.mem_map.1 ht
    exact nm_words j (List.mem_filter.1 hj).1
theorem goodP_has {i c : Nat} (h : goodP i c) : hasB 1 c = true := by
  unfold goodP letterP behindP at h
  unfold hasB isL isD
  rcases h with h | ⟨_, h | rfl | rfl⟩
  · simp [h.1, h.2]
  · simp [h.1, h.2]
  · decide
  · decide
theorem name_ok {s : Bs} (h : wordB s = true) : nmOk s = true ∧ s.length ≤ 14 ∧ (44 : UInt8) ∉ s := by
  unfold wordB at h
  obtain ⟨h1, h2, h3⟩ := @of_decide_eq_true _ (Classical.propDecidable _) h
  have hsz : (⟨s.toArray⟩ : ByteArray).size = s.length := by rw [Lib.size_eq]
  rw [hsz] at h1 h2
  have hat : ∀ i (hi : i < s.length), goodP i (s[i]'hi).toNat := fun i hi => by
    have := h3 i (by rw [hsz]; exact hi)
    exact this
  refine ⟨?_, h2, fun hm => ?_⟩
  · cases s with
    | nil => simp at h1
    | cons c r =>
      unfold nmOk
      simp only [Bool.and_eq_true, List.all_eq_true]
      refine ⟨?_, fun d hd => ?_⟩
      · have := hat 0 (by simp)
        unfold goodP letterP at this
        rcases this with this | ⟨e, _⟩
        · simp at this; unfold isL; simp [this.1, this.2]
        · exact absurd rfl e
      · obtain ⟨i, hi, rfl⟩ := List.getElem_of_mem hd
        exact goodP_has (hat i hi)
  · obtain ⟨i, hi, e⟩ := List.getElem_of_mem hm
    have := hat i hi
    rw [e] at this
    unfold goodP letterP behindP at this
    simp at this
end Go.Proofs.YtinofjbnfmalkaaGreatDoor
