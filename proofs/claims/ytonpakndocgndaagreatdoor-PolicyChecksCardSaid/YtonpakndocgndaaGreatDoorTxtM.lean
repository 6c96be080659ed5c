/- Texts as lines, lines as words, by lists alone: what a text of instructions is parsed as. Nothing of the program. -/
import Derived.Test.YtonpakndocgndaaGreatDoorTabM
import Derived.Lib.Split
import Derived.Lib.SplitLaws
import Derived.Lib.IndexBytes
namespace Go.Proofs.YtonpakndocgndaaGreatDoor
/-- Lines: the text parted at line ends. -/
def lines : Bs → List Bs
  | [] => [[]]
  | c :: t => if c = 10 then [] :: lines t else match lines t with | h :: r => (c :: h) :: r | [] => [[c]]
/-- What stands ahead of the first #. -/
def cutH : Bs → Bs
  | [] => []
  | c :: t => if c = 35 then [] else c :: cutH t
def wordsGo : Bs → Bs → List Bs
  | cur, [] => if cur = [] then [] else [cur]
  | cur, c :: t => if c = 32 then (if cur = [] then wordsGo [] t else cur :: wordsGo [] t) else wordsGo (cur ++ [c]) t
def saidB (s : Bs) : List Bs := wordsGo [] (cutH s)
def parseB (s : Bs) : List Ins × Nat × Nat := parseL ((lines s).map saidB) 0 []
theorem lines_ne (s : Bs) : lines s ≠ [] := by
  cases s with
  | nil => simp [lines]
  | cons c t =>
    unfold lines
    split
    · simp
    · split <;> simp
theorem lines_plain (a : Bs) (b : Bs) (h : ∀ c ∈ a, c ≠ 10) : lines (a ++ 10 :: b) = a :: lines b := by
  induction a with
  | nil => simp [lines]
  | cons c t ih =>
    have h1 := h c (by simp)
    have h2 := ih (fun x hx => h x (by simp [hx]))
    simp only [List.cons_append, lines, if_neg h1, h2]
theorem lines_end (a : Bs) (h : ∀ c ∈ a, c ≠ 10) : lines a = [a] := by
  induction a with
  | nil => rfl
  | cons c t ih =>
    have h1 := h c (by simp)
    have h2 := ih (fun x hx => h x (by simp [hx]))
    simp only [lines, if_neg h1, h2]
theorem cutH_plain (a : Bs) (h : ∀ c ∈ a, c ≠ 35) : cutH a = a := by
  induction a with
  | nil => rfl
  | cons c t ih => simp only [cutH, if_neg (h c (by simp)), ih (fun x hx => h x (by simp [hx]))]
theorem wordsGo_end (cur : Bs) : wordsGo cur [] = if cur = [] then [] else [cur] := by unfold wordsGo; rfl
theorem wordsGo_run (a : Bs) (h : ∀ c ∈ a, c ≠ 32) : ∀ cur b, wordsGo cur (a ++ b) = wordsGo (cur ++ a) b := by
  induction a with
  | nil => intro cur b; simp
  | cons c t ih =>
    intro cur b
    rw [List.cons_append, wordsGo, if_neg (h c (by simp)), ih (fun x hx => h x (by simp [hx])), List.append_assoc]
    rfl
theorem wordsGo_word (a : Bs) (h : ∀ c ∈ a, c ≠ 32) (hne : a ≠ []) (b : Bs) : wordsGo [] (a ++ 32 :: b) = a :: wordsGo [] b := by
  rw [wordsGo_run a h, List.nil_append, wordsGo, if_pos rfl, if_neg hne]
theorem wordsGo_last (a : Bs) (h : ∀ c ∈ a, c ≠ 32) (hne : a ≠ []) : wordsGo [] a = [a] := by
  have := wordsGo_run a h [] []
  rw [List.append_nil, List.nil_append] at this
  rw [this, wordsGo_end, if_neg hne]
theorem wordsGo_join : ∀ (ws : List Bs), (∀ w ∈ ws, w ≠ [] ∧ ∀ c ∈ w, c ≠ 32) → wordsGo [] (Lib.join ws [32]) = ws
  | [], _ => by rw [Lib.join_nil, wordsGo_end]; rfl
  | [a], h => by rw [Lib.join_one]; exact wordsGo_last a (h a (by simp)).2 (h a (by simp)).1
  | a :: b :: r, h => by
    have ih := wordsGo_join (b :: r) (fun w hw => h w (List.mem_cons_of_mem _ hw))
    have e : Lib.join (a :: b :: r) [32] = a ++ 32 :: Lib.join (b :: r) [32] := by
      rw [Lib.join_cons, Lib.join_cons]
      simp [Lib.joinTail]
    rw [e, wordsGo_word a (h a (by simp)).2 (h a (by simp)).1, ih]
/-- No byte of a word of a line parts it. -/
def Wd (w : Bs) : Prop := w ≠ [] ∧ ∀ c ∈ w, 48 ≤ c.toNat ∧ c.toNat < 128
theorem join_mem {ws : List Bs} {c : UInt8} (h : c ∈ Lib.join ws [32]) : c = 32 ∨ ∃ w ∈ ws, c ∈ w := by
  induction ws with
  | nil => simp [Lib.join_nil] at h
  | cons a r ih =>
    cases r with
    | nil => rw [Lib.join_one] at h; exact .inr ⟨a, by simp, h⟩
    | cons b r =>
      have e : Lib.join (a :: b :: r) [32] = a ++ 32 :: Lib.join (b :: r) [32] := by
        rw [Lib.join_cons, Lib.join_cons]
        simp [Lib.joinTail]
      rw [e] at h
      rcases List.mem_append.1 h with h | h
      · exact .inr ⟨a, by simp, h⟩
      · rcases List.mem_cons.1 h with h | h
        · exact .inl h
        · rcases ih h with h | ⟨w, hw, hc⟩
          · exact .inl h
          · exact .inr ⟨w, List.mem_cons_of_mem _ hw, hc⟩
theorem join_bytes {ws : List Bs} (h : ∀ w ∈ ws, Wd w) : ∀ c ∈ Lib.join ws [32], c ≠ 10 ∧ c ≠ 35 ∧ c.toNat < 128 := by
  intro c hc
  rcases join_mem hc with rfl | ⟨w, hw, hc⟩
  · decide
  · have := (h w hw).2 c hc
    refine ⟨?_, ?_, this.2⟩
    · rintro rfl; simp at this
    · rintro rfl; simp at this
theorem said_join {ws : List Bs} (h : ∀ w ∈ ws, Wd w) : saidB (Lib.join ws [32]) = ws := by
  unfold saidB
  rw [cutH_plain _ (fun c hc => (join_bytes h c hc).2.1)]
  exact wordsGo_join ws (fun w hw => ⟨(h w hw).1, fun c hc e => by subst e; have := (h w hw).2 _ hc; simp at this⟩)
/-- A numeral's bytes. -/
theorem dec_bytes (u : Nat) : ∀ c ∈ Lib.decDigits u, 48 ≤ c.toNat ∧ c.toNat ≤ 57 := by
  induction u using Nat.strongRecOn with
  | _ u ih =>
    intro c hc
    rw [Lib.decDigits] at hc
    split at hc
    · simp at hc; subst hc; simp; omega
    · rcases List.mem_append.1 hc with hc | hc
      · exact ih (u / 10) (by omega) c hc
      · simp at hc; subst hc; simp; omega
theorem dec_ne (u : Nat) : Lib.decDigits u ≠ [] := by
  intro h
  have := congrArg List.length h
  rw [Lib.decDigits_length] at this
  have := Lib.nDigits_pos u
  simp at *; omega
theorem dec_wd (u : Nat) : Wd (Lib.decDigits u) := ⟨dec_ne u, fun c hc => by have := dec_bytes u c hc; omega⟩
theorem horner_app (b : Nat) : ∀ (x y : Bs) (n m : Nat), horner b x n = some m → horner b (x ++ y) n = horner b y m
  | [], y, n, m, h => by simp [horner] at h; subst h; rfl
  | c :: x, y, n, m, h => by
    rw [List.cons_append, horner]
    rw [horner] at h
    cases hd : dig b c with
    | none => simp [hd] at h
    | some d =>
      simp only [hd] at h ⊢
      split at h
      · rename_i hlt; rw [if_pos hlt]; exact horner_app b x y _ m h
      · cases h
theorem dig10_at (d : Nat) (h : d < 10) : dig 10 (UInt8.ofNat (48 + d)) = some d := by
  have e : (UInt8.ofNat (48 + d)).toNat = 48 + d := by simp; omega
  unfold dig
  rw [e, if_pos (by omega), show 48 + d - 48 = d by omega, if_pos h]
theorem horner_dec (u : Nat) (h : u < 18446744073709551616) : horner 10 (Lib.decDigits u) 0 = some u := by
  induction u using Nat.strongRecOn with
  | _ u ih =>
    rw [Lib.decDigits]
    split
    · rename_i hlt
      unfold horner
      rw [dig10_at u hlt]
      simp only
      rw [if_pos (by omega)]
      simp [horner]
    · have := ih (u / 10) (by omega) (by omega)
      rw [horner_app _ _ _ _ _ this]
      unfold horner
      rw [dig10_at (u % 10) (by omega)]
      simp only
      rw [if_pos (by omega)]
      simp only [horner]
      congr 1
      omega
theorem dec_head (u : Nat) : (Lib.decDigits u).head? = some 48 → u = 0 := by
  induction u using Nat.strongRecOn with
  | _ u ih =>
    rw [Lib.decDigits]
    split
    · rename_i hlt
      intro h
      have h' : UInt8.ofNat (48 + u) = 48 := by simpa only [List.head?_cons, Option.some.injEq] using h
      have e : (UInt8.ofNat (48 + u)).toNat = 48 := by rw [h']; rfl
      simp at e
      omega
    · intro h
      have hne := dec_ne (u / 10)
      rw [List.head?_append, Option.or_of_isSome (by simpa using hne)] at h
      have := ih (u / 10) (by omega) h
      omega
theorem dec_zero : Lib.decDigits 0 = [48] := by rw [Lib.decDigits]; rfl
theorem not_hexed {s : Bs} (h : ∀ c ∈ s, c.toNat ≤ 57) : hexed s = false := by
  unfold hexed Lib.hasPrefix
  match s, h with
  | [], _ => rfl
  | [a], _ => by_cases e : a = 48 <;> simp [List.isPrefixOf, e]
  | a :: b :: r, h =>
    have := h b (by simp)
    have hb : ¬ (120 : UInt8) = b := by rintro rfl; simp at this
    simp [List.isPrefixOf, hb]
theorem number_dec (u : Nat) (h : u < 18446744073709551616) : number (Lib.decDigits u) = some u := by
  have hx : hexed (Lib.decDigits u) = false := not_hexed (fun c hc => (dec_bytes u c hc).2)
  unfold number
  have hd : digits (Lib.decDigits u) = Lib.decDigits u := by unfold digits; rw [hx]; rfl
  have hb : base (Lib.decDigits u) = 10 := by unfold base; rw [hx]; rfl
  rw [hd, hb, horner_dec u h, if_neg (dec_ne u)]
  by_cases h0 : u = 0
  · subst h0
    rw [dec_zero]
    rfl
  · rw [if_neg (fun e => h0 (dec_head u e.2))]
theorem tab_words : ∀ l ∈ tab, l.w ≠ [] ∧ (∀ c ∈ l.w, 48 ≤ c.toNat ∧ c.toNat < 128) ∧ named l.w = some l := by decide
theorem lineOf_mem (i : Ins) : lineOf i = rawL ∨ (lineOf i ∈ tab ∧ hits i (lineOf i) = true) := by
  unfold lineOf
  cases h : tab.find? (hits i) with
  | none => exact .inl rfl
  | some l => exact .inr ⟨List.mem_of_find?_eq_some h, List.find?_some h⟩
theorem raw_named : named rawL.w = some rawL := by decide
theorem lineOf_named (i : Ins) : named (lineOf i).w = some (lineOf i) := by
  rcases lineOf_mem i with h | h
  · rw [h]; exact raw_named
  · exact (tab_words _ h.1).2.2
theorem lineOf_wd (i : Ins) : Wd (lineOf i).w := by
  rcases lineOf_mem i with h | h
  · rw [h]; exact ⟨by decide, by decide⟩
  · exact ⟨(tab_words _ h.1).1, (tab_words _ h.1).2.1⟩
theorem raw_tells (i : Ins) : tells rawL i = i := by
  obtain ⟨c, t, f, k⟩ := i
  rfl
theorem lineOf_tells (i : Ins) : tellsGo (flds (lineOf i).s) ⟨(lineOf i).c, 0, 0, 0⟩ i = i := by
  rcases lineOf_mem i with h | h
  · rw [h]; exact raw_tells i
  · have := h.2
    unfold hits at this
    rw [Bool.and_eq_true] at this
    exact sameI_eq.1 this.2
theorem words_wd (i : Ins) : ∀ w ∈ words i, Wd w := by
  intro w hw
  unfold words at hw
  rcases List.mem_cons.1 hw with rfl | hw
  · exact lineOf_wd i
  · obtain ⟨f, _, rfl⟩ := List.mem_map.1 hw
    exact dec_wd _
theorem setAll_tells (i : Ins) (hi : i.ok) : ∀ (fs : List Nat), (∀ f ∈ fs, f < 4) → ∀ left, setAll (fs.map fun f => Lib.decDigits (getF f i)) fs left = (tellsGo fs left i, 0)
  | [], _, left => rfl
  | f :: fs, hf, left => by
    have h1 := getF_le f i hi (hf f (by simp))
    have hm : most f ≤ 4294967295 := by unfold most; (repeat' split) <;> omega
    rw [List.map_cons]
    unfold setAll
    rw [number_dec _ (by omega)]
    simp only
    rw [if_neg (by omega), setAll_tells i hi fs (fun x hx => hf x (by simp [hx]))]
    rfl
theorem parsed_words (i : Ins) (hi : i.ok) : parsed (words i) = (i, 0) := by
  unfold words parsed
  simp only
  rw [lineOf_named i]
  simp only [List.length_map, ne_eq, not_true_eq_false, if_false]
  rw [setAll_tells i hi _ (fun f hf => flds_lt _ f hf), lineOf_tells]
theorem told_bytes (i : Ins) : ∀ c ∈ told i, c ≠ 10 ∧ c ≠ 35 ∧ c.toNat < 128 := join_bytes (words_wd i)
theorem said_told (i : Ins) : saidB (told i) = words i := said_join (words_wd i)
theorem lines_text : ∀ (L : List Ins), lines (text L) = L.map told ++ [[]]
  | [] => rfl
  | i :: L => by
    have e : text (i :: L) = told i ++ 10 :: text L := by simp [text]
    rw [e, lines_plain _ _ (fun c hc => (told_bytes i c hc).1), lines_text L]
    rfl
theorem words_ne (i : Ins) : words i ≠ [] := by unfold words; simp
theorem parseL_text : ∀ (L : List Ins) (_ : ∀ i ∈ L, i.ok) (at' : Nat) (M : List Ins), M.length + L.length ≤ 4096 → parseL (L.map words ++ [[]]) at' M = (M ++ L, 0, 0)
  | [], _, at', M, _ => by simp [parseL]
  | i :: L, h, at', M, hm => by
    rw [List.map_cons, List.cons_append, parseL, if_neg (words_ne i), parsed_words i (h i (by simp))]
    simp only [ne_eq, not_true_eq_false, if_false]
    simp only [List.length_cons] at hm
    rw [if_neg (by omega), parseL_text L (fun x hx => h x (by simp [hx])) _ _ (by simp; omega)]
    simp
theorem parseL_more : ∀ (L : List Ins) (_ : ∀ i ∈ L, i.ok) (at' : Nat) (M : List Ins), M.length ≤ 4096 → 4096 < M.length + L.length → parseL (L.map words ++ [[]]) at' M = ([], at' + (4096 - M.length) + 1, 205)
  | [], _, at', M, h1, h2 => by simp at h2; omega
  | i :: L, h, at', M, h1, h2 => by
    rw [List.map_cons, List.cons_append, parseL, if_neg (words_ne i), parsed_words i (h i (by simp))]
    simp only [ne_eq, not_true_eq_false, if_false]
    simp only [List.length_cons] at h2
    by_cases he : M.length = 4096
    · rw [if_pos he, he]
    · rw [if_neg he, parseL_more L (fun x hx => h x (by simp [hx])) _ _ (by simp; omega) (by simp; omega)]
      simp
      omega
theorem said_nil : saidB [] = [] := by decide
theorem parseB_text (L : List Ins) (h : ∀ i ∈ L, i.ok) (hn : L.length ≤ 4096) : parseB (text L) = (L, 0, 0) := by
  unfold parseB
  have e : (lines (text L)).map saidB = L.map words ++ [[]] := by
    rw [lines_text, List.map_append, List.map_map]
    congr 1
    exact List.map_congr_left (fun i _ => said_told i)
  rw [e, parseL_text L h 0 [] (by simpa using hn), List.nil_append]
theorem parseB_more (L : List Ins) (h : ∀ i ∈ L, i.ok) (hn : 4096 < L.length) : parseB (text L) = ([], 4097, 205) := by
  unfold parseB
  have e : (lines (text L)).map saidB = L.map words ++ [[]] := by
    rw [lines_text, List.map_append, List.map_map]
    congr 1
    exact List.map_congr_left (fun i _ => said_told i)
  rw [e, parseL_more L h 0 [] (by simp) (by simpa using hn)]
  simp
theorem text_ascii (L : List Ins) : ∀ c ∈ text L, c.toNat < 128 := by
  intro c hc
  obtain ⟨i, _, hc⟩ := List.mem_flatMap.1 hc
  rcases List.mem_append.1 hc with hc | hc
  · exact (told_bytes i c hc).2.2
  · simp at hc; subst hc; decide
/-- How long. -/
theorem dec_len10 {u : Nat} (h : u < 4294967296) : (Lib.decDigits u).length ≤ 10 := by
  rw [Lib.decDigits_length]
  rcases (by omega : u < 10 ∨ (10 ≤ u ∧ u < 100) ∨ (100 ≤ u ∧ u < 1000) ∨ (1000 ≤ u ∧ u < 10000) ∨ (10000 ≤ u ∧ u < 100000) ∨ (100000 ≤ u ∧ u < 1000000) ∨ (1000000 ≤ u ∧ u < 10000000) ∨ (10000000 ≤ u ∧ u < 100000000) ∨ (100000000 ≤ u ∧ u < 1000000000) ∨ (1000000000 ≤ u)) with h' | h' | h' | h' | h' | h' | h' | h' | h' | h'
  · rw [Lib.nDigits_small h']; omega
  · rw [Lib.nDigits_unique 1 u (by omega) (by omega)]; omega
  · rw [Lib.nDigits_unique 2 u (by omega) (by omega)]; omega
  · rw [Lib.nDigits_unique 3 u (by omega) (by omega)]; omega
  · rw [Lib.nDigits_unique 4 u (by omega) (by omega)]; omega
  · rw [Lib.nDigits_unique 5 u (by omega) (by omega)]; omega
  · rw [Lib.nDigits_unique 6 u (by omega) (by omega)]; omega
  · rw [Lib.nDigits_unique 7 u (by omega) (by omega)]; omega
  · rw [Lib.nDigits_unique 8 u (by omega) (by omega)]; omega
  · rw [Lib.nDigits_unique 9 u (by omega) (by omega)]; omega
theorem tail_len (r : List Bs) (h : ∀ w ∈ r, w.length ≤ 10) : (Lib.joinTail [32] r).length ≤ r.length * 11 := by
  induction r with
  | nil => simp [Lib.joinTail]
  | cons a r ih =>
    have h1 := h a (by simp)
    have h2 := ih (fun w hw => h w (by simp [hw]))
    simp only [Lib.joinTail, List.map_cons, List.flatten_cons, List.length_append, List.length_cons] at h2 ⊢
    simp at h2 ⊢
    omega
theorem tab_len10 : ∀ l ∈ tab, l.w.length ≤ 6 := by decide
theorem lineOf_len (i : Ins) : (lineOf i).w.length ≤ 6 := by
  rcases lineOf_mem i with h | h
  · rw [h]; decide
  · exact tab_len10 _ h.1
theorem told_len (i : Ins) (hi : i.ok) : (told i).length ≤ 50 := by
  unfold told words
  rw [Lib.join_cons, List.length_append]
  have h1 := lineOf_len i
  have h2 := flds_le (lineOf i).s
  have h3 := tail_len ((flds (lineOf i).s).map fun f => Lib.decDigits (getF f i)) (fun w hw => by
    obtain ⟨f, hf, rfl⟩ := List.mem_map.1 hw
    have := getF_le f i hi (flds_lt _ f hf)
    have hm : most f ≤ 4294967295 := by unfold most; (repeat' split) <;> omega
    exact dec_len10 (by omega))
  rw [List.length_map] at h3
  omega
theorem text_len (L : List Ins) (h : ∀ i ∈ L, i.ok) : (text L).length ≤ L.length * 51 := by
  induction L with
  | nil => simp [text]
  | cons i L ih =>
    have h1 := told_len i (h i (by simp))
    have h2 := ih (fun x hx => h x (by simp [hx]))
    simp only [text, List.flatMap_cons, List.length_append, List.length_cons, List.length_nil] at h2 ⊢
    omega
theorem text_snoc (L : List Ins) (i : Ins) : text (L ++ [i]) = text L ++ (told i ++ [10]) := by simp [text]
end Go.Proofs.YtonpakndocgndaaGreatDoor

