/- What the library's Split, Cut, FieldsFunc do at one byte, as plain lists. -/
import Derived.Test.YthjbenjnhdgalaaDoorTxtM
import Derived.Lib.FieldsP
import Derived.Lib.CutLaws
import Derived.Laws.RangeString
import Derived.Lib.DecodeN
import Derived.Laws.RangeAny
namespace Go.Proofs.YthjbenjnhdgalaaDoor
theorem ix_eq (c : UInt8) (t : Bs) : Lib.index (c :: t) [c] = 0 := by simp [Lib.index, List.isPrefixOf]
theorem ix_ne (b c : UInt8) (t : Bs) (h : b ≠ c) : Lib.index (b :: t) [c] = if Lib.index t [c] == -1 then -1 else Lib.index t [c] + 1 := by
  have hp : ([c] : List UInt8).isPrefixOf (b :: t) = false := by simp [List.isPrefixOf, Ne.symm h]
  rw [Lib.index, hp]; simp
theorem ix_nil (c : UInt8) : Lib.index [] [c] = -1 := by simp [Lib.index]
theorem splitK_ne (c d : UInt8) (t : Bs) (h : d ≠ c) (k : Nat) : Lib.splitK [c] 0 k (d :: t) = match Lib.splitK [c] 0 k t with | a :: r => (d :: a) :: r | [] => [[d]] := by
  cases k with
  | zero => rfl
  | succ k =>
    unfold Lib.splitK
    rw [ix_ne d c t h]
    by_cases hm : Lib.index t [c] = -1
    · simp [hm]
    · have hge := Lib.index_ge t [c]
      obtain ⟨j, hj⟩ : ∃ j : Nat, Lib.index t [c] = j := ⟨(Lib.index t [c]).toNat, by omega⟩
      have h1 : ((j : Int) == -1) = false := by rw [beq_eq_false_iff_ne]; omega
      have h2 : (((j : Int) + 1) == -1) = false := by rw [beq_eq_false_iff_ne]; omega
      have h3 : ((j : Int) + 1).toNat = j + 1 := by omega
      rw [hj]
      simp [h1, h2, h3]
theorem splitK_lines : ∀ (s : Bs), Lib.splitK [10] 0 (Lib.count s [10]) s = lines s
  | [] => rfl
  | c :: t => by
    by_cases h : c = 10
    · subst h
      rw [Lib.count_cons_eq, Nat.add_comm, Lib.splitK, ix_eq, lines, if_pos rfl, ← splitK_lines t]
      simp
    · rw [Lib.count_cons_ne _ _ _ h, splitK_ne 10 c t h, lines, if_neg h, splitK_lines t]
      cases lines t <;> rfl
theorem splitB_lines (s : ByteArray) : (Lib.splitB ⟨#[10]⟩ 0 (Lib.countB s ⟨#[10]⟩) s).map (·.data.toList) = lines s.data.toList := by
  rw [Lib.splitB_data]
  exact splitK_lines _
theorem cut_head : ∀ (s : Bs), (Lib.cut s [35]).1 = cutH s
  | [] => by simp [Lib.cut, ix_nil, cutH]
  | c :: t => by
    by_cases h : c = 35
    · subst h
      simp [Lib.cut, ix_eq, cutH]
    · have ih := cut_head t
      unfold Lib.cut at ih ⊢
      rw [ix_ne c 35 t h, cutH, if_neg h]
      by_cases hm : Lib.index t [35] = -1
      · simp [hm] at ih ⊢; exact ih
      · have hge := Lib.index_ge t [35]
        obtain ⟨j, hj⟩ : ∃ j : Nat, Lib.index t [35] = j := ⟨(Lib.index t [35]).toNat, by omega⟩
        have h1 : ((j : Int) == -1) = false := by rw [beq_eq_false_iff_ne]; omega
        have h3 : ((j : Int) + 1).toNat = j + 1 := by omega
        rw [hj] at ih ⊢
        rw [if_pos (by omega)] at ih
        simp only [h1]
        simp only [Bool.false_eq_true, if_false]
        rw [if_pos (by omega), h3]
        simp at ih ⊢
        exact ih
def isSp (r : Nat) : Bool := decide (r = 32)
def ext (l : Bs) (a b : Nat) : Bs := (l.drop a).take (b - a)
def openP (l : Bs) (st : Option Nat) (pos : Nat) : Bs := match st with | some a => ext l a pos | none => []
theorem extract_ext (s : ByteArray) (a b : Nat) : (s.extract a b).data.toList = ext s.data.toList a b := by
  rw [Lib.extract_data]; rfl
theorem ext_snoc (l : Bs) (a pos : Nat) (h : a ≤ pos) (hp : pos < l.length) : ext l a (pos + 1) = ext l a pos ++ [l[pos]] := by
  unfold ext
  rw [show pos + 1 - a = (pos - a) + 1 by omega, List.take_add_one, List.getElem?_drop, show a + (pos - a) = pos by omega, List.getElem?_eq_getElem hp]
  rfl
theorem ext_ne (l : Bs) (a pos : Nat) (h : a < pos) (hp : pos ≤ l.length) : ext l a pos ≠ [] := by
  intro h0
  have := congrArg List.length h0
  unfold ext at this
  rw [List.length_take, List.length_drop] at this
  simp at this
  omega
theorem spans_words (s : ByteArray) (has : ∀ c ∈ s.data.toList, c.toNat < 128) : ∀ (f pos : Nat) (st : Option Nat) (acc : List (Nat × Nat)), s.size ≤ pos + f → pos ≤ s.size → (∀ a, st = some a → a < pos) →
    (Lib.closeSpans s (Lib.spansFromP isSp s f pos st acc)).map (fun p => ext s.data.toList p.1 p.2) = acc.map (fun p => ext s.data.toList p.1 p.2) ++ wordsGo (openP s.data.toList st pos) (s.data.toList.drop pos) := by
  have hsz : s.size = s.data.toList.length := Lib.size_eq s
  intro f
  induction f with
  | zero =>
    intro pos st acc h hp hst
    obtain rfl : pos = s.size := by omega
    rw [List.drop_eq_nil_of_le (by omega), wordsGo_end, Lib.spansFromP]
    cases st with
    | none => simp [Lib.closeSpans, openP]
    | some a =>
      have := ext_ne s.data.toList a s.size (hst a rfl) (by omega)
      simp [Lib.closeSpans, openP, this]
  | succ f ih =>
    intro pos st acc h hp hst
    by_cases hlt : pos < s.size
    · have hl : pos < s.data.toList.length := by omega
      have hb : (s[pos]'hlt) = s.data.toList[pos] := rfl
      have hdec := Lib.spansFromP_end
      have hd : Utf8.decode s pos = ((s.data.toList[pos]).toNat, 1) := by
        rw [decode_ascii s pos hlt (by rw [hb]; exact has _ (List.getElem_mem hl)), hb]
      unfold Lib.spansFromP
      rw [if_pos hlt, hd, List.drop_eq_getElem_cons hl, wordsGo]
      simp only
      by_cases hc : s.data.toList[pos] = 32
      · rw [if_pos (show isSp (s.data.toList[pos]).toNat = true by rw [hc]; rfl), if_pos hc]
        cases st with
        | none =>
          simp only
          rw [ih (pos + 1) none acc (by omega) (by omega) (by simp)]
          simp [openP]
        | some a =>
          have hne := ext_ne s.data.toList a pos (hst a rfl) (by omega)
          simp only
          rw [ih (pos + 1) none _ (by omega) (by omega) (by simp)]
          simp [openP, hne]
      · have hsp : ¬ isSp (s.data.toList[pos]).toNat = true := by
          unfold isSp
          rw [decide_eq_true_eq]
          intro e
          exact hc (UInt8.toNat_inj.1 e)
        rw [if_neg hsp, if_neg hc]
        cases st with
        | none =>
          simp only
          rw [ih (pos + 1) (some pos) acc (by omega) (by omega) (fun a ha => by cases ha; omega)]
          have := ext_snoc s.data.toList pos pos (by omega) hl
          rw [show openP s.data.toList (some pos) (pos + 1) = ext s.data.toList pos (pos + 1) from rfl, this]
          simp [openP, ext]
        | some a =>
          simp only
          rw [ih (pos + 1) (some a) acc (by omega) (by omega) (fun b hb => by cases hb; have := hst a rfl; omega)]
          have := ext_snoc s.data.toList a pos (by have := hst a rfl; omega) hl
          rw [show openP s.data.toList (some a) (pos + 1) = ext s.data.toList a (pos + 1) from rfl, this]
          rfl
    · obtain rfl : pos = s.size := by omega
      rw [Lib.spansFromP_end _ _ _ _ _ _ hlt, List.drop_eq_nil_of_le (by omega), wordsGo_end]
      cases st with
      | none => simp [Lib.closeSpans, openP]
      | some a =>
        have := ext_ne s.data.toList a s.size (hst a rfl) (by omega)
        simp [Lib.closeSpans, openP, this]
theorem fields_words (s : ByteArray) (has : ∀ c ∈ s.data.toList, c.toNat < 128) : (Lib.goFieldsP isSp s).map (·.data.toList) = wordsGo [] s.data.toList := by
  have := spans_words s has s.size 0 none [] (by omega) (by omega) (by simp)
  unfold Lib.goFieldsP Lib.spansOfP
  rw [List.map_map]
  simp only [List.drop_zero, List.map_nil, List.nil_append] at this
  rw [show openP s.data.toList none 0 = [] from rfl] at this
  rw [← this]
  refine List.map_congr_left (fun p _ => ?_)
  exact extract_ext s p.1 p.2
/-- A byte that isn't ASCII is read with bytes alone that are none. -/
theorem decode_skip (s : ByteArray) (pos : Nat) (h : pos < s.size) (ha : 128 ≤ (s[pos]'h).toNat) : ∀ j, pos ≤ j → j < pos + (Utf8.decode s pos).2 → ∃ hj : j < s.size, 128 ≤ (s[j]'hj).toNat := by
  have hg : ∀ j (hj : j < s.size), (s.get! j) = s[j]'hj := fun j hj => by
    obtain ⟨d⟩ := s
    show d[j]! = d[j]'hj
    exact getElem!_pos d j hj
  intro j h1 h2
  rw [Lib.decode_at] at h2
  have h0 : 128 ≤ (s.get! pos).toNat := by rw [hg pos h]; exact ha
  generalize hb0 : (s.get! pos).toNat = b0 at h2 h0
  generalize hb1 : (s.get! (pos + 1)).toNat = b1 at h2
  generalize hb2 : (s.get! (pos + 2)).toNat = b2 at h2
  generalize hb3 : (s.get! (pos + 3)).toNat = b3 at h2
  have key : j = pos ∨ (j = pos + 1 ∧ 1 < s.size - pos ∧ 128 ≤ b1) ∨ (j = pos + 2 ∧ 2 < s.size - pos ∧ 128 ≤ b2) ∨ (j = pos + 3 ∧ 3 < s.size - pos ∧ 128 ≤ b3) := by
    unfold Lib.decodeN at h2
    rw [if_neg (by omega)] at h2
    split at h2
    · rename_i hc
      split at h2 <;> simp only at h2 <;> omega
    split at h2
    · rename_i hc
      split at h2 <;> simp only at h2 <;> omega
    split at h2
    · rename_i hc
      split at h2 <;> simp only at h2 <;> omega
    · simp only at h2; omega
  rcases key with rfl | ⟨rfl, hl, hb⟩ | ⟨rfl, hl, hb⟩ | ⟨rfl, hl, hb⟩
  · exact ⟨h, ha⟩
  · exact ⟨by omega, by rw [← hg (pos + 1) (by omega), hb1]; exact hb⟩
  · exact ⟨by omega, by rw [← hg (pos + 2) (by omega), hb2]; exact hb⟩
  · exact ⟨by omega, by rw [← hg (pos + 3) (by omega), hb3]; exact hb⟩
end Go.Proofs.YthjbenjnhdgalaaDoor
