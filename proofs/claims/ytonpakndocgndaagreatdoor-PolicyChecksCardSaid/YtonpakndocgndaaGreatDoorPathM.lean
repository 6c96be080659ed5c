/- Paths by lists alone: what a path is parted into, what may be a part; the document's way, byte by byte. -/
import Derived.Test.YtonpakndocgndaaGreatDoorLexM
import Derived.Lib.SplitLaws
import Derived.Lib.IndexMore
namespace Go.Proofs.YtonpakndocgndaaGreatDoor
/-- Parts: the text parted at each /. -/
def parts : Bs → List Bs
  | [] => [[]]
  | c :: t => if c = 47 then [] :: parts t else match parts t with | h :: r => (c :: h) :: r | [] => [[c]]
theorem parts_ne (s : Bs) : parts s ≠ [] := by
  cases s with
  | nil => simp [parts]
  | cons c t =>
    unfold parts
    split
    · simp
    · split <;> simp
theorem pix_eq (c : UInt8) (t : Bs) : Lib.index (c :: t) [c] = 0 := by simp [Lib.index, List.isPrefixOf]
theorem pix_ne (b c : UInt8) (t : Bs) (h : b ≠ c) : Lib.index (b :: t) [c] = if Lib.index t [c] == -1 then -1 else Lib.index t [c] + 1 := by
  have hp : ([c] : List UInt8).isPrefixOf (b :: t) = false := by simp [List.isPrefixOf, Ne.symm h]
  rw [Lib.index, hp]; simp
theorem psplitK_ne (c d : UInt8) (t : Bs) (h : d ≠ c) (k : Nat) : Lib.splitK [c] 0 k (d :: t) = match Lib.splitK [c] 0 k t with | a :: r => (d :: a) :: r | [] => [[d]] := by
  cases k with
  | zero => rfl
  | succ k =>
    unfold Lib.splitK
    rw [pix_ne d c t h]
    by_cases hm : Lib.index t [c] = -1
    · simp [hm]
    · have hge := Lib.index_ge t [c]
      obtain ⟨j, hj⟩ : ∃ j : Nat, Lib.index t [c] = j := ⟨(Lib.index t [c]).toNat, by omega⟩
      have h1 : ((j : Int) == -1) = false := by rw [beq_eq_false_iff_ne]; omega
      have h2 : (((j : Int) + 1) == -1) = false := by rw [beq_eq_false_iff_ne]; omega
      have h3 : ((j : Int) + 1).toNat = j + 1 := by omega
      rw [hj]
      simp [h1, h2, h3]
theorem splitK_parts : ∀ (s : Bs), Lib.splitK [47] 0 (Lib.count s [47]) s = parts s
  | [] => rfl
  | c :: t => by
    by_cases h : c = 47
    · subst h
      rw [Lib.count_cons_eq, Nat.add_comm, Lib.splitK, pix_eq, parts, if_pos rfl, ← splitK_parts t]
      simp
    · rw [Lib.count_cons_ne _ _ _ h, psplitK_ne 47 c t h, parts, if_neg h, splitK_parts t]
      cases parts t <;> rfl
theorem splitB_parts (s : ByteArray) : (Lib.splitB ⟨#[47]⟩ 0 (Lib.countB s ⟨#[47]⟩) s).map (·.data.toList) = parts s.data.toList := by
  rw [Lib.splitB_data]
  exact splitK_parts _
theorem parts_len (s : Bs) : (parts s).length ≤ s.length + 1 := by
  induction s with
  | nil => simp [parts]
  | cons c t ih =>
    unfold parts
    split
    · simp; omega
    · split
      · rename_i h r e; rw [e] at ih; simp at ih ⊢; omega
      · simp
theorem parts_mem (s : Bs) : ∀ l ∈ parts s, l.length ≤ s.length := by
  induction s with
  | nil => simp [parts]
  | cons c t ih =>
    unfold parts
    split
    · intro l hl
      rcases List.mem_cons.1 hl with rfl | hl
      · simp
      · have := ih l hl; simp; omega
    · split
      · rename_i h r e
        rw [e] at ih
        intro l hl
        rcases List.mem_cons.1 hl with rfl | hl
        · have := ih h (by simp); simp; omega
        · have := ih l (by simp [hl]); simp; omega
      · intro l hl; simp at hl; subst hl; simp
/-- May a text's ends not be a part's: empty, . or .., or longer than fourteen. -/
def endB (t : Bs) : Bool := decide (t = []) || (decide (t = [46]) || (decide (t = [46, 46]) || decide (14 < t.length)))
/-- May it not be a part? -/
def noB (t : Bs) : Bool := endB t || !(t.all fun c => prn c.toNat)
def pathB (s : Bs) : Bool := match s with | [] => false | c :: t => decide (c = 47) && (decide (s.length ≤ 120) && (decide (t = []) || !(parts t).any noB))
/-- The document's way. -/
def goP : Bs → Bs → Bool
  | cur, [] => !endB cur
  | cur, c :: t => if c = 47 then !endB cur && goP [] t else prn c.toNat && goP (cur ++ [c]) t
/-- The first part with a text ahead of it. -/
def onto (cur : Bs) : List Bs → List Bs
  | h :: r => (cur ++ h) :: r
  | [] => [cur]
theorem goP_parts : ∀ (t cur : Bs), (cur.all fun c => prn c.toNat) = true → goP cur t = !(onto cur (parts t)).any noB
  | [], cur, h => by simp [goP, parts, onto, noB, h]
  | c :: t, cur, h => by
    have hn := parts_ne t
    by_cases hc : c = 47
    · subst hc
      have ih := goP_parts t [] rfl
      cases hp : parts t with
      | nil => exact absurd hp hn
      | cons a r =>
        rw [hp] at ih
        simp [goP, parts, onto, noB, h, ih, hp, onto]
    · rw [goP, if_neg hc, parts, if_neg hc]
      cases hp : parts t with
      | nil => exact absurd hp hn
      | cons a r =>
        simp only [onto]
        by_cases hq : prn c.toNat = true
        · rw [goP_parts t (cur ++ [c]) (by simp [h, hq]), hp]
          simp [onto, hq]
        · have hq' : prn c.toNat = false := by simpa using hq
          simp [noB, hq', List.all_append]
theorem onto_nil {l : List Bs} (h : l ≠ []) : onto [] l = l := by
  cases l with
  | nil => exact absurd rfl h
  | cons a r => rfl
theorem pathB_go (t : Bs) (h : (47 :: t).length ≤ 120) (hne : t ≠ []) : pathB (47 :: t) = goP [] t := by
  have h2 : (47 :: t : Bs).length ≤ 120 := h
  rw [goP_parts t [] rfl, onto_nil (parts_ne t)]
  unfold pathB
  simp only [h2, hne, decide_true, decide_false, Bool.true_and, Bool.false_or]
/-- A part's first bad byte, or none. -/
theorem noB_all {t : Bs} (he : endB t = false) (h : ∀ c ∈ t, prn c.toNat = true) : noB t = false := by
  unfold noB
  rw [he, Bool.false_or, Bool.not_eq_false']
  exact List.all_eq_true.2 h
theorem noB_bad {t : Bs} {c : UInt8} (hm : c ∈ t) (h : prn c.toNat = false) : noB t = true := by
  unfold noB
  rw [Bool.or_eq_true, Bool.not_eq_true', List.all_eq_false]
  exact .inr ⟨c, hm, by simp [h]⟩
theorem noB_end {t : Bs} (he : endB t = true) : noB t = true := by unfold noB; rw [he]; rfl
end Go.Proofs.YtonpakndocgndaaGreatDoor
