/- What Tidy leaves, if names stand once and ways go forward: lists alone. -/
import Derived.Test.YtcageojoafkojaaJuS
namespace Go.Proofs.Ytcageojoafkojaa.Ju
def HasN (n : Int) (l : List PtM) : Prop := ∃ p ∈ l, p.kd = 1 ∧ p.to = n
def WayTo (p : PtM) (n : Int) : Prop := (p.kd = 3 ∧ (p.to = n ∨ p.el = n)) ∨ (p.kd = 4 ∧ p.to = n)
def Fwd : List PtM → Prop
  | [] => True
  | p :: t => Fwd t ∧ (p.kd = 1 → ¬ HasN p.to t) ∧ (∀ n, WayTo p n → HasN n t)
theorem has_nil (n : Int) : ¬ HasN n [] := fun ⟨_, h, _⟩ => by cases h
theorem has_cons {n : Int} {p : PtM} {t : List PtM} : HasN n (p :: t) ↔ (p.kd = 1 ∧ p.to = n) ∨ HasN n t := by
  constructor
  · rintro ⟨q, hq, h1, h2⟩
    rcases List.mem_cons.1 hq with rfl | hq
    · exact Or.inl ⟨h1, h2⟩
    · exact Or.inr ⟨q, hq, h1, h2⟩
  · rintro (⟨h1, h2⟩ | ⟨q, hq, h1, h2⟩)
    · exact ⟨p, List.mem_cons_self, h1, h2⟩
    · exact ⟨q, List.mem_cons_of_mem _ hq, h1, h2⟩
theorem fwd_way : ∀ {l : List PtM} {p : PtM} {n : Int}, Fwd l → p ∈ l → WayTo p n → HasN n l
  | q :: t, p, n, h, hp, hw => by
    rcases List.mem_cons.1 hp with rfl | hp
    · exact has_cons.2 (Or.inr (h.2.2 n hw))
    · exact has_cons.2 (Or.inr (fwd_way h.1 hp hw))
/-! Leading, from the end. -/
def leadR : List PtM → LdM
  | [] => ⟨[], [], zPt⟩
  | p :: t => if p.kd = 1 then (if (leadR t).nx.kd = 4 then ⟨p :: (leadR t).l, (p.to, (leadR t).nx.to) :: (leadR t).o, (leadR t).nx⟩ else ⟨p :: (leadR t).l, (leadR t).o, (leadR t).nx⟩)
    else ⟨ledP (leadR t).o p :: (leadR t).l, (leadR t).o, ledP (leadR t).o p⟩
theorem lead_rec (l : List PtM) : ∀ (d m : Nat), m + d = l.length → (List.range' m d).foldr (fun k s => leadS s k) ⟨l, [], zPt⟩ = ⟨l.take m ++ (leadR (l.drop m)).l, (leadR (l.drop m)).o, (leadR (l.drop m)).nx⟩
  | 0, m, h => by
    rw [List.drop_of_length_le (by omega), List.take_of_length_le (by omega)]
    simp [leadR]
  | d + 1, m, h => by
    rw [List.range'_succ, List.foldr_cons, lead_rec l d (m + 1) (by omega)]
    obtain ⟨p, hp⟩ : ∃ p, l[m]? = some p := ⟨_, List.getElem?_eq_getElem (by omega)⟩
    obtain ⟨h1, h2⟩ := List.getElem?_eq_some_iff.1 hp
    have hd : l.drop m = p :: l.drop (m + 1) := by rw [List.drop_eq_getElem_cons h1, h2]
    have ht : l.take (m + 1) = l.take m ++ [p] := by rw [List.take_add_one, hp]; rfl
    rw [hd, ht]
    have hat : (l.take m ++ [p] ++ (leadR (l.drop (m + 1))).l)[m]? = some p := by
      rw [List.append_assoc, List.getElem?_append_right (by rw [List.length_take]; omega), List.length_take, show m - min m l.length = 0 from by omega]; rfl
    have hset : ∀ q, (l.take m ++ [p] ++ (leadR (l.drop (m + 1))).l).set m q = l.take m ++ q :: (leadR (l.drop (m + 1))).l := fun q => by
      rw [List.append_assoc, List.set_append_right _ _ (by rw [List.length_take]; omega), List.length_take, show m - min m l.length = 0 from by omega]; rfl
    unfold leadS
    simp only [hat]
    rw [show leadR (p :: l.drop (m + 1)) = if p.kd = 1 then (if (leadR (l.drop (m + 1))).nx.kd = 4 then ⟨p :: (leadR (l.drop (m + 1))).l, (p.to, (leadR (l.drop (m + 1))).nx.to) :: (leadR (l.drop (m + 1))).o, (leadR (l.drop (m + 1))).nx⟩ else ⟨p :: (leadR (l.drop (m + 1))).l, (leadR (l.drop (m + 1))).o, (leadR (l.drop (m + 1))).nx⟩)
      else ⟨ledP (leadR (l.drop (m + 1))).o p :: (leadR (l.drop (m + 1))).l, (leadR (l.drop (m + 1))).o, ledP (leadR (l.drop (m + 1))).o p⟩ from rfl]
    by_cases k1 : p.kd = 1
    · rw [if_pos k1, if_pos k1]
      by_cases k4 : (leadR (l.drop (m + 1))).nx.kd = 4
      · rw [if_pos k4, if_pos k4]; simp
      · rw [if_neg k4, if_neg k4]; simp
    · rw [if_neg k1, if_neg k1, hset]
theorem leadF_rec (l : List PtM) : leadF l = (leadR l).l := by
  unfold leadF
  rw [List.foldl_reverse, List.range_eq_range', lead_rec l l.length 0 (by omega)]
  simp
theorem led_kd (o : List (Int × Int)) (p : PtM) : (ledP o p).kd = p.kd := by
  unfold ledP
  split
  · rfl
  · split <;> rfl
theorem cnt_pos {n t : Int} : ∀ {o : List (Int × Int)}, lk n o = some t → 0 < cnt o
  | [], h => by simp [lk] at h
  | (m, v) :: o, h => by
    unfold cnt
    split
    · rename_i h2
      obtain ⟨v2, hv2⟩ := Option.isSome_iff_exists.1 h2
      exact cnt_pos (n := m) (t := v2) hv2
    · omega
def InvO (o : List (Int × Int)) : Prop := ∀ n t, lk n o = some t → lk t o = none
theorem end_one {o : List (Int × Int)} (h : InvO o) (n : Int) : (lk n o = none ∧ endF o n = n) ∨ (∃ t, lk n o = some t ∧ endF o n = t) := by
  unfold endF
  cases hl : lk n o with
  | none =>
    refine Or.inl ⟨rfl, ?_⟩
    cases cnt o with
    | zero => rfl
    | succ k => unfold endN; rw [hl]
  | some t =>
    refine Or.inr ⟨t, rfl, ?_⟩
    have := cnt_pos hl
    obtain ⟨k, hk⟩ : ∃ k, cnt o = k + 1 := ⟨cnt o - 1, by omega⟩
    rw [hk]
    unfold endN
    rw [hl]
    simp only
    cases k with
    | zero => rfl
    | succ k => unfold endN; rw [h n t hl]
theorem end_none {o : List (Int × Int)} (h : InvO o) (n : Int) : lk (endF o n) o = none := by
  rcases end_one h n with ⟨h1, h2⟩ | ⟨t, h1, h2⟩
  · rw [h2]; exact h1
  · rw [h2]; exact h n t h1
theorem way_led {o : List (Int × Int)} {p : PtM} {n : Int} (h : WayTo (ledP o p) n) : ∃ m, WayTo p m ∧ n = endF o m := by
  unfold ledP at h
  by_cases h3 : p.kd = 3
  · rw [if_pos h3] at h
    rcases h with ⟨_, h | h⟩ | ⟨h, _⟩
    · exact ⟨p.to, Or.inl ⟨h3, Or.inl rfl⟩, h.symm⟩
    · exact ⟨p.el, Or.inl ⟨h3, Or.inr rfl⟩, h.symm⟩
    · simp only at h; omega
  · rw [if_neg h3] at h
    by_cases h4 : p.kd = 4
    · rw [if_pos h4] at h
      rcases h with ⟨h, _⟩ | ⟨_, h⟩
      · simp only at h; omega
      · exact ⟨p.to, Or.inr ⟨h4, rfl⟩, h.symm⟩
    · rw [if_neg h4] at h
      rcases h with ⟨h, _⟩ | ⟨h, _⟩
      · exact absurd h h3
      · exact absurd h h4
/-- What leading leaves. -/
structure LdI (z : List PtM) (s : LdM) : Prop where
  inv : InvO s.o
  keys : ∀ n t, lk n s.o = some t → HasN n z ∧ HasN t z
  has : ∀ n, HasN n s.l ↔ HasN n z
  fwd : Fwd s.l
  ways : ∀ p ∈ s.l, ∀ n, WayTo p n → lk n s.o = none
  nx : s.nx.kd = 4 → HasN s.nx.to z ∧ lk s.nx.to s.o = none
theorem lead_inv : ∀ {z : List PtM}, Fwd z → LdI z (leadR z)
  | [], _ => ⟨fun n t h => by simp [leadR, lk] at h, fun n t h => by simp [leadR, lk] at h, fun n => Iff.rfl, trivial, fun p hp => by simp [leadR] at hp, fun h => by simp [leadR, zPt] at h⟩
  | p :: t, h => by
    obtain ⟨h1, h2, h3⟩ := h
    have ih := lead_inv h1
    obtain ⟨s, hs⟩ : ∃ s, s = leadR t := ⟨_, rfl⟩
    rw [← hs] at ih
    have hup : ∀ {n : Int}, HasN n t → HasN n (p :: t) := fun a => has_cons.2 (Or.inr a)
    by_cases k1 : p.kd = 1
    · have hp := h2 k1
      have hfw : Fwd (p :: s.l) := ⟨ih.fwd, fun _ a => hp ((ih.has _).1 a), fun n a => by rcases a with ⟨a, _⟩ | ⟨a, _⟩ <;> omega⟩
      have hhas : ∀ n, HasN n (p :: s.l) ↔ HasN n (p :: t) := fun n => by rw [has_cons, has_cons, ih.has]
      have hnw : ∀ n, ¬ WayTo p n := fun n a => by rcases a with ⟨a, _⟩ | ⟨a, _⟩ <;> omega
      by_cases k4 : s.nx.kd = 4
      · rw [show leadR (p :: t) = ⟨p :: s.l, (p.to, s.nx.to) :: s.o, s.nx⟩ by unfold leadR; rw [if_pos k1, ← hs, if_pos k4]]
        obtain ⟨a1, a2⟩ := ih.nx k4
        have ne : ∀ {n : Int}, HasN n t → p.to ≠ n := fun a e => hp (by rw [e]; exact a)
        have hno : ∀ {n : Int}, HasN n t → lk n ((p.to, s.nx.to) :: s.o) = lk n s.o := fun a => by rw [lk_cons, if_neg (ne a)]
        refine ⟨fun n u hu => ?_, fun n u hu => ?_, hhas, hfw, fun q hq n hw => ?_, fun _ => ⟨hup a1, by rw [hno a1]; exact a2⟩⟩
        · rw [lk_cons] at hu
          split at hu
          · cases hu; rw [hno a1]; exact a2
          · rw [hno (ih.keys n u hu).2]; exact ih.inv n u hu
        · rw [lk_cons] at hu
          split at hu
          · rename_i e; cases hu; exact ⟨has_cons.2 (Or.inl ⟨k1, e⟩), hup a1⟩
          · exact ⟨hup (ih.keys n u hu).1, hup (ih.keys n u hu).2⟩
        · rcases List.mem_cons.1 hq with rfl | hq
          · exact absurd hw (hnw n)
          · rw [hno ((ih.has n).1 (fwd_way ih.fwd hq hw))]; exact ih.ways q hq n hw
      · rw [show leadR (p :: t) = ⟨p :: s.l, s.o, s.nx⟩ by unfold leadR; rw [if_pos k1, ← hs, if_neg k4]]
        refine ⟨ih.inv, fun n u hu => ⟨hup (ih.keys n u hu).1, hup (ih.keys n u hu).2⟩, hhas, hfw, fun q hq n hw => ?_, fun a => absurd a k4⟩
        rcases List.mem_cons.1 hq with rfl | hq
        · exact absurd hw (hnw n)
        · exact ih.ways q hq n hw
    · rw [show leadR (p :: t) = ⟨ledP s.o p :: s.l, s.o, ledP s.o p⟩ by unfold leadR; rw [if_neg k1, ← hs]]
      have hk : (ledP s.o p).kd ≠ 1 := by rw [led_kd]; exact k1
      have hw : ∀ n, WayTo (ledP s.o p) n → HasN n t ∧ lk n s.o = none := fun n a => by
        obtain ⟨m, hm, rfl⟩ := way_led a
        refine ⟨?_, end_none ih.inv m⟩
        rcases end_one ih.inv m with ⟨_, e⟩ | ⟨u, e1, e2⟩
        · rw [e]; exact h3 m hm
        · rw [e2]; exact (ih.keys m u e1).2
      refine ⟨ih.inv, fun n u hu => ⟨hup (ih.keys n u hu).1, hup (ih.keys n u hu).2⟩, fun n => ?_, ⟨ih.fwd, fun a => absurd a hk, fun n a => (ih.has n).2 (hw n a).1⟩, fun q hq n a => ?_, fun a => ?_⟩
      · rw [has_cons, has_cons, ih.has]
        constructor
        · rintro (⟨a, _⟩ | a)
          · exact absurd a hk
          · exact Or.inr a
        · rintro (⟨a, _⟩ | a)
          · exact absurd a k1
          · exact Or.inr a
      · rcases List.mem_cons.1 hq with rfl | hq
        · exact (hw n a).2
        · exact ih.ways q hq n a
      · have := hw (ledP s.o p).to (Or.inr ⟨a, rfl⟩)
        exact ⟨hup this.1, this.2⟩
/-- The first part that is no name. -/
def nextP : List PtM → Option PtM
  | [] => none
  | p :: t => if p.kd = 1 then nextP t else some p
/-- A name before a Goto. -/
def BadH (n : Int) : List PtM → Prop
  | [] => False
  | p :: t => (p.kd = 1 ∧ p.to = n ∧ ∃ q, nextP t = some q ∧ q.kd = 4) ∨ BadH n t
theorem lead_next : ∀ (z : List PtM), (∀ q, nextP (leadR z).l = some q → (leadR z).nx = q)
  | [], q, h => by simp [leadR, nextP] at h
  | p :: t, q, h => by
    have ih := lead_next t
    by_cases k1 : p.kd = 1
    · by_cases k4 : (leadR t).nx.kd = 4
      · have e : leadR (p :: t) = ⟨p :: (leadR t).l, (p.to, (leadR t).nx.to) :: (leadR t).o, (leadR t).nx⟩ := by conv => lhs; unfold leadR; rw [if_pos k1, if_pos k4]
        rw [e] at h ⊢
        exact ih q (by simpa [nextP, k1] using h)
      · have e : leadR (p :: t) = ⟨p :: (leadR t).l, (leadR t).o, (leadR t).nx⟩ := by conv => lhs; unfold leadR; rw [if_pos k1, if_neg k4]
        rw [e] at h ⊢
        exact ih q (by simpa [nextP, k1] using h)
    · have e : leadR (p :: t) = ⟨ledP (leadR t).o p :: (leadR t).l, (leadR t).o, ledP (leadR t).o p⟩ := by conv => lhs; unfold leadR; rw [if_neg k1]
      rw [e] at h ⊢
      have hk : (ledP (leadR t).o p).kd ≠ 1 := by rw [led_kd]; exact k1
      simpa [nextP, hk] using h
theorem lead_bad : ∀ (z : List PtM) (n : Int), BadH n (leadR z).l → lk n (leadR z).o ≠ none
  | [], n, h => by simp [leadR, BadH] at h
  | p :: t, n, h => by
    have ih := lead_bad t n
    by_cases k1 : p.kd = 1
    · by_cases k4 : (leadR t).nx.kd = 4
      · have e : leadR (p :: t) = ⟨p :: (leadR t).l, (p.to, (leadR t).nx.to) :: (leadR t).o, (leadR t).nx⟩ := by conv => lhs; unfold leadR; rw [if_pos k1, if_pos k4]
        rw [e] at h ⊢
        simp only [lk_cons]
        by_cases en : p.to = n
        · rw [if_pos en]; simp
        · rw [if_neg en]
          rcases h with ⟨_, h, _⟩ | h
          · exact absurd h en
          · exact ih h
      · have e : leadR (p :: t) = ⟨p :: (leadR t).l, (leadR t).o, (leadR t).nx⟩ := by conv => lhs; unfold leadR; rw [if_pos k1, if_neg k4]
        rw [e] at h ⊢
        rcases h with ⟨_, _, q, hq, h4⟩ | h
        · exact absurd (by rw [lead_next t q hq]; exact h4) k4
        · exact ih h
    · have e : leadR (p :: t) = ⟨ledP (leadR t).o p :: (leadR t).l, (leadR t).o, ledP (leadR t).o p⟩ := by conv => lhs; unfold leadR; rw [if_neg k1]
      rw [e] at h ⊢
      have hk : (ledP (leadR t).o p).kd ≠ 1 := by rw [led_kd]; exact k1
      rcases h with ⟨h, _⟩ | h
      · exact absurd h hk
      · exact ih h
end Go.Proofs.Ytcageojoafkojaa.Ju

