/- Small parts made to parts; they can be made to code; names are names alone. Lists alone. -/
import Derived.Test.YtcageojoafkojaaJuO
namespace Go.Proofs.Ytcageojoafkojaa.Ju
def zI : Ins := ⟨0, 0, 0, 0⟩
def wayN (h : Nat) : Nat := if h = 0 then 16 else if h = 1 then 32 else if h = 2 then 48 else 64
def toF (i : Nat) (p : SmP) : Nat := if p.kd % 2 = 1 ∧ p.kd % 3 = 0 then 100 + i else 1 + p.tt % 6
def elF (i : Nat) (p : SmP) : Nat := if p.kd % 2 = 0 then 100 + i else 1 + p.el % 6
def loadP (k : Nat) : PtM := ⟨2, 0, 0, ⟨32, 0, 0, k⟩⟩
def hereP (n : Nat) : PtM := ⟨1, n, 0, zI⟩
def gotoP (n : Nat) : PtM := ⟨4, n, 0, zI⟩
def retP (n : Nat) : PtM := ⟨2, 0, 0, ⟨6, 0, 0, n⟩⟩
def maskP : PtM := ⟨2, 0, 0, ⟨84, 0, 0, 255⟩⟩
def ifP (i : Nat) (p : SmP) : PtM := ⟨3, toF i p, elF i p, ⟨wayN (p.how % 4) + 5, 0, 0, p.k % 4⟩⟩
/-- What one small part becomes. -/
def oneF (i : Nat) (p : SmP) : List PtM :=
  if p.kd % 5 = 0 then [loadP (p.k % 16 * 4)] else if p.kd % 5 = 1 then [gotoP (1 + p.tt % 6)] else [ifP i p, hereP (100 + i)]
def smF : Nat → List SmP → List PtM
  | _, [] => []
  | i, p :: t => oneF i p ++ smF (i + 1) t
/-- A place: so many masks, its name, an answer if it is even. -/
def endP (n : Nat) : List PtM := hereP n :: if n % 2 = 0 then [retP n] else []
def placeF (pad n : Nat) : List PtM := List.replicate pad maskP ++ endP n
def restF (pad : Nat) : Nat → Nat → List PtM
  | _, 0 => [retP 9]
  | n, m + 1 => placeF pad n ++ restF pad (n + 1) m
def partsF (l : List SmP) (pad : Nat) : List PtM := smF 0 (l.take 20) ++ restF pad 1 6
/-- What stands behind is made; the names from n to 6 are there, no lower one, none above 6 but below 100 or from 100 + i on. -/
structure Got (l : List PtM) (n i K : Nat) : Prop where
  ok : (makeF l).1 = 0
  has : ∀ m : Nat, n ≤ m → m ≤ 6 → (lk (m : Int) (makeF l).2.bh).isSome = true
  no : ∀ m : Nat, m < n → lk (m : Int) (makeF l).2.bh = none
  high : ∀ j : Nat, j < i → lk ((100 + j : Nat) : Int) (makeF l).2.bh = none
  len : (makeF l).2.ins.length ≤ K
theorem step_eq {p : PtM} {c : CdM} (h : (layF p c).2.ins.length ≤ 4096) : stepF p (0, c) = layF p c := by
  have e : stepF p (0, c) = if (layF p c).1 ≠ 0 then layF p c else if 4096 < (layF p c).2.ins.length then (205, (layF p c).2) else layF p c := by unfold stepF; rw [if_neg (by simp)]
  rw [e]
  by_cases h1 : (layF p c).1 ≠ 0
  · rw [if_pos h1]
  · rw [if_neg h1, if_neg (by omega)]
theorem step_plain {p : PtM} {l : List PtM} (h : (makeF l).1 = 0) (hk : p.kd = 2) (hc : p.i.c % 8 ≠ 5) (hl : (makeF l).2.ins.length + 1 ≤ 4096) : makeF (p :: l) = (0, ⟨p.i :: (makeF l).2.ins, (makeF l).2.bh⟩) := by
  rw [makeF_cons, show makeF l = (0, (makeF l).2) from Prod.ext h rfl]
  have e : layF p (makeF l).2 = (0, ⟨p.i :: (makeF l).2.ins, (makeF l).2.bh⟩) := by
    unfold layF
    rw [if_neg (by omega), if_pos hk, if_neg hc]
  rw [step_eq (by rw [e]; simpa using hl), e]
theorem step_here {p : PtM} {l : List PtM} (h : (makeF l).1 = 0) (hk : p.kd = 1) (hn : lk p.to (makeF l).2.bh = none) (hl : (makeF l).2.ins.length ≤ 4096) : makeF (p :: l) = (0, ⟨(makeF l).2.ins, (p.to, (makeF l).2.ins.length) :: (makeF l).2.bh⟩) := by
  rw [makeF_cons, show makeF l = (0, (makeF l).2) from Prod.ext h rfl]
  have e : layF p (makeF l).2 = (0, ⟨(makeF l).2.ins, (p.to, (makeF l).2.ins.length) :: (makeF l).2.bh⟩) := by
    unfold layF
    rw [if_pos hk, hn]
  rw [step_eq (by rw [e]; simpa using hl), e]
theorem step_goto {p : PtM} {l : List PtM} (h : (makeF l).1 = 0) (hk : p.kd = 4) (hn : (lk p.to (makeF l).2.bh).isSome = true) (hl : (makeF l).2.ins.length + 1 ≤ 4096) : ∃ x, makeF (p :: l) = (0, ⟨x :: (makeF l).2.ins, (makeF l).2.bh⟩) := by
  obtain ⟨b, hb⟩ := Option.isSome_iff_exists.1 hn
  rw [makeF_cons, show makeF l = (0, (makeF l).2) from Prod.ext h rfl]
  have e : layF p (makeF l).2 = (0, ⟨skipI ((makeF l).2.ins.length - b) :: (makeF l).2.ins, (makeF l).2.bh⟩) := by
    unfold layF
    rw [if_neg (by omega), if_neg (by omega), if_neg (by omega), if_pos hk, hb]
  exact ⟨_, by rw [step_eq (by rw [e]; simpa using hl), e]⟩
theorem step_if {p : PtM} {l : List PtM} (h : (makeF l).1 = 0) (hk : p.kd = 3) (hc : p.i.c % 8 = 5) (hc5 : p.i.c ≠ 5) (hn : (lk p.to (makeF l).2.bh).isSome = true) (hm : (lk p.el (makeF l).2.bh).isSome = true) (hl : (makeF l).2.ins.length + 3 ≤ 4096) :
    ∃ x, makeF (p :: l) = (0, ⟨x, (makeF l).2.bh⟩) ∧ x.length ≤ (makeF l).2.ins.length + 3 := by
  obtain ⟨b, hb⟩ := Option.isSome_iff_exists.1 hn
  obtain ⟨b2, hb2⟩ := Option.isSome_iff_exists.1 hm
  rw [makeF_cons, show makeF l = (0, (makeF l).2) from Prod.ext h rfl]
  have e : layF p (makeF l).2 = (0, ⟨cmpF (makeF l).2.ins p.i b b2, (makeF l).2.bh⟩) := by
    unfold layF
    rw [if_neg (by omega), if_neg (by omega), if_pos hk, if_neg (by omega), hb, hb2]
  have hle := lay_len p (makeF l).2
  rw [e] at hle
  exact ⟨_, by rw [step_eq (by rw [e]; simp only at hle ⊢; omega), e], hle⟩
theorem Got.plain {l : List PtM} {n i K : Nat} (h : Got l n i K) (hK : K + 1 ≤ 4096) {p : PtM} (hk : p.kd = 2) (hc : p.i.c % 8 ≠ 5) : Got (p :: l) n i (K + 1) := by
  have hl := h.len
  have e := step_plain h.ok hk hc (by omega)
  refine ⟨by rw [e], ?_, ?_, ?_, ?_⟩ <;> rw [e] <;> simp only
  · exact h.has
  · exact h.no
  · exact h.high
  · rw [List.length_cons]; omega
theorem Got.here {l : List PtM} {n i K : Nat} (h : Got l (n + 1) i K) (hn : n ≤ 6) (hK : K ≤ 4096) : Got (hereP n :: l) n i K := by
  have hl := h.len
  have e := step_here (p := hereP n) h.ok rfl (h.no n (by omega)) (by omega)
  refine ⟨by rw [e], ?_, ?_, ?_, ?_⟩ <;> rw [e] <;> simp only
  · intro m h1 h2
    rw [lk_cons]
    by_cases hm : m = n
    · subst hm; rw [if_pos (by rfl)]; rfl
    · rw [if_neg (by show ¬ (n : Int) = m; omega)]; exact h.has m (by omega) h2
  · intro m h1
    rw [lk_cons, if_neg (by show ¬ (n : Int) = m; omega)]
    exact h.no m (by omega)
  · intro j hj
    rw [lk_cons, if_neg (by show ¬ (n : Int) = ((100 + j : Nat) : Int); omega)]
    exact h.high j hj
  · exact hl
theorem got_reps {l : List PtM} {n i K : Nat} (h : Got l n i K) : ∀ pad : Nat, K + pad ≤ 4096 → Got (List.replicate pad maskP ++ l) n i (K + pad)
  | 0, _ => by simpa using h
  | pad + 1, hp => by
    have := (got_reps h pad (by omega)).plain (by omega) (p := maskP) rfl (by decide)
    rw [List.replicate_succ]
    exact this
theorem got_end {l : List PtM} {n i K : Nat} (h : Got l (n + 1) i K) (hn : n ≤ 6) (hK : K + 1 ≤ 4096) : Got (endP n ++ l) n i (K + 1) := by
  unfold endP
  by_cases h2 : n % 2 = 0
  · rw [if_pos h2]
    exact (h.plain hK (p := retP n) rfl (by show 6 % 8 ≠ 5; decide)).here hn hK
  · rw [if_neg h2]
    have := h.here hn (by omega)
    exact ⟨this.ok, this.has, this.no, this.high, by have := this.len; simp only [List.cons_append, List.nil_append]; omega⟩
theorem got_rest (pad : Nat) (hp : pad ≤ 260) : ∀ m n : Nat, n + m = 7 → 1 ≤ n → Got (restF pad n m) n 20 (1 + m * (pad + 1))
  | 0, n, hn, _ => by
    have e : makeF (restF pad n 0) = (0, ⟨[⟨6, 0, 0, 9⟩], []⟩) := rfl
    refine ⟨by rw [e], ?_, ?_, ?_, ?_⟩ <;> rw [e]
    · intro m h1 h2; omega
    · intro m h1; rfl
    · intro j hj; rfl
    · simp
  | m + 1, n, hn, h1 => by
    have ih := got_rest pad hp m (n + 1) (by omega) (by omega)
    have hm : m * (pad + 1) ≤ 6 * 261 := Nat.mul_le_mul (by omega) (by omega)
    have := got_reps (got_end ih (by omega) (by omega)) pad (by omega)
    unfold restF placeF
    rw [List.append_assoc, show 1 + (m + 1) * (pad + 1) = 1 + m * (pad + 1) + 1 + pad from by rw [Nat.succ_mul]; omega]
    exact this
theorem got_one {l : List PtM} {i K : Nat} {p : SmP} (h : Got l 1 (i + 1) K) (hK : K + 3 ≤ 4096) : Got (oneF i p ++ l) 1 i (K + 3) := by
  have hl := h.len
  unfold oneF
  by_cases h0 : p.kd % 5 = 0
  · rw [if_pos h0]
    have := h.plain (by omega) (p := loadP (p.k % 16 * 4)) rfl (by show 32 % 8 ≠ 5; decide)
    exact ⟨this.ok, this.has, this.no, fun j hj => this.high j (by omega), by have := this.len; simp only [List.cons_append, List.nil_append]; omega⟩
  rw [if_neg h0]
  by_cases h1 : p.kd % 5 = 1
  · rw [if_pos h1]
    obtain ⟨x, e⟩ := step_goto (p := gotoP (1 + p.tt % 6)) h.ok rfl (h.has _ (by omega) (by omega)) (by omega)
    refine ⟨by rw [List.cons_append, List.nil_append, e], ?_, ?_, ?_, ?_⟩ <;> rw [List.cons_append, List.nil_append, e] <;> simp only
    · exact h.has
    · exact h.no
    · exact fun j hj => h.high j (by omega)
    · rw [List.length_cons]; omega
  rw [if_neg h1]
  have e1 := step_here (p := hereP (100 + i)) h.ok rfl (h.high i (by omega)) (by omega)
  have hat : ∀ m : Nat, 1 ≤ m → m ≤ 6 ∨ m = 100 + i → (lk (m : Int) (makeF (hereP (100 + i) :: l)).2.bh).isSome = true := fun m a b => by
    rw [e1, lk_cons]
    by_cases hm : m = 100 + i
    · subst hm; rw [if_pos (by rfl)]; rfl
    · rw [if_neg (by show ¬ ((100 + i : Nat) : Int) = m; omega)]; exact h.has m a (by omega)
  have hw : (wayN (p.how % 4) + 5) % 8 = 5 ∧ wayN (p.how % 4) + 5 ≠ 5 := by
    unfold wayN; split
    · decide
    · split
      · decide
      · split <;> decide
  obtain ⟨x, e2, hx⟩ := step_if (p := ifP i p) (l := hereP (100 + i) :: l) (by rw [e1]) rfl hw.1 hw.2 (hat _ (by unfold toF; split <;> omega) (by unfold toF; split <;> omega)) (hat _ (by unfold elF; split <;> omega) (by unfold elF; split <;> omega)) (by rw [e1]; simp only; omega)
  rw [e1] at e2 hx
  simp only at e2 hx
  refine ⟨by rw [List.cons_append, List.cons_append, List.nil_append, e2], ?_, ?_, ?_, ?_⟩ <;> rw [List.cons_append, List.cons_append, List.nil_append, e2] <;> simp only
  · intro m a b
    rw [lk_cons, if_neg (by show ¬ ((100 + i : Nat) : Int) = m; omega)]; exact h.has m a b
  · intro m a
    rw [lk_cons, if_neg (by show ¬ ((100 + i : Nat) : Int) = m; omega)]; exact h.no m a
  · intro j hj
    rw [lk_cons, if_neg (by show ¬ ((100 + i : Nat) : Int) = ((100 + j : Nat) : Int); omega)]; exact h.high j (by omega)
  · omega
theorem got_sm {l : List PtM} {K : Nat} : ∀ (t : List SmP) (i : Nat), Got l 1 (i + t.length) K → K + 3 * t.length ≤ 4096 → Got (smF i t ++ l) 1 i (K + 3 * t.length)
  | [], i, h, _ => by simpa [smF] using h
  | p :: t, i, h, hK => by
    rw [List.length_cons] at hK h
    have ih := got_sm t (i + 1) (by rw [show i + 1 + t.length = i + (t.length + 1) from by omega]; exact h) (by omega)
    have := got_one (p := p) ih (by omega)
    unfold smF
    rw [List.append_assoc, List.length_cons, show K + 3 * (t.length + 1) = K + 3 * t.length + 3 from by omega]
    exact this
theorem got_parts (l : List SmP) (pad : Nat) (hp : pad ≤ 260) : (makeF (partsF l pad)).1 = 0 := by
  have h := got_rest pad hp 6 1 (by omega) (by omega)
  have ht : (l.take 20).length ≤ 20 := by rw [List.length_take]; omega
  refine (got_sm (l := restF pad 1 6) (l.take 20) 0 ⟨h.ok, h.has, h.no, fun j hj => h.high j (by omega), h.len⟩ (by omega)).ok
/-- Names told by other names. -/
def renP (f : Int → Int) (p : PtM) : PtM := ⟨p.kd, if p.kd = 2 then p.to else f p.to, if p.kd = 3 then f p.el else p.el, p.i⟩
def renC (f : Int → Int) (c : CdM) : CdM := ⟨c.ins, c.bh.map fun e => (f e.1, e.2)⟩
theorem lk_ren {f : Int → Int} (hf : ∀ x y, f x = f y → x = y) (n : Int) : ∀ b : List (Int × Nat), lk (f n) (b.map fun e => (f e.1, e.2)) = lk n b
  | [] => rfl
  | (m, v) :: t => by
    rw [List.map_cons, lk_cons, lk_cons, lk_ren hf n t]
    by_cases h : m = n
    · rw [if_pos h, if_pos (by rw [h])]
    · rw [if_neg h, if_neg (fun e => h (hf _ _ e))]
theorem lay_ren {f : Int → Int} (hf : ∀ x y, f x = f y → x = y) (p : PtM) (c : CdM) : layF (renP f p) (renC f c) = ((layF p c).1, renC f (layF p c).2) := by
  unfold layF
  by_cases h1 : p.kd = 1
  · rw [if_pos (show (renP f p).kd = 1 from h1), if_pos h1]
    have e : (renP f p).to = f p.to := by unfold renP; rw [if_neg (by omega)]
    rw [e, show (renC f c).bh = c.bh.map fun e => (f e.1, e.2) from rfl, lk_ren hf]
    cases lk p.to c.bh <;> rfl
  rw [if_neg (show ¬ (renP f p).kd = 1 from h1), if_neg h1]
  by_cases h2 : p.kd = 2
  · rw [if_pos (show (renP f p).kd = 2 from h2), if_pos h2]
    show (if p.i.c % 8 = 5 then _ else _) = _
    by_cases h5 : p.i.c % 8 = 5
    · rw [if_pos h5, if_pos h5]
    · rw [if_neg h5, if_neg h5]; rfl
  rw [if_neg (show ¬ (renP f p).kd = 2 from h2), if_neg h2]
  have e : (renP f p).to = f p.to := by unfold renP; rw [if_neg h2]
  by_cases h3 : p.kd = 3
  · rw [if_pos (show (renP f p).kd = 3 from h3), if_pos h3]
    have e' : (renP f p).el = f p.el := by unfold renP; rw [if_pos h3]
    rw [e, e', show (renC f c).bh = c.bh.map fun e => (f e.1, e.2) from rfl, lk_ren hf, lk_ren hf]
    show (if p.i.c % 8 ≠ 5 ∨ p.i.c = 5 then _ else _) = _
    by_cases h5 : p.i.c % 8 ≠ 5 ∨ p.i.c = 5
    · rw [if_pos h5, if_pos h5]
    · rw [if_neg h5, if_neg h5]
      cases lk p.to c.bh <;> cases lk p.el c.bh <;> rfl
  rw [if_neg (show ¬ (renP f p).kd = 3 from h3), if_neg h3]
  by_cases h4 : p.kd = 4
  · rw [if_pos (show (renP f p).kd = 4 from h4), if_pos h4]
    rw [e, show (renC f c).bh = c.bh.map fun e => (f e.1, e.2) from rfl, lk_ren hf]
    cases lk p.to c.bh <;> rfl
  · rw [if_neg (show ¬ (renP f p).kd = 4 from h4), if_neg h4]
theorem step_ren {f : Int → Int} (hf : ∀ x y, f x = f y → x = y) (p : PtM) (r : Nat × CdM) : stepF (renP f p) (r.1, renC f r.2) = ((stepF p r).1, renC f (stepF p r).2) := by
  unfold stepF
  simp only [lay_ren hf]
  split
  · rfl
  · split
    · rfl
    · show (if 4096 < (layF p r.2).2.ins.length then _ else _) = _
      split <;> rfl
theorem make_ren {f : Int → Int} (hf : ∀ x y, f x = f y → x = y) : ∀ l : List PtM, makeF (l.map (renP f)) = ((makeF l).1, renC f (makeF l).2)
  | [] => rfl
  | p :: t => by rw [List.map_cons, makeF_cons, make_ren hf t, step_ren hf, ← makeF_cons]
theorem ren_inj {m : Int} (hm : 1 ≤ m) : ∀ x y : Int, 7000 - x * m = 7000 - y * m → x = y := fun x y h => Int.eq_of_mul_eq_mul_right (a := m) (by omega) (by omega)
end Go.Proofs.Ytcageojoafkojaa.Ju

