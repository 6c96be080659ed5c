/- A plan's code as lists: its parts, their names, their ways. Lists alone. -/
import Derived.Test.YtcageojoafkojaaK15
namespace Go.Proofs.Ytcageojoafkojaa.Lo
open Go.Proofs.Ytcageojoafkojaa.Ju Go.Proofs.Ytcageojoafkojaa.Ir Go.Proofs.Ytcageojoafkojaa.Me
def mkP (m : Nat) : PtM := ⟨2, 0, 0, ⟨84, 0, 0, m⟩⟩
def ifC (c v y n : Nat) : PtM := ⟨3, (y : Int), (n : Int), ⟨c, 0, 0, v⟩⟩
section
variable {n : Int} {t : List PtM} {k c v y z : Nat}
theorem has_load : HasN n (loadP k :: t) ↔ HasN n t := by rw [has_cons]; exact ⟨fun h => h.elim (fun h => by cases h.1) id, Or.inr⟩
theorem has_mk : HasN n (mkP k :: t) ↔ HasN n t := by rw [has_cons]; exact ⟨fun h => h.elim (fun h => by cases h.1) id, Or.inr⟩
theorem has_ret : HasN n (retP k :: t) ↔ HasN n t := by rw [has_cons]; exact ⟨fun h => h.elim (fun h => by cases h.1) id, Or.inr⟩
theorem has_if : HasN n (ifC c v y z :: t) ↔ HasN n t := by rw [has_cons]; exact ⟨fun h => h.elim (fun h => by cases h.1) id, Or.inr⟩
theorem has_here : HasN n (hereP k :: t) ↔ (k : Int) = n ∨ HasN n t := by rw [has_cons]; exact ⟨fun h => h.elim (fun h => Or.inl h.2) Or.inr, fun h => h.elim (fun h => Or.inl ⟨rfl, h⟩) Or.inr⟩
theorem has_nil2 : HasN n [] ↔ False := ⟨has_nil n, False.elim⟩
theorem fwd_load : Fwd (loadP k :: t) ↔ Fwd t := ⟨fun h => h.1, fun h => ⟨h, (fun e => by cases e), (fun m e => by rcases e with ⟨e, _⟩ | ⟨e, _⟩ <;> cases e)⟩⟩
theorem fwd_mk : Fwd (mkP k :: t) ↔ Fwd t := ⟨fun h => h.1, fun h => ⟨h, (fun e => by cases e), (fun m e => by rcases e with ⟨e, _⟩ | ⟨e, _⟩ <;> cases e)⟩⟩
theorem fwd_ret : Fwd (retP k :: t) ↔ Fwd t := ⟨fun h => h.1, fun h => ⟨h, (fun e => by cases e), (fun m e => by rcases e with ⟨e, _⟩ | ⟨e, _⟩ <;> cases e)⟩⟩
theorem fwd_here : Fwd (hereP k :: t) ↔ Fwd t ∧ ¬ HasN (k : Int) t := ⟨fun h => ⟨h.1, h.2.1 rfl⟩, fun h => ⟨h.1, (fun _ => h.2), (fun m e => by rcases e with ⟨e, _⟩ | ⟨e, _⟩ <;> cases e)⟩⟩
theorem fwd_if : Fwd (ifC c v y z :: t) ↔ Fwd t ∧ HasN (y : Int) t ∧ HasN (z : Int) t := ⟨fun h => ⟨h.1, h.2.2 _ (Or.inl ⟨rfl, Or.inl rfl⟩), h.2.2 _ (Or.inl ⟨rfl, Or.inr rfl⟩)⟩, fun h => ⟨h.1, (fun e => by cases e), (fun m e => by
  rcases e with ⟨_, e | e⟩ | ⟨e, _⟩
  · rw [← e]; exact h.2.1
  · rw [← e]; exact h.2.2
  · cases e)⟩⟩
theorem aft_load : aft n (loadP k :: t) = aft n t := aft_other (fun h => by cases h.1)
theorem aft_mk : aft n (mkP k :: t) = aft n t := aft_other (fun h => by cases h.1)
theorem aft_ret : aft n (retP k :: t) = aft n t := aft_other (fun h => by cases h.1)
theorem aft_if : aft n (ifC c v y z :: t) = aft n t := aft_other (fun h => by cases h.1)
theorem aft_here : aft (k : Int) (hereP k :: t) = hereP k :: t := if_pos ⟨rfl, rfl⟩
theorem aft_past (h : (k : Int) ≠ n) : aft n (hereP k :: t) = aft n t := aft_other (fun e => h e.2)
theorem aft_skip : ∀ {e : List PtM}, ¬ HasN n e → aft n (e ++ t) = aft n t
  | [], _ => rfl
  | p :: e, h => by
    rw [List.cons_append, aft_other (fun a => h (has_cons.2 (Or.inl a)))]
    exact aft_skip (fun a => h (has_cons.2 (Or.inr a)))
variable {W : Nat → Nat} {A : Nat}
theorem val_load : valL W (loadP k :: t) A = valL W t (W k) := by rw [valL_cons]; simp [loadP]
theorem val_mk : valL W (mkP k :: t) A = valL W t (A &&& k) := by rw [valL_cons]; simp [mkP]
theorem val_ret : valL W (retP k :: t) A = k := by rw [valL_cons]; rfl
theorem val_here : valL W (hereP k :: t) A = valL W t A := by rw [valL_cons]; rfl
theorem val_if : valL W (ifC c v y z :: t) A = if holdsN (c / 16) A v = true then valL W (aft (y : Int) t) A else valL W (aft (z : Int) t) A := by
  rw [valL_cons]
  show valL W (aft (if holdsN (c / 16) A v = true then (y : Int) else (z : Int)) t) A = _
  split <;> rfl
end
/-! The parts. -/
def bitsL (a m v y n : Nat) : List PtM := [loadP a, mkP m, ifC 21 v y n]
def equalL (k a m v y n : Nat) : List PtM × Nat :=
  if m % 4294967296 = 0 then (bitsL (16 + 8 * a + 4) (m / 4294967296) (v / 4294967296) y n, k)
  else (bitsL (16 + 8 * a + 4) (m / 4294967296) (v / 4294967296) (k + 1) n ++ hereP (k + 1) :: bitsL (16 + 8 * a) (m % 4294967296) (v % 4294967296) y n, k + 1)
def setB (how l : Nat) : Prop := if how = 48 then l = 0 else l = 4294967295
instance (how l : Nat) : Decidable (setB how l) := by unfold setB; exact inferInstance
def aboveL (k a how v y n : Nat) : List PtM × Nat :=
  if setB how (v % 4294967296) then ([loadP (16 + 8 * a + 4), ifC (how + 5) (v / 4294967296) y n], k)
  else ([loadP (16 + 8 * a + 4), ifC 37 (v / 4294967296) y (k + 1), hereP (k + 1), ifC 21 (v / 4294967296) (k + 2) n, hereP (k + 2), loadP (16 + 8 * a), ifC (how + 5) (v % 4294967296) y n], k + 2)
def ask (k : Nat) (c : CondM) (y n : Nat) : List PtM × Nat :=
  if c.op = 1 then equalL k c.arg.toNat 18446744073709551615 c.val y n
  else if c.op = 2 then equalL k c.arg.toNat 18446744073709551615 c.val n y
  else if c.op = 3 then aboveL k c.arg.toNat 48 c.val n y
  else if c.op = 4 then aboveL k c.arg.toNat 32 c.val n y
  else if c.op = 5 then aboveL k c.arg.toNat 32 c.val y n
  else if c.op = 6 then aboveL k c.arg.toNat 48 c.val y n
  else if c.op = 7 then equalL k c.arg.toNat c.mask c.val y n else ([], k)
/-- Does a condition hold of no call, by its looks? -/
def nevB (c : CondM) : Bool := if c.arg < 0 ∨ 6 ≤ c.arg then true else if c.op = 7 then decide (c.val &&& c.mask ≠ c.val) else decide (c.op < 1 ∨ 7 < c.op)
def condsL (b : Nat) : Nat → List CondM → List PtM × Nat
  | k, [] => ([], k)
  | k, c :: t => ((ask (k + 1) c (k + 1) b).1 ++ hereP (k + 1) :: (condsL b (ask (k + 1) c (k + 1) b).2 t).1, (condsL b (ask (k + 1) c (k + 1) b).2 t).2)
def brL (k : Nat) (b : BrM) : List PtM × Nat :=
  if b.conds.any nevB = true then ([], k) else ((condsL (k + 1) (k + 1) b.conds).1 ++ [retP b.act, hereP (k + 1)], (condsL (k + 1) (k + 1) b.conds).2)
def brsL : Nat → List BrM → List PtM × Nat
  | k, [] => ([], k)
  | k, b :: t => ((brL k b).1 ++ (brsL (brL k b).2 t).1, (brsL (brL k b).2 t).2)
def callL (d k : Nat) (c : CaM) : List PtM × Nat := (ifC 21 c.num (k + 1) (k + 2) :: hereP (k + 1) :: ((brsL (k + 2) c.brs).1 ++ [hereP (k + 2), retP d]), (brsL (k + 2) c.brs).2)
def midN (l : List CaM) : Nat := match l[l.length / 2]? with | some c => c.num | none => 0
def searchL (d : Nat) : Nat → Nat → List CaM → List PtM × Nat
  | 0, k, _ => ([], k)
  | f + 1, k, l =>
    if l.length = 1 then (match l[0]? with | some c => callL d k c | none => ([], k))
    else (ifC 53 (midN l) (k + 1) (k + 2) :: hereP (k + 2) :: ((searchL d f (k + 2) (l.take (l.length / 2))).1 ++ hereP (k + 1) :: (searchL d f (searchL d f (k + 2) (l.take (l.length / 2))).2 (l.drop (l.length / 2))).1),
      (searchL d f (searchL d f (k + 2) (l.take (l.length / 2))).2 (l.drop (l.length / 2))).2)
def callsL (d : Nat) (l : List CaM) : List PtM := if l = [] then [retP d] else loadP 0 :: (searchL d l.length 2 l).1
def planL (d : Nat) (l : List CaM) : List PtM := bitsL 4 4294967295 3221225534 1 2 ++ hereP 2 :: retP 2147483648 :: hereP 1 :: callsL d l
/-! Names and ways. -/
/-- What is laid: names of a range alone; whose ways go forward, if those they go tQ stand behind. -/
structure Lay (k k' : Nat) (e : List PtM) (Q : Nat → Prop) : Prop where
  le : k ≤ k'
  nm : ∀ n : Int, HasN n e → (k : Int) < n ∧ n ≤ (k' : Int)
  fwd : ∀ t, Fwd t → (∀ n : Int, HasN n t → n ≤ (k : Int) ∨ (k' : Int) < n) → (∀ q, Q q → HasN (q : Int) t) → Fwd (e ++ t)
theorem Lay.not {k k' : Nat} {e : List PtM} {Q : Nat → Prop} (h : Lay k k' e Q) {n : Nat} (hn : n ≤ k ∨ k' < n) : ¬ HasN (n : Int) e := fun a => by have := h.nm n a; omega
theorem bits_has {a m v y n : Nat} {q : Int} {t : List PtM} : HasN q (bitsL a m v y n ++ t) ↔ HasN q t := by
  unfold bitsL; simp only [List.cons_append, List.nil_append, has_load, has_mk, has_if]
theorem bits_fwd {a m v y n : Nat} {t : List PtM} : Fwd (bitsL a m v y n ++ t) ↔ Fwd t ∧ HasN (y : Int) t ∧ HasN (n : Int) t := by
  unfold bitsL; simp only [List.cons_append, List.nil_append, fwd_load, fwd_mk, fwd_if]
theorem bits_aft {a m v y n : Nat} {q : Int} {t : List PtM} : aft q (bitsL a m v y n ++ t) = aft q t := by
  unfold bitsL; simp only [List.cons_append, List.nil_append, aft_load, aft_mk, aft_if]
theorem bits_lay (k a m v y n : Nat) : Lay k k (bitsL a m v y n) (fun q => q = y ∨ q = n) :=
  ⟨Nat.le_refl _, fun q h => by rw [← List.append_nil (bitsL a m v y n), bits_has] at h; exact absurd h (has_nil q), fun t ht _ hq => bits_fwd.2 ⟨ht, hq y (Or.inl rfl), hq n (Or.inr rfl)⟩⟩
theorem equal_lay (k a m v y n : Nat) : Lay k (equalL k a m v y n).2 (equalL k a m v y n).1 (fun q => q = y ∨ q = n) := by
  unfold equalL
  split
  · exact bits_lay k _ _ _ y n
  · refine ⟨Nat.le_succ k, fun q h => ?_, fun t ht hn hq => ?_⟩
    · rw [bits_has, has_here, ← List.append_nil (bitsL (16 + 8 * a) _ _ y n), bits_has, has_nil2] at h
      simp only [or_false] at h
      simp only
      omega
    · have hy := hq y (Or.inl rfl)
      have hz := hq n (Or.inr rfl)
      rw [List.append_assoc, List.cons_append, bits_fwd, fwd_here, bits_fwd]
      refine ⟨⟨⟨ht, hy, hz⟩, fun h => ?_⟩, has_here.2 (Or.inl rfl), has_here.2 (Or.inr (bits_has.2 hz))⟩
      rw [bits_has] at h
      have := hn _ h
      simp only at this
      omega
theorem above_lay (k a how v y n : Nat) : Lay k (aboveL k a how v y n).2 (aboveL k a how v y n).1 (fun q => q = y ∨ q = n) := by
  unfold aboveL
  split
  · refine ⟨Nat.le_refl _, fun q h => ?_, fun t ht hn hq => ?_⟩
    · simp only [has_load, has_if, has_nil2] at h
    · simp only [List.cons_append, List.nil_append, fwd_load, fwd_if]
      exact ⟨ht, hq y (Or.inl rfl), hq n (Or.inr rfl)⟩
  · refine ⟨Nat.le_add_right k 2, fun q h => ?_, fun t ht hn hq => ?_⟩
    · simp only [has_load, has_if, has_here, has_nil2, or_false] at h
      simp only
      omega
    · have hy := hq y (Or.inl rfl)
      have hz := hq n (Or.inr rfl)
      have h1 : ¬ HasN ((k + 1 : Nat) : Int) t := fun h => by have := hn _ h; simp only at this; omega
      have h2 : ¬ HasN ((k + 2 : Nat) : Int) t := fun h => by have := hn _ h; simp only at this; omega
      simp only [List.cons_append, List.nil_append, fwd_load, fwd_if, fwd_here, has_load, has_if, has_here]
      refine ⟨⟨⟨⟨⟨ht, hy, hz⟩, h2⟩, ?_, Or.inr hz⟩, fun h => h.elim (fun h => by omega) h1⟩, Or.inr (Or.inr hy), ?_⟩ <;> simp
theorem Lay.tQ {k k' : Nat} {e : List PtM} {Q R : Nat → Prop} (h : Lay k k' e Q) (hr : ∀ q, Q q → R q) : Lay k k' e R := ⟨h.le, h.nm, fun t ht hn hq => h.fwd t ht hn fun q a => hq q (hr q a)⟩
theorem ask_lay (k : Nat) (c : CondM) (y n : Nat) : Lay k (ask k c y n).2 (ask k c y n).1 (fun q => q = y ∨ q = n) := by
  have sw : ∀ {k k' : Nat} {e : List PtM}, Lay k k' e (fun q => q = n ∨ q = y) → Lay k k' e (fun q => q = y ∨ q = n) := fun h => h.tQ fun q a => a.symm
  unfold ask
  split
  · exact equal_lay ..
  split
  · exact sw (equal_lay ..)
  split
  · exact sw (above_lay ..)
  split
  · exact sw (above_lay ..)
  split
  · exact above_lay ..
  split
  · exact above_lay ..
  split
  · exact equal_lay ..
  · exact ⟨Nat.le_refl _, fun q h => absurd h (has_nil q), fun t ht _ _ => ht⟩
theorem conds_lay (b : Nat) : ∀ (l : List CondM) (k : Nat), b ≤ k → Lay k (condsL b k l).2 (condsL b k l).1 (fun q => q = b)
  | [], k, _ => ⟨Nat.le_refl _, fun q h => absurd h (has_nil q), fun t ht _ _ => ht⟩
  | c :: l, k, hb => by
    have h1 := ask_lay (k + 1) c (k + 1) b
    have h2 := conds_lay b l (ask (k + 1) c (k + 1) b).2 (by have := h1.le; omega)
    have l1 := h1.le
    have l2 := h2.le
    refine ⟨by show k ≤ (condsL b (ask (k + 1) c (k + 1) b).2 l).2; omega, fun q h => ?_, fun t ht hn hq => ?_⟩
    · show (k : Int) < q ∧ q ≤ ((condsL b (ask (k + 1) c (k + 1) b).2 l).2 : Int)
      rcases has_app.1 (show HasN q ((ask (k + 1) c (k + 1) b).1 ++ hereP (k + 1) :: (condsL b (ask (k + 1) c (k + 1) b).2 l).1) from h) with h | h
      · have := h1.nm q h; omega
      · rcases has_here.1 h with h | h
        · omega
        · have := h2.nm q h; omega
    · show Fwd (((ask (k + 1) c (k + 1) b).1 ++ hereP (k + 1) :: (condsL b (ask (k + 1) c (k + 1) b).2 l).1) ++ t)
      have hn' : ∀ n : Int, HasN n t → n ≤ (k : Int) ∨ ((condsL b (ask (k + 1) c (k + 1) b).2 l).2 : Int) < n := hn
      rw [List.append_assoc, List.cons_append]
      have g2 := h2.fwd t ht (fun n h => by have := hn' n h; omega) hq
      refine h1.fwd _ (fwd_here.2 ⟨g2, fun h => ?_⟩) (fun n h => ?_) (fun q h => ?_)
      · rcases has_app.1 h with h | h
        · have := h2.nm _ h; omega
        · have := hn' _ h; omega
      · rcases has_here.1 h with h | h
        · omega
        · rcases has_app.1 h with h | h
          · have := h2.nm _ h; omega
          · have := hn' _ h; omega
      · rcases h with rfl | rfl
        · exact has_here.2 (Or.inl rfl)
        · exact has_here.2 (Or.inr (has_app.2 (Or.inr (hq _ rfl))))
theorem br_lay (k : Nat) (b : BrM) : Lay k (brL k b).2 (brL k b).1 (fun _ => False) := by
  unfold brL
  split
  · exact ⟨Nat.le_refl _, fun q h => absurd h (has_nil q), fun t ht _ _ => ht⟩
  · have h1 := conds_lay (k + 1) b.conds (k + 1) (Nat.le_refl _)
    have l1 := h1.le
    refine ⟨by simp only; omega, fun q h => ?_, fun t ht hn hq => ?_⟩
    · simp only
      rcases has_app.1 h with h | h
      · have := h1.nm q h; omega
      · simp only [has_ret, has_here, has_nil2, or_false] at h; omega
    · simp only at hn
      rw [List.append_assoc]
      simp only [List.cons_append, List.nil_append]
      refine h1.fwd _ (fwd_ret.2 (fwd_here.2 ⟨ht, fun h => ?_⟩)) (fun n h => ?_) (fun q h => ?_)
      · have := hn _ h; omega
      · rw [has_ret, has_here] at h
        rcases h with h | h
        · omega
        · have := hn _ h; omega
      · rw [h, has_ret, has_here]; exact Or.inl rfl
theorem brs_lay : ∀ (l : List BrM) (k : Nat), Lay k (brsL k l).2 (brsL k l).1 (fun _ => False)
  | [], k => ⟨Nat.le_refl _, fun q h => absurd h (has_nil q), fun t ht _ _ => ht⟩
  | b :: l, k => by
    have h1 := br_lay k b
    have h2 := brs_lay l (brL k b).2
    have l1 := h1.le
    have l2 := h2.le
    refine ⟨by show k ≤ (brsL (brL k b).2 l).2; omega, fun q h => ?_, fun t ht hn hq => ?_⟩
    · show (k : Int) < q ∧ q ≤ ((brsL (brL k b).2 l).2 : Int)
      rcases has_app.1 (show HasN q ((brL k b).1 ++ (brsL (brL k b).2 l).1) from h) with h | h
      · have := h1.nm q h; omega
      · have := h2.nm q h; omega
    · show Fwd (((brL k b).1 ++ (brsL (brL k b).2 l).1) ++ t)
      have hn' : ∀ n : Int, HasN n t → n ≤ (k : Int) ∨ ((brsL (brL k b).2 l).2 : Int) < n := hn
      rw [List.append_assoc]
      refine h1.fwd _ (h2.fwd t ht (fun n h => by have := hn' n h; omega) (fun _ h => h.elim)) (fun n h => ?_) (fun _ h => h.elim)
      rcases has_app.1 h with h | h
      · have := h2.nm _ h; omega
      · have := hn' _ h; omega
theorem call_lay (d k : Nat) (c : CaM) : Lay k (callL d k c).2 (callL d k c).1 (fun _ => False) := by
  have h1 := brs_lay c.brs (k + 2)
  have l1 := h1.le
  unfold callL
  refine ⟨by simp only; omega, fun q h => ?_, fun t ht hn hq => ?_⟩
  · simp only
    rw [has_if, has_here, has_app, has_here, has_ret, has_nil2, or_false] at h
    rcases h with h | h | h
    · omega
    · have := h1.nm q h; omega
    · omega
  · simp only at hn
    simp only [List.cons_append, List.append_assoc, List.nil_append]
    have g : Fwd (hereP (k + 2) :: retP d :: t) := fwd_here.2 ⟨fwd_ret.2 ht, fun h => by rw [has_ret] at h; have := hn _ h; omega⟩
    have g1 := h1.fwd _ g (fun n h => by
      rw [has_here, has_ret] at h
      rcases h with h | h
      · omega
      · have := hn _ h; omega) (fun _ h => h.elim)
    refine fwd_if.2 ⟨fwd_here.2 ⟨g1, fun h => ?_⟩, has_here.2 (Or.inl rfl), has_here.2 (Or.inr (has_app.2 (Or.inr (has_here.2 (Or.inl rfl)))))⟩
    rcases has_app.1 h with h | h
    · have := h1.nm _ h; omega
    · rw [has_here, has_ret] at h
      rcases h with h | h
      · omega
      · have := hn _ h; omega
theorem search_lay (d : Nat) : ∀ (f k : Nat) (l : List CaM), Lay k (searchL d f k l).2 (searchL d f k l).1 (fun _ => False)
  | 0, k, l => ⟨Nat.le_refl _, fun q h => absurd h (has_nil q), fun t ht _ _ => ht⟩
  | f + 1, k, l => by
    unfold searchL
    split
    · cases l[0]? with
      | none => exact ⟨Nat.le_refl _, fun q h => absurd h (has_nil q), fun t ht _ _ => ht⟩
      | some c => exact call_lay d k c
    · have h1 := search_lay d f (k + 2) (l.take (l.length / 2))
      obtain ⟨e1, k1, hx⟩ : ∃ e1 k1, searchL d f (k + 2) (l.take (l.length / 2)) = (e1, k1) := ⟨_, _, rfl⟩
      rw [hx] at h1 ⊢
      simp only at h1 ⊢
      have h2 := search_lay d f k1 (l.drop (l.length / 2))
      obtain ⟨e2, k2, hy⟩ : ∃ e2 k2, searchL d f k1 (l.drop (l.length / 2)) = (e2, k2) := ⟨_, _, rfl⟩
      rw [hy] at h2 ⊢
      simp only at h2 ⊢
      have l1 := h1.le
      have l2 := h2.le
      refine ⟨by omega, fun q h => ?_, fun t ht hn hq => ?_⟩
      · rw [has_if, has_here, has_app, has_here] at h
        rcases h with h | h | h | h
        · omega
        · have := h1.nm q h; omega
        · omega
        · have := h2.nm q h; omega
      · simp only [List.cons_append, List.append_assoc]
        have g2 := h2.fwd t ht (fun n h => by have := hn n h; omega) (fun _ h => h.elim)
        have g3 : Fwd (hereP (k + 1) :: (e2 ++ t)) := fwd_here.2 ⟨g2, fun h => by
          rcases has_app.1 h with h | h
          · have := h2.nm _ h; omega
          · have := hn _ h; omega⟩
        have g1 := h1.fwd _ g3 (fun n h => by
          rcases has_here.1 h with h | h
          · omega
          · rcases has_app.1 h with h | h
            · have := h2.nm _ h; omega
            · have := hn _ h; omega) (fun _ h => h.elim)
        refine fwd_if.2 ⟨fwd_here.2 ⟨g1, fun h => ?_⟩, has_here.2 (Or.inr (has_app.2 (Or.inr (has_here.2 (Or.inl rfl))))), has_here.2 (Or.inl rfl)⟩
        rcases has_app.1 h with h | h
        · have := h1.nm _ h; omega
        · rcases has_here.1 h with h | h
          · omega
          · rcases has_app.1 h with h | h
            · have := h2.nm _ h; omega
            · have := hn _ h; omega
theorem plan_fwd (d : Nat) (l : List CaM) : Fwd (planL d l) := by
  unfold planL
  have g : Fwd (callsL d l) ∧ ∀ n : Int, HasN n (callsL d l) → 2 < n := by
    unfold callsL
    split
    · exact ⟨fwd_ret.2 trivial, fun n h => by rw [has_ret] at h; exact absurd h (has_nil n)⟩
    · have h := search_lay d l.length 2 l
      have hf := h.fwd [] trivial (fun n h => absurd h (has_nil n)) (fun _ h => h.elim)
      rw [List.append_nil] at hf
      exact ⟨fwd_load.2 hf, fun n a => by rw [has_load] at a; have := h.nm n a; omega⟩
  rw [bits_fwd, fwd_here, fwd_ret, fwd_here]
  refine ⟨⟨⟨g.1, fun h => ?_⟩, fun h => ?_⟩, has_here.2 (Or.inr (has_ret.2 (has_here.2 (Or.inl rfl)))), has_here.2 (Or.inl rfl)⟩
  · have := g.2 _ h; omega
  · rw [has_ret, has_here] at h
    rcases h with h | h
    · omega
    · have := g.2 _ h; omega
end Go.Proofs.Ytcageojoafkojaa.Lo
namespace Go.Proofs.Ytcageojoafkojaa.Lo
open Go.Proofs.Ytcageojoafkojaa.Ju Go.Proofs.Ytcageojoafkojaa.Ir Go.Proofs.Ytcageojoafkojaa.Me
/-- A call's words. -/
structure Sees (W : Nat → Nat) (x : RcM) : Prop where
  num : W 0 = x.num
  arch : W 4 = x.arch
  lo : ∀ k, k < 6 → W (16 + 8 * k) = x.arg k % 4294967296
  hi : ∀ k, k < 6 → W (16 + 8 * k + 4) = x.arg k / 4294967296
/-- Whatever A is. -/
def Ind (W : Nat → Nat) (l : List PtM) (v : Nat) : Prop := ∀ A, valL W l A = v
section
variable {W : Nat → Nat} {t : List PtM} {vy vn : Nat}
theorem ind_here {k : Nat} (h : Ind W t vy) : Ind W (hereP k :: t) vy := fun A => by rw [val_here]; exact h A
theorem bits_val {a m v y n : Nat} (hy : Ind W (aft (y : Int) t) vy) (hn : Ind W (aft (n : Int) t) vn) : Ind W (bitsL a m v y n ++ t) (if W a &&& m = v then vy else vn) := fun A => by
  unfold bitsL
  simp only [List.cons_append, List.nil_append, val_load, val_mk, val_if]
  have e : holdsN (21 / 16) (W a &&& m) v = decide (W a &&& m = v) := rfl
  rw [e]
  by_cases h : W a &&& m = v
  · rw [if_pos (by simpa using h), if_pos h]; exact hy _
  · rw [if_neg (by simpa using h), if_neg h]; exact hn _
theorem and_hi (x m : Nat) : (x &&& m) / 4294967296 = x / 4294967296 &&& m / 4294967296 := Nat.and_div_two_pow (n := 32)
theorem and_lo (x m : Nat) : (x &&& m) % 4294967296 = x % 4294967296 &&& m % 4294967296 := Nat.and_mod_two_pow (n := 32)
theorem halves_eq {a b : Nat} : a = b ↔ a / 4294967296 = b / 4294967296 ∧ a % 4294967296 = b % 4294967296 := by omega
theorem equal_val {k a m v y n x : Nat} (hl : W (16 + 8 * a) = x % 4294967296) (hh : W (16 + 8 * a + 4) = x / 4294967296) (hm : v &&& m = v) (hyk : y ≤ k) (hnk : n ≤ k) (hy : Ind W (aft (y : Int) t) vy) (hn : Ind W (aft (n : Int) t) vn) :
    Ind W ((equalL k a m v y n).1 ++ t) (if x &&& m = v then vy else vn) := by
  have key : (x &&& m = v) ↔ (x / 4294967296 &&& m / 4294967296 = v / 4294967296 ∧ x % 4294967296 &&& m % 4294967296 = v % 4294967296) := by
    rw [← and_hi, ← and_lo]; exact halves_eq
  unfold equalL
  by_cases h0 : m % 4294967296 = 0
  · rw [if_pos h0]
    have hv : v % 4294967296 = 0 := by rw [← hm, and_lo, h0, Nat.and_zero]
    have := bits_val (W := W) (t := t) (a := 16 + 8 * a + 4) (m := m / 4294967296) (v := v / 4294967296) hy hn
    rw [hh] at this
    by_cases hc : x / 4294967296 &&& m / 4294967296 = v / 4294967296
    · rw [if_pos hc] at this
      rw [if_pos (key.2 ⟨hc, by rw [h0, Nat.and_zero, hv]⟩)]; exact this
    · rw [if_neg hc] at this
      rw [if_neg (fun e => hc (key.1 e).1)]; exact this
  · rw [if_neg h0]
    simp only
    rw [List.append_assoc, List.cons_append]
    have hy2 : Ind W (aft (y : Int) (hereP (k + 1) :: (bitsL (16 + 8 * a) (m % 4294967296) (v % 4294967296) y n ++ t))) vy := by rw [aft_past (by omega), bits_aft]; exact hy
    have hn2 : Ind W (aft (n : Int) (hereP (k + 1) :: (bitsL (16 + 8 * a) (m % 4294967296) (v % 4294967296) y n ++ t))) vn := by rw [aft_past (by omega), bits_aft]; exact hn
    have h2 := bits_val (W := W) (t := t) (a := 16 + 8 * a) (m := m % 4294967296) (v := v % 4294967296) hy hn
    have hs : Ind W (aft ((k + 1 : Nat) : Int) (hereP (k + 1) :: (bitsL (16 + 8 * a) (m % 4294967296) (v % 4294967296) y n ++ t))) (if W (16 + 8 * a) &&& m % 4294967296 = v % 4294967296 then vy else vn) := by rw [aft_here]; exact ind_here h2
    have h1 := bits_val (a := 16 + 8 * a + 4) (m := m / 4294967296) (v := v / 4294967296) hs hn2
    rw [hh, hl] at h1
    by_cases hc : x / 4294967296 &&& m / 4294967296 = v / 4294967296
    · rw [if_pos hc] at h1
      by_cases hd : x % 4294967296 &&& m % 4294967296 = v % 4294967296
      · rw [if_pos hd] at h1
        rw [if_pos (key.2 ⟨hc, hd⟩)]; exact h1
      · rw [if_neg hd] at h1
        rw [if_neg (fun e => hd (key.1 e).2)]; exact h1
    · rw [if_neg hc] at h1
      rw [if_neg (fun e => hc (key.1 e).1)]; exact h1
/-- Above a number, or not below it. -/
def abvB (how v x : Nat) : Bool := if how = 48 then decide (v ≤ x) else decide (v < x)
theorem holds_21 {a v : Nat} : holdsN (21 / 16) a v = decide (a = v) := rfl
theorem holds_37 {a v : Nat} : holdsN (37 / 16) a v = decide (v < a) := rfl
theorem holds_how {how a v : Nat} (hw : how = 32 ∨ how = 48) : holdsN ((how + 5) / 16) a v = abvB how v a := by
  rcases hw with rfl | rfl <;> rfl
theorem above_val {k a how v y n x : Nat} (hw : how = 32 ∨ how = 48) (hl : W (16 + 8 * a) = x % 4294967296) (hh : W (16 + 8 * a + 4) = x / 4294967296) (hyk : y ≤ k) (hnk : n ≤ k) (hy : Ind W (aft (y : Int) t) vy) (hn : Ind W (aft (n : Int) t) vn) :
    Ind W ((aboveL k a how v y n).1 ++ t) (if abvB how v x = true then vy else vn) := fun A => by
  unfold aboveL
  by_cases hs : setB how (v % 4294967296)
  · rw [if_pos hs]
    simp only [List.cons_append, List.nil_append, val_load, val_if]
    rw [holds_how hw, hh]
    have e : abvB how (v / 4294967296) (x / 4294967296) = abvB how v x := by
      unfold abvB setB at *
      rcases hw with rfl | rfl
      · rw [if_neg (by decide)] at hs ⊢
        rw [if_neg (by decide)]
        rw [decide_eq_decide]; omega
      · rw [if_pos rfl] at hs ⊢
        rw [if_pos rfl]
        rw [decide_eq_decide]; omega
    rw [e]
    cases abvB how v x
    · exact hn _
    · exact hy _
  · rw [if_neg hs]
    simp only [List.cons_append, List.nil_append, val_load, val_if, aft_here, val_here, holds_21, holds_37]
    rw [holds_how hw, hh, hl]
    have h1 : aft ((k + 1 : Nat) : Int) (hereP (k + 1) :: ifC 21 (v / 4294967296) (k + 2) n :: hereP (k + 2) :: loadP (16 + 8 * a) :: ifC (how + 5) (v % 4294967296) y n :: t) = hereP (k + 1) :: ifC 21 (v / 4294967296) (k + 2) n :: hereP (k + 2) :: loadP (16 + 8 * a) :: ifC (how + 5) (v % 4294967296) y n :: t := aft_here
    have h2 : aft (y : Int) (hereP (k + 1) :: ifC 21 (v / 4294967296) (k + 2) n :: hereP (k + 2) :: loadP (16 + 8 * a) :: ifC (how + 5) (v % 4294967296) y n :: t) = aft (y : Int) t := by
      rw [aft_past (by omega), aft_if, aft_past (by omega), aft_load, aft_if]
    have h3 : aft (n : Int) (hereP (k + 2) :: loadP (16 + 8 * a) :: ifC (how + 5) (v % 4294967296) y n :: t) = aft (n : Int) t := by
      rw [aft_past (by omega), aft_load, aft_if]
    by_cases c1 : v / 4294967296 < x / 4294967296
    · rw [if_pos (by simpa using c1), h2, if_pos (by unfold abvB; split <;> simp <;> omega)]
      exact hy _
    · rw [if_neg (by simpa using c1)]
      by_cases c2 : x / 4294967296 = v / 4294967296
      · rw [if_pos (by simpa using c2)]
        have e : abvB how (v % 4294967296) (x % 4294967296) = abvB how v x := by
          unfold abvB
          rcases hw with rfl | rfl
          · rw [if_neg (by decide), if_neg (by decide), decide_eq_decide]; omega
          · rw [if_pos rfl, if_pos rfl, decide_eq_decide]; omega
        rw [e]
        cases abvB how v x
        · exact hn _
        · exact hy _
      · rw [if_neg (by simpa using c2), h3, if_neg (by unfold abvB; split <;> simp <;> omega)]
        exact hn _
/-- A condition that may hold. -/
structure CWf (c : CondM) : Prop where
  op : c.op < 256
  m : c.mask < 18446744073709551616
  v : c.val < 18446744073709551616
theorem and_all {x : Nat} (h : x < 18446744073709551616) : x &&& 18446744073709551615 = x := by
  have := Nat.and_two_pow_sub_one_eq_mod x 64
  rw [show (2 ^ 64 - 1 : Nat) = 18446744073709551615 from rfl] at this
  rw [this]; omega
theorem nev_arg {c : CondM} (h : nevB c = false) : 0 ≤ c.arg ∧ c.arg < 6 := by
  unfold nevB at h
  split at h
  · cases h
  · omega
theorem nev_op {c : CondM} (h : nevB c = false) : 1 ≤ c.op ∧ c.op ≤ 7 ∧ (c.op = 7 → c.val &&& c.mask = c.val) := by
  unfold nevB at h
  split at h
  · cases h
  · split at h
    · rename_i h7
      refine ⟨by omega, by omega, fun _ => ?_⟩
      simpa using h
    · rw [decide_eq_false_iff_not] at h
      exact ⟨by omega, by omega, fun e => by omega⟩
theorem nev_false {c : CondM} {x : RcM} (h : nevB c = true) : holdB c x = false := by
  unfold nevB at h
  unfold holdB
  by_cases h1 : c.arg < 0 ∨ 6 ≤ c.arg
  · rw [if_pos (by omega)]
  rw [if_neg h1] at h
  rw [if_neg (by omega)]
  unfold opB
  by_cases h7 : c.op = 7
  · rw [if_pos h7] at h
    rw [if_neg (by omega), if_neg (by omega), if_neg (by omega), if_neg (by omega), if_neg (by omega), if_neg (by omega), if_pos h7, decide_eq_false_iff_not]
    intro e
    rw [decide_eq_true_eq] at h
    apply h
    rw [← e, Nat.and_assoc, Nat.and_self]
  · rw [if_neg h7, decide_eq_true_eq] at h
    rw [if_neg (by omega), if_neg (by omega), if_neg (by omega), if_neg (by omega), if_neg (by omega), if_neg (by omega), if_neg h7]
theorem ask_val {x : RcM} (hs : Sees W x) (hx : x.ok) {c : CondM} (hc : CWf c) (hne : nevB c = false) {k y n : Nat} (hyk : y ≤ k) (hnk : n ≤ k) (hy : Ind W (aft (y : Int) t) vy) (hn : Ind W (aft (n : Int) t) vn) :
    Ind W ((ask k c y n).1 ++ t) (if holdB c x = true then vy else vn) := by
  obtain ⟨a0, a6⟩ := nev_arg hne
  obtain ⟨o1, o7, om⟩ := nev_op hne
  obtain ⟨a, ha⟩ : ∃ a, a = c.arg.toNat := ⟨_, rfl⟩
  have ha6 : a < 6 := by omega
  have hl := hs.lo a ha6
  have hh := hs.hi a ha6
  have hxa := hx.arg ha6
  have hb : holdB c x = opB c.op c.mask c.val (x.arg a) := by unfold holdB; rw [if_neg (by omega), ha]
  rw [hb]
  have sw : ∀ {b : Bool} {l : List PtM} {p q : Nat}, Ind W l (if b = true then q else p) → Ind W l (if (!b) = true then p else q) := fun {b l p q} h => by cases b <;> simpa using h
  unfold ask opB
  rw [← ha]
  split
  · have := equal_val (k := k) (m := 18446744073709551615) (v := c.val) hl hh (and_all hc.v) hyk hnk hy hn
    rw [and_all hxa] at this
    simpa using this
  split
  · have := equal_val (k := k) (m := 18446744073709551615) (v := c.val) hl hh (and_all hc.v) hnk hyk hn hy
    rw [and_all hxa] at this
    by_cases e : x.arg a = c.val
    · rw [if_pos e] at this; rw [if_neg (by simpa using e)]; exact this
    · rw [if_neg e] at this; rw [if_pos (by simpa using e)]; exact this
  split
  · have := sw (above_val (k := k) (v := c.val) (Or.inr rfl) hl hh hnk hyk hn hy)
    have e : (!abvB 48 c.val (x.arg a)) = decide (x.arg a < c.val) := by
      unfold abvB; rw [if_pos rfl, ← decide_not, decide_eq_decide]; omega
    rw [e] at this; exact this
  split
  · have := sw (above_val (k := k) (v := c.val) (Or.inl rfl) hl hh hnk hyk hn hy)
    have e : (!abvB 32 c.val (x.arg a)) = decide (x.arg a ≤ c.val) := by
      unfold abvB; rw [if_neg (by decide), ← decide_not, decide_eq_decide]; omega
    rw [e] at this; exact this
  split
  · have := above_val (k := k) (v := c.val) (Or.inl rfl) hl hh hyk hnk hy hn
    have e : abvB 32 c.val (x.arg a) = decide (c.val < x.arg a) := by unfold abvB; rw [if_neg (by decide)]
    rw [e] at this; exact this
  split
  · have := above_val (k := k) (v := c.val) (Or.inr rfl) hl hh hyk hnk hy hn
    have e : abvB 48 c.val (x.arg a) = decide (c.val ≤ x.arg a) := by unfold abvB; rw [if_pos rfl]
    rw [e] at this; exact this
  split
  · rename_i h7
    have := equal_val (k := k) (m := c.mask) (v := c.val) hl hh (om h7) hyk hnk hy hn
    simpa using this
  · omega
theorem conds_val {x : RcM} (hs : Sees W x) (hx : x.ok) {b : Nat} : ∀ (l : List CondM) (k : Nat), (∀ c ∈ l, CWf c ∧ nevB c = false) → b ≤ k → Ind W t vy → Ind W (aft (b : Int) t) vn →
    Ind W ((condsL b k l).1 ++ t) (if (l.all fun c => holdB c x) = true then vy else vn)
  | [], k, _, _, hy, _ => by simpa [condsL] using hy
  | c :: l, k, hc, hb, hy, hn => by
    have h1 := ask_lay (k + 1) c (k + 1) b
    have l1 := h1.le
    have h2 := conds_lay b l (ask (k + 1) c (k + 1) b).2 (by omega)
    have ih := conds_val hs hx l (ask (k + 1) c (k + 1) b).2 (fun d hd => hc d (List.mem_cons_of_mem _ hd)) (by omega) hy hn
    show Ind W (((ask (k + 1) c (k + 1) b).1 ++ hereP (k + 1) :: (condsL b (ask (k + 1) c (k + 1) b).2 l).1) ++ t) _
    rw [List.append_assoc, List.cons_append]
    obtain ⟨w1, w2⟩ := hc c List.mem_cons_self
    have := ask_val (t := hereP (k + 1) :: ((condsL b (ask (k + 1) c (k + 1) b).2 l).1 ++ t)) (vy := if (l.all fun c => holdB c x) = true then vy else vn) (vn := vn) hs hx w1 w2 (k := k + 1) (y := k + 1) (n := b) (Nat.le_refl _) (by omega)
      (by rw [aft_here]; exact ind_here ih) (by rw [aft_past (by omega), aft_skip (h2.not (Or.inl (by omega)))]; exact hn)
    rw [List.all_cons]
    cases hcx : holdB c x with
    | true => rw [hcx] at this; simpa using this
    | false => rw [hcx] at this; simpa using this
theorem br_val {x : RcM} (hs : Sees W x) (hx : x.ok) {b : BrM} (hc : ∀ c ∈ b.conds, CWf c) (k : Nat) {v : Nat} (h : Ind W t v) :
    Ind W ((brL k b).1 ++ t) (if (b.conds.all fun c => holdB c x) = true then b.act else v) := by
  unfold brL
  by_cases hne : b.conds.any nevB = true
  · rw [if_pos hne]
    have : (b.conds.all fun c => holdB c x) = false := by
      obtain ⟨c, hcm, hcn⟩ := List.any_eq_true.1 hne
      rw [← Bool.not_eq_true, List.all_eq_true]
      intro ha
      have := ha c hcm
      rw [nev_false hcn] at this
      cases this
    rw [this]
    simpa using h
  · rw [if_neg hne]
    simp only
    rw [List.append_assoc]
    simp only [List.cons_append, List.nil_append]
    refine conds_val hs hx b.conds (k + 1) (fun c hcm => ⟨hc c hcm, ?_⟩) (Nat.le_refl _) (fun A => val_ret) ?_
    · rw [← Bool.not_eq_true]
      exact fun e => hne (List.any_eq_true.2 ⟨c, hcm, e⟩)
    · rw [aft_ret, aft_here]; exact ind_here h
def brsV (x : RcM) (l : List BrM) (d : Nat) : Nat := ((l.find? fun b => b.conds.all fun c => holdB c x).map BrM.act).getD d
theorem brs_val {x : RcM} (hs : Sees W x) (hx : x.ok) : ∀ (l : List BrM) (k : Nat) {v : Nat}, (∀ b ∈ l, ∀ c ∈ b.conds, CWf c) → Ind W t v → Ind W ((brsL k l).1 ++ t) (brsV x l v)
  | [], k, v, _, h => h
  | b :: l, k, v, hc, h => by
    have ih := brs_val hs hx l (brL k b).2 (fun c hcm => hc c (List.mem_cons_of_mem _ hcm)) h
    show Ind W (((brL k b).1 ++ (brsL (brL k b).2 l).1) ++ t) _
    rw [List.append_assoc]
    have := br_val hs hx (hc b List.mem_cons_self) k ih
    unfold brsV at *
    rw [List.find?_cons]
    cases hb : (b.conds.all fun c => holdB c x) with
    | true => rw [hb] at this; simpa using this
    | false => rw [hb] at this; simpa using this
theorem call_val {x : RcM} (hs : Sees W x) (hx : x.ok) {d k : Nat} {c : CaM} (hc : ∀ b ∈ c.brs, ∀ q ∈ b.conds, CWf q) {A : Nat} : valL W ((callL d k c).1 ++ t) A = if A = c.num then brsV x c.brs d else d := by
  have hl := brs_lay c.brs (k + 2)
  have l1 := hl.le
  unfold callL
  simp only [List.cons_append, List.append_assoc, List.nil_append]
  rw [val_if, holds_21, aft_here, val_here, aft_past (by omega), aft_skip (hl.not (Or.inl (by omega))), aft_here, val_here, val_ret]
  have h0 : Ind W (hereP (k + 2) :: retP d :: t) d := ind_here (fun _ => val_ret)
  have h1 := brs_val hs hx c.brs (k + 2) hc h0
  by_cases e : A = c.num
  · rw [if_pos (by simpa using e), if_pos e]; exact h1 A
  · rw [if_neg (by simpa using e), if_neg e]
/-- The case of a number. -/
def caV (x : RcM) (d : Nat) (l : List CaM) (n : Nat) : Nat := match l.find? (fun c => decide (n = c.num)) with | some c => brsV x c.brs d | none => d
theorem search_val {x : RcM} (hs : Sees W x) (hx : x.ok) (d : Nat) : ∀ (f k : Nat) (l : List CaM) (t : List PtM) (A : Nat), l.length ≤ f → l ≠ [] → l.Pairwise (fun a b => a.num < b.num) → (∀ c ∈ l, ∀ b ∈ c.brs, ∀ q ∈ b.conds, CWf q) →
    valL W ((searchL d f k l).1 ++ t) A = caV x d l A
  | 0, k, l, t, A, hf, hn, _, _ => absurd (List.eq_nil_of_length_eq_zero (by omega)) hn
  | f + 1, k, l, t, A, hf, hn, hp, hc => by
    unfold searchL
    by_cases h1 : l.length = 1
    · rw [if_pos h1]
      obtain ⟨c, rfl⟩ := List.length_eq_one_iff.1 h1
      show valL W ((callL d k c).1 ++ t) A = _
      rw [call_val hs hx (hc c List.mem_cons_self)]
      unfold caV
      rw [List.find?_cons]
      by_cases e : A = c.num
      · rw [if_pos e, show decide (A = c.num) = true from by simpa using e]
      · rw [if_neg e, show decide (A = c.num) = false from by simpa using e]; rfl
    · rw [if_neg h1]
      have hpos : 2 ≤ l.length := by
        have : l.length ≠ 0 := fun e => hn (List.eq_nil_of_length_eq_zero e)
        omega
      obtain ⟨m, hm⟩ : ∃ m, m = l.length / 2 := ⟨_, rfl⟩
      have hm1 : 1 ≤ m := by omega
      have hm2 : m < l.length := by omega
      have hmid : midN l = (l[m]'hm2).num := by
        unfold midN
        rw [← hm, List.getElem?_eq_getElem hm2]
      rw [← hm, hmid]
      have hl1 := search_lay d f (k + 2) (l.take m)
      have le1 := hl1.le
      have hl2 := search_lay d f (searchL d f (k + 2) (l.take m)).2 (l.drop m)
      have i1 := search_val hs hx d f (k + 2) (l.take m) (hereP (k + 1) :: ((searchL d f (searchL d f (k + 2) (l.take m)).2 (l.drop m)).1 ++ t)) A (by rw [List.length_take]; omega) (fun e => by have := congrArg List.length e; rw [List.length_take, List.length_nil] at this; omega) (hp.sublist (List.take_sublist _ _)) (fun c hcm => hc c (List.mem_of_mem_take hcm))
      have i2 := search_val hs hx d f (searchL d f (k + 2) (l.take m)).2 (l.drop m) t A (by rw [List.length_drop]; omega) (fun e => by have := congrArg List.length e; rw [List.length_drop, List.length_nil] at this; omega) (hp.sublist (List.drop_sublist _ _)) (fun c hcm => hc c (List.mem_of_mem_drop hcm))
      obtain ⟨e1, k1, hx1⟩ : ∃ e1 k1, searchL d f (k + 2) (l.take m) = (e1, k1) := ⟨_, _, rfl⟩
      rw [hx1] at hl1 hl2 i1 i2 le1 ⊢
      simp only at hl1 hl2 i1 i2 le1 ⊢
      obtain ⟨e2, k2, hx2⟩ : ∃ e2 k2, searchL d f k1 (l.drop m) = (e2, k2) := ⟨_, _, rfl⟩
      rw [hx2] at hl2 i1 i2 ⊢
      simp only at hl2 i1 i2 ⊢
      simp only [List.cons_append, List.append_assoc]
      rw [val_if, show holdsN (53 / 16) A (l[m]'hm2).num = decide ((l[m]'hm2).num ≤ A) from rfl, aft_past (by omega), aft_skip (hl1.not (Or.inl (by omega))), aft_here, val_here, aft_here, val_here, i1, i2]
      have hsp : l = l.take m ++ l.drop m := (List.take_append_drop m l).symm
      have hd : l.drop m = l[m]'hm2 :: l.drop (m + 1) := List.drop_eq_getElem_cons hm2
      have hpp := hp
      rw [hsp, List.pairwise_append] at hpp
      obtain ⟨_, p2, p3⟩ := hpp
      by_cases hle : (l[m]'hm2).num ≤ A
      · rw [if_pos (by simpa using hle)]
        unfold caV
        conv => rhs; rw [hsp]
        rw [List.find?_append]
        have : (l.take m).find? (fun c => decide (A = c.num)) = none := by
          rw [List.find?_eq_none]
          intro c hcm
          have := p3 c hcm (l[m]'hm2) (by rw [hd]; exact List.mem_cons_self)
          simp; omega
        rw [this, Option.none_or]
      · rw [if_neg (by simpa using hle)]
        unfold caV
        conv => rhs; rw [hsp]
        rw [List.find?_append]
        have : (l.drop m).find? (fun c => decide (A = c.num)) = none := by
          rw [List.find?_eq_none]
          intro c hcm
          rw [hd] at hcm p2
          rcases List.mem_cons.1 hcm with rfl | hcm
          · simp; omega
          · have := (List.pairwise_cons.1 p2).1 c hcm
            simp; omega
        rw [this, Option.or_none]
/-- The whole: what the plan decides. -/
theorem plan_val {x : RcM} (hs : Sees W x) (hx : x.ok) {d : Nat} {l : List CaM} (hp : l.Pairwise (fun a b => a.num < b.num)) (hc : ∀ c ∈ l, ∀ b ∈ c.brs, ∀ q ∈ b.conds, CWf q) :
    valL W (planL d l) 0 = if x.arch = 3221225534 then caV x d l x.num else 2147483648 := by
  have hcl : Ind W (callsL d l) (caV x d l x.num) := fun A => by
    unfold callsL
    by_cases h0 : l = []
    · rw [if_pos h0, val_ret, h0]; rfl
    · rw [if_neg h0, val_load, hs.num]
      have := search_val hs hx d l.length 2 l [] x.num (Nat.le_refl _) h0 hp hc
      rw [List.append_nil] at this; exact this
  have h := bits_val (W := W) (t := hereP 2 :: retP 2147483648 :: hereP 1 :: callsL d l) (a := 4) (m := 4294967295) (v := 3221225534) (y := 1) (n := 2) (vy := caV x d l x.num) (vn := 2147483648)
    (by rw [aft_past (by decide), aft_ret, aft_here]; exact ind_here hcl) (by rw [aft_here]; exact ind_here (fun _ => val_ret))
  have ha : W 4 &&& 4294967295 = x.arch := by
    rw [hs.arch]
    have := Nat.and_two_pow_sub_one_eq_mod x.arch 32
    rw [show (2 ^ 32 - 1 : Nat) = 4294967295 from rfl] at this
    have := hx.arch
    omega
  rw [ha] at h
  exact h 0
end
end Go.Proofs.Ytcageojoafkojaa.Lo
