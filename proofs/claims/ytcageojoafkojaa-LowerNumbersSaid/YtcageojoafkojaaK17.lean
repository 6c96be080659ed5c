/- A plan's code: its parts are fine, how many there are, how it ends. Lists alone. -/
import Derived.Test.YtcageojoafkojaaK16
namespace Go.Proofs.Ytcageojoafkojaa.Lo
open Go.Proofs.Ytcageojoafkojaa.Ju Go.Proofs.Ytcageojoafkojaa.Ir Go.Proofs.Ytcageojoafkojaa.Me
/-- A part that is fine, its names not above M. -/
structure PtG (M : Nat) (p : PtM) : Prop where
  fin : Fin1 p
  i : p.i.ok
  t0 : 0 ≤ p.tQ
  t1 : p.tQ ≤ (M : Int)
  e0 : 0 ≤ p.el
  e1 : p.el ≤ (M : Int)
def AllG (M : Nat) (l : List PtM) : Prop := ∀ p ∈ l, PtG M p
section
variable {M : Nat}
theorem AllG.nil : AllG M [] := fun _ h => by cases h
theorem AllG.cons {p : PtM} {l : List PtM} (h : PtG M p) (hl : AllG M l) : AllG M (p :: l) := fun q hq => by
  rcases List.mem_cons.1 hq with rfl | hq
  · exact h
  · exact hl q hq
theorem AllG.app {a b : List PtM} (ha : AllG M a) (hb : AllG M b) : AllG M (a ++ b) := fun q hq => by
  rcases List.mem_append.1 hq with hq | hq
  · exact ha q hq
  · exact hb q hq
theorem PtG.ok {p : PtM} (h : PtG M p) (hM : M ≤ 1000000) : p.ok := by
  have h1 := h.t0
  have h2 := h.t1
  have h3 := h.e0
  have h4 := h.e1
  exact ⟨by have := h.fin.kd; omega, by omega, by omega, by omega, by omega, h.i⟩
theorem g_load {k : Nat} (h4 : k % 4 = 0) (h60 : k ≤ 60) : PtG M (loadP k) :=
  ⟨fin_plain rfl (Or.inl rfl) (by show (k % 4 == 0 && decide (k ≤ 60)) = true; rw [Bool.and_eq_true, beq_iff_eq, decide_eq_true_eq]; exact ⟨h4, h60⟩), ⟨by show 32 < _; omega, by show 0 < _; omega, by show 0 < _; omega, by show k < _; omega⟩, Int.le_refl _, by show (0 : Int) ≤ _; omega, Int.le_refl _, by show (0 : Int) ≤ _; omega⟩
theorem g_mk {k : Nat} (h : k < 4294967296) : PtG M (mkP k) :=
  ⟨fin_plain rfl (Or.inr (Or.inl rfl)) rfl, ⟨by show 84 < _; omega, by show 0 < _; omega, by show 0 < _; omega, h⟩, Int.le_refl _, by show (0 : Int) ≤ _; omega, Int.le_refl _, by show (0 : Int) ≤ _; omega⟩
theorem g_ret {k : Nat} (h : k < 4294967296) : PtG M (retP k) :=
  ⟨fin_plain rfl (Or.inr (Or.inr rfl)) rfl, ⟨by show 6 < _; omega, by show 0 < _; omega, by show 0 < _; omega, h⟩, Int.le_refl _, by show (0 : Int) ≤ _; omega, Int.le_refl _, by show (0 : Int) ≤ _; omega⟩
theorem g_here {k : Nat} (h : k ≤ M) : PtG M (hereP k) :=
  ⟨fin_name (Or.inl rfl), ⟨by show 0 < _; omega, by show 0 < _; omega, by show 0 < _; omega, by show 0 < _; omega⟩, by show (0 : Int) ≤ (k : Int); omega, by show (k : Int) ≤ _; omega, Int.le_refl _, by show (0 : Int) ≤ _; omega⟩
theorem g_if {c v y n : Nat} (hc : c = 21 ∨ c = 37 ∨ c = 53) (hv : v < 4294967296) (hy : y ≤ M) (hn : n ≤ M) : PtG M (ifC c v y n) := by
  refine ⟨⟨⟨fun a => (by cases a), fun _ => ?_⟩, Or.inr (Or.inr (Or.inl rfl)), fun a => (by cases a)⟩, ⟨?_, by show 0 < _; omega, by show 0 < _; omega, hv⟩, by show (0 : Int) ≤ (y : Int); omega, by show (y : Int) ≤ _; omega, by show (0 : Int) ≤ (n : Int); omega, by show (n : Int) ≤ _; omega⟩
  · show c = 21 ∨ c = 37 ∨ c = 53 ∨ c = 69
    omega
  · show c < 65536
    omega
theorem bits_g {a m v y n : Nat} (h4 : a % 4 = 0) (h60 : a ≤ 60) (hm : m < 4294967296) (hv : v < 4294967296) (hy : y ≤ M) (hn : n ≤ M) : AllG M (bitsL a m v y n) :=
  (AllG.nil.cons (g_if (Or.inl rfl) hv hy hn)).cons (g_mk hm) |>.cons (g_load h4 h60)
theorem equal_g {k a m v y n : Nat} (ha : a < 6) (hm : m < 18446744073709551616) (hv : v < 18446744073709551616) (hy : y ≤ M) (hn : n ≤ M) (hk : (equalL k a m v y n).2 ≤ M) : AllG M (equalL k a m v y n).1 := by
  unfold equalL at hk ⊢
  split at hk
  · rename_i h; rw [if_pos h]
    exact bits_g (by omega) (by omega) (by omega) (by omega) hy hn
  · rename_i h; rw [if_neg h]
    simp only at hk
    exact (bits_g (by omega) (by omega) (by omega) (by omega) hk hn).app ((bits_g (by omega) (by omega) (by omega) (by omega) hy hn).cons (g_here hk))
theorem above_g {k a how v y n : Nat} (ha : a < 6) (hh : how = 32 ∨ how = 48) (hv : v < 18446744073709551616) (hy : y ≤ M) (hn : n ≤ M) (hk : (aboveL k a how v y n).2 ≤ M) : AllG M (aboveL k a how v y n).1 := by
  unfold aboveL at hk ⊢
  split at hk
  · rename_i h; rw [if_pos h]
    exact (AllG.nil.cons (g_if (by omega) (by omega) hy hn)).cons (g_load (by omega) (by omega))
  · rename_i h; rw [if_neg h]
    simp only at hk
    exact ((((((AllG.nil.cons (g_if (by omega) (by omega) hy hn)).cons (g_load (by omega) (by omega))).cons (g_here hk)).cons (g_if (Or.inl rfl) (by omega) hk hn)).cons (g_here (by omega))).cons (g_if (Or.inr (Or.inl rfl)) (by omega) hy (by omega))).cons (g_load (by omega) (by omega))
theorem ask_g {k : Nat} {c : CondM} {y n : Nat} (hc : CWf c) (hne : nevB c = false) (hy : y ≤ M) (hn : n ≤ M) (hk : (ask k c y n).2 ≤ M) : AllG M (ask k c y n).1 := by
  obtain ⟨a0, a6⟩ := nev_arg hne
  have ha : c.arg.toNat < 6 := by omega
  have h64 : (18446744073709551615 : Nat) < 18446744073709551616 := by omega
  unfold ask at hk ⊢
  split at hk
  · rename_i h; rw [if_pos h]; exact equal_g ha h64 hc.v hy hn hk
  · rename_i h1; rw [if_neg h1]
    split at hk
    · rename_i h; rw [if_pos h]; exact equal_g ha h64 hc.v hn hy hk
    · rename_i h2; rw [if_neg h2]
      split at hk
      · rename_i h; rw [if_pos h]; exact above_g ha (Or.inr rfl) hc.v hn hy hk
      · rename_i h3; rw [if_neg h3]
        split at hk
        · rename_i h; rw [if_pos h]; exact above_g ha (Or.inl rfl) hc.v hn hy hk
        · rename_i h4; rw [if_neg h4]
          split at hk
          · rename_i h; rw [if_pos h]; exact above_g ha (Or.inl rfl) hc.v hy hn hk
          · rename_i h5; rw [if_neg h5]
            split at hk
            · rename_i h; rw [if_pos h]; exact above_g ha (Or.inr rfl) hc.v hy hn hk
            · rename_i h6; rw [if_neg h6]
              split at hk
              · rename_i h; rw [if_pos h]; exact equal_g ha hc.m hc.v hy hn hk
              · rename_i h; rw [if_neg h]; exact AllG.nil
theorem conds_g {b : Nat} : ∀ (l : List CondM) (k : Nat), (∀ c ∈ l, CWf c ∧ nevB c = false) → b ≤ k → (condsL b k l).2 ≤ M → AllG M (condsL b k l).1
  | [], k, _, _, _ => AllG.nil
  | c :: l, k, hc, hb, hk => by
    have h1 := (ask_lay (k + 1) c (k + 1) b).le
    have h2 := (conds_lay b l (ask (k + 1) c (k + 1) b).2 (by omega)).le
    have hk' : (condsL b (ask (k + 1) c (k + 1) b).2 l).2 ≤ M := hk
    obtain ⟨w1, w2⟩ := hc c List.mem_cons_self
    show AllG M ((ask (k + 1) c (k + 1) b).1 ++ hereP (k + 1) :: (condsL b (ask (k + 1) c (k + 1) b).2 l).1)
    exact (ask_g w1 w2 (by omega) (by omega) (by omega)).app ((conds_g l _ (fun d hd => hc d (List.mem_cons_of_mem _ hd)) (by omega) hk').cons (g_here (by omega)))
/-- A branch, a case that is fine. -/
structure BWf (b : BrM) : Prop where
  act : b.act < 4294967296
  cs : ∀ c ∈ b.conds, CWf c
structure CaWf (c : CaM) : Prop where
  num : c.num < 4294967296
  brs : ∀ b ∈ c.brs, BWf b
theorem br_g {k : Nat} {b : BrM} (hb : BWf b) (hk : (brL k b).2 ≤ M) : AllG M (brL k b).1 := by
  have h1 := (conds_lay (k + 1) b.conds (k + 1) (Nat.le_refl _)).le
  unfold brL at hk ⊢
  split at hk
  · rename_i h; rw [if_pos h]; exact AllG.nil
  · rename_i h; rw [if_neg h]
    simp only at hk
    refine (conds_g b.conds (k + 1) (fun c hc => ⟨hb.cs c hc, ?_⟩) (Nat.le_refl _) hk).app ((AllG.nil.cons (g_here (by omega))).cons (g_ret hb.act))
    rw [← Bool.not_eq_true]
    exact fun e => h (List.any_eq_true.2 ⟨c, hc, e⟩)
theorem brs_g : ∀ (l : List BrM) (k : Nat), (∀ b ∈ l, BWf b) → (brsL k l).2 ≤ M → AllG M (brsL k l).1
  | [], k, _, _ => AllG.nil
  | b :: l, k, hb, hk => by
    have h2 := (brs_lay l (brL k b).2).le
    have hk' : (brsL (brL k b).2 l).2 ≤ M := hk
    exact (br_g (hb b List.mem_cons_self) (by omega)).app (brs_g l _ (fun c hc => hb c (List.mem_cons_of_mem _ hc)) hk')
theorem call_g {d k : Nat} {c : CaM} (hd : d < 4294967296) (hc : CaWf c) (hk : (callL d k c).2 ≤ M) : AllG M (callL d k c).1 := by
  have h1 := (brs_lay c.brs (k + 2)).le
  have hk' : (brsL (k + 2) c.brs).2 ≤ M := hk
  exact (((brs_g c.brs (k + 2) hc.brs hk').app ((AllG.nil.cons (g_ret hd)).cons (g_here (by omega)))).cons (g_here (by omega))).cons (g_if (Or.inl rfl) hc.num (by omega) (by omega))
theorem mid_lt {l : List CaM} (hc : ∀ c ∈ l, CaWf c) : midN l < 4294967296 := by
  unfold midN
  cases h : l[l.length / 2]? with
  | none => simp
  | some c => exact (hc c (List.mem_of_getElem? h)).num
theorem search_g {d : Nat} (hd : d < 4294967296) : ∀ (f k : Nat) (l : List CaM), (∀ c ∈ l, CaWf c) → (searchL d f k l).2 ≤ M → AllG M (searchL d f k l).1
  | 0, k, l, _, _ => AllG.nil
  | f + 1, k, l, hc, hk => by
    unfold searchL at hk ⊢
    split at hk
    · rename_i h1
      rw [if_pos h1]
      cases h : l[0]? with
      | none => exact AllG.nil
      | some c =>
        rw [h] at hk
        exact call_g hd (hc c (List.mem_of_getElem? h)) hk
    · rename_i h1
      rw [if_neg h1]
      have l1 := (search_lay d f (k + 2) (l.take (l.length / 2))).le
      have l2 := (search_lay d f (searchL d f (k + 2) (l.take (l.length / 2))).2 (l.drop (l.length / 2))).le
      simp only at hk ⊢
      exact (((search_g hd f _ _ (fun c h => hc c (List.mem_of_mem_take h)) (by omega)).app ((search_g hd f _ _ (fun c h => hc c (List.mem_of_mem_drop h)) hk).cons (g_here (by omega)))).cons (g_here (by omega))).cons (g_if (Or.inr (Or.inr rfl)) (mid_lt hc) (by omega) (by omega))
theorem plan_g {d : Nat} {l : List CaM} (hd : d < 4294967296) (hc : ∀ c ∈ l, CaWf c) (h2 : 2 ≤ M) (hk : (searchL d l.length 2 l).2 ≤ M) : AllG M (planL d l) := by
  unfold planL
  refine (bits_g (by omega) (by omega) (by omega) (by omega) (by omega) h2).app (((AllG.cons (g_here (by omega)) ?_).cons (g_ret (by omega))).cons (g_here h2))
  unfold callsL
  split
  · exact AllG.nil.cons (g_ret hd)
  · exact (search_g hd _ _ _ hc hk).cons (g_load (by omega) (by omega))
end
/-! How it ends. -/
theorem call_last (d k : Nat) (c : CaM) : LastR (callL d k c).1 := by
  unfold callL
  exact last_appR (a := [_, _]) (last_appR (a := _) (last_appR (a := [_]) (Or.inl ⟨rfl, rfl, rfl⟩)))
theorem search_last (d : Nat) : ∀ (f k : Nat) (l : List CaM), l.length ≤ f → l ≠ [] → LastR (searchL d f k l).1
  | 0, k, l, hf, hn => absurd (List.eq_nil_of_length_eq_zero (by omega)) hn
  | f + 1, k, l, hf, hn => by
    unfold searchL
    split
    · rename_i h1
      obtain ⟨c, rfl⟩ := List.length_eq_one_iff.1 h1
      exact call_last d k c
    · have h2 : 2 ≤ l.length := by
        have : l.length ≠ 0 := fun e => hn (List.eq_nil_of_length_eq_zero e)
        omega
      have := search_last d f (searchL d f (k + 2) (l.take (l.length / 2))).2 (l.drop (l.length / 2)) (by rw [List.length_drop]; omega) (fun e => by have := congrArg List.length e; rw [List.length_drop, List.length_nil] at this; omega)
      exact last_appR (a := [_, _]) (last_appR (a := _) (last_appR (a := [_]) this))
theorem plan_last (d : Nat) (l : List CaM) : LastR (planL d l) := by
  unfold planL
  refine last_appR (last_appR (a := [hereP 2, retP 2147483648, hereP 1]) (b := callsL d l) ?_)
  unfold callsL
  split
  · exact Or.inl ⟨rfl, rfl, rfl⟩
  · rename_i h
    exact last_appR (a := [_]) (search_last d l.length 2 l (Nat.le_refl _) h)
/-! How many there are. -/
def szB (b : BrM) : Nat := 8 * b.conds.length + 2
def szC (c : CaM) : Nat := (c.brs.map szB).sum + 7
theorem equal_len (k a m v y n : Nat) : (equalL k a m v y n).1.length ≤ 7 := by
  unfold equalL bitsL
  split <;> simp
theorem above_len (k a how v y n : Nat) : (aboveL k a how v y n).1.length ≤ 7 := by
  unfold aboveL
  split <;> simp
theorem ask_len (k : Nat) (c : CondM) (y n : Nat) : (ask k c y n).1.length ≤ 7 := by
  unfold ask
  repeat' split
  all_goals first | exact equal_len .. | exact above_len .. | exact Nat.zero_le _
theorem conds_len (b : Nat) : ∀ (l : List CondM) (k : Nat), (condsL b k l).1.length ≤ 8 * l.length
  | [], k => Nat.le_refl _
  | c :: l, k => by
    have h1 := ask_len (k + 1) c (k + 1) b
    have h2 := conds_len b l (ask (k + 1) c (k + 1) b).2
    show ((ask (k + 1) c (k + 1) b).1 ++ hereP (k + 1) :: (condsL b (ask (k + 1) c (k + 1) b).2 l).1).length ≤ _
    rw [List.length_append, List.length_cons, List.length_cons]
    omega
theorem br_len (k : Nat) (b : BrM) : (brL k b).1.length ≤ szB b := by
  have := conds_len (k + 1) b.conds (k + 1)
  unfold brL szB
  split
  · exact Nat.zero_le _
  · rw [List.length_append]
    simp only [List.length_cons, List.length_nil]
    omega
theorem brs_len : ∀ (l : List BrM) (k : Nat), (brsL k l).1.length ≤ (l.map szB).sum
  | [], k => Nat.le_refl _
  | b :: l, k => by
    have h1 := br_len k b
    have h2 := brs_len l (brL k b).2
    show ((brL k b).1 ++ (brsL (brL k b).2 l).1).length ≤ _
    rw [List.length_append, List.map_cons, List.sum_cons]
    omega
theorem call_len (d k : Nat) (c : CaM) : (callL d k c).1.length + 3 ≤ szC c := by
  have := brs_len c.brs (k + 2)
  unfold callL szC
  simp only [List.length_cons, List.length_append, List.length_nil]
  omega
theorem search_len (d : Nat) : ∀ (f k : Nat) (l : List CaM), l.length ≤ f → l ≠ [] → (searchL d f k l).1.length + 3 ≤ (l.map szC).sum
  | 0, k, l, hf, hn => absurd (List.eq_nil_of_length_eq_zero (by omega)) hn
  | f + 1, k, l, hf, hn => by
    unfold searchL
    split
    · rename_i h1
      obtain ⟨c, rfl⟩ := List.length_eq_one_iff.1 h1
      have := call_len d k c
      simpa using this
    · have h2 : 2 ≤ l.length := by
        have : l.length ≠ 0 := fun e => hn (List.eq_nil_of_length_eq_zero e)
        omega
      have i1 := search_len d f (k + 2) (l.take (l.length / 2)) (by rw [List.length_take]; omega) (fun e => by have := congrArg List.length e; rw [List.length_take, List.length_nil] at this; omega)
      have i2 := search_len d f (searchL d f (k + 2) (l.take (l.length / 2))).2 (l.drop (l.length / 2)) (by rw [List.length_drop]; omega) (fun e => by have := congrArg List.length e; rw [List.length_drop, List.length_nil] at this; omega)
      have e : (l.map szC).sum = ((l.take (l.length / 2)).map szC).sum + ((l.drop (l.length / 2)).map szC).sum := by rw [← List.sum_append, ← List.map_append, List.take_append_drop]
      simp only [List.length_cons, List.length_append]
      omega
theorem plan_len (d : Nat) (l : List CaM) : (planL d l).length ≤ 8 + (l.map szC).sum := by
  have h : (callsL d l).length ≤ 1 + (l.map szC).sum := by
    unfold callsL
    split
    · simp
    · rename_i hn
      have := search_len d l.length 2 l (Nat.le_refl _) hn
      rw [List.length_cons]; omega
  unfold planL bitsL
  simp only [List.length_append, List.length_cons, List.length_nil]
  omega
theorem wt_len : ∀ l : List PtM, wtL l ≤ 3 * l.length
  | [] => Nat.le_refl _
  | p :: l => by
    have := wt_len l
    show wtP p + wtL l ≤ _
    rw [List.length_cons]
    unfold wtP
    split
    · omega
    · split <;> omega
theorem sum_le {α : Type} (f : α → Nat) (b : Nat) : ∀ l : List α, (∀ x ∈ l, f x ≤ b) → (l.map f).sum ≤ b * l.length
  | [], _ => Nat.le_refl _
  | x :: l, h => by
    have h1 := h x List.mem_cons_self
    have h2 := sum_le f b l (fun y hy => h y (List.mem_cons_of_mem _ hy))
    rw [List.map_cons, List.sum_cons, List.length_cons, Nat.mul_succ]
    omega
/-- What is known of a plan's code. -/
structure PlanG (d : Nat) (l : List CaM) : Prop where
  ok : ∀ p ∈ planL d l, p.ok
  fin : ∀ p ∈ planL d l, Fin1 p
theorem plan_fine {d : Nat} {l : List CaM} (hd : d < 4294967296) (hc : ∀ c ∈ l, CaWf c) (hs : (searchL d l.length 2 l).2 ≤ 1000000) : PlanG d l := by
  have h := plan_g (M := 1000000) hd hc (by omega) hs
  exact ⟨fun p hp => (h p hp).ok (Nat.le_refl _), fun p hp => (h p hp).fin⟩
end Go.Proofs.Ytcageojoafkojaa.Lo
