/- The law's parts: both codes may be loaded and say what the parts say. Lists alone. -/
import Derived.Test.YtcageojoafkojaaJuMh
namespace Go.Proofs.Ytcageojoafkojaa.Ju
theorem fin_plain {p : PtM} (hk : p.kd = 2) (hc : p.i.c = 32 ∨ p.i.c = 84 ∨ p.i.c = 6) (hr : rangeB p.i = true) : Fin1 p := ⟨⟨fun _ => hc, fun a => by omega⟩, Or.inr (Or.inl hk), fun _ => hr⟩
theorem fin_name {p : PtM} (hk : p.kd = 1 ∨ p.kd = 4) : Fin1 p := ⟨⟨fun a => by omega, fun a => by omega⟩, by omega, fun a => by omega⟩
theorem one_fin (i : Nat) (p : SmP) : ∀ q ∈ oneF i p, Fin1 q := by
  intro q hq
  unfold oneF at hq
  split at hq
  · rw [List.mem_singleton] at hq; subst hq
    refine fin_plain rfl (Or.inl rfl) ?_
    show ((p.k % 16 * 4) % 4 == 0 && decide (p.k % 16 * 4 ≤ 60)) = true
    rw [Bool.and_eq_true, beq_iff_eq, decide_eq_true_eq]
    omega
  · split at hq
    · rw [List.mem_singleton] at hq; subst hq
      exact fin_name (Or.inr rfl)
    · simp only [List.mem_cons, List.not_mem_nil, or_false] at hq
      rcases hq with rfl | rfl
      · refine ⟨⟨fun a => (by cases a), fun _ => ?_⟩, Or.inr (Or.inr (Or.inl rfl)), fun a => (by cases a)⟩
        show wayN (p.how % 4) + 5 = 21 ∨ wayN (p.how % 4) + 5 = 37 ∨ wayN (p.how % 4) + 5 = 53 ∨ wayN (p.how % 4) + 5 = 69
        unfold wayN
        split
        · exact Or.inl rfl
        · split
          · exact Or.inr (Or.inl rfl)
          · split
            · exact Or.inr (Or.inr (Or.inl rfl))
            · exact Or.inr (Or.inr (Or.inr rfl))
      · exact fin_name (Or.inl rfl)
theorem sm_fin : ∀ (t : List SmP) (i : Nat), ∀ q ∈ smF i t, Fin1 q
  | [], _, q, hq => by cases hq
  | p :: t, i, q, hq => by
    rcases List.mem_append.1 (show q ∈ oneF i p ++ smF (i + 1) t from hq) with h1 | h1
    · exact one_fin i p q h1
    · exact sm_fin t (i + 1) q h1
theorem rest_fin (pad : Nat) : ∀ m n : Nat, ∀ q ∈ restF pad n m, Fin1 q
  | 0, n, q, hq => by
    rw [show restF pad n 0 = [retP 9] from rfl, List.mem_singleton] at hq; subst hq
    exact fin_plain rfl (Or.inr (Or.inr rfl)) rfl
  | m + 1, n, q, hq => by
    rcases List.mem_append.1 (show q ∈ placeF pad n ++ restF pad (n + 1) m from hq) with h1 | h1
    · rcases List.mem_append.1 (show q ∈ List.replicate pad maskP ++ endP n from h1) with h2 | h2
      · rw [List.eq_of_mem_replicate h2]
        exact fin_plain rfl (Or.inr (Or.inl rfl)) rfl
      · unfold endP at h2
        rcases List.mem_cons.1 h2 with rfl | h3
        · exact fin_name (Or.inl rfl)
        · split at h3
          · rw [List.mem_singleton] at h3; subst h3
            exact fin_plain rfl (Or.inr (Or.inr rfl)) rfl
          · cases h3
    · exact rest_fin pad m (n + 1) q h1
theorem parts_fin (l : List SmP) (pad : Nat) : ∀ q ∈ partsF l pad, Fin1 q := fun q hq => by
  rcases List.mem_append.1 (show q ∈ smF 0 (l.take 20) ++ restF pad 1 6 from hq) with h1 | h1
  · exact sm_fin _ 0 q h1
  · exact rest_fin pad 6 1 q h1
theorem wt_app : ∀ a b : List PtM, wtL (a ++ b) = wtL a + wtL b
  | [], b => by simp [wtL]
  | p :: a, b => by
    show wtP p + wtL (a ++ b) = wtP p + wtL a + wtL b
    rw [wt_app a b]; omega
theorem wt_reps : ∀ n : Nat, wtL (List.replicate n maskP) = n
  | 0 => rfl
  | n + 1 => by
    rw [List.replicate_succ]
    show 1 + wtL (List.replicate n maskP) = n + 1
    rw [wt_reps n]; omega
theorem wt_one (i : Nat) (p : SmP) : wtL (oneF i p) ≤ 3 := by
  unfold oneF
  split
  · show 1 + 0 ≤ 3; omega
  · split
    · show 1 + 0 ≤ 3; omega
    · show 3 + (0 + 0) ≤ 3; omega
theorem wt_sm : ∀ (t : List SmP) (i : Nat), wtL (smF i t) ≤ 3 * t.length
  | [], _ => Nat.le_refl _
  | p :: t, i => by
    have h1 := wt_one i p
    have h2 := wt_sm t (i + 1)
    rw [show smF i (p :: t) = oneF i p ++ smF (i + 1) t from rfl, wt_app, List.length_cons]
    omega
theorem wt_rest (pad : Nat) : ∀ m n : Nat, wtL (restF pad n m) ≤ 1 + m * (pad + 1)
  | 0, n => by show 1 + 0 ≤ _; omega
  | m + 1, n => by
    have h2 := wt_rest pad m (n + 1)
    rw [show restF pad n (m + 1) = placeF pad n ++ restF pad (n + 1) m from rfl, wt_app]
    unfold placeF endP
    rw [wt_app, wt_reps, Nat.succ_mul]
    have h3 : wtL (hereP n :: if n % 2 = 0 then [retP n] else []) ≤ 1 := by
      split
      · show 0 + (1 + 0) ≤ 1; omega
      · show 0 + 0 ≤ 1; omega
    omega
theorem wt_parts (l : List SmP) {pad : Nat} (hp : pad ≤ 260) : wtL (partsF l pad) ≤ 4096 := by
  have h1 := wt_sm (l.take 20) 0
  have h2 := wt_rest pad 6 1
  have h3 : (l.take 20).length ≤ 20 := by rw [List.length_take]; omega
  rw [show partsF l pad = smF 0 (l.take 20) ++ restF pad 1 6 from rfl, wt_app]
  omega
theorem last_appR : ∀ {a b : List PtM}, LastR b → LastR (a ++ b)
  | [], _, h => h
  | _ :: a, _, h => Or.inr (last_appR (a := a) h)
theorem last_rest (pad : Nat) : ∀ m n : Nat, LastR (restF pad n m)
  | 0, _ => Or.inl ⟨rfl, rfl, rfl⟩
  | m + 1, n => last_appR (last_rest pad m (n + 1))
theorem last_parts (l : List SmP) (pad : Nat) : LastR (partsF l pad) := last_appR (last_rest pad 6 1)
/-- What is known of both lists of parts. -/
structure Runs (x z : List PtM) : Prop where
  cod : Cod z (makeF z)
  good : Good (makeF z).2.ins
  says : ∀ W : Nat → Nat, (runN W (makeF z).2.ins).2 = valL W x 0
theorem runs_of {z : List PtM} (hf : Fwd z) (hs : ∀ p ∈ z, Fin1 p) (hl : LastR z) (hw : wtL z ≤ 4096) : Cod z (makeF z) ∧ Good (makeF z).2.ins ∧ ∀ W : Nat → Nat, (runN W (makeF z).2.ins).2 = valL W z 0 := by
  have hc := make_cod z hf hs hl hw
  refine ⟨hc, cod_good hc hw, fun W => ?_⟩
  rw [run_code W hc.smp]
  exact (make_mean W z (fun p hp => (hs p hp).smp) hc.ok).all 0
theorem runs_parts (l : List SmP) {pad : Nat} (hp : pad ≤ 260) : Runs (partsF l pad) (partsF l pad) ∧ Runs (partsF l pad) (tidyF (partsF l pad)) := by
  have hf := fwd_parts l pad
  have hs := parts_fin l pad
  have hl := last_parts l pad
  have hw := wt_parts l hp
  obtain ⟨a1, a2, a3⟩ := runs_of hf hs hl hw
  obtain ⟨t1, t2, t3⟩ := tidy_keep _ _ (Nat.lt_succ_self _) hf hs hl
  obtain ⟨b1, b2, b3⟩ := runs_of (parts_tidied l pad).fwd t2 t3 (by omega)
  exact ⟨⟨a1, a2, a3⟩, ⟨b1, b2, fun W => (b3 W).trans (tidy_val W _ _ (Nat.lt_succ_self _) hf 0)⟩⟩
/-! The law's own run of parts. -/
theorem aft_mid {n : Int} : ∀ {a b : List PtM}, Fwd (a ++ b) → HasN n b → aft n (a ++ b) = aft n b
  | [], _, _, _ => rfl
  | p :: a, b, h, hn => by
    rw [List.cons_append, aft_other (fun e => h.2.1 e.1 (by rw [e.2]; exact has_app.2 (Or.inr hn)))]
    exact aft_mid h.1 hn
/-- Where a name stands, or the end. -/
def placeN (n : Int) : List PtM → Nat
  | [] => 0
  | p :: t => if p.kd = 1 ∧ p.to = n then 0 else placeN n t + 1
theorem place_aft (n : Int) : ∀ l : List PtM, l.drop (placeN n l) = aft n l
  | [] => rfl
  | p :: t => by
    unfold placeN aft
    by_cases h : p.kd = 1 ∧ p.to = n
    · rw [if_pos h, if_pos h]; rfl
    · rw [if_neg h, if_neg h, List.drop_succ_cons, place_aft n t]
theorem place_le (n : Int) : ∀ l : List PtM, placeN n l ≤ l.length
  | [] => Nat.le_refl _
  | p :: t => by unfold placeN; have := place_le n t; split <;> simp; omega
theorem fwd_drop : ∀ {l : List PtM} (k : Nat), Fwd l → Fwd (l.drop k)
  | _, 0, h => h
  | [], _ + 1, h => h
  | _ :: _, k + 1, h => fwd_drop k h.1
/-- A way from the k-th part goes on to its name's place. -/
theorem way_place {l : List PtM} {k : Nat} {p : PtM} {n : Int} (h : Fwd l) (hp : l[k]? = some p) (hw : WayTo p n) : aft n (l.drop (k + 1)) = l.drop (placeN n l) ∧ k < placeN n l := by
  have hd := drop_at hp
  have hf := fwd_drop k h
  rw [hd] at hf
  have hn := hf.2.2 n hw
  have e : l = (l.take (k + 1)) ++ l.drop (k + 1) := (List.take_append_drop _ _).symm
  have e1 : aft n l = aft n (l.drop (k + 1)) := by
    have := aft_mid (a := l.take (k + 1)) (b := l.drop (k + 1)) (by rw [← e]; exact h) hn
    rw [← e] at this; exact this
  refine ⟨by rw [place_aft, e1], ?_⟩
  have h1 : (l.drop (placeN n l)).length = (aft n (l.drop (k + 1))).length := by rw [place_aft, e1]
  have h2 := aft_len n (l.drop (k + 1))
  have h3 := (List.getElem?_eq_some_iff.1 hp).1
  rw [List.length_drop] at h1 h2
  have := place_le n l
  omega
end Go.Proofs.Ytcageojoafkojaa.Ju

