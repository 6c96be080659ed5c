/- Numbers of base sixteen, long numbers: by lists alone. -/
import Derived.Test.YthiohihbcfahhaaDoorTxtM
import Derived.Test.YthiohihbcfahhaaDoorNumber
namespace Go.Proofs.YthiohihbcfahhaaDoor
def hx (d : Nat) : UInt8 := if d < 10 then UInt8.ofNat (48 + d) else UInt8.ofNat (87 + d)
def hexD (u : Nat) : Bs := if _h : u < 16 then [hx u] else hexD (u / 16) ++ [hx (u % 16)]
termination_by u
decreasing_by omega
theorem hex_step {m : Nat} (h : ¬ m < 16) : hexD m = hexD (m / 16) ++ [hx (m % 16)] := by rw [hexD, dif_neg h]
theorem hex_last {m : Nat} (h : m < 16) : hexD m = [hx (m % 16)] := by rw [hexD, dif_pos h, Nat.mod_eq_of_lt h]
theorem dig_hx : ∀ d, d < 16 → dig 16 (hx d) = some d := by decide
theorem hx_zero : ∀ d, d < 16 → hx d = 48 → d = 0 := by decide
theorem hex_ne (u : Nat) : hexD u ≠ [] := by
  rw [hexD]
  split <;> simp
theorem hex_horner (u : Nat) (h : u < 18446744073709551616) : horner 16 (hexD u) 0 = some u := by
  induction u using Nat.strongRecOn with
  | _ u ih =>
    by_cases hlt : u < 16
    · rw [hex_last hlt]
      unfold horner
      rw [dig_hx (u % 16) (by omega)]
      simp only
      rw [if_pos (by omega)]
      simp [horner, Nat.mod_eq_of_lt hlt]
    · have := ih (u / 16) (by omega) (by omega)
      rw [hex_step hlt, horner_app _ _ _ _ _ this]
      unfold horner
      rw [dig_hx (u % 16) (by omega)]
      simp only
      rw [if_pos (by omega)]
      simp only [horner]
      congr 1
      omega
theorem hex_head (u : Nat) : (hexD u).head? = some 48 → u = 0 := by
  induction u using Nat.strongRecOn with
  | _ u ih =>
    by_cases hlt : u < 16
    · intro h
      rw [hex_last hlt] at h
      have h' : hx (u % 16) = 48 := by simpa only [List.head?_cons, Option.some.injEq] using h
      have := hx_zero _ (by omega) h'
      omega
    · intro h
      rw [hex_step hlt, List.head?_append, Option.or_of_isSome (by simpa using hex_ne (u / 16))] at h
      have := ih (u / 16) (by omega) h
      omega
theorem hex_len (u : Nat) (h : u < 18446744073709551616) : (hexD u).length ≤ 16 := by
  have : ∀ k u, u < 16 ^ (k + 1) → (hexD u).length ≤ k + 1 := by
    intro k
    induction k with
    | zero => intro u h; rw [hex_last (by simpa using h)]; simp
    | succ k ih =>
      intro u h
      by_cases hlt : u < 16
      · rw [hex_last hlt]; simp
      · rw [hex_step hlt, List.length_append]
        have := ih (u / 16) (by rw [Nat.pow_succ] at h; omega)
        simp
        omega
  exact this 15 u (by simpa using h)
theorem number_hex (u : Nat) (h : u < 18446744073709551616) : number (48 :: 120 :: hexD u) = some u := by
  have hxd : hexed (48 :: 120 :: hexD u) = true := by unfold hexed Lib.hasPrefix; simp [List.isPrefixOf]
  have hd : digits (48 :: 120 :: hexD u) = hexD u := by unfold digits; rw [hxd]; rfl
  have hb : base (48 :: 120 :: hexD u) = 16 := by unfold base; rw [hxd]; rfl
  unfold number
  rw [hd, hb, hex_horner u h, if_neg (hex_ne u)]
  by_cases h0 : u = 0
  · subst h0
    rw [hex_last (by omega)]
    rfl
  · rw [if_neg (fun e => h0 (hex_head u e.2))]
def lawD (c : UInt8) : Nat := if 48 ≤ c.toNat ∧ c.toNat ≤ 57 then c.toNat - 48 else if 97 ≤ c.toNat ∧ c.toNat ≤ 102 then c.toNat - 97 + 10 else 99
theorem dig_law {b : Nat} (hb : b = 10 ∨ b = 16) (c : UInt8) : dig b c = if lawD c < b then some (lawD c) else none := by
  unfold dig lawD
  by_cases h1 : 48 ≤ c.toNat ∧ c.toNat ≤ 57
  · rw [if_pos h1, if_pos h1]
  · rw [if_neg h1, if_neg h1]
    by_cases h2 : 97 ≤ c.toNat ∧ c.toNat ≤ 102
    · rw [if_pos (by omega), if_pos h2, show c.toNat - 97 + 10 = c.toNat - 87 by omega]
    · rw [if_neg h2]
      by_cases h3 : 97 ≤ c.toNat ∧ c.toNat ≤ 122
      · rw [if_pos h3, if_neg (by omega), if_neg (by omega)]
      · rw [if_neg h3, if_neg (by omega)]
theorem horner_big {b : Nat} (hb : 1 ≤ b) : ∀ (l : Bs) (n m : Nat), horner b l n = some m → n * b ^ l.length ≤ m ∧ (l ≠ [] → m < 18446744073709551616)
  | [], n, m, h => by simp [horner] at h; subst h; simp
  | c :: l, n, m, h => by
    rw [horner] at h
    cases hd : dig b c with
    | none => simp [hd] at h
    | some d =>
      simp only [hd] at h
      split at h
      · rename_i hlt
        obtain ⟨h1, h2⟩ := horner_big hb l _ _ h
        refine ⟨?_, fun _ => ?_⟩
        · rw [List.length_cons, Nat.pow_succ, Nat.mul_comm (b ^ l.length) b, ← Nat.mul_assoc]
          exact Nat.le_trans (Nat.mul_le_mul_right _ (Nat.le_add_right _ _)) h1
        · by_cases hl : l = []
          · subst hl; simp [horner] at h; omega
          · exact h2 hl
      · cases h
theorem long_none {b : Nat} (hb : b = 10 ∨ b = 16) (l : Bs) (h : 20 < l.length) (h0 : l.head? ≠ some 48) : horner b l 0 = none := by
  cases hm : horner b l 0 with
  | none => rfl
  | some m =>
    exfalso
    match l, h, h0, hm with
    | c :: t, h, h0, hm =>
      have hc : c ≠ 48 := by simpa using h0
      rw [horner, dig_law hb] at hm
      split at hm
      · cases hm
      · rename_i d hd
        split at hd
        · cases hd
          split at hm
          · obtain ⟨h1, h2⟩ := horner_big (by omega) t _ _ hm
            have ht : t ≠ [] := by intro e; subst e; simp at h
            have hm2 := h2 ht
            have hpos : 1 ≤ lawD c := by
              have hn : c.toNat ≠ 48 := fun e => hc (UInt8.toNat_inj.1 e)
              unfold lawD
              split
              · omega
              · split <;> omega
            have hp : 10 ^ 20 ≤ b ^ t.length := by
              have a1 : 10 ^ 20 ≤ b ^ 20 := Nat.pow_le_pow_left (by omega) 20
              have a2 : b ^ 20 ≤ b ^ t.length := Nat.pow_le_pow_right (by omega) (by simp at h; omega)
              exact Nat.le_trans a1 a2
            have : b ^ t.length ≤ (0 * b + lawD c) * b ^ t.length := Nat.le_mul_of_pos_left _ (by omega)
            have := Nat.le_trans this h1
            have h10 : (10 : Nat) ^ 20 = 100000000000000000000 := by decide
            omega
          · cases hm
        · cases hd
theorem horner_none_d {b acc k : Nat} {D : Bs} {c : UInt8} (hb : b = 10 ∨ b = 16) (h : D[k]? = some c) (hd : b ≤ lawD c) : horner b (D.drop k) acc = none := by
  obtain ⟨a1, e1⟩ := List.getElem?_eq_some_iff.1 h
  rw [List.drop_eq_getElem_cons a1, e1, horner, dig_law hb, if_neg (by omega)]
theorem horner_none_o {b acc k : Nat} {D : Bs} {c : UInt8} (hb : b = 10 ∨ b = 16) (h : D[k]? = some c) (hd : lawD c < b) (ho : 18446744073709551616 ≤ acc * b + lawD c) : horner b (D.drop k) acc = none := by
  obtain ⟨a1, e1⟩ := List.getElem?_eq_some_iff.1 h
  rw [List.drop_eq_getElem_cons a1, e1, horner, dig_law hb, if_pos hd]
  simp only
  rw [if_neg (by omega)]
theorem horner_on {b acc k : Nat} {D : Bs} {c : UInt8} (hb : b = 10 ∨ b = 16) (h : D[k]? = some c) (hd : lawD c < b) (ho : acc * b + lawD c < 18446744073709551616) : horner b (D.drop k) acc = horner b (D.drop (k + 1)) (acc * b + lawD c) := by
  obtain ⟨a1, e1⟩ := List.getElem?_eq_some_iff.1 h
  rw [List.drop_eq_getElem_cons a1, e1, horner, dig_law hb, if_pos hd]
  simp only
  rw [if_pos ho]
/-- Right, as the law has it, ahead of its loop. -/
def rightD (D : Bs) : Prop := 1 ≤ D.length ∧ D.length ≤ 20 ∧ (D.length = 1 ∨ D.head? ≠ some 48)
theorem numD_wrong {b : Nat} (hb : b = 10 ∨ b = 16) {D : Bs} (h : ¬ rightD D) : numD b D = none := by
  unfold numD
  split
  · rfl
  · rename_i h1
    unfold puRes
    split
    · rfl
    · rename_i h2
      have hl : 1 ≤ D.length := List.length_pos_iff.2 h2
      by_cases h3 : D.length = 1
      · exact absurd ⟨hl, by omega, .inl h3⟩ h
      · have h0 : D.head? ≠ some 48 := fun e => h1 ⟨by omega, e⟩
        by_cases h4 : D.length ≤ 20
        · exact absurd ⟨hl, h4, .inr h0⟩ h
        · exact long_none hb D (by omega) h0
theorem numD_right {b : Nat} {D : Bs} (h : rightD D) : numD b D = horner b D 0 := by
  obtain ⟨h1, h2, h3⟩ := h
  unfold numD
  rw [if_neg (fun e => by rcases h3 with h3 | h3; exact absurd e.1 (by omega); exact h3 e.2)]
  unfold puRes
  rw [if_neg (fun e => by subst e; simp at h1)]
end Go.Proofs.YthiohihbcfahhaaDoor
