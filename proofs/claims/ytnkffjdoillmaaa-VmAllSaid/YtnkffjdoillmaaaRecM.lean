/- Numbers of bytes, the lowest first; a record as sixty-four of them. -/
import Derived.Test.YtnkffjdoillmaaaBk
import Derived.Laws.BitsAllLaws
import Derived.Lib.BitFns
namespace Go.Proofs.Ytnkffjdoillmaaa.Rec
def leN (bs : List Nat) (o : Nat) : Nat → Nat
  | 0 => 0
  | n + 1 => leN bs o n + 256 ^ n * bs.getD (o + n) 0
def Small8 (bs : List Nat) : Prop := ∀ j, bs.getD j 0 < 256
theorem small8_of {bs : List Nat} (h : ∀ x ∈ bs, x < 256) : Small8 bs := by
  intro j
  rw [List.getD_eq_getElem?_getD]
  by_cases hj : j < bs.length
  · rw [List.getElem?_eq_getElem hj]; exact h _ (List.getElem_mem hj)
  · rw [List.getElem?_eq_none (by omega)]; decide
theorem leN_lt {bs : List Nat} (h : Small8 bs) (o : Nat) : ∀ n, leN bs o n < 256 ^ n
  | 0 => by simp [leN]
  | n + 1 => by
    have h1 := leN_lt h o n
    have h2 := h (o + n)
    have h3 : 256 ^ n * bs.getD (o + n) 0 ≤ 256 ^ n * 255 := Nat.mul_le_mul_left _ (by omega)
    unfold leN
    rw [Nat.pow_succ]
    omega
theorem leN_byte {bs : List Nat} (h : Small8 bs) (o k : Nat) : ∀ n, k < n → leN bs o n / 256 ^ k % 256 = bs.getD (o + k) 0
  | 0, hk => absurd hk (by omega)
  | n + 1, hk => by
    have h1 := leN_lt h o n
    have h2 := h (o + k)
    unfold leN
    by_cases e : k = n
    · subst e
      rw [Nat.add_mul_div_left _ _ (Nat.pow_pos (by omega)), Nat.div_eq_of_lt h1, Nat.zero_add, Nat.mod_eq_of_lt h2]
    · have hk' : k < n := by omega
      rw [show (256 : Nat) ^ n = 256 ^ k * (256 * 256 ^ (n - k - 1)) by rw [← Nat.pow_succ', ← Nat.pow_add]; congr 1; omega, Nat.mul_assoc,
        Nat.add_mul_div_left _ _ (Nat.pow_pos (by omega)), Nat.mul_assoc, Nat.add_mul_mod_self_left]
      exact leN_byte h o k n hk'
theorem leN_8 (bs : List Nat) (o : Nat) : leN bs o 8 = leN bs o 4 + 4294967296 * leN bs (o + 4) 4 := by
  simp only [leN, Nat.add_zero, Nat.add_assoc, Nat.reduceAdd]
  omega
theorem leN_4 (bs : List Nat) (o : Nat) : leN bs o 4 = bs.getD o 0 + 256 * bs.getD (o + 1) 0 + 65536 * bs.getD (o + 2) 0 + 16777216 * bs.getD (o + 3) 0 := by
  simp only [leN, Nat.add_zero, Nat.add_assoc]
  omega
theorem leN4_lt {bs : List Nat} (h : Small8 bs) (o : Nat) : leN bs o 4 < 4294967296 := leN_lt h o 4
theorem leN8_lt {bs : List Nat} (h : Small8 bs) (o : Nat) : leN bs o 8 < 18446744073709551616 := leN_lt h o 8
/-- A number's bytes. -/
def bytesOf (n v : Nat) : List Nat := (List.range n).map fun i => v / 256 ^ i % 256
theorem bytesOf_len (n v : Nat) : (bytesOf n v).length = n := by simp [bytesOf]
theorem bytesOf_lt (n v : Nat) : ∀ x ∈ bytesOf n v, x < 256 := by
  intro x hx
  obtain ⟨i, _, rfl⟩ := List.mem_map.1 hx
  exact Nat.mod_lt _ (by omega)
theorem bytesOf_at (n v i : Nat) (h : i < n) : (bytesOf n v).getD i 0 = v / 256 ^ i % 256 := by
  rw [List.getD_eq_getElem?_getD, bytesOf, List.getElem?_map, List.getElem?_range h]; rfl
theorem leN_bytes (a c : List Nat) (m v : Nat) : ∀ n, n ≤ m → leN (a ++ (bytesOf m v ++ c)) a.length n = v % 256 ^ n
  | 0, _ => by simp [leN, Nat.mod_one]
  | n + 1, h => by
    unfold leN
    rw [leN_bytes a c m v n (by omega), Nat.mod_pow_succ]
    have hl : (a ++ (bytesOf m v ++ c)).getD (a.length + n) 0 = v / 256 ^ n % 256 := by
      rw [List.getD_eq_getElem?_getD, List.getElem?_append_right (by omega), Nat.add_sub_cancel_left, List.getElem?_append_left (by rw [bytesOf_len]; omega), ← List.getD_eq_getElem?_getD]
      exact bytesOf_at m v n (by omega)
    rw [hl]
theorem leN_part {bs a c : List Nat} {m v o : Nat} (h : bs = a ++ (bytesOf m v ++ c)) (ho : o = a.length) (hv : v < 256 ^ m) : leN bs o m = v := by
  subst h ho
  rw [leN_bytes a c m v m (Nat.le_refl _)]; exact Nat.mod_eq_of_lt hv
/-- A record's numbers are those of sixty-four bytes. -/
theorem record_bytes (n0 n1 n2 n3 n4 n5 n6 n7 n8 : Nat) (h0 : n0 < 256 ^ 4) (h1 : n1 < 256 ^ 4) (h2 : n2 < 256 ^ 8) (h3 : n3 < 256 ^ 8) (h4 : n4 < 256 ^ 8) (h5 : n5 < 256 ^ 8) (h6 : n6 < 256 ^ 8) (h7 : n7 < 256 ^ 8) (h8 : n8 < 256 ^ 8) :
    ∃ bs : List Nat, bs.length = 64 ∧ (∀ x ∈ bs, x < 256) ∧ leN bs 0 4 = n0 ∧ leN bs 4 4 = n1 ∧ leN bs 8 8 = n2 ∧ leN bs 16 8 = n3 ∧ leN bs 24 8 = n4 ∧ leN bs 32 8 = n5 ∧ leN bs 40 8 = n6 ∧ leN bs 48 8 = n7 ∧ leN bs 56 8 = n8 := by
  refine ⟨bytesOf 4 n0 ++ (bytesOf 4 n1 ++ (bytesOf 8 n2 ++ (bytesOf 8 n3 ++ (bytesOf 8 n4 ++ (bytesOf 8 n5 ++ (bytesOf 8 n6 ++ (bytesOf 8 n7 ++ bytesOf 8 n8))))))), ?_, ?_, ?_, ?_, ?_, ?_, ?_, ?_, ?_, ?_, ?_⟩
  · simp [bytesOf_len]
  · intro x hx
    simp only [List.mem_append] at hx
    rcases hx with h | h | h | h | h | h | h | h | h <;> exact bytesOf_lt _ _ x h
  · exact leN_part (a := []) rfl rfl h0
  · exact leN_part (a := bytesOf 4 n0) rfl (by simp [bytesOf_len]) h1
  · exact leN_part (a := bytesOf 4 n0 ++ bytesOf 4 n1) (by simp only [List.append_assoc]; rfl) (by simp [bytesOf_len]) h2
  · exact leN_part (a := bytesOf 4 n0 ++ bytesOf 4 n1 ++ bytesOf 8 n2) (by simp only [List.append_assoc]; rfl) (by simp [bytesOf_len]) h3
  · exact leN_part (a := bytesOf 4 n0 ++ bytesOf 4 n1 ++ bytesOf 8 n2 ++ bytesOf 8 n3) (by simp only [List.append_assoc]; rfl) (by simp [bytesOf_len]) h4
  · exact leN_part (a := bytesOf 4 n0 ++ bytesOf 4 n1 ++ bytesOf 8 n2 ++ bytesOf 8 n3 ++ bytesOf 8 n4) (by simp only [List.append_assoc]; rfl) (by simp [bytesOf_len]) h5
  · exact leN_part (a := bytesOf 4 n0 ++ bytesOf 4 n1 ++ bytesOf 8 n2 ++ bytesOf 8 n3 ++ bytesOf 8 n4 ++ bytesOf 8 n5) (by simp only [List.append_assoc]; rfl) (by simp [bytesOf_len]) h6
  · exact leN_part (a := bytesOf 4 n0 ++ bytesOf 4 n1 ++ bytesOf 8 n2 ++ bytesOf 8 n3 ++ bytesOf 8 n4 ++ bytesOf 8 n5 ++ bytesOf 8 n6) (by simp only [List.append_assoc]; rfl) (by simp [bytesOf_len]) h7
  · exact leN_part (a := bytesOf 4 n0 ++ bytesOf 4 n1 ++ bytesOf 8 n2 ++ bytesOf 8 n3 ++ bytesOf 8 n4 ++ bytesOf 8 n5 ++ bytesOf 8 n6 ++ bytesOf 8 n7) (c := []) (by simp only [List.append_assoc, List.append_nil]) (by simp [bytesOf_len]) h8
/-- The first o of the bytes laid, noughts behind. -/
def fil (bs : List Nat) (o : Nat) : List Value := u8s (bs.take o ++ List.replicate (64 - o) 0)
theorem fil_len (bs : List Nat) (o : Nat) (h : bs.length = 64) (ho : o ≤ 64) : (fil bs o).length = 64 := by simp [fil, u8s, h]; omega
theorem fil_at (bs : List Nat) (o : Nat) (h : bs.length = 64) (ho : o < 64) : (fil bs o)[o]? = some (.int .u8 0) := by
  simp only [fil, u8s, List.getElem?_map]
  rw [List.getElem?_append_right (by simp [h]; omega)]
  simp [h, List.getElem?_replicate, Nat.min_eq_left (Nat.le_of_lt ho)]
  omega
theorem fil_set (bs : List Nat) (o : Nat) (h : bs.length = 64) (ho : o < 64) : (fil bs o).set o (.int .u8 (bs.getD o 0 : Nat)) = fil bs (o + 1) := by
  have e1 : bs.take (o + 1) = bs.take o ++ [bs.getD o 0] := by
    rw [List.take_succ_eq_append_getElem (by omega), List.getD_eq_getElem?_getD, List.getElem?_eq_getElem (by omega)]; rfl
  have e2 : List.replicate (64 - o) (0 : Nat) = 0 :: List.replicate (64 - (o + 1)) 0 := by
    rw [← List.replicate_succ]; congr 1; omega
  simp only [fil, u8s, e1, e2, List.map_append, List.map_cons, List.append_assoc, List.cons_append, List.nil_append]
  rw [List.set_append_right _ _ (by simp [h]; omega)]
  congr 1
  simp [h, Nat.min_eq_left (Nat.le_of_lt ho)]
theorem fil_all (bs : List Nat) (h : bs.length = 64) : fil bs 64 = u8s bs := by simp [fil, ← h]
theorem fil_none (bs : List Nat) : fil bs 0 = u8s (List.replicate 64 0) := by simp [fil]
theorem u8s_getD {bs : List Nat} {j : Nat} (h : j < bs.length) : (u8s bs)[j]? = some (.int .u8 (bs.getD j 0 : Nat)) := by
  simp [u8s, List.getD_eq_getElem?_getD, List.getElem?_eq_getElem h]
theorem or64 (x y i m : Nat) (h0 : x < 2 ^ i) (h1 : y < 256) (hi : i ≤ 56) (hm : m = 2 ^ i) : bits .or .u64 (x : Int) ((y : Int) * (m : Nat)) = ((x + m * y : Nat) : Int) := by
  subst hm
  have hp : 2 ^ i ≤ 2 ^ 56 := Nat.pow_le_pow_right (by omega) hi
  have hy : 2 ^ i * y ≤ 2 ^ 56 * 255 := Nat.mul_le_mul hp (by omega)
  have e := u64_or_nat x (2 ^ i * y) (by omega) (by omega)
  have e2 : ((2 ^ i * y : Nat) : Int) = (y : Int) * ((2 ^ i : Nat) : Int) := by rw [Int.natCast_mul, Int.mul_comm]
  rw [e2] at e
  rw [e, Nat.or_comm, ← Nat.two_pow_add_eq_or_of_lt h0 y, Nat.add_comm]
end Go.Proofs.Ytnkffjdoillmaaa.Rec

