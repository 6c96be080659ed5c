/- Instructions as plain numbers: which codes there are, their bytes, and back. -/
import Derived.Laws.BitsAllLaws
import Derived.Lib.BitFns
import Derived.Test.YtcageojoafkojaaProg
import Derived.WalkKit
import Derived.WalkSpells
import Derived.Lib.Hide
import Derived.Laws.ShiftsVarLaws
import Derived.IntWalk
import Derived.Deep.QuietTactic
import Derived.BigQuiet
import Derived.Below
import Derived.Laws.OwnMore
import Derived.Deep.AppendLies
import Derived.Deep.Onto
import Derived.OwnWalk
import Derived.Laws.Rows
import Derived.Laws.Tables
import Derived.LoopTactic
import Derived.Lib.ItoaNum
import Derived.Lib.Join
import Derived.Lib.Split
import Derived.Lib.IndexMore
import Derived.Lib.Strings
import Derived.Lib.SplitLaws
import Derived.Lib.IndexBytes
namespace Go.Proofs.Ytcageojoafkojaa

/-- The codes that there are. -/
def codesL : List Nat := [32, 0, 96, 128, 1, 97, 129, 2, 3, 6, 22, 7, 135, 5, 132, 4, 12, 20, 28, 36, 44, 52, 60, 68, 76, 84, 92, 100, 108, 116, 124, 164, 172, 21, 29, 37, 45, 53, 61, 69, 77]
def knownB (n : Nat) : Bool := codesL.contains n
theorem known_true (n : Nat) (h : n = 32 ∨ n = 0 ∨ n = 96 ∨ n = 128 ∨ n = 1 ∨ n = 97 ∨ n = 129 ∨ n = 2 ∨ n = 3 ∨ n = 6 ∨ n = 22 ∨ n = 7 ∨ n = 135 ∨ n = 5 ∨ n = 132 ∨ n = 4 ∨ n = 12 ∨ n = 20 ∨ n = 28 ∨ n = 36 ∨ n = 44 ∨ n = 52 ∨ n = 60 ∨ n = 68 ∨ n = 76 ∨ n = 84 ∨ n = 92 ∨ n = 100 ∨ n = 108 ∨ n = 116 ∨ n = 124 ∨ n = 164 ∨ n = 172 ∨ n = 21 ∨ n = 29 ∨ n = 37 ∨ n = 45 ∨ n = 53 ∨ n = 61 ∨ n = 69 ∨ n = 77) : knownB n = true := by
  simp only [knownB, codesL, List.contains_iff_mem, List.mem_cons, List.not_mem_nil, or_false]
  exact h
theorem known_false (n : Nat) (h : ¬ (n = 32 ∨ n = 0 ∨ n = 96 ∨ n = 128 ∨ n = 1 ∨ n = 97 ∨ n = 129 ∨ n = 2 ∨ n = 3 ∨ n = 6 ∨ n = 22 ∨ n = 7 ∨ n = 135 ∨ n = 5 ∨ n = 132 ∨ n = 4 ∨ n = 12 ∨ n = 20 ∨ n = 28 ∨ n = 36 ∨ n = 44 ∨ n = 52 ∨ n = 60 ∨ n = 68 ∨ n = 76 ∨ n = 84 ∨ n = 92 ∨ n = 100 ∨ n = 108 ∨ n = 116 ∨ n = 124 ∨ n = 164 ∨ n = 172 ∨ n = 21 ∨ n = 29 ∨ n = 37 ∨ n = 45 ∨ n = 53 ∨ n = 61 ∨ n = 69 ∨ n = 77)) : knownB n = false := by
  rw [← Bool.not_eq_true]
  simp only [knownB, codesL, List.contains_iff_mem, List.mem_cons, List.not_mem_nil, or_false]
  exact h
theorem mem_known {n : Nat} (h : n ∈ codesL) : knownB n = true := by simpa [knownB] using h
theorem not_known {n : Nat} (h : ¬ n ∈ codesL) : knownB n = false := by simpa [knownB] using h

/-- An instruction. -/
structure Ins where
  c : Nat
  t : Nat
  f : Nat
  k : Nat
def Ins.ok (i : Ins) : Prop := i.c < 65536 ∧ i.t < 256 ∧ i.f < 256 ∧ i.k < 4294967296
def Ins.bs (i : Ins) : List Nat := [i.c % 256, i.c / 256, i.t, i.f, i.k % 256, i.k / 256 % 256, i.k / 65536 % 256, i.k / 16777216]
/-- The instruction whose bytes stand at 8 j. -/
def insAt (b : List Nat) (j : Nat) : Ins := ⟨b.getD (j * 8) 0 + 256 * b.getD (j * 8 + 1) 0, b.getD (j * 8 + 2) 0, b.getD (j * 8 + 3) 0, b.getD (j * 8 + 4) 0 + 256 * b.getD (j * 8 + 5) 0 + 65536 * b.getD (j * 8 + 6) 0 + 16777216 * b.getD (j * 8 + 7) 0⟩
def dec (b : List Nat) (m : Nat) : List Ins := (List.range m).map (insAt b)
def enc8 (l : List Ins) : List Nat := l.flatMap Ins.bs
theorem bs_len (i : Ins) : i.bs.length = 8 := rfl
theorem enc_len (l : List Ins) : (enc8 l).length = l.length * 8 := by
  induction l with
  | nil => rfl
  | cons i l ih => simp only [enc8, List.flatMap_cons, List.length_append, bs_len, List.length_cons] at *; omega
theorem enc_at : ∀ (l : List Ins) (k j : Nat), j < 8 → (enc8 l)[k * 8 + j]? = (l[k]?).bind (fun x => x.bs[j]?)
  | [], k, j, _ => by simp [enc8]
  | x :: l, k, j, hj => by
    have e : enc8 (x :: l) = x.bs ++ enc8 l := rfl
    rw [e]
    cases k with
    | zero => rw [List.getElem?_append_left (by rw [bs_len]; omega)]; simp
    | succ k =>
      rw [List.getElem?_append_right (by rw [bs_len]; omega), bs_len, show (k + 1) * 8 + j - 8 = k * 8 + j from by omega, enc_at l k j hj]
      simp
theorem enc_snoc (l : List Ins) (i : Ins) : enc8 (l ++ [i]) = enc8 l ++ i.bs := by simp [enc8]
theorem dec_len (b : List Nat) (m : Nat) : (dec b m).length = m := by simp [dec]
theorem dec_snoc (b : List Nat) (m : Nat) : dec b (m + 1) = dec b m ++ [insAt b m] := by simp [dec, List.range_succ]
theorem bs_lt (i : Ins) (h : i.ok) : ∀ x ∈ i.bs, x < 256 := by
  obtain ⟨h1, h2, h3, h4⟩ := h
  intro x hx
  simp only [Ins.bs, List.mem_cons, List.not_mem_nil, or_false] at hx
  omega
theorem enc_lt (l : List Ins) (h : ∀ i ∈ l, i.ok) : ∀ x ∈ enc8 l, x < 256 := by
  intro x hx
  obtain ⟨i, hi, hx⟩ := List.mem_flatMap.1 hx
  exact bs_lt i (h i hi) x hx
theorem getD_lt (b : List Nat) (h : ∀ x ∈ b, x < 256) (j : Nat) : b.getD j 0 < 256 := by
  rw [List.getD_eq_getElem?_getD]
  by_cases hj : j < b.length
  · rw [List.getElem?_eq_getElem hj]; exact h _ (List.getElem_mem hj)
  · rw [List.getElem?_eq_none (by omega)]; decide
theorem insAt_ok (b : List Nat) (h : ∀ x ∈ b, x < 256) (j : Nat) : (insAt b j).ok := by
  have a0 := getD_lt b h (j * 8)
  have a1 := getD_lt b h (j * 8 + 1)
  have a2 := getD_lt b h (j * 8 + 2)
  have a3 := getD_lt b h (j * 8 + 3)
  have a4 := getD_lt b h (j * 8 + 4)
  have a5 := getD_lt b h (j * 8 + 5)
  have a6 := getD_lt b h (j * 8 + 6)
  have a7 := getD_lt b h (j * 8 + 7)
  simp only [Ins.ok, insAt]
  omega
/-- What was encoded is decoded. -/
theorem insAt_enc (l : List Ins) (h : ∀ i ∈ l, i.ok) (j : Nat) (x : Ins) (hx : l[j]? = some x) : insAt (enc8 l) j = x := by
  have hok := h x (List.mem_of_getElem? hx)
  have hat : ∀ i, i < 8 → (enc8 l).getD (j * 8 + i) 0 = x.bs.getD i 0 := by
    intro i hi
    rw [List.getD_eq_getElem?_getD, enc_at l j i hi, hx, List.getD_eq_getElem?_getD]; rfl
  have h0 := hat 0 (by omega)
  rw [Nat.add_zero] at h0
  obtain ⟨h1, h2, h3, h4⟩ := hok
  cases x with
  | mk c t f k =>
    simp only [insAt, h0, hat 1 (by omega), hat 2 (by omega), hat 3 (by omega), hat 4 (by omega), hat 5 (by omega), hat 6 (by omega), hat 7 (by omega)]
    simp only [Ins.bs] at *
    simp only [List.getD_cons_zero, List.getD_cons_succ, Ins.mk.injEq, true_and]
    omega
theorem dec_enc (l : List Ins) (h : ∀ i ∈ l, i.ok) : dec (enc8 l) l.length = l := by
  apply List.ext_getElem?
  intro j
  by_cases hj : j < l.length
  · rw [List.getElem?_eq_getElem hj, dec, List.getElem?_map, List.getElem?_range hj]
    simp only [Option.map_some, Option.some.injEq]
    exact insAt_enc l h j _ (List.getElem?_eq_getElem hj)
  · rw [List.getElem?_eq_none (by rw [dec_len]; omega), List.getElem?_eq_none (by omega)]
theorem bs_insAt (b : List Nat) (h : ∀ x ∈ b, x < 256) (j i : Nat) (hi : i < 8) : (insAt b j).bs[i]? = some (b.getD (j * 8 + i) 0) := by
  have a0 := getD_lt b h (j * 8)
  have a1 := getD_lt b h (j * 8 + 1)
  have a4 := getD_lt b h (j * 8 + 4)
  have a5 := getD_lt b h (j * 8 + 5)
  have a6 := getD_lt b h (j * 8 + 6)
  have a7 := getD_lt b h (j * 8 + 7)
  rcases (by omega : i = 0 ∨ i = 1 ∨ i = 2 ∨ i = 3 ∨ i = 4 ∨ i = 5 ∨ i = 6 ∨ i = 7) with rfl | rfl | rfl | rfl | rfl | rfl | rfl | rfl <;>
    simp only [Ins.bs, insAt, List.getElem?_cons_zero, List.getElem?_cons_succ, Option.some.injEq, Nat.add_zero] <;> omega
/-- What was decoded is encoded. -/
theorem enc_dec (b : List Nat) (m : Nat) (hb : b.length = m * 8) (h : ∀ x ∈ b, x < 256) : enc8 (dec b m) = b := by
  apply List.ext_getElem?
  intro q
  have hq : q = q / 8 * 8 + q % 8 := by omega
  rw [hq, enc_at _ _ _ (by omega)]
  by_cases hj : q / 8 < m
  · rw [dec, List.getElem?_map, List.getElem?_range hj]
    simp only [Option.map_some, Option.bind_some]
    rw [bs_insAt b h _ _ (by omega), List.getD_eq_getElem?_getD, List.getElem?_eq_getElem (by omega)]
    rfl
  · rw [List.getElem?_eq_none (by rw [dec_len]; omega), List.getElem?_eq_none (by omega)]
    rfl
end Go.Proofs.Ytcageojoafkojaa
namespace Go.Proofs.Ytcageojoafkojaa
open Go.RowKit
theorem ret_bool {a b : Bool} (h : a = b) : Ending.returned (.bool a) = .returned (.bool b) := by rw [h]
theorem ret_int {k : IntKind} {a b : Int} (h : a = b) : Ending.returned (.int k a) = .returned (.int k b) := by rw [h]

theorem clear8 (n : Nat) (h : n < 65536) : n &&& 65527 = n - 8 * (n / 8 % 2) := by
  have h1 := Nat.and_div_two_pow (a := n) (b := 65527) (n := 4)
  have h2 := Nat.and_mod_two_pow (a := n) (b := 65527) (n := 4)
  simp only [Nat.reducePow, Nat.reduceDiv, Nat.reduceMod] at h1 h2
  have e1 := Nat.and_two_pow_sub_one_eq_mod (n / 16) 12
  have e2 := Nat.and_two_pow_sub_one_eq_mod (n % 16) 3
  simp only [Nat.reducePow, Nat.reduceSub] at e1 e2
  rw [e1] at h1
  rw [e2] at h2
  omega
theorem andNot8 (n : Nat) (h : n < 65536) : bits .andNot .u16 (n : Int) 8 = ((n - 8 * (n / 8 % 2) : Nat) : Int) := by
  have e := u16_andNot_nat n 8 h (by omega)
  rw [← clear8 n h]
  exact e
theorem hit_n {n c : Nat} (h : knownB c = true) (h2 : ((n : Int) == (c : Int)) = true) : true = knownB n := by
  have e : n = c := by
    simp at h2
    omega
  rw [e, h]
theorem hit_q {n q c : Nat} (hq : q = n - 8 * (n / 8 % 2)) (h : knownB c = true) (h1 : knownB (c + 8) = true) (h2 : ((q : Int) == (c : Int)) = true) : true = knownB n := by
  have e : q = c := by
    simp at h2
    omega
  rcases (by omega : n = c ∨ n = c + 8) with rfl | rfl
  · rw [h]
  · rw [h1]
set_option maxRecDepth 100000 in
set_option maxHeartbeats 1000000 in
theorem known_any (n : Nat) (w : World) (h : n < 65536) : Calls Try.prog 102 #[.int .u16 n] w fun e w' => e = .returned (.bool (knownB n)) ∧ w = w' := by
  obtain ⟨q, hq⟩ : ∃ q, q = n - 8 * (n / 8 % 2) := ⟨_, rfl⟩
  have hb := andNot8 n h
  rw [← hq] at hb
  have H := Lib.hid hq
  clear hq
  go_enter Try.func102, Try.ntmps102
  go_wp2
  all_goals
    go_ret
    refine ⟨ret_bool ?_, rfl⟩
    first
      | exact hit_n (by rfl) ‹((n : Int) == 32) = true›
      | exact hit_n (by rfl) ‹((n : Int) == 0) = true›
      | exact hit_n (by rfl) ‹((n : Int) == 96) = true›
      | exact hit_n (by rfl) ‹((n : Int) == 128) = true›
      | exact hit_n (by rfl) ‹((n : Int) == 1) = true›
      | exact hit_n (by rfl) ‹((n : Int) == 97) = true›
      | exact hit_n (by rfl) ‹((n : Int) == 129) = true›
      | exact hit_n (by rfl) ‹((n : Int) == 2) = true›
      | exact hit_n (by rfl) ‹((n : Int) == 3) = true›
      | exact hit_n (by rfl) ‹((n : Int) == 6) = true›
      | exact hit_n (by rfl) ‹((n : Int) == 22) = true›
      | exact hit_n (by rfl) ‹((n : Int) == 7) = true›
      | exact hit_n (by rfl) ‹((n : Int) == 135) = true›
      | exact hit_n (by rfl) ‹((n : Int) == 5) = true›
      | exact hit_n (by rfl) ‹((n : Int) == 132) = true›
      | exact hit_q H.out (by rfl) (by rfl) ‹((q : Int) == 4) = true›
      | exact hit_q H.out (by rfl) (by rfl) ‹((q : Int) == 20) = true›
      | exact hit_q H.out (by rfl) (by rfl) ‹((q : Int) == 36) = true›
      | exact hit_q H.out (by rfl) (by rfl) ‹((q : Int) == 52) = true›
      | exact hit_q H.out (by rfl) (by rfl) ‹((q : Int) == 68) = true›
      | exact hit_q H.out (by rfl) (by rfl) ‹((q : Int) == 84) = true›
      | exact hit_q H.out (by rfl) (by rfl) ‹((q : Int) == 100) = true›
      | exact hit_q H.out (by rfl) (by rfl) ‹((q : Int) == 116) = true›
      | exact hit_q H.out (by rfl) (by rfl) ‹((q : Int) == 164) = true›
      | exact hit_q H.out (by rfl) (by rfl) ‹((q : Int) == 21) = true›
      | exact hit_q H.out (by rfl) (by rfl) ‹((q : Int) == 37) = true›
      | exact hit_q H.out (by rfl) (by rfl) ‹((q : Int) == 53) = true›
      | exact hit_q H.out (by rfl) (by rfl) ‹((q : Int) == 69) = true›
      | (have hq := H.out
         simp only [beq_eq_false_iff_ne, ne_eq] at *
         symm
         refine known_false n ?_
         omega)
theorem class_any (n : Nat) (w : World) (h : n < 65536) : Calls Try.prog 58 #[.int .u16 n] w fun e w' => e = .returned (.int .u16 ((n % 8 : Nat) : Int)) ∧ w = w' := by
  go_enter Try.func58, Try.ntmps58
  go_wp2
  go_ret
  exact ⟨ret_int (by rw [show ((7 : Int)) = ((7 : Nat) : Int) from rfl, u16_and_nat n 7 h (by omega), Nat.and_two_pow_sub_one_eq_mod n 3]), rfl⟩
end Go.Proofs.Ytcageojoafkojaa
namespace Go.Proofs.Ytcageojoafkojaa
open Go.RowKit
/-- A slice of n elements of z cells each, which are xs. -/
structure Rd (w : World) (z n : Nat) (A : Option Addr) (xs : List Value) : Prop where
  len : xs.length = n * z
  at_ : n = 0 ∨ ∃ b o, A = some ⟨b, o, none⟩ ∧ b < w.heap.size ∧ ∀ j u, xs[j]? = some u → w.cell? ⟨b, o + j, none⟩ = some u
section
variable {w w' : World} {z n : Nat} {A : Option Addr} {xs : List Value}
theorem Rd.below (h : Rd w z n A xs) (hb : Below w.heap.size w w') : Rd w' z n A xs :=
  ⟨h.len, h.at_.imp id fun ⟨b, o, e, hl, hc⟩ => ⟨b, o, e, Nat.lt_of_lt_of_le hl hb.size, fun j u hu => (hb.cell (p := ⟨b, o + j, none⟩) hl).trans (hc j u hu)⟩⟩
theorem Rd.kept {B : Nat} (h : Rd w z n A xs) (hB : B = w.heap.size) (hb : Below B w w') : Rd w' z n A xs := h.below (hB ▸ hb)
theorem Rd.pos (h : Rd w z n A xs) (hn : 0 < n) : ∃ b o, A = some ⟨b, o, none⟩ ∧ b < w.heap.size ∧ ∀ j u, xs[j]? = some u → w.cell? ⟨b, o + j, none⟩ = some u := by
  rcases h.at_ with e | e
  · omega
  · exact e
theorem Rd.nil (w : World) (z : Nat) (A : Option Addr) : Rd w z 0 A [] := ⟨by simp, .inl rfl⟩
end
/-- What a call owns reads so. -/
theorem own_form {w : World} {base : Nat} {e : TypeId} {z n : Nat} {v : Value} {xs : List Value} (h : w.ownsRow base e z v n xs) :
    ∃ A c, v = .slice A n c ∧ n ≤ c ∧ Rd w z n A xs := by
  rcases h.2 with ⟨rfl, rfl⟩ | ⟨g, cap, cur, rfl, hb, hh, hn, hm, hs, rfl⟩
  · exact ⟨none, 0, rfl, Nat.le_refl _, h.1, .inl rfl⟩
  · refine ⟨_, cap, rfl, hn, h.1, .inr ⟨g, 0, rfl, (Array.getElem?_eq_some_iff.1 hh).1, fun j u hu => ?_⟩⟩
    have := h.cells (g := g) rfl j u hu
    rw [← this]
    simp [Addr.add]
    by_cases hj : j = 0 <;> simp [hj]
theorem own_below {w w' : World} {base : Nat} {e : TypeId} {z n : Nat} {v : Value} {xs : List Value} (h : w.ownsRow base e z v n xs) (hb : Below w.heap.size w w') : w'.ownsRow base e z v n xs := by
  refine ⟨h.1, h.2.imp id fun ⟨g, cap, cur, e, h1, h2, h3⟩ => ⟨g, cap, cur, e, h1, ?_, h3⟩⟩
  rw [hb.block g (Array.getElem?_eq_some_iff.1 h2).1]; exact h2
end Go.Proofs.Ytcageojoafkojaa
namespace Go.Proofs.Ytcageojoafkojaa
open Go.RowKit
/-- Block g is just these cells. -/
def Bk (w : World) (g t : Nat) (l : List Value) : Prop := w.heap[g]? = some (.cells l.toArray t (0, 0))
section
variable {w w' : World} {g t : Nat} {l : List Value}
theorem Bk.lt (h : Bk w g t l) : g < w.heap.size := (Array.getElem?_eq_some_iff.1 h).1
theorem Bk.cell (h : Bk w g t l) (j : Nat) {v : Value} (hv : l[j]? = some v) : w.cell? ⟨g, j, none⟩ = some v := by
  simp only [Bk] at h; simp [World.cell?, h, hv]
theorem Bk.fz (h : Bk w g t l) (j : Nat) : w.frozen? ⟨g, j, none⟩ = false := by simp only [Bk] at h; simp [World.frozen?, h]
theorem Bk.set (h : Bk w g t l) (j : Nat) (v : Value) : Bk (w.setCell ⟨g, j, none⟩ v) g t (l.set j v) := by
  simp only [Bk] at h ⊢; simp [World.setCell, Array.getElem?_modify, h]
theorem Bk.drew (h : Bk w g t l) : Bk w.drew g t l := h
theorem Bk.drewN (h : Bk w g t l) (n : Nat) : Bk (w.drewN n) g t l := h
theorem Bk.below {B : Nat} (h : Bk w g t l) (hb : Below B w w') (hg : g < B) : Bk w' g t l := (hb.block g hg).trans h
theorem Bk.kept (h : Bk w g t l) (hb : Below w.heap.size w w') : Bk w' g t l := h.below hb h.lt
theorem Bk.grown {r : Option Nat} (h : Bk w g t l) (hb : w.grownBy w' r) (hr : some g ≠ r) : Bk w' g t l := (hb.block g h.lt hr).trans h
theorem Bk.alloc (h : Bk w g t l) (o : Obj) : Bk (w.alloc o) g t l := (Below.heap_alloc w o g h.lt).trans h
theorem Bk.new (w : World) (t : Nat) (a : Array Value) (h : a = l.toArray) : Bk (w.alloc (.cells a t)) w.heap.size t l := by subst h; exact heap_alloc_new w _
end
theorem only_refl (w : World) (r : Option Nat) : w.grownBy w r := ⟨rfl, rfl, rfl, Nat.le_refl _, fun _ _ _ => rfl⟩
theorem only_trans {w w1 w2 : World} {g : Nat} (h : w.grownBy w1 (some g)) (k : w1.grownBy w2 (some g)) : w.grownBy w2 (some g) :=
  ⟨k.os.trans h.os, k.tape.trans h.tape, k.output.trans h.output, Nat.le_trans h.size k.size, fun i hi hn => (k.block i (Nat.lt_of_lt_of_le hi h.size) hn).trans (h.block i hi hn)⟩
theorem only_set (w : World) (g j : Nat) (v : Value) : w.grownBy (w.setCell ⟨g, j, none⟩ v) (some g) :=
  ⟨rfl, rfl, rfl, by simp [World.setCell], fun i _ hn => Below.heap_setCell w _ v i (fun e => hn (by rw [e]))⟩
theorem only_below {w0 w w' : World} {g B : Nat} (h : Below B w0 w) (k : w.grownBy w' (some g)) (hB : B ≤ w.heap.size) (hg : B ≤ g) : Below B w0 w' := h.grown k hB (fun q hq => by cases hq; exact hg)
theorem below_drewN {B : Nat} {a w : World} (h : Below B a w) (n : Nat) : Below B a (w.drewN n) := ⟨h.os, h.tape, h.output, h.size, h.block⟩
theorem drewN_two (w : World) (a b : Nat) : (w.drewN a).drewN b = w.drewN (a + b) := by unfold World.drewN; simp [Nat.add_assoc]
/-- A callee that leaves all as it is, in a region that only reads. -/
theorem quiet_l {P : Program} {f : FuncId} {args : Array Value} {w : World} {n : Nat} {v : Value}
    (h : Calls P f args (w.drewN n) fun e w' => e = .returned v ∧ w.drewN n = w') : Calls P f args (w.drewN n) fun e w' => e = .returned v ∧ ∃ m, w' = w.drewN m :=
  h.mono fun _ _ ⟨he, hm⟩ => ⟨he, n, hm.symm⟩
def u32s (l : List Nat) : List Value := l.map fun (x : Nat) => Value.int .u32 x
def u8s (l : List Nat) : List Value := l.map fun (x : Nat) => Value.int .u8 x
theorem u32s_at {l : List Nat} {k x : Nat} (h : l[k]? = some x) : (u32s l)[k]? = some (.int .u32 x) := by simp [u32s, h]
theorem u8s_at {l : List Nat} {k x : Nat} (h : l[k]? = some x) : (u8s l)[k]? = some (.int .u8 x) := by simp [u8s, h]
end Go.Proofs.Ytcageojoafkojaa
namespace Go.Proofs.Ytcageojoafkojaa
open Go.RowKit
theorem Bk.row {w : World} {g t : Nat} {l : List Value} (h : Bk w g t l) (l' : List Value) : Bk (w.setRow g l'.toArray) g t l' := setRow_heap w g l.toArray l'.toArray t (0, 0) h
theorem only_row (w : World) (g : Nat) (cs : Array Value) : w.grownBy (w.setRow g cs) (some g) :=
  ⟨rfl, rfl, rfl, by simp [World.setRow], fun i _ hn => by
    simp only [World.setRow, Array.getElem?_modify]
    rw [if_neg (fun e => hn (by rw [e]))]⟩
section
variable {w : World} {g t ty n e : Nat} {l l' : List Value} {ops : Array Oper} {rest : List Oper} {o : Oper} {a : Act} {Q : Exit → Act → World → Prop}
/-- An array that is a whole block, loaded. -/
theorem ld_row (h : Bk w g t l) (hgd : o.guard = none) (x : Operand) (ho : o.op = .load ty x) (hx : a.eval x = .pointer (some ⟨g, 0, none⟩)) (hu : Try.prog.underlying ty = some (.array n e)) (hi : (Try.prog.info? ty).map (·.size) = some n) (hl : l.length = n)
    (hK : wpList Try.prog ops Q rest (a.put o.dst (.agg l.toArray)) w) : wpList Try.prog ops Q (o :: rest) a w :=
  wpList_load_row hgd ty x ho g hx t l.toArray (0, 0) _ h hu rfl (by rw [hi, List.size_toArray, hl]) hK
/-- An array that is a whole block, stored. -/
theorem st_row (h : Bk w g t l) (hgd : o.guard = none) (x y : Operand) (ho : o.op = .store ty x y) (hx : a.eval x = .pointer (some ⟨g, 0, none⟩)) (hy : a.eval y = .agg l'.toArray) (hi : (Try.prog.info? ty).map (·.size) = some n) (hl : l.length = n) (hl' : l'.length = n) (h1 : l'.toArray.all (·.oneCell') = true)
    (hK : wpList Try.prog ops Q rest (a.put o.dst undef) (w.setRow g l'.toArray)) : wpList Try.prog ops Q (o :: rest) a w :=
  wpList_store_row hgd ty x y ho g l'.toArray hx hy t l.toArray h (by rw [hi, List.size_toArray, hl']) (by rw [List.size_toArray, List.size_toArray, hl, hl']) h1 hK
theorem var_row (h : Bk w g t l) (hu : Try.prog.underlying ty = some (.array n e)) (hi : (Try.prog.info? ty).map (·.size) = some n) (hl : l.length = n) : (loadVar ty ⟨g, 0, none⟩).run Try.prog w = .ok (.agg l.toArray) w :=
  run_loadVar_row w g t ty l.toArray (0, 0) _ h hu rfl (by rw [hi, List.size_toArray, hl])
end
section
variable {w : World} {g t ty n e : Nat} {l : List Value}
/-- What a call answers that lies in a block of its own. -/
theorem res_row {fn : Func} {p : Tmp} (hf : fn.results = #[.cell p ty]) (tmps : Array Value) (hp : tmps.getD p undef = .pointer (some ⟨g, 0, none⟩)) (h : Bk w g t l) (hu : Try.prog.underlying ty = some (.array n e)) (hi : (Try.prog.info? ty).map (·.size) = some n) (hl : l.length = n) :
    (results fn tmps).run Try.prog w = .ok (.agg l.toArray) w :=
  results_cell_row hf tmps w g t l.toArray (0, 0) _ hp h hu rfl (by rw [hi, List.size_toArray, hl])
end
end Go.Proofs.Ytcageojoafkojaa
namespace Go.Proofs.Ytcageojoafkojaa
open Go.RowKit
def Yes (w : World) (e : Ending) (w' : World) : Prop := e = .returned (.bool true) ∧ Below w.heap.size w w'
def Ins.cells (i : Ins) : List Value := [.int .u16 i.c, .int .u8 i.t, .int .u8 i.f, .int .u32 i.k]
theorem cells_at : ∀ (l : List Ins) (k j : Nat), j < 4 → (l.flatMap Ins.cells)[k * 4 + j]? = (l[k]?).bind (fun x => x.cells[j]?)
  | [], k, j, _ => by simp
  | x :: l, k, j, hj => by
    rw [List.flatMap_cons]
    cases k with
    | zero => rw [List.getElem?_append_left (by simp [Ins.cells]; omega)]; simp
    | succ k =>
      rw [List.getElem?_append_right (by simp [Ins.cells]; omega), show (x.cells).length = 4 from rfl, show (k + 1) * 4 + j - 4 = k * 4 + j from by omega, cells_at l k j hj]
      simp
/-- The four cells of the k-th. -/
theorem four_cells {w : World} {l : List Ins} {b o k : Nat} {x : Ins} (h : ∀ j u, (l.flatMap Ins.cells)[j]? = some u → w.cell? ⟨b, o + j, none⟩ = some u) (hx : l[k]? = some x) :
    w.cell? ⟨b, o + k * 4, none⟩ = some (.int .u16 x.c) ∧ w.cell? ⟨b, o + k * 4 + 1, none⟩ = some (.int .u8 x.t) ∧ w.cell? ⟨b, o + k * 4 + 2, none⟩ = some (.int .u8 x.f) ∧ w.cell? ⟨b, o + k * 4 + 3, none⟩ = some (.int .u32 x.k) := by
  have hh : ∀ j, j < 4 → ∀ u, x.cells[j]? = some u → w.cell? ⟨b, o + k * 4 + j, none⟩ = some u := fun j hj u hu => by
    rw [Nat.add_assoc]; exact h _ _ (by rw [cells_at l k j hj, hx]; exact hu)
  exact ⟨hh 0 (by omega) _ rfl, hh 1 (by omega) _ rfl, hh 2 (by omega) _ rfl, hh 3 (by omega) _ rfl⟩
theorem take_snoc' {α : Type} (l : List α) (k : Nat) (x : α) (h : l[k]? = some x) : l.take (k + 1) = l.take k ++ [x] := by
  have hl := (List.getElem?_eq_some_iff.1 h)
  rw [List.take_succ_eq_append_getElem hl.1, hl.2]
theorem infoIns : (Try.prog.info? 122).map (fun i => (i.zero, i.size, i.bytes)) = some (some (.agg #[.int .u16 0, .int .u8 0, .int .u8 0, .int .u32 0]), 4, 8) := by kernel_rfl
theorem four_new (w : World) (T : TypeId) (c t f k : Nat) (j : Nat) (u : Value) (h : (Ins.cells ⟨c, t, f, k⟩)[j]? = some u) :
    (w.alloc (.cells #[.int .u16 c, .int .u8 t, .int .u8 f, .int .u32 k] T)).cell? ((⟨w.heap.size, 0, none⟩ : Addr).add j) = some u := by
  have hj : j < 4 := by
    have := (List.getElem?_eq_some_iff.1 h).1
    simpa [Ins.cells] using this
  rcases (by omega : j = 0 ∨ j = 1 ∨ j = 2 ∨ j = 3) with rfl | rfl | rfl | rfl <;>
    (simp [Ins.cells] at h; subst h; simp [Addr.add])
theorem cells_one (x : Ins) : ∀ u ∈ x.cells, u.oneCell' = true := by
  intro u hu
  simp only [Ins.cells, List.mem_cons, List.not_mem_nil, or_false] at hu
  rcases hu with rfl | rfl | rfl | rfl <;> rfl
theorem two_below (w : World) (o o' : Obj) : Below w.heap.size w ((w.alloc o).alloc o') := ((Below.refl _ _).alloc (Nat.le_refl _) _).alloc (by simp) _
theorem load_of (k : Int) (w : World) : Calls Try.prog 41 #[.int .u32 k] w fun e w' => e = .returned (.agg #[.int .u16 32, .int .u8 0, .int .u8 0, .int .u32 k]) ∧ Below w.heap.size w w' := by
  go_enter Try.func41, Try.ntmps41
  go_wp2
  exact bodyPost_ret (v := .agg #[.int .u16 32, .int .u8 0, .int .u8 0, .int .u32 k]) (by simp [results, Try.results41, go_sem]) rfl ⟨rfl, (Below.refl _ _).alloc (Nat.le_refl _) _⟩
theorem return_of (k : Int) (w : World) : Calls Try.prog 39 #[.int .u32 k] w fun e w' => e = .returned (.agg #[.int .u16 6, .int .u8 0, .int .u8 0, .int .u32 k]) ∧ Below w.heap.size w w' := by
  go_enter Try.func39, Try.ntmps39
  go_wp2
  exact bodyPost_ret (v := .agg #[.int .u16 6, .int .u8 0, .int .u8 0, .int .u32 k]) (by simp [results, Try.results39, go_sem]) rfl ⟨rfl, (Below.refl _ _).alloc (Nat.le_refl _) _⟩
theorem skip_of (k : Int) (w : World) : Calls Try.prog 119 #[.int .u32 k] w fun e w' => e = .returned (.agg #[.int .u16 5, .int .u8 0, .int .u8 0, .int .u32 k]) ∧ Below w.heap.size w w' := by
  go_enter Try.func119, Try.ntmps119
  go_wp2
  exact bodyPost_ret (v := .agg #[.int .u16 5, .int .u8 0, .int .u8 0, .int .u32 k]) (by simp [results, Try.results119, go_sem]) rfl ⟨rfl, (Below.refl _ _).alloc (Nat.le_refl _) _⟩
theorem if_of (h k t f r : Int) (w : World) (hr : bits .or .u16 (bits .or .u16 5 h) 0 = r) : Calls Try.prog 42 #[.int .u16 h, .int .u32 k, .int .u8 t, .int .u8 f] w fun e w' => e = .returned (.agg #[.int .u16 r, .int .u8 t, .int .u8 f, .int .u32 k]) ∧ Below w.heap.size w w' := by
  go_enter Try.func42, Try.ntmps42
  go_wp2
  exact bodyPost_ret (v := .agg #[.int .u16 r, .int .u8 t, .int .u8 f, .int .u32 k]) (by simp [results, Try.results42, go_sem]) rfl ⟨rfl, (Below.refl _ _).alloc (Nat.le_refl _) _⟩
end Go.Proofs.Ytcageojoafkojaa
namespace Go.Proofs.Ytcageojoafkojaa
open Go.RowKit
/-- A slice of n elements of z cells each, which are xs, in a block from B on. -/
structure Seg (w : World) (B z n : Nat) (A : Option Addr) (xs : List Value) : Prop where
  len : xs.length = n * z
  at_ : n = 0 ∨ ∃ b o, A = some ⟨b, o, none⟩ ∧ B ≤ b ∧ b < w.heap.size ∧ ∀ j u, xs[j]? = some u → w.cell? ⟨b, o + j, none⟩ = some u
section
variable {w w' : World} {B z n : Nat} {A : Option Addr} {xs : List Value}
theorem Seg.rd (h : Seg w B z n A xs) : Rd w z n A xs := ⟨h.len, h.at_.imp id fun ⟨b, o, e, _, h1, h2⟩ => ⟨b, o, e, h1, h2⟩⟩
theorem Rd.seg (h : Rd w z n A xs) : Seg w 0 z n A xs := ⟨h.len, h.at_.imp id fun ⟨b, o, e, h1, h2⟩ => ⟨b, o, e, Nat.zero_le _, h1, h2⟩⟩
theorem Seg.below (h : Seg w B z n A xs) (hb : Below w.heap.size w w') : Seg w' B z n A xs :=
  ⟨h.len, h.at_.imp id fun ⟨b, o, e, h0, hl, hc⟩ => ⟨b, o, e, h0, Nat.lt_of_lt_of_le hl hb.size, fun j u hu => (hb.cell (p := ⟨b, o + j, none⟩) hl).trans (hc j u hu)⟩⟩
theorem Seg.pos (h : Seg w B z n A xs) (hn : 0 < n) : ∃ b o, A = some ⟨b, o, none⟩ ∧ B ≤ b ∧ b < w.heap.size ∧ ∀ j u, xs[j]? = some u → w.cell? ⟨b, o + j, none⟩ = some u := by
  rcases h.at_ with e | e
  · omega
  · exact e
theorem Seg.nil (w : World) (B z : Nat) (A : Option Addr) : Seg w B z 0 A [] := ⟨by simp, .inl rfl⟩
end
theorem own_seg {w : World} {base : Nat} {e : TypeId} {z n : Nat} {v : Value} {xs : List Value} (h : w.ownsRow base e z v n xs) :
    ∃ A c, v = .slice A n c ∧ n ≤ c ∧ Seg w base z n A xs := by
  rcases h.2 with ⟨rfl, rfl⟩ | ⟨g, cap, cur, rfl, hb, hh, hn, hm, hs, rfl⟩
  · exact ⟨none, 0, rfl, Nat.le_refl _, h.1, .inl rfl⟩
  · refine ⟨_, cap, rfl, hn, h.1, .inr ⟨g, 0, rfl, hb, (Array.getElem?_eq_some_iff.1 hh).1, fun j u hu => ?_⟩⟩
    have := h.cells (g := g) rfl j u hu
    rw [← this]
    simp [Addr.add]
    by_cases hj : j = 0 <;> simp [hj]
/-- A row that was made full is just its cells. -/
theorem bk_full {w : World} {base : Nat} {e : TypeId} {z n g : Nat} {xs : List Value} (h : w.ownsRow base e z (.slice (some ⟨g, 0, none⟩) n n) n xs) : Bk w g e xs := by
  rcases h.2 with ⟨h1, _⟩ | ⟨g', cap, cur, h1, hb, hh, hn, hm, hs, rfl⟩
  · cases h1
  · simp only [Value.slice.injEq, Option.some.injEq, Addr.mk.injEq, and_true, true_and] at h1
    obtain ⟨rfl, rfl⟩ := h1
    unfold Bk
    rw [hh, List.take_of_length_le (by simp [hs])]
theorem bk_own {w : World} {e : TypeId} {z n g base : Nat} {xs : List Value} (h : Bk w g e xs) (hl : xs.length = n * z) (hn : n ≤ maxLen) (hb : base ≤ g) : w.ownsRow base e z (.slice (some ⟨g, 0, none⟩) n n) n xs :=
  ⟨hl, .inr ⟨g, n, xs.toArray, rfl, hb, h, Nat.le_refl _, hn, by simpa using hl, by simp [List.take_of_length_le (Nat.le_of_eq hl)]⟩⟩
theorem Bk.seg {w : World} {e z n g B : Nat} {xs : List Value} (h : Bk w g e xs) (hl : xs.length = n * z) (hb : B ≤ g) : Seg w B z n (some ⟨g, 0, none⟩) xs :=
  ⟨hl, .inr ⟨g, 0, rfl, hb, h.lt, fun j u hu => by rw [Nat.zero_add]; exact h.cell j hu⟩⟩
theorem Seg.grown {w w' : World} {B z n g : Nat} {A : Option Addr} {xs : List Value} (h : Seg w B z n A xs) (hg : w.grownBy w' (some g)) (hB : g < B) : Seg w' B z n A xs :=
  ⟨h.len, h.at_.imp id fun ⟨b, o, e, h0, hl, hc⟩ => ⟨b, o, e, h0, Nat.lt_of_lt_of_le hl hg.size, fun j u hu => by
    rw [← hc j u hu]
    unfold World.cell?
    rw [hg.block b hl (fun e => by cases e; omega)]⟩⟩
def ints (l : List Nat) : List Value := l.map fun (x : Nat) => Value.int .i64 x
theorem ints_at {l : List Nat} {k x : Nat} (h : l[k]? = some x) : (ints l)[k]? = some (.int .i64 x) := by simp [ints, h]
theorem ints_len (l : List Nat) : (ints l).length = l.length := by simp [ints]
end Go.Proofs.Ytcageojoafkojaa
namespace Go.Proofs.Ytcageojoafkojaa
abbrev Bs := List UInt8
structure Ln where
  w : Bs
  c : Nat
  s : Nat
deriving DecidableEq
def tab : List Ln := [
  ⟨[108, 100, 108, 101, 110], 128, 0⟩, ⟨[108, 100, 120, 108, 101, 110], 129, 0⟩, ⟨[114, 101, 116, 97], 22, 0⟩, ⟨[116, 97, 120], 7, 0⟩, ⟨[116, 120, 97], 135, 0⟩, ⟨[110, 101, 103], 132, 0⟩,
  ⟨[97, 100, 100, 120], 12, 0⟩, ⟨[115, 117, 98, 120], 28, 0⟩, ⟨[109, 117, 108, 120], 44, 0⟩, ⟨[100, 105, 118, 120], 60, 0⟩, ⟨[111, 114, 120], 76, 0⟩, ⟨[97, 110, 100, 120], 92, 0⟩,
  ⟨[108, 115, 104, 120], 108, 0⟩, ⟨[114, 115, 104, 120], 124, 0⟩, ⟨[120, 111, 114, 120], 172, 0⟩, ⟨[108, 100], 0, 1⟩, ⟨[108, 100, 97, 98, 115], 32, 1⟩, ⟨[108, 100, 109, 101, 109], 96, 1⟩,
  ⟨[108, 100, 120], 1, 1⟩, ⟨[108, 100, 120, 109, 101, 109], 97, 1⟩, ⟨[115, 116], 2, 1⟩, ⟨[115, 116, 120], 3, 1⟩, ⟨[114, 101, 116], 6, 1⟩, ⟨[106, 97], 5, 1⟩,
  ⟨[97, 100, 100], 4, 1⟩, ⟨[115, 117, 98], 20, 1⟩, ⟨[109, 117, 108], 36, 1⟩, ⟨[100, 105, 118], 52, 1⟩, ⟨[111, 114], 68, 1⟩, ⟨[97, 110, 100], 84, 1⟩,
  ⟨[108, 115, 104], 100, 1⟩, ⟨[114, 115, 104], 116, 1⟩, ⟨[120, 111, 114], 164, 1⟩, ⟨[106, 101, 113], 21, 2⟩, ⟨[106, 103, 116], 37, 2⟩, ⟨[106, 103, 101], 53, 2⟩,
  ⟨[106, 115, 101, 116], 69, 2⟩, ⟨[106, 101, 113, 120], 29, 3⟩, ⟨[106, 103, 116, 120], 45, 3⟩, ⟨[106, 103, 101, 120], 61, 3⟩, ⟨[106, 115, 101, 116, 120], 77, 3⟩]
def rawL : Ln := ⟨[114, 97, 119], 0, 4⟩
def noL : Ln := ⟨[], 0, 0⟩
theorem tab_len : tab.length = 41 := rfl
/-- Which fields stand behind a word: 0 the code, 1 Jt, 2 Jf, 3 K. -/
def flds (s : Nat) : List Nat := if s = 1 then [3] else if s = 2 then [3, 1, 2] else if s = 3 then [1, 2] else if s = 4 then [0, 1, 2, 3] else []
theorem flds_le (s : Nat) : (flds s).length ≤ 4 := by
  unfold flds
  split
  · decide
  split
  · decide
  split
  · decide
  split <;> decide
theorem flds_lt (s f : Nat) (h : f ∈ flds s) : f < 4 := by
  unfold flds at h
  split at h
  · simp at h; omega
  split at h
  · simp at h; omega
  split at h
  · simp at h; omega
  split at h
  · simp at h; omega
  · simp at h
def most (f : Nat) : Nat := if f = 0 then 65535 else if f = 3 then 4294967295 else 255
def getF (f : Nat) (i : Ins) : Nat := if f = 0 then i.c else if f = 1 then i.t else if f = 2 then i.f else i.k
def setF (f : Nat) (i : Ins) (n : Nat) : Ins := if f = 0 then { i with c := n } else if f = 1 then { i with t := n } else if f = 2 then { i with f := n } else if f = 3 then { i with k := n } else i
theorem getF_le (f : Nat) (i : Ins) (h : i.ok) (hf : f < 4) : getF f i ≤ most f := by
  obtain ⟨h1, h2, h3, h4⟩ := h
  unfold getF most
  by_cases a : f = 0
  · simp [a]; omega
  by_cases b : f = 1
  · simp [b]; omega
  by_cases c : f = 2
  · simp [c]; omega
  by_cases d : f = 3
  · simp [d]; omega
  · omega
def named (w : Bs) : Option Ln := if w = rawL.w then some rawL else tab.find? (fun l => l.w == w)
def tellsGo : List Nat → Ins → Ins → Ins
  | [], left, _ => left
  | f :: r, left, i => tellsGo r (setF f left (getF f i)) i
def tells (l : Ln) (i : Ins) : Ins := tellsGo (flds l.s) ⟨l.c, 0, 0, 0⟩ i
def sameI (a b : Ins) : Bool := decide (a.c = b.c ∧ a.t = b.t ∧ a.f = b.f ∧ a.k = b.k)
theorem sameI_eq {a b : Ins} : sameI a b = true ↔ a = b := by
  unfold sameI
  cases a; cases b
  simp
def hits (i : Ins) (l : Ln) : Bool := decide (l.c = i.c) && sameI (tells l i) i
def lineOf (i : Ins) : Ln := (tab.find? (hits i)).getD rawL
def words (i : Ins) : List Bs := (lineOf i).w :: (flds (lineOf i).s).map fun f => Lib.decDigits (getF f i)
def told (i : Ins) : Bs := Lib.join (words i) [32]
def text (L : List Ins) : Bs := L.flatMap fun i => told i ++ [10]
/-- A byte as a digit of a base. -/
def dig (b : Nat) (c : UInt8) : Option Nat :=
  if 48 ≤ c.toNat ∧ c.toNat ≤ 57 then (if c.toNat - 48 < b then some (c.toNat - 48) else none)
  else if 97 ≤ c.toNat ∧ c.toNat ≤ 122 then (if c.toNat - 87 < b then some (c.toNat - 87) else none) else none
def horner (b : Nat) : Bs → Nat → Option Nat
  | [], n => some n
  | c :: t, n => match dig b c with
    | none => none
    | some d => if n * b + d < 18446744073709551616 then horner b t (n * b + d) else none
def hexed (s : Bs) : Bool := Lib.hasPrefix s [48, 120]
def digits (s : Bs) : Bs := if hexed s then s.drop 2 else s
def base (s : Bs) : Nat := if hexed s then 16 else 10
def number (s : Bs) : Option Nat :=
  if 1 < (digits s).length ∧ (digits s).head? = some 48 then none
  else if digits s = [] then none else horner (base s) (digits s) 0
/-- The fields set, one by one: the instruction, or what isn't right. -/
def setAll : List Bs → List Nat → Ins → Ins × Nat
  | n :: ns, f :: fs, i => match number n with
    | none => (⟨0, 0, 0, 0⟩, 202)
    | some v => if most f < v then (⟨0, 0, 0, 0⟩, 204) else setAll ns fs (setF f i v)
  | _, _, i => (i, 0)
def parsed : List Bs → Ins × Nat
  | [] => (⟨0, 0, 0, 0⟩, 202)
  | w :: ns => match named w with
    | none => (⟨0, 0, 0, 0⟩, 202)
    | some l => if ns.length ≠ (flds l.s).length then (⟨0, 0, 0, 0⟩, 203) else setAll ns (flds l.s) ⟨l.c, 0, 0, 0⟩
/-- Lines of words, one by one. -/
def parseL : List (List Bs) → Nat → List Ins → List Ins × Nat × Nat
  | [], _, L => (L, 0, 0)
  | ws :: r, at', L => if ws = [] then parseL r (at' + 1) L else
    if (parsed ws).2 ≠ 0 then ([], at' + 1, (parsed ws).2) else
    if L.length = 4096 then ([], at' + 1, 205) else parseL r (at' + 1) (L ++ [(parsed ws).1])
end Go.Proofs.Ytcageojoafkojaa
namespace Go.Proofs.Ytcageojoafkojaa
/-- Lines: the text parted at line ends. -/
def lines : Bs → List Bs
  | [] => [[]]
  | c :: t => if c = 10 then [] :: lines t else match lines t with | h :: r => (c :: h) :: r | [] => [[c]]
/-- What stands ahead of the first #. -/
def cutH : Bs → Bs
  | [] => []
  | c :: t => if c = 35 then [] else c :: cutH t
def wordsGo : Bs → Bs → List Bs
  | cur, [] => if cur = [] then [] else [cur]
  | cur, c :: t => if c = 32 then (if cur = [] then wordsGo [] t else cur :: wordsGo [] t) else wordsGo (cur ++ [c]) t
def saidB (s : Bs) : List Bs := wordsGo [] (cutH s)
def parseB (s : Bs) : List Ins × Nat × Nat := parseL ((lines s).map saidB) 0 []
theorem lines_ne (s : Bs) : lines s ≠ [] := by
  cases s with
  | nil => simp [lines]
  | cons c t =>
    unfold lines
    split
    · simp
    · split <;> simp
theorem lines_plain (a : Bs) (b : Bs) (h : ∀ c ∈ a, c ≠ 10) : lines (a ++ 10 :: b) = a :: lines b := by
  induction a with
  | nil => simp [lines]
  | cons c t ih =>
    have h1 := h c (by simp)
    have h2 := ih (fun x hx => h x (by simp [hx]))
    simp only [List.cons_append, lines, if_neg h1, h2]
theorem lines_end (a : Bs) (h : ∀ c ∈ a, c ≠ 10) : lines a = [a] := by
  induction a with
  | nil => rfl
  | cons c t ih =>
    have h1 := h c (by simp)
    have h2 := ih (fun x hx => h x (by simp [hx]))
    simp only [lines, if_neg h1, h2]
theorem cutH_plain (a : Bs) (h : ∀ c ∈ a, c ≠ 35) : cutH a = a := by
  induction a with
  | nil => rfl
  | cons c t ih => simp only [cutH, if_neg (h c (by simp)), ih (fun x hx => h x (by simp [hx]))]
theorem wordsGo_end (cur : Bs) : wordsGo cur [] = if cur = [] then [] else [cur] := by unfold wordsGo; rfl
theorem wordsGo_run (a : Bs) (h : ∀ c ∈ a, c ≠ 32) : ∀ cur b, wordsGo cur (a ++ b) = wordsGo (cur ++ a) b := by
  induction a with
  | nil => intro cur b; simp
  | cons c t ih =>
    intro cur b
    rw [List.cons_append, wordsGo, if_neg (h c (by simp)), ih (fun x hx => h x (by simp [hx])), List.append_assoc]
    rfl
theorem wordsGo_word (a : Bs) (h : ∀ c ∈ a, c ≠ 32) (hne : a ≠ []) (b : Bs) : wordsGo [] (a ++ 32 :: b) = a :: wordsGo [] b := by
  rw [wordsGo_run a h, List.nil_append, wordsGo, if_pos rfl, if_neg hne]
theorem wordsGo_last (a : Bs) (h : ∀ c ∈ a, c ≠ 32) (hne : a ≠ []) : wordsGo [] a = [a] := by
  have := wordsGo_run a h [] []
  rw [List.append_nil, List.nil_append] at this
  rw [this, wordsGo_end, if_neg hne]
theorem wordsGo_join : ∀ (ws : List Bs), (∀ w ∈ ws, w ≠ [] ∧ ∀ c ∈ w, c ≠ 32) → wordsGo [] (Lib.join ws [32]) = ws
  | [], _ => by rw [Lib.join_nil, wordsGo_end]; rfl
  | [a], h => by rw [Lib.join_one]; exact wordsGo_last a (h a (by simp)).2 (h a (by simp)).1
  | a :: b :: r, h => by
    have ih := wordsGo_join (b :: r) (fun w hw => h w (List.mem_cons_of_mem _ hw))
    have e : Lib.join (a :: b :: r) [32] = a ++ 32 :: Lib.join (b :: r) [32] := by
      rw [Lib.join_cons, Lib.join_cons]
      simp [Lib.joinTail]
    rw [e, wordsGo_word a (h a (by simp)).2 (h a (by simp)).1, ih]
/-- No byte of a word of a line parts it. -/
def Wd (w : Bs) : Prop := w ≠ [] ∧ ∀ c ∈ w, 48 ≤ c.toNat ∧ c.toNat < 128
theorem join_mem {ws : List Bs} {c : UInt8} (h : c ∈ Lib.join ws [32]) : c = 32 ∨ ∃ w ∈ ws, c ∈ w := by
  induction ws with
  | nil => simp [Lib.join_nil] at h
  | cons a r ih =>
    cases r with
    | nil => rw [Lib.join_one] at h; exact .inr ⟨a, by simp, h⟩
    | cons b r =>
      have e : Lib.join (a :: b :: r) [32] = a ++ 32 :: Lib.join (b :: r) [32] := by
        rw [Lib.join_cons, Lib.join_cons]
        simp [Lib.joinTail]
      rw [e] at h
      rcases List.mem_append.1 h with h | h
      · exact .inr ⟨a, by simp, h⟩
      · rcases List.mem_cons.1 h with h | h
        · exact .inl h
        · rcases ih h with h | ⟨w, hw, hc⟩
          · exact .inl h
          · exact .inr ⟨w, List.mem_cons_of_mem _ hw, hc⟩
theorem join_bytes {ws : List Bs} (h : ∀ w ∈ ws, Wd w) : ∀ c ∈ Lib.join ws [32], c ≠ 10 ∧ c ≠ 35 ∧ c.toNat < 128 := by
  intro c hc
  rcases join_mem hc with rfl | ⟨w, hw, hc⟩
  · decide
  · have := (h w hw).2 c hc
    refine ⟨?_, ?_, this.2⟩
    · rintro rfl; simp at this
    · rintro rfl; simp at this
theorem said_join {ws : List Bs} (h : ∀ w ∈ ws, Wd w) : saidB (Lib.join ws [32]) = ws := by
  unfold saidB
  rw [cutH_plain _ (fun c hc => (join_bytes h c hc).2.1)]
  exact wordsGo_join ws (fun w hw => ⟨(h w hw).1, fun c hc e => by subst e; have := (h w hw).2 _ hc; simp at this⟩)
/-- A numeral's bytes. -/
theorem dec_bytes (u : Nat) : ∀ c ∈ Lib.decDigits u, 48 ≤ c.toNat ∧ c.toNat ≤ 57 := by
  induction u using Nat.strongRecOn with
  | _ u ih =>
    intro c hc
    rw [Lib.decDigits] at hc
    split at hc
    · simp at hc; subst hc; simp; omega
    · rcases List.mem_append.1 hc with hc | hc
      · exact ih (u / 10) (by omega) c hc
      · simp at hc; subst hc; simp; omega
theorem dec_ne (u : Nat) : Lib.decDigits u ≠ [] := by
  intro h
  have := congrArg List.length h
  rw [Lib.decDigits_length] at this
  have := Lib.nDigits_pos u
  simp at *; omega
theorem dec_wd (u : Nat) : Wd (Lib.decDigits u) := ⟨dec_ne u, fun c hc => by have := dec_bytes u c hc; omega⟩
theorem horner_app (b : Nat) : ∀ (x y : Bs) (n m : Nat), horner b x n = some m → horner b (x ++ y) n = horner b y m
  | [], y, n, m, h => by simp [horner] at h; subst h; rfl
  | c :: x, y, n, m, h => by
    rw [List.cons_append, horner]
    rw [horner] at h
    cases hd : dig b c with
    | none => simp [hd] at h
    | some d =>
      simp only [hd] at h ⊢
      split at h
      · rename_i hlt; rw [if_pos hlt]; exact horner_app b x y _ m h
      · cases h
theorem dig10_at (d : Nat) (h : d < 10) : dig 10 (UInt8.ofNat (48 + d)) = some d := by
  have e : (UInt8.ofNat (48 + d)).toNat = 48 + d := by simp; omega
  unfold dig
  rw [e, if_pos (by omega), show 48 + d - 48 = d by omega, if_pos h]
theorem horner_dec (u : Nat) (h : u < 18446744073709551616) : horner 10 (Lib.decDigits u) 0 = some u := by
  induction u using Nat.strongRecOn with
  | _ u ih =>
    rw [Lib.decDigits]
    split
    · rename_i hlt
      unfold horner
      rw [dig10_at u hlt]
      simp only
      rw [if_pos (by omega)]
      simp [horner]
    · have := ih (u / 10) (by omega) (by omega)
      rw [horner_app _ _ _ _ _ this]
      unfold horner
      rw [dig10_at (u % 10) (by omega)]
      simp only
      rw [if_pos (by omega)]
      simp only [horner]
      congr 1
      omega
theorem dec_head (u : Nat) : (Lib.decDigits u).head? = some 48 → u = 0 := by
  induction u using Nat.strongRecOn with
  | _ u ih =>
    rw [Lib.decDigits]
    split
    · rename_i hlt
      intro h
      have h' : UInt8.ofNat (48 + u) = 48 := by simpa only [List.head?_cons, Option.some.injEq] using h
      have e : (UInt8.ofNat (48 + u)).toNat = 48 := by rw [h']; rfl
      simp at e
      omega
    · intro h
      have hne := dec_ne (u / 10)
      rw [List.head?_append, Option.or_of_isSome (by simpa using hne)] at h
      have := ih (u / 10) (by omega) h
      omega
theorem dec_zero : Lib.decDigits 0 = [48] := by rw [Lib.decDigits]; rfl
theorem not_hexed {s : Bs} (h : ∀ c ∈ s, c.toNat ≤ 57) : hexed s = false := by
  unfold hexed Lib.hasPrefix
  match s, h with
  | [], _ => rfl
  | [a], _ => by_cases e : a = 48 <;> simp [List.isPrefixOf, e]
  | a :: b :: r, h =>
    have := h b (by simp)
    have hb : ¬ (120 : UInt8) = b := by rintro rfl; simp at this
    simp [List.isPrefixOf, hb]
theorem number_dec (u : Nat) (h : u < 18446744073709551616) : number (Lib.decDigits u) = some u := by
  have hx : hexed (Lib.decDigits u) = false := not_hexed (fun c hc => (dec_bytes u c hc).2)
  unfold number
  have hd : digits (Lib.decDigits u) = Lib.decDigits u := by unfold digits; rw [hx]; rfl
  have hb : base (Lib.decDigits u) = 10 := by unfold base; rw [hx]; rfl
  rw [hd, hb, horner_dec u h, if_neg (dec_ne u)]
  by_cases h0 : u = 0
  · subst h0
    rw [dec_zero]
    rfl
  · rw [if_neg (fun e => h0 (dec_head u e.2))]
theorem tab_words : ∀ l ∈ tab, l.w ≠ [] ∧ (∀ c ∈ l.w, 48 ≤ c.toNat ∧ c.toNat < 128) ∧ named l.w = some l := by decide
theorem lineOf_mem (i : Ins) : lineOf i = rawL ∨ (lineOf i ∈ tab ∧ hits i (lineOf i) = true) := by
  unfold lineOf
  cases h : tab.find? (hits i) with
  | none => exact .inl rfl
  | some l => exact .inr ⟨List.mem_of_find?_eq_some h, List.find?_some h⟩
theorem raw_named : named rawL.w = some rawL := by decide
theorem lineOf_named (i : Ins) : named (lineOf i).w = some (lineOf i) := by
  rcases lineOf_mem i with h | h
  · rw [h]; exact raw_named
  · exact (tab_words _ h.1).2.2
theorem lineOf_wd (i : Ins) : Wd (lineOf i).w := by
  rcases lineOf_mem i with h | h
  · rw [h]; exact ⟨by decide, by decide⟩
  · exact ⟨(tab_words _ h.1).1, (tab_words _ h.1).2.1⟩
theorem raw_tells (i : Ins) : tells rawL i = i := by
  obtain ⟨c, t, f, k⟩ := i
  rfl
theorem lineOf_tells (i : Ins) : tellsGo (flds (lineOf i).s) ⟨(lineOf i).c, 0, 0, 0⟩ i = i := by
  rcases lineOf_mem i with h | h
  · rw [h]; exact raw_tells i
  · have := h.2
    unfold hits at this
    rw [Bool.and_eq_true] at this
    exact sameI_eq.1 this.2
theorem words_wd (i : Ins) : ∀ w ∈ words i, Wd w := by
  intro w hw
  unfold words at hw
  rcases List.mem_cons.1 hw with rfl | hw
  · exact lineOf_wd i
  · obtain ⟨f, _, rfl⟩ := List.mem_map.1 hw
    exact dec_wd _
theorem setAll_tells (i : Ins) (hi : i.ok) : ∀ (fs : List Nat), (∀ f ∈ fs, f < 4) → ∀ left, setAll (fs.map fun f => Lib.decDigits (getF f i)) fs left = (tellsGo fs left i, 0)
  | [], _, left => rfl
  | f :: fs, hf, left => by
    have h1 := getF_le f i hi (hf f (by simp))
    have hm : most f ≤ 4294967295 := by unfold most; (repeat' split) <;> omega
    rw [List.map_cons]
    unfold setAll
    rw [number_dec _ (by omega)]
    simp only
    rw [if_neg (by omega), setAll_tells i hi fs (fun x hx => hf x (by simp [hx]))]
    rfl
theorem parsed_words (i : Ins) (hi : i.ok) : parsed (words i) = (i, 0) := by
  unfold words parsed
  simp only
  rw [lineOf_named i]
  simp only [List.length_map, ne_eq, not_true_eq_false, if_false]
  rw [setAll_tells i hi _ (fun f hf => flds_lt _ f hf), lineOf_tells]
theorem told_bytes (i : Ins) : ∀ c ∈ told i, c ≠ 10 ∧ c ≠ 35 ∧ c.toNat < 128 := join_bytes (words_wd i)
theorem said_told (i : Ins) : saidB (told i) = words i := said_join (words_wd i)
theorem lines_text : ∀ (L : List Ins), lines (text L) = L.map told ++ [[]]
  | [] => rfl
  | i :: L => by
    have e : text (i :: L) = told i ++ 10 :: text L := by simp [text]
    rw [e, lines_plain _ _ (fun c hc => (told_bytes i c hc).1), lines_text L]
    rfl
theorem words_ne (i : Ins) : words i ≠ [] := by unfold words; simp
theorem parseL_text : ∀ (L : List Ins) (_ : ∀ i ∈ L, i.ok) (at' : Nat) (M : List Ins), M.length + L.length ≤ 4096 → parseL (L.map words ++ [[]]) at' M = (M ++ L, 0, 0)
  | [], _, at', M, _ => by simp [parseL]
  | i :: L, h, at', M, hm => by
    rw [List.map_cons, List.cons_append, parseL, if_neg (words_ne i), parsed_words i (h i (by simp))]
    simp only [ne_eq, not_true_eq_false, if_false]
    simp only [List.length_cons] at hm
    rw [if_neg (by omega), parseL_text L (fun x hx => h x (by simp [hx])) _ _ (by simp; omega)]
    simp
theorem parseL_more : ∀ (L : List Ins) (_ : ∀ i ∈ L, i.ok) (at' : Nat) (M : List Ins), M.length ≤ 4096 → 4096 < M.length + L.length → parseL (L.map words ++ [[]]) at' M = ([], at' + (4096 - M.length) + 1, 205)
  | [], _, at', M, h1, h2 => by simp at h2; omega
  | i :: L, h, at', M, h1, h2 => by
    rw [List.map_cons, List.cons_append, parseL, if_neg (words_ne i), parsed_words i (h i (by simp))]
    simp only [ne_eq, not_true_eq_false, if_false]
    simp only [List.length_cons] at h2
    by_cases he : M.length = 4096
    · rw [if_pos he, he]
    · rw [if_neg he, parseL_more L (fun x hx => h x (by simp [hx])) _ _ (by simp; omega) (by simp; omega)]
      simp
      omega
theorem said_nil : saidB [] = [] := by decide
theorem parseB_text (L : List Ins) (h : ∀ i ∈ L, i.ok) (hn : L.length ≤ 4096) : parseB (text L) = (L, 0, 0) := by
  unfold parseB
  have e : (lines (text L)).map saidB = L.map words ++ [[]] := by
    rw [lines_text, List.map_append, List.map_map]
    congr 1
    exact List.map_congr_left (fun i _ => said_told i)
  rw [e, parseL_text L h 0 [] (by simpa using hn), List.nil_append]
theorem parseB_more (L : List Ins) (h : ∀ i ∈ L, i.ok) (hn : 4096 < L.length) : parseB (text L) = ([], 4097, 205) := by
  unfold parseB
  have e : (lines (text L)).map saidB = L.map words ++ [[]] := by
    rw [lines_text, List.map_append, List.map_map]
    congr 1
    exact List.map_congr_left (fun i _ => said_told i)
  rw [e, parseL_more L h 0 [] (by simp) (by simpa using hn)]
  simp
theorem text_ascii (L : List Ins) : ∀ c ∈ text L, c.toNat < 128 := by
  intro c hc
  obtain ⟨i, _, hc⟩ := List.mem_flatMap.1 hc
  rcases List.mem_append.1 hc with hc | hc
  · exact (told_bytes i c hc).2.2
  · simp at hc; subst hc; decide
/-- How long. -/
theorem dec_len10 {u : Nat} (h : u < 4294967296) : (Lib.decDigits u).length ≤ 10 := by
  rw [Lib.decDigits_length]
  rcases (by omega : u < 10 ∨ (10 ≤ u ∧ u < 100) ∨ (100 ≤ u ∧ u < 1000) ∨ (1000 ≤ u ∧ u < 10000) ∨ (10000 ≤ u ∧ u < 100000) ∨ (100000 ≤ u ∧ u < 1000000) ∨ (1000000 ≤ u ∧ u < 10000000) ∨ (10000000 ≤ u ∧ u < 100000000) ∨ (100000000 ≤ u ∧ u < 1000000000) ∨ (1000000000 ≤ u)) with h' | h' | h' | h' | h' | h' | h' | h' | h' | h'
  · rw [Lib.nDigits_small h']; omega
  · rw [Lib.nDigits_unique 1 u (by omega) (by omega)]; omega
  · rw [Lib.nDigits_unique 2 u (by omega) (by omega)]; omega
  · rw [Lib.nDigits_unique 3 u (by omega) (by omega)]; omega
  · rw [Lib.nDigits_unique 4 u (by omega) (by omega)]; omega
  · rw [Lib.nDigits_unique 5 u (by omega) (by omega)]; omega
  · rw [Lib.nDigits_unique 6 u (by omega) (by omega)]; omega
  · rw [Lib.nDigits_unique 7 u (by omega) (by omega)]; omega
  · rw [Lib.nDigits_unique 8 u (by omega) (by omega)]; omega
  · rw [Lib.nDigits_unique 9 u (by omega) (by omega)]; omega
theorem tail_len (r : List Bs) (h : ∀ w ∈ r, w.length ≤ 10) : (Lib.joinTail [32] r).length ≤ r.length * 11 := by
  induction r with
  | nil => simp [Lib.joinTail]
  | cons a r ih =>
    have h1 := h a (by simp)
    have h2 := ih (fun w hw => h w (by simp [hw]))
    simp only [Lib.joinTail, List.map_cons, List.flatten_cons, List.length_append, List.length_cons] at h2 ⊢
    simp at h2 ⊢
    omega
theorem tab_len10 : ∀ l ∈ tab, l.w.length ≤ 6 := by decide
theorem lineOf_len (i : Ins) : (lineOf i).w.length ≤ 6 := by
  rcases lineOf_mem i with h | h
  · rw [h]; decide
  · exact tab_len10 _ h.1
theorem told_len (i : Ins) (hi : i.ok) : (told i).length ≤ 50 := by
  unfold told words
  rw [Lib.join_cons, List.length_append]
  have h1 := lineOf_len i
  have h2 := flds_le (lineOf i).s
  have h3 := tail_len ((flds (lineOf i).s).map fun f => Lib.decDigits (getF f i)) (fun w hw => by
    obtain ⟨f, hf, rfl⟩ := List.mem_map.1 hw
    have := getF_le f i hi (flds_lt _ f hf)
    have hm : most f ≤ 4294967295 := by unfold most; (repeat' split) <;> omega
    exact dec_len10 (by omega))
  rw [List.length_map] at h3
  omega
theorem text_len (L : List Ins) (h : ∀ i ∈ L, i.ok) : (text L).length ≤ L.length * 51 := by
  induction L with
  | nil => simp [text]
  | cons i L ih =>
    have h1 := told_len i (h i (by simp))
    have h2 := ih (fun x hx => h x (by simp [hx]))
    simp only [text, List.flatMap_cons, List.length_append, List.length_cons, List.length_nil] at h2 ⊢
    omega
theorem text_snoc (L : List Ins) (i : Ins) : text (L ++ [i]) = text L ++ (told i ++ [10]) := by simp [text]
end Go.Proofs.Ytcageojoafkojaa
namespace Go.Proofs.Ytcageojoafkojaa
/-- A word: its kind (0 an end, 1 a name, 2 a number, 3 a path, 4 a sign), its text, its number, its place. -/
structure Tok where
  k : Nat
  t : Bs
  n : Nat
  line : Nat
  col : Nat
deriving DecidableEq
def isL (c : Nat) : Bool := decide (97 ≤ c) && decide (c ≤ 122)
def isD (c : Nat) : Bool := decide (48 ≤ c) && decide (c ≤ 57)
def isP (c : Nat) : Bool := c == 32 || (c == 9 || c == 13)
def prn (c : Nat) : Bool := decide (33 ≤ c) && (decide (c ≤ 126) && c != 35)
def sgn (c : Nat) : Bool := c == 61 || (c == 33 || (c == 60 || (c == 62 || c == 38)))
def begunB (c : Nat) : Nat := if isL c then 1 else if isD c then 2 else if c = 47 then 3 else 4
def hasB (k c : Nat) : Bool := if k = 1 then isL c || (isD c || (c == 45 || (c == 95 || c == 44))) else if k = 2 then isL c || isD c else if k = 3 then prn c else sgn c
def isSign (t : Bs) : Bool := decide (t = [61, 61]) || (decide (t = [33, 61]) || (decide (t = [60]) || (decide (t = [60, 61]) || (decide (t = [62]) || (decide (t = [62, 61]) || decide (t = [38]))))))
def valB (k : Nat) (t : Bs) : Nat × Nat :=
  if k = 2 then (match number t with | some n => (n, 0) | none => (0, 204))
  else if k = 3 then (0, if 120 < t.length then 36 else 0)
  else if k = 4 then (0, if isSign t then 0 else 202) else (0, 0)
def tw (p : Nat → Bool) (s : Bs) : Bs := s.takeWhile fun c => p c.toNat
def dw (p : Nat → Bool) (s : Bs) : Bs := s.dropWhile fun c => p c.toNat
/-- The next word: its kind, its text, how much stands ahead of it, what is left behind it. -/
def nextS (s : Bs) : Option (Nat × Bs × Nat × Bs) :=
  match dw isP s with
  | [] => none
  | c :: r => some (begunB c.toNat, tw (hasB (begunB c.toNat)) (c :: r), (tw isP s).length, dw (hasB (begunB c.toNat)) (c :: r))
/-- The words of a line's text, of which 'at' bytes are gone; where it isn't right, and why. -/
def lexF (ln : Nat) : Nat → Bs → Nat → List Tok × Nat × Nat
  | 0, _, _ => ([], 0, 0)
  | f + 1, s, at_ =>
    match nextS s with
    | none => ([], 0, 0)
    | some (k, t, g, r) =>
      if (valB k t).2 ≠ 0 then ([], at_ + g + 1, (valB k t).2)
      else (⟨k, t, (valB k t).1, ln, at_ + g + 1⟩ :: (lexF ln f r (at_ + g + t.length)).1, (lexF ln f r (at_ + g + t.length)).2)
/-- Where a text isn't right, and why. -/
structure Wr where
  l : Nat
  c : Nat
  e : Nat
deriving DecidableEq
def noW : Wr := ⟨0, 0, 0⟩
def endT (ln n : Nat) : Tok := ⟨0, [], 0, ln, n + 1⟩
/-- A line. -/
def lineR (ln n : Nat) (r : List Tok × Nat × Nat) : List Tok × Wr :=
  if r.2.2 ≠ 0 then ([], ⟨ln, r.2.1, r.2.2⟩) else if r.1 = [] then ([], noW) else (r.1 ++ [endT ln n], noW)
def lineB (ln : Nat) (s : Bs) : List Tok × Wr := lineR ln (cutH s).length (lexF ln ((cutH s).length + 1) (cutH s) 0)
def lexL : List Bs → Nat → List Tok → List Tok × Wr
  | [], _, acc => (acc, noW)
  | l :: ls, k, acc => if (lineB (k + 1) l).2 ≠ noW then ([], (lineB (k + 1) l).2) else lexL ls (k + 1) (acc ++ (lineB (k + 1) l).1)
def lexB (s : Bs) : List Tok × Wr := if 65536 < s.length then ([], ⟨0, 0, 36⟩) else lexL (lines s) 0 []
theorem tw_dw (p : Nat → Bool) (s : Bs) : tw p s ++ dw p s = s := List.takeWhile_append_dropWhile
theorem dw_drop (p : Nat → Bool) (s : Bs) : dw p s = s.drop (tw p s).length := by
  have h := tw_dw p s
  have : (tw p s ++ dw p s).drop (tw p s).length = dw p s := by simp
  rw [h] at this; exact this.symm
theorem tw_len (p : Nat → Bool) (s : Bs) : (tw p s).length ≤ s.length := by
  have := congrArg List.length (tw_dw p s)
  simp at this; omega
theorem tw_all (p : Nat → Bool) (s : Bs) : ∀ c ∈ tw p s, p c.toNat = true := by
  intro c hc
  unfold tw at hc
  induction s with
  | nil => simp at hc
  | cons a s ih =>
    rw [List.takeWhile_cons] at hc
    split at hc
    · rcases List.mem_cons.1 hc with rfl | hc
      · assumption
      · exact ih hc
    · simp at hc
theorem tw_app (p : Nat → Bool) (a b : Bs) (h : ∀ c ∈ a, p c.toNat = true) (hb : ∀ c, b.head? = some c → p c.toNat = false) : tw p (a ++ b) = a ∧ dw p (a ++ b) = b := by
  unfold tw dw
  induction a with
  | nil =>
    cases b with
    | nil => simp
    | cons c b => have := hb c rfl; simp [this]
  | cons x a ih =>
    have h1 := h x (by simp)
    obtain ⟨i1, i2⟩ := ih (fun c hc => h c (by simp [hc]))
    rw [List.cons_append, List.takeWhile_cons, List.dropWhile_cons]
    simp only [h1, if_true, i1, i2, and_self]
theorem nextS_len {s : Bs} {k g : Nat} {t r : Bs} (h : nextS s = some (k, t, g, r)) : g + t.length + r.length = s.length ∧ r = s.drop (g + t.length) ∧ s.drop g = t ++ r ∧ g < s.length := by
  unfold nextS at h
  have h0 := tw_dw isP s
  have hd := dw_drop isP s
  split at h
  · cases h
  · rename_i c r0 e
    simp only [Option.some.injEq, Prod.mk.injEq] at h
    obtain ⟨rfl, rfl, rfl, rfl⟩ := h
    have h1 := tw_dw (hasB (begunB c.toNat)) (c :: r0)
    have h2 := dw_drop (hasB (begunB c.toNat)) (c :: r0)
    have e1 := congrArg List.length h0
    have e2 := congrArg List.length h1
    rw [e] at e1 hd
    simp only [List.length_append, List.length_cons] at e1 e2
    refine ⟨by omega, ?_, by rw [h1, hd], by omega⟩
    rw [h2, hd, List.drop_drop]
theorem valB_pos {t : Bs} (h : (valB 4 t).2 = 0) : t ≠ [] := by
  rintro rfl
  simp [valB, isSign] at h
theorem has_begun (c : Nat) (h : begunB c ≠ 4) : hasB (begunB c) c = true := by
  unfold begunB at h ⊢
  by_cases h1 : isL c = true
  · simp [h1, hasB]
  · by_cases h2 : isD c = true
    · simp [h1, h2, hasB]
    · by_cases h3 : c = 47
      · subst h3; decide
      · simp [h1, h2, h3] at h
/-- A word that is right has a byte. -/
theorem next_pos {s : Bs} {k g : Nat} {t r : Bs} (h : nextS s = some (k, t, g, r)) (hv : (valB k t).2 = 0) : t ≠ [] := by
  unfold nextS at h
  split at h
  · cases h
  · rename_i c r0 e
    simp only [Option.some.injEq, Prod.mk.injEq] at h
    obtain ⟨rfl, rfl, rfl, rfl⟩ := h
    by_cases h4 : begunB c.toNat = 4
    · rw [h4] at hv; rw [h4]; exact valB_pos hv
    · have := has_begun c.toNat h4
      unfold tw
      rw [List.takeWhile_cons]
      simp [this]
theorem begunB_pos (c : Nat) : 1 ≤ begunB c ∧ begunB c ≤ 4 := by
  unfold begunB
  split
  · omega
  split
  · omega
  split <;> omega
theorem lexF_step {ln f at_ k g : Nat} {s t r : Bs} (h : nextS s = some (k, t, g, r)) (hv : (valB k t).2 = 0) :
    lexF ln (f + 1) s at_ = (⟨k, t, (valB k t).1, ln, at_ + g + 1⟩ :: (lexF ln f r (at_ + g + t.length)).1, (lexF ln f r (at_ + g + t.length)).2) := by
  rw [lexF, h]
  simp only
  rw [if_neg (by simpa using hv)]
theorem lexF_bad {ln f at_ k g : Nat} {s t r : Bs} (h : nextS s = some (k, t, g, r)) (hv : (valB k t).2 ≠ 0) : lexF ln (f + 1) s at_ = ([], at_ + g + 1, (valB k t).2) := by
  rw [lexF, h]
  simp only
  rw [if_pos hv]
theorem lexF_none {ln f at_ : Nat} {s : Bs} (h : nextS s = none) : lexF ln (f + 1) s at_ = ([], 0, 0) := by rw [lexF, h]
theorem lexF_fuel (ln : Nat) : ∀ (f f' : Nat) (s : Bs) (at_ : Nat), s.length < f → s.length < f' → lexF ln f s at_ = lexF ln f' s at_
  | 0, _, _, _, h, _ => by omega
  | _, 0, _, _, _, h => by omega
  | f + 1, f' + 1, s, at_, h, h' => by
    cases hn : nextS s with
    | none => rw [lexF_none hn, lexF_none hn]
    | some x =>
      obtain ⟨k, t, g, r⟩ := x
      by_cases hv : (valB k t).2 = 0
      · have hl := nextS_len hn
        have ht := List.length_pos_iff.2 (next_pos hn hv)
        rw [lexF_step hn hv, lexF_step hn hv, lexF_fuel ln f f' r _ (by omega) (by omega)]
      · rw [lexF_bad hn hv, lexF_bad hn hv]
/-- Behind some words. -/
def pre (acc : List Tok) (r : List Tok × Nat × Nat) : List Tok × Nat × Nat := if r.2.2 ≠ 0 then ([], r.2) else (acc ++ r.1, r.2)
def lexP (ln : Nat) (s : Bs) (at_ : Nat) (acc : List Tok) : List Tok × Nat × Nat := pre acc (lexF ln (s.length + 1) s at_)
theorem lexP_none {ln at_ : Nat} {s : Bs} {acc : List Tok} (h : nextS s = none) : lexP ln s at_ acc = (acc, 0, 0) := by
  unfold lexP pre; rw [lexF_none h]; simp
theorem lexP_bad {ln at_ k g : Nat} {s t r : Bs} {acc : List Tok} (h : nextS s = some (k, t, g, r)) (hv : (valB k t).2 ≠ 0) : lexP ln s at_ acc = ([], at_ + g + 1, (valB k t).2) := by
  unfold lexP pre; rw [lexF_bad h hv]; simp [hv]
theorem lexP_step {ln at_ k g : Nat} {s t r : Bs} {acc : List Tok} (h : nextS s = some (k, t, g, r)) (hv : (valB k t).2 = 0) :
    lexP ln s at_ acc = lexP ln r (at_ + g + t.length) (acc ++ [⟨k, t, (valB k t).1, ln, at_ + g + 1⟩]) := by
  have hl := nextS_len h
  have ht := List.length_pos_iff.2 (next_pos h hv)
  unfold lexP
  rw [lexF_step h hv, lexF_fuel ln s.length (r.length + 1) r _ (by omega) (by omega)]
  generalize lexF ln (r.length + 1) r (at_ + g + t.length) = R
  unfold pre
  simp only [List.append_assoc, List.cons_append, List.nil_append]
theorem lineR_pre (ln n : Nat) (s : Bs) : lineR ln n (lexP ln s 0 []) = lineR ln n (lexF ln (s.length + 1) s 0) := by
  unfold lexP pre
  split
  · rename_i h; unfold lineR; rw [if_pos h, if_pos h]
  · simp
theorem lineB_eq (ln : Nat) (s : Bs) : lineB ln s = lineR ln (cutH s).length (lexP ln (cutH s) 0 []) := by rw [lineR_pre]; rfl
end Go.Proofs.Ytcageojoafkojaa

