/- Instructions as plain numbers: which codes there are, their bytes, and back. -/
import Derived.Laws.BitsAllLaws
import Derived.Lib.BitFns
import Derived.Test.YtjgackejkkglcaaProg
import Derived.WalkKit
import Derived.WalkSpells
import Derived.Lib.Hide
import Derived.Laws.ShiftsVarLaws
import Derived.IntWalk
import Derived.Deep.QuietTactic
import Derived.BigQuiet
import Derived.Below
import Derived.Laws.OwnMore
import Derived.Deep.AppendLies
import Derived.Deep.Onto
import Derived.OwnWalk
import Derived.Laws.Rows
import Derived.Laws.Tables
import Derived.LoopTactic
import Derived.Laws.AppendOwnNone
namespace Go.Proofs.Ytjgackejkkglcaa

/-- The codes that there are. -/
def codesL : List Nat := [32, 0, 96, 128, 1, 97, 129, 2, 3, 6, 22, 7, 135, 5, 132, 4, 12, 20, 28, 36, 44, 52, 60, 68, 76, 84, 92, 100, 108, 116, 124, 164, 172, 21, 29, 37, 45, 53, 61, 69, 77]
def knownB (n : Nat) : Bool := codesL.contains n
theorem known_true (n : Nat) (h : n = 32 ∨ n = 0 ∨ n = 96 ∨ n = 128 ∨ n = 1 ∨ n = 97 ∨ n = 129 ∨ n = 2 ∨ n = 3 ∨ n = 6 ∨ n = 22 ∨ n = 7 ∨ n = 135 ∨ n = 5 ∨ n = 132 ∨ n = 4 ∨ n = 12 ∨ n = 20 ∨ n = 28 ∨ n = 36 ∨ n = 44 ∨ n = 52 ∨ n = 60 ∨ n = 68 ∨ n = 76 ∨ n = 84 ∨ n = 92 ∨ n = 100 ∨ n = 108 ∨ n = 116 ∨ n = 124 ∨ n = 164 ∨ n = 172 ∨ n = 21 ∨ n = 29 ∨ n = 37 ∨ n = 45 ∨ n = 53 ∨ n = 61 ∨ n = 69 ∨ n = 77) : knownB n = true := by
  simp only [knownB, codesL, List.contains_iff_mem, List.mem_cons, List.not_mem_nil, or_false]
  exact h
theorem known_false (n : Nat) (h : ¬ (n = 32 ∨ n = 0 ∨ n = 96 ∨ n = 128 ∨ n = 1 ∨ n = 97 ∨ n = 129 ∨ n = 2 ∨ n = 3 ∨ n = 6 ∨ n = 22 ∨ n = 7 ∨ n = 135 ∨ n = 5 ∨ n = 132 ∨ n = 4 ∨ n = 12 ∨ n = 20 ∨ n = 28 ∨ n = 36 ∨ n = 44 ∨ n = 52 ∨ n = 60 ∨ n = 68 ∨ n = 76 ∨ n = 84 ∨ n = 92 ∨ n = 100 ∨ n = 108 ∨ n = 116 ∨ n = 124 ∨ n = 164 ∨ n = 172 ∨ n = 21 ∨ n = 29 ∨ n = 37 ∨ n = 45 ∨ n = 53 ∨ n = 61 ∨ n = 69 ∨ n = 77)) : knownB n = false := by
  rw [← Bool.not_eq_true]
  simp only [knownB, codesL, List.contains_iff_mem, List.mem_cons, List.not_mem_nil, or_false]
  exact h
theorem mem_known {n : Nat} (h : n ∈ codesL) : knownB n = true := by simpa [knownB] using h
theorem not_known {n : Nat} (h : ¬ n ∈ codesL) : knownB n = false := by simpa [knownB] using h

/-- An instruction. -/
structure Ins where
  c : Nat
  t : Nat
  f : Nat
  k : Nat
def Ins.ok (i : Ins) : Prop := i.c < 65536 ∧ i.t < 256 ∧ i.f < 256 ∧ i.k < 4294967296
def Ins.bs (i : Ins) : List Nat := [i.c % 256, i.c / 256, i.t, i.f, i.k % 256, i.k / 256 % 256, i.k / 65536 % 256, i.k / 16777216]
/-- The instruction whose bytes stand at 8 j. -/
def insAt (b : List Nat) (j : Nat) : Ins := ⟨b.getD (j * 8) 0 + 256 * b.getD (j * 8 + 1) 0, b.getD (j * 8 + 2) 0, b.getD (j * 8 + 3) 0, b.getD (j * 8 + 4) 0 + 256 * b.getD (j * 8 + 5) 0 + 65536 * b.getD (j * 8 + 6) 0 + 16777216 * b.getD (j * 8 + 7) 0⟩
def dec (b : List Nat) (m : Nat) : List Ins := (List.range m).map (insAt b)
def enc8 (l : List Ins) : List Nat := l.flatMap Ins.bs
theorem bs_len (i : Ins) : i.bs.length = 8 := rfl
theorem enc_len (l : List Ins) : (enc8 l).length = l.length * 8 := by
  induction l with
  | nil => rfl
  | cons i l ih => simp only [enc8, List.flatMap_cons, List.length_append, bs_len, List.length_cons] at *; omega
theorem enc_at : ∀ (l : List Ins) (k j : Nat), j < 8 → (enc8 l)[k * 8 + j]? = (l[k]?).bind (fun x => x.bs[j]?)
  | [], k, j, _ => by simp [enc8]
  | x :: l, k, j, hj => by
    have e : enc8 (x :: l) = x.bs ++ enc8 l := rfl
    rw [e]
    cases k with
    | zero => rw [List.getElem?_append_left (by rw [bs_len]; omega)]; simp
    | succ k =>
      rw [List.getElem?_append_right (by rw [bs_len]; omega), bs_len, show (k + 1) * 8 + j - 8 = k * 8 + j from by omega, enc_at l k j hj]
      simp
theorem enc_snoc (l : List Ins) (i : Ins) : enc8 (l ++ [i]) = enc8 l ++ i.bs := by simp [enc8]
theorem dec_len (b : List Nat) (m : Nat) : (dec b m).length = m := by simp [dec]
theorem dec_snoc (b : List Nat) (m : Nat) : dec b (m + 1) = dec b m ++ [insAt b m] := by simp [dec, List.range_succ]
theorem bs_lt (i : Ins) (h : i.ok) : ∀ x ∈ i.bs, x < 256 := by
  obtain ⟨h1, h2, h3, h4⟩ := h
  intro x hx
  simp only [Ins.bs, List.mem_cons, List.not_mem_nil, or_false] at hx
  omega
theorem enc_lt (l : List Ins) (h : ∀ i ∈ l, i.ok) : ∀ x ∈ enc8 l, x < 256 := by
  intro x hx
  obtain ⟨i, hi, hx⟩ := List.mem_flatMap.1 hx
  exact bs_lt i (h i hi) x hx
theorem getD_lt (b : List Nat) (h : ∀ x ∈ b, x < 256) (j : Nat) : b.getD j 0 < 256 := by
  rw [List.getD_eq_getElem?_getD]
  by_cases hj : j < b.length
  · rw [List.getElem?_eq_getElem hj]; exact h _ (List.getElem_mem hj)
  · rw [List.getElem?_eq_none (by omega)]; decide
theorem insAt_ok (b : List Nat) (h : ∀ x ∈ b, x < 256) (j : Nat) : (insAt b j).ok := by
  have a0 := getD_lt b h (j * 8)
  have a1 := getD_lt b h (j * 8 + 1)
  have a2 := getD_lt b h (j * 8 + 2)
  have a3 := getD_lt b h (j * 8 + 3)
  have a4 := getD_lt b h (j * 8 + 4)
  have a5 := getD_lt b h (j * 8 + 5)
  have a6 := getD_lt b h (j * 8 + 6)
  have a7 := getD_lt b h (j * 8 + 7)
  simp only [Ins.ok, insAt]
  omega
/-- What was encoded is decoded. -/
theorem insAt_enc (l : List Ins) (h : ∀ i ∈ l, i.ok) (j : Nat) (x : Ins) (hx : l[j]? = some x) : insAt (enc8 l) j = x := by
  have hok := h x (List.mem_of_getElem? hx)
  have hat : ∀ i, i < 8 → (enc8 l).getD (j * 8 + i) 0 = x.bs.getD i 0 := by
    intro i hi
    rw [List.getD_eq_getElem?_getD, enc_at l j i hi, hx, List.getD_eq_getElem?_getD]; rfl
  have h0 := hat 0 (by omega)
  rw [Nat.add_zero] at h0
  obtain ⟨h1, h2, h3, h4⟩ := hok
  cases x with
  | mk c t f k =>
    simp only [insAt, h0, hat 1 (by omega), hat 2 (by omega), hat 3 (by omega), hat 4 (by omega), hat 5 (by omega), hat 6 (by omega), hat 7 (by omega)]
    simp only [Ins.bs] at *
    simp only [List.getD_cons_zero, List.getD_cons_succ, Ins.mk.injEq, true_and]
    omega
theorem dec_enc (l : List Ins) (h : ∀ i ∈ l, i.ok) : dec (enc8 l) l.length = l := by
  apply List.ext_getElem?
  intro j
  by_cases hj : j < l.length
  · rw [List.getElem?_eq_getElem hj, dec, List.getElem?_map, List.getElem?_range hj]
    simp only [Option.map_some, Option.some.injEq]
    exact insAt_enc l h j _ (List.getElem?_eq_getElem hj)
  · rw [List.getElem?_eq_none (by rw [dec_len]; omega), List.getElem?_eq_none (by omega)]
theorem bs_insAt (b : List Nat) (h : ∀ x ∈ b, x < 256) (j i : Nat) (hi : i < 8) : (insAt b j).bs[i]? = some (b.getD (j * 8 + i) 0) := by
  have a0 := getD_lt b h (j * 8)
  have a1 := getD_lt b h (j * 8 + 1)
  have a4 := getD_lt b h (j * 8 + 4)
  have a5 := getD_lt b h (j * 8 + 5)
  have a6 := getD_lt b h (j * 8 + 6)
  have a7 := getD_lt b h (j * 8 + 7)
  rcases (by omega : i = 0 ∨ i = 1 ∨ i = 2 ∨ i = 3 ∨ i = 4 ∨ i = 5 ∨ i = 6 ∨ i = 7) with rfl | rfl | rfl | rfl | rfl | rfl | rfl | rfl <;>
    simp only [Ins.bs, insAt, List.getElem?_cons_zero, List.getElem?_cons_succ, Option.some.injEq, Nat.add_zero] <;> omega
/-- What was decoded is encoded. -/
theorem enc_dec (b : List Nat) (m : Nat) (hb : b.length = m * 8) (h : ∀ x ∈ b, x < 256) : enc8 (dec b m) = b := by
  apply List.ext_getElem?
  intro q
  have hq : q = q / 8 * 8 + q % 8 := by omega
  rw [hq, enc_at _ _ _ (by omega)]
  by_cases hj : q / 8 < m
  · rw [dec, List.getElem?_map, List.getElem?_range hj]
    simp only [Option.map_some, Option.bind_some]
    rw [bs_insAt b h _ _ (by omega), List.getD_eq_getElem?_getD, List.getElem?_eq_getElem (by omega)]
    rfl
  · rw [List.getElem?_eq_none (by rw [dec_len]; omega), List.getElem?_eq_none (by omega)]
    rfl
end Go.Proofs.Ytjgackejkkglcaa
namespace Go.Proofs.Ytjgackejkkglcaa
open Go.RowKit
theorem ret_bool {a b : Bool} (h : a = b) : Ending.returned (.bool a) = .returned (.bool b) := by rw [h]
theorem ret_int {k : IntKind} {a b : Int} (h : a = b) : Ending.returned (.int k a) = .returned (.int k b) := by rw [h]

theorem clear8 (n : Nat) (h : n < 65536) : n &&& 65527 = n - 8 * (n / 8 % 2) := by
  have h1 := Nat.and_div_two_pow (a := n) (b := 65527) (n := 4)
  have h2 := Nat.and_mod_two_pow (a := n) (b := 65527) (n := 4)
  simp only [Nat.reducePow, Nat.reduceDiv, Nat.reduceMod] at h1 h2
  have e1 := Nat.and_two_pow_sub_one_eq_mod (n / 16) 12
  have e2 := Nat.and_two_pow_sub_one_eq_mod (n % 16) 3
  simp only [Nat.reducePow, Nat.reduceSub] at e1 e2
  rw [e1] at h1
  rw [e2] at h2
  omega
theorem andNot8 (n : Nat) (h : n < 65536) : bits .andNot .u16 (n : Int) 8 = ((n - 8 * (n / 8 % 2) : Nat) : Int) := by
  have e := u16_andNot_nat n 8 h (by omega)
  rw [← clear8 n h]
  exact e
theorem hit_n {n c : Nat} (h : knownB c = true) (h2 : ((n : Int) == (c : Int)) = true) : true = knownB n := by
  have e : n = c := by
    simp at h2
    omega
  rw [e, h]
theorem hit_q {n q c : Nat} (hq : q = n - 8 * (n / 8 % 2)) (h : knownB c = true) (h1 : knownB (c + 8) = true) (h2 : ((q : Int) == (c : Int)) = true) : true = knownB n := by
  have e : q = c := by
    simp at h2
    omega
  rcases (by omega : n = c ∨ n = c + 8) with rfl | rfl
  · rw [h]
  · rw [h1]
set_option maxRecDepth 100000 in
set_option maxHeartbeats 1000000 in
theorem known_any (n : Nat) (w : World) (h : n < 65536) : Calls Try.prog 63 #[.int .u16 n] w fun e w' => e = .returned (.bool (knownB n)) ∧ w = w' := by
  obtain ⟨q, hq⟩ : ∃ q, q = n - 8 * (n / 8 % 2) := ⟨_, rfl⟩
  have hb := andNot8 n h
  rw [← hq] at hb
  have H := Lib.hid hq
  clear hq
  go_enter Try.func63, Try.ntmps63
  go_wp2
  all_goals
    go_ret
    refine ⟨ret_bool ?_, rfl⟩
    first
      | exact hit_n (by rfl) ‹((n : Int) == 32) = true›
      | exact hit_n (by rfl) ‹((n : Int) == 0) = true›
      | exact hit_n (by rfl) ‹((n : Int) == 96) = true›
      | exact hit_n (by rfl) ‹((n : Int) == 128) = true›
      | exact hit_n (by rfl) ‹((n : Int) == 1) = true›
      | exact hit_n (by rfl) ‹((n : Int) == 97) = true›
      | exact hit_n (by rfl) ‹((n : Int) == 129) = true›
      | exact hit_n (by rfl) ‹((n : Int) == 2) = true›
      | exact hit_n (by rfl) ‹((n : Int) == 3) = true›
      | exact hit_n (by rfl) ‹((n : Int) == 6) = true›
      | exact hit_n (by rfl) ‹((n : Int) == 22) = true›
      | exact hit_n (by rfl) ‹((n : Int) == 7) = true›
      | exact hit_n (by rfl) ‹((n : Int) == 135) = true›
      | exact hit_n (by rfl) ‹((n : Int) == 5) = true›
      | exact hit_n (by rfl) ‹((n : Int) == 132) = true›
      | exact hit_q H.out (by rfl) (by rfl) ‹((q : Int) == 4) = true›
      | exact hit_q H.out (by rfl) (by rfl) ‹((q : Int) == 20) = true›
      | exact hit_q H.out (by rfl) (by rfl) ‹((q : Int) == 36) = true›
      | exact hit_q H.out (by rfl) (by rfl) ‹((q : Int) == 52) = true›
      | exact hit_q H.out (by rfl) (by rfl) ‹((q : Int) == 68) = true›
      | exact hit_q H.out (by rfl) (by rfl) ‹((q : Int) == 84) = true›
      | exact hit_q H.out (by rfl) (by rfl) ‹((q : Int) == 100) = true›
      | exact hit_q H.out (by rfl) (by rfl) ‹((q : Int) == 116) = true›
      | exact hit_q H.out (by rfl) (by rfl) ‹((q : Int) == 164) = true›
      | exact hit_q H.out (by rfl) (by rfl) ‹((q : Int) == 21) = true›
      | exact hit_q H.out (by rfl) (by rfl) ‹((q : Int) == 37) = true›
      | exact hit_q H.out (by rfl) (by rfl) ‹((q : Int) == 53) = true›
      | exact hit_q H.out (by rfl) (by rfl) ‹((q : Int) == 69) = true›
      | (have hq := H.out
         simp only [beq_eq_false_iff_ne, ne_eq] at *
         symm
         refine known_false n ?_
         omega)
theorem class_any (n : Nat) (w : World) (h : n < 65536) : Calls Try.prog 18 #[.int .u16 n] w fun e w' => e = .returned (.int .u16 ((n % 8 : Nat) : Int)) ∧ w = w' := by
  go_enter Try.func18, Try.ntmps18
  go_wp2
  go_ret
  exact ⟨ret_int (by rw [show ((7 : Int)) = ((7 : Nat) : Int) from rfl, u16_and_nat n 7 h (by omega), Nat.and_two_pow_sub_one_eq_mod n 3]), rfl⟩
end Go.Proofs.Ytjgackejkkglcaa
namespace Go.Proofs.Ytjgackejkkglcaa
open Go.RowKit
/-- A slice of n elements of z cells each, which are xs. -/
structure Rd (w : World) (z n : Nat) (A : Option Addr) (xs : List Value) : Prop where
  len : xs.length = n * z
  at_ : n = 0 ∨ ∃ b o, A = some ⟨b, o, none⟩ ∧ b < w.heap.size ∧ ∀ j u, xs[j]? = some u → w.cell? ⟨b, o + j, none⟩ = some u
section
variable {w w' : World} {z n : Nat} {A : Option Addr} {xs : List Value}
theorem Rd.below (h : Rd w z n A xs) (hb : Below w.heap.size w w') : Rd w' z n A xs :=
  ⟨h.len, h.at_.imp id fun ⟨b, o, e, hl, hc⟩ => ⟨b, o, e, Nat.lt_of_lt_of_le hl hb.size, fun j u hu => (hb.cell (p := ⟨b, o + j, none⟩) hl).trans (hc j u hu)⟩⟩
theorem Rd.kept {B : Nat} (h : Rd w z n A xs) (hB : B = w.heap.size) (hb : Below B w w') : Rd w' z n A xs := h.below (hB ▸ hb)
theorem Rd.pos (h : Rd w z n A xs) (hn : 0 < n) : ∃ b o, A = some ⟨b, o, none⟩ ∧ b < w.heap.size ∧ ∀ j u, xs[j]? = some u → w.cell? ⟨b, o + j, none⟩ = some u := by
  rcases h.at_ with e | e
  · omega
  · exact e
theorem Rd.nil (w : World) (z : Nat) (A : Option Addr) : Rd w z 0 A [] := ⟨by simp, .inl rfl⟩
end
/-- What a call owns reads so. -/
theorem own_form {w : World} {base : Nat} {e : TypeId} {z n : Nat} {v : Value} {xs : List Value} (h : w.ownsRow base e z v n xs) :
    ∃ A c, v = .slice A n c ∧ n ≤ c ∧ Rd w z n A xs := by
  rcases h.2 with ⟨rfl, rfl⟩ | ⟨g, cap, cur, rfl, hb, hh, hn, hm, hs, rfl⟩
  · exact ⟨none, 0, rfl, Nat.le_refl _, h.1, .inl rfl⟩
  · refine ⟨_, cap, rfl, hn, h.1, .inr ⟨g, 0, rfl, (Array.getElem?_eq_some_iff.1 hh).1, fun j u hu => ?_⟩⟩
    have := h.cells (g := g) rfl j u hu
    rw [← this]
    simp [Addr.add]
    by_cases hj : j = 0 <;> simp [hj]
theorem own_below {w w' : World} {base : Nat} {e : TypeId} {z n : Nat} {v : Value} {xs : List Value} (h : w.ownsRow base e z v n xs) (hb : Below w.heap.size w w') : w'.ownsRow base e z v n xs := by
  refine ⟨h.1, h.2.imp id fun ⟨g, cap, cur, e, h1, h2, h3⟩ => ⟨g, cap, cur, e, h1, ?_, h3⟩⟩
  rw [hb.block g (Array.getElem?_eq_some_iff.1 h2).1]; exact h2
end Go.Proofs.Ytjgackejkkglcaa
namespace Go.Proofs.Ytjgackejkkglcaa
open Go.RowKit
/-- Block g is just these cells. -/
def Bk (w : World) (g t : Nat) (l : List Value) : Prop := w.heap[g]? = some (.cells l.toArray t (0, 0))
section
variable {w w' : World} {g t : Nat} {l : List Value}
theorem Bk.lt (h : Bk w g t l) : g < w.heap.size := (Array.getElem?_eq_some_iff.1 h).1
theorem Bk.cell (h : Bk w g t l) (j : Nat) {v : Value} (hv : l[j]? = some v) : w.cell? ⟨g, j, none⟩ = some v := by
  simp only [Bk] at h; simp [World.cell?, h, hv]
theorem Bk.fz (h : Bk w g t l) (j : Nat) : w.frozen? ⟨g, j, none⟩ = false := by simp only [Bk] at h; simp [World.frozen?, h]
theorem Bk.set (h : Bk w g t l) (j : Nat) (v : Value) : Bk (w.setCell ⟨g, j, none⟩ v) g t (l.set j v) := by
  simp only [Bk] at h ⊢; simp [World.setCell, Array.getElem?_modify, h]
theorem Bk.drew (h : Bk w g t l) : Bk w.drew g t l := h
theorem Bk.drewN (h : Bk w g t l) (n : Nat) : Bk (w.drewN n) g t l := h
theorem Bk.below {B : Nat} (h : Bk w g t l) (hb : Below B w w') (hg : g < B) : Bk w' g t l := (hb.block g hg).trans h
theorem Bk.kept (h : Bk w g t l) (hb : Below w.heap.size w w') : Bk w' g t l := h.below hb h.lt
theorem Bk.grown {r : Option Nat} (h : Bk w g t l) (hb : w.grownBy w' r) (hr : some g ≠ r) : Bk w' g t l := (hb.block g h.lt hr).trans h
theorem Bk.alloc (h : Bk w g t l) (o : Obj) : Bk (w.alloc o) g t l := (Below.heap_alloc w o g h.lt).trans h
theorem Bk.new (w : World) (t : Nat) (a : Array Value) (h : a = l.toArray) : Bk (w.alloc (.cells a t)) w.heap.size t l := by subst h; exact heap_alloc_new w _
end
theorem only_refl (w : World) (r : Option Nat) : w.grownBy w r := ⟨rfl, rfl, rfl, Nat.le_refl _, fun _ _ _ => rfl⟩
theorem only_trans {w w1 w2 : World} {g : Nat} (h : w.grownBy w1 (some g)) (k : w1.grownBy w2 (some g)) : w.grownBy w2 (some g) :=
  ⟨k.os.trans h.os, k.tape.trans h.tape, k.output.trans h.output, Nat.le_trans h.size k.size, fun i hi hn => (k.block i (Nat.lt_of_lt_of_le hi h.size) hn).trans (h.block i hi hn)⟩
theorem only_set (w : World) (g j : Nat) (v : Value) : w.grownBy (w.setCell ⟨g, j, none⟩ v) (some g) :=
  ⟨rfl, rfl, rfl, by simp [World.setCell], fun i _ hn => Below.heap_setCell w _ v i (fun e => hn (by rw [e]))⟩
theorem only_below {w0 w w' : World} {g B : Nat} (h : Below B w0 w) (k : w.grownBy w' (some g)) (hB : B ≤ w.heap.size) (hg : B ≤ g) : Below B w0 w' := h.grown k hB (fun q hq => by cases hq; exact hg)
theorem below_drewN {B : Nat} {a w : World} (h : Below B a w) (n : Nat) : Below B a (w.drewN n) := ⟨h.os, h.tape, h.output, h.size, h.block⟩
theorem drewN_two (w : World) (a b : Nat) : (w.drewN a).drewN b = w.drewN (a + b) := by unfold World.drewN; simp [Nat.add_assoc]
/-- A callee that leaves all as it is, in a region that only reads. -/
theorem quiet_l {P : Program} {f : FuncId} {args : Array Value} {w : World} {n : Nat} {v : Value}
    (h : Calls P f args (w.drewN n) fun e w' => e = .returned v ∧ w.drewN n = w') : Calls P f args (w.drewN n) fun e w' => e = .returned v ∧ ∃ m, w' = w.drewN m :=
  h.mono fun _ _ ⟨he, hm⟩ => ⟨he, n, hm.symm⟩
def u32s (l : List Nat) : List Value := l.map fun (x : Nat) => Value.int .u32 x
def u8s (l : List Nat) : List Value := l.map fun (x : Nat) => Value.int .u8 x
theorem u32s_at {l : List Nat} {k x : Nat} (h : l[k]? = some x) : (u32s l)[k]? = some (.int .u32 x) := by simp [u32s, h]
theorem u8s_at {l : List Nat} {k x : Nat} (h : l[k]? = some x) : (u8s l)[k]? = some (.int .u8 x) := by simp [u8s, h]
end Go.Proofs.Ytjgackejkkglcaa
namespace Go.Proofs.Ytjgackejkkglcaa
open Go.RowKit
theorem Bk.row {w : World} {g t : Nat} {l : List Value} (h : Bk w g t l) (l' : List Value) : Bk (w.setRow g l'.toArray) g t l' := setRow_heap w g l.toArray l'.toArray t (0, 0) h
theorem only_row (w : World) (g : Nat) (cs : Array Value) : w.grownBy (w.setRow g cs) (some g) :=
  ⟨rfl, rfl, rfl, by simp [World.setRow], fun i _ hn => by
    simp only [World.setRow, Array.getElem?_modify]
    rw [if_neg (fun e => hn (by rw [e]))]⟩
section
variable {w : World} {g t ty n e : Nat} {l l' : List Value} {ops : Array Oper} {rest : List Oper} {o : Oper} {a : Act} {Q : Exit → Act → World → Prop}
/-- An array that is a whole block, loaded. -/
theorem ld_row (h : Bk w g t l) (hgd : o.guard = none) (x : Operand) (ho : o.op = .load ty x) (hx : a.eval x = .pointer (some ⟨g, 0, none⟩)) (hu : Try.prog.underlying ty = some (.array n e)) (hi : (Try.prog.info? ty).map (·.size) = some n) (hl : l.length = n)
    (hK : wpList Try.prog ops Q rest (a.put o.dst (.agg l.toArray)) w) : wpList Try.prog ops Q (o :: rest) a w :=
  wpList_load_row hgd ty x ho g hx t l.toArray (0, 0) _ h hu rfl (by rw [hi, List.size_toArray, hl]) hK
/-- An array that is a whole block, stored. -/
theorem st_row (h : Bk w g t l) (hgd : o.guard = none) (x y : Operand) (ho : o.op = .store ty x y) (hx : a.eval x = .pointer (some ⟨g, 0, none⟩)) (hy : a.eval y = .agg l'.toArray) (hi : (Try.prog.info? ty).map (·.size) = some n) (hl : l.length = n) (hl' : l'.length = n) (h1 : l'.toArray.all (·.oneCell') = true)
    (hK : wpList Try.prog ops Q rest (a.put o.dst undef) (w.setRow g l'.toArray)) : wpList Try.prog ops Q (o :: rest) a w :=
  wpList_store_row hgd ty x y ho g l'.toArray hx hy t l.toArray h (by rw [hi, List.size_toArray, hl']) (by rw [List.size_toArray, List.size_toArray, hl, hl']) h1 hK
theorem var_row (h : Bk w g t l) (hu : Try.prog.underlying ty = some (.array n e)) (hi : (Try.prog.info? ty).map (·.size) = some n) (hl : l.length = n) : (loadVar ty ⟨g, 0, none⟩).run Try.prog w = .ok (.agg l.toArray) w :=
  run_loadVar_row w g t ty l.toArray (0, 0) _ h hu rfl (by rw [hi, List.size_toArray, hl])
end
section
variable {w : World} {g t ty n e : Nat} {l : List Value}
/-- What a call answers that lies in a block of its own. -/
theorem res_row {fn : Func} {p : Tmp} (hf : fn.results = #[.cell p ty]) (tmps : Array Value) (hp : tmps.getD p undef = .pointer (some ⟨g, 0, none⟩)) (h : Bk w g t l) (hu : Try.prog.underlying ty = some (.array n e)) (hi : (Try.prog.info? ty).map (·.size) = some n) (hl : l.length = n) :
    (results fn tmps).run Try.prog w = .ok (.agg l.toArray) w :=
  results_cell_row hf tmps w g t l.toArray (0, 0) _ hp h hu rfl (by rw [hi, List.size_toArray, hl])
end
end Go.Proofs.Ytjgackejkkglcaa
namespace Go.Proofs.Ytjgackejkkglcaa
open Go.RowKit
def Yes (w : World) (e : Ending) (w' : World) : Prop := e = .returned (.bool true) ∧ Below w.heap.size w w'
def Ins.cells (i : Ins) : List Value := [.int .u16 i.c, .int .u8 i.t, .int .u8 i.f, .int .u32 i.k]
theorem cells_at : ∀ (l : List Ins) (k j : Nat), j < 4 → (l.flatMap Ins.cells)[k * 4 + j]? = (l[k]?).bind (fun x => x.cells[j]?)
  | [], k, j, _ => by simp
  | x :: l, k, j, hj => by
    rw [List.flatMap_cons]
    cases k with
    | zero => rw [List.getElem?_append_left (by simp [Ins.cells]; omega)]; simp
    | succ k =>
      rw [List.getElem?_append_right (by simp [Ins.cells]; omega), show (x.cells).length = 4 from rfl, show (k + 1) * 4 + j - 4 = k * 4 + j from by omega, cells_at l k j hj]
      simp
/-- The four cells of the k-th. -/
theorem four_cells {w : World} {l : List Ins} {b o k : Nat} {x : Ins} (h : ∀ j u, (l.flatMap Ins.cells)[j]? = some u → w.cell? ⟨b, o + j, none⟩ = some u) (hx : l[k]? = some x) :
    w.cell? ⟨b, o + k * 4, none⟩ = some (.int .u16 x.c) ∧ w.cell? ⟨b, o + k * 4 + 1, none⟩ = some (.int .u8 x.t) ∧ w.cell? ⟨b, o + k * 4 + 2, none⟩ = some (.int .u8 x.f) ∧ w.cell? ⟨b, o + k * 4 + 3, none⟩ = some (.int .u32 x.k) := by
  have hh : ∀ j, j < 4 → ∀ u, x.cells[j]? = some u → w.cell? ⟨b, o + k * 4 + j, none⟩ = some u := fun j hj u hu => by
    rw [Nat.add_assoc]; exact h _ _ (by rw [cells_at l k j hj, hx]; exact hu)
  exact ⟨hh 0 (by omega) _ rfl, hh 1 (by omega) _ rfl, hh 2 (by omega) _ rfl, hh 3 (by omega) _ rfl⟩
theorem take_snoc' {α : Type} (l : List α) (k : Nat) (x : α) (h : l[k]? = some x) : l.take (k + 1) = l.take k ++ [x] := by
  have hl := (List.getElem?_eq_some_iff.1 h)
  rw [List.take_succ_eq_append_getElem hl.1, hl.2]
theorem infoIns : (Try.prog.info? 53).map (fun i => (i.zero, i.size, i.bytes)) = some (some (.agg #[.int .u16 0, .int .u8 0, .int .u8 0, .int .u32 0]), 4, 8) := by kernel_rfl
theorem four_new (w : World) (T : TypeId) (c t f k : Nat) (j : Nat) (u : Value) (h : (Ins.cells ⟨c, t, f, k⟩)[j]? = some u) :
    (w.alloc (.cells #[.int .u16 c, .int .u8 t, .int .u8 f, .int .u32 k] T)).cell? ((⟨w.heap.size, 0, none⟩ : Addr).add j) = some u := by
  have hj : j < 4 := by
    have := (List.getElem?_eq_some_iff.1 h).1
    simpa [Ins.cells] using this
  rcases (by omega : j = 0 ∨ j = 1 ∨ j = 2 ∨ j = 3) with rfl | rfl | rfl | rfl <;>
    (simp [Ins.cells] at h; subst h; simp [Addr.add])
theorem cells_one (x : Ins) : ∀ u ∈ x.cells, u.oneCell' = true := by
  intro u hu
  simp only [Ins.cells, List.mem_cons, List.not_mem_nil, or_false] at hu
  rcases hu with rfl | rfl | rfl | rfl <;> rfl
theorem two_below (w : World) (o o' : Obj) : Below w.heap.size w ((w.alloc o).alloc o') := ((Below.refl _ _).alloc (Nat.le_refl _) _).alloc (by simp) _
theorem load_of (k : Int) (w : World) : Calls Try.prog 17 #[.int .u32 k] w fun e w' => e = .returned (.agg #[.int .u16 32, .int .u8 0, .int .u8 0, .int .u32 k]) ∧ Below w.heap.size w w' := by
  go_enter Try.func17, Try.ntmps17
  go_wp2
  exact bodyPost_ret (v := .agg #[.int .u16 32, .int .u8 0, .int .u8 0, .int .u32 k]) (by simp [results, Try.results17, go_sem]) rfl ⟨rfl, (Below.refl _ _).alloc (Nat.le_refl _) _⟩
theorem return_of (k : Int) (w : World) : Calls Try.prog 16 #[.int .u32 k] w fun e w' => e = .returned (.agg #[.int .u16 6, .int .u8 0, .int .u8 0, .int .u32 k]) ∧ Below w.heap.size w w' := by
  go_enter Try.func16, Try.ntmps16
  go_wp2
  exact bodyPost_ret (v := .agg #[.int .u16 6, .int .u8 0, .int .u8 0, .int .u32 k]) (by simp [results, Try.results16, go_sem]) rfl ⟨rfl, (Below.refl _ _).alloc (Nat.le_refl _) _⟩
theorem skip_of (k : Int) (w : World) : Calls Try.prog 19 #[.int .u32 k] w fun e w' => e = .returned (.agg #[.int .u16 5, .int .u8 0, .int .u8 0, .int .u32 k]) ∧ Below w.heap.size w w' := by
  go_enter Try.func19, Try.ntmps19
  go_wp2
  exact bodyPost_ret (v := .agg #[.int .u16 5, .int .u8 0, .int .u8 0, .int .u32 k]) (by simp [results, Try.results19, go_sem]) rfl ⟨rfl, (Below.refl _ _).alloc (Nat.le_refl _) _⟩
theorem if_of (h k t f r : Int) (w : World) (hr : bits .or .u16 (bits .or .u16 5 h) 0 = r) : Calls Try.prog 15 #[.int .u16 h, .int .u32 k, .int .u8 t, .int .u8 f] w fun e w' => e = .returned (.agg #[.int .u16 r, .int .u8 t, .int .u8 f, .int .u32 k]) ∧ Below w.heap.size w w' := by
  go_enter Try.func15, Try.ntmps15
  go_wp2
  exact bodyPost_ret (v := .agg #[.int .u16 r, .int .u8 t, .int .u8 f, .int .u32 k]) (by simp [results, Try.results15, go_sem]) rfl ⟨rfl, (Below.refl _ _).alloc (Nat.le_refl _) _⟩
end Go.Proofs.Ytjgackejkkglcaa
namespace Go.Proofs.Ytjgackejkkglcaa
open Go.RowKit
/-- A slice of n elements of z cells each, which are xs, in a block from B on. -/
structure Seg (w : World) (B z n : Nat) (A : Option Addr) (xs : List Value) : Prop where
  len : xs.length = n * z
  at_ : n = 0 ∨ ∃ b o, A = some ⟨b, o, none⟩ ∧ B ≤ b ∧ b < w.heap.size ∧ ∀ j u, xs[j]? = some u → w.cell? ⟨b, o + j, none⟩ = some u
section
variable {w w' : World} {B z n : Nat} {A : Option Addr} {xs : List Value}
theorem Seg.rd (h : Seg w B z n A xs) : Rd w z n A xs := ⟨h.len, h.at_.imp id fun ⟨b, o, e, _, h1, h2⟩ => ⟨b, o, e, h1, h2⟩⟩
theorem Rd.seg (h : Rd w z n A xs) : Seg w 0 z n A xs := ⟨h.len, h.at_.imp id fun ⟨b, o, e, h1, h2⟩ => ⟨b, o, e, Nat.zero_le _, h1, h2⟩⟩
theorem Seg.below (h : Seg w B z n A xs) (hb : Below w.heap.size w w') : Seg w' B z n A xs :=
  ⟨h.len, h.at_.imp id fun ⟨b, o, e, h0, hl, hc⟩ => ⟨b, o, e, h0, Nat.lt_of_lt_of_le hl hb.size, fun j u hu => (hb.cell (p := ⟨b, o + j, none⟩) hl).trans (hc j u hu)⟩⟩
theorem Seg.pos (h : Seg w B z n A xs) (hn : 0 < n) : ∃ b o, A = some ⟨b, o, none⟩ ∧ B ≤ b ∧ b < w.heap.size ∧ ∀ j u, xs[j]? = some u → w.cell? ⟨b, o + j, none⟩ = some u := by
  rcases h.at_ with e | e
  · omega
  · exact e
theorem Seg.nil (w : World) (B z : Nat) (A : Option Addr) : Seg w B z 0 A [] := ⟨by simp, .inl rfl⟩
end
theorem own_seg {w : World} {base : Nat} {e : TypeId} {z n : Nat} {v : Value} {xs : List Value} (h : w.ownsRow base e z v n xs) :
    ∃ A c, v = .slice A n c ∧ n ≤ c ∧ Seg w base z n A xs := by
  rcases h.2 with ⟨rfl, rfl⟩ | ⟨g, cap, cur, rfl, hb, hh, hn, hm, hs, rfl⟩
  · exact ⟨none, 0, rfl, Nat.le_refl _, h.1, .inl rfl⟩
  · refine ⟨_, cap, rfl, hn, h.1, .inr ⟨g, 0, rfl, hb, (Array.getElem?_eq_some_iff.1 hh).1, fun j u hu => ?_⟩⟩
    have := h.cells (g := g) rfl j u hu
    rw [← this]
    simp [Addr.add]
    by_cases hj : j = 0 <;> simp [hj]
/-- A row that was made full is just its cells. -/
theorem bk_full {w : World} {base : Nat} {e : TypeId} {z n g : Nat} {xs : List Value} (h : w.ownsRow base e z (.slice (some ⟨g, 0, none⟩) n n) n xs) : Bk w g e xs := by
  rcases h.2 with ⟨h1, _⟩ | ⟨g', cap, cur, h1, hb, hh, hn, hm, hs, rfl⟩
  · cases h1
  · simp only [Value.slice.injEq, Option.some.injEq, Addr.mk.injEq, and_true, true_and] at h1
    obtain ⟨rfl, rfl⟩ := h1
    unfold Bk
    rw [hh, List.take_of_length_le (by simp [hs])]
theorem bk_own {w : World} {e : TypeId} {z n g base : Nat} {xs : List Value} (h : Bk w g e xs) (hl : xs.length = n * z) (hn : n ≤ maxLen) (hb : base ≤ g) : w.ownsRow base e z (.slice (some ⟨g, 0, none⟩) n n) n xs :=
  ⟨hl, .inr ⟨g, n, xs.toArray, rfl, hb, h, Nat.le_refl _, hn, by simpa using hl, by simp [List.take_of_length_le (Nat.le_of_eq hl)]⟩⟩
theorem Bk.seg {w : World} {e z n g B : Nat} {xs : List Value} (h : Bk w g e xs) (hl : xs.length = n * z) (hb : B ≤ g) : Seg w B z n (some ⟨g, 0, none⟩) xs :=
  ⟨hl, .inr ⟨g, 0, rfl, hb, h.lt, fun j u hu => by rw [Nat.zero_add]; exact h.cell j hu⟩⟩
theorem Seg.grown {w w' : World} {B z n g : Nat} {A : Option Addr} {xs : List Value} (h : Seg w B z n A xs) (hg : w.grownBy w' (some g)) (hB : g < B) : Seg w' B z n A xs :=
  ⟨h.len, h.at_.imp id fun ⟨b, o, e, h0, hl, hc⟩ => ⟨b, o, e, h0, Nat.lt_of_lt_of_le hl hg.size, fun j u hu => by
    rw [← hc j u hu]
    unfold World.cell?
    rw [hg.block b hl (fun e => by cases e; omega)]⟩⟩
def ints (l : List Nat) : List Value := l.map fun (x : Nat) => Value.int .i64 x
theorem ints_at {l : List Nat} {k x : Nat} (h : l[k]? = some x) : (ints l)[k]? = some (.int .i64 x) := by simp [ints, h]
theorem ints_len (l : List Nat) : (ints l).length = l.length := by simp [ints]
end Go.Proofs.Ytjgackejkkglcaa
namespace Go.Proofs.Ytjgackejkkglcaa
open Go.RowKit
/-- A slice that reads so, no block of which is block t. -/
def Off (n : Nat) (A : Option Addr) (t : Nat) : Prop := n = 0 ∨ ∀ a, A = some a → a.block ≠ t
theorem Rd.grownO {w w' : World} {z n t : Nat} {A : Option Addr} {xs : List Value} (h : Rd w z n A xs) (ho : Off n A t) (g : w.grownBy w' (some t)) : Rd w' z n A xs :=
  ⟨h.len, by
    rcases ho with e | ho
    · exact .inl e
    · refine h.at_.imp id fun ⟨b, o, e, hl, hc⟩ => ⟨b, o, e, Nat.lt_of_lt_of_le hl g.size, fun j u hu => ?_⟩
      rw [← hc j u hu]
      unfold World.cell?
      rw [g.block b hl (fun h => ho _ e (Option.some.inj h))]⟩
theorem Rd.off {w : World} {z n t : Nat} {A : Option Addr} {xs : List Value} (h : Rd w z n A xs) (ht : w.heap.size ≤ t) : Off n A t :=
  h.at_.imp id fun ⟨b, o, e, hl, _⟩ a ha he => by cases e.symm.trans ha; simp at he; omega
/-- Cells of the k-th thing, z cells each. -/
theorem flatz {α : Type} (f : α → List Value) (z : Nat) (hf : ∀ x, (f x).length = z) (hz : 0 < z) : ∀ (l : List α) (k j : Nat), j < z → (l.flatMap f)[k * z + j]? = (l[k]?).bind (fun x => (f x)[j]?)
  | [], k, j, _ => by simp
  | x :: l, 0, j, hj => by
    rw [List.flatMap_cons, List.getElem?_append_left (by rw [hf]; omega)]; simp
  | x :: l, k + 1, j, hj => by
    rw [List.flatMap_cons, List.getElem?_append_right (by rw [hf, Nat.succ_mul]; omega), hf, show (k + 1) * z + j - z = k * z + j from by rw [Nat.succ_mul]; omega, flatz f z hf hz l k j hj]
    simp
theorem flatz_len {α : Type} (f : α → List Value) (z : Nat) (hf : ∀ x, (f x).length = z) : ∀ (l : List α), (l.flatMap f).length = l.length * z
  | [] => by simp
  | x :: l => by rw [List.flatMap_cons, List.length_append, flatz_len f z hf l, hf, List.length_cons, Nat.succ_mul, Nat.add_comm]
/-- Cells of one thing in a slice, told one by one. -/
theorem Rd.one {α : Type} {f : α → List Value} {w : World} {z n : Nat} {A : Option Addr} {l : List α} (h : Rd w z n A (l.flatMap f)) (hf : ∀ x, (f x).length = z) (hz : 0 < z) (hn : 0 < n) :
    ∃ b o, A = some ⟨b, o, none⟩ ∧ b < w.heap.size ∧ ∀ k x, l[k]? = some x → ∀ j v, (f x)[j]? = some v → w.cell? ⟨b, o + (k * z + j), none⟩ = some v := by
  obtain ⟨b, o, e, hb, hc⟩ := h.pos hn
  refine ⟨b, o, e, hb, fun k x hx j v hv => hc _ v ?_⟩
  have hj : j < z := by rw [← hf x]; exact (List.getElem?_eq_some_iff.1 hv).1
  rw [flatz f z hf hz l k j hj, hx]
  exact hv
end Go.Proofs.Ytjgackejkkglcaa
namespace Go.Proofs.Ytjgackejkkglcaa
open Go.RowKit Go.WideElems
theorem oneb (w : World) (o : Obj) : Below w.heap.size w (w.alloc o) := (Below.refl _ _).alloc (Nat.le_refl _) _
theorem addr_at (b o j : Nat) : (⟨b, o, none⟩ : Addr).add j = ⟨b, o + j, none⟩ := by unfold Addr.add; split <;> simp_all
/-- A block of things of a type. -/
def TyB (w : World) (b : Nat) (T : TypeId) : Prop := ∃ cur fz, w.heap[b]? = some (.cells cur T fz)
theorem TyB.lt {w : World} {b : Nat} {T : TypeId} (h : TyB w b T) : b < w.heap.size := by obtain ⟨_, _, h⟩ := h; exact (Array.getElem?_eq_some_iff.1 h).1
theorem TyB.ne {w : World} {b c : Nat} {T U : TypeId} (h : TyB w b T) (k : TyB w c U) (hn : T ≠ U) : b ≠ c := by
  rintro rfl
  obtain ⟨_, _, h⟩ := h
  obtain ⟨_, _, k⟩ := k
  rw [h] at k
  cases k
  exact hn rfl
theorem Bk.tyb {w : World} {g t : Nat} {l : List Value} (h : Bk w g t l) : TyB w g t := ⟨_, _, h⟩
theorem TyB.below {w w' : World} {b : Nat} {T : TypeId} (h : TyB w b T) (hb : Below w.heap.size w w') : TyB w' b T := by
  obtain ⟨c, f, h⟩ := h
  exact ⟨c, f, (hb.block b (Array.getElem?_eq_some_iff.1 h).1).trans h⟩
/-- A slice that reads so, in a block of a type. -/
structure TRd (w : World) (T : TypeId) (z n : Nat) (A : Option Addr) (xs : List Value) : Prop where
  rd : Rd w z n A xs
  ty : n = 0 ∨ ∃ a, A = some a ∧ TyB w a.block T
theorem TRd.nil (w : World) (T : TypeId) (z : Nat) : TRd w T z 0 none [] := ⟨Rd.nil _ _ _, .inl rfl⟩
theorem TRd.below {w w' : World} {T : TypeId} {z n : Nat} {A : Option Addr} {xs : List Value} (h : TRd w T z n A xs) (hb : Below w.heap.size w w') : TRd w' T z n A xs :=
  ⟨h.rd.below hb, h.ty.imp id fun ⟨a, e, k⟩ => ⟨a, e, k.below hb⟩⟩
theorem TRd.grown {w w' : World} {T : TypeId} {z n g : Nat} {A : Option Addr} {xs : List Value} (h : TRd w T z n A xs) (hg : w.grownBy w' (some g)) (ho : Off n A g) : TRd w' T z n A xs :=
  ⟨h.rd.grownO ho hg, by
    rcases h.ty with e | ⟨a, e, c, f, k⟩
    · exact .inl e
    · rcases ho with e2 | ho
      · exact .inl e2
      · exact .inr ⟨a, e, c, f, (hg.block _ (Array.getElem?_eq_some_iff.1 k).1 (fun e2 => ho a e (Option.some.inj e2))).trans k⟩⟩
theorem TRd.grownN {w w' : World} {T : TypeId} {z n : Nat} {A : Option Addr} {xs : List Value} (h : TRd w T z n A xs) (hg : w.grownBy w' none) : TRd w' T z n A xs :=
  h.below ⟨hg.os, hg.tape, hg.output, hg.size, fun i hi => hg.block i hi (by simp)⟩
theorem TRd.off {w : World} {T U : TypeId} {z n g : Nat} {A : Option Addr} {xs : List Value} (h : TRd w T z n A xs) (k : TyB w g U) (hn : T ≠ U) : Off n A g :=
  h.ty.imp id fun ⟨a, e, c⟩ b hb => by cases e.symm.trans hb; exact c.ne k hn
theorem TRd.offlt {w : World} {T : TypeId} {z n g : Nat} {A : Option Addr} {xs : List Value} (h : TRd w T z n A xs) (hg : w.heap.size ≤ g) : Off n A g := h.rd.off hg
/-- What a call owns: where it lies, of which type. -/
theorem own_typed {w : World} {base : Nat} {e : TypeId} {z n : Nat} {v : Value} {xs : List Value} (h : w.ownsRow base e z v n xs) :
    ∃ A c, v = .slice A n c ∧ n ≤ c ∧ TRd w e z n A xs ∧ (∀ g, v.ownBlock = some g → TyB w g e) ∧ (A = none → c = 0) := by
  rcases h.2 with ⟨rfl, rfl⟩ | ⟨g, cap, cur, rfl, hb, hh, hn, hm, hs, rfl⟩
  · exact ⟨none, 0, rfl, Nat.le_refl _, ⟨⟨h.1, .inl rfl⟩, .inl rfl⟩, fun g hg => (by cases hg), fun _ => rfl⟩
  · refine ⟨_, cap, rfl, hn, ⟨⟨h.1, .inr ⟨g, 0, rfl, (Array.getElem?_eq_some_iff.1 hh).1, fun j u hu => ?_⟩⟩, .inr ⟨_, rfl, _, _, hh⟩⟩, fun g' hg' => ?_, fun e => by cases e⟩
    · have := h.cells (g := g) rfl j u hu
      rw [← this, addr_at]
    · cases hg'
      exact ⟨_, _, hh⟩
theorem own_keep {w w' : World} {base : Nat} {e : TypeId} {z n g : Nat} {v : Value} {xs : List Value} (h : w.ownsRow base e z v n xs) (hg : w.grownBy w' (some g)) (hne : ∀ b, v.ownBlock = some b → b ≠ g) : w'.ownsRow base e z v n xs := by
  refine ⟨h.1, h.2.imp id ?_⟩
  rintro ⟨b, cap, cur, e, h1, h2, h3⟩
  refine ⟨b, cap, cur, e, h1, ?_, h3⟩
  rw [hg.block b (Array.getElem?_eq_some_iff.1 h2).1 (fun q => hne b (by subst e; rfl) (Option.some.inj q))]
  exact h2
theorem own_keepN {w w' : World} {base : Nat} {e : TypeId} {z n : Nat} {v : Value} {xs : List Value} (h : w.ownsRow base e z v n xs) (hg : Below w.heap.size w w') : w'.ownsRow base e z v n xs := own_below h hg
/-- One thing behind a row that the call owns. -/
theorem append_one {w : World} {ops : Array Oper} {rest : List Oper} {o : Oper} {a : Act} {Q : Exit → Act → World → Prop} (hgd : o.guard = none) (s x : Operand) (t e : TypeId)
    (ho : o.op = .call { callee := .builtin .append, args := #[s, x], argTypes := #[t, t] }) (zero : Value) (size bytes : Nat)
    (hinfo : (Try.prog.info? e).map (fun i => (i.zero, i.size, i.bytes)) = some (some zero, size, bytes)) (ht : Try.prog.underlying t = some (.slice e)) (hzs : zero.cells.size = size) (hsz : 0 < size) (hby : bytes ≤ 64)
    (base : Nat) (v : Value) (n : Nat) (xs : List Value) (hs : a.eval s = v) (hown : w.ownsRow base e size v n xs) (g : Nat) (news : List Value) (hx : a.eval x = .slice (some ⟨g, 0, none⟩) 1 1) (hl : news.length = size) (hB : Bk w g e news) (h1 : ∀ u ∈ news, u.oneCell' = true) (hn : n ≤ 100000) (hbase : base ≤ w.heap.size)
    (h : ∀ v' w', w'.ownsRow base e size v' (n + 1) (xs ++ news) → w.grownBy w' v.ownBlock → (v'.ownBlock = v.ownBlock ∨ v'.ownBlock = some w.heap.size) → wpList Try.prog ops Q rest (a.put o.dst v') w') : wpList Try.prog ops Q (o :: rest) a w := by
  obtain ⟨i0, hi, hz0, hz1, hz2⟩ := info_parts hinfo
  refine wpList_append_own_at w hgd s x t ho base e i0 zero size bytes ht hi hz0 hz1 hz2 hzs hsz v n xs hs hown ⟨g, 0, none⟩ 1 1 news hx (by omega) (fun j u hu => by rw [addr_at, Nat.zero_add]; exact hB.cell j hu) h1 (by unfold maxLen; omega) ?_ hbase (fun v' w' h1 h2 _ h3 => h v' w' h1 h2 h3)
  have : (n + 1) * bytes ≤ 100001 * 64 := Nat.mul_le_mul (by omega) hby
  omega
/-- What a row's append leaves of another row, by the types of their blocks. -/
theorem TRd.appended {w w' : World} {T U : TypeId} {z n : Nat} {A : Option Addr} {xs : List Value} {v : Value} (h : TRd w T z n A xs) (hg : w.grownBy w' v.ownBlock) (hv : ∀ g, v.ownBlock = some g → TyB w g U) (hn : T ≠ U) : TRd w' T z n A xs := by
  cases hb : v.ownBlock with
  | none => rw [hb] at hg; exact h.grownN hg
  | some g => rw [hb] at hg; exact h.grown hg (h.off (hv g hb) hn)
theorem own_appended {w w' : World} {base : Nat} {e U : TypeId} {z n : Nat} {v u : Value} {xs : List Value} (h : w.ownsRow base e z u n xs) (hg : w.grownBy w' v.ownBlock) (hv : ∀ g, v.ownBlock = some g → TyB w g U) (hn : e ≠ U) : w'.ownsRow base e z u n xs := by
  cases hb : v.ownBlock with
  | none => rw [hb] at hg; exact own_below h ⟨hg.os, hg.tape, hg.output, hg.size, fun i hi => hg.block i hi (by simp)⟩
  | some g =>
    rw [hb] at hg
    obtain ⟨_, _, _, _, _, hty, _⟩ := own_typed h
    exact own_keep h hg (fun b hb2 => (hty b hb2).ne (hv g hb) hn)
theorem Bk.appended {w w' : World} {g t : Nat} {l : List Value} {U : TypeId} {v : Value} (h : Bk w g t l) (hg : w.grownBy w' v.ownBlock) (hv : ∀ b, v.ownBlock = some b → TyB w b U) (hn : t ≠ U) : Bk w' g t l := by
  refine h.grown hg ?_
  cases hb : v.ownBlock with
  | none => simp
  | some b => intro e; exact (h.tyb.ne (hv b hb) hn) (Option.some.inj e)
theorem Bk.appendedB {w w' : World} {g t B : Nat} {l : List Value} {v : Value} (h : Bk w g t l) (hg : w.grownBy w' v.ownBlock) (hv : ∀ b, v.ownBlock = some b → B ≤ b) (hn : g < B) : Bk w' g t l := by
  refine h.grown hg ?_
  intro e
  have := hv g e.symm
  omega
end Go.Proofs.Ytjgackejkkglcaa

