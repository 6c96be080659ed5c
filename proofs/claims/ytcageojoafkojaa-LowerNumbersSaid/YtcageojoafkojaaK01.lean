/- Instructions as plain numbers: which codes there are, their bytes, and back. -/
import Derived.Laws.BitsAllLaws
import Derived.Lib.BitFns
import Derived.Test.YtcageojoafkojaaProg
import Derived.WalkKit
import Derived.WalkSpells
import Derived.Lib.Hide
import Derived.Laws.ShiftsVarLaws
import Derived.IntWalk
import Derived.Deep.QuietTactic
import Derived.BigQuiet
import Derived.Below
import Derived.Laws.OwnMore
import Derived.Deep.AppendLies
import Derived.Deep.Onto
import Derived.OwnWalk
import Derived.Laws.Rows
import Derived.Laws.Tables
import Derived.LoopTactic
import Derived.Lib.ItoaNum
import Derived.Lib.Join
import Derived.Lib.Split
import Derived.Lib.IndexMore
import Derived.Lib.Strings
import Derived.Lib.SplitLaws
import Derived.Lib.IndexBytes
import Derived.Maps.OwnSet
import Derived.StillTailTactics
import Derived.Laws.RangeString
import Derived.Laws.RangeAny
namespace Go.Proofs.Ytcageojoafkojaa

/-- The codes that there are. -/
def codesL : List Nat := [32, 0, 96, 128, 1, 97, 129, 2, 3, 6, 22, 7, 135, 5, 132, 4, 12, 20, 28, 36, 44, 52, 60, 68, 76, 84, 92, 100, 108, 116, 124, 164, 172, 21, 29, 37, 45, 53, 61, 69, 77]
def knownB (n : Nat) : Bool := codesL.contains n
theorem known_false (n : Nat) (h : ¬ (n = 32 ∨ n = 0 ∨ n = 96 ∨ n = 128 ∨ n = 1 ∨ n = 97 ∨ n = 129 ∨ n = 2 ∨ n = 3 ∨ n = 6 ∨ n = 22 ∨ n = 7 ∨ n = 135 ∨ n = 5 ∨ n = 132 ∨ n = 4 ∨ n = 12 ∨ n = 20 ∨ n = 28 ∨ n = 36 ∨ n = 44 ∨ n = 52 ∨ n = 60 ∨ n = 68 ∨ n = 76 ∨ n = 84 ∨ n = 92 ∨ n = 100 ∨ n = 108 ∨ n = 116 ∨ n = 124 ∨ n = 164 ∨ n = 172 ∨ n = 21 ∨ n = 29 ∨ n = 37 ∨ n = 45 ∨ n = 53 ∨ n = 61 ∨ n = 69 ∨ n = 77)) : knownB n = false := by
  rw [← Bool.not_eq_true]
  simp only [knownB, codesL, List.contains_iff_mem, List.mem_cons, List.not_mem_nil, or_false]
  exact h
/-- An instruction. -/
structure Ins where
  c : Nat
  t : Nat
  f : Nat
  k : Nat
def Ins.ok (i : Ins) : Prop := i.c < 65536 ∧ i.t < 256 ∧ i.f < 256 ∧ i.k < 4294967296
def Ins.bs (i : Ins) : List Nat := [i.c % 256, i.c / 256, i.t, i.f, i.k % 256, i.k / 256 % 256, i.k / 65536 % 256, i.k / 16777216]
end Go.Proofs.Ytcageojoafkojaa
namespace Go.Proofs.Ytcageojoafkojaa
open Go.RowKit
theorem ret_bool {a b : Bool} (h : a = b) : Ending.returned (.bool a) = .returned (.bool b) := by rw [h]
theorem ret_int {k : IntKind} {a b : Int} (h : a = b) : Ending.returned (.int k a) = .returned (.int k b) := by rw [h]

theorem clear8 (n : Nat) (h : n < 65536) : n &&& 65527 = n - 8 * (n / 8 % 2) := by
  have h1 := Nat.and_div_two_pow (a := n) (b := 65527) (n := 4)
  have h2 := Nat.and_mod_two_pow (a := n) (b := 65527) (n := 4)
  simp only [Nat.reducePow, Nat.reduceDiv, Nat.reduceMod] at h1 h2
  have e1 := Nat.and_two_pow_sub_one_eq_mod (n / 16) 12
  have e2 := Nat.and_two_pow_sub_one_eq_mod (n % 16) 3
  simp only [Nat.reducePow, Nat.reduceSub] at e1 e2
  rw [e1] at h1
  rw [e2] at h2
  omega
theorem andNot8 (n : Nat) (h : n < 65536) : bits .andNot .u16 (n : Int) 8 = ((n - 8 * (n / 8 % 2) : Nat) : Int) := by
  have e := u16_andNot_nat n 8 h (by omega)
  rw [← clear8 n h]
  exact e
theorem hit_n {n c : Nat} (h : knownB c = true) (h2 : ((n : Int) == (c : Int)) = true) : true = knownB n := by
  have e : n = c := by
    simp at h2
    omega
  rw [e, h]
theorem hit_q {n q c : Nat} (hq : q = n - 8 * (n / 8 % 2)) (h : knownB c = true) (h1 : knownB (c + 8) = true) (h2 : ((q : Int) == (c : Int)) = true) : true = knownB n := by
  have e : q = c := by
    simp at h2
    omega
  rcases (by omega : n = c ∨ n = c + 8) with rfl | rfl
  · rw [h]
  · rw [h1]
set_option maxRecDepth 100000 in
set_option maxHeartbeats 1000000 in
theorem known_any (n : Nat) (w : World) (h : n < 65536) : Calls Try.prog 102 #[.int .u16 n] w fun e w' => e = .returned (.bool (knownB n)) ∧ w = w' := by
  obtain ⟨q, hq⟩ : ∃ q, q = n - 8 * (n / 8 % 2) := ⟨_, rfl⟩
  have hb := andNot8 n h
  rw [← hq] at hb
  have H := Lib.hid hq
  clear hq
  go_enter Try.func102, Try.ntmps102
  go_wp2
  all_goals
    go_ret
    refine ⟨ret_bool ?_, rfl⟩
    first
      | exact hit_n (by rfl) ‹((n : Int) == 32) = true›
      | exact hit_n (by rfl) ‹((n : Int) == 0) = true›
      | exact hit_n (by rfl) ‹((n : Int) == 96) = true›
      | exact hit_n (by rfl) ‹((n : Int) == 128) = true›
      | exact hit_n (by rfl) ‹((n : Int) == 1) = true›
      | exact hit_n (by rfl) ‹((n : Int) == 97) = true›
      | exact hit_n (by rfl) ‹((n : Int) == 129) = true›
      | exact hit_n (by rfl) ‹((n : Int) == 2) = true›
      | exact hit_n (by rfl) ‹((n : Int) == 3) = true›
      | exact hit_n (by rfl) ‹((n : Int) == 6) = true›
      | exact hit_n (by rfl) ‹((n : Int) == 22) = true›
      | exact hit_n (by rfl) ‹((n : Int) == 7) = true›
      | exact hit_n (by rfl) ‹((n : Int) == 135) = true›
      | exact hit_n (by rfl) ‹((n : Int) == 5) = true›
      | exact hit_n (by rfl) ‹((n : Int) == 132) = true›
      | exact hit_q H.out (by rfl) (by rfl) ‹((q : Int) == 4) = true›
      | exact hit_q H.out (by rfl) (by rfl) ‹((q : Int) == 20) = true›
      | exact hit_q H.out (by rfl) (by rfl) ‹((q : Int) == 36) = true›
      | exact hit_q H.out (by rfl) (by rfl) ‹((q : Int) == 52) = true›
      | exact hit_q H.out (by rfl) (by rfl) ‹((q : Int) == 68) = true›
      | exact hit_q H.out (by rfl) (by rfl) ‹((q : Int) == 84) = true›
      | exact hit_q H.out (by rfl) (by rfl) ‹((q : Int) == 100) = true›
      | exact hit_q H.out (by rfl) (by rfl) ‹((q : Int) == 116) = true›
      | exact hit_q H.out (by rfl) (by rfl) ‹((q : Int) == 164) = true›
      | exact hit_q H.out (by rfl) (by rfl) ‹((q : Int) == 21) = true›
      | exact hit_q H.out (by rfl) (by rfl) ‹((q : Int) == 37) = true›
      | exact hit_q H.out (by rfl) (by rfl) ‹((q : Int) == 53) = true›
      | exact hit_q H.out (by rfl) (by rfl) ‹((q : Int) == 69) = true›
      | (have hq := H.out
         simp only [beq_eq_false_iff_ne, ne_eq] at *
         symm
         refine known_false n ?_
         omega)
theorem class_any (n : Nat) (w : World) (h : n < 65536) : Calls Try.prog 58 #[.int .u16 n] w fun e w' => e = .returned (.int .u16 ((n % 8 : Nat) : Int)) ∧ w = w' := by
  go_enter Try.func58, Try.ntmps58
  go_wp2
  go_ret
  exact ⟨ret_int (by rw [show ((7 : Int)) = ((7 : Nat) : Int) from rfl, u16_and_nat n 7 h (by omega), Nat.and_two_pow_sub_one_eq_mod n 3]), rfl⟩
end Go.Proofs.Ytcageojoafkojaa
namespace Go.Proofs.Ytcageojoafkojaa
open Go.RowKit
/-- A slice of n elements of z cells each, which are xs. -/
structure Rd (w : World) (z n : Nat) (A : Option Addr) (xs : List Value) : Prop where
  len : xs.length = n * z
  at_ : n = 0 ∨ ∃ b o, A = some ⟨b, o, none⟩ ∧ b < w.heap.size ∧ ∀ j u, xs[j]? = some u → w.cell? ⟨b, o + j, none⟩ = some u
section
variable {w w' : World} {z n : Nat} {A : Option Addr} {xs : List Value}
theorem Rd.below (h : Rd w z n A xs) (hb : Below w.heap.size w w') : Rd w' z n A xs :=
  ⟨h.len, h.at_.imp id fun ⟨b, o, e, hl, hc⟩ => ⟨b, o, e, Nat.lt_of_lt_of_le hl hb.size, fun j u hu => (hb.cell (p := ⟨b, o + j, none⟩) hl).trans (hc j u hu)⟩⟩
theorem Rd.kept {B : Nat} (h : Rd w z n A xs) (hB : B = w.heap.size) (hb : Below B w w') : Rd w' z n A xs := h.below (hB ▸ hb)
theorem Rd.pos (h : Rd w z n A xs) (hn : 0 < n) : ∃ b o, A = some ⟨b, o, none⟩ ∧ b < w.heap.size ∧ ∀ j u, xs[j]? = some u → w.cell? ⟨b, o + j, none⟩ = some u := by
  rcases h.at_ with e | e
  · omega
  · exact e
theorem Rd.nil (w : World) (z : Nat) (A : Option Addr) : Rd w z 0 A [] := ⟨by simp, .inl rfl⟩
end
theorem own_below {w w' : World} {base : Nat} {e : TypeId} {z n : Nat} {v : Value} {xs : List Value} (h : w.ownsRow base e z v n xs) (hb : Below w.heap.size w w') : w'.ownsRow base e z v n xs := by
  refine ⟨h.1, h.2.imp id fun ⟨g, cap, cur, e, h1, h2, h3⟩ => ⟨g, cap, cur, e, h1, ?_, h3⟩⟩
  rw [hb.block g (Array.getElem?_eq_some_iff.1 h2).1]; exact h2
end Go.Proofs.Ytcageojoafkojaa
namespace Go.Proofs.Ytcageojoafkojaa
open Go.RowKit
/-- Block g is just these cells. -/
def Bk (w : World) (g t : Nat) (l : List Value) : Prop := w.heap[g]? = some (.cells l.toArray t (0, 0))
section
variable {w w' : World} {g t : Nat} {l : List Value}
theorem Bk.lt (h : Bk w g t l) : g < w.heap.size := (Array.getElem?_eq_some_iff.1 h).1
theorem Bk.cell (h : Bk w g t l) (j : Nat) {v : Value} (hv : l[j]? = some v) : w.cell? ⟨g, j, none⟩ = some v := by
  simp only [Bk] at h; simp [World.cell?, h, hv]
theorem Bk.fz (h : Bk w g t l) (j : Nat) : w.frozen? ⟨g, j, none⟩ = false := by simp only [Bk] at h; simp [World.frozen?, h]
theorem Bk.set (h : Bk w g t l) (j : Nat) (v : Value) : Bk (w.setCell ⟨g, j, none⟩ v) g t (l.set j v) := by
  simp only [Bk] at h ⊢; simp [World.setCell, Array.getElem?_modify, h]
theorem Bk.drew (h : Bk w g t l) : Bk w.drew g t l := h
theorem Bk.drewN (h : Bk w g t l) (n : Nat) : Bk (w.drewN n) g t l := h
theorem Bk.below {B : Nat} (h : Bk w g t l) (hb : Below B w w') (hg : g < B) : Bk w' g t l := (hb.block g hg).trans h
theorem Bk.kept (h : Bk w g t l) (hb : Below w.heap.size w w') : Bk w' g t l := h.below hb h.lt
theorem Bk.grown {r : Option Nat} (h : Bk w g t l) (hb : w.grownBy w' r) (hr : some g ≠ r) : Bk w' g t l := (hb.block g h.lt hr).trans h
theorem Bk.alloc (h : Bk w g t l) (o : Obj) : Bk (w.alloc o) g t l := (Below.heap_alloc w o g h.lt).trans h
theorem Bk.new (w : World) (t : Nat) (a : Array Value) (h : a = l.toArray) : Bk (w.alloc (.cells a t)) w.heap.size t l := by subst h; exact heap_alloc_new w _
end
theorem only_refl (w : World) (r : Option Nat) : w.grownBy w r := ⟨rfl, rfl, rfl, Nat.le_refl _, fun _ _ _ => rfl⟩
theorem only_trans {w w1 w2 : World} {g : Nat} (h : w.grownBy w1 (some g)) (k : w1.grownBy w2 (some g)) : w.grownBy w2 (some g) :=
  ⟨k.os.trans h.os, k.tape.trans h.tape, k.output.trans h.output, Nat.le_trans h.size k.size, fun i hi hn => (k.block i (Nat.lt_of_lt_of_le hi h.size) hn).trans (h.block i hi hn)⟩
theorem only_set (w : World) (g j : Nat) (v : Value) : w.grownBy (w.setCell ⟨g, j, none⟩ v) (some g) :=
  ⟨rfl, rfl, rfl, by simp [World.setCell], fun i _ hn => Below.heap_setCell w _ v i (fun e => hn (by rw [e]))⟩
theorem only_below {w0 w w' : World} {g B : Nat} (h : Below B w0 w) (k : w.grownBy w' (some g)) (hB : B ≤ w.heap.size) (hg : B ≤ g) : Below B w0 w' := h.grown k hB (fun q hq => by cases hq; exact hg)
theorem below_drewN {B : Nat} {a w : World} (h : Below B a w) (n : Nat) : Below B a (w.drewN n) := ⟨h.os, h.tape, h.output, h.size, h.block⟩
def u32s (l : List Nat) : List Value := l.map fun (x : Nat) => Value.int .u32 x
def u8s (l : List Nat) : List Value := l.map fun (x : Nat) => Value.int .u8 x
end Go.Proofs.Ytcageojoafkojaa
namespace Go.Proofs.Ytcageojoafkojaa
open Go.RowKit
theorem Bk.row {w : World} {g t : Nat} {l : List Value} (h : Bk w g t l) (l' : List Value) : Bk (w.setRow g l'.toArray) g t l' := setRow_heap w g l.toArray l'.toArray t (0, 0) h
theorem only_row (w : World) (g : Nat) (cs : Array Value) : w.grownBy (w.setRow g cs) (some g) :=
  ⟨rfl, rfl, rfl, by simp [World.setRow], fun i _ hn => by
    simp only [World.setRow, Array.getElem?_modify]
    rw [if_neg (fun e => hn (by rw [e]))]⟩
section
variable {w : World} {g t ty n e : Nat} {l l' : List Value} {ops : Array Oper} {rest : List Oper} {o : Oper} {a : Act} {Q : Exit → Act → World → Prop}
/-- An array that is a whole block, loaded. -/
theorem ld_row (h : Bk w g t l) (hgd : o.guard = none) (x : Operand) (ho : o.op = .load ty x) (hx : a.eval x = .pointer (some ⟨g, 0, none⟩)) (hu : Try.prog.underlying ty = some (.array n e)) (hi : (Try.prog.info? ty).map (·.size) = some n) (hl : l.length = n)
    (hK : wpList Try.prog ops Q rest (a.put o.dst (.agg l.toArray)) w) : wpList Try.prog ops Q (o :: rest) a w :=
  wpList_load_row hgd ty x ho g hx t l.toArray (0, 0) _ h hu rfl (by rw [hi, List.size_toArray, hl]) hK
/-- An array that is a whole block, stored. -/
theorem st_row (h : Bk w g t l) (hgd : o.guard = none) (x y : Operand) (ho : o.op = .store ty x y) (hx : a.eval x = .pointer (some ⟨g, 0, none⟩)) (hy : a.eval y = .agg l'.toArray) (hi : (Try.prog.info? ty).map (·.size) = some n) (hl : l.length = n) (hl' : l'.length = n) (h1 : l'.toArray.all (·.oneCell') = true)
    (hK : wpList Try.prog ops Q rest (a.put o.dst undef) (w.setRow g l'.toArray)) : wpList Try.prog ops Q (o :: rest) a w :=
  wpList_store_row hgd ty x y ho g l'.toArray hx hy t l.toArray h (by rw [hi, List.size_toArray, hl']) (by rw [List.size_toArray, List.size_toArray, hl, hl']) h1 hK
end
section
variable {w : World} {g t ty n e : Nat} {l : List Value}
end
end Go.Proofs.Ytcageojoafkojaa
namespace Go.Proofs.Ytcageojoafkojaa
open Go.RowKit
def Ins.cells (i : Ins) : List Value := [.int .u16 i.c, .int .u8 i.t, .int .u8 i.f, .int .u32 i.k]
theorem cells_at : ∀ (l : List Ins) (k j : Nat), j < 4 → (l.flatMap Ins.cells)[k * 4 + j]? = (l[k]?).bind (fun x => x.cells[j]?)
  | [], k, j, _ => by simp
  | x :: l, k, j, hj => by
    rw [List.flatMap_cons]
    cases k with
    | zero => rw [List.getElem?_append_left (by simp [Ins.cells]; omega)]; simp
    | succ k =>
      rw [List.getElem?_append_right (by simp [Ins.cells]; omega), show (x.cells).length = 4 from rfl, show (k + 1) * 4 + j - 4 = k * 4 + j from by omega, cells_at l k j hj]
      simp
/-- The four cells of the k-th. -/
theorem four_cells {w : World} {l : List Ins} {b o k : Nat} {x : Ins} (h : ∀ j u, (l.flatMap Ins.cells)[j]? = some u → w.cell? ⟨b, o + j, none⟩ = some u) (hx : l[k]? = some x) :
    w.cell? ⟨b, o + k * 4, none⟩ = some (.int .u16 x.c) ∧ w.cell? ⟨b, o + k * 4 + 1, none⟩ = some (.int .u8 x.t) ∧ w.cell? ⟨b, o + k * 4 + 2, none⟩ = some (.int .u8 x.f) ∧ w.cell? ⟨b, o + k * 4 + 3, none⟩ = some (.int .u32 x.k) := by
  have hh : ∀ j, j < 4 → ∀ u, x.cells[j]? = some u → w.cell? ⟨b, o + k * 4 + j, none⟩ = some u := fun j hj u hu => by
    rw [Nat.add_assoc]; exact h _ _ (by rw [cells_at l k j hj, hx]; exact hu)
  exact ⟨hh 0 (by omega) _ rfl, hh 1 (by omega) _ rfl, hh 2 (by omega) _ rfl, hh 3 (by omega) _ rfl⟩
theorem take_snoc' {α : Type} (l : List α) (k : Nat) (x : α) (h : l[k]? = some x) : l.take (k + 1) = l.take k ++ [x] := by
  have hl := (List.getElem?_eq_some_iff.1 h)
  rw [List.take_succ_eq_append_getElem hl.1, hl.2]
theorem infoIns : (Try.prog.info? 122).map (fun i => (i.zero, i.size, i.bytes)) = some (some (.agg #[.int .u16 0, .int .u8 0, .int .u8 0, .int .u32 0]), 4, 8) := by kernel_rfl
theorem cells_one (x : Ins) : ∀ u ∈ x.cells, u.oneCell' = true := by
  intro u hu
  simp only [Ins.cells, List.mem_cons, List.not_mem_nil, or_false] at hu
  rcases hu with rfl | rfl | rfl | rfl <;> rfl
theorem two_below (w : World) (o o' : Obj) : Below w.heap.size w ((w.alloc o).alloc o') := ((Below.refl _ _).alloc (Nat.le_refl _) _).alloc (by simp) _
theorem load_of (k : Int) (w : World) : Calls Try.prog 41 #[.int .u32 k] w fun e w' => e = .returned (.agg #[.int .u16 32, .int .u8 0, .int .u8 0, .int .u32 k]) ∧ Below w.heap.size w w' := by
  go_enter Try.func41, Try.ntmps41
  go_wp2
  exact bodyPost_ret (v := .agg #[.int .u16 32, .int .u8 0, .int .u8 0, .int .u32 k]) (by simp [results, Try.results41, go_sem]) rfl ⟨rfl, (Below.refl _ _).alloc (Nat.le_refl _) _⟩
theorem return_of (k : Int) (w : World) : Calls Try.prog 39 #[.int .u32 k] w fun e w' => e = .returned (.agg #[.int .u16 6, .int .u8 0, .int .u8 0, .int .u32 k]) ∧ Below w.heap.size w w' := by
  go_enter Try.func39, Try.ntmps39
  go_wp2
  exact bodyPost_ret (v := .agg #[.int .u16 6, .int .u8 0, .int .u8 0, .int .u32 k]) (by simp [results, Try.results39, go_sem]) rfl ⟨rfl, (Below.refl _ _).alloc (Nat.le_refl _) _⟩
theorem skip_of (k : Int) (w : World) : Calls Try.prog 119 #[.int .u32 k] w fun e w' => e = .returned (.agg #[.int .u16 5, .int .u8 0, .int .u8 0, .int .u32 k]) ∧ Below w.heap.size w w' := by
  go_enter Try.func119, Try.ntmps119
  go_wp2
  exact bodyPost_ret (v := .agg #[.int .u16 5, .int .u8 0, .int .u8 0, .int .u32 k]) (by simp [results, Try.results119, go_sem]) rfl ⟨rfl, (Below.refl _ _).alloc (Nat.le_refl _) _⟩
theorem if_of (h k t f r : Int) (w : World) (hr : bits .or .u16 (bits .or .u16 5 h) 0 = r) : Calls Try.prog 42 #[.int .u16 h, .int .u32 k, .int .u8 t, .int .u8 f] w fun e w' => e = .returned (.agg #[.int .u16 r, .int .u8 t, .int .u8 f, .int .u32 k]) ∧ Below w.heap.size w w' := by
  go_enter Try.func42, Try.ntmps42
  go_wp2
  exact bodyPost_ret (v := .agg #[.int .u16 r, .int .u8 t, .int .u8 f, .int .u32 k]) (by simp [results, Try.results42, go_sem]) rfl ⟨rfl, (Below.refl _ _).alloc (Nat.le_refl _) _⟩
end Go.Proofs.Ytcageojoafkojaa
namespace Go.Proofs.Ytcageojoafkojaa
open Go.RowKit
/-- A slice of n elements of z cells each, which are xs, in a block from B on. -/
structure Seg (w : World) (B z n : Nat) (A : Option Addr) (xs : List Value) : Prop where
  len : xs.length = n * z
  at_ : n = 0 ∨ ∃ b o, A = some ⟨b, o, none⟩ ∧ B ≤ b ∧ b < w.heap.size ∧ ∀ j u, xs[j]? = some u → w.cell? ⟨b, o + j, none⟩ = some u
section
variable {w w' : World} {B z n : Nat} {A : Option Addr} {xs : List Value}
theorem Seg.rd (h : Seg w B z n A xs) : Rd w z n A xs := ⟨h.len, h.at_.imp id fun ⟨b, o, e, _, h1, h2⟩ => ⟨b, o, e, h1, h2⟩⟩
theorem Rd.seg (h : Rd w z n A xs) : Seg w 0 z n A xs := ⟨h.len, h.at_.imp id fun ⟨b, o, e, h1, h2⟩ => ⟨b, o, e, Nat.zero_le _, h1, h2⟩⟩
theorem Seg.below (h : Seg w B z n A xs) (hb : Below w.heap.size w w') : Seg w' B z n A xs :=
  ⟨h.len, h.at_.imp id fun ⟨b, o, e, h0, hl, hc⟩ => ⟨b, o, e, h0, Nat.lt_of_lt_of_le hl hb.size, fun j u hu => (hb.cell (p := ⟨b, o + j, none⟩) hl).trans (hc j u hu)⟩⟩
theorem Seg.pos (h : Seg w B z n A xs) (hn : 0 < n) : ∃ b o, A = some ⟨b, o, none⟩ ∧ B ≤ b ∧ b < w.heap.size ∧ ∀ j u, xs[j]? = some u → w.cell? ⟨b, o + j, none⟩ = some u := by
  rcases h.at_ with e | e
  · omega
  · exact e
theorem Seg.nil (w : World) (B z : Nat) (A : Option Addr) : Seg w B z 0 A [] := ⟨by simp, .inl rfl⟩
end
theorem own_seg {w : World} {base : Nat} {e : TypeId} {z n : Nat} {v : Value} {xs : List Value} (h : w.ownsRow base e z v n xs) :
    ∃ A c, v = .slice A n c ∧ n ≤ c ∧ Seg w base z n A xs := by
  rcases h.2 with ⟨rfl, rfl⟩ | ⟨g, cap, cur, rfl, hb, hh, hn, hm, hs, rfl⟩
  · exact ⟨none, 0, rfl, Nat.le_refl _, h.1, .inl rfl⟩
  · refine ⟨_, cap, rfl, hn, h.1, .inr ⟨g, 0, rfl, hb, (Array.getElem?_eq_some_iff.1 hh).1, fun j u hu => ?_⟩⟩
    have := h.cells (g := g) rfl j u hu
    rw [← this]
    simp [Addr.add]
    by_cases hj : j = 0 <;> simp [hj]
/-- A row that was made full is just its cells. -/
theorem bk_full {w : World} {base : Nat} {e : TypeId} {z n g : Nat} {xs : List Value} (h : w.ownsRow base e z (.slice (some ⟨g, 0, none⟩) n n) n xs) : Bk w g e xs := by
  rcases h.2 with ⟨h1, _⟩ | ⟨g', cap, cur, h1, hb, hh, hn, hm, hs, rfl⟩
  · cases h1
  · simp only [Value.slice.injEq, Option.some.injEq, Addr.mk.injEq, and_true, true_and] at h1
    obtain ⟨rfl, rfl⟩ := h1
    unfold Bk
    rw [hh, List.take_of_length_le (by simp [hs])]
theorem Bk.seg {w : World} {e z n g B : Nat} {xs : List Value} (h : Bk w g e xs) (hl : xs.length = n * z) (hb : B ≤ g) : Seg w B z n (some ⟨g, 0, none⟩) xs :=
  ⟨hl, .inr ⟨g, 0, rfl, hb, h.lt, fun j u hu => by rw [Nat.zero_add]; exact h.cell j hu⟩⟩
theorem Seg.grown {w w' : World} {B z n g : Nat} {A : Option Addr} {xs : List Value} (h : Seg w B z n A xs) (hg : w.grownBy w' (some g)) (hB : g < B) : Seg w' B z n A xs :=
  ⟨h.len, h.at_.imp id fun ⟨b, o, e, h0, hl, hc⟩ => ⟨b, o, e, h0, Nat.lt_of_lt_of_le hl hg.size, fun j u hu => by
    rw [← hc j u hu]
    unfold World.cell?
    rw [hg.block b hl (fun e => by cases e; omega)]⟩⟩
def ints (l : List Nat) : List Value := l.map fun (x : Nat) => Value.int .i64 x
theorem ints_at {l : List Nat} {k x : Nat} (h : l[k]? = some x) : (ints l)[k]? = some (.int .i64 x) := by simp [ints, h]
end Go.Proofs.Ytcageojoafkojaa
namespace Go.Proofs.Ytcageojoafkojaa
abbrev Bs := List UInt8
structure Ln where
  w : Bs
  c : Nat
  s : Nat
deriving DecidableEq
def tab : List Ln := [
  ⟨[108, 100, 108, 101, 110], 128, 0⟩, ⟨[108, 100, 120, 108, 101, 110], 129, 0⟩, ⟨[114, 101, 116, 97], 22, 0⟩, ⟨[116, 97, 120], 7, 0⟩, ⟨[116, 120, 97], 135, 0⟩, ⟨[110, 101, 103], 132, 0⟩,
  ⟨[97, 100, 100, 120], 12, 0⟩, ⟨[115, 117, 98, 120], 28, 0⟩, ⟨[109, 117, 108, 120], 44, 0⟩, ⟨[100, 105, 118, 120], 60, 0⟩, ⟨[111, 114, 120], 76, 0⟩, ⟨[97, 110, 100, 120], 92, 0⟩,
  ⟨[108, 115, 104, 120], 108, 0⟩, ⟨[114, 115, 104, 120], 124, 0⟩, ⟨[120, 111, 114, 120], 172, 0⟩, ⟨[108, 100], 0, 1⟩, ⟨[108, 100, 97, 98, 115], 32, 1⟩, ⟨[108, 100, 109, 101, 109], 96, 1⟩,
  ⟨[108, 100, 120], 1, 1⟩, ⟨[108, 100, 120, 109, 101, 109], 97, 1⟩, ⟨[115, 116], 2, 1⟩, ⟨[115, 116, 120], 3, 1⟩, ⟨[114, 101, 116], 6, 1⟩, ⟨[106, 97], 5, 1⟩,
  ⟨[97, 100, 100], 4, 1⟩, ⟨[115, 117, 98], 20, 1⟩, ⟨[109, 117, 108], 36, 1⟩, ⟨[100, 105, 118], 52, 1⟩, ⟨[111, 114], 68, 1⟩, ⟨[97, 110, 100], 84, 1⟩,
  ⟨[108, 115, 104], 100, 1⟩, ⟨[114, 115, 104], 116, 1⟩, ⟨[120, 111, 114], 164, 1⟩, ⟨[106, 101, 113], 21, 2⟩, ⟨[106, 103, 116], 37, 2⟩, ⟨[106, 103, 101], 53, 2⟩,
  ⟨[106, 115, 101, 116], 69, 2⟩, ⟨[106, 101, 113, 120], 29, 3⟩, ⟨[106, 103, 116, 120], 45, 3⟩, ⟨[106, 103, 101, 120], 61, 3⟩, ⟨[106, 115, 101, 116, 120], 77, 3⟩]
def rawL : Ln := ⟨[114, 97, 119], 0, 4⟩
/-- Which fields stand behind a word: 0 the code, 1 Jt, 2 Jf, 3 K. -/
def flds (s : Nat) : List Nat := if s = 1 then [3] else if s = 2 then [3, 1, 2] else if s = 3 then [1, 2] else if s = 4 then [0, 1, 2, 3] else []
def most (f : Nat) : Nat := if f = 0 then 65535 else if f = 3 then 4294967295 else 255
def getF (f : Nat) (i : Ins) : Nat := if f = 0 then i.c else if f = 1 then i.t else if f = 2 then i.f else i.k
def setF (f : Nat) (i : Ins) (n : Nat) : Ins := if f = 0 then { i with c := n } else if f = 1 then { i with t := n } else if f = 2 then { i with f := n } else if f = 3 then { i with k := n } else i
def named (w : Bs) : Option Ln := if w = rawL.w then some rawL else tab.find? (fun l => l.w == w)
def tellsGo : List Nat → Ins → Ins → Ins
  | [], left, _ => left
  | f :: r, left, i => tellsGo r (setF f left (getF f i)) i
def tells (l : Ln) (i : Ins) : Ins := tellsGo (flds l.s) ⟨l.c, 0, 0, 0⟩ i
def sameI (a b : Ins) : Bool := decide (a.c = b.c ∧ a.t = b.t ∧ a.f = b.f ∧ a.k = b.k)
def hits (i : Ins) (l : Ln) : Bool := decide (l.c = i.c) && sameI (tells l i) i
def lineOf (i : Ins) : Ln := (tab.find? (hits i)).getD rawL
def words (i : Ins) : List Bs := (lineOf i).w :: (flds (lineOf i).s).map fun f => Lib.decDigits (getF f i)
def told (i : Ins) : Bs := Lib.join (words i) [32]
def text (L : List Ins) : Bs := L.flatMap fun i => told i ++ [10]
/-- A byte as a digit of a base. -/
def dig (b : Nat) (c : UInt8) : Option Nat :=
  if 48 ≤ c.toNat ∧ c.toNat ≤ 57 then (if c.toNat - 48 < b then some (c.toNat - 48) else none)
  else if 97 ≤ c.toNat ∧ c.toNat ≤ 122 then (if c.toNat - 87 < b then some (c.toNat - 87) else none) else none
def horner (b : Nat) : Bs → Nat → Option Nat
  | [], n => some n
  | c :: t, n => match dig b c with
    | none => none
    | some d => if n * b + d < 18446744073709551616 then horner b t (n * b + d) else none
def hexed (s : Bs) : Bool := Lib.hasPrefix s [48, 120]
def digits (s : Bs) : Bs := if hexed s then s.drop 2 else s
def base (s : Bs) : Nat := if hexed s then 16 else 10
def number (s : Bs) : Option Nat :=
  if 1 < (digits s).length ∧ (digits s).head? = some 48 then none
  else if digits s = [] then none else horner (base s) (digits s) 0
end Go.Proofs.Ytcageojoafkojaa
namespace Go.Proofs.Ytcageojoafkojaa
/-- No byte of a word of a line parts it. -/
def Wd (w : Bs) : Prop := w ≠ [] ∧ ∀ c ∈ w, 48 ≤ c.toNat ∧ c.toNat < 128
end Go.Proofs.Ytcageojoafkojaa
namespace Go.Proofs.Ytcageojoafkojaa
/-- A word: its kind (0 an end, 1 a name, 2 a number, 3 a path, 4 a sign), its text, its number, its place. -/
structure Tok where
  k : Nat
  t : Bs
  n : Nat
  line : Nat
  col : Nat
deriving DecidableEq
/-- Where a text isn't right, and why. -/
structure Wr where
  l : Nat
  c : Nat
  e : Nat
deriving DecidableEq
/-- Behind some words. -/
def pre (acc : List Tok) (r : List Tok × Nat × Nat) : List Tok × Nat × Nat := if r.2.2 ≠ 0 then ([], r.2) else (acc ++ r.1, r.2)
end Go.Proofs.Ytcageojoafkojaa
namespace Go.Proofs.Ytcageojoafkojaa
open Go.RowKit Go.Maps

/-- The calls there are: number, name, arguments. -/
def rows : List (Nat × List UInt8 × Nat) :=
  [(0, [114, 101, 97, 100], 2), (1, [119, 114, 105, 116, 101], 2), (2, [111, 112, 101, 110], 2), (3, [99, 108, 111, 115, 101], 1),
   (4, [115, 116, 97, 116], 1), (8, [115, 101, 101, 107], 2), (32, [100, 117, 112], 1), (39, [112, 105, 100], 0),
   (41, [115, 111, 99, 107, 101, 116], 0), (42, [99, 111, 110, 110, 101, 99, 116], 2), (49, [98, 105, 110, 100], 2), (50, [108, 105, 115, 116, 101, 110], 1),
   (57, [102, 111, 114, 107], 0), (60, [101, 120, 105, 116], 1), (77, [116, 114, 117, 110, 99, 97, 116, 101], 2), (78, [114, 101, 97, 100, 100, 105, 114], 1),
   (79, [99, 119, 100], 0), (80, [99, 104, 100, 105, 114], 1), (82, [114, 101, 110, 97, 109, 101], 2), (83, [109, 107, 100, 105, 114], 1),
   (84, [114, 109, 100, 105, 114], 1), (86, [108, 105, 110, 107], 2), (87, [117, 110, 108, 105, 110, 107], 1), (88, [115, 121, 109, 108, 105, 110, 107], 2),
   (89, [114, 101, 97, 100, 108, 105, 110, 107], 1), (157, [112, 114, 99, 116, 108], 1), (165, [109, 111, 117, 110, 116], 2), (166, [117, 109, 111, 117, 110, 116], 1),
   (317, [115, 101, 99, 99, 111, 109, 112], 1), (446, [114, 101, 115, 116, 114, 105, 99, 116], 1)]

def rowCells (r : Nat × List UInt8 × Nat) : List Value := [.int .u32 r.1, .string ⟨r.2.1.toArray⟩, .int .i64 r.2.2]
def tableCells : Array Value := (rows.flatMap rowCells).toArray

end Go.Proofs.Ytcageojoafkojaa
namespace Go.Proofs.Ytcageojoafkojaa
open Go.RowKit Go.Maps

/-- The table's block: done, the lock's two words, asked, made, the two maps. -/
def Tab (w : World) (b : Nat) (u l s asked made : Int) (m5 m6 : Value) : Prop :=
  w.heap[b]? = some (.cells #[.int .u32 u, .int .i32 l, .int .u32 s, .int .i64 asked, .int .i64 made, m5, m6] 289 (0, 0))

section
variable {w : World} {b : Nat} {u l s asked made : Int} {m5 m6 : Value}
theorem Tab.lt (h : Tab w b u l s asked made m5 m6) : b < w.heap.size := (Array.getElem?_eq_some_iff.1 h).1
theorem Tab.c0 (h : Tab w b u l s asked made m5 m6) : w.cell? ⟨b, 0, none⟩ = some (.int .u32 u) := by simp only [Tab] at h; simp [World.cell?, h]
theorem Tab.c1 (h : Tab w b u l s asked made m5 m6) : w.cell? ⟨b, 1, none⟩ = some (.int .i32 l) := by simp only [Tab] at h; simp [World.cell?, h]
theorem Tab.c3 (h : Tab w b u l s asked made m5 m6) : w.cell? ⟨b, 3, none⟩ = some (.int .i64 asked) := by simp only [Tab] at h; simp [World.cell?, h]
theorem Tab.c4 (h : Tab w b u l s asked made m5 m6) : w.cell? ⟨b, 4, none⟩ = some (.int .i64 made) := by simp only [Tab] at h; simp [World.cell?, h]
theorem Tab.c5 (h : Tab w b u l s asked made m5 m6) : w.cell? ⟨b, 5, none⟩ = some m5 := by simp only [Tab] at h; simp [World.cell?, h]
theorem Tab.c6 (h : Tab w b u l s asked made m5 m6) : w.cell? ⟨b, 6, none⟩ = some m6 := by simp only [Tab] at h; simp [World.cell?, h]
theorem Tab.fz (h : Tab w b u l s asked made m5 m6) (j : Nat) : w.frozen? ⟨b, j, none⟩ = false := by simp only [Tab] at h; simp [World.frozen?, h]
theorem Tab.drew (h : Tab w b u l s asked made m5 m6) : Tab w.drew b u l s asked made m5 m6 := h
theorem Tab.alloc (h : Tab w b u l s asked made m5 m6) (o : Obj) : Tab (w.alloc o) b u l s asked made m5 m6 := by
  have := h.lt
  simp only [Tab] at h ⊢; rw [← h]; exact Below.heap_alloc _ _ _ this
theorem Tab.kept {w' : World} {r : Option Nat} (h : Tab w b u l s asked made m5 m6) (g : w.grownBy w' r) (hr : some b ≠ r) : Tab w' b u l s asked made m5 m6 := by
  have := h.lt
  simp only [Tab] at h ⊢; rw [← h]; exact g.block b this hr
end

theorem grown_trans {w w1 w2 : World} {r r1 : Option Nat} (h : w.grownBy w1 r) (g : w1.grownBy w2 r1) (hr : ∀ k, r1 = some k → r = some k ∨ w.heap.size ≤ k) : w.grownBy w2 r :=
  ⟨g.os.trans h.os, g.tape.trans h.tape, g.output.trans h.output, Nat.le_trans h.size g.size, fun i hi hne =>
    (g.block i (Nat.lt_of_lt_of_le hi h.size) (fun e => by rcases hr i e.symm with e' | e'
                                                           · exact hne e'.symm
                                                           · omega)).trans (h.block i hi hne)⟩
def rowAt (k : Nat) : Nat × List UInt8 × Nat := rows.getD k (0, [], 0)
theorem rows_len : rows.length = 30 := rfl
/-- The list from which the table is made, in memory. -/
def Src (w : World) (t : Nat) : Prop := w.heap[t]? = some (.cells tableCells 291 (0, 0))
theorem flat_at {α : Type} (f : α → List Value) (hf : ∀ x, (f x).length = 3) (l : List α) : ∀ (k j : Nat), j < 3 → (l.flatMap f)[k * 3 + j]? = (l[k]?).bind (fun x => (f x)[j]?) := by
  induction l with
  | nil => intro k j _; simp
  | cons x l ih =>
    intro k j hj
    rw [List.flatMap_cons]
    cases k with
    | zero => rw [List.getElem?_append_left (by rw [hf]; omega)]; simp
    | succ k =>
      rw [List.getElem?_append_right (by rw [hf]; omega), hf, show (k + 1) * 3 + j - 3 = k * 3 + j from by omega, ih k j hj]
      simp
theorem src_at (k j : Nat) (hk : k < 30) (hj : j < 3) : tableCells[k * 3 + j]? = (rowCells (rowAt k))[j]? := by
  have hl : k < rows.length := by rw [rows_len]; exact hk
  have h := flat_at rowCells (fun _ => rfl) rows k j hj
  unfold tableCells
  rw [List.getElem?_toArray, h, List.getElem?_eq_getElem hl, rowAt, List.getD_eq_getElem?_getD, List.getElem?_eq_getElem hl]
  rfl
theorem src_cells : ∀ k, k < 30 → tableCells[k * 3]? = some (.int .u32 (rowAt k).1) ∧ tableCells[k * 3 + 1]? = some (.string ⟨(rowAt k).2.1.toArray⟩) ∧ tableCells[k * 3 + 2]? = some (.int .i64 (rowAt k).2.2) := by
  intro k hk
  exact ⟨src_at k 0 hk (by omega), src_at k 1 hk (by omega), src_at k 2 hk (by omega)⟩
theorem Src.cell {w : World} {t : Nat} (h : Src w t) (k : Nat) (hk : k < 30) :
    w.cell? ⟨t, k * 3, none⟩ = some (.int .u32 (rowAt k).1) ∧ w.cell? ⟨t, k * 3 + 1, none⟩ = some (.string ⟨(rowAt k).2.1.toArray⟩) ∧ w.cell? ⟨t, k * 3 + 2, none⟩ = some (.int .i64 (rowAt k).2.2) := by
  simp only [Src] at h
  simpa [World.cell?, h] using src_cells k hk
theorem Src.kept {w w' : World} {t : Nat} {r : Option Nat} (h : Src w t) (g : w.grownBy w' r) (hr : some t ≠ r) : Src w' t := by
  have hl : t < w.heap.size := (Array.getElem?_eq_some_iff.1 h).1
  simp only [Src] at h ⊢; rw [← h]; exact g.block t hl hr
end Go.Proofs.Ytcageojoafkojaa
namespace Go.Proofs.Ytcageojoafkojaa
open Go.RowKit Go.Maps Go.WideMaps Go.WideElems Go.ChangeMaps

abbrev Row := Nat × List UInt8 × Nat
def byNum (n : Int) : Option Row := rows.find? (fun r => decide ((r.1 : Int) = n))
end Go.Proofs.Ytcageojoafkojaa
namespace Go.Proofs.Ytcageojoafkojaa
open Go.RowKit Go.Maps Go.WideMaps Go.WideElems Go.ChangeMaps

end Go.Proofs.Ytcageojoafkojaa
namespace Go.Proofs.Ytcageojoafkojaa
open Go.RowKit

def letterP (c : Nat) : Prop := 97 ≤ c ∧ c ≤ 122
def behindP (c : Nat) : Prop := (48 ≤ c ∧ c ≤ 57) ∨ c = 45 ∨ c = 95
def goodP (i c : Nat) : Prop := letterP c ∨ (i ≠ 0 ∧ behindP c)
/-- One tQ fourteen bytes, each one good at its place. -/
def wordP (s : ByteArray) : Prop := 1 ≤ s.size ∧ s.size ≤ 14 ∧ ∀ i (h : i < s.size), goodP i (s[i]'h).toNat

end Go.Proofs.Ytcageojoafkojaa
namespace Go.Proofs.Ytcageojoafkojaa
/-- Parts: the text parted at each /. -/
def parts : Bs → List Bs
  | [] => [[]]
  | c :: t => if c = 47 then [] :: parts t else match parts t with | h :: r => (c :: h) :: r | [] => [[c]]
end Go.Proofs.Ytcageojoafkojaa
namespace Go.Proofs.Ytcageojoafkojaa
open Go.RowKit
/-- The first number that is not nought, thing by thing. -/
def firstE {α : Type} (f : Nat → α → Nat) : Nat → List α → Nat
  | _, [] => 0
  | i, x :: t => if f i x ≠ 0 then f i x else firstE f (i + 1) t
structure CondM where
  arg : Int
  op : Nat
  mask : Nat
  val : Nat
structure RuleM where
  num : Nat
  act : Nat
  conds : List CondM
structure PolM where
  name : Bs
  dflt : Nat
  rules : List RuleM
  handled : Nat
  paths : List (Bs × Nat)
  ports : List (Nat × Nat)
def CondM.ok (c : CondM) : Prop := -9223372036854775808 ≤ c.arg ∧ c.arg ≤ 9223372036854775807 ∧ c.op < 256 ∧ c.mask < 18446744073709551616 ∧ c.val < 18446744073709551616
/-- A condition's error. -/
def condE (c : CondM) : Nat :=
  if c.arg < 0 ∨ 5 < c.arg then 204 else if c.op < 1 ∨ 7 < c.op then 210
  else if c.op ≠ 7 then (if c.mask ≠ 0 then 203 else 0)
  else if c.mask = 0 ∨ c.val &&& c.mask ≠ c.val then 204 else 0
def actB (a : Nat) : Bool := decide (a = 2147483648 ∨ a = 2147221504 ∨ a = 2147418112 ∨ (327680 < a ∧ a ≤ 331775))
def ruleE (r : RuleM) : Nat :=
  if (byNum r.num).isSome = false then 38 else if actB r.act = false then 210 else if 6 < r.conds.length then 205
  else firstE (fun _ c => condE c) 0 r.conds
def hasS (a b : Nat) : Bool := decide (a &&& b = b)
def grantB (handled r kind : Nat) : Bool := decide (r ≠ 0) && (hasS handled r && hasS kind r)
open Classical in
noncomputable def wordB (s : Bs) : Bool := decide (wordP ⟨s.toArray⟩)
/-- The cells. -/
def CondM.cells (c : CondM) : List Value := [.int .i64 c.arg, .int .u8 c.op, .int .u64 c.mask, .int .u64 c.val]
def CondM.rcells (c : CondM) : List Value := [.int .i64 c.arg, .int .i64 c.op, .int .u64 c.mask, .int .u64 c.val]
structure RuleV where
  m : RuleM
  A : Option Addr
  cap : Nat
def RuleV.cells (r : RuleV) : List Value := [.int .u32 r.m.num, .int .u32 r.m.act, .slice r.A r.m.conds.length r.cap]
def pathC (x : Bs × Nat) : List Value := [.string ⟨x.1.toArray⟩, .int .u16 x.2]
def portC (x : Nat × Nat) : List Value := [.int .u16 x.1, .int .u16 x.2]
def pathR (x : Bs × Nat) : List Value := [.string ⟨x.1.toArray⟩, .int .i64 x.2]
def portR (x : Nat × Nat) : List Value := [.int .i64 x.1, .int .i64 x.2]
structure PolV where
  name : Bs
  dflt : Nat
  rules : List RuleV
  RA : Option Addr
  Rc : Nat
  handled : Nat
  paths : List (Bs × Nat)
  PA : Option Addr
  Pc : Nat
  ports : List (Nat × Nat)
  QA : Option Addr
  Qc : Nat
def PolV.m (p : PolV) : PolM := ⟨p.name, p.dflt, p.rules.map RuleV.m, p.handled, p.paths, p.ports⟩
def PolV.cells (p : PolV) : List Value :=
  [.string ⟨p.name.toArray⟩, .int .u32 p.dflt, .slice p.RA p.rules.length p.Rc, .int .u16 p.handled, .slice p.PA p.paths.length p.Pc, .slice p.QA p.ports.length p.Qc]
def PolV.rcells (p : PolV) : List Value :=
  [.string ⟨p.name.toArray⟩, .int .u32 p.dflt, .slice p.RA p.rules.length p.Rc, .int .i64 p.handled, .slice p.PA p.paths.length p.Pc, .slice p.QA p.ports.length p.Qc]
def RuleM.ok (r : RuleM) : Prop := r.num < 4294967296 ∧ r.act < 4294967296 ∧ r.conds.length ≤ maxLen ∧ ∀ c ∈ r.conds, c.ok
structure PolM.ok (p : PolM) : Prop where
  name : p.name.length ≤ maxLen
  dflt : p.dflt < 4294967296
  rules : p.rules.length ≤ maxLen
  each : ∀ r ∈ p.rules, r.ok
  handled : p.handled < 65536
  paths : p.paths.length ≤ maxLen
  path : ∀ x ∈ p.paths, x.1.length ≤ maxLen ∧ x.2 < 65536
  ports : p.ports.length ≤ maxLen
  port : ∀ x ∈ p.ports, x.1 < 65536 ∧ x.2 < 65536
def PolV.fit (p : PolV) : Prop := p.paths.length ≤ p.Pc ∧ p.ports.length ≤ p.Qc
/-- A policy in memory; as the document's answer has it. -/
structure Reads (w : World) (p : PolV) : Prop where
  rules : Rd w 3 p.rules.length p.RA (p.rules.flatMap RuleV.cells)
  conds : ∀ r ∈ p.rules, Rd w 4 r.m.conds.length r.A (r.m.conds.flatMap CondM.cells)
  paths : Rd w 2 p.paths.length p.PA (p.paths.flatMap pathC)
  ports : Rd w 2 p.ports.length p.QA (p.ports.flatMap portC)
structure RReads (w : World) (p : PolV) : Prop where
  rules : Rd w 3 p.rules.length p.RA (p.rules.flatMap RuleV.cells)
  conds : ∀ r ∈ p.rules, Rd w 4 r.m.conds.length r.A (r.m.conds.flatMap CondM.rcells)
  paths : Rd w 2 p.paths.length p.PA (p.paths.flatMap pathR)
  ports : Rd w 2 p.ports.length p.QA (p.ports.flatMap portR)
theorem Reads.below {w w' : World} {p : PolV} (h : Reads w p) (hb : Below w.heap.size w w') : Reads w' p :=
  ⟨h.rules.below hb, fun r hr => (h.conds r hr).below hb, h.paths.below hb, h.ports.below hb⟩
theorem RReads.below {w w' : World} {p : PolV} (h : RReads w p) (hb : Below w.heap.size w w') : RReads w' p :=
  ⟨h.rules.below hb, fun r hr => (h.conds r hr).below hb, h.paths.below hb, h.ports.below hb⟩
/-- A slice that reads so, no block of which is block t. -/
def Off (n : Nat) (A : Option Addr) (t : Nat) : Prop := n = 0 ∨ ∀ a, A = some a → a.block ≠ t
theorem Rd.grownO {w w' : World} {z n t : Nat} {A : Option Addr} {xs : List Value} (h : Rd w z n A xs) (ho : Off n A t) (g : w.grownBy w' (some t)) : Rd w' z n A xs :=
  ⟨h.len, by
    rcases ho with e | ho
    · exact .inl e
    · refine h.at_.imp id fun ⟨b, o, e, hl, hc⟩ => ⟨b, o, e, Nat.lt_of_lt_of_le hl g.size, fun j u hu => ?_⟩
      rw [← hc j u hu]
      unfold World.cell?
      rw [g.block b hl (fun h => ho _ e (Option.some.inj h))]⟩
structure OffP (p : PolV) (t : Nat) : Prop where
  rules : Off p.rules.length p.RA t
  conds : ∀ r ∈ p.rules, Off r.m.conds.length r.A t
  paths : Off p.paths.length p.PA t
  ports : Off p.ports.length p.QA t
theorem Reads.grown {w w' : World} {p : PolV} {t : Nat} (h : Reads w p) (ho : OffP p t) (g : w.grownBy w' (some t)) : Reads w' p :=
  ⟨h.rules.grownO ho.rules g, fun r hr => (h.conds r hr).grownO (ho.conds r hr) g, h.paths.grownO ho.paths g, h.ports.grownO ho.ports g⟩
theorem Rd.off {w : World} {z n t : Nat} {A : Option Addr} {xs : List Value} (h : Rd w z n A xs) (ht : w.heap.size ≤ t) : Off n A t :=
  h.at_.imp id fun ⟨b, o, e, hl, _⟩ a ha he => by cases e.symm.trans ha; simp at he; omega
theorem Reads.off {w : World} {p : PolV} {t : Nat} (h : Reads w p) (ht : w.heap.size ≤ t) : OffP p t :=
  ⟨h.rules.off ht, fun r hr => (h.conds r hr).off ht, h.paths.off ht, h.ports.off ht⟩
/-- Cells of the k-th thing, z cells each. -/
theorem flatz {α : Type} (f : α → List Value) (z : Nat) (hf : ∀ x, (f x).length = z) (hz : 0 < z) : ∀ (l : List α) (k j : Nat), j < z → (l.flatMap f)[k * z + j]? = (l[k]?).bind (fun x => (f x)[j]?)
  | [], k, j, _ => by simp
  | x :: l, 0, j, hj => by
    rw [List.flatMap_cons, List.getElem?_append_left (by rw [hf]; omega)]; simp
  | x :: l, k + 1, j, hj => by
    rw [List.flatMap_cons, List.getElem?_append_right (by rw [hf, Nat.succ_mul]; omega), hf, show (k + 1) * z + j - z = k * z + j from by rw [Nat.succ_mul]; omega, flatz f z hf hz l k j hj]
    simp
theorem flatz_len {α : Type} (f : α → List Value) (z : Nat) (hf : ∀ x, (f x).length = z) : ∀ (l : List α), (l.flatMap f).length = l.length * z
  | [] => by simp
  | x :: l => by rw [List.flatMap_cons, List.length_append, flatz_len f z hf l, hf, List.length_cons, Nat.succ_mul, Nat.add_comm]
/-- Cells of one thing in a slice, told one by one. -/
theorem Rd.one {α : Type} {f : α → List Value} {w : World} {z n : Nat} {A : Option Addr} {l : List α} (h : Rd w z n A (l.flatMap f)) (hf : ∀ x, (f x).length = z) (hz : 0 < z) (hn : 0 < n) :
    ∃ b o, A = some ⟨b, o, none⟩ ∧ b < w.heap.size ∧ ∀ k x, l[k]? = some x → ∀ j v, (f x)[j]? = some v → w.cell? ⟨b, o + (k * z + j), none⟩ = some v := by
  obtain ⟨b, o, e, hb, hc⟩ := h.pos hn
  refine ⟨b, o, e, hb, fun k x hx j v hv => hc _ v ?_⟩
  have hj : j < z := by rw [← hf x]; exact (List.getElem?_eq_some_iff.1 hv).1
  rw [flatz f z hf hz l k j hj, hx]
  exact hv
end Go.Proofs.Ytcageojoafkojaa
