/- The table of calls: what it is made from, and how its maps are filled. -/
import Derived.Test.YtcageojoafkojaaProg
import Derived.Maps.OwnSet
import Derived.StillTailTactics
import Derived.Test.YtcageojoafkojaaProg
import Derived.WalkKit
import Derived.WalkSpells
import Derived.Lib.Hide
import Derived.Laws.RangeString
import Derived.Laws.RangeAny
namespace Go.Proofs.Ytcageojoafkojaa
open Go.RowKit Go.Maps

/-- The calls there are: number, name, arguments. -/
def rows : List (Nat × List UInt8 × Nat) :=
  [(0, [114, 101, 97, 100], 2), (1, [119, 114, 105, 116, 101], 2), (2, [111, 112, 101, 110], 2), (3, [99, 108, 111, 115, 101], 1),
   (4, [115, 116, 97, 116], 1), (8, [115, 101, 101, 107], 2), (32, [100, 117, 112], 1), (39, [112, 105, 100], 0),
   (41, [115, 111, 99, 107, 101, 116], 0), (42, [99, 111, 110, 110, 101, 99, 116], 2), (49, [98, 105, 110, 100], 2), (50, [108, 105, 115, 116, 101, 110], 1),
   (57, [102, 111, 114, 107], 0), (60, [101, 120, 105, 116], 1), (77, [116, 114, 117, 110, 99, 97, 116, 101], 2), (78, [114, 101, 97, 100, 100, 105, 114], 1),
   (79, [99, 119, 100], 0), (80, [99, 104, 100, 105, 114], 1), (82, [114, 101, 110, 97, 109, 101], 2), (83, [109, 107, 100, 105, 114], 1),
   (84, [114, 109, 100, 105, 114], 1), (86, [108, 105, 110, 107], 2), (87, [117, 110, 108, 105, 110, 107], 1), (88, [115, 121, 109, 108, 105, 110, 107], 2),
   (89, [114, 101, 97, 100, 108, 105, 110, 107], 1), (157, [112, 114, 99, 116, 108], 1), (165, [109, 111, 117, 110, 116], 2), (166, [117, 109, 111, 117, 110, 116], 1),
   (317, [115, 101, 99, 99, 111, 109, 112], 1), (446, [114, 101, 115, 116, 114, 105, 99, 116], 1)]

def rowCells (r : Nat × List UInt8 × Nat) : List Value := [.int .u32 r.1, .string ⟨r.2.1.toArray⟩, .int .i64 r.2.2]
def tableCells : Array Value := (rows.flatMap rowCells).toArray

end Go.Proofs.Ytcageojoafkojaa
namespace Go.Proofs.Ytcageojoafkojaa
open Go.RowKit Go.Maps

/-- The table's block: done, the lock's two words, asked, made, the two maps. -/
def Tab (w : World) (b : Nat) (u l s asked made : Int) (m5 m6 : Value) : Prop :=
  w.heap[b]? = some (.cells #[.int .u32 u, .int .i32 l, .int .u32 s, .int .i64 asked, .int .i64 made, m5, m6] 289 (0, 0))

section
variable {w : World} {b : Nat} {u l s asked made : Int} {m5 m6 : Value}
theorem Tab.lt (h : Tab w b u l s asked made m5 m6) : b < w.heap.size := (Array.getElem?_eq_some_iff.1 h).1
theorem Tab.c0 (h : Tab w b u l s asked made m5 m6) : w.cell? ⟨b, 0, none⟩ = some (.int .u32 u) := by simp only [Tab] at h; simp [World.cell?, h]
theorem Tab.c1 (h : Tab w b u l s asked made m5 m6) : w.cell? ⟨b, 1, none⟩ = some (.int .i32 l) := by simp only [Tab] at h; simp [World.cell?, h]
theorem Tab.c3 (h : Tab w b u l s asked made m5 m6) : w.cell? ⟨b, 3, none⟩ = some (.int .i64 asked) := by simp only [Tab] at h; simp [World.cell?, h]
theorem Tab.c4 (h : Tab w b u l s asked made m5 m6) : w.cell? ⟨b, 4, none⟩ = some (.int .i64 made) := by simp only [Tab] at h; simp [World.cell?, h]
theorem Tab.c5 (h : Tab w b u l s asked made m5 m6) : w.cell? ⟨b, 5, none⟩ = some m5 := by simp only [Tab] at h; simp [World.cell?, h]
theorem Tab.c6 (h : Tab w b u l s asked made m5 m6) : w.cell? ⟨b, 6, none⟩ = some m6 := by simp only [Tab] at h; simp [World.cell?, h]
theorem Tab.fz (h : Tab w b u l s asked made m5 m6) (j : Nat) : w.frozen? ⟨b, j, none⟩ = false := by simp only [Tab] at h; simp [World.frozen?, h]
theorem Tab.set0 (h : Tab w b u l s asked made m5 m6) (n : Int) : Tab (w.setCell ⟨b, 0, none⟩ (.int .u32 n)) b n l s asked made m5 m6 := by simp only [Tab] at h ⊢; simp [World.setCell, Array.getElem?_modify, h]
theorem Tab.set1 (h : Tab w b u l s asked made m5 m6) (n : Int) : Tab (w.setCell ⟨b, 1, none⟩ (.int .i32 n)) b u n s asked made m5 m6 := by simp only [Tab] at h ⊢; simp [World.setCell, Array.getElem?_modify, h]
theorem Tab.set3 (h : Tab w b u l s asked made m5 m6) (n : Int) : Tab (w.setCell ⟨b, 3, none⟩ (.int .i64 n)) b u l s n made m5 m6 := by simp only [Tab] at h ⊢; simp [World.setCell, Array.getElem?_modify, h]
theorem Tab.set4 (h : Tab w b u l s asked made m5 m6) (n : Int) : Tab (w.setCell ⟨b, 4, none⟩ (.int .i64 n)) b u l s asked n m5 m6 := by simp only [Tab] at h ⊢; simp [World.setCell, Array.getElem?_modify, h]
theorem Tab.set5 (h : Tab w b u l s asked made m5 m6) (v : Value) : Tab (w.setCell ⟨b, 5, none⟩ v) b u l s asked made v m6 := by simp only [Tab] at h ⊢; simp [World.setCell, Array.getElem?_modify, h]
theorem Tab.set6 (h : Tab w b u l s asked made m5 m6) (v : Value) : Tab (w.setCell ⟨b, 6, none⟩ v) b u l s asked made m5 v := by simp only [Tab] at h ⊢; simp [World.setCell, Array.getElem?_modify, h]
theorem Tab.drew (h : Tab w b u l s asked made m5 m6) : Tab w.drew b u l s asked made m5 m6 := h
theorem Tab.alloc (h : Tab w b u l s asked made m5 m6) (o : Obj) : Tab (w.alloc o) b u l s asked made m5 m6 := by
  have := h.lt
  simp only [Tab] at h ⊢; rw [← h]; exact Below.heap_alloc _ _ _ this
theorem Tab.kept {w' : World} {r : Option Nat} (h : Tab w b u l s asked made m5 m6) (g : w.grownBy w' r) (hr : some b ≠ r) : Tab w' b u l s asked made m5 m6 := by
  have := h.lt
  simp only [Tab] at h ⊢; rw [← h]; exact g.block b this hr
end

/-- Steps of a call, one behind the other: of what was there block b alone may have turned. -/
theorem grown_refl (w : World) (r : Option Nat) : w.grownBy w r := ⟨rfl, rfl, rfl, Nat.le_refl _, fun _ _ _ => rfl⟩
theorem grown_trans {w w1 w2 : World} {r r1 : Option Nat} (h : w.grownBy w1 r) (g : w1.grownBy w2 r1) (hr : ∀ k, r1 = some k → r = some k ∨ w.heap.size ≤ k) : w.grownBy w2 r :=
  ⟨g.os.trans h.os, g.tape.trans h.tape, g.output.trans h.output, Nat.le_trans h.size g.size, fun i hi hne =>
    (g.block i (Nat.lt_of_lt_of_le hi h.size) (fun e => by rcases hr i e.symm with e' | e'
                                                           · exact hne e'.symm
                                                           · omega)).trans (h.block i hi hne)⟩
theorem grown_setCell (w : World) (a : Addr) (v : Value) : w.grownBy (w.setCell a v) (some a.block) :=
  ⟨rfl, rfl, rfl, by simp [World.setCell], fun i _ hne => Below.heap_setCell _ _ _ _ (fun e => hne (by rw [e]))⟩
theorem grown_drew (w : World) (r : Option Nat) : w.grownBy w.drew r := ⟨rfl, rfl, rfl, Nat.le_refl _, fun _ _ _ => rfl⟩
theorem below_of_grown {w0 w w' : World} {b : Nat} (h : Below w0.heap.size w0 w) (g : w.grownBy w' (some b)) (hb : w0.heap.size ≤ b) : Below w0.heap.size w0 w' :=
  h.grown g h.size (fun k hk => by cases hk; exact hb)

/-- How an element reads: a call. -/
def callR {H : Type} (v : Value) : Option (DataW H × List MemPlace) := match v with
  | .agg c => (match c.toList with
    | [.int .u32 n, .string s, .int .i64 k] => some (.agg [.lit (.int .u32 n), .lit (.string s.data.toList), .lit (.int .i64 k)], [])
    | _ => none)
  | _ => none
def rowV (r : Nat × List UInt8 × Nat) : Value := .agg #[.int .u32 r.1, .string ⟨r.2.1.toArray⟩, .int .i64 r.2.2]
def rowD (r : Nat × List UInt8 × Nat) : DataW Unit := .agg [.lit (.int .u32 r.1), .lit (.string r.2.1), .lit (.int .i64 r.2.2)]
theorem callR_row (r : Nat × List UInt8 × Nat) : callR (rowV r) = some (rowD r, []) := by simp [callR, rowV, rowD]
theorem callR_inv {v : Value} {r : Nat × List UInt8 × Nat} {ps : List MemPlace} (h : callR v = some (rowD r, ps)) : v = rowV r := by
  unfold callR at h
  split at h
  · rename_i c
    split at h
    · rename_i n s k hc
      simp [rowD] at h
      obtain ⟨⟨rfl, h2, rfl⟩, _⟩ := h
      obtain rfl : c = #[.int .u32 r.1, .string s, .int .i64 r.2.2] := by rw [← hc]
      simp only [rowV, ← h2]
    · cases h
  · cases h

/-- The maps as they read, the first k calls being in. -/
def nameD (k : Nat) : DataW Unit := (rows.take k).foldl (fun d r => d.put (.string r.2.1) (rowD r)) (.map [])
def numD (k : Nat) : DataW Unit := (rows.take k).foldl (fun d r => d.put (.int .u32 r.1) (rowD r)) (.map [])
def rowAt (k : Nat) : Nat × List UInt8 × Nat := rows.getD k (0, [], 0)
theorem rows_len : rows.length = 30 := rfl
theorem take_row (k : Nat) (h : k < 30) : rows.take (k + 1) = rows.take k ++ [rowAt k] := by
  have hl : k < rows.length := by rw [rows_len]; exact h
  rw [List.take_succ_eq_append_getElem hl, rowAt, List.getD_eq_getElem?_getD, List.getElem?_eq_getElem hl]
  rfl
theorem nameD_step (k : Nat) (h : k < 30) : nameD (k + 1) = (nameD k).put (.string (rowAt k).2.1) (rowD (rowAt k)) := by
  unfold nameD; rw [take_row k h, List.foldl_append]; rfl
theorem numD_step (k : Nat) (h : k < 30) : numD (k + 1) = (numD k).put (.int .u32 (rowAt k).1) (rowD (rowAt k)) := by
  unfold numD; rw [take_row k h, List.foldl_append]; rfl
theorem row_small (k : Nat) : (rowAt k).1 ≤ 446 ∧ (rowAt k).2.1.length ≤ 8 ∧ (rowAt k).2.2 ≤ 2 := by
  by_cases h : k < 30
  · have : ∀ k, k < 30 → (rowAt k).1 ≤ 446 ∧ (rowAt k).2.1.length ≤ 8 ∧ (rowAt k).2.2 ≤ 2 := by decide
    exact this k h
  · have : rowAt k = (0, [], 0) := by unfold rowAt; rw [List.getD_eq_getElem?_getD, List.getElem?_eq_none (by rw [rows_len]; omega)]; rfl
    rw [this]; decide

/-- The list from which the table is made, in memory. -/
def Src (w : World) (t : Nat) : Prop := w.heap[t]? = some (.cells tableCells 291 (0, 0))
theorem flat_at {α : Type} (f : α → List Value) (hf : ∀ x, (f x).length = 3) (l : List α) : ∀ (k j : Nat), j < 3 → (l.flatMap f)[k * 3 + j]? = (l[k]?).bind (fun x => (f x)[j]?) := by
  induction l with
  | nil => intro k j _; simp
  | cons x l ih =>
    intro k j hj
    rw [List.flatMap_cons]
    cases k with
    | zero => rw [List.getElem?_append_left (by rw [hf]; omega)]; simp
    | succ k =>
      rw [List.getElem?_append_right (by rw [hf]; omega), hf, show (k + 1) * 3 + j - 3 = k * 3 + j from by omega, ih k j hj]
      simp
theorem src_at (k j : Nat) (hk : k < 30) (hj : j < 3) : tableCells[k * 3 + j]? = (rowCells (rowAt k))[j]? := by
  have hl : k < rows.length := by rw [rows_len]; exact hk
  have h := flat_at rowCells (fun _ => rfl) rows k j hj
  unfold tableCells
  rw [List.getElem?_toArray, h, List.getElem?_eq_getElem hl, rowAt, List.getD_eq_getElem?_getD, List.getElem?_eq_getElem hl]
  rfl
theorem src_cells : ∀ k, k < 30 → tableCells[k * 3]? = some (.int .u32 (rowAt k).1) ∧ tableCells[k * 3 + 1]? = some (.string ⟨(rowAt k).2.1.toArray⟩) ∧ tableCells[k * 3 + 2]? = some (.int .i64 (rowAt k).2.2) := by
  intro k hk
  exact ⟨src_at k 0 hk (by omega), src_at k 1 hk (by omega), src_at k 2 hk (by omega)⟩
theorem Src.cell {w : World} {t : Nat} (h : Src w t) (k : Nat) (hk : k < 30) :
    w.cell? ⟨t, k * 3, none⟩ = some (.int .u32 (rowAt k).1) ∧ w.cell? ⟨t, k * 3 + 1, none⟩ = some (.string ⟨(rowAt k).2.1.toArray⟩) ∧ w.cell? ⟨t, k * 3 + 2, none⟩ = some (.int .i64 (rowAt k).2.2) := by
  simp only [Src] at h
  simpa [World.cell?, h] using src_cells k hk
theorem Src.kept {w w' : World} {t : Nat} {r : Option Nat} (h : Src w t) (g : w.grownBy w' r) (hr : some t ≠ r) : Src w' t := by
  have hl : t < w.heap.size := (Array.getElem?_eq_some_iff.1 h).1
  simp only [Src] at h ⊢; rw [← h]; exact g.block t hl hr
end Go.Proofs.Ytcageojoafkojaa
namespace Go.Proofs.Ytcageojoafkojaa
open Go.RowKit Go.Maps Go.WideMaps Go.WideElems Go.ChangeMaps

abbrev Row := Nat × List UInt8 × Nat
def fold (key : Row → Lit) (l : List Row) : DataW Unit := l.foldl (fun d r => d.put (key r) (rowD r)) (.map [])

theorem fold_isMap (key : Row → Lit) (l : List Row) : ∀ D : DataW Unit, IsMap D → IsMap (l.foldl (fun d r => d.put (key r) (rowD r)) D) := by
  induction l with
  | nil => intro D h; exact h
  | cons r l ih => intro D h; exact ih _ (h.put _ _)

theorem fold_at (key : Row → Lit) (hk : ∀ r, WideAt.IsKeyLit (key r)) (k : Lit) (p : Row → Bool) (hp : ∀ r, p r = true ↔ key r = k) (z : DataW Unit) (l : List Row) :
    (fold key l.reverse).atKey k z = (match l.find? p with | some r => rowD r | none => z) ∧
    Maps.has (fold key l.reverse) k = (l.find? p).isSome := by
  induction l with
  | nil => exact ⟨rfl, rfl⟩
  | cons r l ih =>
    have e : fold key (r :: l).reverse = (fold key l.reverse).put (key r) (rowD r) := by
      unfold fold; rw [List.reverse_cons, List.foldl_append]; rfl
    have hm : IsMap (fold key l.reverse) := fold_isMap key _ _ ⟨[], rfl⟩
    rw [e, List.find?_cons]
    by_cases h : key r = k
    · have h2 := (hp r).2 h
      subst h
      rw [atKey_put_same hm (hk r), has_put_same hm (hk r), h2]
      simp
    · have h2 : p r = false := by cases h3 : p r; rfl; exact absurd ((hp r).1 h3) h
      rw [atKey_put_other (fun e => h e.symm), has_put_other (fun e => h e.symm), ih.1, ih.2, h2]
      simp

theorem find_rev {α : Type} (p : α → Bool) (l : List α) (h : l.Pairwise (fun a b => p a = true → p b = false)) : l.reverse.find? p = l.find? p := by
  induction l with
  | nil => rfl
  | cons a l ih =>
    rw [List.reverse_cons, List.find?_append, List.find?_cons, ih (List.pairwise_cons.1 h).2]
    cases hp : p a
    · simp [hp]
    · have : l.find? p = none := by
        rw [List.find?_eq_none]
        intro x hx
        simp [(List.pairwise_cons.1 h).1 x hx hp]
      simp [this, hp]

/-- The call of a name; of a number. -/
def byName (l : List UInt8) : Option Row := rows.find? (fun r => decide (r.2.1 = l))
def byNum (n : Int) : Option Row := rows.find? (fun r => decide ((r.1 : Int) = n))
def zeroRow : Row := (0, [], 0)

theorem names_apart : rows.Pairwise (fun a b => a.2.1 ≠ b.2.1) := by decide
theorem nums_apart : rows.Pairwise (fun a b => a.1 ≠ b.1) := by decide

theorem name_at (l : List UInt8) : (nameD 30).atKey (.string l) (rowD zeroRow) = rowD ((byName l).getD zeroRow) ∧ Maps.has (nameD 30) (.string l) = (byName l).isSome := by
  have h := fold_at (fun r => .string r.2.1) (fun r => trivial) (.string l) (fun r => decide (r.2.1 = l)) (fun r => by simp) (rowD zeroRow) rows.reverse
  have e : nameD 30 = fold (fun r => .string r.2.1) rows.reverse.reverse := by rw [List.reverse_reverse]; rfl
  have e2 : rows.reverse.find? (fun r => decide (r.2.1 = l)) = byName l :=
    by exact find_rev _ _ (names_apart.imp fun hab ha => by simp only [decide_eq_true_eq, decide_eq_false_iff_not] at *; rw [← ha]; exact fun e => hab e.symm)
  rw [e, h.1, h.2, e2]
  exact ⟨by cases byName l <;> rfl, rfl⟩

theorem num_at (n : Int) : (numD 30).atKey (.int .u32 n) (rowD zeroRow) = rowD ((byNum n).getD zeroRow) ∧ Maps.has (numD 30) (.int .u32 n) = (byNum n).isSome := by
  have h := fold_at (fun r => .int .u32 r.1) (fun r => trivial) (.int .u32 n) (fun r => decide ((r.1 : Int) = n)) (fun r => by simp) (rowD zeroRow) rows.reverse
  have e : numD 30 = fold (fun r => .int .u32 r.1) rows.reverse.reverse := by rw [List.reverse_reverse]; rfl
  have e2 : rows.reverse.find? (fun r => decide ((r.1 : Int) = n)) = byNum n :=
    by exact find_rev _ _ (nums_apart.imp fun hab ha => by simp only [decide_eq_true_eq, decide_eq_false_iff_not] at *; omega)
  rw [e, h.1, h.2, e2]
  exact ⟨by cases byNum n <;> rfl, rfl⟩
end Go.Proofs.Ytcageojoafkojaa
namespace Go.Proofs.Ytcageojoafkojaa
open Go.RowKit Go.Maps Go.WideMaps Go.WideElems Go.ChangeMaps

theorem zeroCall (w : World) : (zeroValue 291).run Try.prog w = .ok (rowV zeroRow) w := by kernel_rfl

theorem cells_setCell {w : World} {c : Nat} {cs : Array Value} {t : TypeId} {fz : Nat × Nat} (hr : w.heap[c]? = some (.cells cs t fz)) (j : Nat) (v : Value) :
    (w.setCell ⟨c, j, none⟩ v).heap[c]? = some (.cells (cs.setIfInBounds j v) t fz) := by
  simp [World.setCell, Array.getElem?_modify, hr]

end Go.Proofs.Ytcageojoafkojaa
namespace Go.Proofs.Ytcageojoafkojaa
open Go.RowKit

def letterP (c : Nat) : Prop := 97 ≤ c ∧ c ≤ 122
def behindP (c : Nat) : Prop := (48 ≤ c ∧ c ≤ 57) ∨ c = 45 ∨ c = 95
def goodP (i c : Nat) : Prop := letterP c ∨ (i ≠ 0 ∧ behindP c)
/-- One to fourteen bytes, each one good at its place. -/
def wordP (s : ByteArray) : Prop := 1 ≤ s.size ∧ s.size ≤ 14 ∧ ∀ i (h : i < s.size), goodP i (s[i]'h).toNat

def SaysWord (s : ByteArray) (w : World) (e : Ending) (w' : World) : Prop := (∃ b : Bool, e = .returned (.bool b) ∧ (b = true ↔ wordP s)) ∧ Below w.heap.size w w'

end Go.Proofs.Ytcageojoafkojaa

