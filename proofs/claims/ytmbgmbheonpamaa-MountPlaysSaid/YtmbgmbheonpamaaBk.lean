/- Blocks known whole, as lists of values; frames in which one block alone has turned. -/
import Derived.Test.YtmbgmbheonpamaaProg
import Derived.WalkKit
import Derived.Below
import Derived.Lib.Hide
import Derived.Laws.OwnMore
import Derived.Deep.QuietTactic
import Derived.OwnWalk
namespace Go.Proofs.Ytmbgmbheonpamaa
open Go.RowKit
/-- Block g is just these cells. -/
def Bk (w : World) (g t : Nat) (l : List Value) : Prop := w.heap[g]? = some (.cells l.toArray t (0, 0))
section
variable {w w' : World} {g t : Nat} {l : List Value}
theorem Bk.lt (h : Bk w g t l) : g < w.heap.size := (Array.getElem?_eq_some_iff.1 h).1
theorem Bk.cell (h : Bk w g t l) (j : Nat) {v : Value} (hv : l[j]? = some v) : w.cell? ⟨g, j, none⟩ = some v := by
  simp only [Bk] at h; simp [World.cell?, h, hv]
theorem Bk.fz (h : Bk w g t l) (j : Nat) : w.frozen? ⟨g, j, none⟩ = false := by simp only [Bk] at h; simp [World.frozen?, h]
theorem Bk.set (h : Bk w g t l) (j : Nat) (v : Value) : Bk (w.setCell ⟨g, j, none⟩ v) g t (l.set j v) := by
  simp only [Bk] at h ⊢; simp [World.setCell, Array.getElem?_modify, h]
theorem Bk.drew (h : Bk w g t l) : Bk w.drew g t l := h
theorem Bk.drewN (h : Bk w g t l) (n : Nat) : Bk (w.drewN n) g t l := h
theorem Bk.below {B : Nat} (h : Bk w g t l) (hb : Below B w w') (hg : g < B) : Bk w' g t l := (hb.block g hg).trans h
theorem Bk.kept (h : Bk w g t l) (hb : Below w.heap.size w w') : Bk w' g t l := h.below hb h.lt
theorem Bk.grown {r : Option Nat} (h : Bk w g t l) (hb : w.grownBy w' r) (hr : some g ≠ r) : Bk w' g t l := (hb.block g h.lt hr).trans h
theorem Bk.alloc (h : Bk w g t l) (o : Obj) : Bk (w.alloc o) g t l := (Below.heap_alloc w o g h.lt).trans h
theorem Bk.new (w : World) (t : Nat) (a : Array Value) (h : a = l.toArray) : Bk (w.alloc (.cells a t)) w.heap.size t l := by subst h; exact heap_alloc_new w _
end
theorem only_refl (w : World) (r : Option Nat) : w.grownBy w r := ⟨rfl, rfl, rfl, Nat.le_refl _, fun _ _ _ => rfl⟩
theorem only_trans {w w1 w2 : World} {g : Nat} (h : w.grownBy w1 (some g)) (k : w1.grownBy w2 (some g)) : w.grownBy w2 (some g) :=
  ⟨k.os.trans h.os, k.tape.trans h.tape, k.output.trans h.output, Nat.le_trans h.size k.size, fun i hi hn => (k.block i (Nat.lt_of_lt_of_le hi h.size) hn).trans (h.block i hi hn)⟩
theorem only_set (w : World) (g j : Nat) (v : Value) : w.grownBy (w.setCell ⟨g, j, none⟩ v) (some g) :=
  ⟨rfl, rfl, rfl, by simp [World.setCell], fun i _ hn => Below.heap_setCell w _ v i (fun e => hn (by rw [e]))⟩
theorem only_below {w0 w w' : World} {g B : Nat} (h : Below B w0 w) (k : w.grownBy w' (some g)) (hB : B ≤ w.heap.size) (hg : B ≤ g) : Below B w0 w' := h.grown k hB (fun q hq => by cases hq; exact hg)
theorem below_drewN {B : Nat} {a w : World} (h : Below B a w) (n : Nat) : Below B a (w.drewN n) := ⟨h.os, h.tape, h.output, h.size, h.block⟩
theorem drewN_two (w : World) (a b : Nat) : (w.drewN a).drewN b = w.drewN (a + b) := by unfold World.drewN; simp [Nat.add_assoc]
/-- A callee that leaves all as it is, in a region that only reads. -/
theorem quiet_l {P : Program} {f : FuncId} {args : Array Value} {w : World} {n : Nat} {v : Value}
    (h : Calls P f args (w.drewN n) fun e w' => e = .returned v ∧ w.drewN n = w') : Calls P f args (w.drewN n) fun e w' => e = .returned v ∧ ∃ m, w' = w.drewN m :=
  h.mono fun _ _ ⟨he, hm⟩ => ⟨he, n, hm.symm⟩
def u32s (l : List Nat) : List Value := l.map fun (x : Nat) => Value.int .u32 x
def u8s (l : List Nat) : List Value := l.map fun (x : Nat) => Value.int .u8 x
theorem u32s_at {l : List Nat} {k x : Nat} (h : l[k]? = some x) : (u32s l)[k]? = some (.int .u32 x) := by simp [u32s, h]
theorem u8s_at {l : List Nat} {k x : Nat} (h : l[k]? = some x) : (u8s l)[k]? = some (.int .u8 x) := by simp [u8s, h]
end Go.Proofs.Ytmbgmbheonpamaa

