/- Instructions as plain numbers: which codes there are, their bytes, and back. -/
import Derived.Laws.BitsAllLaws
import Derived.Lib.BitFns
import Derived.Test.YtinofjbnfmalkaaGreatDoorProg
import Derived.WalkKit
import Derived.Below
import Derived.Lib.Hide
import Derived.Laws.OwnMore
import Derived.Deep.QuietTactic
import Derived.OwnWalk
import Derived.Laws.Rows
import Derived.Laws.Tables
import Derived.Deep.AppendLies
import Derived.Deep.Onto
import Derived.LoopTactic
import Derived.Lib.ItoaNum
import Derived.Lib.Join
import Derived.Lib.Split
import Derived.Lib.IndexMore
import Derived.Lib.Strings
import Derived.Lib.SplitLaws
import Derived.Lib.IndexBytes
namespace Go.Proofs.YtinofjbnfmalkaaGreatDoor

structure Ins where
  c : Nat
  t : Nat
  f : Nat
  k : Nat
def Ins.ok (i : Ins) : Prop := i.c < 65536 ∧ i.t < 256 ∧ i.f < 256 ∧ i.k < 4294967296
def Ins.bs (i : Ins) : List Nat := [i.c % 256, i.c / 256, i.t, i.f, i.k % 256, i.k / 256 % 256, i.k / 65536 % 256, i.k / 16777216]
end Go.Proofs.YtinofjbnfmalkaaGreatDoor
namespace Go.Proofs.YtinofjbnfmalkaaGreatDoor
open Go.RowKit
def Bk (w : World) (g t : Nat) (l : List Value) : Prop := w.heap[g]? = some (.cells l.toArray t (0, 0))
section
variable {w w' : World} {g t : Nat} {l : List Value}
theorem Bk.lt (h : Bk w g t l) : g < w.heap.size := (Array.getElem?_eq_some_iff.1 h).1
theorem Bk.cell (h : Bk w g t l) (j : Nat) {v : Value} (hv : l[j]? = some v) : w.cell? ⟨g, j, none⟩ = some v := by
  simp only [Bk] at h; simp [World.cell?, h, hv]
theorem Bk.fz (h : Bk w g t l) (j : Nat) : w.frozen? ⟨g, j, none⟩ = false := by simp only [Bk] at h; simp [World.frozen?, h]
theorem Bk.set (h : Bk w g t l) (j : Nat) (v : Value) : Bk (w.setCell ⟨g, j, none⟩ v) g t (l.set j v) := by
  simp only [Bk] at h ⊢; simp [World.setCell, Array.getElem?_modify, h]
theorem Bk.drew (h : Bk w g t l) : Bk w.drew g t l := h
theorem Bk.drewN (h : Bk w g t l) (n : Nat) : Bk (w.drewN n) g t l := h
theorem Bk.below {B : Nat} (h : Bk w g t l) (hb : Below B w w') (hg : g < B) : Bk w' g t l := (hb.block g hg).trans h
theorem Bk.kept (h : Bk w g t l) (hb : Below w.heap.size w w') : Bk w' g t l := h.below hb h.lt
theorem Bk.grown {r : Option Nat} (h : Bk w g t l) (hb : w.grownBy w' r) (hr : some g ≠ r) : Bk w' g t l := (hb.block g h.lt hr).trans h
theorem Bk.alloc (h : Bk w g t l) (o : Obj) : Bk (w.alloc o) g t l := (Below.heap_alloc w o g h.lt).trans h
theorem Bk.new (w : World) (t : Nat) (a : Array Value) (h : a = l.toArray) : Bk (w.alloc (.cells a t)) w.heap.size t l := by subst h; exact heap_alloc_new w _
end
theorem only_refl (w : World) (r : Option Nat) : w.grownBy w r := ⟨rfl, rfl, rfl, Nat.le_refl _, fun _ _ _ => rfl⟩
theorem only_trans {w w1 w2 : World} {g : Nat} (h : w.grownBy w1 (some g)) (k : w1.grownBy w2 (some g)) : w.grownBy w2 (some g) :=
  ⟨k.os.trans h.os, k.tape.trans h.tape, k.output.trans h.output, Nat.le_trans h.size k.size, fun i hi hn => (k.block i (Nat.lt_of_lt_of_le hi h.size) hn).trans (h.block i hi hn)⟩
theorem only_set (w : World) (g j : Nat) (v : Value) : w.grownBy (w.setCell ⟨g, j, none⟩ v) (some g) :=
  ⟨rfl, rfl, rfl, by simp [World.setCell], fun i _ hn => Below.heap_setCell w _ v i (fun e => hn (by rw [e]))⟩
theorem below_drewN {B : Nat} {a w : World} (h : Below B a w) (n : Nat) : Below B a (w.drewN n) := ⟨h.os, h.tape, h.output, h.size, h.block⟩
theorem drewN_two (w : World) (a b : Nat) : (w.drewN a).drewN b = w.drewN (a + b) := by unfold World.drewN; simp [Nat.add_assoc]
theorem quiet_l {P : Program} {f : FuncId} {args : Array Value} {w : World} {n : Nat} {v : Value}
    (h : Calls P f args (w.drewN n) fun e w' => e = .returned v ∧ w.drewN n = w') : Calls P f args (w.drewN n) fun e w' => e = .returned v ∧ ∃ m, w' = w.drewN m :=
  h.mono fun _ _ ⟨he, hm⟩ => ⟨he, n, hm.symm⟩
def u8s (l : List Nat) : List Value := l.map fun (x : Nat) => Value.int .u8 x
theorem u8s_at {l : List Nat} {k x : Nat} (h : l[k]? = some x) : (u8s l)[k]? = some (.int .u8 x) := by simp [u8s, h]
end Go.Proofs.YtinofjbnfmalkaaGreatDoor
namespace Go.Proofs.YtinofjbnfmalkaaGreatDoor
open Go.RowKit
theorem Bk.row {w : World} {g t : Nat} {l : List Value} (h : Bk w g t l) (l' : List Value) : Bk (w.setRow g l'.toArray) g t l' := setRow_heap w g l.toArray l'.toArray t (0, 0) h
section
variable {w : World} {g t ty n e : Nat} {l l' : List Value} {ops : Array Oper} {rest : List Oper} {o : Oper} {a : Act} {Q : Exit → Act → World → Prop}
end
section
variable {w : World} {g t ty n e : Nat} {l : List Value}
end
end Go.Proofs.YtinofjbnfmalkaaGreatDoor
namespace Go.Proofs.YtinofjbnfmalkaaGreatDoor
open Go.RowKit
structure Rd (w : World) (z n : Nat) (A : Option Addr) (xs : List Value) : Prop where
  len : xs.length = n * z
  at_ : n = 0 ∨ ∃ b o, A = some ⟨b, o, none⟩ ∧ b < w.heap.size ∧ ∀ j u, xs[j]? = some u → w.cell? ⟨b, o + j, none⟩ = some u
section
variable {w w' : World} {z n : Nat} {A : Option Addr} {xs : List Value}
theorem Rd.below (h : Rd w z n A xs) (hb : Below w.heap.size w w') : Rd w' z n A xs :=
  ⟨h.len, h.at_.imp id fun ⟨b, o, e, hl, hc⟩ => ⟨b, o, e, Nat.lt_of_lt_of_le hl hb.size, fun j u hu => (hb.cell (p := ⟨b, o + j, none⟩) hl).trans (hc j u hu)⟩⟩
theorem Rd.kept {B : Nat} (h : Rd w z n A xs) (hB : B = w.heap.size) (hb : Below B w w') : Rd w' z n A xs := h.below (hB ▸ hb)
theorem Rd.pos (h : Rd w z n A xs) (hn : 0 < n) : ∃ b o, A = some ⟨b, o, none⟩ ∧ b < w.heap.size ∧ ∀ j u, xs[j]? = some u → w.cell? ⟨b, o + j, none⟩ = some u := by
  rcases h.at_ with e | e
  · omega
  · exact e
theorem Rd.nil (w : World) (z : Nat) (A : Option Addr) : Rd w z 0 A [] := ⟨by simp, .inl rfl⟩
end
theorem own_below {w w' : World} {base : Nat} {e : TypeId} {z n : Nat} {v : Value} {xs : List Value} (h : w.ownsRow base e z v n xs) (hb : Below w.heap.size w w') : w'.ownsRow base e z v n xs := by
  refine ⟨h.1, h.2.imp id fun ⟨g, cap, cur, e, h1, h2, h3⟩ => ⟨g, cap, cur, e, h1, ?_, h3⟩⟩
  rw [hb.block g (Array.getElem?_eq_some_iff.1 h2).1]; exact h2
end Go.Proofs.YtinofjbnfmalkaaGreatDoor
namespace Go.Proofs.YtinofjbnfmalkaaGreatDoor
open Go.RowKit
def Ins.cells (i : Ins) : List Value := [.int .u16 i.c, .int .u8 i.t, .int .u8 i.f, .int .u32 i.k]
end Go.Proofs.YtinofjbnfmalkaaGreatDoor
namespace Go.Proofs.YtinofjbnfmalkaaGreatDoor
open Go.RowKit
structure Seg (w : World) (B z n : Nat) (A : Option Addr) (xs : List Value) : Prop where
  len : xs.length = n * z
  at_ : n = 0 ∨ ∃ b o, A = some ⟨b, o, none⟩ ∧ B ≤ b ∧ b < w.heap.size ∧ ∀ j u, xs[j]? = some u → w.cell? ⟨b, o + j, none⟩ = some u
section
variable {w w' : World} {B z n : Nat} {A : Option Addr} {xs : List Value}
theorem Seg.rd (h : Seg w B z n A xs) : Rd w z n A xs := ⟨h.len, h.at_.imp id fun ⟨b, o, e, _, h1, h2⟩ => ⟨b, o, e, h1, h2⟩⟩
theorem Rd.seg (h : Rd w z n A xs) : Seg w 0 z n A xs := ⟨h.len, h.at_.imp id fun ⟨b, o, e, h1, h2⟩ => ⟨b, o, e, Nat.zero_le _, h1, h2⟩⟩
theorem Seg.below (h : Seg w B z n A xs) (hb : Below w.heap.size w w') : Seg w' B z n A xs :=
  ⟨h.len, h.at_.imp id fun ⟨b, o, e, h0, hl, hc⟩ => ⟨b, o, e, h0, Nat.lt_of_lt_of_le hl hb.size, fun j u hu => (hb.cell (p := ⟨b, o + j, none⟩) hl).trans (hc j u hu)⟩⟩
theorem Seg.pos (h : Seg w B z n A xs) (hn : 0 < n) : ∃ b o, A = some ⟨b, o, none⟩ ∧ B ≤ b ∧ b < w.heap.size ∧ ∀ j u, xs[j]? = some u → w.cell? ⟨b, o + j, none⟩ = some u := by
  rcases h.at_ with e | e
  · omega
  · exact e
theorem Seg.nil (w : World) (B z : Nat) (A : Option Addr) : Seg w B z 0 A [] := ⟨by simp, .inl rfl⟩
end
theorem own_seg {w : World} {base : Nat} {e : TypeId} {z n : Nat} {v : Value} {xs : List Value} (h : w.ownsRow base e z v n xs) :
    ∃ A c, v = .slice A n c ∧ n ≤ c ∧ Seg w base z n A xs := by
  rcases h.2 with ⟨rfl, rfl⟩ | ⟨g, cap, cur, rfl, hb, hh, hn, hm, hs, rfl⟩
  · exact ⟨none, 0, rfl, Nat.le_refl _, h.1, .inl rfl⟩
  · refine ⟨_, cap, rfl, hn, h.1, .inr ⟨g, 0, rfl, hb, (Array.getElem?_eq_some_iff.1 hh).1, fun j u hu => ?_⟩⟩
    have := h.cells (g := g) rfl j u hu
    rw [← this]
    simp [Addr.add]
    by_cases hj : j = 0 <;> simp [hj]
theorem Bk.seg {w : World} {e z n g B : Nat} {xs : List Value} (h : Bk w g e xs) (hl : xs.length = n * z) (hb : B ≤ g) : Seg w B z n (some ⟨g, 0, none⟩) xs :=
  ⟨hl, .inr ⟨g, 0, rfl, hb, h.lt, fun j u hu => by rw [Nat.zero_add]; exact h.cell j hu⟩⟩
theorem Seg.grown {w w' : World} {B z n g : Nat} {A : Option Addr} {xs : List Value} (h : Seg w B z n A xs) (hg : w.grownBy w' (some g)) (hB : g < B) : Seg w' B z n A xs :=
  ⟨h.len, h.at_.imp id fun ⟨b, o, e, h0, hl, hc⟩ => ⟨b, o, e, h0, Nat.lt_of_lt_of_le hl hg.size, fun j u hu => by
    rw [← hc j u hu]
    unfold World.cell?
    rw [hg.block b hl (fun e => by cases e; omega)]⟩⟩
end Go.Proofs.YtinofjbnfmalkaaGreatDoor
namespace Go.Proofs.YtinofjbnfmalkaaGreatDoor
abbrev Bs := List UInt8
structure Ln where
  w : Bs
  c : Nat
  s : Nat
deriving DecidableEq
def tab : List Ln := [
  ⟨[108, 100, 108, 101, 110], 128, 0⟩, ⟨[108, 100, 120, 108, 101, 110], 129, 0⟩, ⟨[114, 101, 116, 97], 22, 0⟩, ⟨[116, 97, 120], 7, 0⟩, ⟨[116, 120, 97], 135, 0⟩, ⟨[110, 101, 103], 132, 0⟩,
  ⟨[97, 100, 100, 120], 12, 0⟩, ⟨[115, 117, 98, 120], 28, 0⟩, ⟨[109, 117, 108, 120], 44, 0⟩, ⟨[100, 105, 118, 120], 60, 0⟩, ⟨[111, 114, 120], 76, 0⟩, ⟨[97, 110, 100, 120], 92, 0⟩,
  ⟨[108, 115, 104, 120], 108, 0⟩, ⟨[114, 115, 104, 120], 124, 0⟩, ⟨[120, 111, 114, 120], 172, 0⟩, ⟨[108, 100], 0, 1⟩, ⟨[108, 100, 97, 98, 115], 32, 1⟩, ⟨[108, 100, 109, 101, 109], 96, 1⟩,
  ⟨[108, 100, 120], 1, 1⟩, ⟨[108, 100, 120, 109, 101, 109], 97, 1⟩, ⟨[115, 116], 2, 1⟩, ⟨[115, 116, 120], 3, 1⟩, ⟨[114, 101, 116], 6, 1⟩, ⟨[106, 97], 5, 1⟩,
  ⟨[97, 100, 100], 4, 1⟩, ⟨[115, 117, 98], 20, 1⟩, ⟨[109, 117, 108], 36, 1⟩, ⟨[100, 105, 118], 52, 1⟩, ⟨[111, 114], 68, 1⟩, ⟨[97, 110, 100], 84, 1⟩,
  ⟨[108, 115, 104], 100, 1⟩, ⟨[114, 115, 104], 116, 1⟩, ⟨[120, 111, 114], 164, 1⟩, ⟨[106, 101, 113], 21, 2⟩, ⟨[106, 103, 116], 37, 2⟩, ⟨[106, 103, 101], 53, 2⟩,
  ⟨[106, 115, 101, 116], 69, 2⟩, ⟨[106, 101, 113, 120], 29, 3⟩, ⟨[106, 103, 116, 120], 45, 3⟩, ⟨[106, 103, 101, 120], 61, 3⟩, ⟨[106, 115, 101, 116, 120], 77, 3⟩]
def rawL : Ln := ⟨[114, 97, 119], 0, 4⟩
def flds (s : Nat) : List Nat := if s = 1 then [3] else if s = 2 then [3, 1, 2] else if s = 3 then [1, 2] else if s = 4 then [0, 1, 2, 3] else []
def most (f : Nat) : Nat := if f = 0 then 65535 else if f = 3 then 4294967295 else 255
def getF (f : Nat) (i : Ins) : Nat := if f = 0 then i.c else if f = 1 then i.t else if f = 2 then i.f else i.k
def setF (f : Nat) (i : Ins) (n : Nat) : Ins := if f = 0 then { i with c := n } else if f = 1 then { i with t := n } else if f = 2 then { i with f := n } else if f = 3 then { i with k := n } else i
def named (w : Bs) : Option Ln := if w = rawL.w then some rawL else tab.find? (fun l => l.w == w)
def tellsGo : List Nat → Ins → Ins → Ins
  | [], left, _ => left
  | f :: r, left, i => tellsGo r (setF f left (getF f i)) i
def tells (l : Ln) (i : Ins) : Ins := tellsGo (flds l.s) ⟨l.c, 0, 0, 0⟩ i
def sameI (a b : Ins) : Bool := decide (a.c = b.c ∧ a.t = b.t ∧ a.f = b.f ∧ a.k = b.k)
def hits (i : Ins) (l : Ln) : Bool := decide (l.c = i.c) && sameI (tells l i) i
def lineOf (i : Ins) : Ln := (tab.find? (hits i)).getD rawL
def words (i : Ins) : List Bs := (lineOf i).w :: (flds (lineOf i).s).map fun f => Lib.decDigits (getF f i)
def told (i : Ins) : Bs := Lib.join (words i) [32]
def text (L : List Ins) : Bs := L.flatMap fun i => told i ++ [10]
def dig (b : Nat) (c : UInt8) : Option Nat :=
  if 48 ≤ c.toNat ∧ c.toNat ≤ 57 then (if c.toNat - 48 < b then some (c.toNat - 48) else none)
  else if 97 ≤ c.toNat ∧ c.toNat ≤ 122 then (if c.toNat - 87 < b then some (c.toNat - 87) else none) else none
def horner (b : Nat) : Bs → Nat → Option Nat
  | [], n => some n
  | c :: t, n => match dig b c with
    | none => none
    | some d => if n * b + d < 18446744073709551616 then horner b t (n * b + d) else none
def hexed (s : Bs) : Bool := Lib.hasPrefix s [48, 120]
def digits (s : Bs) : Bs := if hexed s then s.drop 2 else s
def base (s : Bs) : Nat := if hexed s then 16 else 10
def number (s : Bs) : Option Nat :=
  if 1 < (digits s).length ∧ (digits s).head? = some 48 then none
  else if digits s = [] then none else horner (base s) (digits s) 0
end Go.Proofs.YtinofjbnfmalkaaGreatDoor
namespace Go.Proofs.YtinofjbnfmalkaaGreatDoor
def lines : Bs → List Bs
  | [] => [[]]
  | c :: t => if c = 10 then [] :: lines t else match lines t with | h :: r => (c :: h) :: r | [] => [[c]]
def cutH : Bs → Bs
  | [] => []
  | c :: t => if c = 35 then [] else c :: cutH t
theorem lines_ne (s : Bs) : lines s ≠ [] := by
  cases s with
  | nil => simp [lines]
  | cons c t =>
    unfold lines
    split
    · simp
    · split <;> simp
theorem lines_plain (a : Bs) (b : Bs) (h : ∀ c ∈ a, c ≠ 10) : lines (a ++ 10 :: b) = a :: lines b := by
  induction a with
  | nil => simp [lines]
  | cons c t ih =>
    have h1 := h c (by simp)
    have h2 := ih (fun x hx => h x (by simp [hx]))
    simp only [List.cons_append, lines, if_neg h1, h2]
theorem cutH_plain (a : Bs) (h : ∀ c ∈ a, c ≠ 35) : cutH a = a := by
  induction a with
  | nil => rfl
  | cons c t ih => simp only [cutH, if_neg (h c (by simp)), ih (fun x hx => h x (by simp [hx]))]
theorem dec_bytes (u : Nat) : ∀ c ∈ Lib.decDigits u, 48 ≤ c.toNat ∧ c.toNat ≤ 57 := by
  induction u using Nat.strongRecOn with
  | _ u ih =>
    intro c hc
    rw [Lib.decDigits] at hc
    split at hc
    · simp at hc; subst hc; simp; omega
    · rcases List.mem_append.1 hc with hc | hc
      · exact ih (u / 10) (by omega) c hc
      · simp at hc; subst hc; simp; omega
theorem dec_ne (u : Nat) : Lib.decDigits u ≠ [] := by
  intro h
  have := congrArg List.length h
  rw [Lib.decDigits_length] at this
  have := Lib.nDigits_pos u
  simp at *; omega
theorem horner_app (b : Nat) : ∀ (x y : Bs) (n m : Nat), horner b x n = some m → horner b (x ++ y) n = horner b y m
  | [], y, n, m, h => by simp [horner] at h; subst h; rfl
  | c :: x, y, n, m, h => by
    rw [List.cons_append, horner]
    rw [horner] at h
    cases hd : dig b c with
    | none => simp [hd] at h
    | some d =>
      simp only [hd] at h ⊢
      split at h
      · rename_i hlt; rw [if_pos hlt]; exact horner_app b x y _ m h
      · cases h
theorem dig10_at (d : Nat) (h : d < 10) : dig 10 (UInt8.ofNat (48 + d)) = some d := by
  have e : (UInt8.ofNat (48 + d)).toNat = 48 + d := by simp; omega
  unfold dig
  rw [e, if_pos (by omega), show 48 + d - 48 = d by omega, if_pos h]
theorem horner_dec (u : Nat) (h : u < 18446744073709551616) : horner 10 (Lib.decDigits u) 0 = some u := by
  induction u using Nat.strongRecOn with
  | _ u ih =>
    rw [Lib.decDigits]
    split
    · rename_i hlt
      unfold horner
      rw [dig10_at u hlt]
      simp only
      rw [if_pos (by omega)]
      simp [horner]
    · have := ih (u / 10) (by omega) (by omega)
      rw [horner_app _ _ _ _ _ this]
      unfold horner
      rw [dig10_at (u % 10) (by omega)]
      simp only
      rw [if_pos (by omega)]
      simp only [horner]
      congr 1
      omega
theorem dec_head (u : Nat) : (Lib.decDigits u).head? = some 48 → u = 0 := by
  induction u using Nat.strongRecOn with
  | _ u ih =>
    rw [Lib.decDigits]
    split
    · rename_i hlt
      intro h
      have h' : UInt8.ofNat (48 + u) = 48 := by simpa only [List.head?_cons, Option.some.injEq] using h
      have e : (UInt8.ofNat (48 + u)).toNat = 48 := by rw [h']; rfl
      simp at e
      omega
    · intro h
      have hne := dec_ne (u / 10)
      rw [List.head?_append, Option.or_of_isSome (by simpa using hne)] at h
      have := ih (u / 10) (by omega) h
      omega
theorem dec_zero : Lib.decDigits 0 = [48] := by rw [Lib.decDigits]; rfl
theorem not_hexed {s : Bs} (h : ∀ c ∈ s, c.toNat ≤ 57) : hexed s = false := by
  unfold hexed Lib.hasPrefix
  match s, h with
  | [], _ => rfl
  | [a], _ => by_cases e : a = 48 <;> simp [List.isPrefixOf, e]
  | a :: b :: r, h =>
    have := h b (by simp)
    have hb : ¬ (120 : UInt8) = b := by rintro rfl; simp at this
    simp [List.isPrefixOf, hb]
theorem number_dec (u : Nat) (h : u < 18446744073709551616) : number (Lib.decDigits u) = some u := by
  have hx : hexed (Lib.decDigits u) = false := not_hexed (fun c hc => (dec_bytes u c hc).2)
  unfold number
  have hd : digits (Lib.decDigits u) = Lib.decDigits u := by unfold digits; rw [hx]; rfl
  have hb : base (Lib.decDigits u) = 10 := by unfold base; rw [hx]; rfl
  rw [hd, hb, horner_dec u h, if_neg (dec_ne u)]
  by_cases h0 : u = 0
  · subst h0
    rw [dec_zero]
    rfl
  · rw [if_neg (fun e => h0 (dec_head u e.2))]
theorem words_ne (i : Ins) : words i ≠ [] := by unfold words; simp
end Go.Proofs.YtinofjbnfmalkaaGreatDoor
namespace Go.Proofs.YtinofjbnfmalkaaGreatDoor
structure Tok where
  k : Nat
  t : Bs
  n : Nat
  line : Nat
  col : Nat
deriving DecidableEq
def isL (c : Nat) : Bool := decide (97 ≤ c) && decide (c ≤ 122)
def isD (c : Nat) : Bool := decide (48 ≤ c) && decide (c ≤ 57)
def isP (c : Nat) : Bool := c == 32 || (c == 9 || c == 13)
def prn (c : Nat) : Bool := decide (33 ≤ c) && (decide (c ≤ 126) && c != 35)
def sgn (c : Nat) : Bool := c == 61 || (c == 33 || (c == 60 || (c == 62 || c == 38)))
def begunB (c : Nat) : Nat := if isL c then 1 else if isD c then 2 else if c = 47 then 3 else 4
def hasB (k c : Nat) : Bool := if k = 1 then isL c || (isD c || (c == 45 || (c == 95 || c == 44))) else if k = 2 then isL c || isD c else if k = 3 then prn c else sgn c
def isSign (t : Bs) : Bool := decide (t = [61, 61]) || (decide (t = [33, 61]) || (decide (t = [60]) || (decide (t = [60, 61]) || (decide (t = [62]) || (decide (t = [62, 61]) || decide (t = [38]))))))
def valB (k : Nat) (t : Bs) : Nat × Nat :=
  if k = 2 then (match number t with | some n => (n, 0) | none => (0, 204))
  else if k = 3 then (0, if 120 < t.length then 36 else 0)
  else if k = 4 then (0, if isSign t then 0 else 202) else (0, 0)
def tw (p : Nat → Bool) (s : Bs) : Bs := s.takeWhile fun c => p c.toNat
def dw (p : Nat → Bool) (s : Bs) : Bs := s.dropWhile fun c => p c.toNat
def nextS (s : Bs) : Option (Nat × Bs × Nat × Bs) :=
  match dw isP s with
  | [] => none
  | c :: r => some (begunB c.toNat, tw (hasB (begunB c.toNat)) (c :: r), (tw isP s).length, dw (hasB (begunB c.toNat)) (c :: r))
def lexF (ln : Nat) : Nat → Bs → Nat → List Tok × Nat × Nat
  | 0, _, _ => ([], 0, 0)
  | f + 1, s, at_ =>
    match nextS s with
    | none => ([], 0, 0)
    | some (k, t, g, r) =>
      if (valB k t).2 ≠ 0 then ([], at_ + g + 1, (valB k t).2)
      else (⟨k, t, (valB k t).1, ln, at_ + g + 1⟩ :: (lexF ln f r (at_ + g + t.length)).1, (lexF ln f r (at_ + g + t.length)).2)
structure Wr where
  l : Nat
  c : Nat
  e : Nat
deriving DecidableEq
def noW : Wr := ⟨0, 0, 0⟩
def endT (ln n : Nat) : Tok := ⟨0, [], 0, ln, n + 1⟩
def lineR (ln n : Nat) (r : List Tok × Nat × Nat) : List Tok × Wr :=
  if r.2.2 ≠ 0 then ([], ⟨ln, r.2.1, r.2.2⟩) else if r.1 = [] then ([], noW) else (r.1 ++ [endT ln n], noW)
def lineB (ln : Nat) (s : Bs) : List Tok × Wr := lineR ln (cutH s).length (lexF ln ((cutH s).length + 1) (cutH s) 0)
def lexL : List Bs → Nat → List Tok → List Tok × Wr
  | [], _, acc => (acc, noW)
  | l :: ls, k, acc => if (lineB (k + 1) l).2 ≠ noW then ([], (lineB (k + 1) l).2) else lexL ls (k + 1) (acc ++ (lineB (k + 1) l).1)
def lexB (s : Bs) : List Tok × Wr := if 65536 < s.length then ([], ⟨0, 0, 36⟩) else lexL (lines s) 0 []
theorem tw_dw (p : Nat → Bool) (s : Bs) : tw p s ++ dw p s = s := List.takeWhile_append_dropWhile
theorem dw_drop (p : Nat → Bool) (s : Bs) : dw p s = s.drop (tw p s).length := by
  have h := tw_dw p s
  have : (tw p s ++ dw p s).drop (tw p s).length = dw p s := by simp
  rw [h] at this; exact this.symm
theorem tw_len (p : Nat → Bool) (s : Bs) : (tw p s).length ≤ s.length := by
  have := congrArg List.length (tw_dw p s)
  simp at this; omega
theorem tw_all (p : Nat → Bool) (s : Bs) : ∀ c ∈ tw p s, p c.toNat = true := by
  intro c hc
  unfold tw at hc
  induction s with
  | nil => simp at hc
  | cons a s ih =>
    rw [List.takeWhile_cons] at hc
    split at hc
    · rcases List.mem_cons.1 hc with rfl | hc
      · assumption
      · exact ih hc
    · simp at hc
theorem tw_app (p : Nat → Bool) (a b : Bs) (h : ∀ c ∈ a, p c.toNat = true) (hb : ∀ c, b.head? = some c → p c.toNat = false) : tw p (a ++ b) = a ∧ dw p (a ++ b) = b := by
  unfold tw dw
  induction a with
  | nil =>
    cases b with
    | nil => simp
    | cons c b => have := hb c rfl; simp [this]
  | cons x a ih =>
    have h1 := h x (by simp)
    obtain ⟨i1, i2⟩ := ih (fun c hc => h c (by simp [hc]))
    rw [List.cons_append, List.takeWhile_cons, List.dropWhile_cons]
    simp only [h1, if_true, i1, i2, and_self]
theorem nextS_len {s : Bs} {k g : Nat} {t r : Bs} (h : nextS s = some (k, t, g, r)) : g + t.length + r.length = s.length ∧ r = s.drop (g + t.length) ∧ s.drop g = t ++ r ∧ g < s.length := by
  unfold nextS at h
  have h0 := tw_dw isP s
  have hd := dw_drop isP s
  split at h
  · cases h
  · rename_i c r0 e
    simp only [Option.some.injEq, Prod.mk.injEq] at h
    obtain ⟨rfl, rfl, rfl, rfl⟩ := h
    have h1 := tw_dw (hasB (begunB c.toNat)) (c :: r0)
    have h2 := dw_drop (hasB (begunB c.toNat)) (c :: r0)
    have e1 := congrArg List.length h0
    have e2 := congrArg List.length h1
    rw [e] at e1 hd
    simp only [List.length_append, List.length_cons] at e1 e2
    refine ⟨by omega, ?_, by rw [h1, hd], by omega⟩
    rw [h2, hd, List.drop_drop]
theorem valB_pos {t : Bs} (h : (valB 4 t).2 = 0) : t ≠ [] := by
  rintro rfl
  simp [valB, isSign] at h
theorem has_begun (c : Nat) (h : begunB c ≠ 4) : hasB (begunB c) c = true := by
  unfold begunB at h ⊢
  by_cases h1 : isL c = true
  · simp [h1, hasB]
  · by_cases h2 : isD c = true
    · simp [h1, h2, hasB]
    · by_cases h3 : c = 47
      · subst h3; decide
      · simp [h1, h2, h3] at h
theorem next_pos {s : Bs} {k g : Nat} {t r : Bs} (h : nextS s = some (k, t, g, r)) (hv : (valB k t).2 = 0) : t ≠ [] := by
  unfold nextS at h
  split at h
  · cases h
  · rename_i c r0 e
    simp only [Option.some.injEq, Prod.mk.injEq] at h
    obtain ⟨rfl, rfl, rfl, rfl⟩ := h
    by_cases h4 : begunB c.toNat = 4
    · rw [h4] at hv; rw [h4]; exact valB_pos hv
    · have := has_begun c.toNat h4
      unfold tw
      rw [List.takeWhile_cons]
      simp [this]
theorem begunB_pos (c : Nat) : 1 ≤ begunB c ∧ begunB c ≤ 4 := by
  unfold begunB
  split
  · omega
  split
  · omega
  split <;> omega
theorem lexF_step {ln f at_ k g : Nat} {s t r : Bs} (h : nextS s = some (k, t, g, r)) (hv : (valB k t).2 = 0) :
    lexF ln (f + 1) s at_ = (⟨k, t, (valB k t).1, ln, at_ + g + 1⟩ :: (lexF ln f r (at_ + g + t.length)).1, (lexF ln f r (at_ + g + t.length)).2) := by
  rw [lexF, h]
  simp only
  rw [if_neg (by simpa using hv)]
theorem lexF_bad {ln f at_ k g : Nat} {s t r : Bs} (h : nextS s = some (k, t, g, r)) (hv : (valB k t).2 ≠ 0) : lexF ln (f + 1) s at_ = ([], at_ + g + 1, (valB k t).2) := by
  rw [lexF, h]
  simp only
  rw [if_pos hv]
theorem lexF_none {ln f at_ : Nat} {s : Bs} (h : nextS s = none) : lexF ln (f + 1) s at_ = ([], 0, 0) := by rw [lexF, h]
theorem lexF_fuel (ln : Nat) : ∀ (f f' : Nat) (s : Bs) (at_ : Nat), s.length < f → s.length < f' → lexF ln f s at_ = lexF ln f' s at_
  | 0, _, _, _, h, _ => by omega
  | _, 0, _, _, _, h => by omega
  | f + 1, f' + 1, s, at_, h, h' => by
    cases hn : nextS s with
    | none => rw [lexF_none hn, lexF_none hn]
    | some x =>
      obtain ⟨k, t, g, r⟩ := x
      by_cases hv : (valB k t).2 = 0
      · have hl := nextS_len hn
        have ht := List.length_pos_iff.2 (next_pos hn hv)
        rw [lexF_step hn hv, lexF_step hn hv, lexF_fuel ln f f' r _ (by omega) (by omega)]
      · rw [lexF_bad hn hv, lexF_bad hn hv]
def pre (acc : List Tok) (r : List Tok × Nat × Nat) : List Tok × Nat × Nat := if r.2.2 ≠ 0 then ([], r.2) else (acc ++ r.1, r.2)
def lexP (ln : Nat) (s : Bs) (at_ : Nat) (acc : List Tok) : List Tok × Nat × Nat := pre acc (lexF ln (s.length + 1) s at_)
theorem lexP_none {ln at_ : Nat} {s : Bs} {acc : List Tok} (h : nextS s = none) : lexP ln s at_ acc = (acc, 0, 0) := by
  unfold lexP pre; rw [lexF_none h]; simp
theorem lexP_bad {ln at_ k g : Nat} {s t r : Bs} {acc : List Tok} (h : nextS s = some (k, t, g, r)) (hv : (valB k t).2 ≠ 0) : lexP ln s at_ acc = ([], at_ + g + 1, (valB k t).2) := by
  unfold lexP pre; rw [lexF_bad h hv]; simp [hv]
theorem lexP_step {ln at_ k g : Nat} {s t r : Bs} {acc : List Tok} (h : nextS s = some (k, t, g, r)) (hv : (valB k t).2 = 0) :
    lexP ln s at_ acc = lexP ln r (at_ + g + t.length) (acc ++ [⟨k, t, (valB k t).1, ln, at_ + g + 1⟩]) := by
  have hl := nextS_len h
  have ht := List.length_pos_iff.2 (next_pos h hv)
  unfold lexP
  rw [lexF_step h hv, lexF_fuel ln s.length (r.length + 1) r _ (by omega) (by omega)]
  generalize lexF ln (r.length + 1) r (at_ + g + t.length) = R
  unfold pre
  simp only [List.append_assoc, List.cons_append, List.nil_append]
theorem lineR_pre (ln n : Nat) (s : Bs) : lineR ln n (lexP ln s 0 []) = lineR ln n (lexF ln (s.length + 1) s 0) := by
  unfold lexP pre
  split
  · rename_i h; unfold lineR; rw [if_pos h, if_pos h]
  · simp
theorem lineB_eq (ln : Nat) (s : Bs) : lineB ln s = lineR ln (cutH s).length (lexP ln (cutH s) 0 []) := by rw [lineR_pre]; rfl
end Go.Proofs.YtinofjbnfmalkaaGreatDoor
namespace Go.Proofs.YtinofjbnfmalkaaGreatDoor
open Go.RowKit
def Says (b : Bool) (w : World) (e : Ending) (w' : World) : Prop := e = .returned (.bool b) ∧ w = w'
theorem letter_any (c : Nat) (w : World) : Calls Tryz.prog 151 #[.int .u8 c] w (Says (isL c) w) := by
  by_cases h1 : 97 ≤ c
  · have g1 : (97 : Int) ≤ (c : Int) := by omega
    have d1 : decide ((97 : Int) ≤ (c : Int)) = true := decide_eq_true g1
    have e1 : isL c = decide (c ≤ 122) := by simp [isL, h1]
    have e2 : decide ((c : Int) ≤ 122) = decide (c ≤ 122) := by simp; omega
    rw [e1, ← e2]
    clear e1 e2 h1
    go_enter Tryz.func151, Tryz.ntmps151
    go_wp2
    go_ret
    exact ⟨rfl, rfl⟩
  · have g1 : ¬ (97 : Int) ≤ (c : Int) := by omega
    have d1 : decide ((97 : Int) ≤ (c : Int)) = false := decide_eq_false g1
    have e1 : isL c = false := by simp [isL, h1]
    rw [e1]
    clear e1 h1
    go_enter Tryz.func151, Tryz.ntmps151
    go_wp2
    go_ret
    exact ⟨rfl, rfl⟩
theorem digit_any (c : Nat) (w : World) : Calls Tryz.prog 152 #[.int .u8 c] w (Says (isD c) w) := by
  by_cases h1 : 48 ≤ c
  · have g1 : (48 : Int) ≤ (c : Int) := by omega
    have d1 : decide ((48 : Int) ≤ (c : Int)) = true := decide_eq_true g1
    have e1 : isD c = decide (c ≤ 57) := by simp [isD, h1]
    have e2 : decide ((c : Int) ≤ 57) = decide (c ≤ 57) := by simp; omega
    rw [e1, ← e2]
    clear e1 e2 h1
    go_enter Tryz.func152, Tryz.ntmps152
    go_wp2
    go_ret
    exact ⟨rfl, rfl⟩
  · have g1 : ¬ (48 : Int) ≤ (c : Int) := by omega
    have d1 : decide ((48 : Int) ≤ (c : Int)) = false := decide_eq_false g1
    have e1 : isD c = false := by simp [isD, h1]
    rw [e1]
    clear e1 h1
    go_enter Tryz.func152, Tryz.ntmps152
    go_wp2
    go_ret
    exact ⟨rfl, rfl⟩
theorem ne_lit {c d : Nat} (h : ¬ c = d) : ((c : Int) == (d : Int)) = false := by rw [beq_eq_false_iff_ne]; omega
theorem parts_any (c : Nat) (w : World) : Calls Tryz.prog 125 #[.int .u8 c] w (Says (isP c) w) := by
  by_cases h1 : c = 32
  · subst h1
    go_enter Tryz.func125, Tryz.ntmps125
    go_wp2
    go_ret
    exact ⟨rfl, rfl⟩
  by_cases h2 : c = 9
  · subst h2
    go_enter Tryz.func125, Tryz.ntmps125
    go_wp2
    go_ret
    exact ⟨rfl, rfl⟩
  by_cases h3 : c = 13
  · subst h3
    go_enter Tryz.func125, Tryz.ntmps125
    go_wp2
    go_ret
    exact ⟨rfl, rfl⟩
  · have g1 : ((c : Int) == 32) = false := ne_lit h1
    have g2 : ((c : Int) == 9) = false := ne_lit h2
    have g3 : ((c : Int) == 13) = false := ne_lit h3
    have e1 : isP c = false := by simp [isP, h1, h2, h3]
    rw [e1]
    clear e1 h1 h2 h3
    go_enter Tryz.func125, Tryz.ntmps125
    go_wp2
    go_ret
    exact ⟨rfl, rfl⟩
theorem printable_any (c : Nat) (w : World) : Calls Tryz.prog 112 #[.int .u8 c] w (Says (prn c) w) := by
  by_cases h3 : c = 35
  · subst h3
    go_enter Tryz.func112, Tryz.ntmps112
    go_wp2
    go_ret
    exact ⟨rfl, rfl⟩
  by_cases h1 : 33 ≤ c
  · have g1 : (33 : Int) ≤ (c : Int) := by omega
    have d1 : decide ((33 : Int) ≤ (c : Int)) = true := decide_eq_true g1
    have g3 : ((c : Int) != 35) = true := by simp; omega
    by_cases h2 : c ≤ 126
    · have g2 : (c : Int) ≤ 126 := by omega
      have d2 : decide ((c : Int) ≤ 126) = true := decide_eq_true g2
      have e1 : prn c = true := by simp [prn, h1, h2, h3]
      rw [e1]
      clear e1 h1 h2 h3
      go_enter Tryz.func112, Tryz.ntmps112
      go_wp2
      go_ret
      exact ⟨rfl, rfl⟩
    · have g2 : ¬ (c : Int) ≤ 126 := by omega
      have d2 : decide ((c : Int) ≤ 126) = false := decide_eq_false g2
      have e1 : prn c = false := by simp [prn, h2]
      rw [e1]
      clear e1 h1 h2 h3
      go_enter Tryz.func112, Tryz.ntmps112
      go_wp2
      go_ret
      exact ⟨rfl, rfl⟩
  · have g1 : ¬ (33 : Int) ≤ (c : Int) := by omega
    have d1 : decide ((33 : Int) ≤ (c : Int)) = false := decide_eq_false g1
    have e1 : prn c = false := by simp [prn, h1]
    rw [e1]
    clear e1 h1 h3
    go_enter Tryz.func112, Tryz.ntmps112
    go_wp2
    go_ret
    exact ⟨rfl, rfl⟩
def SaysN (k : Nat) (w : World) (e : Ending) (w' : World) : Prop := e = .returned (.int .u8 k) ∧ w = w'
theorem begun_any (c : Nat) (w : World) : Calls Tryz.prog 126 #[.int .u8 c] w (SaysN (begunB c) w) := by
  have hl := fun W => letter_any c W
  have hd := fun W => digit_any c W
  unfold begunB
  cases h1 : isL c with
  | true =>
    rw [h1] at hl
    clear h1 hd
    go_enter Tryz.func126, Tryz.ntmps126
    go_wp2_with fail
    refine (hl _).mono ?_
    rintro e w' ⟨rfl, rfl⟩
    go_wp2_with fail
    go_ret
    exact ⟨rfl, rfl⟩
  | false =>
    rw [h1] at hl
    cases h2 : isD c with
    | true =>
      rw [h2] at hd
      clear h1 h2
      go_enter Tryz.func126, Tryz.ntmps126
      go_wp2_with fail
      refine (hl _).mono ?_
      rintro e w' ⟨rfl, rfl⟩
      go_wp2_with fail
      refine (hd _).mono ?_
      rintro e w' ⟨rfl, rfl⟩
      go_wp2_with fail
      go_ret
      exact ⟨rfl, rfl⟩
    | false =>
      rw [h2] at hd
      clear h1 h2
      by_cases h3 : c = 47
      · subst h3
        go_enter Tryz.func126, Tryz.ntmps126
        go_wp2_with fail
        refine (hl _).mono ?_
        rintro e w' ⟨rfl, rfl⟩
        go_wp2_with fail
        refine (hd _).mono ?_
        rintro e w' ⟨rfl, rfl⟩
        go_wp2_with fail
        go_ret
        exact ⟨rfl, rfl⟩
      · have g3 : ((c : Int) == 47) = false := ne_lit h3
        rw [if_neg h3]
        clear h3
        go_enter Tryz.func126, Tryz.ntmps126
        go_wp2_with fail
        refine (hl _).mono ?_
        rintro e w' ⟨rfl, rfl⟩
        go_wp2_with fail
        refine (hd _).mono ?_
        rintro e w' ⟨rfl, rfl⟩
        go_wp2_with fail
        go_ret
        exact ⟨rfl, rfl⟩
theorem lit_ne {t : Bs} {l : Bs} (h : ¬ t = l) : ((⟨t.toArray⟩ : ByteArray).toList == l) = false := by simp [h]
theorem sign_any (t : Bs) (w : World) : Calls Tryz.prog 129 #[.string ⟨t.toArray⟩] w (Says (isSign t) w) := by
  by_cases h0 : t = [61, 61]
  · subst h0
    go_enter Tryz.func129, Tryz.ntmps129
    go_wp2
    go_ret
    exact ⟨rfl, rfl⟩
  by_cases h1 : t = [33, 61]
  · subst h1
    go_enter Tryz.func129, Tryz.ntmps129
    go_wp2
    go_ret
    exact ⟨rfl, rfl⟩
  by_cases h2 : t = [60]
  · subst h2
    go_enter Tryz.func129, Tryz.ntmps129
    go_wp2
    go_ret
    exact ⟨rfl, rfl⟩
  by_cases h3 : t = [60, 61]
  · subst h3
    go_enter Tryz.func129, Tryz.ntmps129
    go_wp2
    go_ret
    exact ⟨rfl, rfl⟩
  by_cases h4 : t = [62]
  · subst h4
    go_enter Tryz.func129, Tryz.ntmps129
    go_wp2
    go_ret
    exact ⟨rfl, rfl⟩
  by_cases h5 : t = [62, 61]
  · subst h5
    go_enter Tryz.func129, Tryz.ntmps129
    go_wp2
    go_ret
    exact ⟨rfl, rfl⟩
  by_cases h6 : t = [38]
  · subst h6
    go_enter Tryz.func129, Tryz.ntmps129
    go_wp2
    go_ret
    exact ⟨rfl, rfl⟩
  · have e1 : isSign t = false := by simp [isSign, h0, h1, h2, h3, h4, h5, h6]
    have g0 : ((⟨t.toArray⟩ : ByteArray).toList == [61, 61]) = false := lit_ne h0
    have g1 : ((⟨t.toArray⟩ : ByteArray).toList == [33, 61]) = false := lit_ne h1
    have g2 : ((⟨t.toArray⟩ : ByteArray).toList == [60]) = false := lit_ne h2
    have g3 : ((⟨t.toArray⟩ : ByteArray).toList == [60, 61]) = false := lit_ne h3
    have g4 : ((⟨t.toArray⟩ : ByteArray).toList == [62]) = false := lit_ne h4
    have g5 : ((⟨t.toArray⟩ : ByteArray).toList == [62, 61]) = false := lit_ne h5
    have g6 : ((⟨t.toArray⟩ : ByteArray).toList == [38]) = false := lit_ne h6
    rw [e1]
    clear e1 h0 h1 h2 h3 h4 h5 h6
    generalize (⟨t.toArray⟩ : ByteArray) = T at *
    go_enter Tryz.func129, Tryz.ntmps129
    go_wp2
    go_ret
    exact ⟨rfl, rfl⟩
end Go.Proofs.YtinofjbnfmalkaaGreatDoor
namespace Go.Proofs.YtinofjbnfmalkaaGreatDoor
def follows (a b : Tok) : Prop := a.line ≤ b.line ∧ (a.line = b.line → a.col + a.t.length ≤ b.col)
def chainT : Tok → List Tok → Prop
  | _, [] => True
  | a, b :: r => follows a b ∧ chainT b r
def lastT : Tok → List Tok → Tok
  | a, [] => a
  | _, b :: r => lastT b r
theorem chain_app : ∀ (L M : List Tok) (a : Tok), chainT a (L ++ M) ↔ chainT a L ∧ chainT (lastT a L) M
  | [], M, a => by simp [chainT, lastT]
  | b :: L, M, a => by
    rw [List.cons_append, chainT, chainT, lastT, chain_app L M b, and_assoc]
theorem last_app : ∀ (L M : List Tok) (a : Tok), lastT a (L ++ M) = lastT (lastT a L) M
  | [], M, a => rfl
  | b :: L, M, a => by rw [List.cons_append, lastT, lastT, last_app L M b]
theorem last_mem : ∀ (L : List Tok) (a : Tok), lastT a L = a ∨ lastT a L ∈ L
  | [], a => .inl rfl
  | b :: L, a => by
    rw [lastT]
    rcases last_mem L b with h | h
    · right; rw [h]; simp
    · right; exact List.mem_cons_of_mem _ h
def stands (l : Bs) (x : Tok) : Prop := x.t ≠ [] ∧ x.col - 1 + x.t.length ≤ l.length ∧ (l.drop (x.col - 1)).take x.t.length = x.t
def isErr (e : Nat) : Prop := e = 204 ∨ e = 36 ∨ e = 202
theorem valB_err {k : Nat} {t : Bs} (h : (valB k t).2 ≠ 0) : isErr (valB k t).2 := by
  unfold valB at h ⊢
  unfold isErr
  by_cases h2 : k = 2
  · rw [if_pos h2] at h ⊢
    cases hn : number t with
    | none => simp
    | some u => rw [hn] at h; simp at h
  rw [if_neg h2] at h ⊢
  by_cases h3 : k = 3
  · rw [if_pos h3] at h ⊢
    by_cases h4 : 120 < t.length
    · simp [h4]
    · simp [h4] at h
  rw [if_neg h3] at h ⊢
  by_cases h4 : k = 4
  · rw [if_pos h4] at h ⊢
    by_cases h5 : isSign t = true
    · simp [h5] at h
    · simp [h5]
  · rw [if_neg h4] at h; simp at h
theorem nextS_kind {s : Bs} {k g : Nat} {t r : Bs} (h : nextS s = some (k, t, g, r)) : 1 ≤ k ∧ k ≤ 4 := by
  unfold nextS at h
  split at h
  · cases h
  · simp only [Option.some.injEq, Prod.mk.injEq] at h
    rw [← h.1]
    exact begunB_pos _
theorem lexF_ok (l0 : Bs) (ln : Nat) : ∀ (f : Nat) (s : Bs) (a : Nat), s = l0.drop a → a ≤ l0.length →
    ((lexF ln f s a).2.2 ≠ 0 → 1 ≤ (lexF ln f s a).2.1 ∧ (lexF ln f s a).2.1 ≤ l0.length ∧ isErr (lexF ln f s a).2.2) ∧
    (∀ x ∈ (lexF ln f s a).1, x.line = ln ∧ 1 ≤ x.col ∧ x.k ≠ 0 ∧ stands l0 x) ∧
    (∀ p : Tok, p.line = ln → p.col + p.t.length ≤ a + 1 → chainT p (lexF ln f s a).1)
  | 0, _, _, _, _ => by simp [lexF, chainT]
  | f + 1, s, a, hs, ha => by
    cases hn : nextS s with
    | none => rw [lexF_none hn]; simp [chainT]
    | some y =>
      obtain ⟨k, t, g, r⟩ := y
      have hl := nextS_len hn
      have hk := nextS_kind hn
      have hsl : s.length = l0.length - a := by rw [hs, List.length_drop]
      by_cases hv : (valB k t).2 = 0
      · have ht := next_pos hn hv
        have htl := List.length_pos_iff.2 ht
        rw [lexF_step hn hv]
        have ih := lexF_ok l0 ln f r (a + g + t.length) (by rw [hl.2.1, hs, List.drop_drop, Nat.add_assoc]) (by omega)
        refine ⟨ih.1, fun x hx => ?_, fun p h1 h2 => ?_⟩
        · rcases List.mem_cons.1 hx with rfl | hx
          · refine ⟨rfl, by simp, by show k ≠ 0; omega, ht, by show a + g + 1 - 1 + t.length ≤ l0.length; omega, ?_⟩
            show (l0.drop (a + g + 1 - 1)).take t.length = t
            rw [Nat.add_sub_cancel, ← List.drop_drop, ← hs, hl.2.2.1]
            simp
          · exact ih.2.1 x hx
        · exact ⟨⟨by show p.line ≤ ln; omega, fun _ => by show p.col + p.t.length ≤ a + g + 1; omega⟩, ih.2.2 _ rfl (by show a + g + 1 + t.length ≤ _; omega)⟩
      · rw [lexF_bad hn hv]
        exact ⟨fun _ => ⟨by simp, by show a + g + 1 ≤ l0.length; omega, valB_err hv⟩, fun x hx => by simp at hx, fun p _ _ => trivial⟩
theorem cutH_take (l : Bs) : ∃ n, n ≤ l.length ∧ cutH l = l.take n := by
  induction l with
  | nil => exact ⟨0, by simp, by simp [cutH]⟩
  | cons c l ih =>
    obtain ⟨n, h1, h2⟩ := ih
    unfold cutH
    split
    · exact ⟨0, by simp, by simp⟩
    · exact ⟨n + 1, by simp; omega, by simp [h2]⟩
theorem stands_cut {l : Bs} {x : Tok} (h : stands (cutH l) x) : stands l x := by
  obtain ⟨n, h1, h2⟩ := cutH_take l
  obtain ⟨h3, h4, h5⟩ := h
  rw [h2] at h4 h5
  have hlen : (l.take n).length = n := by rw [List.length_take]; omega
  rw [hlen] at h4
  refine ⟨h3, by omega, ?_⟩
  rw [List.drop_take, List.take_take, show min x.t.length (n - (x.col - 1)) = x.t.length by omega] at h5
  exact h5
theorem lineB_ok (ln : Nat) (l : Bs) :
    ((lineB ln l).2 ≠ noW → (lineB ln l).2.l = ln ∧ 1 ≤ (lineB ln l).2.c ∧ (lineB ln l).2.c ≤ l.length ∧ isErr (lineB ln l).2.e) ∧
    (∀ x ∈ (lineB ln l).1, x.line = ln ∧ 1 ≤ x.col ∧ x.col ≤ l.length + 1 ∧ (x.k ≠ 0 → stands l x)) ∧
    (∀ p : Tok, p.line < ln → chainT p (lineB ln l).1 ∧ ((lineB ln l).1 = [] ∨ (lastT p (lineB ln l).1).k = 0)) := by
  have h := lexF_ok (cutH l) ln ((cutH l).length + 1) (cutH l) 0 (by simp) (by omega)
  obtain ⟨n, hn1, hn2⟩ := cutH_take l
  have hcl : (cutH l).length ≤ l.length := by rw [hn2, List.length_take]; omega
  unfold lineB lineR
  generalize lexF ln ((cutH l).length + 1) (cutH l) 0 = R at h
  by_cases h0 : R.2.2 ≠ 0
  · rw [if_pos h0]
    have h1 := h.1 h0
    exact ⟨fun _ => ⟨rfl, h1.1, by show R.2.1 ≤ l.length; omega, h1.2.2⟩, fun x hx => by simp at hx, fun p _ => ⟨trivial, .inl rfl⟩⟩
  · rw [if_neg h0]
    by_cases h1 : R.1 = []
    · rw [if_pos h1]
      exact ⟨fun e => absurd rfl e, fun x hx => by simp at hx, fun p _ => ⟨trivial, .inl rfl⟩⟩
    · rw [if_neg h1]
      refine ⟨fun e => absurd rfl e, fun x hx => ?_, fun p hp => ?_⟩
      · rcases List.mem_append.1 hx with hx | hx
        · have := h.2.1 x hx
          have h9 := stands_cut this.2.2.2
          exact ⟨this.1, this.2.1, by have := h9.2.1; omega, fun _ => h9⟩
        · simp at hx; subst hx
          exact ⟨rfl, by simp [endT], by show (cutH l).length + 1 ≤ _; omega, fun e => absurd rfl e⟩
      · rw [chain_app, last_app]
        refine ⟨⟨?_, ?_, trivial⟩, .inr rfl⟩
        · cases hR : R.1 with
          | nil => exact absurd hR h1
          | cons b r =>
            have hb := (h.2.1 b (by rw [hR]; simp)).1
            have h3 := h.2.2 ⟨0, [], 0, ln, 0⟩ rfl (by simp)
            rw [hR] at h3
            exact ⟨⟨by omega, fun e => by omega⟩, h3.2⟩
        · rcases last_mem R.1 p with e | e
          · rw [e]; exact ⟨by show p.line ≤ ln; omega, fun e2 => by have : p.line = ln := e2; omega⟩
          · obtain ⟨i1, i2, i3, i4⟩ := h.2.1 _ e
            obtain ⟨_, j2, _⟩ := i4
            exact ⟨by show _ ≤ ln; omega, fun _ => by show _ ≤ (cutH l).length + 1; omega⟩
def okA (ls : List Bs) (x : Tok) : Prop := 1 ≤ x.line ∧ x.line ≤ ls.length ∧ 1 ≤ x.col ∧ ∃ l, ls[x.line - 1]? = some l ∧ x.col ≤ l.length + 1 ∧ (x.k ≠ 0 → stands l x)
def zTok : Tok := ⟨0, [], 0, 0, 0⟩
def badA (ls : List Bs) (x : Wr) : Prop := 1 ≤ x.l ∧ x.l ≤ ls.length ∧ 1 ≤ x.c ∧ isErr x.e ∧ ∃ l, ls[x.l - 1]? = some l ∧ x.c ≤ l.length
def goodA (ls : List Bs) (L : List Tok) : Prop := (∀ x ∈ L, okA ls x) ∧ chainT zTok L ∧ (L = [] ∨ (lastT zTok L).k = 0)
theorem lexL_ok (all : List Bs) : ∀ (ls : List Bs) (k : Nat) (acc : List Tok), ls = all.drop k → k ≤ all.length → goodA all acc → (∀ x ∈ acc, x.line ≤ k) →
    ((lexL ls k acc).2 ≠ noW → (lexL ls k acc).1 = [] ∧ badA all (lexL ls k acc).2) ∧ ((lexL ls k acc).2 = noW → goodA all (lexL ls k acc).1)
  | [], k, acc, _, _, hg, _ => ⟨fun e => absurd rfl e, fun _ => hg⟩
  | l :: ls, k, acc, hd, hk, hg, hlt => by
    have h := lineB_ok (k + 1) l
    have hlen := congrArg List.length hd
    rw [List.length_drop, List.length_cons] at hlen
    have hat : all[k]? = some l := by
      have := congrArg (fun x => x[0]?) hd
      simpa using this.symm
    rw [lexL]
    by_cases hw : (lineB (k + 1) l).2 ≠ noW
    · rw [if_pos hw]
      obtain ⟨h1, h2, h3, h4⟩ := h.1 hw
      refine ⟨fun _ => ⟨rfl, by show 1 ≤ (lineB (k + 1) l).2.l; omega, by show (lineB (k + 1) l).2.l ≤ _; omega, h2, h4, l, by show all[(lineB (k + 1) l).2.l - 1]? = some l; rw [h1]; exact hat, h3⟩, fun e => absurd e hw⟩
    · rw [if_neg hw]
      have hlast : (lastT zTok acc).line < k + 1 := by
        rcases last_mem acc zTok with e | e
        · rw [e]; show 0 < k + 1; omega
        · have := hlt _ e; omega
      obtain ⟨c1, c2⟩ := h.2.2 _ hlast
      refine lexL_ok all ls (k + 1) _ ?_ (by omega) ⟨fun x hx => ?_, ?_, ?_⟩ (fun x hx => ?_)
      · have := congrArg (List.drop 1) hd
        rw [List.drop_drop, List.drop_one] at this
        exact this
      · rcases List.mem_append.1 hx with hx | hx
        · exact hg.1 x hx
        · obtain ⟨i1, i2, i3⟩ := h.2.1 x hx
          exact ⟨by omega, by omega, i2, l, by rw [i1]; exact hat, i3⟩
      · rw [chain_app]; exact ⟨hg.2.1, c1⟩
      · rw [last_app]
        rcases c2 with e | e
        · rw [e, List.append_nil]; exact hg.2.2
        · exact .inr e
      · rcases List.mem_append.1 hx with hx | hx
        · have := hlt x hx; omega
        · have := (h.2.1 x hx).1; omega
theorem lexB_ok (s : Bs) (hs : s.length ≤ 65536) : ((lexB s).2 ≠ noW → (lexB s).1 = [] ∧ badA (lines s) (lexB s).2) ∧ ((lexB s).2 = noW → goodA (lines s) (lexB s).1) := by
  unfold lexB
  rw [if_neg (by omega)]
  exact lexL_ok (lines s) (lines s) 0 [] (by simp) (by omega) ⟨fun x hx => by simp at hx, trivial, .inl rfl⟩ (fun x hx => by simp at hx)
end Go.Proofs.YtinofjbnfmalkaaGreatDoor
namespace Go.Proofs.YtinofjbnfmalkaaGreatDoor
def sig (x : Tok) : Nat × Bs × Nat := (x.k, x.t, x.n)
def gapS (k : Nat) : Bs := if k = 0 then [32] else if k = 1 then [9, 32, 9] else if k = 2 then [32, 32] else [13, 32]
def tailS (k : Nat) : Bs := if k = 0 then [10] else if k = 1 then [10, 10] else if k = 2 then [35, 32, 110, 111, 116, 101, 32, 61, 32, 36, 10] else [10, 35, 32, 36, 10, 32, 10]
def body (k : Nat) (x : Tok) : Bs := if x.k = 0 then tailS k else x.t
def bt (l : List Nat) : Nat → List Tok → Bs
  | _, [] => []
  | i, x :: r => gapS (l.getD i 0 % 4) ++ (body (l.getD i 0 % 4) x ++ bt l (i + 1) r)
structure WordOk (x : Tok) : Prop where
  ne : x.t ≠ []
  head : ∀ c, x.t.head? = some c → begunB c.toNat = x.k
  all : ∀ c ∈ x.t, hasB x.k c.toNat = true
  val : valB x.k x.t = (x.n, 0)
theorem isP_not (c : Nat) (h : isP c = true) : begunB c = 4 ∧ ∀ k, 1 ≤ k → k ≤ 4 → hasB k c = false := by
  have h3 : c = 32 ∨ c = 9 ∨ c = 13 := by
    unfold isP at h
    simp at h
    omega
  rcases h3 with rfl | rfl | rfl
  · exact ⟨by decide, fun k h1 h2 => by rcases (by omega : k = 1 ∨ k = 2 ∨ k = 3 ∨ k = 4) with rfl | rfl | rfl | rfl <;> decide⟩
  · exact ⟨by decide, fun k h1 h2 => by rcases (by omega : k = 1 ∨ k = 2 ∨ k = 3 ∨ k = 4) with rfl | rfl | rfl | rfl <;> decide⟩
  · exact ⟨by decide, fun k h1 h2 => by rcases (by omega : k = 1 ∨ k = 2 ∨ k = 3 ∨ k = 4) with rfl | rfl | rfl | rfl <;> decide⟩
theorem word_kind {x : Tok} (h : WordOk x) : 1 ≤ x.k ∧ x.k ≤ 4 := by
  cases ht : x.t with
  | nil => exact absurd ht h.ne
  | cons c r =>
    have := h.head c (by rw [ht]; rfl)
    rw [← this]
    exact begunB_pos _
theorem nextS_word {g : Bs} {x : Tok} {r : Bs} (hg : ∀ c ∈ g, isP c.toNat = true) (hx : WordOk x) (hr : ∀ c, r.head? = some c → isP c.toNat = true) : nextS (g ++ (x.t ++ r)) = some (x.k, x.t, g.length, r) := by
  have hk := word_kind hx
  cases ht : x.t with
  | nil => exact absurd ht hx.ne
  | cons c t =>
    have hb := hx.head c (by rw [ht]; rfl)
    have hh := hx.all c (by rw [ht]; simp)
    have hnp : isP c.toNat = false := by
      cases hp : isP c.toNat with
      | false => rfl
      | true => rw [(isP_not _ hp).2 x.k hk.1 hk.2] at hh; cases hh
    obtain ⟨h1, h2⟩ := tw_app isP g (c :: t ++ r) hg (fun d hd => by simp at hd; subst hd; exact hnp)
    have ha := hx.all
    rw [ht] at ha
    obtain ⟨h3, h4⟩ := tw_app (hasB x.k) (c :: t) r ha (fun d hd => (isP_not _ (hr d hd)).2 x.k hk.1 hk.2)
    unfold nextS
    rw [h2, h1]
    show some (begunB c.toNat, tw (hasB (begunB c.toNat)) (c :: t ++ r), g.length, dw (hasB (begunB c.toNat)) (c :: t ++ r)) = _
    rw [hb, h3, h4]
theorem nextS_blank {g : Bs} (hg : ∀ c ∈ g, isP c.toNat = true) : nextS g = none := by
  have h := tw_app isP g [] hg (fun c hc => by simp at hc)
  rw [List.append_nil] at h
  unfold nextS
  rw [h.2]
theorem has_plain (k c : Nat) (h1 : 1 ≤ k) (h2 : k ≤ 4) (h : hasB k c = true) : c ≠ 10 ∧ c ≠ 35 := by
  refine ⟨?_, ?_⟩
  · rintro rfl
    rcases (by omega : k = 1 ∨ k = 2 ∨ k = 3 ∨ k = 4) with rfl | rfl | rfl | rfl <;> simp [hasB, isL, isD, prn, sgn] at h
  · rintro rfl
    rcases (by omega : k = 1 ∨ k = 2 ∨ k = 3 ∨ k = 4) with rfl | rfl | rfl | rfl <;> simp [hasB, isL, isD, prn, sgn] at h
theorem isP_plain (c : Nat) (h : isP c = true) : c ≠ 10 ∧ c ≠ 35 := by
  unfold isP at h
  simp at h
  omega
theorem u8_ne {c : UInt8} {n : Nat} (hn : n < 256) (h : c.toNat ≠ n) : c ≠ UInt8.ofNat n := by
  rintro rfl; exact h (by simp; omega)
inductive Grp : List Tok → Prop
  | nil : Grp []
  | line (ws : List Tok) (e : Tok) (r : List Tok) : ws ≠ [] → (∀ x ∈ ws, WordOk x) → e.k = 0 → e.t = [] → e.n = 0 → Grp r → Grp (ws ++ e :: r)
theorem Grp.app {a b : List Tok} (h : Grp a) (k : Grp b) : Grp (a ++ b) := by
  induction h with
  | nil => exact k
  | line ws e r h1 h2 h3 h4 h5 _ ih => rw [List.append_assoc, List.cons_append]; exact Grp.line ws e _ h1 h2 h3 h4 h5 ih
theorem lexL_skip {l : Bs} {ls : List Bs} {k : Nat} {acc : List Tok} (h : lineB (k + 1) l = ([], noW)) : lexL (l :: ls) k acc = lexL ls (k + 1) acc := by
  rw [lexL, h]; simp
theorem lexL_line {l : Bs} {ls : List Bs} {k : Nat} {acc : List Tok} {W : List Tok} (h : lineB (k + 1) l = (W, noW)) : lexL (l :: ls) k acc = lexL ls (k + 1) (acc ++ W) := by
  rw [lexL, h]; simp
theorem cutH_none (a : Bs) (h : ∀ c ∈ a, c.toNat ≠ 35) : cutH a = a := cutH_plain a (fun c hc e => h c hc (by rw [e]; rfl))
theorem next_word {s : Bs} {k g : Nat} {t r : Bs} (h : nextS s = some (k, t, g, r)) (hv : (valB k t).2 = 0) (ln col : Nat) : WordOk ⟨k, t, (valB k t).1, ln, col⟩ := by
  have hne := next_pos h hv
  unfold nextS at h
  split at h
  · cases h
  · rename_i c r0 e
    simp only [Option.some.injEq, Prod.mk.injEq] at h
    obtain ⟨rfl, rfl, rfl, rfl⟩ := h
    refine ⟨hne, fun d hd => ?_, tw_all _ _, ?_⟩
    · simp only at hd hne ⊢
      unfold tw at hd hne
      rw [List.takeWhile_cons] at hd hne
      split at hd
      · simp at hd; rw [hd]
      · rename_i hf; rw [if_neg hf] at hne; exact absurd rfl hne
    · simp only
      rw [← hv]
theorem lexF_words (ln : Nat) : ∀ (f : Nat) (s : Bs) (a : Nat), ∀ x ∈ (lexF ln f s a).1, WordOk x
  | 0, _, _, x, hx => by simp [lexF] at hx
  | f + 1, s, a, x, hx => by
    cases hn : nextS s with
    | none => rw [lexF_none hn] at hx; simp at hx
    | some y =>
      obtain ⟨k, t, g, r⟩ := y
      by_cases hv : (valB k t).2 = 0
      · rw [lexF_step hn hv] at hx
        rcases List.mem_cons.1 hx with rfl | hx
        · exact next_word hn hv _ _
        · exact lexF_words ln f r _ x hx
      · rw [lexF_bad hn hv] at hx; simp at hx
theorem lineB_grp (ln : Nat) (l : Bs) : Grp (lineB ln l).1 := by
  have h := lexF_words ln ((cutH l).length + 1) (cutH l) 0
  unfold lineB lineR
  split
  · exact .nil
  · split
    · exact .nil
    · rename_i h1 h2
      exact Grp.line _ (endT ln (cutH l).length) [] h2 h rfl rfl rfl .nil
theorem lexL_grp : ∀ (ls : List Bs) (k : Nat) (acc : List Tok), Grp acc → Grp (lexL ls k acc).1
  | [], _, _, h => h
  | l :: ls, k, acc, h => by
    rw [lexL]
    split
    · exact .nil
    · exact lexL_grp ls (k + 1) _ (h.app (lineB_grp _ _))
theorem lexB_grp (s : Bs) : Grp (lexB s).1 := by
  unfold lexB
  split
  · exact .nil
  · exact lexL_grp _ _ _ .nil
def wt (L : List Tok) : Nat := (L.map fun x => x.t.length + 14).sum
theorem wt_app (L M : List Tok) : wt (L ++ M) = wt L + wt M := by simp [wt]
theorem lexF_wt (ln : Nat) : ∀ (f : Nat) (s : Bs) (a : Nat), wt (lexF ln f s a).1 ≤ 15 * s.length
  | 0, _, _ => by simp [lexF, wt]
  | f + 1, s, a => by
    cases hn : nextS s with
    | none => rw [lexF_none hn]; simp [wt]
    | some y =>
      obtain ⟨k, t, g, r⟩ := y
      by_cases hv : (valB k t).2 = 0
      · have hl := nextS_len hn
        have ht := List.length_pos_iff.2 (next_pos hn hv)
        have ih := lexF_wt ln f r (a + g + t.length)
        rw [lexF_step hn hv]
        simp only [wt, List.map_cons, List.sum_cons] at ih ⊢
        omega
      · rw [lexF_bad hn hv]; simp [wt]
theorem lineB_wt (ln : Nat) (l : Bs) : wt (lineB ln l).1 ≤ 29 * l.length := by
  have h := lexF_wt ln ((cutH l).length + 1) (cutH l) 0
  obtain ⟨n, hn1, hn2⟩ := cutH_take l
  have hcl : (cutH l).length ≤ l.length := by rw [hn2, List.length_take]; omega
  have hz : (cutH l).length = 0 → (lexF ln ((cutH l).length + 1) (cutH l) 0).1 = [] := fun e => by
    rw [List.length_eq_zero_iff.1 e]
    rfl
  unfold lineB lineR
  split
  · simp [wt]
  · split
    · simp [wt]
    · rename_i h1 h2
      have : (cutH l).length ≠ 0 := fun e => h2 (hz e)
      rw [wt_app]
      simp only [wt, endT, List.map_cons, List.map_nil, List.sum_cons, List.sum_nil, List.length_nil] at h ⊢
      omega
theorem lexL_wt : ∀ (ls : List Bs) (k : Nat) (acc : List Tok), wt (lexL ls k acc).1 ≤ wt acc + 29 * (ls.map List.length).sum
  | [], _, _ => by simp [lexL]
  | l :: ls, k, acc => by
    rw [lexL]
    split
    · simp [wt]
    · have ih := lexL_wt ls (k + 1) (acc ++ (lineB (k + 1) l).1)
      have h1 := lineB_wt (k + 1) l
      rw [wt_app] at ih
      rw [List.map_cons, List.sum_cons]
      omega
theorem lines_sum (s : Bs) : ((lines s).map List.length).sum ≤ s.length := by
  induction s with
  | nil => simp [lines]
  | cons c t ih =>
    unfold lines
    split
    · simp; omega
    · split
      · rename_i h r e
        rw [e] at ih
        simp at ih ⊢; omega
      · simp
theorem lexB_wt (s : Bs) : wt (lexB s).1 ≤ 29 * s.length := by
  unfold lexB
  split
  · simp [wt]
  · have h := lexL_wt (lines s) 0 []
    have h2 := lines_sum s
    simp only [wt, List.map_nil, List.sum_nil] at h ⊢
    omega
theorem wt_len (L : List Tok) : L.length ≤ wt L := by
  induction L with
  | nil => simp
  | cons x L ih => simp only [wt, List.map_cons, List.sum_cons, List.length_cons] at ih ⊢; omega
end Go.Proofs.YtinofjbnfmalkaaGreatDoor

