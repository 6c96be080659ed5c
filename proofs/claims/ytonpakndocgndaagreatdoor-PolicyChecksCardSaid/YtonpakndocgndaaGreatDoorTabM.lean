/- Filters as texts, by lists alone: words, numbers, lines. Nothing of the program. -/
import Derived.Test.YtonpakndocgndaaGreatDoorMath
import Derived.Lib.ItoaNum
import Derived.Lib.Join
import Derived.Lib.Split
import Derived.Lib.IndexMore
import Derived.Lib.Strings
namespace Go.Proofs.YtonpakndocgndaaGreatDoor
abbrev Bs := List UInt8
structure Ln where
  w : Bs
  c : Nat
  s : Nat
deriving DecidableEq
def tab : List Ln := [
  ⟨[108, 100, 108, 101, 110], 128, 0⟩, ⟨[108, 100, 120, 108, 101, 110], 129, 0⟩, ⟨[114, 101, 116, 97], 22, 0⟩, ⟨[116, 97, 120], 7, 0⟩, ⟨[116, 120, 97], 135, 0⟩, ⟨[110, 101, 103], 132, 0⟩,
  ⟨[97, 100, 100, 120], 12, 0⟩, ⟨[115, 117, 98, 120], 28, 0⟩, ⟨[109, 117, 108, 120], 44, 0⟩, ⟨[100, 105, 118, 120], 60, 0⟩, ⟨[111, 114, 120], 76, 0⟩, ⟨[97, 110, 100, 120], 92, 0⟩,
  ⟨[108, 115, 104, 120], 108, 0⟩, ⟨[114, 115, 104, 120], 124, 0⟩, ⟨[120, 111, 114, 120], 172, 0⟩, ⟨[108, 100], 0, 1⟩, ⟨[108, 100, 97, 98, 115], 32, 1⟩, ⟨[108, 100, 109, 101, 109], 96, 1⟩,
  ⟨[108, 100, 120], 1, 1⟩, ⟨[108, 100, 120, 109, 101, 109], 97, 1⟩, ⟨[115, 116], 2, 1⟩, ⟨[115, 116, 120], 3, 1⟩, ⟨[114, 101, 116], 6, 1⟩, ⟨[106, 97], 5, 1⟩,
  ⟨[97, 100, 100], 4, 1⟩, ⟨[115, 117, 98], 20, 1⟩, ⟨[109, 117, 108], 36, 1⟩, ⟨[100, 105, 118], 52, 1⟩, ⟨[111, 114], 68, 1⟩, ⟨[97, 110, 100], 84, 1⟩,
  ⟨[108, 115, 104], 100, 1⟩, ⟨[114, 115, 104], 116, 1⟩, ⟨[120, 111, 114], 164, 1⟩, ⟨[106, 101, 113], 21, 2⟩, ⟨[106, 103, 116], 37, 2⟩, ⟨[106, 103, 101], 53, 2⟩,
  ⟨[106, 115, 101, 116], 69, 2⟩, ⟨[106, 101, 113, 120], 29, 3⟩, ⟨[106, 103, 116, 120], 45, 3⟩, ⟨[106, 103, 101, 120], 61, 3⟩, ⟨[106, 115, 101, 116, 120], 77, 3⟩]
def rawL : Ln := ⟨[114, 97, 119], 0, 4⟩
def noL : Ln := ⟨[], 0, 0⟩
theorem tab_len : tab.length = 41 := rfl
/-- Which fields stand behind a word: 0 the code, 1 Jt, 2 Jf, 3 K. -/
def flds (s : Nat) : List Nat := if s = 1 then [3] else if s = 2 then [3, 1, 2] else if s = 3 then [1, 2] else if s = 4 then [0, 1, 2, 3] else []
theorem flds_le (s : Nat) : (flds s).length ≤ 4 := by
  unfold flds
  split
  · decide
  split
  · decide
  split
  · decide
  split <;> decide
theorem flds_lt (s f : Nat) (h : f ∈ flds s) : f < 4 := by
  unfold flds at h
  split at h
  · simp at h; omega
  split at h
  · simp at h; omega
  split at h
  · simp at h; omega
  split at h
  · simp at h; omega
  · simp at h
def most (f : Nat) : Nat := if f = 0 then 65535 else if f = 3 then 4294967295 else 255
def getF (f : Nat) (i : Ins) : Nat := if f = 0 then i.c else if f = 1 then i.t else if f = 2 then i.f else i.k
def setF (f : Nat) (i : Ins) (n : Nat) : Ins := if f = 0 then { i with c := n } else if f = 1 then { i with t := n } else if f = 2 then { i with f := n } else if f = 3 then { i with k := n } else i
theorem getF_le (f : Nat) (i : Ins) (h : i.ok) (hf : f < 4) : getF f i ≤ most f := by
  obtain ⟨h1, h2, h3, h4⟩ := h
  unfold getF most
  by_cases a : f = 0
  · simp [a]; omega
  by_cases b : f = 1
  · simp [b]; omega
  by_cases c : f = 2
  · simp [c]; omega
  by_cases d : f = 3
  · simp [d]; omega
  · omega
def named (w : Bs) : Option Ln := if w = rawL.w then some rawL else tab.find? (fun l => l.w == w)
def tellsGo : List Nat → Ins → Ins → Ins
  | [], left, _ => left
  | f :: r, left, i => tellsGo r (setF f left (getF f i)) i
def tells (l : Ln) (i : Ins) : Ins := tellsGo (flds l.s) ⟨l.c, 0, 0, 0⟩ i
def sameI (a b : Ins) : Bool := decide (a.c = b.c ∧ a.t = b.t ∧ a.f = b.f ∧ a.k = b.k)
theorem sameI_eq {a b : Ins} : sameI a b = true ↔ a = b := by
  unfold sameI
  cases a; cases b
  simp
def hits (i : Ins) (l : Ln) : Bool := decide (l.c = i.c) && sameI (tells l i) i
def lineOf (i : Ins) : Ln := (tab.find? (hits i)).getD rawL
def words (i : Ins) : List Bs := (lineOf i).w :: (flds (lineOf i).s).map fun f => Lib.decDigits (getF f i)
def told (i : Ins) : Bs := Lib.join (words i) [32]
def text (L : List Ins) : Bs := L.flatMap fun i => told i ++ [10]
/-- A byte as a digit of a base. -/
def dig (b : Nat) (c : UInt8) : Option Nat :=
  if 48 ≤ c.toNat ∧ c.toNat ≤ 57 then (if c.toNat - 48 < b then some (c.toNat - 48) else none)
  else if 97 ≤ c.toNat ∧ c.toNat ≤ 122 then (if c.toNat - 87 < b then some (c.toNat - 87) else none) else none
def horner (b : Nat) : Bs → Nat → Option Nat
  | [], n => some n
  | c :: t, n => match dig b c with
    | none => none
    | some d => if n * b + d < 18446744073709551616 then horner b t (n * b + d) else none
def hexed (s : Bs) : Bool := Lib.hasPrefix s [48, 120]
def digits (s : Bs) : Bs := if hexed s then s.drop 2 else s
def base (s : Bs) : Nat := if hexed s then 16 else 10
def number (s : Bs) : Option Nat :=
  if 1 < (digits s).length ∧ (digits s).head? = some 48 then none
  else if digits s = [] then none else horner (base s) (digits s) 0
/-- The fields set, one by one: the instruction, or what isn't right. -/
def setAll : List Bs → List Nat → Ins → Ins × Nat
  | n :: ns, f :: fs, i => match number n with
    | none => (⟨0, 0, 0, 0⟩, 202)
    | some v => if most f < v then (⟨0, 0, 0, 0⟩, 204) else setAll ns fs (setF f i v)
  | _, _, i => (i, 0)
def parsed : List Bs → Ins × Nat
  | [] => (⟨0, 0, 0, 0⟩, 202)
  | w :: ns => match named w with
    | none => (⟨0, 0, 0, 0⟩, 202)
    | some l => if ns.length ≠ (flds l.s).length then (⟨0, 0, 0, 0⟩, 203) else setAll ns (flds l.s) ⟨l.c, 0, 0, 0⟩
/-- Lines of words, one by one. -/
def parseL : List (List Bs) → Nat → List Ins → List Ins × Nat × Nat
  | [], _, L => (L, 0, 0)
  | ws :: r, at', L => if ws = [] then parseL r (at' + 1) L else
    if (parsed ws).2 ≠ 0 then ([], at' + 1, (parsed ws).2) else
    if L.length = 4096 then ([], at' + 1, 205) else parseL r (at' + 1) (L ++ [(parsed ws).1])
end Go.Proofs.YtonpakndocgndaaGreatDoor

