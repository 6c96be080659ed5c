/- An inode table as lists: nodes by their numbers, directories' names rising; what each call answers and leaves. -/
import Derived.Maps.Own
import Derived.Maps.Ext
import Derived.Maps.Views
namespace Go.Proofs.Ytdlglllidolggaa.In
open Go.Maps
abbrev Bs := List UInt8
abbrev Es := List (Bs × Nat)
structure NdM where
  kd : Nat
  data : List Nat
  L : Es
  par : Nat
  text : ByteArray
  links : Nat
  held : Nat
def ndZ : NdM := ⟨0, [], [], 0, ⟨#[]⟩, 0, 0⟩
structure TrM where
  nd : Nat → NdM
  lim : Nat
  ch : Nat
def upd (f : Nat → NdM) (n : Nat) (x : NdM) : Nat → NdM := fun k => if k = n then x else f k
theorem upd_same (f : Nat → NdM) (n : Nat) (x : NdM) : upd f n x n = x := by simp [upd]
theorem upd_other (f : Nat → NdM) {n k : Nat} (x : NdM) (h : k ≠ n) : upd f n x k = f k := by simp [upd, h]
theorem upd_twice (f : Nat → NdM) (n : Nat) (x y : NdM) : upd (upd f n x) n y = upd f n y := by
  funext k; unfold upd; split <;> rfl
theorem upd_self (f : Nat → NdM) (n : Nat) : upd f n (f n) = f := by
  funext k; unfold upd; split
  · rename_i h; rw [h]
  · rfl
/-! Names, rising. -/
def lk (s : Bs) (L : Es) : Option Nat := (L.find? (fun e => decide (e.1 = s))).map Prod.snd
def insE (x : Bs × Nat) : Es → Es
  | [] => [x]
  | y :: r => if bytesBefore x.1 y.1 then x :: y :: r else y :: insE x r
def delE (s : Bs) (L : Es) : Es := L.filter (fun e => decide (e.1 ≠ s))
def Ris (L : Es) : Prop := L.Pairwise (fun a b => bytesBefore a.1 b.1 = true)
def rdE (e : Bs × Nat) : Lit × DataW Unit := (.string e.1, .lit (.int .u16 e.2))
def nD (L : Es) : DataW Unit := .map (L.map rdE)
theorem sameKey_str (a b : Bs) : (Lit.string a).sameKey (.string b) = decide (a = b) := by
  simp only [Lit.sameKey]
  by_cases h : a = b
  · subst h; simp
  · simp [h]
theorem nD_has (L : Es) (s : Bs) : has (nD L) (.string s) = (lk s L).isSome := by
  unfold nD lk
  rw [has_eq]
  induction L with
  | nil => rfl
  | cons e L ih =>
    simp only [List.map_cons, List.any_cons, List.find?_cons]
    rw [show (rdE e).1.sameKey (.string s) = decide (e.1 = s) from sameKey_str _ _]
    cases h : decide (e.1 = s)
    · simpa using ih
    · rfl
theorem nD_at (L : Es) (s : Bs) (z : DataW Unit) : (nD L).atKey (.string s) z = match lk s L with | some n => .lit (.int .u16 n) | none => z := by
  unfold nD lk
  simp only [DataW.atKey]
  induction L with
  | nil => rfl
  | cons e L ih =>
    simp only [List.map_cons, List.find?_cons]
    rw [show (rdE e).1.sameKey (.string s) = decide (e.1 = s) from sameKey_str _ _]
    cases h : decide (e.1 = s)
    · simpa using ih
    · rfl
theorem filter_rd (s : Bs) (L : Es) : (L.map rdE).filter (fun p => !p.1.sameKey (.string s)) = (delE s L).map rdE := by
  unfold delE
  induction L with
  | nil => rfl
  | cons e L ih =>
    simp only [List.map_cons, List.filter_cons]
    rw [show (rdE e).1.sameKey (.string s) = decide (e.1 = s) from sameKey_str _ _, ih]
    by_cases h : e.1 = s <;> simp [h]
theorem lk_none {s : Bs} {L : Es} : lk s L = none ↔ ∀ e ∈ L, e.1 ≠ s := by
  unfold lk
  rw [Option.map_eq_none_iff, List.find?_eq_none]
  simp
theorem delE_none {s : Bs} {L : Es} (h : lk s L = none) : delE s L = L := by
  unfold delE
  rw [List.filter_eq_self]
  intro e he
  simpa using lk_none.1 h e he
theorem insert_rd (x : Bs × Nat) : ∀ L : Es, DataW.insert (rdE x) (L.map rdE) = (insE x L).map rdE
  | [] => rfl
  | y :: r => by
    unfold insE
    simp only [List.map_cons, DataW.insert]
    rw [show (rdE x).1.before (rdE y).1 = bytesBefore x.1 y.1 from rfl, insert_rd x r]
    split <;> rfl
theorem nD_put {L : Es} {s : Bs} (h : lk s L = none) (n : Nat) : (nD L).put (.string s) (.lit (.int .u16 n)) = nD (insE (s, n) L) := by
  unfold nD
  show DataW.map (DataW.insert (rdE (s, n)) ((L.map rdE).filter fun p => !p.1.sameKey (.string s))) = _
  rw [filter_rd, delE_none h, insert_rd]
theorem nD_del (L : Es) (s : Bs) : (nD L).del (.string s) = nD (delE s L) := by
  unfold nD
  show DataW.map ((L.map rdE).filter fun p => !p.1.sameKey (.string s)) = _
  rw [filter_rd]
theorem nD_size (L : Es) : Maps.size (nD L) = L.length := by unfold nD; rw [size_eq]; simp
theorem insE_len (x : Bs × Nat) : ∀ L : Es, (insE x L).length = L.length + 1
  | [] => rfl
  | y :: r => by unfold insE; split <;> simp [insE_len x r]
theorem delE_len (s : Bs) (L : Es) : (delE s L).length ≤ L.length := List.length_filter_le _ _
theorem lk_ins_same (x : Bs × Nat) : ∀ L : Es, lk x.1 L = none → lk x.1 (insE x L) = some x.2
  | [], _ => by simp [insE, lk]
  | y :: r, h => by
    have h1 := lk_none.1 h y (by simp)
    have h2 : lk x.1 r = none := lk_none.2 fun e he => lk_none.1 h e (by simp [he])
    unfold insE
    split
    · simp [lk]
    · have := lk_ins_same x r h2
      unfold lk at this ⊢
      rw [List.find?_cons, decide_eq_false h1]
      exact this
theorem lk_ins_other (x : Bs × Nat) {s : Bs} (hs : s ≠ x.1) : ∀ L : Es, lk s (insE x L) = lk s L
  | [] => by simp [insE, lk, Ne.symm hs]
  | y :: r => by
    unfold insE
    split
    · simp [lk, Ne.symm hs]
    · have := lk_ins_other x hs r
      unfold lk at this ⊢
      rw [List.find?_cons, List.find?_cons]
      split
      · rfl
      · exact this
theorem lk_del_same (s : Bs) (L : Es) : lk s (delE s L) = none := lk_none.2 fun e he => by
  have := (List.mem_filter.1 he).2
  simpa using this
theorem lk_del_other {s u : Bs} (h : s ≠ u) (L : Es) : lk s (delE u L) = lk s L := by
  unfold lk delE
  rw [List.find?_filter]
  congr 2
  funext e
  by_cases he : e.1 = s
  · simp [he, h]
  · simp [he]
theorem mem_ins {x e : Bs × Nat} : ∀ {L : Es}, e ∈ insE x L ↔ e = x ∨ e ∈ L
  | [] => by simp [insE]
  | y :: r => by
    unfold insE
    split
    · simp
    · rw [List.mem_cons, mem_ins (L := r), List.mem_cons]
      constructor
      · rintro (h | h | h)
        · exact .inr (.inl h)
        · exact .inl h
        · exact .inr (.inr h)
      · rintro (h | h | h)
        · exact .inr (.inl h)
        · exact .inl h
        · exact .inr (.inr h)
theorem mem_del {e : Bs × Nat} {s : Bs} {L : Es} : e ∈ delE s L ↔ e ∈ L ∧ e.1 ≠ s := by unfold delE; simp [List.mem_filter]
theorem lk_mem {s : Bs} {n : Nat} {L : Es} (h : lk s L = some n) : (s, n) ∈ L := by
  unfold lk at h
  obtain ⟨e, he, rfl⟩ := Option.map_eq_some_iff.1 h
  have h1 := List.find?_some he
  have h2 := List.mem_of_find?_eq_some he
  simp at h1
  rw [← h1]; exact h2
/-! What may be a name; what a call answers. -/
def nameB (s : Bs) : Bool := decide (1 ≤ s.length ∧ s.length ≤ 14 ∧ s ≠ [46] ∧ s ≠ [46, 46] ∧ ∀ c ∈ s, 33 ≤ c.toNat ∧ c.toNat ≤ 126 ∧ c.toNat ≠ 47 ∧ c.toNat ≠ 35)
def mayB (k : Nat) (text : ByteArray) : Bool := decide (k = 1 ∨ k = 2 ∨ k = 3 ∧ 1 ≤ text.size ∧ text.size ≤ 120)
def dirE (T : TrM) (n : Nat) : Nat := if (T.nd n).kd = 0 then 2 else if (T.nd n).kd = 2 then 0 else 20
def lookR : Option Nat → Nat × Nat
  | some n => (n, 0)
  | none => (0, 2)
def lookF (T : TrM) (inn : Nat) (s : Bs) : Nat × Nat := if dirE T inn = 0 then lookR (lk s (T.nd inn).L) else (0, dirE T inn)
def roomE (T : TrM) (inn : Nat) (s : Bs) : Nat :=
  if dirE T inn ≠ 0 then dirE T inn
  else if nameB s = false then 22
  else if (lk s (T.nd inn).L).isSome = true then 17
  else if (T.nd inn).links = 0 then 2
  else if 32 ≤ (T.nd inn).L.length then 28
  else 0
def freeF (T : TrM) : Option Nat := (List.range' 1 T.lim).find? (fun n => decide ((T.nd n).kd = 0))
/-- The way up from a directory; none: longer than the fuel. -/
def upO (T : TrM) : Nat → Nat → Option (List Nat)
  | 0, _ => none
  | f + 1, n => if (T.nd n).kd ≠ 2 then some [] else if (T.nd n).par = n then some [n] else (upO T f (T.nd n).par).map (n :: ·)
def freshN (k inn : Nat) (text : ByteArray) : NdM := ⟨k, [], [], if k = 2 then inn else 0, if k = 3 then text else ⟨#[]⟩, 1, 0⟩
def chg (T : TrM) (f : Nat → NdM) : TrM := { T with nd := f, ch := T.ch + 1 }
def madeT (T : TrM) (inn : Nat) (s : Bs) (k : Nat) (text : ByteArray) (n : Nat) : TrM :=
  chg T (upd (upd T.nd inn { T.nd inn with L := insE (s, n) (T.nd inn).L }) n (freshN k inn text))
/-- Make, deep: how deep the directory stands. -/
def makeF (T : TrM) (deep inn : Nat) (s : Bs) (k : Nat) (text : ByteArray) : Nat × Nat × TrM :=
  if roomE T inn s ≠ 0 then (0, roomE T inn s, T)
  else if mayB k text = false then (0, 22, T)
  else match freeF T with
    | none => (0, 28, T)
    | some n => if k = 2 ∧ 16 ≤ deep then (0, 28, T) else (n, 0, madeT T inn s k text n)
def addedT (T : TrM) (inn : Nat) (s : Bs) (n : Nat) : TrM :=
  let f := upd T.nd inn { T.nd inn with L := insE (s, n) (T.nd inn).L }
  chg T (upd f n { f n with links := (f n).links + 1 })
def addF (T : TrM) (inn : Nat) (s : Bs) (n : Nat) : Nat × TrM :=
  if (T.nd n).kd = 0 then (2, T)
  else if (T.nd n).kd = 2 then (1, T)
  else if roomE T inn s ≠ 0 then (roomE T inn s, T)
  else if (T.nd n).links = 0 then (2, T)
  else if 256 ≤ (T.nd n).links then (31, T)
  else (0, addedT T inn s n)
def leaveT (f : Nat → NdM) (n : Nat) : Nat → NdM := if (f n).links = 0 ∧ (f n).held = 0 then upd f n ndZ else f
/-- A name of a directory is gone: it is inode n's. -/
def takeT (f : Nat → NdM) (inn : Nat) (s : Bs) (n : Nat) : Nat → NdM :=
  let g := upd f inn { f inn with L := delE s (f inn).L }
  leaveT (upd g n { g n with links := (g n).links - 1 }) n
def dropE (x : NdM) (dir : Bool) : Nat := if dir = true ∧ x.kd ≠ 2 then 20 else if dir = false ∧ x.kd = 2 then 21 else if x.L ≠ [] then 39 else 0
def dropF (T : TrM) (inn : Nat) (s : Bs) (dir : Bool) : Nat × TrM :=
  if (lookF T inn s).2 ≠ 0 then ((lookF T inn s).2, T)
  else if dropE (T.nd (lookF T inn s).1) dir ≠ 0 then (dropE (T.nd (lookF T inn s).1) dir, T)
  else (0, chg T (takeT T.nd inn s (lookF T inn s).1))
def holdF (T : TrM) (n : Nat) (more : Bool) : Nat × TrM :=
  if (T.nd n).kd = 0 then (2, T)
  else if more = true then (0, { T with nd := upd T.nd n { T.nd n with held := (T.nd n).held + 1 } })
  else if (T.nd n).held = 0 then (22, T)
  else (0, { T with nd := leaveT (upd T.nd n { T.nd n with held := (T.nd n).held - 1 }) n })
def fileE (T : TrM) (n : Nat) (at_ : Int) : Nat := if (T.nd n).kd = 0 then 2 else if (T.nd n).kd = 2 then 21 else if (T.nd n).kd ≠ 1 ∨ at_ < 0 then 22 else 0
def sized (l : List Nat) (n : Nat) : List Nat := l.take n ++ List.replicate (n - l.length) 0
def over (l : List Nat) (k : Nat) (b : List Nat) : List Nat := l.take k ++ b ++ l.drop (k + b.length)
def writeF (T : TrM) (n : Nat) (at_ : Int) (b : List Nat) : Nat × TrM :=
  if fileE T n at_ ≠ 0 then (fileE T n at_, T)
  else if at_ + b.length > 1024 then (27, T)
  else (0, chg T (upd T.nd n { T.nd n with data := over (sized (T.nd n).data (max (T.nd n).data.length (at_.toNat + b.length))) at_.toNat b }))
def cutF (T : TrM) (n : Nat) (size : Int) : Nat × TrM :=
  if fileE T n size ≠ 0 then (fileE T n size, T)
  else if size > 1024 then (27, T)
  else (0, chg T (upd T.nd n { T.nd n with data := sized (T.nd n).data size.toNat }))
/-- How many directories stand in one another below; within so many. -/
def tallF (T : TrM) : Nat → Nat → Nat
  | 0, _ => 0
  | f + 1, n => (T.nd n).L.foldl (fun h e => if (T.nd e.2).kd = 2 then max h (1 + tallF T f e.2) else h) 0
def Low (T : TrM) : Nat → Nat → Prop
  | 0, _ => False
  | f + 1, n => ∀ e ∈ (T.nd n).L, (T.nd e.2).kd = 2 → Low T f e.2
def giveT (f : Nat → NdM) (inn : Nat) (s : Bs) (n : Nat) : Nat → NdM :=
  let g := upd f inn { f inn with L := insE (s, n) (f inn).L }
  upd g n { g n with links := (g n).links + 1, par := if (g n).kd = 2 then inn else (g n).par }
/-- Move: way: the way up from the directory to which it goes; tall: what stands below what moves. -/
def movingE (T : TrM) (way : List Nat) (tall n tt : Nat) (u : Bs) : Nat :=
  if nameB u = false then 22
  else if (T.nd tt).links = 0 then 2
  else if (T.nd n).kd ≠ 2 then 0
  else if n ∈ way then 22
  else if 16 < way.length + tall then 28
  else 0
def moveF (T : TrM) (way : List Nat) (tall inn : Nat) (s : Bs) (tt : Nat) (u : Bs) : Nat × TrM :=
  if (lookF T inn s).2 ≠ 0 then ((lookF T inn s).2, T)
  else if dirE T tt ≠ 0 then (dirE T tt, T)
  else if lk u (T.nd tt).L = some (lookF T inn s).1 then (0, T)
  else if tt ≠ inn ∧ lk u (T.nd tt).L = none ∧ 32 ≤ (T.nd tt).L.length then (28, T)
  else if movingE T way tall (lookF T inn s).1 tt u ≠ 0 then (movingE T way tall (lookF T inn s).1 tt u, T)
  else if (lk u (T.nd tt).L).isSome = true ∧ (dropF T tt u (decide ((T.nd (lookF T inn s).1).kd = 2))).1 ≠ 0 then ((dropF T tt u (decide ((T.nd (lookF T inn s).1).kd = 2))).1, T)
  else
    let D := if (lk u (T.nd tt).L).isSome = true then (dropF T tt u (decide ((T.nd (lookF T inn s).1).kd = 2))).2 else T
    (0, chg D (takeT (giveT D.nd tt u (lookF T inn s).1) inn s (lookF T inn s).1))
end Go.Proofs.Ytdlglllidolggaa.In
