/- Paths by lists alone: what a path is parted into, what may be a part; the document's way, byte by byte. -/
import Derived.Test.YtcageojoafkojaaGa
import Derived.Lib.SplitLaws
import Derived.Lib.IndexMore
import Derived.Test.YtcageojoafkojaaGn
namespace Go.Proofs.Ytcageojoafkojaa
/-- Parts: the text parted at each /. -/
def parts : Bs → List Bs
  | [] => [[]]
  | c :: t => if c = 47 then [] :: parts t else match parts t with | h :: r => (c :: h) :: r | [] => [[c]]
theorem parts_ne (s : Bs) : parts s ≠ [] := by
  cases s with
  | nil => simp [parts]
  | cons c t =>
    unfold parts
    split
    · simp
    · split <;> simp
theorem pix_eq (c : UInt8) (t : Bs) : Lib.index (c :: t) [c] = 0 := by simp [Lib.index, List.isPrefixOf]
theorem pix_ne (b c : UInt8) (t : Bs) (h : b ≠ c) : Lib.index (b :: t) [c] = if Lib.index t [c] == -1 then -1 else Lib.index t [c] + 1 := by
  have hp : ([c] : List UInt8).isPrefixOf (b :: t) = false := by simp [List.isPrefixOf, Ne.symm h]
  rw [Lib.index, hp]; simp
theorem psplitK_ne (c d : UInt8) (t : Bs) (h : d ≠ c) (k : Nat) : Lib.splitK [c] 0 k (d :: t) = match Lib.splitK [c] 0 k t with | a :: r => (d :: a) :: r | [] => [[d]] := by
  cases k with
  | zero => rfl
  | succ k =>
    unfold Lib.splitK
    rw [pix_ne d c t h]
    by_cases hm : Lib.index t [c] = -1
    · simp [hm]
    · have hge := Lib.index_ge t [c]
      obtain ⟨j, hj⟩ : ∃ j : Nat, Lib.index t [c] = j := ⟨(Lib.index t [c]).toNat, by omega⟩
      have h1 : ((j : Int) == -1) = false := by rw [beq_eq_false_iff_ne]; omega
      have h2 : (((j : Int) + 1) == -1) = false := by rw [beq_eq_false_iff_ne]; omega
      have h3 : ((j : Int) + 1).toNat = j + 1 := by omega
      rw [hj]
      simp [h1, h2, h3]
theorem splitK_parts : ∀ (s : Bs), Lib.splitK [47] 0 (Lib.count s [47]) s = parts s
  | [] => rfl
  | c :: t => by
    by_cases h : c = 47
    · subst h
      rw [Lib.count_cons_eq, Nat.add_comm, Lib.splitK, pix_eq, parts, if_pos rfl, ← splitK_parts t]
      simp
    · rw [Lib.count_cons_ne _ _ _ h, psplitK_ne 47 c t h, parts, if_neg h, splitK_parts t]
      cases parts t <;> rfl
theorem splitB_parts (s : ByteArray) : (Lib.splitB ⟨#[47]⟩ 0 (Lib.countB s ⟨#[47]⟩) s).map (·.data.toList) = parts s.data.toList := by
  rw [Lib.splitB_data]
  exact splitK_parts _
theorem parts_len (s : Bs) : (parts s).length ≤ s.length + 1 := by
  induction s with
  | nil => simp [parts]
  | cons c t ih =>
    unfold parts
    split
    · simp; omega
    · split
      · rename_i h r e; rw [e] at ih; simp at ih ⊢; omega
      · simp
theorem parts_mem (s : Bs) : ∀ l ∈ parts s, l.length ≤ s.length := by
  induction s with
  | nil => simp [parts]
  | cons c t ih =>
    unfold parts
    split
    · intro l hl
      rcases List.mem_cons.1 hl with rfl | hl
      · simp
      · have := ih l hl; simp; omega
    · split
      · rename_i h r e
        rw [e] at ih
        intro l hl
        rcases List.mem_cons.1 hl with rfl | hl
        · have := ih h (by simp); simp; omega
        · have := ih l (by simp [hl]); simp; omega
      · intro l hl; simp at hl; subst hl; simp
/-- May a text's ends not be a part's: empty, . or .., or longer than fourteen. -/
def endB (t : Bs) : Bool := decide (t = []) || (decide (t = [46]) || (decide (t = [46, 46]) || decide (14 < t.length)))
/-- May it not be a part? -/
def noB (t : Bs) : Bool := endB t || !(t.all fun c => prn c.toNat)
def pathB (s : Bs) : Bool := match s with | [] => false | c :: t => decide (c = 47) && (decide (s.length ≤ 120) && (decide (t = []) || !(parts t).any noB))
/-- The document's way. -/
def goP : Bs → Bs → Bool
  | cur, [] => !endB cur
  | cur, c :: t => if c = 47 then !endB cur && goP [] t else prn c.toNat && goP (cur ++ [c]) t
/-- The first part with a text ahead of it. -/
def onto (cur : Bs) : List Bs → List Bs
  | h :: r => (cur ++ h) :: r
  | [] => [cur]
theorem goP_parts : ∀ (t cur : Bs), (cur.all fun c => prn c.toNat) = true → goP cur t = !(onto cur (parts t)).any noB
  | [], cur, h => by simp [goP, parts, onto, noB, h]
  | c :: t, cur, h => by
    have hn := parts_ne t
    by_cases hc : c = 47
    · subst hc
      have ih := goP_parts t [] rfl
      cases hp : parts t with
      | nil => exact absurd hp hn
      | cons a r =>
        rw [hp] at ih
        simp [goP, parts, onto, noB, h, ih, hp, onto]
    · rw [goP, if_neg hc, parts, if_neg hc]
      cases hp : parts t with
      | nil => exact absurd hp hn
      | cons a r =>
        simp only [onto]
        by_cases hq : prn c.toNat = true
        · rw [goP_parts t (cur ++ [c]) (by simp [h, hq]), hp]
          simp [onto, hq]
        · have hq' : prn c.toNat = false := by simpa using hq
          simp [noB, hq', List.all_append]
theorem onto_nil {l : List Bs} (h : l ≠ []) : onto [] l = l := by
  cases l with
  | nil => exact absurd rfl h
  | cons a r => rfl
theorem pathB_go (t : Bs) (h : (47 :: t).length ≤ 120) (hne : t ≠ []) : pathB (47 :: t) = goP [] t := by
  have h2 : (47 :: t : Bs).length ≤ 120 := h
  rw [goP_parts t [] rfl, onto_nil (parts_ne t)]
  unfold pathB
  simp only [h2, hne, decide_true, decide_false, Bool.true_and, Bool.false_or]
/-- A part's first bad byte, or none. -/
theorem noB_all {t : Bs} (he : endB t = false) (h : ∀ c ∈ t, prn c.toNat = true) : noB t = false := by
  unfold noB
  rw [he, Bool.false_or, Bool.not_eq_false']
  exact List.all_eq_true.2 h
theorem noB_bad {t : Bs} {c : UInt8} (hm : c ∈ t) (h : prn c.toNat = false) : noB t = true := by
  unfold noB
  rw [Bool.or_eq_true, Bool.not_eq_true', List.all_eq_false]
  exact .inr ⟨c, hm, by simp [h]⟩
theorem noB_end {t : Bs} (he : endB t = true) : noB t = true := by unfold noB; rw [he]; rfl
end Go.Proofs.Ytcageojoafkojaa
namespace Go.Proofs.Ytcageojoafkojaa
open Go.RowKit
/-- The first number that is not nought, thing by thing. -/
def firstE {α : Type} (f : Nat → α → Nat) : Nat → List α → Nat
  | _, [] => 0
  | i, x :: t => if f i x ≠ 0 then f i x else firstE f (i + 1) t
theorem firstE_end {α : Type} (f : Nat → α → Nat) (l : List α) {i : Nat} (h : l.length ≤ i) (k : Nat) : firstE f k (l.drop i) = 0 := by
  rw [List.drop_eq_nil_of_le h]; rfl
theorem firstE_bad {α : Type} {f : Nat → α → Nat} {l : List α} {i : Nat} {x : α} (h : l[i]? = some x) (hb : f i x ≠ 0) : firstE f i (l.drop i) = f i x := by
  obtain ⟨h1, h2⟩ := List.getElem?_eq_some_iff.1 h
  rw [List.drop_eq_getElem_cons h1, h2, firstE, if_pos hb]
theorem firstE_on {α : Type} {f : Nat → α → Nat} {l : List α} {i : Nat} {x : α} (h : l[i]? = some x) (hb : f i x = 0) : firstE f i (l.drop i) = firstE f (i + 1) (l.drop (i + 1)) := by
  obtain ⟨h1, h2⟩ := List.getElem?_eq_some_iff.1 h
  rw [List.drop_eq_getElem_cons h1, h2, firstE, if_neg (by simpa using hb)]
theorem firstE_zero {α : Type} (f : Nat → α → Nat) : ∀ (l : List α) (k : Nat), (∀ i x, l[i]? = some x → f (k + i) x = 0) → firstE f k l = 0
  | [], _, _ => rfl
  | x :: t, k, h => by
    have h0 := h 0 x rfl
    rw [firstE, if_neg (by simpa using h0)]
    exact firstE_zero f t (k + 1) fun i y hy => by have := h (i + 1) y (by simpa using hy); rwa [show k + (i + 1) = k + 1 + i from by omega] at this
structure CondM where
  arg : Int
  op : Nat
  mask : Nat
  val : Nat
structure RuleM where
  num : Nat
  act : Nat
  conds : List CondM
structure PolM where
  name : Bs
  dflt : Nat
  rules : List RuleM
  handled : Nat
  paths : List (Bs × Nat)
  ports : List (Nat × Nat)
def CondM.ok (c : CondM) : Prop := -9223372036854775808 ≤ c.arg ∧ c.arg ≤ 9223372036854775807 ∧ c.op < 256 ∧ c.mask < 18446744073709551616 ∧ c.val < 18446744073709551616
/-- A condition's error. -/
def condE (c : CondM) : Nat :=
  if c.arg < 0 ∨ 5 < c.arg then 204 else if c.op < 1 ∨ 7 < c.op then 210
  else if c.op ≠ 7 then (if c.mask ≠ 0 then 203 else 0)
  else if c.mask = 0 ∨ c.val &&& c.mask ≠ c.val then 204 else 0
def actB (a : Nat) : Bool := decide (a = 2147483648 ∨ a = 2147221504 ∨ a = 2147418112 ∨ (327680 < a ∧ a ≤ 331775))
def ruleE (r : RuleM) : Nat :=
  if (byNum r.num).isSome = false then 38 else if actB r.act = false then 210 else if 6 < r.conds.length then 205
  else firstE (fun _ c => condE c) 0 r.conds
def hasS (a b : Nat) : Bool := decide (a &&& b = b)
def grantB (handled r kind : Nat) : Bool := decide (r ≠ 0) && (hasS handled r && hasS kind r)
def pathE (l : List (Bs × Nat)) (handled : Nat) (i : Nat) (x : Bs × Nat) : Nat :=
  if pathB x.1 = false then 203 else if grantB handled x.2 2047 = false then 204
  else if ((l.take i).any fun y => decide (y.1 = x.1)) = true then 206 else 0
def portE (l : List (Nat × Nat)) (handled : Nat) (i : Nat) (x : Nat × Nat) : Nat :=
  if grantB handled x.2 49152 = false then 204
  else if ((l.take i).any fun y => decide (y.1 = x.1)) = true then 206 else 0
open Classical in
noncomputable def wordB (s : Bs) : Bool := decide (wordP ⟨s.toArray⟩)
noncomputable def polE (p : PolM) : Nat :=
  if wordB p.name = false then 202 else if actB p.dflt = false then 210
  else if 64 < p.rules.length ∨ 32 < p.paths.length ∨ 32 < p.ports.length then 205
  else if p.handled &&& 14336 ≠ 0 then 204
  else if firstE (fun _ r => ruleE r) 0 p.rules ≠ 0 then firstE (fun _ r => ruleE r) 0 p.rules
  else if firstE (pathE p.paths p.handled) 0 p.paths ≠ 0 then firstE (pathE p.paths p.handled) 0 p.paths
  else firstE (portE p.ports p.handled) 0 p.ports
/-- The cells. -/
def CondM.cells (c : CondM) : List Value := [.int .i64 c.arg, .int .u8 c.op, .int .u64 c.mask, .int .u64 c.val]
def CondM.rcells (c : CondM) : List Value := [.int .i64 c.arg, .int .i64 c.op, .int .u64 c.mask, .int .u64 c.val]
structure RuleV where
  m : RuleM
  A : Option Addr
  cap : Nat
def RuleV.cells (r : RuleV) : List Value := [.int .u32 r.m.num, .int .u32 r.m.act, .slice r.A r.m.conds.length r.cap]
def pathC (x : Bs × Nat) : List Value := [.string ⟨x.1.toArray⟩, .int .u16 x.2]
def portC (x : Nat × Nat) : List Value := [.int .u16 x.1, .int .u16 x.2]
def pathR (x : Bs × Nat) : List Value := [.string ⟨x.1.toArray⟩, .int .i64 x.2]
def portR (x : Nat × Nat) : List Value := [.int .i64 x.1, .int .i64 x.2]
structure PolV where
  name : Bs
  dflt : Nat
  rules : List RuleV
  RA : Option Addr
  Rc : Nat
  handled : Nat
  paths : List (Bs × Nat)
  PA : Option Addr
  Pc : Nat
  ports : List (Nat × Nat)
  QA : Option Addr
  Qc : Nat
def PolV.m (p : PolV) : PolM := ⟨p.name, p.dflt, p.rules.map RuleV.m, p.handled, p.paths, p.ports⟩
def PolV.cells (p : PolV) : List Value :=
  [.string ⟨p.name.toArray⟩, .int .u32 p.dflt, .slice p.RA p.rules.length p.Rc, .int .u16 p.handled, .slice p.PA p.paths.length p.Pc, .slice p.QA p.ports.length p.Qc]
def PolV.rcells (p : PolV) : List Value :=
  [.string ⟨p.name.toArray⟩, .int .u32 p.dflt, .slice p.RA p.rules.length p.Rc, .int .i64 p.handled, .slice p.PA p.paths.length p.Pc, .slice p.QA p.ports.length p.Qc]
def RuleM.ok (r : RuleM) : Prop := r.num < 4294967296 ∧ r.act < 4294967296 ∧ r.conds.length ≤ maxLen ∧ ∀ c ∈ r.conds, c.ok
structure PolM.ok (p : PolM) : Prop where
  name : p.name.length ≤ maxLen
  dflt : p.dflt < 4294967296
  rules : p.rules.length ≤ maxLen
  each : ∀ r ∈ p.rules, r.ok
  handled : p.handled < 65536
  paths : p.paths.length ≤ maxLen
  path : ∀ x ∈ p.paths, x.1.length ≤ maxLen ∧ x.2 < 65536
  ports : p.ports.length ≤ maxLen
  port : ∀ x ∈ p.ports, x.1 < 65536 ∧ x.2 < 65536
def PolV.fit (p : PolV) : Prop := p.paths.length ≤ p.Pc ∧ p.ports.length ≤ p.Qc
/-- A policy in memory; as the document's answer has it. -/
structure Reads (w : World) (p : PolV) : Prop where
  rules : Rd w 3 p.rules.length p.RA (p.rules.flatMap RuleV.cells)
  conds : ∀ r ∈ p.rules, Rd w 4 r.m.conds.length r.A (r.m.conds.flatMap CondM.cells)
  paths : Rd w 2 p.paths.length p.PA (p.paths.flatMap pathC)
  ports : Rd w 2 p.ports.length p.QA (p.ports.flatMap portC)
structure RReads (w : World) (p : PolV) : Prop where
  rules : Rd w 3 p.rules.length p.RA (p.rules.flatMap RuleV.cells)
  conds : ∀ r ∈ p.rules, Rd w 4 r.m.conds.length r.A (r.m.conds.flatMap CondM.rcells)
  paths : Rd w 2 p.paths.length p.PA (p.paths.flatMap pathR)
  ports : Rd w 2 p.ports.length p.QA (p.ports.flatMap portR)
theorem Reads.below {w w' : World} {p : PolV} (h : Reads w p) (hb : Below w.heap.size w w') : Reads w' p :=
  ⟨h.rules.below hb, fun r hr => (h.conds r hr).below hb, h.paths.below hb, h.ports.below hb⟩
theorem RReads.below {w w' : World} {p : PolV} (h : RReads w p) (hb : Below w.heap.size w w') : RReads w' p :=
  ⟨h.rules.below hb, fun r hr => (h.conds r hr).below hb, h.paths.below hb, h.ports.below hb⟩
/-- A slice that reads so, no block of which is block t. -/
def Off (n : Nat) (A : Option Addr) (t : Nat) : Prop := n = 0 ∨ ∀ a, A = some a → a.block ≠ t
theorem Rd.grownO {w w' : World} {z n t : Nat} {A : Option Addr} {xs : List Value} (h : Rd w z n A xs) (ho : Off n A t) (g : w.grownBy w' (some t)) : Rd w' z n A xs :=
  ⟨h.len, by
    rcases ho with e | ho
    · exact .inl e
    · refine h.at_.imp id fun ⟨b, o, e, hl, hc⟩ => ⟨b, o, e, Nat.lt_of_lt_of_le hl g.size, fun j u hu => ?_⟩
      rw [← hc j u hu]
      unfold World.cell?
      rw [g.block b hl (fun h => ho _ e (Option.some.inj h))]⟩
structure OffP (p : PolV) (t : Nat) : Prop where
  rules : Off p.rules.length p.RA t
  conds : ∀ r ∈ p.rules, Off r.m.conds.length r.A t
  paths : Off p.paths.length p.PA t
  ports : Off p.ports.length p.QA t
theorem Reads.grown {w w' : World} {p : PolV} {t : Nat} (h : Reads w p) (ho : OffP p t) (g : w.grownBy w' (some t)) : Reads w' p :=
  ⟨h.rules.grownO ho.rules g, fun r hr => (h.conds r hr).grownO (ho.conds r hr) g, h.paths.grownO ho.paths g, h.ports.grownO ho.ports g⟩
theorem Rd.off {w : World} {z n t : Nat} {A : Option Addr} {xs : List Value} (h : Rd w z n A xs) (ht : w.heap.size ≤ t) : Off n A t :=
  h.at_.imp id fun ⟨b, o, e, hl, _⟩ a ha he => by cases e.symm.trans ha; simp at he; omega
theorem Reads.off {w : World} {p : PolV} {t : Nat} (h : Reads w p) (ht : w.heap.size ≤ t) : OffP p t :=
  ⟨h.rules.off ht, fun r hr => (h.conds r hr).off ht, h.paths.off ht, h.ports.off ht⟩
/-- Cells of the k-th thing, z cells each. -/
theorem flatz {α : Type} (f : α → List Value) (z : Nat) (hf : ∀ x, (f x).length = z) (hz : 0 < z) : ∀ (l : List α) (k j : Nat), j < z → (l.flatMap f)[k * z + j]? = (l[k]?).bind (fun x => (f x)[j]?)
  | [], k, j, _ => by simp
  | x :: l, 0, j, hj => by
    rw [List.flatMap_cons, List.getElem?_append_left (by rw [hf]; omega)]; simp
  | x :: l, k + 1, j, hj => by
    rw [List.flatMap_cons, List.getElem?_append_right (by rw [hf, Nat.succ_mul]; omega), hf, show (k + 1) * z + j - z = k * z + j from by rw [Nat.succ_mul]; omega, flatz f z hf hz l k j hj]
    simp
theorem flatz_len {α : Type} (f : α → List Value) (z : Nat) (hf : ∀ x, (f x).length = z) : ∀ (l : List α), (l.flatMap f).length = l.length * z
  | [] => by simp
  | x :: l => by rw [List.flatMap_cons, List.length_append, flatz_len f z hf l, hf, List.length_cons, Nat.succ_mul, Nat.add_comm]
/-- Cells of one thing in a slice, told one by one. -/
theorem Rd.one {α : Type} {f : α → List Value} {w : World} {z n : Nat} {A : Option Addr} {l : List α} (h : Rd w z n A (l.flatMap f)) (hf : ∀ x, (f x).length = z) (hz : 0 < z) (hn : 0 < n) :
    ∃ b o, A = some ⟨b, o, none⟩ ∧ b < w.heap.size ∧ ∀ k x, l[k]? = some x → ∀ j v, (f x)[j]? = some v → w.cell? ⟨b, o + (k * z + j), none⟩ = some v := by
  obtain ⟨b, o, e, hb, hc⟩ := h.pos hn
  refine ⟨b, o, e, hb, fun k x hx j v hv => hc _ v ?_⟩
  have hj : j < z := by rw [← hf x]; exact (List.getElem?_eq_some_iff.1 hv).1
  rw [flatz f z hf hz l k j hj, hx]
  exact hv
end Go.Proofs.Ytcageojoafkojaa

