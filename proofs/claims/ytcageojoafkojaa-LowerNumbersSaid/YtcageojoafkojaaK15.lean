/- Does a condition hold of a call: the program's way and the document's. -/
import Derived.Test.YtcageojoafkojaaK14
import Derived.Test.YtcageojoafkojaaK02
import Derived.Outline
import Derived.Test.YtcageojoafkojaaK12
namespace Go.Proofs.Ytcageojoafkojaa.Me
open Go.RowKit Go.WideElems
def RetB (b : Bool) (w : World) (e : Ending) (w' : World) : Prop := e = .returned (.bool b) ∧ Below w.heap.size w w'
theorem retb {b k : Bool} {w w' : World} {e : Ending} (h : b = k) (he : e = .returned (.bool k)) (hb : Below w.heap.size w w') : RetB b w e w' := by subst h; exact ⟨he, hb⟩
theorem hold_out {c : CondM} {x : RcM} (h : c.arg < 0 ∨ 5 < c.arg) : holdB c x = false := by unfold holdB; rw [if_pos h]
theorem hold_in {arg : Int} {op mask val k : Nat} {x : RcM} (he : arg = k) (h : k < 6) : holdB ⟨arg, op, mask, val⟩ x = opB op mask val (x.arg k) := by
  subst he
  unfold holdB
  rw [if_neg (by simp only; omega)]
  rfl
theorem op_other {op mask val a : Nat} (h : op < 1 ∨ 7 < op) : opB op mask val a = false := by
  unfold opB
  rw [if_neg (by omega), if_neg (by omega), if_neg (by omega), if_neg (by omega), if_neg (by omega), if_neg (by omega), if_neg (by omega)]
theorem two_new (w : World) (a b : Array Value) (T U : TypeId) {la lb : List Value} (ha : a = la.toArray) (hb : b = lb.toArray) :
    Bk ((w.alloc (.cells a T)).alloc (.cells b U)) w.heap.size T la ∧ Bk ((w.alloc (.cells a T)).alloc (.cells b U)) (w.heap.size + 1) U lb ∧ Below w.heap.size w ((w.alloc (.cells a T)).alloc (.cells b U)) := by
  have h1 := Bk.new w T a ha
  have h2 := Bk.new (w.alloc (.cells a T)) U b hb
  have e : (w.alloc (.cells a T)).heap.size = w.heap.size + 1 := by simp
  rw [e] at h2
  exact ⟨h1.kept (oneb _ _), h2, (oneb w _).trans ((oneb _ _).mono (by rw [e]; omega))⟩
theorem beq_t {a b : Nat} (h : a = b) : ((a : Int) == (b : Int)) = true := by subst h; simp
theorem beq_f {a b : Nat} (h : a ≠ b) : ((a : Int) == (b : Int)) = false := by rw [beq_eq_false_iff_ne]; omega
theorem bne_t {a b : Nat} (h : a ≠ b) : ((a : Int) != (b : Int)) = true := by rw [bne_iff_ne]; omega
theorem bne_f {a b : Nat} (h : a = b) : ((a : Int) != (b : Int)) = false := by subst h; simp
set_option maxHeartbeats 4000000 in
set_option maxRecDepth 100000 in
theorem holds_any (arg : Int) (op mask val : Nat) (x : RcM) (w : World) (hop : op < 256) (hm : mask < 18446744073709551616) (hx : x.ok) :
    Calls Try.prog 63 #[.agg #[.int .i64 arg, .int .u8 op, .int .u64 mask, .int .u64 val], .agg #[.int .u32 x.num, .int .u32 x.arch, .int .u64 x.at_, .int .u64 x.a0, .int .u64 x.a1, .int .u64 x.a2, .int .u64 x.a3, .int .u64 x.a4, .int .u64 x.a5]] w (RetB (holdB ⟨arg, op, mask, val⟩ x) w) := by
  obtain ⟨hk1, hk2, hb⟩ := two_new w #[.int .i64 arg, .int .u8 op, .int .u64 mask, .int .u64 val] #[.int .u32 x.num, .int .u32 x.arch, .int .u64 x.at_, .int .u64 x.a0, .int .u64 x.a1, .int .u64 x.a2, .int .u64 x.a3, .int .u64 x.a4, .int .u64 x.a5] 58 81 (la := [.int .i64 arg, .int .u8 op, .int .u64 mask, .int .u64 val]) (lb := x.cells) rfl rfl
  go_enter Try.func63, Try.ntmps63
  go_upto_region 1 with fail
  generalize (w.alloc _).alloc _ = w2 at hk1 hk2 hb ⊢
  have HB := Lib.hid hb
  have q0 := hk1.cell 0 rfl
  have q1 := hk1.cell 1 rfl
  have q2 := hk1.cell 2 rfl
  have q3 := hk1.cell 3 rfl
  have HK2 := Lib.hid hk2
  clear hk1 hk2 hb
  by_cases h1 : arg < 0
  · have HV := Lib.hid (hold_out (c := ⟨arg, op, mask, val⟩) (x := x) (.inl h1))
    have d1 : decide (arg < 0) = true := decide_eq_true h1
    clear hx
    go_wp2_with fail
    go_ret
    exact retb HV.out rfl HB.out
  by_cases h2 : 5 < arg
  · have HV := Lib.hid (hold_out (c := ⟨arg, op, mask, val⟩) (x := x) (.inr h2))
    have d1 : decide (arg < 0) = false := decide_eq_false h1
    have h6 : 6 ≤ arg := by omega
    have d2 : decide ((6 : Int) ≤ arg) = true := decide_eq_true h6
    have d3 : decide ((5 : Int) < arg) = true := decide_eq_true h2
    clear hx
    go_wp2_with fail
    go_ret
    exact retb HV.out rfl HB.out
  obtain ⟨k, rfl⟩ : ∃ k : Nat, arg = k := ⟨arg.toNat, by omega⟩
  have hk : k < 6 := by omega
  have HV0 := Lib.hid (hold_in (op := op) (mask := mask) (val := val) (x := x) (arg := (k : Int)) rfl hk)
  obtain ⟨v, hve⟩ : ∃ v, v = x.arg k := ⟨_, rfl⟩
  have hv2 : v < 18446744073709551616 := by rw [hve]; exact hx.arg hk
  have qk := HK2.out.cell (3 + k) (RcM.arg_cell x hk)
  rw [← hve] at qk
  have HVE := Lib.hid hve
  have d1 : decide ((k : Int) < 0) = false := decide_eq_false h1
  have h6 : ¬ (6 : Int) ≤ (k : Int) := by omega
  have d2 : decide ((6 : Int) ≤ (k : Int)) = false := decide_eq_false h6
  have h5 : ¬ (5 : Int) < (k : Int) := by omega
  have d3 : decide ((5 : Int) < (k : Int)) = false := decide_eq_false h5
  have k0 : (0 : Int) ≤ (k : Int) := by omega
  have k6 : (k : Int) < 6 := by omega
  clear hve hx h2
  by_cases o1 : op = 1
  · subst o1
    by_cases hq : v = val
    · have HV := Lib.hid (show holdB ⟨(k : Int), 1, mask, val⟩ x = true by rw [HV0.out, ← HVE.out]; show decide (v = val) = true; simp [hq])
      have e1 : ((v : Int) == (val : Int)) = true := beq_t hq
      clear hq h1 hop hm hv2
      go_wp2_with fail
      go_ret
      exact retb HV.out rfl HB.out
    · have HV := Lib.hid (show holdB ⟨(k : Int), 1, mask, val⟩ x = false by rw [HV0.out, ← HVE.out]; show decide (v = val) = false; simp [hq])
      have e1 : ((v : Int) == (val : Int)) = false := beq_f hq
      clear hq h1 hop hm hv2
      go_wp2_with fail
      go_ret
      exact retb HV.out rfl HB.out
  by_cases o2 : op = 2
  · subst o2
    by_cases hq : v = val
    · have HV := Lib.hid (show holdB ⟨(k : Int), 2, mask, val⟩ x = false by rw [HV0.out, ← HVE.out]; show decide (v ≠ val) = false; simp [hq])
      have e1 : ((v : Int) != (val : Int)) = false := bne_f hq
      clear hq h1 hop hm hv2
      go_wp2_with fail
      go_ret
      exact retb HV.out rfl HB.out
    · have HV := Lib.hid (show holdB ⟨(k : Int), 2, mask, val⟩ x = true by rw [HV0.out, ← HVE.out]; show decide (v ≠ val) = true; simp [hq])
      have e1 : ((v : Int) != (val : Int)) = true := bne_t hq
      clear hq h1 hop hm hv2
      go_wp2_with fail
      go_ret
      exact retb HV.out rfl HB.out
  by_cases o3 : op = 3
  · subst o3
    by_cases hq : v < val
    · have HV := Lib.hid (show holdB ⟨(k : Int), 3, mask, val⟩ x = true by rw [HV0.out, ← HVE.out]; show decide (v < val) = true; simp [hq])
      have e1 : (v : Int) < (val : Int) := by omega
      have e2 : decide ((v : Int) < (val : Int)) = true := decide_eq_true e1
      have e3 : decide (v < val) = true := decide_eq_true hq
      clear hq h1 hop hm hv2
      go_wp2_with fail
      go_ret
      exact retb HV.out rfl HB.out
    · have HV := Lib.hid (show holdB ⟨(k : Int), 3, mask, val⟩ x = false by rw [HV0.out, ← HVE.out]; show decide (v < val) = false; simp [hq])
      have e1 : ¬ (v : Int) < (val : Int) := by omega
      have e2 : decide ((v : Int) < (val : Int)) = false := decide_eq_false e1
      have e3 : decide (v < val) = false := decide_eq_false hq
      clear hq h1 hop hm hv2
      go_wp2_with fail
      go_ret
      exact retb HV.out rfl HB.out
  by_cases o4 : op = 4
  · subst o4
    by_cases hq : v ≤ val
    · have HV := Lib.hid (show holdB ⟨(k : Int), 4, mask, val⟩ x = true by rw [HV0.out, ← HVE.out]; show decide (v ≤ val) = true; simp; omega)
      have e1 : (v : Int) ≤ (val : Int) := by omega
      have e2 : decide ((v : Int) ≤ (val : Int)) = true := decide_eq_true e1
      have e3 : decide (v ≤ val) = true := decide_eq_true hq
      clear hq h1 hop hm hv2
      go_wp2_with fail
      go_ret
      exact retb HV.out rfl HB.out
    · have HV := Lib.hid (show holdB ⟨(k : Int), 4, mask, val⟩ x = false by rw [HV0.out, ← HVE.out]; show decide (v ≤ val) = false; simp; omega)
      have e1 : ¬ (v : Int) ≤ (val : Int) := by omega
      have e2 : decide ((v : Int) ≤ (val : Int)) = false := decide_eq_false e1
      have e3 : decide (v ≤ val) = false := decide_eq_false hq
      clear hq h1 hop hm hv2
      go_wp2_with fail
      go_ret
      exact retb HV.out rfl HB.out
  by_cases o5 : op = 5
  · subst o5
    by_cases hq : val < v
    · have HV := Lib.hid (show holdB ⟨(k : Int), 5, mask, val⟩ x = true by rw [HV0.out, ← HVE.out]; show decide (val < v) = true; simp [hq])
      have e1 : (val : Int) < (v : Int) := by omega
      have e2 : decide ((val : Int) < (v : Int)) = true := decide_eq_true e1
      have e3 : decide (val < v) = true := decide_eq_true hq
      clear hq h1 hop hm hv2
      go_wp2_with fail
      go_ret
      exact retb HV.out rfl HB.out
    · have HV := Lib.hid (show holdB ⟨(k : Int), 5, mask, val⟩ x = false by rw [HV0.out, ← HVE.out]; show decide (val < v) = false; simp [hq])
      have e1 : ¬ (val : Int) < (v : Int) := by omega
      have e2 : decide ((val : Int) < (v : Int)) = false := decide_eq_false e1
      have e3 : decide (val < v) = false := decide_eq_false hq
      clear hq h1 hop hm hv2
      go_wp2_with fail
      go_ret
      exact retb HV.out rfl HB.out
  by_cases o6 : op = 6
  · subst o6
    by_cases hq : val ≤ v
    · have HV := Lib.hid (show holdB ⟨(k : Int), 6, mask, val⟩ x = true by rw [HV0.out, ← HVE.out]; show decide (val ≤ v) = true; simp; omega)
      have e1 : (val : Int) ≤ (v : Int) := by omega
      have e2 : decide ((val : Int) ≤ (v : Int)) = true := decide_eq_true e1
      have e3 : decide (val ≤ v) = true := decide_eq_true hq
      clear hq h1 hop hm hv2
      go_wp2_with fail
      go_ret
      exact retb HV.out rfl HB.out
    · have HV := Lib.hid (show holdB ⟨(k : Int), 6, mask, val⟩ x = false by rw [HV0.out, ← HVE.out]; show decide (val ≤ v) = false; simp; omega)
      have e1 : ¬ (val : Int) ≤ (v : Int) := by omega
      have e2 : decide ((val : Int) ≤ (v : Int)) = false := decide_eq_false e1
      have e3 : decide (val ≤ v) = false := decide_eq_false hq
      clear hq h1 hop hm hv2
      go_wp2_with fail
      go_ret
      exact retb HV.out rfl HB.out
  by_cases o7 : op = 7
  · subst o7
    obtain ⟨z, hz⟩ : ∃ z, z = v &&& mask := ⟨_, rfl⟩
    have hb7 : bits .and .u64 (v : Int) (mask : Int) = (z : Int) := by rw [u64_and_nat _ _ hv2 hm, hz]
    by_cases hq : v &&& mask = val
    · have HV := Lib.hid (show holdB ⟨(k : Int), 7, mask, val⟩ x = true by rw [HV0.out, ← HVE.out]; show decide (v &&& mask = val) = true; simp [hq])
      have e1 : ((z : Int) == (val : Int)) = true := beq_t (by omega)
      have HZ := Lib.hid hz
      clear hz
      clear hq h1 hop hm hv2
      go_wp2_with fail
      go_ret
      exact retb HV.out rfl HB.out
    · have HV := Lib.hid (show holdB ⟨(k : Int), 7, mask, val⟩ x = false by rw [HV0.out, ← HVE.out]; show decide (v &&& mask = val) = false; simp [hq])
      have e1 : ((z : Int) == (val : Int)) = false := beq_f (by omega)
      have HZ := Lib.hid hz
      clear hz
      clear hq h1 hop hm hv2
      go_wp2_with fail
      go_ret
      exact retb HV.out rfl HB.out
  have HV := Lib.hid (show holdB ⟨(k : Int), op, mask, val⟩ x = false by rw [HV0.out]; exact op_other (by omega))
  have b1 : ((op : Int) == 1) = false := by rw [beq_eq_false_iff_ne]; omega
  have b2 : ((op : Int) == 2) = false := by rw [beq_eq_false_iff_ne]; omega
  have b3 : ((op : Int) == 3) = false := by rw [beq_eq_false_iff_ne]; omega
  have b4 : ((op : Int) == 4) = false := by rw [beq_eq_false_iff_ne]; omega
  have b5 : ((op : Int) == 5) = false := by rw [beq_eq_false_iff_ne]; omega
  have b6 : ((op : Int) == 6) = false := by rw [beq_eq_false_iff_ne]; omega
  have b7 : ((op : Int) == 7) = false := by rw [beq_eq_false_iff_ne]; omega
  clear o1 o2 o3 o4 o5 o6 o7 h1 hop hm hv2
  go_wp2_with fail
  go_ret
  exact retb HV.out rfl HB.out
end Go.Proofs.Ytcageojoafkojaa.Me
namespace Go.Proofs.Ytcageojoafkojaa.Me
open Go.RowKit Go.WideElems
theorem all_end {cs : List CondM} {x : RcM} {k : Nat} (hk : cs.length ≤ k) (h : ∀ c ∈ cs.take k, holdB c x = true) : (cs.all fun c => holdB c x) = true := by
  rw [List.take_of_length_le hk] at h
  exact List.all_eq_true.2 h
theorem all_bad {cs : List CondM} {x : RcM} {k : Nat} {c : CondM} (h : cs[k]? = some c) (hb : holdB c x = false) : (cs.all fun c => holdB c x) = false := by
  rw [List.all_eq_false]
  exact ⟨c, List.mem_of_getElem? h, by simp [hb]⟩
theorem all_on {cs : List CondM} {x : RcM} {k : Nat} {c : CondM} (h : ∀ c ∈ cs.take k, holdB c x = true) (hc : cs[k]? = some c) (hb : holdB c x = true) : ∀ c ∈ cs.take (k + 1), holdB c x = true := by
  intro y hy
  rw [List.take_add_one, hc] at hy
  rcases List.mem_append.1 hy with hy | hy
  · exact h y hy
  · simp only [Option.toList_some, List.mem_singleton] at hy; subst hy; exact hb
end Go.Proofs.Ytcageojoafkojaa.Me
namespace Go.Proofs.Ytcageojoafkojaa.Ir
open Go.RowKit Go.Maps Go.WideMaps Go.WideElems Go.ChangeMaps
section
variable {w w' : World} {P : Program} {T : TypeId} {R : Value → Option (DataW Unit × List MemPlace)} {b n : Nat} {D : DataW Unit}
theorem om_lt (h : w.ownsMap P T R b n D) : b < w.heap.size := by obtain ⟨es, c, h1, _⟩ := h; exact (Array.getElem?_eq_some_iff.1 h1).1
theorem om_block (h : w.ownsMap P T R b n D) (hb : w'.heap[b]? = w.heap[b]?) : w'.ownsMap P T R b n D := by obtain ⟨es, c, h1, h2⟩ := h; exact ⟨es, c, hb.trans h1, h2⟩
theorem or_block {e : TypeId} {z : Nat} {v : Value} {xs : List Value} {B : Nat} (h : w.ownsRow B e z v n xs) (hb : ∀ g, B ≤ g → g < w.heap.size → v.ownBlock = some g → w'.heap[g]? = w.heap[g]?) : w'.ownsRow B e z v n xs := by
  obtain ⟨h1, ⟨h2, h3⟩ | ⟨g, cap, cur, h2, h3, h4, h5⟩⟩ := h
  · exact ⟨h1, Or.inl ⟨h2, h3⟩⟩
  · subst h2
    exact ⟨h1, Or.inr ⟨g, cap, cur, rfl, h3, (hb g h3 (Array.getElem?_eq_some_iff.1 h4).1 rfl).trans h4, h5⟩⟩
theorem own_ge {e : TypeId} {z : Nat} {v : Value} {xs : List Value} {B : Nat} (h : w.ownsRow B e z v n xs) : ∀ g, v.ownBlock = some g → B ≤ g := by
  intro g hg
  obtain ⟨h1, ⟨h2, h3⟩ | ⟨g', cap, cur, h2, h3, h4, h5⟩⟩ := h
  · subst h2; cases hg
  · subst h2; cases hg; exact h3
end
/-- The state of 'needed': its two maps, the row that it lays. -/
structure NW (w wr : World) (ks : List CondM) (E : List (Int × Nat)) (v : Value) (left : List CondM) (i : Nat) : Prop where
  bel : Below w.heap.size w wr
  th : wr.ownsMap Try.prog 58 unitElem w.heap.size i (unD (ks.map condK) : DataW Unit)
  eq : wr.ownsMap Try.prog 3 (plainElem Try.prog 56) (w.heap.size + 1) i (eqD E : DataW Unit)
  row : wr.ownsRow (w.heap.size + 2) 58 4 v left.length (left.flatMap CondM.cells)
section
variable {w wr w' : World} {ks left : List CondM} {E : List (Int × Nat)} {v : Value} {i : Nat}
theorem NW.size (h : NW w wr ks E v left i) : w.heap.size + 2 ≤ wr.heap.size := by have := om_lt h.eq; omega
theorem NW.kept (h : NW w wr ks E v left i) (hb : Below wr.heap.size wr w') : NW w w' ks E v left i :=
  ⟨h.bel.trans (hb.mono h.bel.size), om_block h.th (hb.block _ (om_lt h.th)), om_block h.eq (hb.block _ (om_lt h.eq)), or_block h.row fun g _ hg _ => hb.block g hg⟩
theorem NW.mono (h : NW w wr ks E v left i) {j : Nat} (hj : i ≤ j) : NW w wr ks E v left j := ⟨h.bel, h.th.mono hj, h.eq.mono hj, h.row⟩
end
theorem own_base {w : World} {e : TypeId} {z n : Nat} {v : Value} {xs : List Value} {B B' : Nat} (h : w.ownsRow B e z v n xs) (hB : B' ≤ B) : w.ownsRow B' e z v n xs := by
  obtain ⟨h1, h2 | ⟨g, cap, cur, h2, h3, h4⟩⟩ := h
  · exact ⟨h1, Or.inl h2⟩
  · exact ⟨h1, Or.inr ⟨g, cap, cur, h2, by omega, h4⟩⟩
/-! The rounds, as lists. -/
end Go.Proofs.Ytcageojoafkojaa.Ir
namespace Go.Proofs.Ytcageojoafkojaa.Ir
open Go.RowKit Go.Maps Go.WideMaps Go.WideElems Go.ChangeMaps
end Go.Proofs.Ytcageojoafkojaa.Ir
namespace Go.Proofs.Ytcageojoafkojaa.Ir
open Go.RowKit Go.WideElems
structure BrM where
  conds : List CondM
  act : Nat
structure BrV where
  m : BrM
  A : Option Addr
  cap : Nat
def BrV.cells (b : BrV) : List Value := [.slice b.A b.m.conds.length b.cap, .int .u32 b.m.act]
structure CaV where
  num : Nat
  brs : List BrV
  A : Option Addr
  cap : Nat
def CaV.cells (c : CaV) : List Value := [.int .u32 c.num, .slice c.A c.brs.length c.cap]
/-- Is the last branch one without conditions? -/
def fullB (l : List BrM) : Bool := match l.getLast? with | some b => b.conds.isEmpty | none => false
/-- A rule's branch behind a case's others. -/
def addF (l : List BrM) (r : RuleM) : List BrM :=
  if fullB l = true then l else match needF [] [] r.conds with | none => l | some left => l ++ [⟨left, r.act⟩]
/-- The conditions of branches, where they lie. -/
def Con (w : World) (b : BrV) : Prop := TRd w 58 4 b.m.conds.length b.A (b.m.conds.flatMap CondM.cells)
def OldB (w : World) (B : Nat) (c : CaV) : Prop := TRd w 54 2 c.brs.length c.A (c.brs.flatMap BrV.cells) ∧ (c.brs.length = 0 ∨ ∃ a, c.A = some a ∧ a.block < B)
structure PS (w0 wr : World) (cs : List CaV) (num : Nat) (lb : List BrV) (g cap : Nat) (vB : Value) (Bb pb d : Nat) : Prop where
  bel : Below w0.heap.size w0 wr
  pb0 : w0.heap.size ≤ pb
  box : Bk wr pb 42 [.slice (some ⟨g, 0, none⟩) (cs.length + 1) cap, .int .u32 d]
  row : wr.ownsRow w0.heap.size 50 2 (.slice (some ⟨g, 0, none⟩) (cs.length + 1) cap) (cs.length + 1) (cs.flatMap CaV.cells ++ [.int .u32 num, vB])
  brs : wr.ownsRow Bb 54 2 vB lb.length (lb.flatMap BrV.cells)
  hb : w0.heap.size ≤ Bb ∧ Bb ≤ wr.heap.size
  old : ∀ c ∈ cs, OldB wr Bb c
  con : ∀ c ∈ cs, ∀ b ∈ c.brs, Con wr b
  conl : ∀ b ∈ lb, Con wr b
theorem flat2 (l : List CaV) : (l.flatMap CaV.cells).length = l.length * 2 := by
  induction l with
  | nil => rfl
  | cons x t ih => rw [List.flatMap_cons, List.length_append, ih, List.length_cons]; show 2 + _ = _; omega
theorem set_last (l : List CaV) (num : Nat) (v v' : Value) : (l.flatMap CaV.cells ++ [.int .u32 num, v]).set (l.length * 2 + 1) v' = l.flatMap CaV.cells ++ [.int .u32 num, v'] := by
  rw [List.set_append_right _ _ (by rw [flat2]; omega), flat2, show l.length * 2 + 1 - l.length * 2 = 1 from by omega]; rfl
theorem or_set {w : World} {B : Nat} {e : TypeId} {z n g cap j : Nat} {xs : List Value} (h : w.ownsRow B e z (.slice (some ⟨g, 0, none⟩) n cap) n xs) (u : Value) : (w.setCell ⟨g, j, none⟩ u).ownsRow B e z (.slice (some ⟨g, 0, none⟩) n cap) n (xs.set j u) := by
  obtain ⟨h1, ⟨h2, h3⟩ | ⟨g', cap', cur, h2, h3, h4, h5, h6, h7, h8⟩⟩ := h
  · cases h2
  · cases h2
    refine ⟨by rw [List.length_set]; exact h1, Or.inr ⟨g, cap, cur.setIfInBounds j u, rfl, h3, ?_, h5, h6, by rw [Array.size_setIfInBounds]; exact h7, ?_⟩⟩
    · simp [World.setCell, Array.getElem?_modify, h4]
    · rw [Array.toList_setIfInBounds, List.take_set, h8]
theorem or_cell {w : World} {B : Nat} {e : TypeId} {z n g cap : Nat} {xs : List Value} (h : w.ownsRow B e z (.slice (some ⟨g, 0, none⟩) n cap) n xs) {j : Nat} {u : Value} (hu : xs[j]? = some u) : w.cell? ⟨g, j, none⟩ = some u ∧ w.frozen? ⟨g, j, none⟩ = false ∧ g < w.heap.size := by
  obtain ⟨h1, ⟨h2, h3⟩ | ⟨g', cap', cur, h2, h3, h4, h5, h6, h7, h8⟩⟩ := h
  · cases h2
  · cases h2
    refine ⟨?_, by simp [World.frozen?, h4], (Array.getElem?_eq_some_iff.1 h4).1⟩
    have hj : j < n * z := by rw [← h1]; exact (List.getElem?_eq_some_iff.1 hu).1
    rw [← h8, List.getElem?_take_of_lt hj] at hu
    simp [World.cell?, h4]
    rw [← Array.getElem?_toList]; exact hu
section
variable {w0 wr w' : World} {cs : List CaV} {num : Nat} {lb : List BrV} {g cap : Nat} {vB : Value} {Bb pb d : Nat}
theorem Con.below {b : BrV} (h : Con wr b) (hb : Below wr.heap.size wr w') : Con w' b := TRd.below h hb
theorem OldB.below {c : CaV} (h : OldB wr Bb c) (hb : Below wr.heap.size wr w') : OldB w' Bb c := ⟨h.1.below hb, h.2⟩
theorem PS.kept (h : PS w0 wr cs num lb g cap vB Bb pb d) (hb : Below wr.heap.size wr w') : PS w0 w' cs num lb g cap vB Bb pb d :=
  ⟨h.bel.trans (hb.mono h.bel.size), h.pb0, h.box.kept hb, own_keepN h.row hb, own_keepN h.brs hb, ⟨h.hb.1, Nat.le_trans h.hb.2 hb.size⟩, fun c hc => (h.old c hc).below hb, fun c hc b hb' => (h.con c hc b hb').below hb, fun b hb' => (h.conl b hb').below hb⟩
/-- A row's cell set: what lies elsewhere. -/
theorem PS.addBr (h : PS w0 wr cs num lb g cap vB Bb pb d) {b : BrV} {v' : Value} (hc : Con wr b) (hr : w'.ownsRow Bb 54 2 v' (lb.length + 1) (lb.flatMap BrV.cells ++ b.cells)) (hg : wr.grownBy w' vB.ownBlock) :
    PS w0 (w'.setCell ⟨g, cs.length * 2 + 1, none⟩ v') cs num (lb ++ [b]) g cap v' Bb pb d := by
  have htb : ∀ k, vB.ownBlock = some k → TyB wr k 54 := by obtain ⟨_, _, _, _, _, h1, _⟩ := own_typed h.brs; exact h1
  have htg : TyB wr g 50 := by obtain ⟨_, _, _, _, _, h1, _⟩ := own_typed h.row; exact h1 g rfl
  have hge := own_ge h.brs
  have hrow := own_appended h.row hg htb (by decide)
  have htg' : TyB w' g 50 := by obtain ⟨_, _, _, _, _, h1, _⟩ := own_typed hrow; exact h1 g rfl
  have hs := only_set w' g (cs.length * 2 + 1) v'
  have hg0 := own_ge h.row g rfl
  have hlt : ∀ k, k < Bb → k < wr.heap.size → w'.heap[k]? = wr.heap[k]? := fun k h1 h2 => hg.block k h2 (fun e => by have := hge k e.symm; omega)
  have hCon : ∀ x, Con wr x → Con (w'.setCell ⟨g, cs.length * 2 + 1, none⟩ v') x := fun x hx => by
    have h1 := TRd.appended hx hg htb (by decide)
    exact h1.grown hs (h1.off htg' (by decide))
  refine ⟨?_, h.pb0, ?_, ?_, ?_, ?_, fun c hc => ?_, fun c hc x hx => hCon x (h.con c hc x hx), fun x hx => ?_⟩
  · have h1 : Below w0.heap.size wr w' := ⟨hg.os, hg.tape, hg.output, hg.size, fun k hk => hlt k (by have := h.hb.1; omega) (by have := h.bel.size; omega)⟩
    exact (h.bel.trans h1).setCell (by exact hg0) _
  · have h1 := h.box.appended hg htb (by decide)
    exact h1.grown hs (fun e => (h1.tyb.ne htg' (by decide)) (Option.some.inj e))
  · have h1 := or_set (j := cs.length * 2 + 1) hrow v'
    rw [set_last] at h1; exact h1
  · rw [List.length_append, List.flatMap_append]
    have h2 : w'.ownsRow Bb 54 2 v' (lb.length + [b].length) (lb.flatMap BrV.cells ++ [b].flatMap BrV.cells) := by simpa using hr
    refine own_keep h2 hs fun k hk => ?_
    obtain ⟨_, _, _, _, _, h3, _⟩ := own_typed h2
    exact (h3 k hk).ne htg' (by decide)
  · refine ⟨h.hb.1, Nat.le_trans h.hb.2 (Nat.le_trans hg.size hs.size)⟩
  · obtain ⟨o1, o2⟩ := h.old c hc
    have h1 : TRd w' 54 2 c.brs.length c.A (c.brs.flatMap BrV.cells) := by
      cases hv : vB.ownBlock with
      | none => rw [hv] at hg; exact o1.grownN hg
      | some k =>
        rw [hv] at hg
        refine o1.grown hg ?_
        rcases o2 with o2 | ⟨a, o2, o3⟩
        · exact Or.inl o2
        · exact Or.inr fun b hb => by cases o2.symm.trans hb; have := hge k hv; omega
    exact ⟨h1.grown hs (h1.off htg' (by decide)), o2⟩
  · rcases List.mem_append.1 hx with hx | hx
    · exact hCon x (h.conl x hx)
    · rw [List.mem_singleton.1 hx]; exact hCon b hc
end
end Go.Proofs.Ytcageojoafkojaa.Ir
namespace Go.Proofs.Ytcageojoafkojaa.Ir
open Go.RowKit Go.WideElems
theorem infoBr : (Try.prog.info? 54).map (fun i => (i.zero, i.size, i.bytes)) = some (some (.agg #[.slice none 0 0, .int .u32 0]), 2, 32) := by kernel_rfl
section
variable {w0 wr w' : World} {cs : List CaV} {num : Nat} {lb : List BrV} {g cap : Nat} {vB : Value} {Bb pb d : Nat}
theorem PS.cell (h : PS w0 wr cs num lb g cap vB Bb pb d) : wr.cell? ⟨g, cs.length * 2 + 1, none⟩ = some vB ∧ wr.frozen? ⟨g, cs.length * 2 + 1, none⟩ = false ∧ g < wr.heap.size := by
  refine or_cell h.row ?_
  rw [List.getElem?_append_right (by rw [flat2]; omega), flat2, show cs.length * 2 + 1 - cs.length * 2 = 1 from by omega]; rfl
theorem PS.run (h : PS w0 wr cs num lb g cap vB Bb pb d) (b : BrV) (hc : Con wr b) (hn : lb.length ≤ 60000) (ty : TypeId) :
    ∃ v' wb, (Builtin.append_ #[48, 48] ty #[vB, .slice (some ⟨wr.heap.size, 0, none⟩) 1 1]).run Try.prog (wr.alloc (.cells #[.slice b.A b.m.conds.length b.cap, .int .u32 b.m.act] 54)) = .ok v' wb ∧
      PS w0 (wb.setCell ⟨g, cs.length * 2 + 1, none⟩ v') cs num (lb ++ [b]) g cap v' Bb pb d ∧ wb.cell? ⟨g, cs.length * 2 + 1, none⟩ = some vB ∧ wb.frozen? ⟨g, cs.length * 2 + 1, none⟩ = false ∧ g < wb.heap.size := by
  obtain ⟨i0, hi, hz0, hz1, hz2⟩ := info_parts infoBr
  have hk := h.kept (oneb wr (.cells #[.slice b.A b.m.conds.length b.cap, .int .u32 b.m.act] 54))
  have hB : Bk (wr.alloc (.cells #[.slice b.A b.m.conds.length b.cap, .int .u32 b.m.act] 54)) wr.heap.size 54 b.cells := Bk.new wr _ _ rfl
  obtain ⟨v', wb, hr, ho, hg, _, _⟩ := run_append_own_at (P := Try.prog) (wr.alloc (.cells #[.slice b.A b.m.conds.length b.cap, .int .u32 b.m.act] 54)) Bb 48 ty 54 i0 _ 2 32 Try.underlying48 hi hz0 hz1 hz2 rfl (by decide) vB lb.length (lb.flatMap BrV.cells) hk.brs ⟨wr.heap.size, 0, none⟩ 1 1 b.cells (by rfl) (fun j u hu => by rw [addr_at, Nat.zero_add]; exact hB.cell j hu) (by intro u hu; simp [BrV.cells] at hu; rcases hu with rfl | rfl <;> rfl) (by unfold maxLen; omega) (by omega) hk.hb.2
  have htb : ∀ k, vB.ownBlock = some k → TyB (wr.alloc (.cells #[.slice b.A b.m.conds.length b.cap, .int .u32 b.m.act] 54)) k 54 := by obtain ⟨_, _, _, _, _, h1, _⟩ := own_typed hk.brs; exact h1
  have hrow := own_appended hk.row hg htb (by decide)
  have h2 := or_cell (j := cs.length * 2 + 1) (u := vB) hrow (by rw [List.getElem?_append_right (by rw [flat2]; omega), flat2, show cs.length * 2 + 1 - cs.length * 2 = 1 from by omega]; rfl)
  exact ⟨v', wb, hr, hk.addBr (hc.below (oneb wr _)) ho hg, h2.1, h2.2.1, h2.2.2⟩
end
end Go.Proofs.Ytcageojoafkojaa.Ir
namespace Go.Proofs.Ytcageojoafkojaa.Ir
open Go.RowKit Go.WideElems
theorem infoCa : (Try.prog.info? 50).map (fun i => (i.zero, i.size, i.bytes)) = some (some (.agg #[.int .u32 0, .slice none 0 0]), 2, 32) := by kernel_rfl
structure CaM where
  num : Nat
  brs : List BrM
def CaV.m (c : CaV) : CaM := ⟨c.num, c.brs.map BrV.m⟩
/-- The cases so far, the last one told apart. -/
def stF : Option (List CaM × Nat × List BrM) → RuleM → Option (List CaM × Nat × List BrM)
  | none, r => some ([], r.num, addF [] r)
  | some (cs, num, lb), r => if r.num = num then some (cs, num, addF lb r) else some (cs ++ [⟨num, lb⟩], r.num, addF [] r)
def stE : Option (List CaM × Nat × List BrM) → List CaM
  | none => []
  | some (cs, num, lb) => cs ++ [⟨num, lb⟩]
def ofF (l : List RuleM) : List CaM := stE (l.foldl stF none)
/-- A plan in memory. -/
structure PlanR (w : World) (A : Option Addr) (cs : List CaV) : Prop where
  row : TRd w 50 2 cs.length A (cs.flatMap CaV.cells)
  brs : ∀ c ∈ cs, TRd w 54 2 c.brs.length c.A (c.brs.flatMap BrV.cells)
  con : ∀ c ∈ cs, ∀ b ∈ c.brs, Con w b
/-- No case yet. -/
structure P0 (w0 wr : World) (pb d : Nat) : Prop where
  bel : Below w0.heap.size w0 wr
  pb0 : w0.heap.size ≤ pb
  box : Bk wr pb 42 [.slice none 0 0, .int .u32 d]
section
variable {w0 wr w' : World} {cs : List CaV} {num : Nat} {lb : List BrV} {g cap : Nat} {vB : Value} {Bb pb d : Nat}
theorem P0.kept (h : P0 w0 wr pb d) (hb : Below wr.heap.size wr w') : P0 w0 w' pb d := ⟨h.bel.trans (hb.mono h.bel.size), h.pb0, h.box.kept hb⟩
theorem P0.first (h : P0 w0 wr pb d) {x g' cap' : Nat} (hr : w'.ownsRow w0.heap.size 50 2 (.slice (some ⟨g', 0, none⟩) 1 cap') 1 [.int .u32 x, .slice none 0 0]) (hg : wr.grownBy w' none) :
    PS w0 (w'.setCell ⟨pb, 0, none⟩ (.slice (some ⟨g', 0, none⟩) 1 cap')) [] x [] g' cap' (.slice none 0 0) w'.heap.size pb d := by
  have hb : Below wr.heap.size wr w' := ⟨hg.os, hg.tape, hg.output, hg.size, fun k hk => hg.block k hk (by simp)⟩
  have hbx := h.box.kept hb
  have hs := only_set w' pb 0 (.slice (some ⟨g', 0, none⟩) 1 cap')
  have htg : TyB w' g' 50 := by obtain ⟨_, _, _, _, _, h1, _⟩ := own_typed hr; exact h1 g' rfl
  refine ⟨((h.bel.trans (hb.mono h.bel.size))).setCell h.pb0 _, h.pb0, hbx.set 0 _, own_keep hr hs (fun b hb => by cases hb; exact htg.ne hbx.tyb (by decide)), World.ownsRow_nil _ _ _ _, ⟨Nat.le_trans h.bel.size (Nat.le_trans hg.size (Nat.le_refl _)), hs.size⟩, by simp, by simp, by simp⟩
/-- The plan as it is handed back. -/
theorem PS.plan (h : PS w0 wr cs num lb g cap vB Bb pb d) : ∃ cs', cs'.map CaV.m = cs.map CaV.m ++ [⟨num, lb.map BrV.m⟩] ∧ cs'.length = cs.length + 1 ∧ PlanR wr (some ⟨g, 0, none⟩) cs' := by
  obtain ⟨Ab, cb, hv, _, h2, _⟩ := own_typed h.brs
  refine ⟨cs ++ [⟨num, lb, Ab, cb⟩], by rw [List.map_append]; rfl, by simp, ?_, fun c hc => ?_, fun c hc b hb => ?_⟩
  · obtain ⟨A1, c1, h1, _, h3, _⟩ := own_typed h.row
    cases h1
    rw [hv] at h3
    have e : (cs ++ [(⟨num, lb, Ab, cb⟩ : CaV)]).flatMap CaV.cells = cs.flatMap CaV.cells ++ [.int .u32 num, .slice Ab lb.length cb] := by rw [List.flatMap_append]; simp [CaV.cells]
    rw [e, List.length_append]; exact h3
  · rcases List.mem_append.1 hc with hc | hc
    · exact (h.old c hc).1
    · rw [List.mem_singleton.1 hc]; exact h2
  · rcases List.mem_append.1 hc with hc | hc
    · exact h.con c hc b hb
    · rw [List.mem_singleton.1 hc] at hb; exact h.conl b hb
end
end Go.Proofs.Ytcageojoafkojaa.Ir
namespace Go.Proofs.Ytcageojoafkojaa.Lo
open Go.Proofs.Ytcageojoafkojaa.Ju Go.Proofs.Ytcageojoafkojaa.Ir Go.Proofs.Ytcageojoafkojaa.Me
/-- What is known of parts that could be made. -/
structure MadeR (l : List PtM) : Prop where
  ok : (makeF l).1 = 0
  good : Good (makeF l).2.ins
  ins : ∀ i ∈ (makeF l).2.ins, i.c = 32 ∨ i.c = 84 ∨ i.c = 6 ∨ i.c = 5 ∨ i.c = 21 ∨ i.c = 37 ∨ i.c = 53 ∨ i.c = 69
  says : ∀ W : Nat → Nat, (runN W (makeF l).2.ins).2 = valL W l 0
theorem made_of {l : List PtM} (hf : Fwd l) (hs : ∀ p ∈ l, Fin1 p) (hl : LastR l) (hw : wtL l ≤ 4096) : MadeR l := by
  have hc := make_cod l hf hs hl hw
  refine ⟨hc.ok, cod_good hc hw, hc.smp, fun W => ?_⟩
  rw [run_code W hc.smp]
  exact (make_mean W l (fun p hp => (hs p hp).smp) hc.ok).all 0
end Go.Proofs.Ytcageojoafkojaa.Lo
