/- Does a condition hold of a call: the program's way and the document's. -/
import Derived.Test.YtgdoampokcpagaaMeM
import Derived.Test.YtgdoampokcpagaaGq
import Derived.Test.YtgdoampokcpagaaGt
import Derived.Outline
namespace Go.Proofs.Ytgdoampokcpagaa.Me
open Go.RowKit Go.WideElems
def RetB (b : Bool) (w : World) (e : Ending) (w' : World) : Prop := e = .returned (.bool b) ∧ Below w.heap.size w w'
theorem retb {b k : Bool} {w w' : World} {e : Ending} (h : b = k) (he : e = .returned (.bool k)) (hb : Below w.heap.size w w') : RetB b w e w' := by subst h; exact ⟨he, hb⟩
theorem hold_out {c : CondM} {x : RcM} (h : c.arg < 0 ∨ 5 < c.arg) : holdB c x = false := by unfold holdB; rw [if_pos h]
theorem hold_in {arg : Int} {op mask val k : Nat} {x : RcM} (he : arg = k) (h : k < 6) : holdB ⟨arg, op, mask, val⟩ x = opB op mask val (x.arg k) := by
  subst he
  unfold holdB
  rw [if_neg (by simp only; omega)]
  rfl
theorem op_other {op mask val a : Nat} (h : op < 1 ∨ 7 < op) : opB op mask val a = false := by
  unfold opB
  rw [if_neg (by omega), if_neg (by omega), if_neg (by omega), if_neg (by omega), if_neg (by omega), if_neg (by omega), if_neg (by omega)]
theorem two_new (w : World) (a b : Array Value) (T U : TypeId) {la lb : List Value} (ha : a = la.toArray) (hb : b = lb.toArray) :
    Bk ((w.alloc (.cells a T)).alloc (.cells b U)) w.heap.size T la ∧ Bk ((w.alloc (.cells a T)).alloc (.cells b U)) (w.heap.size + 1) U lb ∧ Below w.heap.size w ((w.alloc (.cells a T)).alloc (.cells b U)) := by
  have h1 := Bk.new w T a ha
  have h2 := Bk.new (w.alloc (.cells a T)) U b hb
  have e : (w.alloc (.cells a T)).heap.size = w.heap.size + 1 := by simp
  rw [e] at h2
  exact ⟨h1.kept (oneb _ _), h2, (oneb w _).trans ((oneb _ _).mono (by rw [e]; omega))⟩
theorem beq_t {a b : Nat} (h : a = b) : ((a : Int) == (b : Int)) = true := by subst h; simp
theorem beq_f {a b : Nat} (h : a ≠ b) : ((a : Int) == (b : Int)) = false := by rw [beq_eq_false_iff_ne]; omega
theorem bne_t {a b : Nat} (h : a ≠ b) : ((a : Int) != (b : Int)) = true := by rw [bne_iff_ne]; omega
theorem bne_f {a b : Nat} (h : a = b) : ((a : Int) != (b : Int)) = false := by subst h; simp
set_option maxHeartbeats 4000000 in
set_option maxRecDepth 100000 in
theorem holds_any (arg : Int) (op mask val : Nat) (x : RcM) (w : World) (hop : op < 256) (hm : mask < 18446744073709551616) (hx : x.ok) :
    Calls Try.prog 27 #[.agg #[.int .i64 arg, .int .u8 op, .int .u64 mask, .int .u64 val], .agg #[.int .u32 x.num, .int .u32 x.arch, .int .u64 x.at_, .int .u64 x.a0, .int .u64 x.a1, .int .u64 x.a2, .int .u64 x.a3, .int .u64 x.a4, .int .u64 x.a5]] w (RetB (holdB ⟨arg, op, mask, val⟩ x) w) := by
  obtain ⟨hk1, hk2, hb⟩ := two_new w #[.int .i64 arg, .int .u8 op, .int .u64 mask, .int .u64 val] #[.int .u32 x.num, .int .u32 x.arch, .int .u64 x.at_, .int .u64 x.a0, .int .u64 x.a1, .int .u64 x.a2, .int .u64 x.a3, .int .u64 x.a4, .int .u64 x.a5] 66 49 (la := [.int .i64 arg, .int .u8 op, .int .u64 mask, .int .u64 val]) (lb := x.cells) rfl rfl
  go_enter Try.func27, Try.ntmps27
  go_upto_region 1 with fail
  generalize (w.alloc _).alloc _ = w2 at hk1 hk2 hb ⊢
  have HB := Lib.hid hb
  have q0 := hk1.cell 0 rfl
  have q1 := hk1.cell 1 rfl
  have q2 := hk1.cell 2 rfl
  have q3 := hk1.cell 3 rfl
  have HK2 := Lib.hid hk2
  clear hk1 hk2 hb
  by_cases h1 : arg < 0
  · have HV := Lib.hid (hold_out (c := ⟨arg, op, mask, val⟩) (x := x) (.inl h1))
    have d1 : decide (arg < 0) = true := decide_eq_true h1
    clear hx
    go_wp2_with fail
    go_ret
    exact retb HV.out rfl HB.out
  by_cases h2 : 5 < arg
  · have HV := Lib.hid (hold_out (c := ⟨arg, op, mask, val⟩) (x := x) (.inr h2))
    have d1 : decide (arg < 0) = false := decide_eq_false h1
    have h6 : 6 ≤ arg := by omega
    have d2 : decide ((6 : Int) ≤ arg) = true := decide_eq_true h6
    have d3 : decide ((5 : Int) < arg) = true := decide_eq_true h2
    clear hx
    go_wp2_with fail
    go_ret
    exact retb HV.out rfl HB.out
  obtain ⟨k, rfl⟩ : ∃ k : Nat, arg = k := ⟨arg.toNat, by omega⟩
  have hk : k < 6 := by omega
  have HV0 := Lib.hid (hold_in (op := op) (mask := mask) (val := val) (x := x) (arg := (k : Int)) rfl hk)
  obtain ⟨v, hve⟩ : ∃ v, v = x.arg k := ⟨_, rfl⟩
  have hv2 : v < 18446744073709551616 := by rw [hve]; exact hx.arg hk
  have qk := HK2.out.cell (3 + k) (RcM.arg_cell x hk)
  rw [← hve] at qk
  have HVE := Lib.hid hve
  have d1 : decide ((k : Int) < 0) = false := decide_eq_false h1
  have h6 : ¬ (6 : Int) ≤ (k : Int) := by omega
  have d2 : decide ((6 : Int) ≤ (k : Int)) = false := decide_eq_false h6
  have h5 : ¬ (5 : Int) < (k : Int) := by omega
  have d3 : decide ((5 : Int) < (k : Int)) = false := decide_eq_false h5
  have k0 : (0 : Int) ≤ (k : Int) := by omega
  have k6 : (k : Int) < 6 := by omega
  clear hve hx h2
  by_cases o1 : op = 1
  · subst o1
    by_cases hq : v = val
    · have HV := Lib.hid (show holdB ⟨(k : Int), 1, mask, val⟩ x = true by rw [HV0.out, ← HVE.out]; show decide (v = val) = true; simp [hq])
      have e1 : ((v : Int) == (val : Int)) = true := beq_t hq
      clear hq h1 hop hm hv2
      go_wp2_with fail
      go_ret
      exact retb HV.out rfl HB.out
    · have HV := Lib.hid (show holdB ⟨(k : Int), 1, mask, val⟩ x = false by rw [HV0.out, ← HVE.out]; show decide (v = val) = false; simp [hq])
      have e1 : ((v : Int) == (val : Int)) = false := beq_f hq
      clear hq h1 hop hm hv2
      go_wp2_with fail
      go_ret
      exact retb HV.out rfl HB.out
  by_cases o2 : op = 2
  · subst o2
    by_cases hq : v = val
    · have HV := Lib.hid (show holdB ⟨(k : Int), 2, mask, val⟩ x = false by rw [HV0.out, ← HVE.out]; show decide (v ≠ val) = false; simp [hq])
      have e1 : ((v : Int) != (val : Int)) = false := bne_f hq
      clear hq h1 hop hm hv2
      go_wp2_with fail
      go_ret
      exact retb HV.out rfl HB.out
    · have HV := Lib.hid (show holdB ⟨(k : Int), 2, mask, val⟩ x = true by rw [HV0.out, ← HVE.out]; show decide (v ≠ val) = true; simp [hq])
      have e1 : ((v : Int) != (val : Int)) = true := bne_t hq
      clear hq h1 hop hm hv2
      go_wp2_with fail
      go_ret
      exact retb HV.out rfl HB.out
  by_cases o3 : op = 3
  · subst o3
    by_cases hq : v < val
    · have HV := Lib.hid (show holdB ⟨(k : Int), 3, mask, val⟩ x = true by rw [HV0.out, ← HVE.out]; show decide (v < val) = true; simp [hq])
      have e1 : (v : Int) < (val : Int) := by omega
      have e2 : decide ((v : Int) < (val : Int)) = true := decide_eq_true e1
      have e3 : decide (v < val) = true := decide_eq_true hq
      clear hq h1 hop hm hv2
      go_wp2_with fail
      go_ret
      exact retb HV.out rfl HB.out
    · have HV := Lib.hid (show holdB ⟨(k : Int), 3, mask, val⟩ x = false by rw [HV0.out, ← HVE.out]; show decide (v < val) = false; simp [hq])
      have e1 : ¬ (v : Int) < (val : Int) := by omega
      have e2 : decide ((v : Int) < (val : Int)) = false := decide_eq_false e1
      have e3 : decide (v < val) = false := decide_eq_false hq
      clear hq h1 hop hm hv2
      go_wp2_with fail
      go_ret
      exact retb HV.out rfl HB.out
  by_cases o4 : op = 4
  · subst o4
    by_cases hq : v ≤ val
    · have HV := Lib.hid (show holdB ⟨(k : Int), 4, mask, val⟩ x = true by rw [HV0.out, ← HVE.out]; show decide (v ≤ val) = true; simp; omega)
      have e1 : (v : Int) ≤ (val : Int) := by omega
      have e2 : decide ((v : Int) ≤ (val : Int)) = true := decide_eq_true e1
      have e3 : decide (v ≤ val) = true := decide_eq_true hq
      clear hq h1 hop hm hv2
      go_wp2_with fail
      go_ret
      exact retb HV.out rfl HB.out
    · have HV := Lib.hid (show holdB ⟨(k : Int), 4, mask, val⟩ x = false by rw [HV0.out, ← HVE.out]; show decide (v ≤ val) = false; simp; omega)
      have e1 : ¬ (v : Int) ≤ (val : Int) := by omega
      have e2 : decide ((v : Int) ≤ (val : Int)) = false := decide_eq_false e1
      have e3 : decide (v ≤ val) = false := decide_eq_false hq
      clear hq h1 hop hm hv2
      go_wp2_with fail
      go_ret
      exact retb HV.out rfl HB.out
  by_cases o5 : op = 5
  · subst o5
    by_cases hq : val < v
    · have HV := Lib.hid (show holdB ⟨(k : Int), 5, mask, val⟩ x = true by rw [HV0.out, ← HVE.out]; show decide (val < v) = true; simp [hq])
      have e1 : (val : Int) < (v : Int) := by omega
      have e2 : decide ((val : Int) < (v : Int)) = true := decide_eq_true e1
      have e3 : decide (val < v) = true := decide_eq_true hq
      clear hq h1 hop hm hv2
      go_wp2_with fail
      go_ret
      exact retb HV.out rfl HB.out
    · have HV := Lib.hid (show holdB ⟨(k : Int), 5, mask, val⟩ x = false by rw [HV0.out, ← HVE.out]; show decide (val < v) = false; simp [hq])
      have e1 : ¬ (val : Int) < (v : Int) := by omega
      have e2 : decide ((val : Int) < (v : Int)) = false := decide_eq_false e1
      have e3 : decide (val < v) = false := decide_eq_false hq
      clear hq h1 hop hm hv2
      go_wp2_with fail
      go_ret
      exact retb HV.out rfl HB.out
  by_cases o6 : op = 6
  · subst o6
    by_cases hq : val ≤ v
    · have HV := Lib.hid (show holdB ⟨(k : Int), 6, mask, val⟩ x = true by rw [HV0.out, ← HVE.out]; show decide (val ≤ v) = true; simp; omega)
      have e1 : (val : Int) ≤ (v : Int) := by omega
      have e2 : decide ((val : Int) ≤ (v : Int)) = true := decide_eq_true e1
      have e3 : decide (val ≤ v) = true := decide_eq_true hq
      clear hq h1 hop hm hv2
      go_wp2_with fail
      go_ret
      exact retb HV.out rfl HB.out
    · have HV := Lib.hid (show holdB ⟨(k : Int), 6, mask, val⟩ x = false by rw [HV0.out, ← HVE.out]; show decide (val ≤ v) = false; simp; omega)
      have e1 : ¬ (val : Int) ≤ (v : Int) := by omega
      have e2 : decide ((val : Int) ≤ (v : Int)) = false := decide_eq_false e1
      have e3 : decide (val ≤ v) = false := decide_eq_false hq
      clear hq h1 hop hm hv2
      go_wp2_with fail
      go_ret
      exact retb HV.out rfl HB.out
  by_cases o7 : op = 7
  · subst o7
    obtain ⟨z, hz⟩ : ∃ z, z = v &&& mask := ⟨_, rfl⟩
    have hb7 : bits .and .u64 (v : Int) (mask : Int) = (z : Int) := by rw [u64_and_nat _ _ hv2 hm, hz]
    by_cases hq : v &&& mask = val
    · have HV := Lib.hid (show holdB ⟨(k : Int), 7, mask, val⟩ x = true by rw [HV0.out, ← HVE.out]; show decide (v &&& mask = val) = true; simp [hq])
      have e1 : ((z : Int) == (val : Int)) = true := beq_t (by omega)
      have HZ := Lib.hid hz
      clear hz
      clear hq h1 hop hm hv2
      go_wp2_with fail
      go_ret
      exact retb HV.out rfl HB.out
    · have HV := Lib.hid (show holdB ⟨(k : Int), 7, mask, val⟩ x = false by rw [HV0.out, ← HVE.out]; show decide (v &&& mask = val) = false; simp [hq])
      have e1 : ((z : Int) == (val : Int)) = false := beq_f (by omega)
      have HZ := Lib.hid hz
      clear hz
      clear hq h1 hop hm hv2
      go_wp2_with fail
      go_ret
      exact retb HV.out rfl HB.out
  have HV := Lib.hid (show holdB ⟨(k : Int), op, mask, val⟩ x = false by rw [HV0.out]; exact op_other (by omega))
  have b1 : ((op : Int) == 1) = false := by rw [beq_eq_false_iff_ne]; omega
  have b2 : ((op : Int) == 2) = false := by rw [beq_eq_false_iff_ne]; omega
  have b3 : ((op : Int) == 3) = false := by rw [beq_eq_false_iff_ne]; omega
  have b4 : ((op : Int) == 4) = false := by rw [beq_eq_false_iff_ne]; omega
  have b5 : ((op : Int) == 5) = false := by rw [beq_eq_false_iff_ne]; omega
  have b6 : ((op : Int) == 6) = false := by rw [beq_eq_false_iff_ne]; omega
  have b7 : ((op : Int) == 7) = false := by rw [beq_eq_false_iff_ne]; omega
  clear o1 o2 o3 o4 o5 o6 o7 h1 hop hm hv2
  go_wp2_with fail
  go_ret
  exact retb HV.out rfl HB.out
end Go.Proofs.Ytgdoampokcpagaa.Me

