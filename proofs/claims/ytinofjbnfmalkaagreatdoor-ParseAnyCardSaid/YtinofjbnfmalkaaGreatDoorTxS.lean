/- Lists held against one another, thing by thing: conditions, paths, ports. -/
import Derived.Test.YtinofjbnfmalkaaGreatDoorTxP
import Derived.Laws.StructEq
import Derived.Laws.EntriesVeiled
import Derived.Deep.RegionHeld3
namespace Go.Proofs.YtinofjbnfmalkaaGreatDoor.Tx
open Go.RowKit Go.WideElems Pa
theorem two_newS (w : World) (a b : Array Value) (T U : TypeId) {la lb : List Value} (ha : a = la.toArray) (hb : b = lb.toArray) :
    Bk ((w.alloc (.cells a T)).alloc (.cells b U)) w.heap.size T la ∧ Bk ((w.alloc (.cells a T)).alloc (.cells b U)) (w.heap.size + 1) U lb ∧ Below w.heap.size w ((w.alloc (.cells a T)).alloc (.cells b U)) := by
  have h1 := Bk.new w T a ha
  have h2 := Bk.new (w.alloc (.cells a T)) U b hb
  have e : (w.alloc (.cells a T)).heap.size = w.heap.size + 1 := by simp
  rw [e] at h2
  exact ⟨h1.kept (oneb _ _), h2, (oneb w _).trans ((oneb _ _).mono (by rw [e]; omega))⟩
def alB {α : Type} (f : α → α → Bool) (a b : List α) : Bool := decide (a.length = b.length) && (a.zip b).all fun x => f x.1 x.2
theorem al_len {α : Type} {f : α → α → Bool} {a b : List α} (h : a.length ≠ b.length) : alB f a b = false := by unfold alB; rw [decide_eq_false h]; rfl
theorem al_eq {α : Type} {f : α → α → Bool} {a b : List α} (h : a.length = b.length) : alB f a b = (a.zip b).all fun x => f x.1 x.2 := by unfold alB; rw [decide_eq_true h, Bool.true_and]
theorem zip_at {α : Type} {a b : List α} {k : Nat} {x y : α} (ha : a[k]? = some x) (hb : b[k]? = some y) : (a.zip b)[k]? = some (x, y) := by
  rw [List.getElem?_zip_eq_some]; exact ⟨ha, hb⟩
theorem zipA_end {α : Type} {g : α → Bool} {l : List α} {k : Nat} (hk : l.length ≤ k) (h : (l.take k).all g = true) : l.all g = true := by rwa [List.take_of_length_le hk] at h
theorem zipA_bad {α : Type} {g : α → Bool} {l : List α} {k : Nat} {x : α} (h : l[k]? = some x) (hb : g x = false) : l.all g = false := by
  rw [List.all_eq_false]; exact ⟨x, List.mem_of_getElem? h, by simp [hb]⟩
theorem zipA_on {α : Type} {g : α → Bool} {l : List α} {k : Nat} {x : α} (h : (l.take k).all g = true) (hx : l[k]? = some x) (hb : g x = true) : (l.take (k + 1)).all g = true := by
  rw [List.take_add_one, List.all_append, h, hx]; simp [hb]
theorem al_self {α : Type} {f : α → α → Bool} {a b : List α} (hf : ∀ x y, f x y = true ↔ x = y) : alB f a b = true ↔ a = b := by
  unfold alB
  rw [Bool.and_eq_true, decide_eq_true_eq, List.all_eq_true]
  constructor
  · rintro ⟨hl, h⟩
    refine List.ext_getElem? fun i => ?_
    by_cases hi : i < a.length
    · have h1 : a[i]? = some a[i] := List.getElem?_eq_getElem hi
      have h2 : b[i]? = some (b[i]'(hl ▸ hi)) := List.getElem?_eq_getElem (hl ▸ hi)
      rw [h1, h2]; exact congrArg some ((hf _ _).1 (h _ (List.mem_of_getElem? (zip_at h1 h2))))
    · rw [List.getElem?_eq_none (by omega), List.getElem?_eq_none (by omega)]
  · rintro rfl
    refine ⟨rfl, fun x hx => (hf _ _).2 ?_⟩
    obtain ⟨i, hi⟩ := List.mem_iff_getElem?.1 hx
    rw [List.getElem?_zip_eq_some] at hi
    exact Option.some.inj (hi.1.symm.trans hi.2)
def eqC (a b : CondM) : Bool := decide (a.arg = b.arg) && (decide (a.op = b.op) && (decide (a.mask = b.mask) && decide (a.val = b.val)))
def eqT (a b : Bs × Nat) : Bool := decide (a.1 = b.1) && decide (a.2 = b.2)
def eqP (a b : Nat × Nat) : Bool := decide (a.1 = b.1) && decide (a.2 = b.2)
theorem eqC_iff (a b : CondM) : eqC a b = true ↔ a = b := by
  obtain ⟨a1, a2, a3, a4⟩ := a; obtain ⟨b1, b2, b3, b4⟩ := b; simp [eqC]
theorem eqT_iff (a b : Bs × Nat) : eqT a b = true ↔ a = b := by
  obtain ⟨a1, a2⟩ := a; obtain ⟨b1, b2⟩ := b; simp [eqT]
theorem eqP_iff (a b : Nat × Nat) : eqP a b = true ↔ a = b := by
  obtain ⟨a1, a2⟩ := a; obtain ⟨b1, b2⟩ := b; simp [eqP]
theorem beqN (a b : Nat) : ((a : Int) == (b : Int)) = decide (a = b) := by
  by_cases h : a = b
  · subst h; simp
  · rw [decide_eq_false h, beq_eq_false_iff_ne]; omega
theorem beqS (a b : Bs) : ((⟨a.toArray⟩ : ByteArray).toList == (⟨b.toArray⟩ : ByteArray).toList) = decide (a = b) := by
  rw [Lib.toList_data, Lib.toList_data]
  by_cases h : a = b
  · subst h; simp
  · rw [decide_eq_false h, beq_eq_false_iff_ne]; simpa using h
def SamePost (b : Bool) (w : World) (e : Ending) (w' : World) : Prop := e = .returned (.bool b) ∧ Below w.heap.size w w'
theorem eqlCond (x y : CondM) (w : World) : (binOp .eql 90 (.agg #[.int .i64 x.arg, .int .u8 x.op, .int .u64 x.mask, .int .u64 x.val]) (.agg #[.int .i64 y.arg, .int .u8 y.op, .int .u64 y.mask, .int .u64 y.val])).run Tryz.prog w = .ok (.bool (eqC x y)) w := by
  rw [run_eql_struct, run_equalIn_agg w 9999 _ _ _ (by simp [Program.fieldsOf, Tryz.underlying90]) (by kernel_rfl)]
  unfold eqC
  obtain ⟨x0, x1, x2, x3⟩ := x
  obtain ⟨y0, y1, y2, y3⟩ := y
  by_cases h0 : x0 = y0 <;> by_cases h1 : x1 = y1 <;> by_cases h2 : x2 = y2 <;> by_cases h3 : x3 = y3 <;> simp [Op.eqFields, Program.fieldsOf, Tryz.underlying90, go_sem, beqN, h0, h1, h2, h3]
set_option maxHeartbeats 4000000 in
set_option maxRecDepth 100000 in
theorem equalCond_any (x y : CondM) (w : World) : Calls Tryz.prog 81 #[.agg #[.int .i64 x.arg, .int .u8 x.op, .int .u64 x.mask, .int .u64 x.val], .agg #[.int .i64 y.arg, .int .u8 y.op, .int .u64 y.mask, .int .u64 y.val]] w (SamePost (eqC x y) w) := by
  obtain ⟨hk1, hk2, hb⟩ := two_newS w #[.int .i64 x.arg, .int .u8 x.op, .int .u64 x.mask, .int .u64 x.val] #[.int .i64 y.arg, .int .u8 y.op, .int .u64 y.mask, .int .u64 y.val] 90 90 (la := CondM.cells x) (lb := CondM.cells y) rfl rfl
  have hq := fun W => eqlCond x y W
  go_enter Tryz.func81, Tryz.ntmps81
  go_upto_region 1 with fail
  generalize (w.alloc _).alloc _ = w2 at hk1 hk2 hb ⊢
  have p0 := hk1.cell 0 rfl
  have q0 := hk2.cell 0 rfl
  have p1 := hk1.cell 1 rfl
  have q1 := hk2.cell 1 rfl
  have p2 := hk1.cell 2 rfl
  have q2 := hk2.cell 2 rfl
  have p3 := hk1.cell 3 rfl
  have q3 := hk2.cell 3 rfl
  have hl1 := hk1.lt
  have hl2 := hk2.lt
  have HB := Lib.hid hb
  clear hk1 hk2 hb
  go_wp2_with fail
  go_ret
  exact ⟨rfl, HB.out⟩
set_option maxHeartbeats 4000000 in
set_option maxRecDepth 100000 in
theorem alikeCond_any (a b : List (CondM)) (A B : Option Addr) (n m ca cb : Nat) (w : World) (ha : a.length = n) (hb : b.length = m) (hn : n ≤ maxLen) (hm : m ≤ maxLen) (RA : Rd w 4 n A (a.flatMap CondM.cells)) (RB : Rd w 4 m B (b.flatMap CondM.cells)) :
    Calls Tryz.prog 80 #[.slice A n ca, .slice B m cb, .func (.func 81) #[] #[]] w (SamePost (alB eqC a b) w) := by
  have hn' : n ≤ 9223372036854775807 := hn
  have hm' : m ≤ 9223372036854775807 := hm
  have HRA := Lib.hid RA
  have HRB := Lib.hid RB
  have HA := Lib.hid ha
  have HBl := Lib.hid hb
  clear RA RB hn hm ha hb
  go_enter Tryz.func80, Tryz.ntmps80
  by_cases hnm : n = m
  · subst hnm
    have HV := Lib.hid (al_eq (f := eqC) (a := a) (b := b) (HA.out.trans HBl.out.symm))
    have HZ := Lib.hid (show (a.zip b).length = n by rw [List.length_zip, HA.out, HBl.out, Nat.min_self])
    go_wp2_with fail
    go_loopw [15] (fun iv wr => ∃ k : Nat, iv = .int .i64 k ∧ k ≤ n ∧ Hid (((a.zip b).take k).all (fun x => eqC x.1 x.2) = true) ∧ Hid (Below w.heap.size w wr)) (fun iv _ => n - (intOf iv).toNat)
    case atStart => exact ⟨0, rfl, Nat.zero_le _, Lib.hid (by simp), Below.refl _ _⟩
    case round =>
      obtain ⟨k, rfl, hk, HF, HB⟩ := hrel
      by_cases hlt : k < n
      · obtain ⟨x, hx⟩ : ∃ x, a[k]? = some x := ⟨_, List.getElem?_eq_getElem (by have := HA.out; omega)⟩
        obtain ⟨y, hy⟩ : ∃ y, b[k]? = some y := ⟨_, List.getElem?_eq_getElem (by have := HBl.out; omega)⟩
        obtain ⟨b1, o1, hA1, hbl1, hc1⟩ := (HRA.out.below HB.out).one (fun _ => rfl) (by omega) (by omega)
        obtain ⟨b2, o2, hA2, hbl2, hc2⟩ := (HRB.out.below HB.out).one (fun _ => rfl) (by omega) (by omega)
        subst hA1
        subst hA2
        have p0 : wr.cell? ⟨b1, o1 + k * 4, none⟩ = some (.int .i64 x.arg) := by have := hc1 k x hx 0 _ rfl; simpa [Nat.add_assoc] using this
        have q0 : wr.cell? ⟨b2, o2 + k * 4, none⟩ = some (.int .i64 y.arg) := by have := hc2 k y hy 0 _ rfl; simpa [Nat.add_assoc] using this
        have p1 : wr.cell? ⟨b1, o1 + k * 4 + 1, none⟩ = some (.int .u8 x.op) := by have := hc1 k x hx 1 _ rfl; simpa [Nat.add_assoc] using this
        have q1 : wr.cell? ⟨b2, o2 + k * 4 + 1, none⟩ = some (.int .u8 y.op) := by have := hc2 k y hy 1 _ rfl; simpa [Nat.add_assoc] using this
        have p2 : wr.cell? ⟨b1, o1 + k * 4 + 2, none⟩ = some (.int .u64 x.mask) := by have := hc1 k x hx 2 _ rfl; simpa [Nat.add_assoc] using this
        have q2 : wr.cell? ⟨b2, o2 + k * 4 + 2, none⟩ = some (.int .u64 y.mask) := by have := hc2 k y hy 2 _ rfl; simpa [Nat.add_assoc] using this
        have p3 : wr.cell? ⟨b1, o1 + k * 4 + 3, none⟩ = some (.int .u64 x.val) := by have := hc1 k x hx 3 _ rfl; simpa [Nat.add_assoc] using this
        have q3 : wr.cell? ⟨b2, o2 + k * 4 + 3, none⟩ = some (.int .u64 y.val) := by have := hc2 k y hy 3 _ rfl; simpa [Nat.add_assoc] using this
        have HZx := Lib.hid (zip_at hx hy)
        have hp := fun W (_ : Below wr.heap.size wr W) => equalCond_any x y W
        clear hc1 hc2 hx hy
        go_upto_region 6 with fail
        refine wp_region_held_drew (S := (fun w' => (w'.cell? ⟨b1, o1 + k * 4, none⟩ = some (.int .i64 x.arg) ∧ w'.cell? ⟨b1, o1 + k * 4 + 1, none⟩ = some (.int .u8 x.op) ∧ w'.cell? ⟨b1, o1 + k * 4 + 2, none⟩ = some (.int .u64 x.mask) ∧ w'.cell? ⟨b1, o1 + k * 4 + 3, none⟩ = some (.int .u64 x.val) ∧ w'.cell? ⟨b2, o2 + k * 4, none⟩ = some (.int .i64 y.arg) ∧ w'.cell? ⟨b2, o2 + k * 4 + 1, none⟩ = some (.int .u8 y.op) ∧ w'.cell? ⟨b2, o2 + k * 4 + 2, none⟩ = some (.int .u64 y.mask) ∧ w'.cell? ⟨b2, o2 + k * 4 + 3, none⟩ = some (.int .u64 y.val)) ∧ Hid (Below wr.heap.size wr w'))) (by kernel_rfl) ?_ (fun hHeld0 => ?_)
        · exact ⟨⟨p0, p1, p2, p3, q0, q1, q2, q3⟩, Lib.hid (Below.refl wr.heap.size wr).drew⟩
        clear p0 p1 p2 p3 q0 q1 q2 q3
        refine wpAnyH_take (i := 0) (v := ?_) (by first | (simp only [List.getElem?_toArray, List.getElem?_cons_zero] <;> rfl) | rfl) (by kernel_rfl) (by kernel_rfl) (by kernel_rfl) (by exact fun _ _ _ h => h) (Or.inl ⟨by rfl, ?_⟩) hHeld0 ?_
        rotate_left 1
        · intro w hSw
          try dsimp only at hSw
          (go_simp) <;> (with_reducible rfl)
        try simp only [Act.put, List.setIfInBounds_toArray, List.set_cons_zero, List.set_cons_succ]
        refine wpAnyH_take (i := 1) (v := ?_) (by first | (simp only [List.getElem?_toArray, List.getElem?_cons_succ, List.getElem?_cons_zero] <;> rfl) | rfl) (by kernel_rfl) (by kernel_rfl) (by kernel_rfl) (by exact fun _ _ _ h => h) (Or.inl ⟨by rfl, ?_⟩) hHeld0 ?_
        rotate_left 1
        · intro w hSw
          try dsimp only at hSw
          (go_simp) <;> (with_reducible rfl)
        try simp only [Act.put, List.setIfInBounds_toArray, List.set_cons_zero, List.set_cons_succ]
        refine wpAnyH_take (i := 2) (v := ?_) (by first | (simp only [List.getElem?_toArray, List.getElem?_cons_succ, List.getElem?_cons_zero] <;> rfl) | rfl) (by kernel_rfl) (by kernel_rfl) (by kernel_rfl) (by exact fun _ _ _ h => h) (Or.inl ⟨by rfl, ?_⟩) hHeld0 ?_
        rotate_left 1
        · intro w hSw
          try dsimp only at hSw
          (go_simp) <;> (with_reducible rfl)
        try simp only [Act.put, List.setIfInBounds_toArray, List.set_cons_zero, List.set_cons_succ]
        refine wpAnyH_take (i := 3) (v := ?_) (by first | (simp only [List.getElem?_toArray, List.getElem?_cons_succ, List.getElem?_cons_zero] <;> rfl) | rfl) (by kernel_rfl) (by kernel_rfl) (by kernel_rfl) (by exact fun _ _ _ h => h) (Or.inl ⟨by rfl, ?_⟩) hHeld0 ?_
        rotate_left 1
        · intro w hSw
          try dsimp only at hSw
          (go_simp) <;> (with_reducible rfl)
        try simp only [Act.put, List.setIfInBounds_toArray, List.set_cons_zero, List.set_cons_succ]
        refine wpAnyH_take (i := 4) (v := ?_) (by first | (simp only [List.getElem?_toArray, List.getElem?_cons_succ, List.getElem?_cons_zero] <;> rfl) | rfl) (by kernel_rfl) (by kernel_rfl) (by kernel_rfl) (by exact fun _ _ _ h => h) (Or.inl ⟨by rfl, ?_⟩) hHeld0 ?_
        rotate_left 1
        · intro w hSw
          try dsimp only at hSw
          (go_simp) <;> (with_reducible rfl)
        try simp only [Act.put, List.setIfInBounds_toArray, List.set_cons_zero, List.set_cons_succ]
        refine wpAnyH_take (i := 5) (v := ?_) (by first | (simp only [List.getElem?_toArray, List.getElem?_cons_succ, List.getElem?_cons_zero] <;> rfl) | rfl) (by kernel_rfl) (by kernel_rfl) (by kernel_rfl) (by exact fun _ _ _ h => h) (Or.inl ⟨by rfl, ?_⟩) hHeld0 ?_
        rotate_left 1
        · intro w hSw
          try dsimp only at hSw
          (go_simp) <;> (with_reducible rfl)
        try simp only [Act.put, List.setIfInBounds_toArray, List.set_cons_zero, List.set_cons_succ]
        refine wpAnyH_take (i := 6) (v := ?_) (by first | (simp only [List.getElem?_toArray, List.getElem?_cons_succ, List.getElem?_cons_zero] <;> rfl) | rfl) (by kernel_rfl) (by kernel_rfl) (by kernel_rfl) (by exact fun _ _ _ h => h) (Or.inl ⟨by rfl, ?_⟩) hHeld0 ?_
        rotate_left 1
        · intro w hSw
          try dsimp only at hSw
          (go_simp) <;> (with_reducible rfl)
        try simp only [Act.put, List.setIfInBounds_toArray, List.set_cons_zero, List.set_cons_succ]
        refine wpAnyH_take (i := 7) (v := ?_) (by first | (simp only [List.getElem?_toArray, List.getElem?_cons_succ, List.getElem?_cons_zero] <;> rfl) | rfl) (by kernel_rfl) (by kernel_rfl) (by kernel_rfl) (by exact fun _ _ _ h => h) (Or.inl ⟨by rfl, ?_⟩) hHeld0 ?_
        rotate_left 1
        · intro w hSw
          try dsimp only at hSw
          (go_simp) <;> (with_reducible rfl)
        try simp only [Act.put, List.setIfInBounds_toArray, List.set_cons_zero, List.set_cons_succ]
        refine wpAnyH_take (i := 8) (v := ?_) (by first | (simp only [List.getElem?_toArray, List.getElem?_cons_succ, List.getElem?_cons_zero] <;> rfl) | rfl) (by kernel_rfl) (by kernel_rfl) (by kernel_rfl) (by exact fun _ _ _ h => h) (Or.inl ⟨by rfl, ?_⟩) hHeld0 ?_
        rotate_left 1
        · intro w hSw
          try dsimp only at hSw
          (go_simp) <;> (with_reducible rfl)
        try simp only [Act.put, List.setIfInBounds_toArray, List.set_cons_zero, List.set_cons_succ]
        refine wpAnyH_ready (rs := [9]) (by kernel_rfl) (by simp) ?_
        refine AllReadyH.cons (by first | (simp only [List.getElem?_toArray, List.getElem?_cons_succ, List.getElem?_cons_zero] <;> rfl) | rfl) (fun K hK => ?_) ?_
        · go_simp
          refine (hp _ hHeld0.2.out).mono ?_
          rintro e v ⟨rfl, hbb⟩
          refine hK.out _ _ ?_ (fun hHeld1 => ?_)
          · exact ⟨by obtain ⟨s0, s1, s2, s3, s4, s5, s6, s7⟩ := hHeld0.1; exact ⟨cell_below s0 hbb, cell_below s1 hbb, cell_below s2 hbb, cell_below s3 hbb, cell_below s4 hbb, cell_below s5 hbb, cell_below s6 hbb, cell_below s7 hbb⟩, hHeld0.2.out.trans (hbb.mono hHeld0.2.out.size)⟩
          clear hK K
          try simp only [Act.put, List.setIfInBounds_toArray, List.set_cons_zero, List.set_cons_succ]
          refine wpAnyH_take (i := 10) (v := ?_) (by first | (simp only [List.getElem?_toArray, List.getElem?_cons_succ, List.getElem?_cons_zero] <;> rfl) | rfl) (by kernel_rfl) (by kernel_rfl) (by kernel_rfl) (by exact fun _ _ _ h => h) (Or.inl ⟨by rfl, ?_⟩) hHeld1 ?_
          rotate_left 1
          · intro w hSw
            try dsimp only at hSw
            (go_simp) <;> (with_reducible rfl)
          try simp only [Act.put, List.setIfInBounds_toArray, List.set_cons_zero, List.set_cons_succ]
          refine wpAnyH_done (by kernel_rfl) ?_ _
          have HB2 := Lib.hid (HB.out.trans (hHeld1.2.out.mono HB.out.size))
          clear hHeld1 hp
          cases hz : eqC x y with
          | true =>
            have HK := Lib.hid (zipA_on HF.out HZx.out hz)
            clear hz
            go_wp2_with fail
            go_roundw
            case rel => exact ⟨k + 1, by go_num, by omega, HK, HB2⟩
            case measure => simp [intOf]; omega
          | false =>
            have HK := Lib.hid (HV.out.trans (zipA_bad HZx.out hz)).symm
            clear hz
            go_wp2_with fail
            go_ret
            exact ⟨by rw [← HK.out]; rfl, HB2.out⟩
        exact AllReadyH.nil
      · have HK := Lib.hid (HV.out.trans (zipA_end (by have := HZ.out; omega) HF.out)).symm
        go_wp2_with fail
        go_ret
        exact ⟨by rw [← HK.out]; rfl, HB.out⟩
  · have HK := Lib.hid (al_len (f := eqC) (a := a) (b := b) (by rw [HA.out, HBl.out]; exact hnm)).symm
    have e1 : ((n : Int) != (m : Int)) = true := by rw [bne_iff_ne]; omega
    clear hnm
    go_wp2_with fail
    go_ret
    exact ⟨by rw [← HK.out]; rfl, Below.refl _ _⟩
theorem eqlPath (x y : Bs × Nat) (w : World) : (binOp .eql 72 (.agg #[.string ⟨x.1.toArray⟩, .int .u16 x.2]) (.agg #[.string ⟨y.1.toArray⟩, .int .u16 y.2])).run Tryz.prog w = .ok (.bool (eqT x y)) w := by
  rw [run_eql_struct, run_equalIn_agg w 9999 _ _ _ (by simp [Program.fieldsOf, Tryz.underlying72]) (by kernel_rfl)]
  unfold eqT
  obtain ⟨x0, x1⟩ := x
  obtain ⟨y0, y1⟩ := y
  by_cases h0 : x0 = y0 <;> by_cases h1 : x1 = y1 <;> simp [Op.eqFields, Program.fieldsOf, Tryz.underlying72, go_sem, beqN, h0, h1]
set_option maxHeartbeats 4000000 in
set_option maxRecDepth 100000 in
theorem equalPath_any (x y : Bs × Nat) (w : World) : Calls Tryz.prog 42 #[.agg #[.string ⟨x.1.toArray⟩, .int .u16 x.2], .agg #[.string ⟨y.1.toArray⟩, .int .u16 y.2]] w (SamePost (eqT x y) w) := by
  obtain ⟨hk1, hk2, hb⟩ := two_newS w #[.string ⟨x.1.toArray⟩, .int .u16 x.2] #[.string ⟨y.1.toArray⟩, .int .u16 y.2] 72 72 (la := pathC x) (lb := pathC y) rfl rfl
  have hq := fun W => eqlPath x y W
  go_enter Tryz.func42, Tryz.ntmps42
  go_upto_region 1 with fail
  generalize (w.alloc _).alloc _ = w2 at hk1 hk2 hb ⊢
  have p0 := hk1.cell 0 rfl
  have q0 := hk2.cell 0 rfl
  have p1 := hk1.cell 1 rfl
  have q1 := hk2.cell 1 rfl
  have hl1 := hk1.lt
  have hl2 := hk2.lt
  have HB := Lib.hid hb
  clear hk1 hk2 hb
  go_wp2_with fail
  go_ret
  exact ⟨rfl, HB.out⟩
set_option maxHeartbeats 4000000 in
set_option maxRecDepth 100000 in
theorem alikePath_any (a b : List (Bs × Nat)) (A B : Option Addr) (n m ca cb : Nat) (w : World) (ha : a.length = n) (hb : b.length = m) (hn : n ≤ maxLen) (hm : m ≤ maxLen) (RA : Rd w 2 n A (a.flatMap pathC)) (RB : Rd w 2 m B (b.flatMap pathC)) :
    Calls Tryz.prog 41 #[.slice A n ca, .slice B m cb, .func (.func 42) #[] #[]] w (SamePost (alB eqT a b) w) := by
  have hn' : n ≤ 9223372036854775807 := hn
  have hm' : m ≤ 9223372036854775807 := hm
  have HRA := Lib.hid RA
  have HRB := Lib.hid RB
  have HA := Lib.hid ha
  have HBl := Lib.hid hb
  clear RA RB hn hm ha hb
  go_enter Tryz.func41, Tryz.ntmps41
  by_cases hnm : n = m
  · subst hnm
    have HV := Lib.hid (al_eq (f := eqT) (a := a) (b := b) (HA.out.trans HBl.out.symm))
    have HZ := Lib.hid (show (a.zip b).length = n by rw [List.length_zip, HA.out, HBl.out, Nat.min_self])
    go_wp2_with fail
    go_loopw [15] (fun iv wr => ∃ k : Nat, iv = .int .i64 k ∧ k ≤ n ∧ Hid (((a.zip b).take k).all (fun x => eqT x.1 x.2) = true) ∧ Hid (Below w.heap.size w wr)) (fun iv _ => n - (intOf iv).toNat)
    case atStart => exact ⟨0, rfl, Nat.zero_le _, Lib.hid (by simp), Below.refl _ _⟩
    case round =>
      obtain ⟨k, rfl, hk, HF, HB⟩ := hrel
      by_cases hlt : k < n
      · obtain ⟨x, hx⟩ : ∃ x, a[k]? = some x := ⟨_, List.getElem?_eq_getElem (by have := HA.out; omega)⟩
        obtain ⟨y, hy⟩ : ∃ y, b[k]? = some y := ⟨_, List.getElem?_eq_getElem (by have := HBl.out; omega)⟩
        obtain ⟨b1, o1, hA1, hbl1, hc1⟩ := (HRA.out.below HB.out).one (fun _ => rfl) (by omega) (by omega)
        obtain ⟨b2, o2, hA2, hbl2, hc2⟩ := (HRB.out.below HB.out).one (fun _ => rfl) (by omega) (by omega)
        subst hA1
        subst hA2
        have p0 : wr.cell? ⟨b1, o1 + k * 2, none⟩ = some (.string ⟨x.1.toArray⟩) := by have := hc1 k x hx 0 _ rfl; simpa [Nat.add_assoc] using this
        have q0 : wr.cell? ⟨b2, o2 + k * 2, none⟩ = some (.string ⟨y.1.toArray⟩) := by have := hc2 k y hy 0 _ rfl; simpa [Nat.add_assoc] using this
        have p1 : wr.cell? ⟨b1, o1 + k * 2 + 1, none⟩ = some (.int .u16 x.2) := by have := hc1 k x hx 1 _ rfl; simpa [Nat.add_assoc] using this
        have q1 : wr.cell? ⟨b2, o2 + k * 2 + 1, none⟩ = some (.int .u16 y.2) := by have := hc2 k y hy 1 _ rfl; simpa [Nat.add_assoc] using this
        have HZx := Lib.hid (zip_at hx hy)
        have hp := fun W (_ : Below wr.heap.size wr W) => equalPath_any x y W
        clear hc1 hc2 hx hy
        go_upto_region 6 with fail
        refine wp_region_held_drew (S := (fun w' => (w'.cell? ⟨b1, o1 + k * 2, none⟩ = some (.string ⟨x.1.toArray⟩) ∧ w'.cell? ⟨b1, o1 + k * 2 + 1, none⟩ = some (.int .u16 x.2) ∧ w'.cell? ⟨b2, o2 + k * 2, none⟩ = some (.string ⟨y.1.toArray⟩) ∧ w'.cell? ⟨b2, o2 + k * 2 + 1, none⟩ = some (.int .u16 y.2)) ∧ Hid (Below wr.heap.size wr w'))) (by kernel_rfl) ?_ (fun hHeld0 => ?_)
        · exact ⟨⟨p0, p1, q0, q1⟩, Lib.hid (Below.refl wr.heap.size wr).drew⟩
        clear p0 p1 q0 q1
        refine wpAnyH_take (i := 0) (v := ?_) (by first | (simp only [List.getElem?_toArray, List.getElem?_cons_zero] <;> rfl) | rfl) (by kernel_rfl) (by kernel_rfl) (by kernel_rfl) (by exact fun _ _ _ h => h) (Or.inl ⟨by rfl, ?_⟩) hHeld0 ?_
        rotate_left 1
        · intro w hSw
          try dsimp only at hSw
          (go_simp) <;> (with_reducible rfl)
        try simp only [Act.put, List.setIfInBounds_toArray, List.set_cons_zero, List.set_cons_succ]
        refine wpAnyH_take (i := 1) (v := ?_) (by first | (simp only [List.getElem?_toArray, List.getElem?_cons_succ, List.getElem?_cons_zero] <;> rfl) | rfl) (by kernel_rfl) (by kernel_rfl) (by kernel_rfl) (by exact fun _ _ _ h => h) (Or.inl ⟨by rfl, ?_⟩) hHeld0 ?_
        rotate_left 1
        · intro w hSw
          try dsimp only at hSw
          (go_simp) <;> (with_reducible rfl)
        try simp only [Act.put, List.setIfInBounds_toArray, List.set_cons_zero, List.set_cons_succ]
        refine wpAnyH_take (i := 2) (v := ?_) (by first | (simp only [List.getElem?_toArray, List.getElem?_cons_succ, List.getElem?_cons_zero] <;> rfl) | rfl) (by kernel_rfl) (by kernel_rfl) (by kernel_rfl) (by exact fun _ _ _ h => h) (Or.inl ⟨by rfl, ?_⟩) hHeld0 ?_
        rotate_left 1
        · intro w hSw
          try dsimp only at hSw
          (go_simp) <;> (with_reducible rfl)
        try simp only [Act.put, List.setIfInBounds_toArray, List.set_cons_zero, List.set_cons_succ]
        refine wpAnyH_take (i := 3) (v := ?_) (by first | (simp only [List.getElem?_toArray, List.getElem?_cons_succ, List.getElem?_cons_zero] <;> rfl) | rfl) (by kernel_rfl) (by kernel_rfl) (by kernel_rfl) (by exact fun _ _ _ h => h) (Or.inl ⟨by rfl, ?_⟩) hHeld0 ?_
        rotate_left 1
        · intro w hSw
          try dsimp only at hSw
          (go_simp) <;> (with_reducible rfl)
        try simp only [Act.put, List.setIfInBounds_toArray, List.set_cons_zero, List.set_cons_succ]
        refine wpAnyH_take (i := 4) (v := ?_) (by first | (simp only [List.getElem?_toArray, List.getElem?_cons_succ, List.getElem?_cons_zero] <;> rfl) | rfl) (by kernel_rfl) (by kernel_rfl) (by kernel_rfl) (by exact fun _ _ _ h => h) (Or.inl ⟨by rfl, ?_⟩) hHeld0 ?_
        rotate_left 1
        · intro w hSw
          try dsimp only at hSw
          (go_simp) <;> (with_reducible rfl)
        try simp only [Act.put, List.setIfInBounds_toArray, List.set_cons_zero, List.set_cons_succ]
        refine wpAnyH_take (i := 5) (v := ?_) (by first | (simp only [List.getElem?_toArray, List.getElem?_cons_succ, List.getElem?_cons_zero] <;> rfl) | rfl) (by kernel_rfl) (by kernel_rfl) (by kernel_rfl) (by exact fun _ _ _ h => h) (Or.inl ⟨by rfl, ?_⟩) hHeld0 ?_
        rotate_left 1
        · intro w hSw
          try dsimp only at hSw
          (go_simp) <;> (with_reducible rfl)
        try simp only [Act.put, List.setIfInBounds_toArray, List.set_cons_zero, List.set_cons_succ]
        refine wpAnyH_take (i := 6) (v := ?_) (by first | (simp only [List.getElem?_toArray, List.getElem?_cons_succ, List.getElem?_cons_zero] <;> rfl) | rfl) (by kernel_rfl) (by kernel_rfl) (by kernel_rfl) (by exact fun _ _ _ h => h) (Or.inl ⟨by rfl, ?_⟩) hHeld0 ?_
        rotate_left 1
        · intro w hSw
          try dsimp only at hSw
          (go_simp) <;> (with_reducible rfl)
        try simp only [Act.put, List.setIfInBounds_toArray, List.set_cons_zero, List.set_cons_succ]
        refine wpAnyH_take (i := 7) (v := ?_) (by first | (simp only [List.getElem?_toArray, List.getElem?_cons_succ, List.getElem?_cons_zero] <;> rfl) | rfl) (by kernel_rfl) (by kernel_rfl) (by kernel_rfl) (by exact fun _ _ _ h => h) (Or.inl ⟨by rfl, ?_⟩) hHeld0 ?_
        rotate_left 1
        · intro w hSw
          try dsimp only at hSw
          (go_simp) <;> (with_reducible rfl)
        try simp only [Act.put, List.setIfInBounds_toArray, List.set_cons_zero, List.set_cons_succ]
        refine wpAnyH_take (i := 8) (v := ?_) (by first | (simp only [List.getElem?_toArray, List.getElem?_cons_succ, List.getElem?_cons_zero] <;> rfl) | rfl) (by kernel_rfl) (by kernel_rfl) (by kernel_rfl) (by exact fun _ _ _ h => h) (Or.inl ⟨by rfl, ?_⟩) hHeld0 ?_
        rotate_left 1
        · intro w hSw
          try dsimp only at hSw
          (go_simp) <;> (with_reducible rfl)
        try simp only [Act.put, List.setIfInBounds_toArray, List.set_cons_zero, List.set_cons_succ]
        refine wpAnyH_ready (rs := [9]) (by kernel_rfl) (by simp) ?_
        refine AllReadyH.cons (by first | (simp only [List.getElem?_toArray, List.getElem?_cons_succ, List.getElem?_cons_zero] <;> rfl) | rfl) (fun K hK => ?_) ?_
        · go_simp
          refine (hp _ hHeld0.2.out).mono ?_
          rintro e v ⟨rfl, hbb⟩
          refine hK.out _ _ ?_ (fun hHeld1 => ?_)
          · exact ⟨by obtain ⟨s0, s1, s2, s3⟩ := hHeld0.1; exact ⟨cell_below s0 hbb, cell_below s1 hbb, cell_below s2 hbb, cell_below s3 hbb⟩, hHeld0.2.out.trans (hbb.mono hHeld0.2.out.size)⟩
          clear hK K
          try simp only [Act.put, List.setIfInBounds_toArray, List.set_cons_zero, List.set_cons_succ]
          refine wpAnyH_take (i := 10) (v := ?_) (by first | (simp only [List.getElem?_toArray, List.getElem?_cons_succ, List.getElem?_cons_zero] <;> rfl) | rfl) (by kernel_rfl) (by kernel_rfl) (by kernel_rfl) (by exact fun _ _ _ h => h) (Or.inl ⟨by rfl, ?_⟩) hHeld1 ?_
          rotate_left 1
          · intro w hSw
            try dsimp only at hSw
            (go_simp) <;> (with_reducible rfl)
          try simp only [Act.put, List.setIfInBounds_toArray, List.set_cons_zero, List.set_cons_succ]
          refine wpAnyH_done (by kernel_rfl) ?_ _
          have HB2 := Lib.hid (HB.out.trans (hHeld1.2.out.mono HB.out.size))
          clear hHeld1 hp
          cases hz : eqT x y with
          | true =>
            have HK := Lib.hid (zipA_on HF.out HZx.out hz)
            clear hz
            go_wp2_with fail
            go_roundw
            case rel => exact ⟨k + 1, by go_num, by omega, HK, HB2⟩
            case measure => simp [intOf]; omega
          | false =>
            have HK := Lib.hid (HV.out.trans (zipA_bad HZx.out hz)).symm
            clear hz
            go_wp2_with fail
            go_ret
            exact ⟨by rw [← HK.out]; rfl, HB2.out⟩
        exact AllReadyH.nil
      · have HK := Lib.hid (HV.out.trans (zipA_end (by have := HZ.out; omega) HF.out)).symm
        go_wp2_with fail
        go_ret
        exact ⟨by rw [← HK.out]; rfl, HB.out⟩
  · have HK := Lib.hid (al_len (f := eqT) (a := a) (b := b) (by rw [HA.out, HBl.out]; exact hnm)).symm
    have e1 : ((n : Int) != (m : Int)) = true := by rw [bne_iff_ne]; omega
    clear hnm
    go_wp2_with fail
    go_ret
    exact ⟨by rw [← HK.out]; rfl, Below.refl _ _⟩
theorem eqlPort (x y : Nat × Nat) (w : World) : (binOp .eql 97 (.agg #[.int .u16 x.1, .int .u16 x.2]) (.agg #[.int .u16 y.1, .int .u16 y.2])).run Tryz.prog w = .ok (.bool (eqP x y)) w := by
  rw [run_eql_struct, run_equalIn_agg w 9999 _ _ _ (by simp [Program.fieldsOf, Tryz.underlying97]) (by kernel_rfl)]
  unfold eqP
  obtain ⟨x0, x1⟩ := x
  obtain ⟨y0, y1⟩ := y
  by_cases h0 : x0 = y0 <;> by_cases h1 : x1 = y1 <;> simp [Op.eqFields, Program.fieldsOf, Tryz.underlying97, go_sem, beqN, h0, h1]
set_option maxHeartbeats 4000000 in
set_option maxRecDepth 100000 in
theorem equalPort_any (x y : Nat × Nat) (w : World) : Calls Tryz.prog 44 #[.agg #[.int .u16 x.1, .int .u16 x.2], .agg #[.int .u16 y.1, .int .u16 y.2]] w (SamePost (eqP x y) w) := by
  obtain ⟨hk1, hk2, hb⟩ := two_newS w #[.int .u16 x.1, .int .u16 x.2] #[.int .u16 y.1, .int .u16 y.2] 97 97 (la := portC x) (lb := portC y) rfl rfl
  have hq := fun W => eqlPort x y W
  go_enter Tryz.func44, Tryz.ntmps44
  go_upto_region 1 with fail
  generalize (w.alloc _).alloc _ = w2 at hk1 hk2 hb ⊢
  have p0 := hk1.cell 0 rfl
  have q0 := hk2.cell 0 rfl
  have p1 := hk1.cell 1 rfl
  have q1 := hk2.cell 1 rfl
  have hl1 := hk1.lt
  have hl2 := hk2.lt
  have HB := Lib.hid hb
  clear hk1 hk2 hb
  go_wp2_with fail
  go_ret
  exact ⟨rfl, HB.out⟩
set_option maxHeartbeats 4000000 in
set_option maxRecDepth 100000 in
theorem alikePort_any (a b : List (Nat × Nat)) (A B : Option Addr) (n m ca cb : Nat) (w : World) (ha : a.length = n) (hb : b.length = m) (hn : n ≤ maxLen) (hm : m ≤ maxLen) (RA : Rd w 2 n A (a.flatMap portC)) (RB : Rd w 2 m B (b.flatMap portC)) :
    Calls Tryz.prog 43 #[.slice A n ca, .slice B m cb, .func (.func 44) #[] #[]] w (SamePost (alB eqP a b) w) := by
  have hn' : n ≤ 9223372036854775807 := hn
  have hm' : m ≤ 9223372036854775807 := hm
  have HRA := Lib.hid RA
  have HRB := Lib.hid RB
  have HA := Lib.hid ha
  have HBl := Lib.hid hb
  clear RA RB hn hm ha hb
  go_enter Tryz.func43, Tryz.ntmps43
  by_cases hnm : n = m
  · subst hnm
    have HV := Lib.hid (al_eq (f := eqP) (a := a) (b := b) (HA.out.trans HBl.out.symm))
    have HZ := Lib.hid (show (a.zip b).length = n by rw [List.length_zip, HA.out, HBl.out, Nat.min_self])
    go_wp2_with fail
    go_loopw [15] (fun iv wr => ∃ k : Nat, iv = .int .i64 k ∧ k ≤ n ∧ Hid (((a.zip b).take k).all (fun x => eqP x.1 x.2) = true) ∧ Hid (Below w.heap.size w wr)) (fun iv _ => n - (intOf iv).toNat)
    case atStart => exact ⟨0, rfl, Nat.zero_le _, Lib.hid (by simp), Below.refl _ _⟩
    case round =>
      obtain ⟨k, rfl, hk, HF, HB⟩ := hrel
      by_cases hlt : k < n
      · obtain ⟨x, hx⟩ : ∃ x, a[k]? = some x := ⟨_, List.getElem?_eq_getElem (by have := HA.out; omega)⟩
        obtain ⟨y, hy⟩ : ∃ y, b[k]? = some y := ⟨_, List.getElem?_eq_getElem (by have := HBl.out; omega)⟩
        obtain ⟨b1, o1, hA1, hbl1, hc1⟩ := (HRA.out.below HB.out).one (fun _ => rfl) (by omega) (by omega)
        obtain ⟨b2, o2, hA2, hbl2, hc2⟩ := (HRB.out.below HB.out).one (fun _ => rfl) (by omega) (by omega)
        subst hA1
        subst hA2
        have p0 : wr.cell? ⟨b1, o1 + k * 2, none⟩ = some (.int .u16 x.1) := by have := hc1 k x hx 0 _ rfl; simpa [Nat.add_assoc] using this
        have q0 : wr.cell? ⟨b2, o2 + k * 2, none⟩ = some (.int .u16 y.1) := by have := hc2 k y hy 0 _ rfl; simpa [Nat.add_assoc] using this
        have p1 : wr.cell? ⟨b1, o1 + k * 2 + 1, none⟩ = some (.int .u16 x.2) := by have := hc1 k x hx 1 _ rfl; simpa [Nat.add_assoc] using this
        have q1 : wr.cell? ⟨b2, o2 + k * 2 + 1, none⟩ = some (.int .u16 y.2) := by have := hc2 k y hy 1 _ rfl; simpa [Nat.add_assoc] using this
        have HZx := Lib.hid (zip_at hx hy)
        have hp := fun W (_ : Below wr.heap.size wr W) => equalPort_any x y W
        clear hc1 hc2 hx hy
        go_upto_region 6 with fail
        refine wp_region_held_drew (S := (fun w' => (w'.cell? ⟨b1, o1 + k * 2, none⟩ = some (.int .u16 x.1) ∧ w'.cell? ⟨b1, o1 + k * 2 + 1, none⟩ = some (.int .u16 x.2) ∧ w'.cell? ⟨b2, o2 + k * 2, none⟩ = some (.int .u16 y.1) ∧ w'.cell? ⟨b2, o2 + k * 2 + 1, none⟩ = some (.int .u16 y.2)) ∧ Hid (Below wr.heap.size wr w'))) (by kernel_rfl) ?_ (fun hHeld0 => ?_)
        · exact ⟨⟨p0, p1, q0, q1⟩, Lib.hid (Below.refl wr.heap.size wr).drew⟩
        clear p0 p1 q0 q1
        refine wpAnyH_take (i := 0) (v := ?_) (by first | (simp only [List.getElem?_toArray, List.getElem?_cons_zero] <;> rfl) | rfl) (by kernel_rfl) (by kernel_rfl) (by kernel_rfl) (by exact fun _ _ _ h => h) (Or.inl ⟨by rfl, ?_⟩) hHeld0 ?_
        rotate_left 1
        · intro w hSw
          try dsimp only at hSw
          (go_simp) <;> (with_reducible rfl)
        try simp only [Act.put, List.setIfInBounds_toArray, List.set_cons_zero, List.set_cons_succ]
        refine wpAnyH_take (i := 1) (v := ?_) (by first | (simp only [List.getElem?_toArray, List.getElem?_cons_succ, List.getElem?_cons_zero] <;> rfl) | rfl) (by kernel_rfl) (by kernel_rfl) (by kernel_rfl) (by exact fun _ _ _ h => h) (Or.inl ⟨by rfl, ?_⟩) hHeld0 ?_
        rotate_left 1
        · intro w hSw
          try dsimp only at hSw
          (go_simp) <;> (with_reducible rfl)
        try simp only [Act.put, List.setIfInBounds_toArray, List.set_cons_zero, List.set_cons_succ]
        refine wpAnyH_take (i := 2) (v := ?_) (by first | (simp only [List.getElem?_toArray, List.getElem?_cons_succ, List.getElem?_cons_zero] <;> rfl) | rfl) (by kernel_rfl) (by kernel_rfl) (by kernel_rfl) (by exact fun _ _ _ h => h) (Or.inl ⟨by rfl, ?_⟩) hHeld0 ?_
        rotate_left 1
        · intro w hSw
          try dsimp only at hSw
          (go_simp) <;> (with_reducible rfl)
        try simp only [Act.put, List.setIfInBounds_toArray, List.set_cons_zero, List.set_cons_succ]
        refine wpAnyH_take (i := 3) (v := ?_) (by first | (simp only [List.getElem?_toArray, List.getElem?_cons_succ, List.getElem?_cons_zero] <;> rfl) | rfl) (by kernel_rfl) (by kernel_rfl) (by kernel_rfl) (by exact fun _ _ _ h => h) (Or.inl ⟨by rfl, ?_⟩) hHeld0 ?_
        rotate_left 1
        · intro w hSw
          try dsimp only at hSw
          (go_simp) <;> (with_reducible rfl)
        try simp only [Act.put, List.setIfInBounds_toArray, List.set_cons_zero, List.set_cons_succ]
        refine wpAnyH_take (i := 4) (v := ?_) (by first | (simp only [List.getElem?_toArray, List.getElem?_cons_succ, List.getElem?_cons_zero] <;> rfl) | rfl) (by kernel_rfl) (by kernel_rfl) (by kernel_rfl) (by exact fun _ _ _ h => h) (Or.inl ⟨by rfl, ?_⟩) hHeld0 ?_
        rotate_left 1
        · intro w hSw
          try dsimp only at hSw
          (go_simp) <;> (with_reducible rfl)
        try simp only [Act.put, List.setIfInBounds_toArray, List.set_cons_zero, List.set_cons_succ]
        refine wpAnyH_take (i := 5) (v := ?_) (by first | (simp only [List.getElem?_toArray, List.getElem?_cons_succ, List.getElem?_cons_zero] <;> rfl) | rfl) (by kernel_rfl) (by kernel_rfl) (by kernel_rfl) (by exact fun _ _ _ h => h) (Or.inl ⟨by rfl, ?_⟩) hHeld0 ?_
        rotate_left 1
        · intro w hSw
          try dsimp only at hSw
          (go_simp) <;> (with_reducible rfl)
        try simp only [Act.put, List.setIfInBounds_toArray, List.set_cons_zero, List.set_cons_succ]
        refine wpAnyH_take (i := 6) (v := ?_) (by first | (simp only [List.getElem?_toArray, List.getElem?_cons_succ, List.getElem?_cons_zero] <;> rfl) | rfl) (by kernel_rfl) (by kernel_rfl) (by kernel_rfl) (by exact fun _ _ _ h => h) (Or.inl ⟨by rfl, ?_⟩) hHeld0 ?_
        rotate_left 1
        · intro w hSw
          try dsimp only at hSw
          (go_simp) <;> (with_reducible rfl)
        try simp only [Act.put, List.setIfInBounds_toArray, List.set_cons_zero, List.set_cons_succ]
        refine wpAnyH_take (i := 7) (v := ?_) (by first | (simp only [List.getElem?_toArray, List.getElem?_cons_succ, List.getElem?_cons_zero] <;> rfl) | rfl) (by kernel_rfl) (by kernel_rfl) (by kernel_rfl) (by exact fun _ _ _ h => h) (Or.inl ⟨by rfl, ?_⟩) hHeld0 ?_
        rotate_left 1
        · intro w hSw
          try dsimp only at hSw
          (go_simp) <;> (with_reducible rfl)
        try simp only [Act.put, List.setIfInBounds_toArray, List.set_cons_zero, List.set_cons_succ]
        refine wpAnyH_take (i := 8) (v := ?_) (by first | (simp only [List.getElem?_toArray, List.getElem?_cons_succ, List.getElem?_cons_zero] <;> rfl) | rfl) (by kernel_rfl) (by kernel_rfl) (by kernel_rfl) (by exact fun _ _ _ h => h) (Or.inl ⟨by rfl, ?_⟩) hHeld0 ?_
        rotate_left 1
        · intro w hSw
          try dsimp only at hSw
          (go_simp) <;> (with_reducible rfl)
        try simp only [Act.put, List.setIfInBounds_toArray, List.set_cons_zero, List.set_cons_succ]
        refine wpAnyH_ready (rs := [9]) (by kernel_rfl) (by simp) ?_
        refine AllReadyH.cons (by first | (simp only [List.getElem?_toArray, List.getElem?_cons_succ, List.getElem?_cons_zero] <;> rfl) | rfl) (fun K hK => ?_) ?_
        · go_simp
          refine (hp _ hHeld0.2.out).mono ?_
          rintro e v ⟨rfl, hbb⟩
          refine hK.out _ _ ?_ (fun hHeld1 => ?_)
          · exact ⟨by obtain ⟨s0, s1, s2, s3⟩ := hHeld0.1; exact ⟨cell_below s0 hbb, cell_below s1 hbb, cell_below s2 hbb, cell_below s3 hbb⟩, hHeld0.2.out.trans (hbb.mono hHeld0.2.out.size)⟩
          clear hK K
          try simp only [Act.put, List.setIfInBounds_toArray, List.set_cons_zero, List.set_cons_succ]
          refine wpAnyH_take (i := 10) (v := ?_) (by first | (simp only [List.getElem?_toArray, List.getElem?_cons_succ, List.getElem?_cons_zero] <;> rfl) | rfl) (by kernel_rfl) (by kernel_rfl) (by kernel_rfl) (by exact fun _ _ _ h => h) (Or.inl ⟨by rfl, ?_⟩) hHeld1 ?_
          rotate_left 1
          · intro w hSw
            try dsimp only at hSw
            (go_simp) <;> (with_reducible rfl)
          try simp only [Act.put, List.setIfInBounds_toArray, List.set_cons_zero, List.set_cons_succ]
          refine wpAnyH_done (by kernel_rfl) ?_ _
          have HB2 := Lib.hid (HB.out.trans (hHeld1.2.out.mono HB.out.size))
          clear hHeld1 hp
          cases hz : eqP x y with
          | true =>
            have HK := Lib.hid (zipA_on HF.out HZx.out hz)
            clear hz
            go_wp2_with fail
            go_roundw
            case rel => exact ⟨k + 1, by go_num, by omega, HK, HB2⟩
            case measure => simp [intOf]; omega
          | false =>
            have HK := Lib.hid (HV.out.trans (zipA_bad HZx.out hz)).symm
            clear hz
            go_wp2_with fail
            go_ret
            exact ⟨by rw [← HK.out]; rfl, HB2.out⟩
        exact AllReadyH.nil
      · have HK := Lib.hid (HV.out.trans (zipA_end (by have := HZ.out; omega) HF.out)).symm
        go_wp2_with fail
        go_ret
        exact ⟨by rw [← HK.out]; rfl, HB.out⟩
  · have HK := Lib.hid (al_len (f := eqP) (a := a) (b := b) (by rw [HA.out, HBl.out]; exact hnm)).symm
    have e1 : ((n : Int) != (m : Int)) = true := by rw [bne_iff_ne]; omega
    clear hnm
    go_wp2_with fail
    go_ret
    exact ⟨by rw [← HK.out]; rfl, Below.refl _ _⟩
end Go.Proofs.YtinofjbnfmalkaaGreatDoor.Tx
