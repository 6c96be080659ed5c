/- Are two rules, two policies the same: the walks. -/
import Derived.Test.YtinofjbnfmalkaaGreatDoorTxS
namespace Go.Proofs.YtinofjbnfmalkaaGreatDoor.Tx
open Go.RowKit Go.WideElems Pa
def eqR (a b : RuleM) : Bool := decide (a.num = b.num) && (decide (a.act = b.act) && alB eqC a.conds b.conds)
theorem eqR_iff (a b : RuleM) : eqR a b = true ↔ a = b := by
  obtain ⟨a1, a2, a3⟩ := a; obtain ⟨b1, b2, b3⟩ := b
  simp only [eqR, Bool.and_eq_true, decide_eq_true_eq, al_self eqC_iff, RuleM.mk.injEq]
def sameB (p q : PolM) : Bool := decide (p.name = q.name) && (decide (p.dflt = q.dflt) && (decide (p.handled = q.handled) && (alB eqR p.rules q.rules && (alB eqT p.paths q.paths && alB eqP p.ports q.ports))))
theorem sameB_iff (p q : PolM) : sameB p q = true ↔ p = q := by
  obtain ⟨a1, a2, a3, a4, a5, a6⟩ := p; obtain ⟨b1, b2, b3, b4, b5, b6⟩ := q
  simp only [sameB, Bool.and_eq_true, decide_eq_true_eq, al_self eqR_iff, al_self eqT_iff, al_self eqP_iff, PolM.mk.injEq]
  constructor
  · rintro ⟨h1, h2, h3, h4, h5, h6⟩; exact ⟨h1, h2, h4, h3, h5, h6⟩
  · rintro ⟨h1, h2, h4, h3, h5, h6⟩; exact ⟨h1, h2, h3, h4, h5, h6⟩
theorem same_post {b c : Bool} {w w' : World} {e : Ending} (h : b = c) (he : e = .returned (.bool b)) (hb : Below w.heap.size w w') : SamePost c w e w' := by subst h; exact ⟨he, hb⟩
theorem beq_fN {a b : Nat} (h : a ≠ b) : ((a : Int) == (b : Int)) = false := by rw [beqN, decide_eq_false h]
theorem beq_tN (a : Nat) : ((a : Int) == (a : Int)) = true := by rw [beqN]; simp
theorem map_alB {α β : Type} (f : β → β → Bool) (g : α → β) (a b : List α) : alB (fun x y => f (g x) (g y)) a b = alB f (a.map g) (b.map g) := by
  unfold alB; rw [List.length_map, List.length_map, List.zip_map, List.all_map]; rfl
set_option maxHeartbeats 4000000 in
set_option maxRecDepth 100000 in
theorem sameRule_any (n1 a1 n2 a2 : Nat) (l1 l2 : List CondM) (A1 A2 : Option Addr) (k1 k2 c1 c2 : Nat) (w : World) (h1 : l1.length = k1) (h2 : l2.length = k2) (m1 : k1 ≤ maxLen) (m2 : k2 ≤ maxLen) (R1 : Rd w 4 k1 A1 (l1.flatMap CondM.cells)) (R2 : Rd w 4 k2 A2 (l2.flatMap CondM.cells)) :
    Calls Tryz.prog 40 #[.agg #[.int .u32 n1, .int .u32 a1, .slice A1 k1 c1], .agg #[.int .u32 n2, .int .u32 a2, .slice A2 k2 c2]] w (SamePost (eqR ⟨n1, a1, l1⟩ ⟨n2, a2, l2⟩) w) := by
  obtain ⟨hk1, hk2, hb⟩ := two_newS w #[.int .u32 n1, .int .u32 a1, .slice A1 k1 c1] #[.int .u32 n2, .int .u32 a2, .slice A2 k2 c2] 70 70 (la := [.int .u32 n1, .int .u32 a1, .slice A1 k1 c1]) (lb := [.int .u32 n2, .int .u32 a2, .slice A2 k2 c2]) rfl rfl
  have hal := Lib.hid (fun W (hW : Below w.heap.size w W) => alikeCond_any l1 l2 A1 A2 k1 k2 c1 c2 W h1 h2 m1 m2 (R1.below hW) (R2.below hW))
  clear R1 R2 m1 m2 h1 h2
  go_enter Tryz.func40, Tryz.ntmps40
  go_upto_region 1 with fail
  generalize (w.alloc _).alloc _ = w2 at hk1 hk2 hb ⊢
  have p0 := hk1.cell 0 rfl
  have p1 := hk1.cell 1 rfl
  have p2 := hk1.cell 2 rfl
  have q0 := hk2.cell 0 rfl
  have q1 := hk2.cell 1 rfl
  have q2 := hk2.cell 2 rfl
  have hl1 := hk1.lt
  have hl2 := hk2.lt
  have HB := Lib.hid hb
  clear hk1 hk2 hb
  by_cases e0 : n1 = n2
  · subst e0
    have et := beq_tN n1
    by_cases e1 : a1 = a2
    · subst e1
      have eu := beq_tN a1
      go_wp2_with fail
      refine (hal.out _ HB.out).mono ?_
      clear hal p0 p1 p2 q0 q1 q2
      rintro e w3 ⟨rfl, hb3⟩
      have HB3 := Lib.hid (HB.out.trans (hb3.mono HB.out.size))
      clear hb3
      cases hz : alB eqC l1 l2 with
      | true =>
        have HV := Lib.hid (show true = eqR ⟨n1, a1, l1⟩ ⟨n1, a1, l2⟩ by simp [eqR, hz])
        clear hz
        go_wp2_with fail
        go_ret
        exact same_post HV.out rfl HB3.out
      | false =>
        have HV := Lib.hid (show false = eqR ⟨n1, a1, l1⟩ ⟨n1, a1, l2⟩ by simp [eqR, hz])
        clear hz
        go_wp2_with fail
        go_ret
        exact same_post HV.out rfl HB3.out
    · have eu := beq_fN e1
      have HV := Lib.hid (show false = eqR ⟨n1, a1, l1⟩ ⟨n1, a2, l2⟩ by simp [eqR, e1])
      clear e1
      go_wp2_with fail
      go_ret
      exact same_post HV.out rfl HB.out
  · have et := beq_fN e0
    have HV := Lib.hid (show false = eqR ⟨n1, a1, l1⟩ ⟨n2, a2, l2⟩ by simp [eqR, e0])
    clear e0
    go_wp2_with fail
    go_ret
    exact same_post HV.out rfl HB.out
set_option maxHeartbeats 4000000 in
set_option maxRecDepth 100000 in
theorem alikeRule_any (a b : List RuleV) (A B : Option Addr) (n m ca cb : Nat) (w : World) (ha : a.length = n) (hb : b.length = m) (hn : n ≤ maxLen) (hm : m ≤ maxLen) (RA : Rd w 3 n A (a.flatMap RuleV.cells)) (RB : Rd w 3 m B (b.flatMap RuleV.cells))
    (CA : ∀ r ∈ a, Rd w 4 r.m.conds.length r.A (r.m.conds.flatMap CondM.cells)) (CB : ∀ r ∈ b, Rd w 4 r.m.conds.length r.A (r.m.conds.flatMap CondM.cells)) (LA : ∀ r ∈ a, r.m.conds.length ≤ maxLen) (LB : ∀ r ∈ b, r.m.conds.length ≤ maxLen) :
    Calls Tryz.prog 39 #[.slice A n ca, .slice B m cb, .func (.func 40) #[] #[]] w (SamePost (alB (fun x y => eqR x.m y.m) a b) w) := by
  have hn' : n ≤ 9223372036854775807 := hn
  have hm' : m ≤ 9223372036854775807 := hm
  have HRA := Lib.hid RA
  have HRB := Lib.hid RB
  have HA := Lib.hid ha
  have HBl := Lib.hid hb
  have HCA := Lib.hid CA
  have HCB := Lib.hid CB
  have HLA := Lib.hid LA
  have HLB := Lib.hid LB
  clear RA RB hn hm ha hb CA CB LA LB
  go_enter Tryz.func39, Tryz.ntmps39
  by_cases hnm : n = m
  · subst hnm
    have HV := Lib.hid (al_eq (f := fun x y : RuleV => eqR x.m y.m) (a := a) (b := b) (HA.out.trans HBl.out.symm))
    have HZ := Lib.hid (show (a.zip b).length = n by rw [List.length_zip, HA.out, HBl.out, Nat.min_self])
    go_wp2_with fail
    go_loopw [15] (fun iv wr => ∃ k : Nat, iv = .int .i64 k ∧ k ≤ n ∧ Hid (((a.zip b).take k).all (fun x => eqR x.1.m x.2.m) = true) ∧ Hid (Below w.heap.size w wr)) (fun iv _ => n - (intOf iv).toNat)
    case atStart => exact ⟨0, rfl, Nat.zero_le _, Lib.hid (by simp), Below.refl _ _⟩
    case round =>
      obtain ⟨k, rfl, hk, HF, HB⟩ := hrel
      by_cases hlt : k < n
      · obtain ⟨x, hx⟩ : ∃ x, a[k]? = some x := ⟨_, List.getElem?_eq_getElem (by have := HA.out; omega)⟩
        obtain ⟨y, hy⟩ : ∃ y, b[k]? = some y := ⟨_, List.getElem?_eq_getElem (by have := HBl.out; omega)⟩
        obtain ⟨b1, o1, hA1, hbl1, hc1⟩ := (HRA.out.below HB.out).one (fun _ => rfl) (by omega) (by omega)
        obtain ⟨b2, o2, hA2, hbl2, hc2⟩ := (HRB.out.below HB.out).one (fun _ => rfl) (by omega) (by omega)
        subst hA1
        subst hA2
        obtain ⟨n1, hn1⟩ : ∃ z, z = x.m.num := ⟨_, rfl⟩
        obtain ⟨n2, hn2⟩ : ∃ z, z = y.m.num := ⟨_, rfl⟩
        obtain ⟨a1, ha1⟩ : ∃ z, z = x.m.act := ⟨_, rfl⟩
        obtain ⟨a2, ha2⟩ : ∃ z, z = y.m.act := ⟨_, rfl⟩
        obtain ⟨A1, hA1⟩ : ∃ z, z = x.A := ⟨_, rfl⟩
        obtain ⟨A2, hA2⟩ : ∃ z, z = y.A := ⟨_, rfl⟩
        obtain ⟨k1, hk1⟩ : ∃ z, z = x.m.conds.length := ⟨_, rfl⟩
        obtain ⟨k2, hk2⟩ : ∃ z, z = y.m.conds.length := ⟨_, rfl⟩
        obtain ⟨c1, hcp1⟩ : ∃ z, z = x.cap := ⟨_, rfl⟩
        obtain ⟨c2, hcp2⟩ : ∃ z, z = y.cap := ⟨_, rfl⟩
        have p0 : wr.cell? ⟨b1, o1 + k * 3, none⟩ = some (.int .u32 n1) := by have := hc1 k x hx 0 _ rfl; rw [hn1]; simpa [Nat.add_assoc] using this
        have p1 : wr.cell? ⟨b1, o1 + k * 3 + 1, none⟩ = some (.int .u32 a1) := by have := hc1 k x hx 1 _ rfl; rw [ha1]; simpa [Nat.add_assoc] using this
        have p2 : wr.cell? ⟨b1, o1 + k * 3 + 2, none⟩ = some (.slice A1 k1 c1) := by have := hc1 k x hx 2 _ rfl; rw [hA1, hk1, hcp1]; simpa [Nat.add_assoc] using this
        have q0 : wr.cell? ⟨b2, o2 + k * 3, none⟩ = some (.int .u32 n2) := by have := hc2 k y hy 0 _ rfl; rw [hn2]; simpa [Nat.add_assoc] using this
        have q1 : wr.cell? ⟨b2, o2 + k * 3 + 1, none⟩ = some (.int .u32 a2) := by have := hc2 k y hy 1 _ rfl; rw [ha2]; simpa [Nat.add_assoc] using this
        have q2 : wr.cell? ⟨b2, o2 + k * 3 + 2, none⟩ = some (.slice A2 k2 c2) := by have := hc2 k y hy 2 _ rfl; rw [hA2, hk2, hcp2]; simpa [Nat.add_assoc] using this
        have HZx := Lib.hid (zip_at hx hy)
        have hxm := List.mem_of_getElem? hx
        have hym := List.mem_of_getElem? hy
        have Hp := Lib.hid (fun W (hW : Below wr.heap.size wr W) => sameRule_any x.m.num x.m.act y.m.num y.m.act x.m.conds y.m.conds x.A y.A x.m.conds.length y.m.conds.length x.cap y.cap W rfl rfl (HLA.out x hxm) (HLB.out y hym) (((HCA.out x hxm).below HB.out).below hW) (((HCB.out y hym).below HB.out).below hW))
        have Hp2 := Lib.hid (show ∀ W, Below wr.heap.size wr W → Calls Tryz.prog 40 #[.agg #[.int .u32 n1, .int .u32 a1, .slice A1 k1 c1], .agg #[.int .u32 n2, .int .u32 a2, .slice A2 k2 c2]] W (SamePost (eqR x.m y.m) W) by rw [hn1, hn2, ha1, ha2, hA1, hA2, hk1, hk2, hcp1, hcp2]; exact Hp.out)
        clear Hp hxm hym hc1 hc2 hx hy hn1 hn2 ha1 ha2 hA1 hA2 hk1 hk2 hcp1 hcp2
        have hp := Hp2.out
        clear Hp2
        go_upto_region 6 with fail
        refine wp_region_held_drew (S := (fun w' => (w'.cell? ⟨b1, o1 + k * 3, none⟩ = some (.int .u32 n1) ∧ w'.cell? ⟨b1, o1 + k * 3 + 1, none⟩ = some (.int .u32 a1) ∧ w'.cell? ⟨b1, o1 + k * 3 + 2, none⟩ = some (.slice A1 k1 c1) ∧ w'.cell? ⟨b2, o2 + k * 3, none⟩ = some (.int .u32 n2) ∧ w'.cell? ⟨b2, o2 + k * 3 + 1, none⟩ = some (.int .u32 a2) ∧ w'.cell? ⟨b2, o2 + k * 3 + 2, none⟩ = some (.slice A2 k2 c2)) ∧ Hid (Below wr.heap.size wr w'))) (by kernel_rfl) ?_ (fun hHeld0 => ?_)
        · exact ⟨⟨p0, p1, p2, q0, q1, q2⟩, Lib.hid (Below.refl wr.heap.size wr).drew⟩
        clear p0 p1 p2 q0 q1 q2
        refine wpAnyH_take (i := 0) (v := ?_) (by first | (simp only [List.getElem?_toArray, List.getElem?_cons_zero] <;> rfl) | rfl) (by kernel_rfl) (by kernel_rfl) (by kernel_rfl) (by exact fun _ _ _ h => h) (Or.inl ⟨by rfl, ?_⟩) hHeld0 ?_
        rotate_left 1
        · intro w hSw
          try dsimp only at hSw
          (go_simp) <;> (with_reducible rfl)
        try simp only [Act.put, List.setIfInBounds_toArray, List.set_cons_zero, List.set_cons_succ]
        refine wpAnyH_take (i := 1) (v := ?_) (by first | (simp only [List.getElem?_toArray, List.getElem?_cons_succ, List.getElem?_cons_zero] <;> rfl) | rfl) (by kernel_rfl) (by kernel_rfl) (by kernel_rfl) (by exact fun _ _ _ h => h) (Or.inl ⟨by rfl, ?_⟩) hHeld0 ?_
        rotate_left 1
        · intro w hSw
          try dsimp only at hSw
          (go_simp) <;> (with_reducible rfl)
        try simp only [Act.put, List.setIfInBounds_toArray, List.set_cons_zero, List.set_cons_succ]
        refine wpAnyH_take (i := 2) (v := ?_) (by first | (simp only [List.getElem?_toArray, List.getElem?_cons_succ, List.getElem?_cons_zero] <;> rfl) | rfl) (by kernel_rfl) (by kernel_rfl) (by kernel_rfl) (by exact fun _ _ _ h => h) (Or.inl ⟨by rfl, ?_⟩) hHeld0 ?_
        rotate_left 1
        · intro w hSw
          try dsimp only at hSw
          (go_simp) <;> (with_reducible rfl)
        try simp only [Act.put, List.setIfInBounds_toArray, List.set_cons_zero, List.set_cons_succ]
        refine wpAnyH_take (i := 3) (v := ?_) (by first | (simp only [List.getElem?_toArray, List.getElem?_cons_succ, List.getElem?_cons_zero] <;> rfl) | rfl) (by kernel_rfl) (by kernel_rfl) (by kernel_rfl) (by exact fun _ _ _ h => h) (Or.inl ⟨by rfl, ?_⟩) hHeld0 ?_
        rotate_left 1
        · intro w hSw
          try dsimp only at hSw
          (go_simp) <;> (with_reducible rfl)
        try simp only [Act.put, List.setIfInBounds_toArray, List.set_cons_zero, List.set_cons_succ]
        refine wpAnyH_take (i := 4) (v := ?_) (by first | (simp only [List.getElem?_toArray, List.getElem?_cons_succ, List.getElem?_cons_zero] <;> rfl) | rfl) (by kernel_rfl) (by kernel_rfl) (by kernel_rfl) (by exact fun _ _ _ h => h) (Or.inl ⟨by rfl, ?_⟩) hHeld0 ?_
        rotate_left 1
        · intro w hSw
          try dsimp only at hSw
          (go_simp) <;> (with_reducible rfl)
        try simp only [Act.put, List.setIfInBounds_toArray, List.set_cons_zero, List.set_cons_succ]
        refine wpAnyH_take (i := 5) (v := ?_) (by first | (simp only [List.getElem?_toArray, List.getElem?_cons_succ, List.getElem?_cons_zero] <;> rfl) | rfl) (by kernel_rfl) (by kernel_rfl) (by kernel_rfl) (by exact fun _ _ _ h => h) (Or.inl ⟨by rfl, ?_⟩) hHeld0 ?_
        rotate_left 1
        · intro w hSw
          try dsimp only at hSw
          (go_simp) <;> (with_reducible rfl)
        try simp only [Act.put, List.setIfInBounds_toArray, List.set_cons_zero, List.set_cons_succ]
        refine wpAnyH_take (i := 6) (v := ?_) (by first | (simp only [List.getElem?_toArray, List.getElem?_cons_succ, List.getElem?_cons_zero] <;> rfl) | rfl) (by kernel_rfl) (by kernel_rfl) (by kernel_rfl) (by exact fun _ _ _ h => h) (Or.inl ⟨by rfl, ?_⟩) hHeld0 ?_
        rotate_left 1
        · intro w hSw
          try dsimp only at hSw
          (go_simp) <;> (with_reducible rfl)
        try simp only [Act.put, List.setIfInBounds_toArray, List.set_cons_zero, List.set_cons_succ]
        refine wpAnyH_take (i := 7) (v := ?_) (by first | (simp only [List.getElem?_toArray, List.getElem?_cons_succ, List.getElem?_cons_zero] <;> rfl) | rfl) (by kernel_rfl) (by kernel_rfl) (by kernel_rfl) (by exact fun _ _ _ h => h) (Or.inl ⟨by rfl, ?_⟩) hHeld0 ?_
        rotate_left 1
        · intro w hSw
          try dsimp only at hSw
          (go_simp) <;> (with_reducible rfl)
        try simp only [Act.put, List.setIfInBounds_toArray, List.set_cons_zero, List.set_cons_succ]
        refine wpAnyH_take (i := 8) (v := ?_) (by first | (simp only [List.getElem?_toArray, List.getElem?_cons_succ, List.getElem?_cons_zero] <;> rfl) | rfl) (by kernel_rfl) (by kernel_rfl) (by kernel_rfl) (by exact fun _ _ _ h => h) (Or.inl ⟨by rfl, ?_⟩) hHeld0 ?_
        rotate_left 1
        · intro w hSw
          try dsimp only at hSw
          (go_simp) <;> (with_reducible rfl)
        try simp only [Act.put, List.setIfInBounds_toArray, List.set_cons_zero, List.set_cons_succ]
        refine wpAnyH_ready (rs := [9]) (by kernel_rfl) (by simp) ?_
        refine AllReadyH.cons (by first | (simp only [List.getElem?_toArray, List.getElem?_cons_succ, List.getElem?_cons_zero] <;> rfl) | rfl) (fun K hK => ?_) ?_
        · go_simp
          refine (hp _ hHeld0.2.out).mono ?_
          rintro e v ⟨rfl, hbb⟩
          refine hK.out _ _ ?_ (fun hHeld1 => ?_)
          · exact ⟨by obtain ⟨s0, s1, s2, s3, s4, s5⟩ := hHeld0.1; exact ⟨cell_below s0 hbb, cell_below s1 hbb, cell_below s2 hbb, cell_below s3 hbb, cell_below s4 hbb, cell_below s5 hbb⟩, hHeld0.2.out.trans (hbb.mono hHeld0.2.out.size)⟩
          clear hK K
          try simp only [Act.put, List.setIfInBounds_toArray, List.set_cons_zero, List.set_cons_succ]
          refine wpAnyH_take (i := 10) (v := ?_) (by first | (simp only [List.getElem?_toArray, List.getElem?_cons_succ, List.getElem?_cons_zero] <;> rfl) | rfl) (by kernel_rfl) (by kernel_rfl) (by kernel_rfl) (by exact fun _ _ _ h => h) (Or.inl ⟨by rfl, ?_⟩) hHeld1 ?_
          rotate_left 1
          · intro w hSw
            try dsimp only at hSw
            (go_simp) <;> (with_reducible rfl)
          try simp only [Act.put, List.setIfInBounds_toArray, List.set_cons_zero, List.set_cons_succ]
          refine wpAnyH_done (by kernel_rfl) ?_ _
          have HB2 := Lib.hid (HB.out.trans (hHeld1.2.out.mono HB.out.size))
          clear hHeld1 hp
          cases hz : eqR x.m y.m with
          | true =>
            have HK := Lib.hid (zipA_on HF.out HZx.out hz)
            clear hz
            go_wp2_with fail
            go_roundw
            case rel => exact ⟨k + 1, by go_num, by omega, HK, HB2⟩
            case measure => simp [intOf]; omega
          | false =>
            have HK := Lib.hid (HV.out.trans (zipA_bad HZx.out hz)).symm
            clear hz
            go_wp2_with fail
            go_ret
            exact ⟨by rw [← HK.out]; rfl, HB2.out⟩
        exact AllReadyH.nil
      · have HK := Lib.hid (HV.out.trans (zipA_end (by have := HZ.out; omega) HF.out)).symm
        go_wp2_with fail
        go_ret
        exact ⟨by rw [← HK.out]; rfl, HB.out⟩
  · have HK := Lib.hid (al_len (f := fun x y : RuleV => eqR x.m y.m) (a := a) (b := b) (by rw [HA.out, HBl.out]; exact hnm)).symm
    have e1 : ((n : Int) != (m : Int)) = true := by rw [bne_iff_ne]; omega
    clear hnm
    go_wp2_with fail
    go_ret
    exact ⟨by rw [← HK.out]; rfl, Below.refl _ _⟩
set_option maxHeartbeats 4000000 in
set_option maxRecDepth 100000 in
theorem same_any (n1 : Bs) (d1 h1 r1 s1 t1 cr1 cs1 ct1 : Nat) (A1 B1 C1 : Option Addr) (R1 : List RuleV) (P1 : List (Bs × Nat)) (Q1 : List (Nat × Nat)) (n2 : Bs) (d2 h2 r2 s2 t2 cr2 cs2 ct2 : Nat) (A2 B2 C2 : Option Addr) (R2 : List RuleV) (P2 : List (Bs × Nat)) (Q2 : List (Nat × Nat)) (w : World) (lr1 : R1.length = r1) (ls1 : P1.length = s1) (lt1 : Q1.length = t1) (ok1 : PolM.ok ⟨n1, d1, R1.map RuleV.m, h1, P1, Q1⟩) (rd1 : Reads w ⟨n1, d1, R1, A1, cr1, h1, P1, B1, cs1, Q1, C1, ct1⟩) (lr2 : R2.length = r2) (ls2 : P2.length = s2) (lt2 : Q2.length = t2) (ok2 : PolM.ok ⟨n2, d2, R2.map RuleV.m, h2, P2, Q2⟩) (rd2 : Reads w ⟨n2, d2, R2, A2, cr2, h2, P2, B2, cs2, Q2, C2, ct2⟩) :
    Calls Tryz.prog 15 #[.agg #[.string ⟨n1.toArray⟩, .int .u32 d1, .slice A1 r1 cr1, .int .u16 h1, .slice B1 s1 cs1, .slice C1 t1 ct1], .agg #[.string ⟨n2.toArray⟩, .int .u32 d2, .slice A2 r2 cr2, .int .u16 h2, .slice B2 s2 cs2, .slice C2 t2 ct2]] w (SamePost (sameB ⟨n1, d1, R1.map RuleV.m, h1, P1, Q1⟩ ⟨n2, d2, R2.map RuleV.m, h2, P2, Q2⟩) w) := by
  obtain ⟨hk1, hk2, hb⟩ := two_newS w #[.string ⟨n1.toArray⟩, .int .u32 d1, .slice A1 r1 cr1, .int .u16 h1, .slice B1 s1 cs1, .slice C1 t1 ct1] #[.string ⟨n2.toArray⟩, .int .u32 d2, .slice A2 r2 cr2, .int .u16 h2, .slice B2 s2 cs2, .slice C2 t2 ct2] 35 35 (la := [.string ⟨n1.toArray⟩, .int .u32 d1, .slice A1 r1 cr1, .int .u16 h1, .slice B1 s1 cs1, .slice C1 t1 ct1]) (lb := [.string ⟨n2.toArray⟩, .int .u32 d2, .slice A2 r2 cr2, .int .u16 h2, .slice B2 s2 cs2, .slice C2 t2 ct2]) rfl rfl
  have er1 : R1.length ≤ maxLen := by have := ok1.rules; simpa using this
  have eo1 : ∀ r ∈ R1, r.m.conds.length ≤ maxLen := fun r hr => (ok1.each r.m (List.mem_map_of_mem hr)).2.2.1
  have er2 : R2.length ≤ maxLen := by have := ok2.rules; simpa using this
  have eo2 : ∀ r ∈ R2, r.m.conds.length ≤ maxLen := fun r hr => (ok2.each r.m (List.mem_map_of_mem hr)).2.2.1
  have HAR := Lib.hid (fun W (hW : Below w.heap.size w W) => alikeRule_any R1 R2 A1 A2 r1 r2 cr1 cr2 W lr1 lr2 (lr1 ▸ er1) (lr2 ▸ er2) (by have := rd1.rules; rw [lr1] at this; exact this.below hW) (by have := rd2.rules; rw [lr2] at this; exact this.below hW) (fun r hr => (rd1.conds r hr).below hW) (fun r hr => (rd2.conds r hr).below hW) eo1 eo2)
  have HAP := Lib.hid (fun W (hW : Below w.heap.size w W) => alikePath_any P1 P2 B1 B2 s1 s2 cs1 cs2 W ls1 ls2 (ls1 ▸ ok1.paths) (ls2 ▸ ok2.paths) (by have := rd1.paths; rw [ls1] at this; exact this.below hW) (by have := rd2.paths; rw [ls2] at this; exact this.below hW))
  have HAQ := Lib.hid (fun W (hW : Below w.heap.size w W) => alikePort_any Q1 Q2 C1 C2 t1 t2 ct1 ct2 W lt1 lt2 (lt1 ▸ ok1.ports) (lt2 ▸ ok2.ports) (by have := rd1.ports; rw [lt1] at this; exact this.below hW) (by have := rd2.ports; rw [lt2] at this; exact this.below hW))
  clear rd1 rd2 ok1 ok2 er1 er2 eo1 eo2 lr1 lr2 ls1 ls2 lt1 lt2
  go_enter Tryz.func15, Tryz.ntmps15
  go_upto_region 1 with fail
  generalize (w.alloc _).alloc _ = w2 at hk1 hk2 hb ⊢
  have p0 := hk1.cell 0 rfl
  have q0 := hk2.cell 0 rfl
  have p1 := hk1.cell 1 rfl
  have q1 := hk2.cell 1 rfl
  have p2 := hk1.cell 2 rfl
  have q2 := hk2.cell 2 rfl
  have p3 := hk1.cell 3 rfl
  have q3 := hk2.cell 3 rfl
  have p4 := hk1.cell 4 rfl
  have q4 := hk2.cell 4 rfl
  have p5 := hk1.cell 5 rfl
  have q5 := hk2.cell 5 rfl
  have hl1 := hk1.lt
  have hl2 := hk2.lt
  have HK1 := Lib.hid hk1
  have HK2 := Lib.hid hk2
  have HB := Lib.hid hb
  clear hk1 hk2 hb
  by_cases e0 : n1 = n2
  · subst e0
    have eb0 := beqS n1 n1
    rw [decide_eq_true rfl] at eb0
    by_cases e1 : d1 = d2
    · subst e1
      have eb1 := beq_tN d1
      by_cases e2 : h1 = h2
      · subst e2
        have eb2 := beq_tN h1
        go_wp2_with fail
        refine (HAR.out _ HB.out).mono ?_
        clear HAR p0 p1 p2 p3 p4 p5 q0 q1 q2 q3 q4 q5
        rintro e w3 ⟨rfl, hb3⟩
        have HB3 := Lib.hid (HB.out.trans (hb3.mono HB.out.size))
        have p4 := (HK1.out.kept hb3).cell 4 rfl
        have q4 := (HK2.out.kept hb3).cell 4 rfl
        have p5 := (HK1.out.kept hb3).cell 5 rfl
        have q5 := (HK2.out.kept hb3).cell 5 rfl
        have hl1 := (HK1.out.kept hb3).lt
        have hl2 := (HK2.out.kept hb3).lt
        have HK1 := Lib.hid (HK1.out.kept hb3)
        have HK2 := Lib.hid (HK2.out.kept hb3)
        clear hb3
        cases hz : alB (fun x y : RuleV => eqR x.m y.m) R1 R2 with
        | false =>
          rw [map_alB eqR RuleV.m] at hz
          have HV := Lib.hid (show false = sameB ⟨n1, d1, R1.map RuleV.m, h1, P1, Q1⟩ ⟨n1, d1, R2.map RuleV.m, h1, P2, Q2⟩ by simp [sameB, hz])
          clear hz p4 p5 q4 q5
          go_wp2_with fail
          go_ret
          exact same_post HV.out rfl HB3.out
        | true =>
          rw [map_alB eqR RuleV.m] at hz
          have HZ1 := Lib.hid hz
          clear hz
          go_wp2_with fail
          refine (HAP.out _ HB3.out).mono ?_
          clear HAP p4 p5 q4 q5
          rintro e w4 ⟨rfl, hb4⟩
          have HB4 := Lib.hid (HB3.out.trans (hb4.mono HB3.out.size))
          have p5 := (HK1.out.kept hb4).cell 5 rfl
          have q5 := (HK2.out.kept hb4).cell 5 rfl
          have hl1 := (HK1.out.kept hb4).lt
          have hl2 := (HK2.out.kept hb4).lt
          clear hb4
          cases hz : alB eqT P1 P2 with
          | false =>
            have HV := Lib.hid (show false = sameB ⟨n1, d1, R1.map RuleV.m, h1, P1, Q1⟩ ⟨n1, d1, R2.map RuleV.m, h1, P2, Q2⟩ by simp [sameB, hz, HZ1.out])
            clear hz p5 q5
            go_wp2_with fail
            go_ret
            exact same_post HV.out rfl HB4.out
          | true =>
            have HZ2 := Lib.hid hz
            clear hz
            go_wp2_with fail
            refine (HAQ.out _ HB4.out).mono ?_
            clear HAQ p5 q5
            rintro e w5 ⟨rfl, hb5⟩
            have HB5 := Lib.hid (HB4.out.trans (hb5.mono HB4.out.size))
            clear hb5
            have HV := Lib.hid (show alB eqP Q1 Q2 = sameB ⟨n1, d1, R1.map RuleV.m, h1, P1, Q1⟩ ⟨n1, d1, R2.map RuleV.m, h1, P2, Q2⟩ by simp [sameB, HZ1.out, HZ2.out])
            generalize alB eqP Q1 Q2 = bq at HV ⊢
            cases bq with
            | true =>
              go_wp2_with fail
              go_ret
              exact same_post HV.out rfl HB5.out
            | false =>
              go_wp2_with fail
              go_ret
              exact same_post HV.out rfl HB5.out
      · have eb2 := beq_fN e2
        have HV := Lib.hid (show false = sameB ⟨n1, d1, R1.map RuleV.m, h1, P1, Q1⟩ ⟨n1, d1, R2.map RuleV.m, h2, P2, Q2⟩ by simp [sameB, e2])
        clear e2
        go_wp2_with fail
        go_ret
        exact same_post HV.out rfl HB.out
    · have eb1 := beq_fN e1
      have HV := Lib.hid (show false = sameB ⟨n1, d1, R1.map RuleV.m, h1, P1, Q1⟩ ⟨n1, d2, R2.map RuleV.m, h2, P2, Q2⟩ by simp [sameB, e1])
      clear e1
      go_wp2_with fail
      go_ret
      exact same_post HV.out rfl HB.out
  · have eb0 := beqS n1 n2
    rw [decide_eq_false e0] at eb0
    obtain ⟨z1, hz1⟩ : ∃ z, z = (⟨n1.toArray⟩ : ByteArray) := ⟨_, rfl⟩
    obtain ⟨z2, hz2⟩ : ∃ z, z = (⟨n2.toArray⟩ : ByteArray) := ⟨_, rfl⟩
    rw [← hz1, ← hz2] at eb0
    rw [← hz1] at p0
    rw [← hz2] at q0
    rw [← hz1, ← hz2]
    clear hz1 hz2
    have HV := Lib.hid (show false = sameB ⟨n1, d1, R1.map RuleV.m, h1, P1, Q1⟩ ⟨n2, d2, R2.map RuleV.m, h2, P2, Q2⟩ by simp [sameB, e0])
    clear e0
    go_wp2_with fail
    go_ret
    exact same_post HV.out rfl HB.out
end Go.Proofs.YtinofjbnfmalkaaGreatDoor.Tx
