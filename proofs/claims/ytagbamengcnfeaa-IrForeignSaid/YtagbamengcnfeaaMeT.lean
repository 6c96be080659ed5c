/- What a policy says of a call: the program's way and the document's. -/
import Derived.Test.YtagbamengcnfeaaMeS
namespace Go.Proofs.Ytagbamengcnfeaa.Me
open Go.RowKit Go.WideElems
def saysR (d : Nat) (ms : List RuleM) (x : RcM) : Nat := if x.arch = 3221225534 then bestA d (bestL x 0 ms none) else 2147483648
theorem says_eq (p : PolM) (x : RcM) : saysB p x = saysR p.dflt p.rules x := rfl
def RetU (n : Nat) (w : World) (e : Ending) (w' : World) : Prop := e = .returned (.int .u32 n) ∧ Below w.heap.size w w'
theorem retu {n k : Nat} {w w' : World} {e : Ending} (h : n = k) (he : e = .returned (.int .u32 k)) (hb : Below w.heap.size w w') : RetU n w e w' := by subst h; exact ⟨he, hb⟩
theorem best_ok (ms : List RuleM) (x : RcM) : BOk ms ms.length (bestL x 0 ms none) := by
  have key : ∀ (l : List RuleM) (k : Nat) (b : Option (Nat × Nat)), (∀ i, l[i]? = ms[k + i]?) → BOk ms k b → BOk ms (k + l.length) (bestL x k l b) := by
    intro l
    induction l with
    | nil => intro k b _ hb; exact hb
    | cons r l ih =>
      intro k b hl hb
      have h0 : ms[k]? = some r := (hl 0).symm
      have := ih (k + 1) (stepB x k r b) (fun i => by have := hl (i + 1); rw [show k + 1 + i = k + (i + 1) by omega, ← this]; rfl) (hb.step h0 x)
      rw [List.length_cons, show k + (l.length + 1) = k + 1 + l.length by omega]
      exact this
  have := key ms 0 none (fun i => by rw [Nat.zero_add]) (BOk.nil ms)
  rwa [Nat.zero_add] at this
set_option maxHeartbeats 4000000 in
set_option maxRecDepth 100000 in
theorem says_any (nm : ByteArray) (d : Nat) (rules : List RuleV) (RA : Option Addr) (nR Rc hd : Nat) (PA : Option Addr) (nP Pc : Nat) (QA : Option Addr) (nQ Qc : Nat) (x : RcM) (w : World) (hn : rules.length = nR) (hl : nR ≤ 1000) (hR : RRd w rules RA) (hx : x.ok) :
    Calls Try.prog 19 #[.agg #[.string nm, .int .u32 d, .slice RA nR Rc, .int .u16 hd, .slice PA nP Pc, .slice QA nQ Qc], .agg #[.int .u32 x.num, .int .u32 x.arch, .int .u64 x.at_, .int .u64 x.a0, .int .u64 x.a1, .int .u64 x.a2, .int .u64 x.a3, .int .u64 x.a4, .int .u64 x.a5]] w (RetU (saysR d (rules.map RuleV.m) x) w) := by
  obtain ⟨hk1, hk2, hb⟩ := two_new w #[.string nm, .int .u32 d, .slice RA nR Rc, .int .u16 hd, .slice PA nP Pc, .slice QA nQ Qc] #[.int .u32 x.num, .int .u32 x.arch, .int .u64 x.at_, .int .u64 x.a0, .int .u64 x.a1, .int .u64 x.a2, .int .u64 x.a3, .int .u64 x.a4, .int .u64 x.a5] 43 33 (la := [.string nm, .int .u32 d, .slice RA nR Rc, .int .u16 hd, .slice PA nP Pc, .slice QA nQ Qc]) (lb := x.cells) rfl rfl
  obtain ⟨ms, hms⟩ : ∃ ms, ms = rules.map RuleV.m := ⟨_, rfl⟩
  have HS := Lib.hid (fun W (h : Below w.heap.size w W) => speaks_any nm d rules RA nR Rc hd PA nP Pc QA nQ Qc x W hn hl (hR.below h) hx)
  rw [← hms] at HS ⊢
  have HR := Lib.hid (hR.below hb)
  have Hms := Lib.hid hms
  have HN := Lib.hid hn
  clear hR hms hn hx
  go_enter Try.func19, Try.ntmps19
  go_upto_region 1 with fail
  generalize (w.alloc _).alloc _ = w2 at hk1 hk2 hb HR ⊢
  have HB0 := Lib.hid hb
  have hlt1 := hk1.lt
  have hlt2 := hk2.lt
  have HK1 := Lib.hid hk1
  have HK2 := Lib.hid hk2
  have q0 := hk1.cell 0 rfl
  have q1 := hk1.cell 1 rfl
  have q2 := hk1.cell 2 rfl
  have q3 := hk1.cell 3 rfl
  have q4 := hk1.cell 4 rfl
  have q5 := hk1.cell 5 rfl
  have y0 := hk2.cell 0 rfl
  have y1 := hk2.cell 1 rfl
  have y2 := hk2.cell 2 rfl
  have y3 := hk2.cell 3 rfl
  have y4 := hk2.cell 4 rfl
  have y5 := hk2.cell 5 rfl
  have y6 := hk2.cell 6 rfl
  have y7 := hk2.cell 7 rfl
  have y8 := hk2.cell 8 rfl
  clear hk1 hk2 hb
  by_cases ha : x.arch = 3221225534
  · have HV := Lib.hid (show saysR d ms x = bestA d (bestL x 0 ms none) by unfold saysR; rw [if_pos ha])
    have e1 : ((x.arch : Int) != 3221225534) = false := by rw [ha]; decide
    clear ha
    go_wp2_with fail
    refine (HS.out _ HB0.out).mono ?_
    clear HS e1 q0 q1 q2 q3 q4 q5 y0 y1 y2 y3 y4 y5 y6 y7 y8
    rintro e w3 ⟨⟨A, c, rfl, -⟩, hb3⟩
    have HB3 := Lib.hid (HB0.out.trans (hb3.mono HB0.out.size))
    have p1 := (HK1.out.kept hb3).cell 1 rfl
    have p2 := (HK1.out.kept hb3).cell 2 rfl
    have pl := (HK1.out.kept hb3).lt
    have HR3 := Lib.hid (HR.out.below hb3)
    have HBo := Lib.hid (best_ok ms x)
    clear hb3
    obtain ⟨b, hbe⟩ : ∃ b, b = bestL x 0 ms none := ⟨_, rfl⟩
    rw [← hbe] at HV HBo ⊢
    clear hbe
    cases b with
    | none =>
      unfold bestI
      go_wp2_with fail
      go_ret
      exact retu HV.out rfl HB3.out
    | some y =>
      obtain ⟨i, a⟩ := y
      obtain ⟨hik, ri, hri, hra⟩ := HBo.out (i, a) rfl
      simp only at hik hri hra
      have hin : i < nR := by rw [Hms.out, List.length_map, HN.out] at hik; exact hik
      obtain ⟨rv, hrv, hrm⟩ : ∃ rv, rules[i]? = some rv ∧ rv.m = ri := by rw [Hms.out, List.getElem?_map] at hri; obtain ⟨rv, h1, h2⟩ := Option.map_eq_some_iff.1 hri; exact ⟨rv, h1, h2⟩
      have hrd := HR3.out.r
      simp only [HN.out] at hrd
      obtain ⟨b2, o2, hA2, _, hc2⟩ := hrd.one (fun _ => rfl) (by omega) (by omega)
      subst hA2
      have p3 := (rule_cells hc2 hrv).2.1
      rw [hrm, hra] at p3
      clear hrd hc2 hrv hrm hri hra hik
      unfold bestI
      go_wp2_with fail
      go_ret
      exact retu HV.out rfl HB3.out
  · have HV := Lib.hid (show saysR d ms x = 2147483648 by unfold saysR; rw [if_neg ha])
    have e1 : ((x.arch : Int) != 3221225534) = true := by rw [bne_iff_ne]; omega
    clear ha
    go_wp2_with fail
    go_ret
    exact retu HV.out rfl HB0.out
/-- Rules in memory, as the document has them. -/
structure RRr (w : World) (rules : List RuleV) (A : Option Addr) : Prop where
  r : Rd w 3 rules.length A (rules.flatMap RuleV.cells)
  c : ∀ x ∈ rules, Rd w 4 x.m.conds.length x.A (x.m.conds.flatMap CondM.rcells)
  ok : ∀ x ∈ rules, x.m.ok
theorem RRr.below {w w' : World} {rules : List RuleV} {A : Option Addr} (h : RRr w rules A) (hb : Below w.heap.size w w') : RRr w' rules A := ⟨h.r.below hb, fun x hx => (h.c x hx).below hb, h.ok⟩
theorem ref_found {x : RcM} {ms : List RuleM} {s : Nat} {r : RuleM} (d : Nat) (h1 : ∀ t : Nat, (s : Int) < t → t ≤ 3 → firstS x t ms = none) (h2 : firstS x s ms = some r) : bestA d (bestL x 0 ms none) = r.act := by
  cases hb : bestL x 0 ms none with
  | none =>
    have := first_above x ⟨[], 0, ms, 0, [], []⟩ (s := s) (fun a ha => by rw [hb] at ha; cases ha)
    rw [h2] at this; cases this
  | some y =>
    obtain ⟨r', hr, ha⟩ := first_at x ⟨[], 0, ms, 0, [], []⟩ hb
    have hle := Rec.strN_le y.2
    by_cases hs : Rec.strN y.2 = s
    · rw [hs, h2] at hr
      cases hr
      exact ha.symm
    · by_cases hlt : s < Rec.strN y.2
      · rw [h1 _ (by omega) hle] at hr; cases hr
      · have := first_above x ⟨[], 0, ms, 0, [], []⟩ (s := s) (fun a ha => by rw [hb] at ha; cases ha; omega)
        rw [h2] at this; cases this
theorem ref_none {x : RcM} {ms : List RuleM} (d : Nat) (h1 : ∀ t : Nat, (-1 : Int) < t → t ≤ 3 → firstS x t ms = none) : bestA d (bestL x 0 ms none) = d := by
  cases hb : bestL x 0 ms none with
  | none => rfl
  | some y =>
    obtain ⟨r', hr, ha⟩ := first_at x ⟨[], 0, ms, 0, [], []⟩ hb
    rw [h1 _ (by omega) (Rec.strN_le y.2)] at hr; cases hr
theorem firstS_on {x : RcM} {ms : List RuleM} {s i : Nat} {r : RuleM} (h : firstS x s (ms.take i) = none) (hr : ms[i]? = some r) (hb : ¬ (Rec.strN r.act = s ∧ matB r x = true)) : firstS x s (ms.take (i + 1)) = none := by
  unfold firstS at h ⊢
  rw [List.take_add_one, hr, Option.toList_some, List.find?_append, h, Option.none_or]
  rw [List.find?_cons_of_neg (by simp only [Bool.and_eq_true, decide_eq_true_eq]; exact hb)]; rfl
theorem firstS_hit {x : RcM} {ms : List RuleM} {s i : Nat} {r : RuleM} (h : firstS x s (ms.take i) = none) (hr : ms[i]? = some r) (hs : Rec.strN r.act = s) (hm : matB r x = true) : firstS x s ms = some r := by
  unfold firstS at h ⊢
  obtain ⟨h1, h2⟩ := List.getElem?_eq_some_iff.1 hr
  rw [← List.take_append_drop i ms, List.find?_append, h, Option.none_or, List.drop_eq_getElem_cons h1, h2, List.find?_cons_of_pos (by simp [hs, hm])]
theorem firstS_all {x : RcM} {ms : List RuleM} {s i : Nat} (h : firstS x s (ms.take i) = none) (hi : ms.length ≤ i) : firstS x s ms = none := by
  rwa [List.take_of_length_le hi] at h
theorem firstS_next {x : RcM} {ms : List RuleM} {s : Nat} (h1 : ∀ t : Nat, (s : Int) < t → t ≤ 3 → firstS x t ms = none) (h2 : firstS x s ms = none) : ∀ t : Nat, ((s : Int) - 1) < t → t ≤ 3 → firstS x t ms = none := by
  intro t ht h3
  by_cases hs : t = s
  · subst hs; exact h2
  · exact h1 t (by omega) h3
set_option maxHeartbeats 8000000 in
set_option maxRecDepth 100000 in
theorem refSays_any (nm : ByteArray) (d : Nat) (rules : List RuleV) (RA : Option Addr) (nR Rc hd : Nat) (PA : Option Addr) (nP Pc : Nat) (QA : Option Addr) (nQ Qc : Nat) (x : RcM) (w : World) (hn : rules.length = nR) (hl : nR ≤ 1000) (hR : RRr w rules RA) (hx : x.ok) :
    Calls Try.prog 37 #[.agg #[.string nm, .int .u32 d, .slice RA nR Rc, .int .i64 hd, .slice PA nP Pc, .slice QA nQ Qc], .agg #[.int .u32 x.num, .int .u32 x.arch, .int .u64 x.a0, .int .u64 x.a1, .int .u64 x.a2, .int .u64 x.a3, .int .u64 x.a4, .int .u64 x.a5]] w (RetU (saysR d (rules.map RuleV.m) x) w) := by
  obtain ⟨hk1, hk2, hb⟩ := two_new w #[.string nm, .int .u32 d, .slice RA nR Rc, .int .i64 hd, .slice PA nP Pc, .slice QA nQ Qc] #[.int .u32 x.num, .int .u32 x.arch, .int .u64 x.a0, .int .u64 x.a1, .int .u64 x.a2, .int .u64 x.a3, .int .u64 x.a4, .int .u64 x.a5] 49 56 (la := [.string nm, .int .u32 d, .slice RA nR Rc, .int .i64 hd, .slice PA nP Pc, .slice QA nQ Qc]) (lb := x.seen) rfl rfl
  obtain ⟨ms, hms⟩ : ∃ ms, ms = rules.map RuleV.m := ⟨_, rfl⟩
  rw [← hms]
  have HR := Lib.hid (hR.below hb)
  have Hms := Lib.hid hms
  have HN := Lib.hid hn
  have HL := Lib.hid (show ms.length = nR by rw [hms, List.length_map, hn])
  have HX := Lib.hid hx
  clear hR hms hn hx
  go_enter Try.func37, Try.ntmps37
  go_upto_region 1 with fail
  generalize (w.alloc _).alloc _ = w2 at hk1 hk2 hb HR ⊢
  have HB0 := Lib.hid hb
  have hlt1 := hk1.lt
  have hlt2 := hk2.lt
  have HK1 := Lib.hid hk1
  have HK2 := Lib.hid hk2
  have y1 := hk2.cell 1 rfl
  clear hk1 hk2 hb
  by_cases ha : x.arch = 3221225534
  · have HV := Lib.hid (show saysR d ms x = bestA d (bestL x 0 ms none) by unfold saysR; rw [if_pos ha])
    have e1 : ((x.arch : Int) != 3221225534) = false := by rw [ha]; decide
    clear ha
    go_wp2_with fail
    clear e1 y1
    go_loopw [5] (fun sv wr => ∃ s : Int, sv = .int .i64 s ∧ -1 ≤ s ∧ s ≤ 3 ∧ Hid (∀ t : Nat, s < t → t ≤ 3 → firstS x t ms = none) ∧ Hid (Below w2.heap.size w2 wr)) (fun sv _ => (intOf sv + 1).toNat)
    case atStart => exact ⟨3, rfl, by omega, by omega, Lib.hid (fun t h1 h2 => by omega), Below.refl _ _⟩
    case round =>
      obtain ⟨s, rfl, hs1, hs3, HT, HB⟩ := hrel
      rename World => wo
      by_cases h0 : 0 ≤ s
      · obtain ⟨t, rfl⟩ : ∃ t : Nat, s = t := ⟨s.toNat, by omega⟩
        have hlo := HB.out.size
        go_wp2_with fail
        have HBo := Lib.hid HB.out
        clear HB
        go_loopw [6] (fun iv wr => ∃ i : Nat, iv = .int .i64 i ∧ i ≤ nR ∧ Hid (firstS x t (ms.take i) = none) ∧ Hid (Below w2.heap.size w2 wr)) (fun iv _ => nR - (intOf iv).toNat)
        case atStart => exact ⟨0, rfl, Nat.zero_le _, Lib.hid rfl, HBo⟩
        case round =>
          obtain ⟨i, rfl, hi, HF, HB⟩ := hrel
          have hsz := HB.out.size
          have hlw1 := Nat.lt_of_lt_of_le hlt1 hsz
          have hlw2 := Nat.lt_of_lt_of_le hlt2 hsz
          have q2 := (HK1.out.kept HB.out).cell 2 rfl
          by_cases hlt : i < nR
          · obtain ⟨r, hr⟩ : ∃ r, rules[i]? = some r := ⟨_, List.getElem?_eq_getElem (by have := HN.out; omega)⟩
            have HRr := Lib.hid (HR.out.below HB.out)
            have hrd := HRr.out.r
            simp only [HN.out] at hrd
            obtain ⟨bb, ob, hA, hbl, hcell⟩ := hrd.one (fun _ => rfl) (by omega) (by omega)
            subst hA
            obtain ⟨c0, c1, c2⟩ := rule_cells hcell hr
            have hmem := List.mem_of_getElem? hr
            have HMk := Lib.hid (show ms[i]? = some r.m by rw [Hms.out, List.getElem?_map, hr]; rfl)
            have hcr := HRr.out.c r hmem
            have HOr := Lib.hid (HRr.out.ok r hmem)
            clear hcell hrd hmem hr HRr
            obtain ⟨⟨num, act, cs⟩, A9, c9⟩ := r
            simp only at c0 c1 c2 hcr
            obtain ⟨nc, hnc⟩ : ∃ nc, nc = cs.length := ⟨_, rfl⟩
            rw [← hnc] at c2 hcr
            have HCr := Lib.hid hcr
            have HNc := Lib.hid hnc
            clear hnc hcr
            have hstr := Lib.hid (fun W => Rec.strength_any act W HOr.out.2.1)
            have hmt := Lib.hid (fun W h => refMatches_any num act cs A9 nc c9 x W HOr.out.2.2.2 HNc.out.symm (by have := HOr.out.2.2.1; rw [HNc.out]; exact this) h HX.out)
            have i0 : (0 : Int) ≤ (i : Int) := by omega
            have i1 : (i : Int) < (nR : Int) := by omega
            by_cases hst : Rec.strN act = t
            · have HST := Lib.hid hst
              rw [hst] at hstr
              clear hst
              have et : ((t : Int) == (t : Int)) = true := by simp
              have y0 := (HK2.out.kept HB.out).cell 0 rfl
              have y1 := (HK2.out.kept HB.out).cell 1 rfl
              have y2 := (HK2.out.kept HB.out).cell 2 rfl
              have y3 := (HK2.out.kept HB.out).cell 3 rfl
              have y4 := (HK2.out.kept HB.out).cell 4 rfl
              have y5 := (HK2.out.kept HB.out).cell 5 rfl
              have y6 := (HK2.out.kept HB.out).cell 6 rfl
              have y7 := (HK2.out.kept HB.out).cell 7 rfl
              go_upto_region 9 with fail
              refine wp_region_held_drew (S := (fun w' => (w'.cell? ⟨w.heap.size, 2, none⟩ = some (.slice (some ⟨bb, ob, none⟩) nR Rc) ∧ w'.cell? ⟨bb, ob + i * 3, none⟩ = some (.int .u32 num) ∧ w'.cell? ⟨bb, ob + i * 3 + 1, none⟩ = some (.int .u32 act) ∧ w'.cell? ⟨bb, ob + i * 3 + 2, none⟩ = some (.slice A9 nc c9) ∧ w'.cell? ⟨w.heap.size + 1, 0, none⟩ = some (.int .u32 x.num) ∧ w'.cell? ⟨w.heap.size + 1, 1, none⟩ = some (.int .u32 x.arch) ∧ w'.cell? ⟨w.heap.size + 1, 2, none⟩ = some (.int .u64 x.a0) ∧ w'.cell? ⟨w.heap.size + 1, 3, none⟩ = some (.int .u64 x.a1) ∧ w'.cell? ⟨w.heap.size + 1, 4, none⟩ = some (.int .u64 x.a2) ∧ w'.cell? ⟨w.heap.size + 1, 5, none⟩ = some (.int .u64 x.a3) ∧ w'.cell? ⟨w.heap.size + 1, 6, none⟩ = some (.int .u64 x.a4) ∧ w'.cell? ⟨w.heap.size + 1, 7, none⟩ = some (.int .u64 x.a5)) ∧ Hid (Below wr.heap.size wr w'))) (by kernel_rfl) ?_ (fun hHeld0 => ?_)
              · exact ⟨⟨q2, c0, c1, c2, y0, y1, y2, y3, y4, y5, y6, y7⟩, Lib.hid (Below.refl wr.heap.size wr).drew⟩
              clear q2 c0 c1 c2 y0 y1 y2 y3 y4 y5 y6 y7
              refine wpAnyH_take (i := 0) (v := ?_) (by first | (simp only [List.getElem?_toArray, List.getElem?_cons_zero] <;> rfl) | rfl) (by kernel_rfl) (by kernel_rfl) (by kernel_rfl) (by exact fun _ _ _ h => h) (Or.inl ⟨by rfl, ?_⟩) hHeld0 ?_
              rotate_left 1
              · intro w hSw
                try dsimp only at hSw
                (go_simp) <;> (with_reducible rfl)
              try simp only [Act.put, List.setIfInBounds_toArray, List.set_cons_zero, List.set_cons_succ]
              refine wpAnyH_take (i := 1) (v := ?_) (by first | (simp only [List.getElem?_toArray, List.getElem?_cons_succ, List.getElem?_cons_zero] <;> rfl) | rfl) (by kernel_rfl) (by kernel_rfl) (by kernel_rfl) (by exact fun _ _ _ h => h) (Or.inl ⟨by rfl, ?_⟩) hHeld0 ?_
              rotate_left 1
              · intro w hSw
                try dsimp only at hSw
                (go_simp) <;> (with_reducible rfl)
              try simp only [Act.put, List.setIfInBounds_toArray, List.set_cons_zero, List.set_cons_succ]
              refine wpAnyH_take (i := 2) (v := ?_) (by first | (simp only [List.getElem?_toArray, List.getElem?_cons_succ, List.getElem?_cons_zero] <;> rfl) | rfl) (by kernel_rfl) (by kernel_rfl) (by kernel_rfl) (by exact fun _ _ _ h => h) (Or.inl ⟨by rfl, ?_⟩) hHeld0 ?_
              rotate_left 1
              · intro w hSw
                try dsimp only at hSw
                (go_simp) <;> (with_reducible rfl)
              try simp only [Act.put, List.setIfInBounds_toArray, List.set_cons_zero, List.set_cons_succ]
              refine wpAnyH_take (i := 3) (v := ?_) (by first | (simp only [List.getElem?_toArray, List.getElem?_cons_succ, List.getElem?_cons_zero] <;> rfl) | rfl) (by kernel_rfl) (by kernel_rfl) (by kernel_rfl) (by exact fun _ _ _ h => h) (Or.inl ⟨by rfl, ?_⟩) hHeld0 ?_
              rotate_left 1
              · intro w hSw
                try dsimp only at hSw
                (go_simp) <;> (with_reducible rfl)
              try simp only [Act.put, List.setIfInBounds_toArray, List.set_cons_zero, List.set_cons_succ]
              refine wpAnyH_take (i := 4) (v := ?_) (by first | (simp only [List.getElem?_toArray, List.getElem?_cons_succ, List.getElem?_cons_zero] <;> rfl) | rfl) (by kernel_rfl) (by kernel_rfl) (by kernel_rfl) (by exact fun _ _ _ h => h) (Or.inl ⟨by rfl, ?_⟩) hHeld0 ?_
              rotate_left 1
              · intro w hSw
                try dsimp only at hSw
                (go_simp) <;> (with_reducible rfl)
              try simp only [Act.put, List.setIfInBounds_toArray, List.set_cons_zero, List.set_cons_succ]
              refine wpAnyH_take (i := 5) (v := ?_) (by first | (simp only [List.getElem?_toArray, List.getElem?_cons_succ, List.getElem?_cons_zero] <;> rfl) | rfl) (by kernel_rfl) (by kernel_rfl) (by kernel_rfl) (by exact fun _ _ _ h => h) (Or.inl ⟨by rfl, ?_⟩) hHeld0 ?_
              rotate_left 1
              · intro w hSw
                try dsimp only at hSw
                (go_simp) <;> (with_reducible rfl)
              try simp only [Act.put, List.setIfInBounds_toArray, List.set_cons_zero, List.set_cons_succ]
              refine wpAnyH_take (i := 7) (v := ?_) (by first | (simp only [List.getElem?_toArray, List.getElem?_cons_succ, List.getElem?_cons_zero] <;> rfl) | rfl) (by kernel_rfl) (by kernel_rfl) (by kernel_rfl) (by exact fun _ _ _ h => h) (Or.inl ⟨by rfl, ?_⟩) hHeld0 ?_
              rotate_left 1
              · intro w hSw
                try dsimp only at hSw
                (go_simp) <;> (with_reducible rfl)
              try simp only [Act.put, List.setIfInBounds_toArray, List.set_cons_zero, List.set_cons_succ]
              refine wpAnyH_ready (rs := [6]) (by kernel_rfl) (by simp) ?_
              refine AllReadyH.cons (by first | (simp only [List.getElem?_toArray, List.getElem?_cons_succ, List.getElem?_cons_zero] <;> rfl) | rfl) (fun K hK => ?_) ?_
              · go_simp
                refine (hstr.out _).mono ?_
                rintro e v ⟨rfl, rfl⟩
                refine hK.out _ _ ?_ (fun hHeld1 => ?_)
                · exact hHeld0
                clear hK K
                try simp only [Act.put, List.setIfInBounds_toArray, List.set_cons_zero, List.set_cons_succ]
                refine wpAnyH_take (i := 8) (v := ?_) (by first | (simp only [List.getElem?_toArray, List.getElem?_cons_succ, List.getElem?_cons_zero] <;> rfl) | rfl) (by kernel_rfl) (by kernel_rfl) (by kernel_rfl) (by exact fun _ _ _ h => h) (Or.inl ⟨by rfl, ?_⟩) hHeld1 ?_
                rotate_left 1
                · intro w hSw
                  try dsimp only at hSw
                  (go_simp) <;> (with_reducible rfl)
                try simp only [Act.put, List.setIfInBounds_toArray, List.set_cons_zero, List.set_cons_succ]
                refine wpAnyH_take (i := 9) (v := ?_) (by first | (simp only [List.getElem?_toArray, List.getElem?_cons_succ, List.getElem?_cons_zero] <;> rfl) | rfl) (by kernel_rfl) (by kernel_rfl) (by kernel_rfl) (by exact fun _ _ _ h => h) (Or.inl ⟨by rfl, ?_⟩) hHeld1 ?_
                rotate_left 1
                · intro w hSw
                  try dsimp only at hSw
                  (go_simp) <;> (with_reducible rfl)
                try simp only [Act.put, List.setIfInBounds_toArray, List.set_cons_zero, List.set_cons_succ]
                refine wpAnyH_take (i := 10) (v := ?_) (by first | (simp only [List.getElem?_toArray, List.getElem?_cons_succ, List.getElem?_cons_zero] <;> rfl) | rfl) (by kernel_rfl) (by kernel_rfl) (by kernel_rfl) (by exact fun _ _ _ h => h) (Or.inl ⟨by rfl, ?_⟩) hHeld1 ?_
                rotate_left 1
                · intro w hSw
                  try dsimp only at hSw
                  (go_simp) <;> (with_reducible rfl)
                try simp only [Act.put, List.setIfInBounds_toArray, List.set_cons_zero, List.set_cons_succ]
                refine wpAnyH_take (i := 11) (v := ?_) (by first | (simp only [List.getElem?_toArray, List.getElem?_cons_succ, List.getElem?_cons_zero] <;> rfl) | rfl) (by kernel_rfl) (by kernel_rfl) (by kernel_rfl) (by exact fun _ _ _ h => h) (Or.inl ⟨by rfl, ?_⟩) hHeld1 ?_
                rotate_left 1
                · intro w hSw
                  try dsimp only at hSw
                  (go_simp) <;> (with_reducible rfl)
                try simp only [Act.put, List.setIfInBounds_toArray, List.set_cons_zero, List.set_cons_succ]
                refine wpAnyH_take (i := 12) (v := ?_) (by first | (simp only [List.getElem?_toArray, List.getElem?_cons_succ, List.getElem?_cons_zero] <;> rfl) | rfl) (by kernel_rfl) (by kernel_rfl) (by kernel_rfl) (by exact fun _ _ _ h => h) (Or.inl ⟨by rfl, ?_⟩) hHeld1 ?_
                rotate_left 1
                · intro w hSw
                  try dsimp only at hSw
                  (go_simp) <;> (with_reducible rfl)
                try simp only [Act.put, List.setIfInBounds_toArray, List.set_cons_zero, List.set_cons_succ]
                refine wpAnyH_take (i := 13) (v := ?_) (by first | (simp only [List.getElem?_toArray, List.getElem?_cons_succ, List.getElem?_cons_zero] <;> rfl) | rfl) (by kernel_rfl) (by kernel_rfl) (by kernel_rfl) (by exact fun _ _ _ h => h) (Or.inl ⟨by rfl, ?_⟩) hHeld1 ?_
                rotate_left 1
                · intro w hSw
                  try dsimp only at hSw
                  (go_simp) <;> (with_reducible rfl)
                try simp only [Act.put, List.setIfInBounds_toArray, List.set_cons_zero, List.set_cons_succ]
                refine wpAnyH_take (i := 14) (v := ?_) (by first | (simp only [List.getElem?_toArray, List.getElem?_cons_succ, List.getElem?_cons_zero] <;> rfl) | rfl) (by kernel_rfl) (by kernel_rfl) (by kernel_rfl) (by exact fun _ _ _ h => h) (Or.inl ⟨by rfl, ?_⟩) hHeld1 ?_
                rotate_left 1
                · intro w hSw
                  try dsimp only at hSw
                  (go_simp) <;> (with_reducible rfl)
                try simp only [Act.put, List.setIfInBounds_toArray, List.set_cons_zero, List.set_cons_succ]
                refine wpAnyH_take (i := 15) (v := ?_) (by first | (simp only [List.getElem?_toArray, List.getElem?_cons_succ, List.getElem?_cons_zero] <;> rfl) | rfl) (by kernel_rfl) (by kernel_rfl) (by kernel_rfl) (by exact fun _ _ _ h => h) (Or.inl ⟨by rfl, ?_⟩) hHeld1 ?_
                rotate_left 1
                · intro w hSw
                  try dsimp only at hSw
                  (go_simp) <;> (with_reducible rfl)
                try simp only [Act.put, List.setIfInBounds_toArray, List.set_cons_zero, List.set_cons_succ]
                refine wpAnyH_ready (rs := [16]) (by kernel_rfl) (by simp) ?_
                refine AllReadyH.cons (by first | (simp only [List.getElem?_toArray, List.getElem?_cons_succ, List.getElem?_cons_zero] <;> rfl) | rfl) (fun K hK => ?_) ?_
                · go_simp
                  refine (hmt.out _ ((HCr.out.below hHeld1.2.out))).mono ?_
                  rintro e v ⟨rfl, hbb⟩
                  refine hK.out _ _ ?_ (fun hHeld2 => ?_)
                  · exact ⟨by obtain ⟨s0, s1, s2, s3, t0, t1, t2, t3, t4, t5, t6, t7⟩ := hHeld1.1; exact ⟨cell_below s0 hbb, cell_below s1 hbb, cell_below s2 hbb, cell_below s3 hbb, cell_below t0 hbb, cell_below t1 hbb, cell_below t2 hbb, cell_below t3 hbb, cell_below t4 hbb, cell_below t5 hbb, cell_below t6 hbb, cell_below t7 hbb⟩, hHeld1.2.out.trans (hbb.mono hHeld1.2.out.size)⟩
                  clear hK K
                  try simp only [Act.put, List.setIfInBounds_toArray, List.set_cons_zero, List.set_cons_succ]
                  refine wpAnyH_take (i := 17) (v := ?_) (by first | (simp only [List.getElem?_toArray, List.getElem?_cons_succ, List.getElem?_cons_zero] <;> rfl) | rfl) (by kernel_rfl) (by kernel_rfl) (by kernel_rfl) (by exact fun _ _ _ h => h) (Or.inl ⟨by rfl, ?_⟩) hHeld2 ?_
                  rotate_left 1
                  · intro w hSw
                    try dsimp only at hSw
                    (go_simp) <;> (with_reducible rfl)
                  try simp only [Act.put, List.setIfInBounds_toArray, List.set_cons_zero, List.set_cons_succ]
                  refine wpAnyH_done (by kernel_rfl) ?_ _
                  have HB9 := Lib.hid (HB.out.trans (hHeld2.2.out.mono HB.out.size))
                  obtain ⟨p2, -, p4, -⟩ := hHeld2.1
                  clear hmt hstr
                  cases hmm : matB ⟨num, act, cs⟩ x with
                  | false =>
                    have HF2 := Lib.hid (firstS_on HF.out HMk.out (by rw [hmm]; simp))
                    clear hmm
                    go_wp2_with fail
                    go_roundw
                    case rel => exact ⟨i + 1, by go_num, by omega, HF2, HB9⟩
                    case measure => simp [intOf]; omega
                  | true =>
                    have HV2 := Lib.hid (HV.out.trans (ref_found d HT.out (firstS_hit HF.out HMk.out HST.out hmm)))
                    clear hmm
                    go_wp2_with fail
                    go_ret
                    exact retu HV2.out rfl (HB0.out.trans (HB9.out.mono HB0.out.size))
                exact AllReadyH.nil
              exact AllReadyH.nil
            · have HF2 := Lib.hid (firstS_on HF.out HMk.out (by rintro ⟨h, _⟩; exact hst h))
              obtain ⟨u, hu⟩ : ∃ u, u = Rec.strN act := ⟨_, rfl⟩
              rw [← hu] at hstr hst
              have et : ((u : Int) == (t : Int)) = false := beq_f hst
              clear hu hst
              go_upto_region 9 with fail
              go_quiet ((go_at_call 16; exact quiet_l (hstr.out _)))
              go_wp2_with fail
              go_roundw
              case rel => exact ⟨i + 1, by go_num, by omega, HF2, Lib.hid (below_drewN HB.out _)⟩
              case measure => simp [intOf]; omega
          · have HF2 := Lib.hid (firstS_next HT.out (firstS_all HF.out (by rw [HL.out]; omega)))
            go_wp2_with fail
            go_roundw
            case rel => exact ⟨(t : Int) - 1, by go_num, by omega, by omega, HF2, HB⟩
            case measure => simp only [intOf]; omega
      · obtain rfl : s = -1 := by omega
        have HV2 := Lib.hid (HV.out.trans (ref_none d HT.out))
        have q1 := (HK1.out.kept HB.out).cell 1 rfl
        go_wp2_with fail
        go_ret
        exact retu HV2.out rfl (HB0.out.trans (HB.out.mono HB0.out.size))
  · have HV := Lib.hid (show saysR d ms x = 2147483648 by unfold saysR; rw [if_neg ha])
    have e1 : ((x.arch : Int) != 3221225534) = true := by rw [bne_iff_ne]; omega
    clear ha
    go_wp2_with fail
    go_ret
    exact retu HV.out rfl HB0.out
end Go.Proofs.Ytagbamengcnfeaa.Me

