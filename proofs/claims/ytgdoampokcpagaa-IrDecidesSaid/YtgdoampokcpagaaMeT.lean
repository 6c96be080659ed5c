/- What a policy says of a call: the program's way and the document's. -/
import Derived.Test.YtgdoampokcpagaaMeS
namespace Go.Proofs.Ytgdoampokcpagaa.Me
open Go.RowKit Go.WideElems
def saysR (d : Nat) (ms : List RuleM) (x : RcM) : Nat := if x.arch = 3221225534 then bestA d (bestL x 0 ms none) else 2147483648
theorem says_eq (p : PolM) (x : RcM) : saysB p x = saysR p.dflt p.rules x := rfl
def RetU (n : Nat) (w : World) (e : Ending) (w' : World) : Prop := e = .returned (.int .u32 n) ∧ Below w.heap.size w w'
theorem retu {n k : Nat} {w w' : World} {e : Ending} (h : n = k) (he : e = .returned (.int .u32 k)) (hb : Below w.heap.size w w') : RetU n w e w' := by subst h; exact ⟨he, hb⟩
theorem best_ok (ms : List RuleM) (x : RcM) : BOk ms ms.length (bestL x 0 ms none) := by
  have key : ∀ (l : List RuleM) (k : Nat) (b : Option (Nat × Nat)), (∀ i, l[i]? = ms[k + i]?) → BOk ms k b → BOk ms (k + l.length) (bestL x k l b) := by
    intro l
    induction l with
    | nil => intro k b _ hb; exact hb
    | cons r l ih =>
      intro k b hl hb
      have h0 : ms[k]? = some r := (hl 0).symm
      have := ih (k + 1) (stepB x k r b) (fun i => by have := hl (i + 1); rw [show k + 1 + i = k + (i + 1) by omega, ← this]; rfl) (hb.step h0 x)
      rw [List.length_cons, show k + (l.length + 1) = k + 1 + l.length by omega]
      exact this
  have := key ms 0 none (fun i => by rw [Nat.zero_add]) (BOk.nil ms)
  rwa [Nat.zero_add] at this
set_option maxHeartbeats 4000000 in
set_option maxRecDepth 100000 in
theorem says_any (nm : ByteArray) (d : Nat) (rules : List RuleV) (RA : Option Addr) (nR Rc hd : Nat) (PA : Option Addr) (nP Pc : Nat) (QA : Option Addr) (nQ Qc : Nat) (x : RcM) (w : World) (hn : rules.length = nR) (hl : nR ≤ 1000) (hR : RRd w rules RA) (hx : x.ok) :
    Calls Try.prog 12 #[.agg #[.string nm, .int .u32 d, .slice RA nR Rc, .int .u16 hd, .slice PA nP Pc, .slice QA nQ Qc], .agg #[.int .u32 x.num, .int .u32 x.arch, .int .u64 x.at_, .int .u64 x.a0, .int .u64 x.a1, .int .u64 x.a2, .int .u64 x.a3, .int .u64 x.a4, .int .u64 x.a5]] w (RetU (saysR d (rules.map RuleV.m) x) w) := by
  obtain ⟨hk1, hk2, hb⟩ := two_new w #[.string nm, .int .u32 d, .slice RA nR Rc, .int .u16 hd, .slice PA nP Pc, .slice QA nQ Qc] #[.int .u32 x.num, .int .u32 x.arch, .int .u64 x.at_, .int .u64 x.a0, .int .u64 x.a1, .int .u64 x.a2, .int .u64 x.a3, .int .u64 x.a4, .int .u64 x.a5] 30 49 (la := [.string nm, .int .u32 d, .slice RA nR Rc, .int .u16 hd, .slice PA nP Pc, .slice QA nQ Qc]) (lb := x.cells) rfl rfl
  obtain ⟨ms, hms⟩ : ∃ ms, ms = rules.map RuleV.m := ⟨_, rfl⟩
  have HS := Lib.hid (fun W (h : Below w.heap.size w W) => speaks_any nm d rules RA nR Rc hd PA nP Pc QA nQ Qc x W hn hl (hR.below h) hx)
  rw [← hms] at HS ⊢
  have HR := Lib.hid (hR.below hb)
  have Hms := Lib.hid hms
  have HN := Lib.hid hn
  clear hR hms hn hx
  go_enter Try.func12, Try.ntmps12
  go_upto_region 1 with fail
  generalize (w.alloc _).alloc _ = w2 at hk1 hk2 hb HR ⊢
  have HB0 := Lib.hid hb
  have hlt1 := hk1.lt
  have hlt2 := hk2.lt
  have HK1 := Lib.hid hk1
  have HK2 := Lib.hid hk2
  have q0 := hk1.cell 0 rfl
  have q1 := hk1.cell 1 rfl
  have q2 := hk1.cell 2 rfl
  have q3 := hk1.cell 3 rfl
  have q4 := hk1.cell 4 rfl
  have q5 := hk1.cell 5 rfl
  have y0 := hk2.cell 0 rfl
  have y1 := hk2.cell 1 rfl
  have y2 := hk2.cell 2 rfl
  have y3 := hk2.cell 3 rfl
  have y4 := hk2.cell 4 rfl
  have y5 := hk2.cell 5 rfl
  have y6 := hk2.cell 6 rfl
  have y7 := hk2.cell 7 rfl
  have y8 := hk2.cell 8 rfl
  clear hk1 hk2 hb
  by_cases ha : x.arch = 3221225534
  · have HV := Lib.hid (show saysR d ms x = bestA d (bestL x 0 ms none) by unfold saysR; rw [if_pos ha])
    have e1 : ((x.arch : Int) != 3221225534) = false := by rw [ha]; decide
    clear ha
    go_wp2_with fail
    refine (HS.out _ HB0.out).mono ?_
    clear HS e1 q0 q1 q2 q3 q4 q5 y0 y1 y2 y3 y4 y5 y6 y7 y8
    rintro e w3 ⟨⟨A, c, rfl, -⟩, hb3⟩
    have HB3 := Lib.hid (HB0.out.trans (hb3.mono HB0.out.size))
    have p1 := (HK1.out.kept hb3).cell 1 rfl
    have p2 := (HK1.out.kept hb3).cell 2 rfl
    have pl := (HK1.out.kept hb3).lt
    have HR3 := Lib.hid (HR.out.below hb3)
    have HBo := Lib.hid (best_ok ms x)
    clear hb3
    obtain ⟨b, hbe⟩ : ∃ b, b = bestL x 0 ms none := ⟨_, rfl⟩
    rw [← hbe] at HV HBo ⊢
    clear hbe
    cases b with
    | none =>
      unfold bestI
      go_wp2_with fail
      go_ret
      exact retu HV.out rfl HB3.out
    | some y =>
      obtain ⟨i, a⟩ := y
      obtain ⟨hik, ri, hri, hra⟩ := HBo.out (i, a) rfl
      simp only at hik hri hra
      have hin : i < nR := by rw [Hms.out, List.length_map, HN.out] at hik; exact hik
      obtain ⟨rv, hrv, hrm⟩ : ∃ rv, rules[i]? = some rv ∧ rv.m = ri := by rw [Hms.out, List.getElem?_map] at hri; obtain ⟨rv, h1, h2⟩ := Option.map_eq_some_iff.1 hri; exact ⟨rv, h1, h2⟩
      have hrd := HR3.out.r
      simp only [HN.out] at hrd
      obtain ⟨b2, o2, hA2, _, hc2⟩ := hrd.one (fun _ => rfl) (by omega) (by omega)
      subst hA2
      have p3 := (rule_cells hc2 hrv).2.1
      rw [hrm, hra] at p3
      clear hrd hc2 hrv hrm hri hra hik
      unfold bestI
      go_wp2_with fail
      go_ret
      exact retu HV.out rfl HB3.out
  · have HV := Lib.hid (show saysR d ms x = 2147483648 by unfold saysR; rw [if_neg ha])
    have e1 : ((x.arch : Int) != 3221225534) = true := by rw [bne_iff_ne]; omega
    clear ha
    go_wp2_with fail
    go_ret
    exact retu HV.out rfl HB0.out
/-- Rules in memory, as the document has them. -/
structure RRr (w : World) (rules : List RuleV) (A : Option Addr) : Prop where
  r : Rd w 3 rules.length A (rules.flatMap RuleV.cells)
  c : ∀ x ∈ rules, Rd w 4 x.m.conds.length x.A (x.m.conds.flatMap CondM.rcells)
  ok : ∀ x ∈ rules, x.m.ok
theorem RRr.below {w w' : World} {rules : List RuleV} {A : Option Addr} (h : RRr w rules A) (hb : Below w.heap.size w w') : RRr w' rules A := ⟨h.r.below hb, fun x hx => (h.c x hx).below hb, h.ok⟩
theorem ref_found {x : RcM} {ms : List RuleM} {s : Nat} {r : RuleM} (d : Nat) (h1 : ∀ t : Nat, (s : Int) < t → t ≤ 3 → firstS x t ms = none) (h2 : firstS x s ms = some r) : bestA d (bestL x 0 ms none) = r.act := by
  cases hb : bestL x 0 ms none with
  | none =>
    have := first_above x ⟨[], 0, ms, 0, [], []⟩ (s := s) (fun a ha => by rw [hb] at ha; cases ha)
    rw [h2] at this; cases this
  | some y =>
    obtain ⟨r', hr, ha⟩ := first_at x ⟨[], 0, ms, 0, [], []⟩ hb
    have hle := Rec.strN_le y.2
    by_cases hs : Rec.strN y.2 = s
    · rw [hs, h2] at hr
      cases hr
      exact ha.symm
    · by_cases hlt : s < Rec.strN y.2
      · rw [h1 _ (by omega) hle] at hr; cases hr
      · have := first_above x ⟨[], 0, ms, 0, [], []⟩ (s := s) (fun a ha => by rw [hb] at ha; cases ha; omega)
        rw [h2] at this; cases this
theorem ref_none {x : RcM} {ms : List RuleM} (d : Nat) (h1 : ∀ t : Nat, (-1 : Int) < t → t ≤ 3 → firstS x t ms = none) : bestA d (bestL x 0 ms none) = d := by
  cases hb : bestL x 0 ms none with
  | none => rfl
  | some y =>
    obtain ⟨r', hr, ha⟩ := first_at x ⟨[], 0, ms, 0, [], []⟩ hb
    rw [h1 _ (by omega) (Rec.strN_le y.2)] at hr; cases hr
theorem firstS_on {x : RcM} {ms : List RuleM} {s i : Nat} {r : RuleM} (h : firstS x s (ms.take i) = none) (hr : ms[i]? = some r) (hb : ¬ (Rec.strN r.act = s ∧ matB r x = true)) : firstS x s (ms.take (i + 1)) = none := by
  unfold firstS at h ⊢
  rw [List.take_add_one, hr, Option.toList_some, List.find?_append, h, Option.none_or]
  rw [List.find?_cons_of_neg (by simp only [Bool.and_eq_true, decide_eq_true_eq]; exact hb)]; rfl
theorem firstS_hit {x : RcM} {ms : List RuleM} {s i : Nat} {r : RuleM} (h : firstS x s (ms.take i) = none) (hr : ms[i]? = some r) (hs : Rec.strN r.act = s) (hm : matB r x = true) : firstS x s ms = some r := by
  unfold firstS at h ⊢
  obtain ⟨h1, h2⟩ := List.getElem?_eq_some_iff.1 hr
  rw [← List.take_append_drop i ms, List.find?_append, h, Option.none_or, List.drop_eq_getElem_cons h1, h2, List.find?_cons_of_pos (by simp [hs, hm])]
theorem firstS_all {x : RcM} {ms : List RuleM} {s i : Nat} (h : firstS x s (ms.take i) = none) (hi : ms.length ≤ i) : firstS x s ms = none := by
  rwa [List.take_of_length_le hi] at h
theorem firstS_next {x : RcM} {ms : List RuleM} {s : Nat} (h1 : ∀ t : Nat, (s : Int) < t → t ≤ 3 → firstS x t ms = none) (h2 : firstS x s ms = none) : ∀ t : Nat, ((s : Int) - 1) < t → t ≤ 3 → firstS x t ms = none := by
  intro t ht h3
  by_cases hs : t = s
  · subst hs; exact h2
  · exact h1 t (by omega) h3
end Go.Proofs.Ytgdoampokcpagaa.Me

