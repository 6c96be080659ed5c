/- policy's Check of a table that was asked often. -/
import Derived.Test.YtinofjbnfmalkaaGreatDoorTxF
namespace Go.Proofs.YtinofjbnfmalkaaGreatDoor.Tx
open Go.RowKit
set_option maxHeartbeats 4000000 in
set_option maxRecDepth 100000 in
theorem ruleB_any (num act : Nat) (cs : List CondM) (A : Option Addr) (n cap tb m : Nat) (w : World) (hok : RuleM.ok ⟨num, act, cs⟩) (hn : cs.length = n) (hR : Rd w 4 n A (cs.flatMap CondM.cells)) (hO : Off n A tb) (hT : TS w tb m) (hm : m ≤ 900000000) :
    Calls Tryz.prog 29 #[.agg #[.int .u32 num, .int .u32 act, .slice A n cap], .pointer (some ⟨tb, 0, none⟩)] w (RuPost (ruleE ⟨num, act, cs⟩) tb (m + 1) w) := by
  obtain ⟨hnum, hact, hlm, hcs⟩ := hok
  simp only at hnum hact hlm hcs
  have htl := hT.lt
  obtain ⟨asked, ha0, ha1, hTS⟩ := hT.alloc (.cells #[.int .u32 num, .int .u32 act, .slice A n cap] 70)
  have hnb := Lib.hid (numbered_any tb asked num _ hTS ha0 (by omega) (WalkArith.wf_u32 (by omega)))
  have hnm : n ≤ 9223372036854775807 := by rw [← hn]; exact hlm
  have HR := Lib.hid hR
  have HO := Lib.hid hO
  have HC := Lib.hid hcs
  have HN := Lib.hid hn
  clear hR hO hcs hn hlm hTS hT
  go_enter Tryz.func29, Tryz.ntmps29
  go_wp2_with fail
  refine hnb.out.mono ?_
  clear hnb
  rintro e w1 ⟨rfl, hM, hg⟩
  have hbk := (Bk.new w 70 #[.int .u32 num, .int .u32 act, .slice A n cap] (l := [.int .u32 num, .int .u32 act, .slice A n cap]) rfl).grown hg (by intro e; have := Option.some.inj e; omega)
  have hlt1 := hbk.lt
  have q0 := hbk.cell 0 rfl
  have q1 := hbk.cell 1 rfl
  have q2 := hbk.cell 2 rfl
  have HG1 := Lib.hid (show w.grownBy w1 (some tb) from grown_trans (r := some tb) (World.grownBy_alloc w _ (some tb)) hg (fun k hk => .inl hk))
  have HT1 := Lib.hid (show TS w1 tb (m + 1) from ⟨asked + 1, by omega, by omega, .inr hM⟩)
  have HR1 := Lib.hid (HR.out.grownO HO.out HG1.out)
  clear hbk hM hg ha0 ha1 asked HR HO
  obtain ⟨row, hrow⟩ : ∃ row, row = (byNum num).getD zeroRow := ⟨_, rfl⟩
  rw [← hrow]
  have Hrow := Lib.hid hrow
  clear hrow
  cases hsm : (byNum num).isSome with
  | false =>
    have HV := Lib.hid (show ruleE ⟨num, act, cs⟩ = 38 by unfold ruleE; rw [if_pos hsm])
    clear hsm
    unfold rowV
    go_wp2_with fail
    go_ret
    exact ru_of HV.out rfl (HT1.out.alloc _) (grow_alloc HG1.out _)
  | true =>
    have HSm := Lib.hid (show ¬ (byNum num).isSome = false by rw [hsm]; simp)
    clear hsm
    unfold rowV
    have hmy := fun W => may_any act W hact
    go_wp2_with fail
    refine (hmy _).mono ?_
    rintro e w2 ⟨rfl, rfl⟩
    cases hac : actB act with
    | false =>
      have HV := Lib.hid (show ruleE ⟨num, act, cs⟩ = 210 by unfold ruleE; rw [if_neg HSm.out, if_pos hac])
      clear hac hmy
      go_wp2_with fail
      go_ret
      exact ru_of HV.out rfl (HT1.out.alloc _) (grow_alloc HG1.out _)
    | true =>
      have HAc := Lib.hid (show ¬ actB act = false by rw [hac]; simp)
      clear hac hmy
      by_cases h6 : 6 < n
      · have HV := Lib.hid (show ruleE ⟨num, act, cs⟩ = 205 by unfold ruleE; rw [if_neg HSm.out, if_neg HAc.out, if_pos (by rw [HN.out]; exact h6)])
        have g6 : (6 : Int) < (n : Int) := by omega
        clear h6
        go_wp2_with fail
        go_ret
        exact ru_of HV.out rfl (HT1.out.alloc _) (grow_alloc HG1.out _)
      have HV := Lib.hid (show ruleE ⟨num, act, cs⟩ = firstE (fun _ c => condE c) 0 cs by unfold ruleE; rw [if_neg HSm.out, if_neg HAc.out, if_neg (by rw [HN.out]; exact h6)])
      have g6 : ¬ (6 : Int) < (n : Int) := by omega
      have hn6 : n ≤ 6 := by omega
      clear h6
      go_wp2_with fail
      have hT2 := HT1.out.alloc (.cells #[.int .u32 row.1, .string ⟨row.2.1.toArray⟩, .int .i64 row.2.2] 155)
      have hG2 := grow_alloc HG1.out (.cells #[.int .u32 row.1, .string ⟨row.2.1.toArray⟩, .int .i64 row.2.2] 155)
      have hR2 := HR1.out.below ((Below.refl _ _).alloc (Nat.le_refl _) (.cells #[.int .u32 row.1, .string ⟨row.2.1.toArray⟩, .int .i64 row.2.2] 155))
      clear q0 q1 q2
      generalize w1.alloc _ = w2 at hT2 hG2 hR2 ⊢
      have HT2 := Lib.hid hT2
      have HG2 := Lib.hid hG2
      have HR2 := Lib.hid hR2
      clear hT2 hG2 hR2 HT1 HG1 HR1 g6
      go_loopw [30] (fun iv wr => ∃ k : Nat, iv = .int .i64 k ∧ k ≤ n ∧ Hid (firstE (fun _ c => condE c) 0 cs = firstE (fun _ c => condE c) k (cs.drop k)) ∧ Hid (Below w2.heap.size w2 wr)) (fun iv _ => n - (intOf iv).toNat)
      case atStart => exact ⟨0, rfl, Nat.zero_le _, rfl, Below.refl _ _⟩
      case round =>
        obtain ⟨k, rfl, hk, HF, HB⟩ := hrel
        by_cases hlt : k < n
        · obtain ⟨c, hc⟩ : ∃ c, cs[k]? = some c := ⟨_, List.getElem?_eq_getElem (by have := HN.out; omega)⟩
          obtain ⟨b, o, rfl, hbl, hcell⟩ := (HR2.out.below HB.out).one (fun _ => rfl) (by omega) (by omega)
          obtain ⟨c0, c1, c2, c3⟩ := cond_cells hcell hc
          have hcok := HC.out c (List.mem_of_getElem? hc)
          have hck := Lib.hid (fun W => condCheck_any c.arg c.op c.mask c.val W hcok.2.2.2.1 hcok.2.2.2.2)
          have HX := Lib.hid hc
          clear hcell hc hcok
          go_wp2_with fail
          refine (hck.out _).mono ?_
          clear hck c0 c1 c2 c3
          rintro e w3 ⟨rfl, hb3⟩
          have HB3 := Lib.hid ((HB.out.alloc HB.out.size (.cells #[.int .i64 c.arg, .int .u8 c.op, .int .u64 c.mask, .int .u64 c.val] 90)).trans (hb3.mono (by have := HB.out.size; simp; omega)))
          clear hb3
          have hce : (⟨c.arg, c.op, c.mask, c.val⟩ : CondM) = c := rfl
          rw [hce]
          clear hce
          by_cases hz : condE c = 0
          · have HK := Lib.hid (show firstE (fun _ c => condE c) 0 cs = firstE (fun _ c => condE c) (k + 1) (cs.drop (k + 1)) from HF.out.trans (firstE_on (f := fun _ c => condE c) HX.out hz))
            rw [hz]
            clear hz
            go_wp2_with fail
            go_roundw
            case rel => exact ⟨k + 1, by go_num, by omega, HK, HB3⟩
            case measure => simp [intOf]; omega
          · have HK := Lib.hid (show ruleE ⟨num, act, cs⟩ = condE c from HV.out.trans (HF.out.trans (firstE_bad (f := fun _ c => condE c) HX.out hz)))
            have gz : ((condE c : Int) != 0) = true := by rw [bne_iff_ne]; omega
            clear hz
            go_wp2_with fail
            go_ret
            exact ru_of HK.out rfl (HT2.out.kept HB3.out) (grow_below HG2.out HB3.out)
        · have HK := Lib.hid (show ruleE ⟨num, act, cs⟩ = 0 from HV.out.trans (HF.out.trans (firstE_end _ _ (by have := HN.out; omega) _)))
          go_wp2_with fail
          go_ret
          exact ru_of HK.out rfl (HT2.out.kept HB.out) (grow_below HG2.out HB.out)
theorem ruleB_any' (r : RuleM) (A : Option Addr) (cap tb m : Nat) (w : World) (hok : r.ok) (hR : Rd w 4 r.conds.length A (r.conds.flatMap CondM.cells)) (hO : Off r.conds.length A tb) (hT : TS w tb m) (hm : m ≤ 900000000) :
    Calls Tryz.prog 29 #[.agg #[.int .u32 r.num, .int .u32 r.act, .slice A r.conds.length cap], .pointer (some ⟨tb, 0, none⟩)] w (RuPost (ruleE r) tb (m + 1) w) :=
  ruleB_any r.num r.act r.conds A _ cap tb m w hok rfl hR hO hT hm
set_option maxHeartbeats 8000000 in
set_option maxRecDepth 100000 in
theorem polCheckB_any (nm : Bs) (dflt : Nat) (rules : List RuleV) (RA : Option Addr) (nR Rc hd : Nat) (paths : List (Bs × Nat)) (PA : Option Addr) (nP Pc : Nat) (ports : List (Nat × Nat)) (QA : Option Addr) (nQ Qc : Nat) (tb m : Nat) (w : World)
    (hnm : nm.length ≤ maxLen) (hdf : dflt < 4294967296) (hnR : rules.length = nR) (hnP : paths.length = nP) (hnQ : ports.length = nQ) (hlR : nR ≤ maxLen) (hlP : nP ≤ maxLen) (hlQ : nQ ≤ maxLen)
    (hru : ∀ r ∈ rules, r.m.ok) (hhd : hd < 65536) (hpa : ∀ x ∈ paths, x.1.length ≤ maxLen ∧ x.2 < 65536) (hpo : ∀ x ∈ ports, x.1 < 65536 ∧ x.2 < 65536) (hcP : nP ≤ Pc) (hcQ : nQ ≤ Qc)
    (hR : Reads w ⟨nm, dflt, rules, RA, Rc, hd, paths, PA, Pc, ports, QA, Qc⟩) (hO : OffP ⟨nm, dflt, rules, RA, Rc, hd, paths, PA, Pc, ports, QA, Qc⟩ tb) (hT : TS w tb m) (hm : m ≤ 800000000) (hE : Env w) :
    Calls Tryz.prog 11 #[.agg #[.string ⟨nm.toArray⟩, .int .u32 dflt, .slice RA nR Rc, .int .u16 hd, .slice PA nP Pc, .slice QA nQ Qc], .pointer (some ⟨tb, 0, none⟩)] w
      (RuPost (polE ⟨nm, dflt, rules.map RuleV.m, hd, paths, ports⟩) tb (m + 64) w) := by
  have htl := hT.lt
  have hbk := Bk.new w 35 #[.string ⟨nm.toArray⟩, .int .u32 dflt, .slice RA nR Rc, .int .u16 hd, .slice PA nP Pc, .slice QA nQ Qc] (l := [.string ⟨nm.toArray⟩, .int .u32 dflt, .slice RA nR Rc, .int .u16 hd, .slice PA nP Pc, .slice QA nQ Qc]) rfl
  have hb0 := one_alloc w (.cells #[.string ⟨nm.toArray⟩, .int .u32 dflt, .slice RA nR Rc, .int .u16 hd, .slice PA nP Pc, .slice QA nQ Qc] 35)
  have hwd := Lib.hid (fun W => word_any ⟨nm.toArray⟩ W (by rw [Lib.size_eq]; exact hnm))
  have HT := Lib.hid hT
  have HR := Lib.hid hR
  have HO := Lib.hid hO
  have HE := Lib.hid hE
  have Hru := Lib.hid hru
  have Hpa := Lib.hid hpa
  have Hpo := Lib.hid hpo
  have HnR := Lib.hid hnR
  have HnP := Lib.hid hnP
  have HnQ := Lib.hid hnQ
  have hlR' : nR ≤ 9223372036854775807 := hlR
  have hlP' : nP ≤ 9223372036854775807 := hlP
  have hlQ' : nQ ≤ 9223372036854775807 := hlQ
  clear hR hO hE hru hpa hpo hT hlR hlP hlQ hnR hnP hnQ hnm
  go_enter Tryz.func11, Tryz.ntmps11
  go_wp2_with fail
  have hlt0 := hbk.lt
  refine (hwd.out _).mono ?_
  clear hwd
  rintro e w1 ⟨⟨b, rfl, hb⟩, hb1⟩
  have HB1 := Lib.hid (hb0.trans (hb1.mono (by simp)))
  have hk1 := hbk.kept hb1
  have hl1 := hk1.lt
  have q0 := hk1.cell 0 rfl
  have q1 := hk1.cell 1 rfl
  have q2 := hk1.cell 2 rfl
  have q3 := hk1.cell 3 rfl
  have q4 := hk1.cell 4 rfl
  have q5 := hk1.cell 5 rfl
  have HK1 := Lib.hid hk1
  have Hb := Lib.hid (show wordB nm = b by
    exact wordB_of hb)
  clear hbk hb0 hb1 hb hk1 hlt0
  cases b with
  | false =>
    have HV := Lib.hid (show polE ⟨nm, dflt, rules.map RuleV.m, hd, paths, ports⟩ = 202 by unfold polE; rw [if_pos Hb.out])
    go_wp2_with fail
    go_ret
    exact ru_below HV.out rfl HT.out HB1.out _ (by omega)
  | true =>
  have hmy := fun W => may_any dflt W hdf
  go_wp2_with fail
  refine (hmy _).mono ?_
  rintro e w2 ⟨rfl, rfl⟩
  clear hmy
  have Hb' := Lib.hid (show ¬ wordB nm = false by rw [Hb.out]; simp)
  cases hac : actB dflt with
  | false =>
    have HV := Lib.hid (show polE ⟨nm, dflt, rules.map RuleV.m, hd, paths, ports⟩ = 210 by unfold polE; rw [if_neg Hb'.out, if_pos hac])
    clear hac
    go_wp2_with fail
    go_ret
    exact ru_below HV.out rfl HT.out HB1.out _ (by omega)
  | true =>
  have Hac := Lib.hid (show ¬ actB dflt = false by rw [hac]; simp)
  clear hac
  by_cases hmany : 64 < rules.length ∨ 32 < paths.length ∨ 32 < ports.length
  · have HV := Lib.hid (show polE ⟨nm, dflt, rules.map RuleV.m, hd, paths, ports⟩ = 205 by unfold polE; rw [if_neg Hb'.out, if_neg Hac.out, if_pos (by simpa using hmany)])
    by_cases h1 : 64 < nR
    · have g1 : (64 : Int) < (nR : Int) := by omega
      have d1 : decide ((64 : Int) < (nR : Int)) = true := decide_eq_true g1
      clear hmany h1
      go_wp2_with fail
      go_ret
      exact ru_below HV.out rfl HT.out HB1.out _ (by omega)
    have g1 : ¬ (64 : Int) < (nR : Int) := by omega
    have d1 : decide ((64 : Int) < (nR : Int)) = false := decide_eq_false g1
    by_cases h2 : 32 < nP
    · have g2 : (32 : Int) < (nP : Int) := by omega
      have d2 : decide ((32 : Int) < (nP : Int)) = true := decide_eq_true g2
      clear hmany h1 h2
      go_wp2_with fail
      go_ret
      exact ru_below HV.out rfl HT.out HB1.out _ (by omega)
    have g2 : ¬ (32 : Int) < (nP : Int) := by omega
    have d2 : decide ((32 : Int) < (nP : Int)) = false := decide_eq_false g2
    have g3 : (32 : Int) < (nQ : Int) := by have := HnR.out; have := HnP.out; have := HnQ.out; omega
    have d3 : decide ((32 : Int) < (nQ : Int)) = true := decide_eq_true g3
    clear hmany h1 h2
    go_wp2_with fail
    go_ret
    exact ru_below HV.out rfl HT.out HB1.out _ (by omega)
  have g1 : ¬ (64 : Int) < (nR : Int) := by have := HnR.out; omega
  have d1 : decide ((64 : Int) < (nR : Int)) = false := decide_eq_false g1
  have g2 : ¬ (32 : Int) < (nP : Int) := by have := HnP.out; omega
  have d2 : decide ((32 : Int) < (nP : Int)) = false := decide_eq_false g2
  have g3 : ¬ (32 : Int) < (nQ : Int) := by have := HnQ.out; omega
  have d3 : decide ((32 : Int) < (nQ : Int)) = false := decide_eq_false g3
  have hR64 : nR ≤ 64 := by omega
  have hP32 : nP ≤ 32 := by omega
  have hQ32 : nQ ≤ 32 := by omega
  have Hmany := Lib.hid (show ¬ (64 < (rules.map RuleV.m).length ∨ 32 < paths.length ∨ 32 < ports.length) by simpa using hmany)
  clear hmany
  have hva := fun W => Rt.valid_any hd W hhd
  go_wp2_with fail
  refine (hva _).mono ?_
  rintro e w2 ⟨rfl, rfl⟩
  clear hva
  cases hvd : decide (hd &&& 14336 = 0) with
  | false =>
    have HV := Lib.hid (show polE ⟨nm, dflt, rules.map RuleV.m, hd, paths, ports⟩ = 204 by unfold polE; rw [if_neg Hb'.out, if_neg Hac.out, if_neg Hmany.out, if_pos (by simpa using hvd)])
    clear hvd
    go_wp2_with fail
    go_ret
    exact ru_below HV.out rfl HT.out HB1.out _ (by omega)
  | true =>
  have HPE := Lib.hid (show polE ⟨nm, dflt, rules.map RuleV.m, hd, paths, ports⟩ = if firstE (fun _ r => ruleE r.m) 0 rules ≠ 0 then firstE (fun _ r => ruleE r.m) 0 rules else if firstE (pathE paths hd) 0 paths ≠ 0 then firstE (pathE paths hd) 0 paths else firstE (portE ports hd) 0 ports by
    unfold polE
    rw [if_neg Hb'.out, if_neg Hac.out, if_neg Hmany.out, if_neg (by simpa using hvd)]
    simp only [firstE_map])
  clear hvd
  go_wp2_with fail
  have HT1 := Lib.hid (HT.out.kept HB1.out)
  have HR1 := Lib.hid (HR.out.below HB1.out)
  have HE1 := Lib.hid (HE.out.below HB1.out)
  clear HT HR HE g1 d1 g2 d2 g3 d3 Hmany Hac Hb Hb' q0 q1 q2 q3 q4 q5
  go_loopw [47] (fun iv wr => ∃ k : Nat, iv = .int .i64 k ∧ k ≤ nR ∧ Hid (firstE (fun _ r => ruleE r.m) 0 rules = firstE (fun _ r => ruleE r.m) k (rules.drop k)) ∧ Hid (TS wr tb (m + k)) ∧ Hid (w1.grownBy wr (some tb))) (fun iv _ => nR - (intOf iv).toNat)
  case atStart => exact ⟨0, rfl, Nat.zero_le _, rfl, HT1.out, grown_refl _ _⟩
  case round =>
    obtain ⟨k, rfl, hk, HF, HTr, HG⟩ := hrel
    have hlw : w.heap.size < wr.heap.size := Nat.lt_of_lt_of_le hl1 HG.out.size
    have hne : w.heap.size ≠ tb := by omega
    by_cases hlt : k < nR
    · obtain ⟨r, hr⟩ : ∃ r, rules[k]? = some r := ⟨_, List.getElem?_eq_getElem (by have := HnR.out; omega)⟩
      have HRr := Lib.hid (HR1.out.grown HO.out HG.out)
      have hmem := List.mem_of_getElem? hr
      have hrd := HRr.out.rules
      simp only [HnR.out] at hrd
      obtain ⟨bb, o, rfl, hbl, hcell⟩ := hrd.one (fun _ => rfl) (by omega) (by omega)
      obtain ⟨c0, c1, c2⟩ := rule_cells hcell hr
      have hcd := HRr.out.conds r hmem
      have hck := Lib.hid (ruleB_any' r.m r.A r.cap tb (m + k) (wr.alloc (.cells #[.int .u32 r.m.num, .int .u32 r.m.act, .slice r.A r.m.conds.length r.cap] 70)) (Hru.out r hmem) (hcd.below (one_alloc _ _)) (HO.out.conds r hmem) (HTr.out.alloc _) (by omega))
      have HX := Lib.hid hr
      obtain ⟨nc, hnc⟩ : ∃ nc, nc = r.m.conds.length := ⟨_, rfl⟩
      rw [← hnc] at c2 hck
      clear hcell hr hmem hcd hrd hnc
      go_wp2_with fail
      refine hck.out.mono ?_
      clear hck c0 c1 c2
      rintro e w3 ⟨rfl, hT3, hg3⟩
      have HG3 := Lib.hid (show w1.grownBy w3 (some tb) from grown_trans (grow_alloc HG.out _) hg3 (fun j hj => .inl hj))
      have HT3 := Lib.hid hT3
      clear hT3 hg3
      by_cases hz : ruleE r.m = 0
      · have HK := Lib.hid (show firstE (fun _ r => ruleE r.m) 0 rules = firstE (fun _ r => ruleE r.m) (k + 1) (rules.drop (k + 1)) from HF.out.trans (firstE_on (f := fun _ (r : RuleV) => ruleE r.m) HX.out hz))
        rw [hz]
        clear hz
        go_wp2_with fail
        go_roundw
        case rel => exact ⟨k + 1, by go_num, by omega, HK, HT3, HG3⟩
        case measure => simp [intOf]; omega
      · have HK := Lib.hid (show firstE (fun _ r => ruleE r.m) 0 rules = ruleE r.m from HF.out.trans (firstE_bad (f := fun _ (r : RuleV) => ruleE r.m) HX.out hz))
        have HV := Lib.hid (show polE ⟨nm, dflt, rules.map RuleV.m, hd, paths, ports⟩ = ruleE r.m by rw [HPE.out, if_pos (by rw [HK.out]; exact hz), HK.out])
        have gz : ((ruleE r.m : Int) != 0) = true := by rw [bne_iff_ne]; omega
        clear hz
        go_wp2_with fail
        go_ret
        exact ru_of HV.out rfl (HT3.out.mono (by omega)) (grown_trans (grow_below (grown_refl w _) HB1.out) HG3.out (fun j hj => .inl hj))
    · have HK := Lib.hid (show ¬ firstE (fun _ (r : RuleV) => ruleE r.m) 0 rules ≠ 0 by rw [HF.out.trans (firstE_end _ _ (by have := HnR.out; omega) _)]; simp)
      have hkr := HK1.out.grown HG.out (by intro e; have := Option.some.inj e; omega)
      have q0 := hkr.cell 0 rfl
      have q1 := hkr.cell 1 rfl
      have q2 := hkr.cell 2 rfl
      have q3 := hkr.cell 3 rfl
      have q4 := hkr.cell 4 rfl
      have q5 := hkr.cell 5 rfl
      have HRr := Lib.hid (HR1.out.grown HO.out HG.out)
      have HKr := Lib.hid hkr
      have hp1 := HRr.out.paths
      simp only [HnP.out] at hp1
      have hcp := Lib.hid (checkPaths paths (.string ⟨nm.toArray⟩) (.int .u32 dflt) (.slice RA nR Rc) (.slice QA nQ Qc) hd PA nP Pc wr HnP.out hp1 hhd Hpa.out hP32 hcP (HE1.out.grown HT1.out HG.out))
      clear hkr hp1
      go_wp2_with fail
      refine hcp.out.mono ?_
      clear hcp q0 q1 q2 q3 q4 q5
      rintro e w4 ⟨rfl, hb4⟩
      have HB4 := Lib.hid hb4
      have hk4 := HKr.out.kept hb4
      have q0 := hk4.cell 0 rfl
      have q1 := hk4.cell 1 rfl
      have q2 := hk4.cell 2 rfl
      have q3 := hk4.cell 3 rfl
      have q4 := hk4.cell 4 rfl
      have q5 := hk4.cell 5 rfl
      have hl4 := hk4.lt
      have HG4 := Lib.hid (show w.grownBy w4 (some tb) from grow_below (grown_trans (grow_below (grown_refl w _) HB1.out) HG.out (fun j hj => .inl hj)) hb4)
      have HT4 := Lib.hid (HTr.out.kept hb4)
      clear hb4 hk4
      by_cases hz : firstE (pathE paths hd) 0 paths = 0
      · have HV := Lib.hid (show polE ⟨nm, dflt, rules.map RuleV.m, hd, paths, ports⟩ = firstE (portE ports hd) 0 ports by rw [HPE.out, if_neg HK.out, if_neg (by rw [hz]; simp)])
        rw [hz]
        have hq1 := (HRr.out.below HB4.out).ports
        simp only [HnQ.out] at hq1
        have hcq := Lib.hid (checkPorts ports (.string ⟨nm.toArray⟩) (.int .u32 dflt) (.slice RA nR Rc) (.slice PA nP Pc) hd QA nQ Qc w4 HnQ.out hq1 hhd Hpo.out hQ32 hcQ)
        clear hz hq1
        go_wp2_with fail
        refine hcq.out.mono ?_
        rintro e w5 ⟨rfl, hb5⟩
        clear hcq q0 q1 q2 q3 q4 q5
        go_wp2_with fail
        go_ret
        exact ru_of HV.out rfl ((HT4.out.kept hb5).mono (by omega)) (grow_below HG4.out hb5)
      · have HV := Lib.hid (show polE ⟨nm, dflt, rules.map RuleV.m, hd, paths, ports⟩ = firstE (pathE paths hd) 0 paths by rw [HPE.out, if_neg HK.out, if_pos hz])
        have gz : ((firstE (pathE paths hd) 0 paths : Int) != 0) = true := by rw [bne_iff_ne]; omega
        clear hz
        go_wp2_with fail
        go_ret
        exact ru_of HV.out rfl (HT4.out.mono (by omega)) HG4.out
end Go.Proofs.YtinofjbnfmalkaaGreatDoor.Tx
