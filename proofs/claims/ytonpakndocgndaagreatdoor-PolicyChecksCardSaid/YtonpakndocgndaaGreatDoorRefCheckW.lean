/- Whether a policy may be: the document's way. -/
import Derived.Test.YtonpakndocgndaaGreatDoorCheckW
import Derived.Test.YtonpakndocgndaaGreatDoorRefPath
import Derived.Test.YtonpakndocgndaaGreatDoorRefFind
import Derived.Test.YtonpakndocgndaaGreatDoorRefWord
namespace Go.Proofs.YtonpakndocgndaaGreatDoor
open Go.RowKit
theorem mask_split : ∀ i, i < 16 → Nat.testBit 51199 i = !Nat.testBit 14336 i := by decide
theorem valid_has (a : Nat) (ha : a < 65536) : hasS 51199 a = decide (a &&& 14336 = 0) := by
  unfold hasS
  apply decide_eq_decide.2
  have hig : ∀ i, 16 ≤ i → a.testBit i = false := fun i hi => Nat.testBit_lt_two_pow (Nat.lt_of_lt_of_le ha (by have := Nat.pow_le_pow_right (show 2 > 0 by omega) hi; simpa using this))
  constructor
  · intro h
    apply Nat.eq_of_testBit_eq
    intro i
    have := congrArg (fun n => Nat.testBit n i) h
    simp only [Nat.testBit_and, Nat.zero_testBit] at this ⊢
    by_cases hi : i < 16
    · rw [mask_split i hi] at this
      cases h1 : a.testBit i <;> cases h2 : Nat.testBit 14336 i <;> simp_all
    · rw [hig i (by omega)]; rfl
  · intro h
    apply Nat.eq_of_testBit_eq
    intro i
    have := congrArg (fun n => Nat.testBit n i) h
    simp only [Nat.testBit_and, Nat.zero_testBit] at this ⊢
    by_cases hi : i < 16
    · rw [mask_split i hi]
      cases h1 : a.testBit i <;> cases h2 : Nat.testBit 14336 i <;> simp_all
    · rw [hig i (by omega)]; simp
theorem rcond_cells {w : World} {b o k : Nat} {l : List CondM} {x : CondM} (hc : ∀ k x, l[k]? = some x → ∀ j v, (CondM.rcells x)[j]? = some v → w.cell? ⟨b, o + (k * 4 + j), none⟩ = some v) (h : l[k]? = some x) :
    w.cell? ⟨b, o + k * 4, none⟩ = some (.int .i64 x.arg) ∧ w.cell? ⟨b, o + k * 4 + 1, none⟩ = some (.int .i64 x.op) ∧ w.cell? ⟨b, o + k * 4 + 2, none⟩ = some (.int .u64 x.mask) ∧ w.cell? ⟨b, o + k * 4 + 3, none⟩ = some (.int .u64 x.val) :=
  ⟨by have := hc k x h 0 _ rfl; simpa using this, by have := hc k x h 1 _ rfl; simpa [Nat.add_assoc] using this, by have := hc k x h 2 _ rfl; simpa [Nat.add_assoc] using this, by have := hc k x h 3 _ rfl; simpa [Nat.add_assoc] using this⟩
theorem grant_no {h k : Nat} : grantB h 0 k = false := rfl
theorem grant_some {h r k : Nat} (hr : r ≠ 0) : grantB h r k = hasS (h &&& k) r := by rw [within_both]; unfold grantB; rw [decide_eq_true hr]; rfl
def PE (nm : Bs) (dflt : Nat) (rules : List RuleV) (hd : Nat) (paths : List (Bs × Nat)) (ports : List (Nat × Nat)) (n : Nat) : Prop := polE ⟨nm, dflt, rules.map RuleV.m, hd, paths, ports⟩ = n

set_option maxHeartbeats 16000000 in
set_option maxRecDepth 100000 in
theorem refCheck_any (nm : Bs) (dflt : Nat) (rules : List RuleV) (RA : Option Addr) (nR Rc hd : Nat) (paths : List (Bs × Nat)) (PA : Option Addr) (nP Pc : Nat) (ports : List (Nat × Nat)) (QA : Option Addr) (nQ Qc : Nat) (w : World)
    (hnm : nm.length ≤ maxLen) (_ : dflt < 4294967296) (hnR : rules.length = nR) (hnP : paths.length = nP) (hnQ : ports.length = nQ) (hlR : nR ≤ maxLen) (hlP : nP ≤ maxLen) (hlQ : nQ ≤ maxLen)
    (hru : ∀ r ∈ rules, r.m.ok) (hhd : hd < 65536) (hpa : ∀ x ∈ paths, x.1.length ≤ maxLen ∧ x.2 < 65536) (hpo : ∀ x ∈ ports, x.1 < 65536 ∧ x.2 < 65536)
    (hR : RReads w ⟨nm, dflt, rules, RA, Rc, hd, paths, PA, Pc, ports, QA, Qc⟩) :
    Calls Tryz.prog 9 #[.agg #[.string ⟨nm.toArray⟩, .int .u32 dflt, .slice RA nR Rc, .int .i64 hd, .slice PA nP Pc, .slice QA nQ Qc]] w (RetE (polE ⟨nm, dflt, rules.map RuleV.m, hd, paths, ports⟩) w) := by
  have hbk := Bk.new w 60 #[.string ⟨nm.toArray⟩, .int .u32 dflt, .slice RA nR Rc, .int .i64 hd, .slice PA nP Pc, .slice QA nQ Qc] (l := [.string ⟨nm.toArray⟩, .int .u32 dflt, .slice RA nR Rc, .int .i64 hd, .slice PA nP Pc, .slice QA nQ Qc]) rfl
  have hb0 := one_alloc w (.cells #[.string ⟨nm.toArray⟩, .int .u32 dflt, .slice RA nR Rc, .int .i64 hd, .slice PA nP Pc, .slice QA nQ Qc] 60)
  have hwd := Lib.hid (fun W => refWord_any ⟨nm.toArray⟩ W (by rw [Lib.size_eq]; exact hnm))
  have HR := Lib.hid hR
  have Hru := Lib.hid hru
  have Hpa := Lib.hid hpa
  have Hpo := Lib.hid hpo
  have HnR := Lib.hid hnR
  have HnP := Lib.hid hnP
  have HnQ := Lib.hid hnQ
  have hlR' : nR ≤ 9223372036854775807 := hlR
  have hlP' : nP ≤ 9223372036854775807 := hlP
  have hlQ' : nQ ≤ 9223372036854775807 := hlQ
  clear hR hru hpa hpo hlR hlP hlQ hnR hnP hnQ hnm
  go_enter Tryz.func9, Tryz.ntmps9
  go_wp2_with fail
  have hlt0 := hbk.lt
  refine (hwd.out _).mono ?_
  clear hwd
  rintro e w1 ⟨⟨b, rfl, hb⟩, hb1⟩
  have HB1 := Lib.hid (hb0.trans (hb1.mono (by simp)))
  have hk1 := hbk.kept hb1
  have hl1 := hk1.lt
  have q0 := hk1.cell 0 rfl
  have q1 := hk1.cell 1 rfl
  have q2 := hk1.cell 2 rfl
  have q3 := hk1.cell 3 rfl
  have q4 := hk1.cell 4 rfl
  have q5 := hk1.cell 5 rfl
  have HK1 := Lib.hid hk1
  have Hb := Lib.hid (show wordB nm = b from wordB_of hb)
  clear hbk hb0 hb1 hb hk1 hlt0
  cases b with
  | false =>
    have HV := Lib.hid (show polE ⟨nm, dflt, rules.map RuleV.m, hd, paths, ports⟩ = 202 by unfold polE; rw [if_pos Hb.out])
    go_wp2_with fail
    go_ret
    exact ret_of HV.out rfl HB1.out
  | true =>
  have hmy := fun W => refAction_any dflt W
  go_wp2_with fail
  refine (hmy _).mono ?_
  rintro e w2 ⟨rfl, rfl⟩
  clear hmy
  have Hb' := Lib.hid (show ¬ wordB nm = false by rw [Hb.out]; simp)
  cases hac : actB dflt with
  | false =>
    have HV := Lib.hid (show polE ⟨nm, dflt, rules.map RuleV.m, hd, paths, ports⟩ = 210 by unfold polE; rw [if_neg Hb'.out, if_pos hac])
    clear hac
    go_wp2_with fail
    go_ret
    exact ret_of HV.out rfl HB1.out
  | true =>
  have Hac := Lib.hid (show ¬ actB dflt = false by rw [hac]; simp)
  clear hac
  by_cases hmany : 64 < rules.length ∨ 32 < paths.length ∨ 32 < ports.length
  · have HV := Lib.hid (show polE ⟨nm, dflt, rules.map RuleV.m, hd, paths, ports⟩ = 205 by unfold polE; rw [if_neg Hb'.out, if_neg Hac.out, if_pos (by simpa using hmany)])
    by_cases h1 : 64 < nR
    · have g1 : (64 : Int) < (nR : Int) := by omega
      have d1 : decide ((64 : Int) < (nR : Int)) = true := decide_eq_true g1
      clear hmany h1
      go_wp2_with fail
      go_ret
      exact ret_of HV.out rfl HB1.out
    have g1 : ¬ (64 : Int) < (nR : Int) := by omega
    have d1 : decide ((64 : Int) < (nR : Int)) = false := decide_eq_false g1
    by_cases h2 : 32 < nP
    · have g2 : (32 : Int) < (nP : Int) := by omega
      have d2 : decide ((32 : Int) < (nP : Int)) = true := decide_eq_true g2
      clear hmany h1 h2
      go_wp2_with fail
      go_ret
      exact ret_of HV.out rfl HB1.out
    have g2 : ¬ (32 : Int) < (nP : Int) := by omega
    have d2 : decide ((32 : Int) < (nP : Int)) = false := decide_eq_false g2
    have g3 : (32 : Int) < (nQ : Int) := by have := HnR.out; have := HnP.out; have := HnQ.out; omega
    have d3 : decide ((32 : Int) < (nQ : Int)) = true := decide_eq_true g3
    clear hmany h1 h2
    go_wp2_with fail
    go_ret
    exact ret_of HV.out rfl HB1.out
  have g1 : ¬ (64 : Int) < (nR : Int) := by have := HnR.out; omega
  have d1 : decide ((64 : Int) < (nR : Int)) = false := decide_eq_false g1
  have g2 : ¬ (32 : Int) < (nP : Int) := by have := HnP.out; omega
  have d2 : decide ((32 : Int) < (nP : Int)) = false := decide_eq_false g2
  have g3 : ¬ (32 : Int) < (nQ : Int) := by have := HnQ.out; omega
  have d3 : decide ((32 : Int) < (nQ : Int)) = false := decide_eq_false g3
  have hR64 : nR ≤ 64 := by omega
  have hP32 : nP ≤ 32 := by omega
  have hQ32 : nQ ≤ 32 := by omega
  have Hmany := Lib.hid (show ¬ (64 < (rules.map RuleV.m).length ∨ 32 < paths.length ∨ 32 < ports.length) by simpa using hmany)
  clear hmany
  have hva := fun W => within_any hd 51199 W hhd (by omega)
  rw [valid_has hd hhd] at hva
  go_wp2_with fail
  refine (hva _).mono ?_
  rintro e w2 ⟨rfl, rfl⟩
  clear hva
  cases hvd : decide (hd &&& 14336 = 0) with
  | false =>
    have HV := Lib.hid (show polE ⟨nm, dflt, rules.map RuleV.m, hd, paths, ports⟩ = 204 by unfold polE; rw [if_neg Hb'.out, if_neg Hac.out, if_neg Hmany.out, if_pos (by simpa using hvd)])
    clear hvd
    go_wp2_with fail
    go_ret
    exact ret_of HV.out rfl HB1.out
  | true =>
  have HPE := Lib.hid (show polE ⟨nm, dflt, rules.map RuleV.m, hd, paths, ports⟩ = if firstE (fun _ r => ruleE r.m) 0 rules ≠ 0 then firstE (fun _ r => ruleE r.m) 0 rules else if firstE (pathE paths hd) 0 paths ≠ 0 then firstE (pathE paths hd) 0 paths else firstE (portE ports hd) 0 ports by
    unfold polE
    rw [if_neg Hb'.out, if_neg Hac.out, if_neg Hmany.out, if_neg (by simpa using hvd)]
    simp only [firstE_map])
  clear hvd
  go_wp2_with fail
  have HR1 := Lib.hid (HR.out.below HB1.out)
  clear HR g1 d1 g2 d2 g3 d3 Hmany Hac Hb Hb' q0 q1 q2 q3 q4 q5
  go_loopw [3] (fun iv wr => ∃ k : Nat, iv = .int .i64 k ∧ k ≤ nR ∧ Hid (firstE (fun _ r => ruleE r.m) 0 rules = firstE (fun _ r => ruleE r.m) k (rules.drop k)) ∧ Hid (Below w1.heap.size w1 wr)) (fun iv _ => nR - (intOf iv).toNat)
  case atStart => exact ⟨0, rfl, Nat.zero_le _, rfl, Below.refl _ _⟩
  case round =>
    obtain ⟨k, rfl, hk, HF, HB⟩ := hrel
    have hlw : w.heap.size < wr.heap.size := Nat.lt_of_lt_of_le hl1 HB.out.size
    have q2 := (HK1.out.kept HB.out).cell 2 rfl
    by_cases hlt : k < nR
    · obtain ⟨r, hr⟩ : ∃ r, rules[k]? = some r := ⟨_, List.getElem?_eq_getElem (by have := HnR.out; omega)⟩
      have HRr := Lib.hid (HR1.out.below HB.out)
      have hmem := List.mem_of_getElem? hr
      have hrd := HRr.out.rules
      simp only [HnR.out] at hrd
      obtain ⟨bb, o, rfl, hbl, hcell⟩ := hrd.one (fun _ => rfl) (by omega) (by omega)
      obtain ⟨c0, c1, c2⟩ := rule_cells hcell hr
      obtain ⟨hnum, hact, hlc, hcok⟩ := Hru.out r hmem
      have HCok := Lib.hid hcok
      have HRc := Lib.hid (HRr.out.conds r hmem)
      have HX := Lib.hid hr
      obtain ⟨⟨num, act, cs⟩, CA, ccap⟩ := r
      simp only at c0 c1 c2 hnum hact hlc HCok HRc
      obtain ⟨nc, hnc⟩ : ∃ nc, nc = cs.length := ⟨_, rfl⟩
      rw [← hnc] at c2 HRc hlc
      have HNc := Lib.hid hnc
      have hlc' : nc ≤ 9223372036854775807 := hlc
      have hfi := Lib.hid (fun W => ref_find num W)
      clear hcell hr hmem hrd hcok hlc hnc
      go_wp2_with fail
      refine (hfi.out _).mono ?_
      clear hfi c0 c1 c2 q2
      rintro e w3 ⟨rfl, hb3⟩
      have hbn := (Bk.new wr 109 #[.int .u32 num, .int .u32 act, .slice CA nc ccap] (l := [.int .u32 num, .int .u32 act, .slice CA nc ccap]) rfl).kept hb3
      have n1 := hbn.cell 1 rfl
      have n2 := hbn.cell 2 rfl
      have hnl := hbn.lt
      have HBn := Lib.hid hbn
      have HB3 := Lib.hid ((HB.out.alloc HB.out.size (.cells #[.int .u32 num, .int .u32 act, .slice CA nc ccap] 109)).trans (hb3.mono (by have := HB.out.size; simp; omega)))
      clear hb3 hbn
      obtain ⟨row, hrow⟩ : ∃ row, row = (byNum num).getD zeroRow := ⟨_, rfl⟩
      rw [← hrow]
      clear hrow
      have hbad := fun (n : Nat) (hn0 : n ≠ 0) (hre : ruleE ⟨num, act, cs⟩ = n) => show polE ⟨nm, dflt, rules.map RuleV.m, hd, paths, ports⟩ = n by
        have hE : firstE (fun _ (r : RuleV) => ruleE r.m) 0 rules = n := HF.out.trans ((firstE_bad (f := fun _ (r : RuleV) => ruleE r.m) HX.out (by show ruleE ⟨num, act, cs⟩ ≠ 0; rw [hre]; exact hn0)).trans hre)
        rw [HPE.out, if_pos (by rw [hE]; exact hn0), hE]
      have Hbad := Lib.hid hbad
      clear hbad
      cases hsm : (byNum num).isSome with
      | false =>
        have HV := Lib.hid (Hbad.out 38 (by decide) (by unfold ruleE; rw [if_pos hsm]))
        clear hsm
        unfold refV
        go_wp2_with fail
        go_ret
        exact ret_of HV.out rfl (HB1.out.trans ((HB3.out.alloc HB3.out.size _).mono HB1.out.size))
      | true =>
      have HSm := Lib.hid (show ¬ (byNum num).isSome = false by rw [hsm]; simp)
      clear hsm
      unfold refV
      have hmy := fun W => refAction_any act W
      go_wp2_with fail
      refine (hmy _).mono ?_
      rintro e w4 ⟨rfl, rfl⟩
      clear hmy
      cases hac : actB act with
      | false =>
        have HV := Lib.hid (Hbad.out 210 (by decide) (by unfold ruleE; rw [if_neg HSm.out, if_pos hac]))
        clear hac
        go_wp2_with fail
        go_ret
        exact ret_of HV.out rfl (HB1.out.trans ((HB3.out.alloc HB3.out.size _).mono HB1.out.size))
      | true =>
      have HAc := Lib.hid (show ¬ actB act = false by rw [hac]; simp)
      clear hac
      by_cases h6 : 6 < nc
      · have HV := Lib.hid (Hbad.out 205 (by decide) (by unfold ruleE; rw [if_neg HSm.out, if_neg HAc.out, if_pos (by show 6 < cs.length; rw [← HNc.out]; exact h6)]))
        have g6 : (6 : Int) < (nc : Int) := by omega
        clear h6
        go_wp2_with fail
        go_ret
        exact ret_of HV.out rfl (HB1.out.trans ((HB3.out.alloc HB3.out.size _).mono HB1.out.size))
      have HRE := Lib.hid (show ruleE ⟨num, act, cs⟩ = firstE (fun _ c => condE c) 0 cs by unfold ruleE; rw [if_neg HSm.out, if_neg HAc.out, if_neg (by show ¬ 6 < cs.length; rw [← HNc.out]; exact h6)])
      have g6 : ¬ (6 : Int) < (nc : Int) := by omega
      have hc6 : nc ≤ 6 := by omega
      clear h6
      go_wp2_with fail
      have hb4 := HB3.out.alloc HB3.out.size (.cells #[.int .i64 row.1, .string ⟨row.2.1.toArray⟩, .int .i64 row.2.2] 95)
      have hk4 := HBn.out.alloc (.cells #[.int .i64 row.1, .string ⟨row.2.1.toArray⟩, .int .i64 row.2.2] 95)
      have hr4 := (HRc.out.below (one_alloc _ (.cells #[.int .u32 num, .int .u32 act, .slice CA nc ccap] 109)))
      clear n1 n2
      have hr5 : Rd w3 4 nc CA (cs.flatMap CondM.rcells) := (HR1.out.conds ⟨⟨num, act, cs⟩, CA, ccap⟩ (List.mem_of_getElem? HX.out) |> fun h => by rw [HNc.out]; exact h.below HB3.out)
      have hr6 := hr5.below (one_alloc w3 (.cells #[.int .i64 row.1, .string ⟨row.2.1.toArray⟩, .int .i64 row.2.2] 95))
      clear hr4 hr5
      have hnl4 := hk4.lt
      generalize w3.alloc _ = w5 at hb4 hk4 hr6 hnl4 ⊢
      have HB5 := Lib.hid hb4
      have HK5 := Lib.hid hk4
      have HR5 := Lib.hid hr6
      clear hb4 hk4 hr6 HB3 HBn HRc HRr g6 hnl
      go_loopw [7] (fun iv wx => ∃ j : Nat, iv = .int .i64 j ∧ j ≤ nc ∧ Hid (firstE (fun _ c => condE c) 0 cs = firstE (fun _ c => condE c) j (cs.drop j)) ∧ Hid (Below w5.heap.size w5 wx)) (fun iv _ => nc - (intOf iv).toNat)
      case atStart => exact ⟨0, rfl, Nat.zero_le _, rfl, Below.refl _ _⟩
      case round =>
        rename World => wx
        obtain ⟨j, rfl, hj, HFc, HBx⟩ := hrel
        have n2 := (HK5.out.kept HBx.out).cell 2 rfl
        have hnx : wr.heap.size < wx.heap.size := Nat.lt_of_lt_of_le hnl4 HBx.out.size
        have HBw := Lib.hid (HB5.out.trans (HBx.out.mono HB5.out.size))
        by_cases hjl : j < nc
        · obtain ⟨c, hc⟩ : ∃ c, cs[j]? = some c := ⟨_, List.getElem?_eq_getElem (by have := HNc.out; omega)⟩
          obtain ⟨bc, oc, rfl, hbc, hcell⟩ := (HR5.out.below HBx.out).one (fun _ => rfl) (by omega) (by omega)
          obtain ⟨c0, c1, c2, c3⟩ := rcond_cells hcell hc
          have hcok := HCok.out c (List.mem_of_getElem? hc)
          have hck := Lib.hid (fun W => refCondCheck_any c.arg c.op c.mask c.val W hcok.2.2.2.1 hcok.2.2.2.2)
          have HXc := Lib.hid hc
          clear hcell hc hcok
          go_wp2_with fail
          refine (hck.out _).mono ?_
          clear hck c0 c1 c2 c3 n2
          rintro e w6 ⟨rfl, hb6⟩
          have HB6 := Lib.hid (HBx.out.trans (hb6.mono HBx.out.size))
          clear hb6
          have hce : (⟨c.arg, c.op, c.mask, c.val⟩ : CondM) = c := rfl
          rw [hce]
          clear hce
          by_cases hz : condE c = 0
          · have HKc := Lib.hid (show firstE (fun _ c => condE c) 0 cs = firstE (fun _ c => condE c) (j + 1) (cs.drop (j + 1)) from HFc.out.trans (firstE_on (f := fun _ c => condE c) HXc.out hz))
            rw [hz]
            clear hz
            go_wp2_with fail
            go_roundw
            case rel => exact ⟨j + 1, by go_num, by omega, HKc, HB6⟩
            case measure => simp [intOf]; omega
          · have HV := Lib.hid (Hbad.out (condE c) hz (HRE.out.trans (HFc.out.trans (firstE_bad (f := fun _ c => condE c) HXc.out hz))))
            have gz : ((condE c : Int) != 0) = true := by rw [bne_iff_ne]; omega
            clear hz
            go_wp2_with fail
            go_ret
            exact ret_of HV.out rfl (HB1.out.trans ((HB5.out.trans (HB6.out.mono HB5.out.size)).mono HB1.out.size))
        · have HKc := Lib.hid (show firstE (fun _ (r : RuleV) => ruleE r.m) 0 rules = firstE (fun _ r => ruleE r.m) (k + 1) (rules.drop (k + 1)) from HF.out.trans (firstE_on (f := fun _ (r : RuleV) => ruleE r.m) HX.out (by show ruleE ⟨num, act, cs⟩ = 0; rw [HRE.out, HFc.out]; exact firstE_end _ _ (by have := HNc.out; omega) _)))
          go_wp2_with fail
          go_roundw
          case rel => exact ⟨k + 1, by go_num, by omega, HKc, HBw⟩
          case measure => simp [intOf]; omega
    · have HK := Lib.hid (show ¬ firstE (fun _ (r : RuleV) => ruleE r.m) 0 rules ≠ 0 by rw [HF.out.trans (firstE_end _ _ (by have := HnR.out; omega) _)]; simp)
      have hr2 := HR1.out.below HB.out
      have hk2 := HK1.out.kept HB.out
      have HB2 := Lib.hid (HB1.out.trans (HB.out.mono HB1.out.size))
      go_wp2_with fail
      have HR2 := Lib.hid hr2
      have HK2 := Lib.hid hk2
      clear hr2 hk2 q2 HR1 HK1 HB1 HF HB hlt
      clear hl1

      go_loopw [9] (fun iv wy => ∃ k : Nat, iv = .int .i64 k ∧ k ≤ nP ∧ Hid (firstE (pathE paths hd) 0 paths = firstE (pathE paths hd) k (paths.drop k)) ∧ Hid (Below wr.heap.size wr wy)) (fun iv _ => nP - (intOf iv).toNat)
      case atStart => exact ⟨0, rfl, Nat.zero_le _, rfl, Below.refl _ _⟩
      case round =>
        rename World => wy
        obtain ⟨i, rfl, hi, HFi, HBy⟩ := hrel
        have hlwy : w.heap.size < wy.heap.size := Nat.lt_of_lt_of_le hlw HBy.out.size
        have q4 := (HK2.out.kept HBy.out).cell 4 rfl
        have HBw := Lib.hid (HB2.out.trans (HBy.out.mono HB2.out.size))
        by_cases hil : i < nP
        · obtain ⟨x, hx⟩ : ∃ x, paths[i]? = some x := ⟨_, List.getElem?_eq_getElem (by have := HnP.out; omega)⟩
          have hxok := Hpa.out x (List.mem_of_getElem? hx)
          obtain ⟨x1, x2⟩ := x
          simp only at hxok
          have hrd := (HR2.out.below HBy.out).paths
          simp only [HnP.out] at hrd
          obtain ⟨bp, op, hAe, hbp, hcell⟩ := hrd.one (fun _ => rfl) (by omega) (by omega)
          subst hAe
          obtain ⟨c0, c1⟩ := two_cells (f := pathR) hcell hx rfl
          have HXi := Lib.hid hx
          have hbad := fun (n : Nat) (hn0 : n ≠ 0) (hre : pathE paths hd i (x1, x2) = n) => show polE ⟨nm, dflt, rules.map RuleV.m, hd, paths, ports⟩ = n by
            have hE : firstE (pathE paths hd) 0 paths = n := HFi.out.trans ((firstE_bad (f := pathE paths hd) HXi.out (by rw [hre]; exact hn0)).trans hre)
            rw [HPE.out, if_neg HK.out, if_pos (by rw [hE]; exact hn0), hE]
          have Hbad := Lib.hid hbad
          clear hcell hx hrd hbad
          have hpa := Lib.hid (fun W => refPath_any x1 W hxok.1)
          go_wp2_with fail
          refine (hpa.out _).mono ?_
          clear hpa c0 c1 q4
          rintro e w8 ⟨rfl, hb8⟩
          have hbn := (Bk.new wy 113 #[.string ⟨x1.toArray⟩, .int .i64 x2] (l := [.string ⟨x1.toArray⟩, .int .i64 x2]) rfl).kept hb8
          have HB8 := Lib.hid ((HBy.out.alloc HBy.out.size (.cells #[.string ⟨x1.toArray⟩, .int .i64 x2] 113)).trans (hb8.mono (by have := HBy.out.size; simp; omega)))
          have HBn := Lib.hid hbn
          have n0 := hbn.cell 0 rfl
          have n1 := hbn.cell 1 rfl
          have hnl := hbn.lt
          have hl8 := Nat.lt_of_lt_of_le hlw HB8.out.size
          have q3 := (HK2.out.kept HB8.out).cell 3 rfl
          clear hb8 hbn
          cases hp : pathB x1 with
          | false =>
            have HV := Lib.hid (Hbad.out 203 (by decide) (by unfold pathE; rw [if_pos hp]))
            clear hp
            go_wp2_with fail
            go_ret
            exact ret_of HV.out rfl (HB2.out.trans (HB8.out.mono HB2.out.size))
          | true =>
          have HPt := Lib.hid (show ¬ pathB x1 = false by rw [hp]; simp)
          clear hp
          go_wp2_with fail
          by_cases hr0 : x2 = 0
          · have HV := Lib.hid (Hbad.out 204 (by decide) (by unfold pathE; rw [if_neg HPt.out]; rw [if_pos (by rw [hr0]; exact grant_no)]))
            subst hr0
            go_quiet (fail)
            go_wp2_with fail
            go_ret
            exact ret_of HV.out rfl (HB2.out.trans ((below_drewN HB8.out _).mono HB2.out.size))
          have gr : ((x2 : Int) == 0) = false := by rw [beq_eq_false_iff_ne]; omega
          have HGr := Lib.hid (grant_some (h := hd) (k := 2047) hr0)
          have cB := fun W => both_any hd 2047 W hhd (by omega)
          have hbl2 : hd &&& 2047 < 65536 := Nat.lt_of_le_of_lt Nat.and_le_left hhd
          have cW := fun W => within_any x2 (hd &&& 2047) W hxok.2 hbl2
          obtain ⟨bt, hbt⟩ : ∃ bt, bt = hd &&& 2047 := ⟨_, rfl⟩
          rw [← hbt] at cB cW HGr hbl2
          clear hbt hr0
          cases hg : hasS bt x2 with
          | false =>
            have HV := Lib.hid (Hbad.out 204 (by decide) (by unfold pathE; rw [if_neg HPt.out]; rw [if_pos (by rw [HGr.out]; exact hg)]))
            rw [hg] at cW
            clear hg
            go_quiet (first | (go_at_call 31; exact quiet_l (cB _)) | (go_at_call 28; exact quiet_l (cW _)))
            go_wp2_with fail
            go_ret
            exact ret_of HV.out rfl (HB2.out.trans ((below_drewN HB8.out _).mono HB2.out.size))
          | true =>
          have HGt := Lib.hid (show ¬ grantB hd x2 2047 = false by rw [HGr.out, hg]; simp)
          rw [hg] at cW
          clear hg
          go_quiet (first | (go_at_call 31; exact quiet_l (cB _)) | (go_at_call 28; exact quiet_l (cW _)))
          go_wp2_with fail
          have hb9 := below_drewN HB8.out nq
          have hk9 := HBn.out.drewN nq
          clear cB cW n0 n1 q3 hnl hl8
          generalize w8.drewN nq = w9 at hb9 hk9 ⊢
          have HB9 := Lib.hid hb9
          have HK9 := Lib.hid hk9
          have hnl9 := hk9.lt
          clear hb9 hk9 HB8 HBn
          go_loopw [11] (fun iv wz => ∃ k : Nat, iv = .int .i64 k ∧ k ≤ i ∧ Hid (((paths.take k).any fun y => decide (y.1 = x1)) = false) ∧ Hid (Below w9.heap.size w9 wz)) (fun iv _ => i - (intOf iv).toNat)
          case atStart => exact ⟨0, rfl, Nat.zero_le _, rfl, Below.refl _ _⟩
          case round =>
            rename World => wz
            obtain ⟨k, rfl, hk, HTk, HBz⟩ := hrel
            have HBzz := Lib.hid (HB9.out.trans (HBz.out.mono HB9.out.size))
            have hlz := Nat.lt_of_lt_of_le hlw HBzz.out.size
            have hnz := Nat.lt_of_lt_of_le hnl9 HBz.out.size
            have q4 := (HK2.out.kept HBzz.out).cell 4 rfl
            have n0 := (HK9.out.kept HBz.out).cell 0 rfl
            by_cases hkl : k < i
            · obtain ⟨y, hy⟩ : ∃ y, paths[k]? = some y := ⟨_, List.getElem?_eq_getElem (by have := HnP.out; omega)⟩
              have hyok := Hpa.out y (List.mem_of_getElem? hy)
              obtain ⟨y1, y2⟩ := y
              have hrd := (HR2.out.below HBzz.out).paths
              simp only [HnP.out] at hrd
              obtain ⟨bz, oz, hAz, hbz, hcell⟩ := hrd.one (fun _ => rfl) (by omega) (by omega)
              simp only [Option.some.injEq, Addr.mk.injEq, and_true] at hAz
              obtain ⟨hz1, hz2⟩ := hAz
              subst hz1 hz2
              obtain ⟨c0, c1⟩ := two_cells (f := pathR) hcell hy rfl
              have HY := Lib.hid hy
              have hkP : k < nP := by omega
              clear hcell hy hrd
              by_cases he : y1 = x1
              · have HV := Lib.hid (Hbad.out 206 (by decide) (by unfold pathE; rw [if_neg HPt.out]; rw [if_neg HGt.out, if_pos (List.any_eq_true.2 ⟨(y1, y2), List.mem_of_getElem? (by rw [List.getElem?_take, if_pos hkl]; exact HY.out), by simpa using he⟩)]))
                subst he
                go_wp2_with fail
                go_quiet (fail)
                go_wp2_with fail
                go_ret
                exact ret_of HV.out rfl (HB2.out.trans ((below_drewN HBzz.out _).mono HB2.out.size))
              · have HT2 := Lib.hid (show ((paths.take (k + 1)).any fun y => decide (y.1 = x1)) = false by rw [List.take_add_one, HY.out, List.any_append, HTk.out]; simpa using he)
                have ge : (y1 == x1) = false := by simpa using he
                clear he
                go_wp2_with fail
                go_quiet (fail)
                go_wp2_with fail
                go_roundw
                case rel => exact ⟨k + 1, by go_num, by omega, HT2, below_drewN HBz.out _⟩
                case measure => simp [intOf]; omega
            · obtain rfl : k = i := by omega
              have HT2 := Lib.hid (show firstE (pathE paths hd) 0 paths = firstE (pathE paths hd) (k + 1) (paths.drop (k + 1)) from HFi.out.trans (firstE_on (f := pathE paths hd) HXi.out (by unfold pathE; rw [if_neg HPt.out]; rw [if_neg HGt.out, if_neg (by rw [HTk.out]; simp)])))
              go_wp2_with fail
              go_roundw
              case rel => exact ⟨k + 1, by go_num, by omega, HT2, HBzz⟩
              case measure => simp [intOf]; omega
        · have HKP := Lib.hid (show ¬ firstE (pathE paths hd) 0 paths ≠ 0 by rw [HFi.out.trans (firstE_end _ _ (by have := HnP.out; omega) _)]; simp)
          have hr3 := HR2.out.below HBy.out
          have hk3 := HK2.out.kept HBy.out
          go_wp2_with fail
          have HR3 := Lib.hid hr3
          have HK3 := Lib.hid hk3
          have HB7 := HBw
          have hlw3 := hlwy
          clear hr3 hk3 q4 HR2 HK2 HB2 HFi HBy hil hlwy HBw
          go_loopw [12] (fun iv wv => ∃ k : Nat, iv = .int .i64 k ∧ k ≤ nQ ∧ Hid (firstE (portE ports hd) 0 ports = firstE (portE ports hd) k (ports.drop k)) ∧ Hid (Below wy.heap.size wy wv)) (fun iv _ => nQ - (intOf iv).toNat)
          case atStart => exact ⟨0, rfl, Nat.zero_le _, rfl, Below.refl _ _⟩
          case round =>
            rename World => wv
            obtain ⟨i, rfl, hi, HFi, HBy⟩ := hrel
            have hlwv : w.heap.size < wv.heap.size := Nat.lt_of_lt_of_le hlw3 HBy.out.size
            have q5 := (HK3.out.kept HBy.out).cell 5 rfl
            have HBw := Lib.hid (HB7.out.trans (HBy.out.mono HB7.out.size))
            by_cases hil : i < nQ
            · obtain ⟨x, hx⟩ : ∃ x, ports[i]? = some x := ⟨_, List.getElem?_eq_getElem (by have := HnQ.out; omega)⟩
              have hxok := Hpo.out x (List.mem_of_getElem? hx)
              obtain ⟨x1, x2⟩ := x
              simp only at hxok
              have hrd := (HR3.out.below HBy.out).ports
              simp only [HnQ.out] at hrd
              obtain ⟨bp, op, hAe, hbp, hcell⟩ := hrd.one (fun _ => rfl) (by omega) (by omega)
              subst hAe
              obtain ⟨c0, c1⟩ := two_cells (f := portR) hcell hx rfl
              have HXi := Lib.hid hx
              have hbad := fun (n : Nat) (hn0 : n ≠ 0) (hre : portE ports hd i (x1, x2) = n) => show polE ⟨nm, dflt, rules.map RuleV.m, hd, paths, ports⟩ = n by
                have hE : firstE (portE ports hd) 0 ports = n := HFi.out.trans ((firstE_bad (f := portE ports hd) HXi.out (by rw [hre]; exact hn0)).trans hre)
                rw [HPE.out, if_neg HK.out, if_neg HKP.out, hE]
              have Hbad := Lib.hid hbad
              clear hcell hx hrd hbad
              go_wp2_with fail
              have hbn := Bk.new wv 116 #[.int .i64 x1, .int .i64 x2] (l := [.int .i64 x1, .int .i64 x2]) rfl
              have hb8 := HBy.out.alloc HBy.out.size (.cells #[.int .i64 x1, .int .i64 x2] 116)
              have hnl := hbn.lt
              have n0 := hbn.cell 0 rfl
              have n1 := hbn.cell 1 rfl
              clear c0 c1 q5
              generalize wv.alloc _ = w8 at hbn hb8 hnl n0 n1 ⊢
              have HB8 := Lib.hid hb8
              have HBn := Lib.hid hbn
              have hl8 := Nat.lt_of_lt_of_le hlw3 HB8.out.size
              have q3 := (HK3.out.kept HB8.out).cell 3 rfl
              clear hb8 hbn
              by_cases hr0 : x2 = 0
              · have HV := Lib.hid (Hbad.out 204 (by decide) (by unfold portE; rw [if_pos (by rw [hr0]; exact grant_no)]))
                subst hr0
                go_quiet (fail)
                go_wp2_with fail
                go_ret
                exact ret_of HV.out rfl (HB7.out.trans ((below_drewN HB8.out _).mono HB7.out.size))
              have gr : ((x2 : Int) == 0) = false := by rw [beq_eq_false_iff_ne]; omega
              have HGr := Lib.hid (grant_some (h := hd) (k := 49152) hr0)
              have cB := fun W => both_any hd 49152 W hhd (by omega)
              have hbl2 : hd &&& 49152 < 65536 := Nat.lt_of_le_of_lt Nat.and_le_left hhd
              have cW := fun W => within_any x2 (hd &&& 49152) W hxok.2 hbl2
              obtain ⟨bt, hbt⟩ : ∃ bt, bt = hd &&& 49152 := ⟨_, rfl⟩
              rw [← hbt] at cB cW HGr hbl2
              clear hbt hr0
              cases hg : hasS bt x2 with
              | false =>
                have HV := Lib.hid (Hbad.out 204 (by decide) (by unfold portE; rw [if_pos (by rw [HGr.out]; exact hg)]))
                rw [hg] at cW
                clear hg
                go_quiet (first | (go_at_call 31; exact quiet_l (cB _)) | (go_at_call 28; exact quiet_l (cW _)))
                go_wp2_with fail
                go_ret
                exact ret_of HV.out rfl (HB7.out.trans ((below_drewN HB8.out _).mono HB7.out.size))
              | true =>
              have HGt := Lib.hid (show ¬ grantB hd x2 49152 = false by rw [HGr.out, hg]; simp)
              rw [hg] at cW
              clear hg
              go_quiet (first | (go_at_call 31; exact quiet_l (cB _)) | (go_at_call 28; exact quiet_l (cW _)))
              go_wp2_with fail
              have hb9 := below_drewN HB8.out nq
              have hk9 := HBn.out.drewN nq
              clear cB cW n0 n1 q3 hnl hl8
              generalize w8.drewN nq = w9 at hb9 hk9 ⊢
              have HB9 := Lib.hid hb9
              have HK9 := Lib.hid hk9
              have hnl9 := hk9.lt
              clear hb9 hk9 HB8 HBn
              go_loopw [14] (fun iv wz => ∃ k : Nat, iv = .int .i64 k ∧ k ≤ i ∧ Hid (((ports.take k).any fun y => decide (y.1 = x1)) = false) ∧ Hid (Below w9.heap.size w9 wz)) (fun iv _ => i - (intOf iv).toNat)
              case atStart => exact ⟨0, rfl, Nat.zero_le _, rfl, Below.refl _ _⟩
              case round =>
                rename World => wz
                obtain ⟨k, rfl, hk, HTk, HBz⟩ := hrel
                have HBzz := Lib.hid (HB9.out.trans (HBz.out.mono HB9.out.size))
                have hlz := Nat.lt_of_lt_of_le hlw3 HBzz.out.size
                have hnz := Nat.lt_of_lt_of_le hnl9 HBz.out.size
                have q5 := (HK3.out.kept HBzz.out).cell 5 rfl
                have n0 := (HK9.out.kept HBz.out).cell 0 rfl
                by_cases hkl : k < i
                · obtain ⟨y, hy⟩ : ∃ y, ports[k]? = some y := ⟨_, List.getElem?_eq_getElem (by have := HnQ.out; omega)⟩
                  have hyok := Hpo.out y (List.mem_of_getElem? hy)
                  obtain ⟨y1, y2⟩ := y
                  have hrd := (HR3.out.below HBzz.out).ports
                  simp only [HnQ.out] at hrd
                  obtain ⟨bz, oz, hAz, hbz, hcell⟩ := hrd.one (fun _ => rfl) (by omega) (by omega)
                  simp only [Option.some.injEq, Addr.mk.injEq, and_true] at hAz
                  obtain ⟨hz1, hz2⟩ := hAz
                  subst hz1 hz2
                  obtain ⟨c0, c1⟩ := two_cells (f := portR) hcell hy rfl
                  have HY := Lib.hid hy
                  have hkP : k < nQ := by omega
                  clear hcell hy hrd
                  by_cases he : y1 = x1
                  · have HV := Lib.hid (Hbad.out 206 (by decide) (by unfold portE; rw [if_neg HGt.out, if_pos (List.any_eq_true.2 ⟨(y1, y2), List.mem_of_getElem? (by rw [List.getElem?_take, if_pos hkl]; exact HY.out), by simpa using he⟩)]))
                    subst he
                    go_wp2_with fail
                    go_quiet (fail)
                    go_wp2_with fail
                    go_ret
                    exact ret_of HV.out rfl (HB7.out.trans ((below_drewN HBzz.out _).mono HB7.out.size))
                  · have HT2 := Lib.hid (show ((ports.take (k + 1)).any fun y => decide (y.1 = x1)) = false by rw [List.take_add_one, HY.out, List.any_append, HTk.out]; simpa using he)
                    have ge : ((y1 : Int) == (x1 : Int)) = false := by rw [beq_eq_false_iff_ne]; omega
                    clear he
                    go_wp2_with fail
                    go_quiet (fail)
                    go_wp2_with fail
                    go_roundw
                    case rel => exact ⟨k + 1, by go_num, by omega, HT2, below_drewN HBz.out _⟩
                    case measure => simp [intOf]; omega
                · obtain rfl : k = i := by omega
                  have HT2 := Lib.hid (show firstE (portE ports hd) 0 ports = firstE (portE ports hd) (k + 1) (ports.drop (k + 1)) from HFi.out.trans (firstE_on (f := portE ports hd) HXi.out (by unfold portE; rw [if_neg HGt.out, if_neg (by rw [HTk.out]; simp)])))
                  go_wp2_with fail
                  go_roundw
                  case rel => exact ⟨k + 1, by go_num, by omega, HT2, HBzz⟩
                  case measure => simp [intOf]; omega
            · have HV := Lib.hid (show polE ⟨nm, dflt, rules.map RuleV.m, hd, paths, ports⟩ = 0 by rw [HPE.out, if_neg HK.out, if_neg HKP.out]; exact HFi.out.trans (firstE_end _ _ (by have := HnQ.out; omega) _))
              go_wp2_with fail
              go_ret
              exact ret_of HV.out rfl HBw.out
end Go.Proofs.YtonpakndocgndaaGreatDoor
