/- Is a policy soon gone through: the walk. -/
import Derived.Test.YtgdoampokcpagaaGw
namespace Go.Proofs.Ytgdoampokcpagaa
open Go.RowKit
/-- A policy that is soon gone through. -/
structure FewP (nm : Bs) (rules : List RuleV) (paths : List (Bs × Nat)) (ports : List (Nat × Nat)) : Prop where
  fName : nm.length ≤ 100
  fRules : rules.length ≤ 80
  fConds : ∀ r ∈ rules, r.m.conds.length ≤ 20
  fPaths : paths.length ≤ 50
  fPath : ∀ x ∈ paths, x.1.length ≤ 200
  fPorts : ports.length ≤ 50
def FewPost (nm : Bs) (rules : List RuleV) (paths : List (Bs × Nat)) (ports : List (Nat × Nat)) (w : World) (e : Ending) (w' : World) : Prop := (∃ b : Bool, e = .returned (.bool b) ∧ (b = true → FewP nm rules paths ports)) ∧ Below w.heap.size w w'
theorem few_no {nm : Bs} {rules : List RuleV} {paths : List (Bs × Nat)} {ports : List (Nat × Nat)} {w w' : World} {e : Ending} (he : e = .returned (.bool false)) (hb : Below w.heap.size w w') : FewPost nm rules paths ports w e w' := ⟨⟨false, he, fun h => by cases h⟩, hb⟩
set_option maxHeartbeats 4000000 in
set_option maxRecDepth 100000 in
theorem few_any (nm : Bs) (dflt : Nat) (rules : List RuleV) (RA : Option Addr) (nR Rc hd : Nat) (paths : List (Bs × Nat)) (PA : Option Addr) (nP Pc : Nat) (ports : List (Nat × Nat)) (QA : Option Addr) (nQ Qc : Nat) (w : World)
    (hnR : rules.length = nR) (hnP : paths.length = nP) (hnQ : ports.length = nQ) (hlR : nR ≤ maxLen) (hlP : nP ≤ maxLen) (hlQ : nQ ≤ maxLen)
    (hru : ∀ r ∈ rules, r.m.conds.length ≤ maxLen) (hpa : ∀ x ∈ paths, x.1.length ≤ maxLen)
    (hR : Reads w ⟨nm, dflt, rules, RA, Rc, hd, paths, PA, Pc, ports, QA, Qc⟩) :
    Calls Try.prog 7 #[.agg #[.string ⟨nm.toArray⟩, .int .u32 dflt, .slice RA nR Rc, .int .u16 hd, .slice PA nP Pc, .slice QA nQ Qc]] w (FewPost nm rules paths ports w) := by
  have hbk := Bk.new w 30 #[.string ⟨nm.toArray⟩, .int .u32 dflt, .slice RA nR Rc, .int .u16 hd, .slice PA nP Pc, .slice QA nQ Qc] (l := [.string ⟨nm.toArray⟩, .int .u32 dflt, .slice RA nR Rc, .int .u16 hd, .slice PA nP Pc, .slice QA nQ Qc]) rfl
  have hb0 := one_alloc w (.cells #[.string ⟨nm.toArray⟩, .int .u32 dflt, .slice RA nR Rc, .int .u16 hd, .slice PA nP Pc, .slice QA nQ Qc] 30)
  have HR := Lib.hid (hR.below hb0)
  have Hru := Lib.hid hru
  have Hpa := Lib.hid hpa
  have HnR := Lib.hid hnR
  have HnP := Lib.hid hnP
  have HnQ := Lib.hid hnQ
  have hlR' : nR ≤ 9223372036854775807 := hlR
  have hlP' : nP ≤ 9223372036854775807 := hlP
  have hlQ' : nQ ≤ 9223372036854775807 := hlQ
  have hsz : (⟨nm.toArray⟩ : ByteArray).size = nm.length := by rw [Lib.size_eq]
  clear hR hru hpa hnR hnP hnQ hlR hlP hlQ
  go_enter Try.func7, Try.ntmps7
  go_wp2_with fail
  have hlt0 := hbk.lt
  generalize w.alloc _ = w1 at hbk hb0 hlt0 HR ⊢
  have HK := Lib.hid hbk
  have HB0 := Lib.hid hb0
  clear hbk hb0
  go_loopw [10] (fun iv wr => ∃ k : Nat, iv = .int .i64 k ∧ k ≤ nR ∧ Hid (∀ r ∈ rules.take k, r.m.conds.length ≤ 20) ∧ Hid (Below w1.heap.size w1 wr)) (fun iv _ => nR - (intOf iv).toNat)
  case atStart => exact ⟨0, rfl, Nat.zero_le _, Lib.hid (by simp), Below.refl _ _⟩
  case round =>
    obtain ⟨k, rfl, hk, HF, HB⟩ := hrel
    have hlw := Nat.lt_of_lt_of_le hlt0 HB.out.size
    by_cases hlt : k < nR
    · obtain ⟨r, hr⟩ : ∃ r, rules[k]? = some r := ⟨_, List.getElem?_eq_getElem (by have := HnR.out; omega)⟩
      have hrd := (HR.out.below HB.out).rules
      simp only [HnR.out] at hrd
      obtain ⟨bb, o, hAe, hbl, hcell⟩ := hrd.one (fun _ => rfl) (by omega) (by omega)
      subst hAe
      obtain ⟨c0, c1, c2⟩ := rule_cells hcell hr
      have hlc := Hru.out r (List.mem_of_getElem? hr)
      have HX := Lib.hid hr
      obtain ⟨nc, hnc⟩ : ∃ nc, nc = r.m.conds.length := ⟨_, rfl⟩
      rw [← hnc] at c2 hlc
      have hlc' : nc ≤ 9223372036854775807 := hlc
      have HNc := Lib.hid hnc
      clear hcell hr hrd hlc hnc
      by_cases h20 : 20 < nc
      · have g20 : (20 : Int) < (nc : Int) := by omega
        go_wp2_with fail
        go_ret
        exact few_no rfl (HB0.out.trans ((HB.out.alloc HB.out.size _).mono HB0.out.size))
      · have g20 : ¬ (20 : Int) < (nc : Int) := by omega
        have HF2 := Lib.hid (show ∀ r ∈ rules.take (k + 1), r.m.conds.length ≤ 20 from fun y hy => by
          rw [List.take_add_one, HX.out] at hy
          rcases List.mem_append.1 hy with h | h
          · exact HF.out y h
          · simp at h; subst h; rw [← HNc.out]; omega)
        clear h20
        go_wp2_with fail
        go_roundw
        case rel => exact ⟨k + 1, by go_num, by omega, HF2, HB.out.alloc HB.out.size _⟩
        case measure => simp [intOf]; omega
    · have HF2 := Lib.hid (show ∀ r ∈ rules, r.m.conds.length ≤ 20 from fun y hy => HF.out y (by rw [List.take_of_length_le (by have := HnR.out; omega)]; exact hy))
      have q4 := (HK.out.kept HB.out).cell 4 rfl
      have HB1 := Lib.hid (HB0.out.trans (HB.out.mono HB0.out.size))
      have HR1 := Lib.hid (HR.out.below HB.out)
      have HK1 := Lib.hid (HK.out.kept HB.out)
      go_wp2_with fail
      clear q4 HF HB hlt hlt0 HB0 HR HK
      go_loopw [22] (fun iv wy => ∃ k : Nat, iv = .int .i64 k ∧ k ≤ nP ∧ Hid (∀ x ∈ paths.take k, x.1.length ≤ 200) ∧ Hid (Below wr.heap.size wr wy)) (fun iv _ => nP - (intOf iv).toNat)
      case atStart => exact ⟨0, rfl, Nat.zero_le _, Lib.hid (by simp), Below.refl _ _⟩
      case round =>
        rename World => wy
        obtain ⟨i, rfl, hi, HP, HBy⟩ := hrel
        have hlwy := Nat.lt_of_lt_of_le hlw HBy.out.size
        have HB2 := Lib.hid (HB1.out.trans (HBy.out.mono HB1.out.size))
        by_cases hil : i < nP
        · obtain ⟨x, hx⟩ : ∃ x, paths[i]? = some x := ⟨_, List.getElem?_eq_getElem (by have := HnP.out; omega)⟩
          have hxl := Hpa.out x (List.mem_of_getElem? hx)
          obtain ⟨x1, x2⟩ := x
          simp only at hxl
          have hxl' : x1.length ≤ 9223372036854775807 := hxl
          have hrd := (HR1.out.below HBy.out).paths
          simp only [HnP.out] at hrd
          obtain ⟨bp, op, hAp, hbp, hcell⟩ := hrd.one (fun _ => rfl) (by omega) (by omega)
          subst hAp
          obtain ⟨c0, c1⟩ := two_cells (f := pathC) hcell hx rfl
          have HX := Lib.hid hx
          have hsx : (⟨x1.toArray⟩ : ByteArray).size = x1.length := by rw [Lib.size_eq]
          clear hcell hx hrd hxl
          by_cases h200 : 200 < x1.length
          · have g200 : (200 : Int) < (x1.length : Int) := by omega
            go_wp2_with fail
            go_ret
            exact few_no rfl (HB2.out.alloc HB2.out.size _)
          · have g200 : ¬ (200 : Int) < (x1.length : Int) := by omega
            have HP2 := Lib.hid (show ∀ x ∈ paths.take (i + 1), x.1.length ≤ 200 from fun y hy => by
              rw [List.take_add_one, HX.out] at hy
              rcases List.mem_append.1 hy with h | h
              · exact HP.out y h
              · simp at h; subst h; show x1.length ≤ 200; omega)
            clear h200
            go_wp2_with fail
            go_roundw
            case rel => exact ⟨i + 1, by go_num, by omega, HP2, HBy.out.alloc HBy.out.size _⟩
            case measure => simp [intOf]; omega
        · have HP2 := Lib.hid (show ∀ x ∈ paths, x.1.length ≤ 200 from fun y hy => HP.out y (by rw [List.take_of_length_le (by have := HnP.out; omega)]; exact hy))
          have q0 := (HK1.out.kept HBy.out).cell 0 rfl
          have q2 := (HK1.out.kept HBy.out).cell 2 rfl
          have q4 := (HK1.out.kept HBy.out).cell 4 rfl
          have q5 := (HK1.out.kept HBy.out).cell 5 rfl
          by_cases h1 : nR ≤ 80
          · have g1 : (nR : Int) ≤ 80 := by omega
            have d1 : decide ((nR : Int) ≤ 80) = true := decide_eq_true g1
            by_cases h2 : nP ≤ 50
            · have g2 : (nP : Int) ≤ 50 := by omega
              have d2 : decide ((nP : Int) ≤ 50) = true := decide_eq_true g2
              by_cases h3 : nQ ≤ 50
              · have g3 : (nQ : Int) ≤ 50 := by omega
                have d3 : decide ((nQ : Int) ≤ 50) = true := decide_eq_true g3
                by_cases h4 : nm.length ≤ 100
                · have g4 : (nm.length : Int) ≤ 100 := by omega
                  have d4 : decide ((nm.length : Int) ≤ 100) = true := decide_eq_true g4
                  have HV := Lib.hid (show FewP nm rules paths ports from ⟨h4, by rw [HnR.out]; exact h1, HF2.out, by rw [HnP.out]; exact h2, HP2.out, by rw [HnQ.out]; exact h3⟩)
                  clear h1 h2 h3 h4
                  go_wp2_with fail
                  go_ret
                  exact ⟨⟨true, rfl, fun _ => HV.out⟩, HB2.out⟩
                · have g4 : ¬ (nm.length : Int) ≤ 100 := by omega
                  have d4 : decide ((nm.length : Int) ≤ 100) = false := decide_eq_false g4
                  clear h1 h2 h3 h4
                  go_wp2_with fail
                  go_ret
                  exact few_no rfl HB2.out
              · have g3 : ¬ (nQ : Int) ≤ 50 := by omega
                have d3 : decide ((nQ : Int) ≤ 50) = false := decide_eq_false g3
                clear h1 h2 h3
                go_wp2_with fail
                go_ret
                exact few_no rfl HB2.out
            · have g2 : ¬ (nP : Int) ≤ 50 := by omega
              have d2 : decide ((nP : Int) ≤ 50) = false := decide_eq_false g2
              clear h1 h2
              go_wp2_with fail
              go_ret
              exact few_no rfl HB2.out
          · have g1 : ¬ (nR : Int) ≤ 80 := by omega
            have d1 : decide ((nR : Int) ≤ 80) = false := decide_eq_false g1
            clear h1
            go_wp2_with fail
            go_ret
            exact few_no rfl HB2.out
end Go.Proofs.Ytgdoampokcpagaa

