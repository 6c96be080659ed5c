/- Whether a rule may be: the program's way. -/
import Derived.Test.YtonpakndocgndaaGreatDoorActW
namespace Go.Proofs.YtonpakndocgndaaGreatDoor
open Go.RowKit

theorem grown_of_belowT {w w' : World} (h : Below w.heap.size w w') : w.grownBy w' none := ⟨h.os, h.tape, h.output, h.size, fun i hi _ => h.block i hi⟩
def TS (w : World) (tb n : Nat) : Prop := ∃ a : Int, 0 ≤ a ∧ a ≤ n ∧ TState w tb a
theorem TS.lt {w : World} {tb n : Nat} (h : TS w tb n) : tb < w.heap.size := by obtain ⟨_, _, _, h⟩ := h; exact h.lt
theorem TS.alloc {w : World} {tb n : Nat} (h : TS w tb n) (o : Obj) : TS (w.alloc o) tb n := by obtain ⟨a, h1, h2, h⟩ := h; exact ⟨a, h1, h2, h.alloc o⟩
theorem TState.kept {w w' : World} {b : Nat} {asked : Int} (h : TState w b asked) (hb : Below w.heap.size w w') : TState w' b asked := by
  rcases h with ⟨h0, h⟩ | h
  · exact .inl ⟨h0, h.kept (r := none) (grown_of_belowT hb) (by simp)⟩
  · exact .inr (h.kept (grown_of_belowT hb) rfl)
theorem TS.kept {w w' : World} {tb n : Nat} (h : TS w tb n) (hb : Below w.heap.size w w') : TS w' tb n := by obtain ⟨a, h1, h2, h⟩ := h; exact ⟨a, h1, h2, h.kept hb⟩
theorem TS.mono {w : World} {tb n m : Nat} (h : TS w tb n) (hm : n ≤ m) : TS w tb m := by obtain ⟨a, h1, h2, h⟩ := h; exact ⟨a, h1, by omega, h⟩
theorem cond_cells {w : World} {b o k : Nat} {l : List CondM} {x : CondM} (hc : ∀ k x, l[k]? = some x → ∀ j v, (CondM.cells x)[j]? = some v → w.cell? ⟨b, o + (k * 4 + j), none⟩ = some v) (h : l[k]? = some x) :
    w.cell? ⟨b, o + k * 4, none⟩ = some (.int .i64 x.arg) ∧ w.cell? ⟨b, o + k * 4 + 1, none⟩ = some (.int .u8 x.op) ∧ w.cell? ⟨b, o + k * 4 + 2, none⟩ = some (.int .u64 x.mask) ∧ w.cell? ⟨b, o + k * 4 + 3, none⟩ = some (.int .u64 x.val) :=
  ⟨by have := hc k x h 0 _ rfl; simpa using this, by have := hc k x h 1 _ rfl; simpa [Nat.add_assoc] using this, by have := hc k x h 2 _ rfl; simpa [Nat.add_assoc] using this, by have := hc k x h 3 _ rfl; simpa [Nat.add_assoc] using this⟩
theorem grow_alloc {w w1 : World} {r : Option Nat} (h : w.grownBy w1 r) (o : Obj) : w.grownBy (w1.alloc o) r := grown_trans h (World.grownBy_alloc w1 o none) (by simp)
theorem grow_below {w w1 w2 : World} {r : Option Nat} (h : w.grownBy w1 r) (hb : Below w1.heap.size w1 w2) : w.grownBy w2 r := grown_trans h (grown_of_belowT hb) (by simp)
def RuPost (n tb m : Nat) (w : World) (e : Ending) (w' : World) : Prop := e = .returned (.int .i64 n) ∧ TS w' tb m ∧ w.grownBy w' (some tb)
theorem ru_of {n k tb m : Nat} {w w' : World} {e : Ending} (h : n = k) (he : e = .returned (.int .i64 k)) (ht : TS w' tb m) (hg : w.grownBy w' (some tb)) : RuPost n tb m w e w' := by subst h; exact ⟨he, ht, hg⟩
set_option maxHeartbeats 4000000 in
set_option maxRecDepth 100000 in
theorem rule_any (num act : Nat) (cs : List CondM) (A : Option Addr) (n cap tb m : Nat) (w : World) (hok : RuleM.ok ⟨num, act, cs⟩) (hn : cs.length = n) (hR : Rd w 4 n A (cs.flatMap CondM.cells)) (hO : Off n A tb) (hT : TS w tb m) (hm : m ≤ 1000000) :
    Calls Tryz.prog 23 #[.agg #[.int .u32 num, .int .u32 act, .slice A n cap], .pointer (some ⟨tb, 0, none⟩)] w (RuPost (ruleE ⟨num, act, cs⟩) tb (m + 1) w) := by
  obtain ⟨hnum, hact, hlm, hcs⟩ := hok
  simp only at hnum hact hlm hcs
  have htl := hT.lt
  obtain ⟨asked, ha0, ha1, hTS⟩ := hT.alloc (.cells #[.int .u32 num, .int .u32 act, .slice A n cap] 47)
  have hnb := Lib.hid (numbered_any tb asked num _ hTS ha0 (by omega) (WalkArith.wf_u32 (by omega)))
  have hnm : n ≤ 9223372036854775807 := by rw [← hn]; exact hlm
  have HR := Lib.hid hR
  have HO := Lib.hid hO
  have HC := Lib.hid hcs
  have HN := Lib.hid hn
  clear hR hO hcs hn hlm hTS hT
  go_enter Tryz.func23, Tryz.ntmps23
  go_wp2_with fail
  refine hnb.out.mono ?_
  clear hnb
  rintro e w1 ⟨rfl, hM, hg⟩
  have hbk := (Bk.new w 47 #[.int .u32 num, .int .u32 act, .slice A n cap] (l := [.int .u32 num, .int .u32 act, .slice A n cap]) rfl).grown hg (by intro e; have := Option.some.inj e; omega)
  have hlt1 := hbk.lt
  have q0 := hbk.cell 0 rfl
  have q1 := hbk.cell 1 rfl
  have q2 := hbk.cell 2 rfl
  have HG1 := Lib.hid (show w.grownBy w1 (some tb) from grown_trans (r := some tb) (World.grownBy_alloc w _ (some tb)) hg (fun k hk => .inl hk))
  have HT1 := Lib.hid (show TS w1 tb (m + 1) from ⟨asked + 1, by omega, by omega, .inr hM⟩)
  have HR1 := Lib.hid (HR.out.grownO HO.out HG1.out)
  clear hbk hM hg ha0 ha1 asked HR HO
  obtain ⟨row, hrow⟩ : ∃ row, row = (byNum num).getD zeroRow := ⟨_, rfl⟩
  rw [← hrow]
  have Hrow := Lib.hid hrow
  clear hrow
  cases hsm : (byNum num).isSome with
  | false =>
    have HV := Lib.hid (show ruleE ⟨num, act, cs⟩ = 38 by unfold ruleE; rw [if_pos hsm])
    clear hsm
    unfold rowV
    go_wp2_with fail
    go_ret
    exact ru_of HV.out rfl (HT1.out.alloc _) (grow_alloc HG1.out _)
  | true =>
    have HSm := Lib.hid (show ¬ (byNum num).isSome = false by rw [hsm]; simp)
    clear hsm
    unfold rowV
    have hmy := fun W => may_any act W hact
    go_wp2_with fail
    refine (hmy _).mono ?_
    rintro e w2 ⟨rfl, rfl⟩
    cases hac : actB act with
    | false =>
      have HV := Lib.hid (show ruleE ⟨num, act, cs⟩ = 210 by unfold ruleE; rw [if_neg HSm.out, if_pos hac])
      clear hac hmy
      go_wp2_with fail
      go_ret
      exact ru_of HV.out rfl (HT1.out.alloc _) (grow_alloc HG1.out _)
    | true =>
      have HAc := Lib.hid (show ¬ actB act = false by rw [hac]; simp)
      clear hac hmy
      by_cases h6 : 6 < n
      · have HV := Lib.hid (show ruleE ⟨num, act, cs⟩ = 205 by unfold ruleE; rw [if_neg HSm.out, if_neg HAc.out, if_pos (by rw [HN.out]; exact h6)])
        have g6 : (6 : Int) < (n : Int) := by omega
        clear h6
        go_wp2_with fail
        go_ret
        exact ru_of HV.out rfl (HT1.out.alloc _) (grow_alloc HG1.out _)
      have HV := Lib.hid (show ruleE ⟨num, act, cs⟩ = firstE (fun _ c => condE c) 0 cs by unfold ruleE; rw [if_neg HSm.out, if_neg HAc.out, if_neg (by rw [HN.out]; exact h6)])
      have g6 : ¬ (6 : Int) < (n : Int) := by omega
      have hn6 : n ≤ 6 := by omega
      clear h6
      go_wp2_with fail
      have hT2 := HT1.out.alloc (.cells #[.int .u32 row.1, .string ⟨row.2.1.toArray⟩, .int .i64 row.2.2] 123)
      have hG2 := grow_alloc HG1.out (.cells #[.int .u32 row.1, .string ⟨row.2.1.toArray⟩, .int .i64 row.2.2] 123)
      have hR2 := HR1.out.below ((Below.refl _ _).alloc (Nat.le_refl _) (.cells #[.int .u32 row.1, .string ⟨row.2.1.toArray⟩, .int .i64 row.2.2] 123))
      clear q0 q1 q2
      generalize w1.alloc _ = w2 at hT2 hG2 hR2 ⊢
      have HT2 := Lib.hid hT2
      have HG2 := Lib.hid hG2
      have HR2 := Lib.hid hR2
      clear hT2 hG2 hR2 HT1 HG1 HR1 g6
      go_loopw [30] (fun iv wr => ∃ k : Nat, iv = .int .i64 k ∧ k ≤ n ∧ Hid (firstE (fun _ c => condE c) 0 cs = firstE (fun _ c => condE c) k (cs.drop k)) ∧ Hid (Below w2.heap.size w2 wr)) (fun iv _ => n - (intOf iv).toNat)
      case atStart => exact ⟨0, rfl, Nat.zero_le _, rfl, Below.refl _ _⟩
      case round =>
        obtain ⟨k, rfl, hk, HF, HB⟩ := hrel
        by_cases hlt : k < n
        · obtain ⟨c, hc⟩ : ∃ c, cs[k]? = some c := ⟨_, List.getElem?_eq_getElem (by have := HN.out; omega)⟩
          obtain ⟨b, o, rfl, hbl, hcell⟩ := (HR2.out.below HB.out).one (fun _ => rfl) (by omega) (by omega)
          obtain ⟨c0, c1, c2, c3⟩ := cond_cells hcell hc
          have hcok := HC.out c (List.mem_of_getElem? hc)
          have hck := Lib.hid (fun W => condCheck_any c.arg c.op c.mask c.val W hcok.2.2.2.1 hcok.2.2.2.2)
          have HX := Lib.hid hc
          clear hcell hc hcok
          go_wp2_with fail
          refine (hck.out _).mono ?_
          clear hck c0 c1 c2 c3
          rintro e w3 ⟨rfl, hb3⟩
          have HB3 := Lib.hid ((HB.out.alloc HB.out.size (.cells #[.int .i64 c.arg, .int .u8 c.op, .int .u64 c.mask, .int .u64 c.val] 39)).trans (hb3.mono (by have := HB.out.size; simp; omega)))
          clear hb3
          have hce : (⟨c.arg, c.op, c.mask, c.val⟩ : CondM) = c := rfl
          rw [hce]
          clear hce
          by_cases hz : condE c = 0
          · have HK := Lib.hid (show firstE (fun _ c => condE c) 0 cs = firstE (fun _ c => condE c) (k + 1) (cs.drop (k + 1)) from HF.out.trans (firstE_on (f := fun _ c => condE c) HX.out hz))
            rw [hz]
            clear hz
            go_wp2_with fail
            go_roundw
            case rel => exact ⟨k + 1, by go_num, by omega, HK, HB3⟩
            case measure => simp [intOf]; omega
          · have HK := Lib.hid (show ruleE ⟨num, act, cs⟩ = condE c from HV.out.trans (HF.out.trans (firstE_bad (f := fun _ c => condE c) HX.out hz)))
            have gz : ((condE c : Int) != 0) = true := by rw [bne_iff_ne]; omega
            clear hz
            go_wp2_with fail
            go_ret
            exact ru_of HK.out rfl (HT2.out.kept HB3.out) (grow_below HG2.out HB3.out)
        · have HK := Lib.hid (show ruleE ⟨num, act, cs⟩ = 0 from HV.out.trans (HF.out.trans (firstE_end _ _ (by have := HN.out; omega) _)))
          go_wp2_with fail
          go_ret
          exact ru_of HK.out rfl (HT2.out.kept HB.out) (grow_below HG2.out HB.out)
end Go.Proofs.YtonpakndocgndaaGreatDoor
