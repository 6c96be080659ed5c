/- Which rules speak of a call, which of them counts, what a policy says of it: the program's way. -/
import Derived.Test.YtgdoampokcpagaaMeR
namespace Go.Proofs.Ytgdoampokcpagaa.Me
open Go.RowKit Go.WideElems
theorem infoInt : (Try.prog.info? 3).map (fun i => (i.zero, i.size, i.bytes)) = some (some (.int .i64 0), 1, 8) := by kernel_rfl
def natC (i : Nat) : List Value := [.int .i64 i]
set_option maxRecDepth 100000 in
theorem stg2_any (a b : Nat) (w : World) (ha : a < 4294967296) (hb : b < 4294967296) : Calls Try.prog 40 #[.int .u32 a, .int .u32 b] w (Same9 (.bool (decide (Rec.strN b < Rec.strN a))) w) := by
  have Hs := Lib.hid (fun W => Rec.stronger_any b a W hb ha)
  by_cases h : Rec.strN b < Rec.strN a
  · have e : Rec.stg b a = a := by unfold Rec.stg; rw [if_pos h]
    have hne : ((a : Int) != (b : Int)) = true := bne_t (by rintro rfl; omega)
    rw [e] at Hs
    rw [decide_eq_true h]
    clear h e
    go_enter Try.func40, Try.ntmps40
    go_wp2_with fail
    refine (Hs.out _).mono ?_
    rintro e w' ⟨rfl, rfl⟩
    go_wp2_with fail
    go_ret
    exact ⟨rfl, rfl⟩
  · have e : Rec.stg b a = b := by unfold Rec.stg; rw [if_neg h]
    have hne : ((b : Int) != (b : Int)) = false := by simp
    rw [e] at Hs
    rw [decide_eq_false h]
    clear h e
    go_enter Try.func40, Try.ntmps40
    go_wp2_with fail
    refine (Hs.out _).mono ?_
    rintro e w' ⟨rfl, rfl⟩
    go_wp2_with fail
    go_ret
    exact ⟨rfl, rfl⟩
/-- Rules in memory. -/
structure RRd (w : World) (rules : List RuleV) (A : Option Addr) : Prop where
  r : Rd w 3 rules.length A (rules.flatMap RuleV.cells)
  c : ∀ x ∈ rules, Rd w 4 x.m.conds.length x.A (x.m.conds.flatMap CondM.cells)
  ok : ∀ x ∈ rules, x.m.ok
theorem RRd.below {w w' : World} {rules : List RuleV} {A : Option Addr} (h : RRd w rules A) (hb : Below w.heap.size w w') : RRd w' rules A := ⟨h.r.below hb, fun x hx => (h.c x hx).below hb, h.ok⟩
def SpkPost (ms : List RuleM) (x : RcM) (w : World) (e : Ending) (w' : World) : Prop :=
  (∃ (A : Option Addr) (c : Nat), e = .returned (.tuple #[.slice A (idxL x 0 ms).length c, .int .i64 (bestI (bestL x 0 ms none))]) ∧ TRd w' 3 1 (idxL x 0 ms).length A ((idxL x 0 ms).flatMap natC)) ∧ Below w.heap.size w w'
theorem own_len {w : World} {B : Nat} {e : TypeId} {v : Value} {l m : List Nat} (h : l = m) (ho : w.ownsRow B e 1 v l.length (l.flatMap natC)) : w.ownsRow B e 1 v m.length (m.flatMap natC) := by subst h; exact ho
theorem spk_end {ms : List RuleM} {x : RcM} {w w2 wr : World} {v : Value} {k : Nat} {b : Option (Nat × Nat)} (hk : ms.length ≤ k) (ho : wr.ownsRow w2.heap.size 3 1 v (idxL x 0 (ms.take k)).length ((idxL x 0 (ms.take k)).flatMap natC)) (hb : bestL x 0 ms none = bestL x k (ms.drop k) b) (h2 : Below w.heap.size w wr) : SpkPost ms x w (.returned (.tuple #[v, .int .i64 (bestI b)])) wr := by
  rw [List.take_of_length_le hk] at ho
  rw [best_end x hk] at hb
  obtain ⟨A, c, rfl, _, ht, _, _⟩ := own_typed ho
  exact ⟨⟨A, c, by rw [hb], ht⟩, h2⟩
theorem step_no {x : RcM} {k : Nat} {r : RuleM} {b : Option (Nat × Nat)} (h : matB r x = false) : stepB x k r b = b := by unfold stepB; rw [h]; rfl
theorem step_none {x : RcM} {k : Nat} {r : RuleM} (h : matB r x = true) : stepB x k r none = some (k, r.act) := by unfold stepB; rw [h]; rfl
theorem step_yes {x : RcM} {k i a : Nat} {r : RuleM} (h : matB r x = true) (hs : Rec.strN a < Rec.strN r.act) : stepB x k r (some (i, a)) = some (k, r.act) := by unfold stepB; rw [h]; simp [hs]
theorem step_same {x : RcM} {k i a : Nat} {r : RuleM} (h : matB r x = true) (hs : ¬ Rec.strN a < Rec.strN r.act) : stepB x k r (some (i, a)) = some (i, a) := by unfold stepB; rw [h]; simp [hs]
theorem idx_no {x : RcM} {ms : List RuleM} {k : Nat} {r : RuleM} (h : ms[k]? = some r) (hm : matB r x = false) : idxL x 0 (ms.take k) = idxL x 0 (ms.take (k + 1)) := by rw [idx_take x h, hm]; simp
theorem idx_yes {x : RcM} {ms : List RuleM} {k : Nat} {r : RuleM} (h : ms[k]? = some r) (hm : matB r x = true) : idxL x 0 (ms.take (k + 1)) = idxL x 0 (ms.take k) ++ [k] := by rw [idx_take x h, hm]; rfl
theorem own_yes {x : RcM} {ms : List RuleM} {k : Nat} {r : RuleM} {w : World} {B : Nat} {e : TypeId} {v : Value} (h : ms[k]? = some r) (hm : matB r x = true) (ho : w.ownsRow B e 1 v ((idxL x 0 (ms.take k)).length + 1) ((idxL x 0 (ms.take k)).flatMap natC ++ [.int .i64 k])) : w.ownsRow B e 1 v (idxL x 0 (ms.take (k + 1))).length ((idxL x 0 (ms.take (k + 1))).flatMap natC) := by
  rw [idx_yes h hm, List.length_append, List.flatMap_append]; exact ho
set_option maxHeartbeats 8000000 in
set_option maxRecDepth 100000 in
theorem speaks_any (nm : ByteArray) (d : Nat) (rules : List RuleV) (RA : Option Addr) (nR Rc hd : Nat) (PA : Option Addr) (nP Pc : Nat) (QA : Option Addr) (nQ Qc : Nat) (x : RcM) (w : World) (hn : rules.length = nR) (hl : nR ≤ 1000) (hR : RRd w rules RA) (hx : x.ok) :
    Calls Try.prog 28 #[.agg #[.string nm, .int .u32 d, .slice RA nR Rc, .int .u16 hd, .slice PA nP Pc, .slice QA nQ Qc], .agg #[.int .u32 x.num, .int .u32 x.arch, .int .u64 x.at_, .int .u64 x.a0, .int .u64 x.a1, .int .u64 x.a2, .int .u64 x.a3, .int .u64 x.a4, .int .u64 x.a5]] w (SpkPost (rules.map RuleV.m) x w) := by
  obtain ⟨hk1, hk2, hb⟩ := two_new w #[.string nm, .int .u32 d, .slice RA nR Rc, .int .u16 hd, .slice PA nP Pc, .slice QA nQ Qc] #[.int .u32 x.num, .int .u32 x.arch, .int .u64 x.at_, .int .u64 x.a0, .int .u64 x.a1, .int .u64 x.a2, .int .u64 x.a3, .int .u64 x.a4, .int .u64 x.a5] 30 49 (la := [.string nm, .int .u32 d, .slice RA nR Rc, .int .u16 hd, .slice PA nP Pc, .slice QA nQ Qc]) (lb := x.cells) rfl rfl
  have HR := Lib.hid (hR.below hb)
  obtain ⟨ms, hms⟩ : ∃ ms, ms = rules.map RuleV.m := ⟨_, rfl⟩
  have Hms := Lib.hid hms
  have HN := Lib.hid hn
  have HL := Lib.hid (show ms.length = nR by rw [hms, List.length_map, hn])
  rw [← hms]
  have HX := Lib.hid hx
  clear hR hms hn hx
  go_enter Try.func28, Try.ntmps28
  go_upto_region 1 with fail
  have hsz : ((w.alloc (.cells #[.string nm, .int .u32 d, .slice RA nR Rc, .int .u16 hd, .slice PA nP Pc, .slice QA nQ Qc] 30)).alloc (.cells #[.int .u32 x.num, .int .u32 x.arch, .int .u64 x.at_, .int .u64 x.a0, .int .u64 x.a1, .int .u64 x.a2, .int .u64 x.a3, .int .u64 x.a4, .int .u64 x.a5] 49)).heap.size = w.heap.size + 1 + 1 := by simp
  generalize (w.alloc _).alloc _ = w2 at hk1 hk2 hb hsz HR ⊢
  have HB0 := Lib.hid hb
  have q2 := hk1.cell 2 rfl
  have hlt1 := hk1.lt
  have hlt2 := hk2.lt
  have HK1 := Lib.hid hk1
  have HK2 := Lib.hid hk2
  clear hk1 hk2 hb
  go_wp2_with fail
  clear q2
  have HO0 := Lib.hid (World.ownsRow_nil w2 w2.heap.size 3 1)
  go_loopw [4, 5, 11] (fun v c iv wr => ∃ (k : Nat) (b : Option (Nat × Nat)), iv = .int .i64 k ∧ k ≤ nR ∧ c = .int .i64 (bestI b) ∧ Hid (wr.ownsRow w2.heap.size 3 1 v (idxL x 0 (ms.take k)).length ((idxL x 0 (ms.take k)).flatMap natC)) ∧ Hid (bestL x 0 ms none = bestL x k (ms.drop k) b) ∧ Hid (BOk ms k b) ∧ Hid (Below w2.heap.size w2 wr)) (fun _ _ iv _ => nR - (intOf iv).toNat)
  case atStart => exact ⟨0, none, rfl, Nat.zero_le _, rfl, HO0, Lib.hid rfl, Lib.hid (BOk.nil _), Below.refl _ _⟩
  case round =>
    obtain ⟨k, b, rfl, hk, rfl, HO, HBe, HOk, HB⟩ := hrel
    have hs := HB.out.size
    have hlw1 := Nat.lt_of_lt_of_le hlt1 hs
    have hlw2 := Nat.lt_of_lt_of_le hlt2 hs
    by_cases hlt : k < nR
    · obtain ⟨r, hr⟩ : ∃ r, rules[k]? = some r := ⟨_, List.getElem?_eq_getElem (by have := HN.out; omega)⟩
      have HRr := Lib.hid (HR.out.below HB.out)
      have hrd := HRr.out.r
      simp only [HN.out] at hrd
      obtain ⟨bb, ob, hA, hbl, hcell⟩ := hrd.one (fun _ => rfl) (by omega) (by omega)
      subst hA
      obtain ⟨c0, c1, c2⟩ := rule_cells hcell hr
      have HCell := Lib.hid hcell
      have hmem := List.mem_of_getElem? hr
      have HMk := Lib.hid (show ms[k]? = some r.m by rw [Hms.out, List.getElem?_map, hr]; rfl)
      have HCr := Lib.hid (HRr.out.c r hmem)
      have HOr := Lib.hid (HRr.out.ok r hmem)
      clear hcell hrd hmem hr
      obtain ⟨⟨num, act, cs⟩, A9, c9⟩ := r
      simp only at c0 c1 c2
      obtain ⟨nc, hnc⟩ : ∃ nc, nc = cs.length := ⟨_, rfl⟩
      rw [← hnc] at c2
      have HNc := Lib.hid hnc
      clear hnc
      go_upto_region 5 with fail
      have hkr := Bk.new wr 56 #[.int .u32 num, .int .u32 act, .slice A9 nc c9] (l := [.int .u32 num, .int .u32 act, .slice A9 nc c9]) rfl
      have hbr := oneb wr (.cells #[.int .u32 num, .int .u32 act, .slice A9 nc c9] 56)
      clear c0 c1 c2
      generalize wr.alloc _ = wa at hkr hbr ⊢
      have hsa := hbr.size
      have HBa := Lib.hid (HB.out.trans (hbr.mono HB.out.size))
      have HOa := Lib.hid (own_keepN HO.out hbr)
      have HRa := Lib.hid (HRr.out.below hbr)
      have HCa := Lib.hid (HCr.out.below hbr)
      have HKa := Lib.hid hkr
      have r0 := hkr.cell 0 rfl
      have r1 := hkr.cell 1 rfl
      have r2 := hkr.cell 2 rfl
      have rl := hkr.lt
      have y0 := (HK2.out.kept HBa.out).cell 0 rfl
      have y1 := (HK2.out.kept HBa.out).cell 1 rfl
      have y2 := (HK2.out.kept HBa.out).cell 2 rfl
      have y3 := (HK2.out.kept HBa.out).cell 3 rfl
      have y4 := (HK2.out.kept HBa.out).cell 4 rfl
      have y5 := (HK2.out.kept HBa.out).cell 5 rfl
      have y6 := (HK2.out.kept HBa.out).cell 6 rfl
      have y7 := (HK2.out.kept HBa.out).cell 7 rfl
      have y8 := (HK2.out.kept HBa.out).cell 8 rfl
      have la1 := (HK1.out.kept HBa.out).lt
      have la2 := (HK2.out.kept HBa.out).lt
      clear hkr hbr HO HRr HCr
      generalize wr.heap.size = g at r0 r1 r2 rl hsa HKa ⊢
      have hmt := Lib.hid (fun W h => matches_any num act cs A9 nc c9 x W HOr.out.2.2.2 HNc.out.symm (by have := HOr.out.2.2.1; rw [HNc.out]; exact this) h HX.out)
      go_wp2_with fail
      refine (hmt.out _ (by have := HCa.out; rw [HNc.out]; exact this)).mono ?_
      clear hmt r0 r1 r2 y0 y1 y2 y3 y4 y5 y6 y7 y8
      rintro e w3 ⟨rfl, hb3⟩
      have HB3 := Lib.hid (HBa.out.trans (hb3.mono HBa.out.size))
      have HO3 := Lib.hid (own_keepN HOa.out hb3)
      have HG3 := Lib.hid (HKa.out.kept hb3)
      have HR3 := Lib.hid (HRa.out.below hb3)
      clear hb3 HOa HKa HBa HRa HCa
      cases hmm : matB ⟨num, act, cs⟩ x with
      | false =>
        have HF := Lib.hid hmm
        clear hmm
        go_wp2_with fail
        go_roundw
        case rel => exact ⟨k + 1, b, by go_num, by omega, rfl, Lib.hid (own_len (idx_no HMk.out HF.out) HO3.out), Lib.hid (by rw [HBe.out, best_on x HMk.out, step_no HF.out]), Lib.hid (by have := HOk.out.step HMk.out x; rw [step_no HF.out] at this; exact this), HB3⟩
        case measure => simp [intOf]; omega
      | true =>
        have Hmm := Lib.hid hmm
        clear hmm
        cases b with
        | none =>
          unfold bestI
          go_wp2_with (at_builtin; go_loud (refine append_one rfl (.tmp 20) (.tmp 22) 97 3 rfl (.int .i64 0) 1 8 infoInt Try.underlying97 rfl (by decide) (by decide) w2.heap.size _ (idxL x 0 (ms.take k)).length ((idxL x 0 (ms.take k)).flatMap natC) rfl (own_keepN HO3.out (oneb w3 _)) w3.heap.size [.int .i64 k] rfl rfl (Bk.new w3 _ _ rfl) (by intro u hu; simp at hu; subst hu; rfl) (Nat.le_trans (idx_len x _ _) (by rw [List.length_take]; omega)) (by have := HB3.out.size; simp; omega) ?_); intro v' w8 hown' hgrow hat; have hoa := own_keepN HO3.out (oneb w3 (.cells #[.int .i64 k] 3)); obtain ⟨_, _, _, _, _, hty, _⟩ := own_typed hoa; have hba := (HB3.out.trans ((oneb w3 (.cells #[.int .i64 k] 3)).mono HB3.out.size)).grown hgrow (Nat.le_trans HB3.out.size (by simp)) (fun g hg => (hoa.lt g hg).1); have HB8 := Lib.hid hba; have HO8 := Lib.hid (own_yes HMk.out Hmm.out hown'); have HG8 := Lib.hid ((HG3.out.kept (oneb w3 (.cells #[.int .i64 k] 3))).appended hgrow hty (by decide)); have g7 := HG8.out.cell 1 rfl; have l7 := HG8.out.lt; have p7 := (HK1.out.kept HB8.out).cell 2 rfl; have pl7 := (HK1.out.kept HB8.out).lt; have dn : decide ((-1 : Int) < 0) = true := (by decide);clear hown' hgrow hat hoa hty hba)
          go_quiet (fail)
          go_wp2_with fail
          go_roundw
          case rel => exact ⟨k + 1, some (k, act), by go_num, by omega, rfl, Lib.hid (own_keepN HO8.out (below_drewN (Below.refl _ _) _)), Lib.hid (by rw [HBe.out, best_on x HMk.out, step_none Hmm.out]), Lib.hid (by have := HOk.out.step HMk.out x; rw [step_none Hmm.out] at this; exact this), Lib.hid (below_drewN HB8.out _)⟩
          case measure => simp [intOf]; omega
        | some y =>
          obtain ⟨i, a⟩ := y
          obtain ⟨hik, ri, hri, hra⟩ := HOk.out (i, a) rfl
          simp only at hik hri hra
          obtain ⟨rv, hrv, hrm⟩ : ∃ rv, rules[i]? = some rv ∧ rv.m = ri := by rw [Hms.out, List.getElem?_map] at hri; obtain ⟨rv, h1, h2⟩ := Option.map_eq_some_iff.1 hri; exact ⟨rv, h1, h2⟩
          have ha32 : a < 4294967296 := by have := (HR.out.ok rv (List.mem_of_getElem? hrv)).2.1; rw [hrm, hra] at this; exact this
          have hact32 : act < 4294967296 := HOr.out.2.1
          have HCi := Lib.hid (show ∀ W, Below wr.heap.size wr W → True from fun _ _ => trivial)
          have Hcell := Lib.hid (show ∀ W, Below w2.heap.size w2 W → W.cell? ⟨bb, ob + i * 3 + 1, none⟩ = some (.int .u32 a) from fun W hW => by
            have hrd := (HR.out.below hW).r
            obtain ⟨b2, o2, hA2, _, hc2⟩ := hrd.one (fun _ => rfl) (by omega) (by have := HN.out; omega)
            cases hA2
            have := (rule_cells hc2 hrv).2.1
            rw [hrm, hra] at this
            exact this)
          have hq := Lib.hid (fun W => stg2_any act a W hact32 ha32)
          have hi0 : decide ((i : Int) < 0) = false := decide_eq_false (by omega)
          have hin : i < nR := by omega
          clear hri hra hrv hrm HCi
          by_cases hst : Rec.strN a < Rec.strN act
          · have HST := Lib.hid hst
            rw [decide_eq_true hst] at hq
            clear hst
            unfold bestI
            go_wp2_with (at_builtin; go_loud (refine append_one rfl (.tmp 20) (.tmp 22) 97 3 rfl (.int .i64 0) 1 8 infoInt Try.underlying97 rfl (by decide) (by decide) w2.heap.size _ (idxL x 0 (ms.take k)).length ((idxL x 0 (ms.take k)).flatMap natC) rfl (own_keepN HO3.out (oneb w3 _)) w3.heap.size [.int .i64 k] rfl rfl (Bk.new w3 _ _ rfl) (by intro u hu; simp at hu; subst hu; rfl) (Nat.le_trans (idx_len x _ _) (by rw [List.length_take]; omega)) (by have := HB3.out.size; simp; omega) ?_); intro v' w8 hown' hgrow hat; have hoa := own_keepN HO3.out (oneb w3 (.cells #[.int .i64 k] 3)); obtain ⟨_, _, _, _, _, hty, _⟩ := own_typed hoa; have hba := (HB3.out.trans ((oneb w3 (.cells #[.int .i64 k] 3)).mono HB3.out.size)).grown hgrow (Nat.le_trans HB3.out.size (by simp)) (fun g hg => (hoa.lt g hg).1); have HB8 := Lib.hid hba; have HO8 := Lib.hid (own_yes HMk.out Hmm.out hown'); have HG8 := Lib.hid ((HG3.out.kept (oneb w3 (.cells #[.int .i64 k] 3))).appended hgrow hty (by decide)); have g7 := HG8.out.cell 1 rfl; have l7 := HG8.out.lt; have p7 := (HK1.out.kept HB8.out).cell 2 rfl; have pl7 := (HK1.out.kept HB8.out).lt; have i7 := Hcell.out _ HB8.out;clear hown' hgrow hat hoa hty hba)
            go_quiet ((go_at_call 40; exact quiet_l (hq.out _)))
            go_wp2_with fail
            go_roundw
            case rel => exact ⟨k + 1, some (k, act), by go_num, by omega, rfl, Lib.hid (own_keepN HO8.out (below_drewN (Below.refl _ _) _)), Lib.hid (by rw [HBe.out, best_on x HMk.out, step_yes Hmm.out HST.out]), Lib.hid (by have := HOk.out.step HMk.out x; rw [step_yes Hmm.out HST.out] at this; exact this), Lib.hid (below_drewN HB8.out _)⟩
            case measure => simp [intOf]; omega
          · have HST := Lib.hid hst
            rw [decide_eq_false hst] at hq
            clear hst
            unfold bestI
            go_wp2_with (at_builtin; go_loud (refine append_one rfl (.tmp 20) (.tmp 22) 97 3 rfl (.int .i64 0) 1 8 infoInt Try.underlying97 rfl (by decide) (by decide) w2.heap.size _ (idxL x 0 (ms.take k)).length ((idxL x 0 (ms.take k)).flatMap natC) rfl (own_keepN HO3.out (oneb w3 _)) w3.heap.size [.int .i64 k] rfl rfl (Bk.new w3 _ _ rfl) (by intro u hu; simp at hu; subst hu; rfl) (Nat.le_trans (idx_len x _ _) (by rw [List.length_take]; omega)) (by have := HB3.out.size; simp; omega) ?_); intro v' w8 hown' hgrow hat; have hoa := own_keepN HO3.out (oneb w3 (.cells #[.int .i64 k] 3)); obtain ⟨_, _, _, _, _, hty, _⟩ := own_typed hoa; have hba := (HB3.out.trans ((oneb w3 (.cells #[.int .i64 k] 3)).mono HB3.out.size)).grown hgrow (Nat.le_trans HB3.out.size (by simp)) (fun g hg => (hoa.lt g hg).1); have HB8 := Lib.hid hba; have HO8 := Lib.hid (own_yes HMk.out Hmm.out hown'); have HG8 := Lib.hid ((HG3.out.kept (oneb w3 (.cells #[.int .i64 k] 3))).appended hgrow hty (by decide)); have g7 := HG8.out.cell 1 rfl; have l7 := HG8.out.lt; have p7 := (HK1.out.kept HB8.out).cell 2 rfl; have pl7 := (HK1.out.kept HB8.out).lt; have i7 := Hcell.out _ HB8.out;clear hown' hgrow hat hoa hty hba)
            go_quiet ((go_at_call 40; exact quiet_l (hq.out _)))
            go_wp2_with fail
            go_roundw
            case rel => exact ⟨k + 1, some (i, a), by go_num, by omega, rfl, Lib.hid (own_keepN HO8.out (below_drewN (Below.refl _ _) _)), Lib.hid (by rw [HBe.out, best_on x HMk.out, step_same Hmm.out HST.out]), Lib.hid (by have := HOk.out.step HMk.out x; rw [step_same Hmm.out HST.out] at this; exact this), Lib.hid (below_drewN HB8.out _)⟩
            case measure => simp [intOf]; omega
    · have HE := Lib.hid (fun W (hW : Below w2.heap.size w2 W) (hq : W = wr) => spk_end (w := w) (wr := wr) (by rw [HL.out]; omega) HO.out HBe.out (HB0.out.trans (HB.out.mono HB0.out.size)))
      go_wp2_with fail
      go_ret2
      exact HE.out wr HB.out rfl
end Go.Proofs.Ytgdoampokcpagaa.Me

