/- LowerSays: the walk. -/
import Derived.Test.YtcageojoafkojaaGreatK26
import Derived.Test.YtcageojoafkojaaGreatK28
namespace Go.Proofs.YtcageojoafkojaaGreat.Lo
open Go.RowKit Go.WideElems Go.Proofs.YtcageojoafkojaaGreat.Ju Go.Proofs.YtcageojoafkojaaGreat.Me Go.Proofs.YtcageojoafkojaaGreat.Ir
/-- A plan of a policy that is few is small. -/
theorem plan_smallL {rules : List RuleV} {l' : List RuleM} {cs : List CaV} (hS : Sorted (rules.map RuleV.m) l') (hcs : cs.map CaV.m = ofF l') (hr : rules.length ≤ 100000) (hk : ∀ r ∈ rules, r.m.conds.length ≤ 100000) (hok : ∀ r ∈ rules, r.m.ok) : ∀ c ∈ cs, c.brs.length ≤ 100000 ∧ ∀ b ∈ c.brs, b.m.conds.length ≤ 100000 ∧ ∀ q ∈ b.m.conds, q.ok := fun c hc => by
  have hm : c.m ∈ ofF l' := by rw [← hcs]; exact List.mem_map.2 ⟨c, hc, rfl⟩
  obtain ⟨g1, g2⟩ := plan_sub hS c.m hm
  have g3 : c.m.brs.length = c.brs.length := by show (c.brs.map BrV.m).length = _; rw [List.length_map]
  rw [List.length_map] at g1
  refine ⟨by omega, fun b hb => ?_⟩
  obtain ⟨r, hrm, _, _, h4, h5⟩ := g2 b.m (List.mem_map.2 ⟨b, hb, rfl⟩)
  obtain ⟨rv, hrv, rfl⟩ := List.mem_map.1 hrm
  have h1 := hk rv hrv
  exact ⟨by omega, fun q hq => (hok rv hrv).2.2.2 q (h5 q hq)⟩
theorem nine_recL {w : World} {b o k : Nat} {l : List RcM} {x : RcM} (hc : ∀ k x, l[k]? = some x → ∀ j v, (RcM.cells x)[j]? = some v → w.cell? ⟨b, o + (k * 9 + j), none⟩ = some v) (h : l[k]? = some x) :
    w.cell? ⟨b, o + k * 9, none⟩ = some (.int .u32 x.num) ∧ w.cell? ⟨b, o + k * 9 + 1, none⟩ = some (.int .u32 x.arch) ∧ w.cell? ⟨b, o + k * 9 + 2, none⟩ = some (.int .u64 x.at_) ∧ w.cell? ⟨b, o + k * 9 + 3, none⟩ = some (.int .u64 x.a0) ∧ w.cell? ⟨b, o + k * 9 + 4, none⟩ = some (.int .u64 x.a1) ∧ w.cell? ⟨b, o + k * 9 + 5, none⟩ = some (.int .u64 x.a2) ∧ w.cell? ⟨b, o + k * 9 + 6, none⟩ = some (.int .u64 x.a3) ∧ w.cell? ⟨b, o + k * 9 + 7, none⟩ = some (.int .u64 x.a4) ∧ w.cell? ⟨b, o + k * 9 + 8, none⟩ = some (.int .u64 x.a5) := by
  have hj := fun j v hv => hc k x h j v hv
  simp only [← Nat.add_assoc] at hj
  exact ⟨by have := hj 0 _ rfl; simpa using this, hj 1 _ rfl, hj 2 _ rfl, hj 3 _ rfl, hj 4 _ rfl, hj 5 _ rfl, hj 6 _ rfl, hj 7 _ rfl, hj 8 _ rfl⟩
set_option maxHeartbeats 32000000 in
set_option maxRecDepth 100000 in
theorem walk_lowerSays (s : SmV) (A : Option Addr) (n c : Nat) (PB : Option Addr) (pn pc : Nat) (zs : List Int) (w : World) (hs : SmIn w s) (hl : RecsIn w A n c) (hk : IsRow .u8 w PB pn pc zs) :
    Calls Tryz.prog 3 #[.agg s.cells.toArray, .slice A n c, .slice PB pn pc] w (Ju.RetB true w) := by
  obtain ⟨ni, df, er, hh, srs, SA, sc, dl, DA, dc, gl, GA, gc, kl, KA, kc⟩ := s
  obtain ⟨lr, hlr, hlok, hlR, hlm, hlA⟩ := hl
  obtain ⟨pl, hpl, hp8, hpR, hpm⟩ := row_u8 hk
  show Calls Tryz.prog _ #[.agg #[.int .u8 ni, .int .u8 df, .int .u8 er, .slice SA srs.length sc, .int .u16 hh, .slice DA dl.length dc, .slice GA gl.length gc, .slice KA kl.length kc], .slice A n c, .slice PB pn pc] w _
  have hk1 := Bk.new w 27 #[.int .u8 ni, .int .u8 df, .int .u8 er, .slice SA srs.length sc, .int .u16 hh, .slice DA dl.length dc, .slice GA gl.length gc, .slice KA kl.length kc] (l := [.int .u8 ni, .int .u8 df, .int .u8 er, .slice SA srs.length sc, .int .u16 hh, .slice DA dl.length dc, .slice GA gl.length gc, .slice KA kl.length kc]) rfl
  have hb := oneb w (.cells #[.int .u8 ni, .int .u8 df, .int .u8 er, .slice SA srs.length sc, .int .u16 hh, .slice DA dl.length dc, .slice GA gl.length gc, .slice KA kl.length kc] 27)
  have HSm := Lib.hid (fun W (hb : Below w.heap.size w W) => smallPolicy_any ni df er hh srs SA _ sc dl DA _ dc gl GA _ gc kl KA _ kc W hs.g1 hs.g2 hs.g3 hs.g4 rfl rfl rfl rfl hs.g5 hs.g6 hs.g7 hs.g8 hs.g9 hs.g10 hs.g11 hs.g12 (hs.g13.below hb) (fun r hr => (hs.g14 r hr).below hb) (hs.g15.below hb) (hs.g16.below hb) (hs.g17.below hb))
  have HRec := Lib.hid (fun (hn20 : n ≤ 20) nm d rules RA nR Rc hd PA nP Pc QA nQ Qc W (h : Below w.heap.size w W) h1 h2 h3 => records_any nm d rules RA nR Rc hd PA nP Pc QA nQ Qc lr A n c pl PB pn pc W h1 h2 h3 hlr hn20 hlok hlA (hlR.below h) hpl hpm hp8 (hpR.below h))
  have hn63 : n ≤ 9223372036854775807 := hlm
  clear hlok hlR hlA hp8 hpR hk hs hlr hpl hlm
  go_enter Tryz.func3, Tryz.ntmps3
  go_upto_region 1 with fail
  generalize World.alloc w _ = w2 at hk1 hb ⊢
  have HBw := Lib.hid hb
  have HK1 := Lib.hid hk1
  clear hk1 hb
  go_wp2_with fail
  refine (Lo.awake_any _).mono ?_
  rintro e w3 ⟨rfl, hb3⟩
  have HBw := Lib.hid (HBw.out.trans (hb3.mono HBw.out.size))
  have HK1 := Lib.hid (HK1.out.kept hb3)
  clear hb3
  by_cases h20 : 20 < n
  · have g20 : (20 : Int) < (n : Int) := by omega
    have d20 : decide ((20 : Int) < (n : Int)) = true := decide_eq_true g20
    clear h20
    go_wp2_with fail
    go_ret
    exact ⟨rfl, HBw.out⟩
  have g20 : ¬ (20 : Int) < (n : Int) := by omega
  have d20 : decide ((20 : Int) < (n : Int)) = false := decide_eq_false g20
  have HRec := Lib.hid (HRec.out (by omega))
  clear h20
  have t0 := HK1.out.cell 0 rfl
  have t1 := HK1.out.cell 1 rfl
  have t2 := HK1.out.cell 2 rfl
  have t3 := HK1.out.cell 3 rfl
  have t4 := HK1.out.cell 4 rfl
  have t5 := HK1.out.cell 5 rfl
  have t6 := HK1.out.cell 6 rfl
  have t7 := HK1.out.cell 7 rfl
  have tl := HK1.out.lt
  go_wp2_with fail
  refine (HSm.out _ HBw.out).mono ?_
  clear t0 t1 t2 t3 t4 t5 t6 t7 tl HSm
  rintro e w4 ⟨pn9, pd, rules, RA, Rc, ph, pt9, PA9, Pc, po9, QA9, Qc, rfl, hR4, hOk, hb4⟩
  obtain ⟨nP, hnP⟩ : ∃ n, n = pt9.length := ⟨_, rfl⟩
  obtain ⟨nQ, hnQ⟩ : ∃ n, n = po9.length := ⟨_, rfl⟩
  obtain ⟨nR, hnR⟩ : ∃ n, n = rules.length := ⟨_, rfl⟩
  have hn12 : nR ≤ 12 := by rw [hnR]; exact hOk.many
  have HSr := Lib.hid (small_reads (nm := pn9) (act := pd) (hd := ph) hR4)
  have HSq := Lib.hid (q_small (RA := RA) (Rc := Rc) (PA := PA9) (Pc := Pc) (QA := QA9) (Qc := Qc) hOk)
  have HRR := Lib.hid (Me.rrd_of HSr.out HSq.out)
  have HPd := Lib.hid hOk.act32
  have HRok := Lib.hid (fun r hr => (hOk.rule r hr).2.2)
  have HR4 := Lib.hid (fun r hr => (hOk.rule r hr).2.1)
  rw [← hnP, ← hnQ, ← hnR]
  have HBw := Lib.hid (HBw.out.trans (hb4.mono HBw.out.size))
  have HNR := Lib.hid hnR.symm
  clear hb4 hR4 hOk hnP hnQ hnR HK1
  go_upto_region 6 with fail
  have hk7 := Bk.new w4 37 #[.string ⟨pn9.toArray⟩, .int .u32 pd, .slice RA nR Rc, .int .u16 ph, .slice PA9 nP Pc, .slice QA9 nQ Qc] (l := [.string ⟨pn9.toArray⟩, .int .u32 pd, .slice RA nR Rc, .int .u16 ph, .slice PA9 nP Pc, .slice QA9 nQ Qc]) rfl
  have hb5 := oneb w4 (.cells #[.string ⟨pn9.toArray⟩, .int .u32 pd, .slice RA nR Rc, .int .u16 ph, .slice PA9 nP Pc, .slice QA9 nQ Qc] 37)
  generalize World.alloc w4 _ = w5 at hk7 hb5 ⊢
  generalize w4.heap.size = g7 at hk7 ⊢
  have HRR := Lib.hid (HRR.out.below hb5)
  have HBw := Lib.hid (HBw.out.trans (hb5.mono HBw.out.size))
  have HK7 := Lib.hid hk7
  clear hk7 hb5 HSr HSq
  have q0 := HK7.out.cell 0 rfl
  have q1 := HK7.out.cell 1 rfl
  have q2 := HK7.out.cell 2 rfl
  have q3 := HK7.out.cell 3 rfl
  have q4 := HK7.out.cell 4 rfl
  have q5 := HK7.out.cell 5 rfl
  have ql := HK7.out.lt
  have HOf := Lib.hid (of_anyC ⟨pn9.toArray⟩ pd rules RA nR Rc ph PA9 nP Pc QA9 nQ Qc w5 HNR.out (by omega) HRR.out (fun r hr => by have := HR4.out r hr; omega))
  go_wp2_with fail
  refine HOf.out.mono ?_
  clear HOf q0 q1 q2 q3 q4 q5 ql
  rintro e w6 ⟨hb6, l', hS, CA, Cc, cs, hcs, rfl, hP, hcap⟩
  have HS := Lib.hid hS
  have HCs := Lib.hid hcs
  have HRR := Lib.hid (HRR.out.below hb6)
  have HK7 := Lib.hid (HK7.out.kept hb6)
  have HBw := Lib.hid (HBw.out.trans (hb6.mono HBw.out.size))
  have hcl : cs.length ≤ 12 := by
    have h1 := Go.Proofs.YtcageojoafkojaaGreat.Ir.plan_len hS
    rw [← hcs, List.length_map, List.length_map] at h1
    have := HNR.out; omega
  have HSml := Lib.hid (plan_smallL hS hcs (by have := HNR.out; omega) (fun r hr => by have := HR4.out r hr; omega) HRok.out)
  have HSz := Lib.hid (of_size (R := 12) (C := 4) hS (by rw [List.length_map]; have := HNR.out; omega) (fun r hr => by obtain ⟨rv, hrv, rfl⟩ := List.mem_map.1 hr; exact HR4.out rv hrv))
  have hpl := Lo.plan_len pd (cs.map CaV.m)
  rw [hcs] at hpl
  have hplN : (planL pd (ofF l')).length ≤ 5000 := by have := HSz.out; omega
  have HFi := Lib.hid (of_fine hS (fun r hr => by obtain ⟨rv, hrv, rfl⟩ := List.mem_map.1 hr; exact HRok.out rv hrv))
  have HPf := Lib.hid (plan_fine HPd.out HFi.out (by
    have h1 := search_cnt pd (ofF l').length 2 (ofF l')
    by_cases h0 : ofF l' = []
    · rw [h0]; show (2 : Nat) ≤ _; omega
    · have h2 := search_len pd (ofF l').length 2 (ofF l') (Nat.le_refl _) h0
      have := HSz.out
      omega))
  have HMo := Lib.hid (made_or (plan_fwd pd (ofF l')) HPf.out.fin (plan_last pd (ofF l')))
  have HOk := Lib.hid HPf.out.ok
  have HMs := Lib.hid (fun (hm : MadeR (planL pd (ofF l'))) (x : RcM) (hx : x.ok) (bs : List Nat) (hb : Sees (recW bs) x) => code_says hS (fun r hr => by obtain ⟨rv, hrv, rfl⟩ := List.mem_map.1 hr; exact HRok.out rv hrv) hm hx hb)
  have HDs := Lib.hid (fun (x : RcM) (hx : x.ok) (r1 : Nat) (h1 : DecR pd cs x r1) => dec_says hS hcs hx h1)
  have HAs := Lib.hid (asc_of hS hcs)
  obtain ⟨nC, hnC⟩ : ∃ n, n = cs.length := ⟨_, rfl⟩
  have HPl := Lib.hid (fun W (h : Below w6.heap.size w6 W) => plan_any cs CA nC Cc pd W ((csin_of hP HSml.out).below h) hnC.symm (by omega) (by omega) (by rw [hcs]; omega))
  rw [hcs] at HPl
  have HDe := Lib.hid (fun (x : RcM) (hx : x.ok) W (h : Below w6.heap.size w6 W) => decide_any cs nC CA Cc pd x W hnC.symm (by omega) HAs.out (hP.below h) HSml.out hx)
  rw [← hnC]
  obtain ⟨PL, hPL⟩ : ∃ z, z = planL pd (ofF l') := ⟨_, rfl⟩
  rw [← hPL] at HPl HMo HOk HMs hplN
  obtain ⟨N, hN⟩ : ∃ z, z = PL.length := ⟨_, rfl⟩
  unfold PtPost at HPl
  rw [← hN] at HPl hplN
  have HPk := Lib.hid hN.symm
  clear hS hcs hb6 hP hcap hcl HSml HSz hpl HFi HPf HAs hnC hPL hN HPd
  go_upto_region 7 with fail
  have hk8 := Bk.new w6 41 #[.slice CA nC Cc, .int .u32 pd] (l := [.slice CA nC Cc, .int .u32 pd]) rfl
  have hb7 := oneb w6 (.cells #[.slice CA nC Cc, .int .u32 pd] 41)
  generalize World.alloc w6 _ = w7 at hk8 hb7 ⊢
  generalize w6.heap.size = g8 at hk8 ⊢
  have HB6 := Lib.hid hb7
  have HRR := Lib.hid (HRR.out.below hb7)
  have HK7 := Lib.hid (HK7.out.kept hb7)
  have HBw := Lib.hid (HBw.out.trans (hb7.mono HBw.out.size))
  have HK8 := Lib.hid hk8
  have e0 := hk8.cell 0 rfl
  have e1 := hk8.cell 1 rfl
  have el := hk8.lt
  clear hk8 hb7
  go_wp2_with fail
  refine (HPl.out _ HB6.out).mono ?_
  clear e0 e1 el HPl
  rintro e w8 ⟨A1, c1, rfl, hr1, hb8⟩
  have HR1 := Lib.hid hr1
  have HB6 := Lib.hid (HB6.out.trans (hb8.mono HB6.out.size))
  have HRR := Lib.hid (HRR.out.below hb8)
  have HK7 := Lib.hid (HK7.out.kept hb8)
  have HK8 := Lib.hid (HK8.out.kept hb8)
  have HBw := Lib.hid (HBw.out.trans (hb8.mono HBw.out.size))
  clear hr1 hb8
  go_wp2_with fail
  refine (make_any PL N A1 c1 w8 HPk.out (by omega) HOk.out HR1.out).mono ?_
  rintro e w9 ⟨hb9, hmk, hbad⟩
  have HB6 := Lib.hid (HB6.out.trans (hb9.mono HB6.out.size))
  have HRR := Lib.hid (HRR.out.below hb9)
  have HK7 := Lib.hid (HK7.out.kept hb9)
  have HK8 := Lib.hid (HK8.out.kept hb9)
  have HBw := Lib.hid (HBw.out.trans (hb9.mono HBw.out.size))
  clear hb9 HR1
  rcases HMo.out with hm | hm
  rotate_left 1
  · have hbd := hbad (by rw [hm]; decide)
    rw [hm] at hbd
    subst hbd
    clear hmk hbad hm
    go_wp2_with fail
    go_ret
    exact ⟨rfl, HBw.out⟩
  obtain ⟨v, hr, rfl⟩ := hmk hm.ok
  have HIk := Lib.hid (make_oks PL HOk.out hm.ok)
  have HIl := Lib.hid (make_len PL hm.ok)
  have HGd := Lib.hid hm.good
  have HSay := Lib.hid (HMs.out hm)
  obtain ⟨ins, hins⟩ : ∃ i, i = (makeF PL).2.ins := ⟨_, rfl⟩
  rw [← hins] at hr HIk HIl HGd HSay
  obtain ⟨K, hK⟩ : ∃ K, K = ins.length := ⟨_, rfl⟩
  rw [← hK] at hr HIl
  have hK4 : K ≤ 4096 := HIl.out
  obtain ⟨Aa, ca, rfl, _⟩ := own_typed hr
  have HKl := Lib.hid hK.symm
  have HL1 := Lib.hid (load_any ins K Aa ca w9 hK.symm HIk.out (own_rdI hr) (by unfold maxLen; omega))
  clear hmk hbad hm hr hins hK HMo HMs HIl
  have HBw9 := HBw
  go_wp2_with fail
  refine HL1.out.mono ?_
  rintro e w10 ⟨_, _, _, hb3, hgood | ⟨hbad, _⟩⟩
  rotate_left 1
  · exact absurd HGd.out hbad
  obtain ⟨_, rfl, rfl, p, fb, fo, fc, hp, hpb, rfl, hF⟩ := hgood
  have HPw := Lib.hid (show w.heap.size ≤ p from Nat.le_trans HBw.out.size hp)
  have HPw2 := Lib.hid (show w9.heap.size ≤ p from hp)
  have HBw := Lib.hid (HBw.out.trans (hb3.mono HBw.out.size))
  have HB23 := Lib.hid hb3
  go_upto_region 11 with fail
  have hx := Bk.new w10 51 #[.int .i64 0, .int .i64 0] (l := [.int .i64 0, .int .i64 0]) rfl
  have hb4 := oneb w10 (.cells #[.int .i64 0, .int .i64 0] 51)
  generalize World.alloc w10 _ = w11 at hx hb4 ⊢
  have hF4 := hF.below hb4
  obtain ⟨BB, hBB⟩ : ∃ b, b = w10.heap.size := ⟨_, rfl⟩
  have HBw := Lib.hid (HBw.out.trans (hb4.mono HBw.out.size))
  have HB24 := Lib.hid (HB23.out.trans (hb4.mono HB23.out.size))
  rw [← hBB] at hF4 hx ⊢
  have HF := Lib.hid hF4
  have HX := Lib.hid hx
  have HXp := Lib.hid (show BB ≠ p by have := hF4.lp; omega)
  clear hb3 hp hpb hF hx hb4 hF4 hBB HL1 HB23
  have y0 := HX.out.cell 0 rfl
  have y1 := HX.out.cell 1 rfl
  have yl := HX.out.lt
  have hQ : ∀ W : World, (binOp .neq 51 (.agg #[.int .i64 0, .int .i64 0]) (.agg #[.int .i64 0, .int .i64 0])).run Tryz.prog W = .ok (.bool false) W := fun W => by kernel_rfl
  have hk7 := HK7.out.kept HB24.out
  have q0 := hk7.cell 0 rfl
  have q1 := hk7.cell 1 rfl
  have q2 := hk7.cell 2 rfl
  have q3 := hk7.cell 3 rfl
  have q4 := hk7.cell 4 rfl
  have q5 := hk7.cell 5 rfl
  have ql := hk7.lt
  clear hk7
  go_wp2_with fail
  refine (HRec.out ⟨pn9.toArray⟩ pd rules RA nR Rc ph PA9 nP Pc QA9 nQ Qc w11 HBw.out HNR.out (by omega) (HRR.out.below HB24.out)).mono ?_
  clear q0 q1 q2 q3 q4 q5 ql y0 y1 yl hQ HRec HX HXp
  rintro e w12 ⟨⟨rs, cA, cc, rfl, hl50, hrok, hrt⟩, hb12⟩
  have HF := Lib.hid (HF.out.below (hb12.mono HF.out.le))
  have HB9 := Lib.hid (HB24.out.trans (hb12.mono HB24.out.size))
  have HW9 := Lib.hid (show Below w.heap.size w w9 from HBw9.out)
  have HRok2 := Lib.hid hrok
  obtain ⟨nK, hnK⟩ : ∃ n, rs.length = n := ⟨_, rfl⟩
  rw [hnK] at hl50 hrt ⊢
  have HnK := Lib.hid hnK
  have HRt := Lib.hid hrt
  clear hb12 hrok hnK hrt HB24 HBw HBw9
  go_wp2_with fail
  go_loopw [49] (fun iv wz => ∃ j st : Nat, iv = .int .i64 j ∧ j ≤ nK ∧ st ≤ 4096 * j ∧ Hid (Fil wz BB p fb fo fc ins j st) ∧ Hid (Below w9.heap.size w9 wz) ∧ Hid (TRd wz 58 9 nK cA (rs.flatMap RcM.cells))) (fun iv _ => nK - (intOf iv).toNat)
  case atStart => exact ⟨0, 0, rfl, Nat.zero_le _, by omega, HF, HB9, HRt⟩
  case round =>
    clear HF HB9 HRt
    rename World => wz
    obtain ⟨j, st, rfl, hj, hst, HF, HB9, HRt⟩ := hrel
    by_cases hin : j < nK
    · obtain ⟨x, hx⟩ : ∃ x, rs[j]? = some x := ⟨_, List.getElem?_eq_getElem (by have := HnK.out; omega)⟩
      have HXo := Lib.hid (HRok2.out x (List.mem_of_getElem? hx))
      obtain ⟨b3, o3, hA3, hb3, hcell⟩ := HRt.out.rd.one (f := RcM.cells) (fun _ => rfl) (by omega) (by omega)
      subst hA3
      obtain ⟨c0, c1', c2, c3, c4, c5, c6, c7, c8⟩ := nine_recL hcell hx
      clear hcell hx
      go_upto_region 16 with fail
      have hbx := oneb wz (.cells #[.int .u32 x.num, .int .u32 x.arch, .int .u64 x.at_, .int .u64 x.a0, .int .u64 x.a1, .int .u64 x.a2, .int .u64 x.a3, .int .u64 x.a4, .int .u64 x.a5] 58)
      have hkx := Bk.new wz 58 #[.int .u32 x.num, .int .u32 x.arch, .int .u64 x.at_, .int .u64 x.a0, .int .u64 x.a1, .int .u64 x.a2, .int .u64 x.a3, .int .u64 x.a4, .int .u64 x.a5] (l := x.cells) rfl
      clear c0 c1' c2 c3 c4 c5 c6 c7 c8
      generalize World.alloc wz _ = w13 at hbx hkx ⊢
      generalize wz.heap.size = gx at hkx ⊢
      have HF := Lib.hid (HF.out.below (hbx.mono HF.out.le))
      have HB9 := Lib.hid (HB9.out.trans (hbx.mono HB9.out.size))
      have HRt := Lib.hid (HRt.out.below hbx)
      have HKx := Lib.hid hkx
      obtain ⟨bs, hbs, hrl, hse⟩ := rec_bs x HXo.out
      have hnl := run_len (recW bs) ins
      rw [HKl.out] at hnl
      have R1 := Lib.hid (run_any bs ins BB p fb fo fc j st w13 HF.out HGd.out HIk.out hbs (smJ (by omega)) (smJ (by omega)))
      unfold RunTo at R1
      have hsy := HSay.out x HXo.out bs hse
      rw [hsy, hrl] at R1
      have HSs := Lib.hid (fun W (h : Below w9.heap.size w9 W) => Me.says_any ⟨pn9.toArray⟩ pd rules RA nR Rc ph PA9 nP Pc QA9 nQ Qc x W HNR.out (by omega) (HRR.out.below h) HXo.out)
      have HDd := Lib.hid (HDs.out x HXo.out)
      obtain ⟨sv, hsv⟩ : ∃ s, s = saysR pd (rules.map RuleV.m) x := ⟨_, rfl⟩
      rw [← hsv] at R1 HSs HDd
      unfold RetU at HSs
      obtain ⟨n9, hn9⟩ : ∃ n, n = (runN (recW bs) ins).1.length := ⟨_, rfl⟩
      rw [← hn9] at R1 hnl
      have esv : ((sv : Int) != (sv : Int)) = false := by simp
      have y0 := hkx.cell 0 rfl
      have y1 := hkx.cell 1 rfl
      have y2 := hkx.cell 2 rfl
      have y3 := hkx.cell 3 rfl
      have y4 := hkx.cell 4 rfl
      have y5 := hkx.cell 5 rfl
      have y6 := hkx.cell 6 rfl
      have y7 := hkx.cell 7 rfl
      have y8 := hkx.cell 8 rfl
      have yl := hkx.lt
      clear hbs hrl hse hsy hsv hn9 hbx hkx hb3
      go_wp2_with fail
      refine R1.out.mono ?_
      clear y0 y1 y2 y3 y4 y5 y6 y7 y8 yl R1
      rintro e w14 ⟨rfl, hf, hg⟩
      have HTy := Lib.hid HF.out.bk.tyb
      have HKx := Lib.hid (HKx.out.grown hg (fun e => (HKx.out.tyb.ne HTy.out (by decide)) (Option.some.inj e)))
      have HRt := Lib.hid (HRt.out.grown hg (HRt.out.off HTy.out (by decide)))
      have HB9 := Lib.hid (only_below HB9.out hg HB9.out.size HPw2.out)
      have HF := Lib.hid hf
      clear hf hg HTy
      have hkx := HKx.out
      have y0 := hkx.cell 0 rfl
      have y1 := hkx.cell 1 rfl
      have y2 := hkx.cell 2 rfl
      have y3 := hkx.cell 3 rfl
      have y4 := hkx.cell 4 rfl
      have y5 := hkx.cell 5 rfl
      have y6 := hkx.cell 6 rfl
      have y7 := hkx.cell 7 rfl
      have y8 := hkx.cell 8 rfl
      have yl := hkx.lt
      have hk8 := HK8.out.kept HB9.out
      have e0 := hk8.cell 0 rfl
      have e1 := hk8.cell 1 rfl
      have el := hk8.lt
      clear hkx hk8
      go_wp2_with fail
      refine (HDe.out x HXo.out _ (HB6.out.trans (HB9.out.mono HB6.out.size))).mono ?_
      clear y0 y1 y2 y3 y4 y5 y6 y7 y8 yl e0 e1 el
      rintro e w15 ⟨r1, rfl, hb15, hdr⟩
      obtain rfl := HDd.out r1 hdr
      have HF := Lib.hid (HF.out.below (hb15.mono HF.out.le))
      have HKx := Lib.hid (HKx.out.kept hb15)
      have HRt := Lib.hid (HRt.out.below hb15)
      have HB9 := Lib.hid (HB9.out.trans (hb15.mono HB9.out.size))
      clear hb15 hdr
      have hkx := HKx.out
      have y0 := hkx.cell 0 rfl
      have y1 := hkx.cell 1 rfl
      have y2 := hkx.cell 2 rfl
      have y3 := hkx.cell 3 rfl
      have y4 := hkx.cell 4 rfl
      have y5 := hkx.cell 5 rfl
      have y6 := hkx.cell 6 rfl
      have y7 := hkx.cell 7 rfl
      have y8 := hkx.cell 8 rfl
      have yl := hkx.lt
      have hk7 := HK7.out.kept HB9.out
      have q0 := hk7.cell 0 rfl
      have q1 := hk7.cell 1 rfl
      have q2 := hk7.cell 2 rfl
      have q3 := hk7.cell 3 rfl
      have q4 := hk7.cell 4 rfl
      have q5 := hk7.cell 5 rfl
      have ql := hk7.lt
      clear hkx hk7
      go_wp2_with fail
      refine (HSs.out _ HB9.out).mono ?_
      clear y0 y1 y2 y3 y4 y5 y6 y7 y8 yl q0 q1 q2 q3 q4 q5 ql
      rintro e w16 ⟨rfl, hb16⟩
      have HF := Lib.hid (HF.out.below (hb16.mono HF.out.le))
      have HRt := Lib.hid (HRt.out.below hb16)
      have HB9 := Lib.hid (HB9.out.trans (hb16.mono HB9.out.size))
      clear hb16
      go_wp2_with fail
      go_roundw
      case rel => exact ⟨j + 1, st + n9, by go_num, by omega, by omega, HF, HB9, HRt⟩
      case measure => simp [intOf]; omega
    · go_wp2_with fail
      go_ret
      exact ⟨rfl, HW9.out.trans (HB9.out.mono HW9.out.size)⟩
end Go.Proofs.YtcageojoafkojaaGreat.Lo
