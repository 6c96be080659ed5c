/- IrDecides: the walk. -/
import Derived.Test.YtgdoampokcpagaaIrK
import Derived.Test.YtgdoampokcpagaaIrJ
import Derived.Test.YtgdoampokcpagaaMeV
namespace Go.Proofs.Ytgdoampokcpagaa.Ir
open Go.RowKit Go.WideElems Go.Proofs.Ytgdoampokcpagaa.Me
/-- A plan of a policy that is few is small. -/
theorem plan_small {x : PolV} {l' : List RuleM} {cs : List CaV} (hS : Sorted (x.rules.map RuleV.m) l') (hcs : cs.map CaV.m = ofF l') (hq : QOk x) : ∀ c ∈ cs, c.brs.length ≤ 100000 ∧ ∀ b ∈ c.brs, b.m.conds.length ≤ 100000 ∧ ∀ q ∈ b.m.conds, q.ok := fun c hc => by
  have hm : c.m ∈ ofF l' := by rw [← hcs]; exact List.mem_map.2 ⟨c, hc, rfl⟩
  obtain ⟨g1, g2⟩ := plan_sub hS c.m hm
  have g3 : c.m.brs.length = c.brs.length := by show (c.brs.map BrV.m).length = _; rw [List.length_map]
  rw [List.length_map] at g1
  refine ⟨by have := hq.r; omega, fun b hb => ?_⟩
  obtain ⟨r, hr, _, _, h4, h5⟩ := g2 b.m (List.mem_map.2 ⟨b, hb, rfl⟩)
  obtain ⟨rv, hrv, rfl⟩ := List.mem_map.1 hr
  have hk := hq.cs rv hrv
  have ho := hq.ok rv hrv
  exact ⟨by omega, fun q hq => ho.2.2.2 q (h5 q hq)⟩
set_option maxHeartbeats 32000000 in
set_option maxRecDepth 100000 in
theorem walk_irDecides (p : PolV) (s : SmV) (A : Option Addr) (n c : Nat) (PB : Option Addr) (pn pc : Nat) (zs : List Int) (w : World) (hp : PolIn w p) (hs : SmIn w s) (hl : RecsIn w A n c) (hk : IsRow .u8 w PB pn pc zs) :
    Calls Try.prog 3 #[.agg p.cells.toArray, .agg s.cells.toArray, .slice A n c, .slice PB pn pc] w (RetB true w) := by
  obtain ⟨nm, dflt, rules, RA, Rc, hd, paths, PA, Pc, ports, QA, Qc⟩ := p
  obtain ⟨ni, df, er, hh, srs, SA, sc, dl, DA, dc, gl, GA, gc, kl, KA, kc⟩ := s
  obtain ⟨lr, hlr, hlok, hlR, hlm, hlA⟩ := hl
  obtain ⟨pl, hpl, hp8, hpR, hpm⟩ := row_u8 hk
  show Calls Try.prog _ #[.agg #[.string ⟨nm.toArray⟩, .int .u32 dflt, .slice RA rules.length Rc, .int .u16 hd, .slice PA paths.length Pc, .slice QA ports.length Qc], .agg #[.int .u8 ni, .int .u8 df, .int .u8 er, .slice SA srs.length sc, .int .u16 hh, .slice DA dl.length dc, .slice GA gl.length gc, .slice KA kl.length kc], .slice A n c, .slice PB pn pc] w _
  obtain ⟨hk1, hk2, hb⟩ := two_new w #[.string ⟨nm.toArray⟩, .int .u32 dflt, .slice RA rules.length Rc, .int .u16 hd, .slice PA paths.length Pc, .slice QA ports.length Qc] #[.int .u8 ni, .int .u8 df, .int .u8 er, .slice SA srs.length sc, .int .u16 hh, .slice DA dl.length dc, .slice GA gl.length gc, .slice KA kl.length kc] 30 35 (la := [.string ⟨nm.toArray⟩, .int .u32 dflt, .slice RA rules.length Rc, .int .u16 hd, .slice PA paths.length Pc, .slice QA ports.length Qc]) (lb := [.int .u8 ni, .int .u8 df, .int .u8 er, .slice SA srs.length sc, .int .u16 hh, .slice DA dl.length dc, .slice GA gl.length gc, .slice KA kl.length kc]) rfl rfl
  have HFew := Lib.hid (fun W (h : Below w.heap.size w W) => few_any nm dflt rules RA _ Rc hd paths PA _ Pc ports QA _ Qc W rfl rfl rfl hp.g3 hp.g4 hp.g5 (fun r hr => (hp.g9 r hr).2.2.1) (fun x hx => (hp.g10 x hx).1) (hp.g12.below h))
  have HSm := Lib.hid (fun W (hb : Below w.heap.size w W) => smallPolicy_any ni df er hh srs SA _ sc dl DA _ dc gl GA _ gc kl KA _ kc W hs.g1 hs.g2 hs.g3 hs.g4 rfl rfl rfl rfl hs.g5 hs.g6 hs.g7 hs.g8 hs.g9 hs.g10 hs.g11 hs.g12 (hs.g13.below hb) (fun r hr => (hs.g14 r hr).below hb) (hs.g15.below hb) (hs.g16.below hb) (hs.g17.below hb))
  have HRec := Lib.hid (fun (hn20 : n ≤ 20) nm d rules RA nR Rc hd PA nP Pc QA nQ Qc W (h : Below w.heap.size w W) h1 h2 h3 => records_any nm d rules RA nR Rc hd PA nP Pc QA nQ Qc lr A n c pl PB pn pc W h1 h2 h3 hlr hn20 hlok hlA (hlR.below h) hpl hpm hp8 (hpR.below h))
  have hn63 : n ≤ 9223372036854775807 := hlm
  clear hlok hlR hlA hp8 hpR hk hs hlr hpl hlm
  go_enter Try.func3, Try.ntmps3
  go_upto_region 1 with fail
  generalize (w.alloc _).alloc _ = w2 at hk1 hk2 hb ⊢
  have HB2 := Lib.hid hb
  have HK1 := Lib.hid hk1
  have HK2 := Lib.hid hk2
  clear hk1 hk2 hb
  go_wp2_with fail
  refine (awake_any _).mono ?_
  rintro e w3 ⟨rfl, hb3⟩
  have HB3 := Lib.hid (HB2.out.trans (hb3.mono HB2.out.size))
  have q0 := (HK1.out.kept hb3).cell 0 rfl
  have q1 := (HK1.out.kept hb3).cell 1 rfl
  have q2 := (HK1.out.kept hb3).cell 2 rfl
  have q3 := (HK1.out.kept hb3).cell 3 rfl
  have q4 := (HK1.out.kept hb3).cell 4 rfl
  have q5 := (HK1.out.kept hb3).cell 5 rfl
  have ql := (HK1.out.kept hb3).lt
  have HK1 := Lib.hid (HK1.out.kept hb3)
  have HK2 := Lib.hid (HK2.out.kept hb3)
  clear hb3 HB2
  go_wp2_with fail
  refine (HFew.out _ HB3.out).mono ?_
  clear q0 q1 q2 q3 q4 q5
  rintro e w4 ⟨⟨bf, rfl, hf⟩, hb4⟩
  have HB4 := Lib.hid (HB3.out.trans (hb4.mono HB3.out.size))
  have HK1 := Lib.hid (HK1.out.kept hb4)
  have HK2 := Lib.hid (HK2.out.kept hb4)
  clear hb4 HB3 ql
  cases bf with
  | false =>
    go_wp2_with fail
    go_ret
    exact ⟨rfl, HB4.out⟩
  | true =>
    have HQp := Lib.hid (q_few hp (hf rfl))
    clear hf
    by_cases h20 : 20 < n
    · have g20 : (20 : Int) < (n : Int) := by omega
      have d20 : decide ((20 : Int) < (n : Int)) = true := decide_eq_true g20
      clear h20
      go_wp2_with fail
      go_ret
      exact ⟨rfl, HB4.out⟩
    · have g20 : ¬ (20 : Int) < (n : Int) := by omega
      have d20 : decide ((20 : Int) < (n : Int)) = false := decide_eq_false g20
      have HRec := Lib.hid (HRec.out (by omega))
      clear h20
      have q0 := HK1.out.cell 0 rfl
      have q1 := HK1.out.cell 1 rfl
      have q2 := HK1.out.cell 2 rfl
      have q3 := HK1.out.cell 3 rfl
      have q4 := HK1.out.cell 4 rfl
      have q5 := HK1.out.cell 5 rfl
      have t0 := HK2.out.cell 0 rfl
      have t1 := HK2.out.cell 1 rfl
      have t2 := HK2.out.cell 2 rfl
      have t3 := HK2.out.cell 3 rfl
      have t4 := HK2.out.cell 4 rfl
      have t5 := HK2.out.cell 5 rfl
      have t6 := HK2.out.cell 6 rfl
      have t7 := HK2.out.cell 7 rfl
      go_upto_region 5 with fail
      refine wp_region_held_drew (S := (fun w' => w'.cell? ⟨w.heap.size, 0, none⟩ = some (.string ⟨nm.toArray⟩) ∧ w'.cell? ⟨w.heap.size, 1, none⟩ = some (.int .u32 dflt) ∧ w'.cell? ⟨w.heap.size, 2, none⟩ = some (.slice RA rules.length Rc) ∧ w'.cell? ⟨w.heap.size, 3, none⟩ = some (.int .u16 hd) ∧ w'.cell? ⟨w.heap.size, 4, none⟩ = some (.slice PA paths.length Pc) ∧ w'.cell? ⟨w.heap.size, 5, none⟩ = some (.slice QA ports.length Qc) ∧ w'.cell? ⟨w.heap.size + 1, 0, none⟩ = some (.int .u8 ni) ∧ w'.cell? ⟨w.heap.size + 1, 1, none⟩ = some (.int .u8 df) ∧ w'.cell? ⟨w.heap.size + 1, 2, none⟩ = some (.int .u8 er) ∧ w'.cell? ⟨w.heap.size + 1, 3, none⟩ = some (.slice SA srs.length sc) ∧ w'.cell? ⟨w.heap.size + 1, 4, none⟩ = some (.int .u16 hh) ∧ w'.cell? ⟨w.heap.size + 1, 5, none⟩ = some (.slice DA dl.length dc) ∧ w'.cell? ⟨w.heap.size + 1, 6, none⟩ = some (.slice GA gl.length gc) ∧ w'.cell? ⟨w.heap.size + 1, 7, none⟩ = some (.slice KA kl.length kc) ∧ Hid (Below w4.heap.size w4 w'))) (by kernel_rfl) ?_ (fun hHeld0 => ?_)
      · exact ⟨q0, q1, q2, q3, q4, q5, t0, t1, t2, t3, t4, t5, t6, t7, Lib.hid (Below.refl w4.heap.size w4).drew⟩
      clear q0 q1 q2 q3 q4 q5 t0 t1 t2 t3 t4 t5 t6 t7
      generalize w4.drew = vh0 at hHeld0 ⊢
      refine wpAnyH_take (i := 0) (v := ?_) (by first | (simp only [List.getElem?_toArray, List.getElem?_cons_zero] <;> rfl) | rfl) (by kernel_rfl) (by kernel_rfl) (by kernel_rfl) (by exact fun _ _ _ h => h) (Or.inl ⟨by rfl, ?_⟩) hHeld0 ?_
      rotate_left 1
      · intro w hSw
        try dsimp only at hSw
        (go_simp) <;> (with_reducible rfl)
      try simp only [Act.put, List.setIfInBounds_toArray, List.set_cons_zero, List.set_cons_succ]
      refine wpAnyH_take (i := 1) (v := ?_) (by first | (simp only [List.getElem?_toArray, List.getElem?_cons_succ, List.getElem?_cons_zero] <;> rfl) | rfl) (by kernel_rfl) (by kernel_rfl) (by kernel_rfl) (by exact fun _ _ _ h => h) (Or.inl ⟨by rfl, ?_⟩) hHeld0 ?_
      rotate_left 1
      · intro w hSw
        try dsimp only at hSw
        (go_simp) <;> (with_reducible rfl)
      try simp only [Act.put, List.setIfInBounds_toArray, List.set_cons_zero, List.set_cons_succ]
      refine wpAnyH_take (i := 5) (v := ?_) (by first | (simp only [List.getElem?_toArray, List.getElem?_cons_succ, List.getElem?_cons_zero] <;> rfl) | rfl) (by kernel_rfl) (by kernel_rfl) (by kernel_rfl) (by exact fun _ _ _ h => h) (Or.inl ⟨by rfl, ?_⟩) hHeld0 ?_
      rotate_left 1
      · intro w hSw
        try dsimp only at hSw
        (go_simp) <;> (with_reducible rfl)
      try simp only [Act.put, List.setIfInBounds_toArray, List.set_cons_zero, List.set_cons_succ]
      refine wpAnyH_ready (rs := [2]) (by kernel_rfl) (by simp) ?_
      refine AllReadyH.cons (by first | (simp only [List.getElem?_toArray, List.getElem?_cons_succ, List.getElem?_cons_zero] <;> rfl) | rfl) (fun K hK => ?_) ?_
      · go_simp
        refine (HSm.out _ (HB4.out.trans ((hHeld0.2.2.2.2.2.2.2.2.2.2.2.2.2.2.out).mono HB4.out.size))).mono ?_
        rintro e vh1 ⟨qnm, qact, qrs, qRA, qRc, qhd, qpt, qPA, qPc, qpo, qQA, qQc, rfl, hR4, hOk, hbb⟩
        refine hK.out _ _ ?_ (fun hHeld1 => ?_)
        · exact ⟨cell_below hHeld0.1 hbb, cell_below hHeld0.2.1 hbb, cell_below hHeld0.2.2.1 hbb, cell_below hHeld0.2.2.2.1 hbb, cell_below hHeld0.2.2.2.2.1 hbb, cell_below hHeld0.2.2.2.2.2.1 hbb, cell_below hHeld0.2.2.2.2.2.2.1 hbb, cell_below hHeld0.2.2.2.2.2.2.2.1 hbb, cell_below hHeld0.2.2.2.2.2.2.2.2.1 hbb, cell_below hHeld0.2.2.2.2.2.2.2.2.2.1 hbb, cell_below hHeld0.2.2.2.2.2.2.2.2.2.2.1 hbb, cell_below hHeld0.2.2.2.2.2.2.2.2.2.2.2.1 hbb, cell_below hHeld0.2.2.2.2.2.2.2.2.2.2.2.2.1 hbb, cell_below hHeld0.2.2.2.2.2.2.2.2.2.2.2.2.2.1 hbb, hHeld0.2.2.2.2.2.2.2.2.2.2.2.2.2.2.out.trans (hbb.mono hHeld0.2.2.2.2.2.2.2.2.2.2.2.2.2.2.out.size)⟩
        clear hK K
        have HSr := Lib.hid (small_reads (nm := qnm) (act := qact) (hd := qhd) hR4)
        have HSq := Lib.hid (q_small (RA := qRA) (Rc := qRc) (PA := qPA) (Pc := qPc) (QA := qQA) (Qc := qQc) hOk)
        clear hR4 hOk
        clear hbb hHeld0
        try simp only [Act.put, List.setIfInBounds_toArray, List.set_cons_zero, List.set_cons_succ]
        refine wpAnyH_ready (rs := [3]) (by kernel_rfl) (by simp) ?_
        refine AllReadyH.cons (by first | (simp only [List.getElem?_toArray, List.getElem?_cons_succ, List.getElem?_cons_zero] <;> rfl) | rfl) (fun K hK => ?_) ?_
        · go_simp
          refine hK.out _ _ ?_ (fun hHeld2 => ?_)
          · exact ⟨cell_below hHeld1.1 (oneb _ _), cell_below hHeld1.2.1 (oneb _ _), cell_below hHeld1.2.2.1 (oneb _ _), cell_below hHeld1.2.2.2.1 (oneb _ _), cell_below hHeld1.2.2.2.2.1 (oneb _ _), cell_below hHeld1.2.2.2.2.2.1 (oneb _ _), cell_below hHeld1.2.2.2.2.2.2.1 (oneb _ _), cell_below hHeld1.2.2.2.2.2.2.2.1 (oneb _ _), cell_below hHeld1.2.2.2.2.2.2.2.2.1 (oneb _ _), cell_below hHeld1.2.2.2.2.2.2.2.2.2.1 (oneb _ _), cell_below hHeld1.2.2.2.2.2.2.2.2.2.2.1 (oneb _ _), cell_below hHeld1.2.2.2.2.2.2.2.2.2.2.2.1 (oneb _ _), cell_below hHeld1.2.2.2.2.2.2.2.2.2.2.2.2.1 (oneb _ _), cell_below hHeld1.2.2.2.2.2.2.2.2.2.2.2.2.2.1 (oneb _ _), hHeld1.2.2.2.2.2.2.2.2.2.2.2.2.2.2.out.trans ((oneb _ _).mono hHeld1.2.2.2.2.2.2.2.2.2.2.2.2.2.2.out.size)⟩
          clear hK K
          have hbb := oneb vh1 (.cells #[.string ⟨nm.toArray⟩, .int .u32 dflt, .slice RA rules.length Rc, .int .u16 hd, .slice PA paths.length Pc, .slice QA ports.length Qc, .string ⟨qnm.toArray⟩, .int .u32 qact, .slice qRA qrs.length qRc, .int .u16 qhd, .slice qPA qpt.length qPc, .slice qQA qpo.length qQc] 30)
          have hrd := rd_new vh1 #[.string ⟨nm.toArray⟩, .int .u32 dflt, .slice RA rules.length Rc, .int .u16 hd, .slice PA paths.length Pc, .slice QA ports.length Qc, .string ⟨qnm.toArray⟩, .int .u32 qact, .slice qRA qrs.length qRc, .int .u16 qhd, .slice qPA qpt.length qPc, .slice qQA qpo.length qQc] (T := 30) (l := [(⟨nm, dflt, rules, RA, Rc, hd, paths, PA, Pc, ports, QA, Qc⟩ : PolV), ⟨qnm, qact, qrs, qRA, qRc, qhd, qpt, qPA, qPc, qpo, qQA, qQc⟩].flatMap PolV.cells) (n := 2) (z := 6) rfl rfl
          generalize World.alloc vh1 _ = vh2 at hbb hrd hHeld2 ⊢
          have HSr := Lib.hid (HSr.out.below hbb)
          generalize vh1.heap.size = g31 at hrd ⊢
          have HRd := Lib.hid hrd
          clear hbb hrd hHeld1
          try simp only [Act.put, List.setIfInBounds_toArray, List.set_cons_zero, List.set_cons_succ]
          refine wpAnyH_take (i := 4) (v := ?_) (by first | (simp only [List.getElem?_toArray, List.getElem?_cons_succ, List.getElem?_cons_zero] <;> rfl) | rfl) (by kernel_rfl) (by kernel_rfl) (by kernel_rfl) (by exact fun _ _ _ h => h) (Or.inl ⟨by rfl, ?_⟩) hHeld2 ?_
          rotate_left 1
          · intro w hSw
            try dsimp only at hSw
            (go_simp) <;> (with_reducible rfl)
          try simp only [Act.put, List.setIfInBounds_toArray, List.set_cons_zero, List.set_cons_succ]
          refine wpAnyH_done (by kernel_rfl) ?_ _
          rename World => w5
          have HB5 := Lib.hid (HB4.out.trans ((hHeld2.2.2.2.2.2.2.2.2.2.2.2.2.2.2.out).mono HB4.out.size))
          have HPr := Lib.hid (hp.g12.below HB5.out)
          have HAll := Lib.hid (two_all (Q := fun x => Reads w5 x ∧ QOk x) ⟨HPr.out, HQp.out⟩ ⟨HSr.out, HSq.out⟩)
          clear hHeld2 HSr HSq HPr HSm HFew HB4 HQp
          go_wp2_with fail
          have h31 : g31 < w5.heap.size := by obtain ⟨b, o, e, hb, _⟩ := HRd.out.pos (by omega); cases e; exact hb
          have HRd := Lib.hid HRd.out
          clear HK1 HK2 g20 d20 hn63
          go_loopw [29] (fun iv wr => ∃ k : Nat, iv = .int .i64 k ∧ k ≤ 2 ∧ Hid (Below w5.heap.size w5 wr)) (fun iv _ => 2 - (intOf iv).toNat)
          case atStart => exact ⟨0, rfl, Nat.zero_le _, Below.refl _ _⟩
          case round =>
            obtain ⟨k, rfl, hk, HBr⟩ := hrel
            have hs5 := HBr.out.size
            by_cases hk2 : k < 2
            · obtain ⟨xx, hxx⟩ : ∃ xx, [(⟨nm, dflt, rules, RA, Rc, hd, paths, PA, Pc, ports, QA, Qc⟩ : PolV), ⟨qnm, qact, qrs, qRA, qRc, qhd, qpt, qPA, qPc, qpo, qQA, qQc⟩][k]? = some xx := ⟨_, List.getElem?_eq_getElem hk2⟩
              obtain ⟨hxr, hxq⟩ := HAll.out xx (List.mem_of_getElem? hxx)
              obtain ⟨c0, c1, c2, c3, c4, c5⟩ := six_pol (HRd.out.below HBr.out) hxx
              have HXq := Lib.hid hxq
              have HXr := Lib.hid (hxr.below HBr.out)
              clear hxr hxq hxx
              obtain ⟨xn, xd, xr, xRA, xRc, xh, xp, xPA, xPc, xq, xQA, xQc⟩ := xx
              simp only at c0 c1 c2 c3 c4 c5
              obtain ⟨nR, hnR⟩ : ∃ n, xr.length = n := ⟨_, rfl⟩
              obtain ⟨nP, hnP⟩ : ∃ n, xp.length = n := ⟨_, rfl⟩
              obtain ⟨nQ, hnQ⟩ : ∃ n, xq.length = n := ⟨_, rfl⟩
              rw [hnR] at c2
              rw [hnP] at c4
              rw [hnQ] at c5
              have hlR : nR ≤ 80 := by rw [← hnR]; exact HXq.out.r
              have hlP : nP ≤ 50 := by rw [← hnP]; exact HXq.out.pt
              have hlQ : nQ ≤ 50 := by rw [← hnQ]; exact HXq.out.po
              have HnR := Lib.hid hnR
              have HnP := Lib.hid hnP
              have HnQ := Lib.hid hnQ
              clear hnR hnP hnQ
              have hk0 : (0 : Int) ≤ (k : Int) := by omega
              go_upto_region 8 with fail
              have hbx := oneb wr (.cells #[.string ⟨xn.toArray⟩, .int .u32 xd, .slice xRA nR xRc, .int .u16 xh, .slice xPA nP xPc, .slice xQA nQ xQc] 30)
              have hkx := Bk.new wr 30 #[.string ⟨xn.toArray⟩, .int .u32 xd, .slice xRA nR xRc, .int .u16 xh, .slice xPA nP xPc, .slice xQA nQ xQc] (l := [.string ⟨xn.toArray⟩, .int .u32 xd, .slice xRA nR xRc, .int .u16 xh, .slice xPA nP xPc, .slice xQA nQ xQc]) rfl
              clear c0 c1 c2 c3 c4 c5
              generalize World.alloc wr _ = w6 at hbx hkx ⊢
              generalize wr.heap.size = g10 at hkx ⊢
              have HB56 := Lib.hid (HBr.out.trans (hbx.mono HBr.out.size))
              have HB6 := Lib.hid (HB5.out.trans (HB56.out.mono HB5.out.size))
              have HX6 := Lib.hid (HXr.out.below hbx)
              have HK10 := Lib.hid hkx
              have q0 := hkx.cell 0 rfl
              have q1 := hkx.cell 1 rfl
              have q2 := hkx.cell 2 rfl
              have q3 := hkx.cell 3 rfl
              have q4 := hkx.cell 4 rfl
              have q5 := hkx.cell 5 rfl
              have ql := hkx.lt
              clear hbx hkx HXr
              have HRR := Lib.hid (Me.rrd_of HX6.out HXq.out)
              have hof := Lib.hid (of_any ⟨xn.toArray⟩ xd xr xRA nR xRc xh xPA nP xPc xQA nQ xQc w6 HnR.out (by omega) HRR.out (fun r hr => by have := HXq.out.cs r hr; omega))
              go_wp2_with fail
              refine hof.out.mono ?_
              clear hof q0 q1 q2 q3 q4 q5 ql
              rintro e w7 ⟨hb7, l', hS, PA2, pcap, cs, hcs, rfl, hP⟩
              have HSo := Lib.hid hS
              have HCs := Lib.hid hcs
              have HRR := Lib.hid (HRR.out.below hb7)
              have K10 := Lib.hid (HK10.out.kept hb7)
              have HB57 := Lib.hid (HB56.out.trans (hb7.mono HB56.out.size))
              have hlen : cs.length ≤ 100000 := by
                have h1 := plan_len hS
                rw [← hcs, List.length_map, List.length_map] at h1
                have := HnR.out; omega
              have HDec7 := Lib.hid (fun (x : RcM) (hx : x.ok) W (h : Below w7.heap.size w7 W) => decide_any cs cs.length PA2 pcap xd x W rfl hlen (asc_of hS hcs) (hP.below h) (plan_small hS hcs HXq.out) hx)
              have HEQ := Lib.hid (fun (x : RcM) (hx : x.ok) (r1 : Nat) (h1 : DecR xd cs x r1) => dec_says hS hcs hx h1)
              obtain ⟨n2, hn2⟩ : ∃ n, n = cs.length := ⟨_, rfl⟩
              rw [← hn2] at HDec7 ⊢
              have HN2 := Lib.hid hn2
              have hn9 : n2 ≤ 100000 := by rw [hn2]; exact hlen
              clear hS hcs hb7 HK10 HX6 HB56 hP hlen hn2
              go_upto_region 9 with fail
              have hbx := oneb w7 (.cells #[.slice PA2 n2 pcap, .int .u32 xd] 43)
              have hkx := Bk.new w7 43 #[.slice PA2 n2 pcap, .int .u32 xd] (l := [.slice PA2 n2 pcap, .int .u32 xd]) rfl
              have HDec := Lib.hid (fun (x : RcM) (hx : x.ok) W (h : Below (w7.alloc (.cells #[.slice PA2 n2 pcap, .int .u32 xd] 43)).heap.size (w7.alloc (.cells #[.slice PA2 n2 pcap, .int .u32 xd] 43)) W) => HDec7.out x hx W (hbx.trans (h.mono hbx.size)))
              generalize World.alloc w7 _ = w8 at hbx hkx HDec ⊢
              generalize w7.heap.size = g11 at hkx ⊢
              have HB58 := Lib.hid (HB57.out.trans (hbx.mono HB57.out.size))
              have HB8 := Lib.hid (HB5.out.trans (HB58.out.mono HB5.out.size))
              have K10 := Lib.hid (K10.out.kept hbx)
              have K11 := Lib.hid hkx
              have HRR := Lib.hid (HRR.out.below hbx)
              have q0 := K10.out.cell 0 rfl
              have q1 := K10.out.cell 1 rfl
              have q2 := K10.out.cell 2 rfl
              have q3 := K10.out.cell 3 rfl
              have q4 := K10.out.cell 4 rfl
              have q5 := K10.out.cell 5 rfl
              have ql := K10.out.lt
              clear hbx hkx HB57 HDec7
              have hrc := Lib.hid (HRec.out ⟨xn.toArray⟩ xd xr xRA nR xRc xh xPA nP xPc xQA nQ xQc w8 HB8.out HnR.out (by omega) HRR.out)
              go_wp2_with fail
              refine hrc.out.mono ?_
              clear hrc q0 q1 q2 q3 q4 q5 ql
              rintro e w9 ⟨⟨recs, cA, cc, rfl, hl50, hrok, hrt⟩, hb9⟩
              have HRok := Lib.hid hrok
              obtain ⟨nC, hnC⟩ : ∃ n, recs.length = n := ⟨_, rfl⟩
              rw [hnC] at hl50 hrt ⊢
              have HnC := Lib.hid hnC
              have HRt := Lib.hid hrt
              have HB59 := Lib.hid (HB58.out.trans (hb9.mono HB58.out.size))
              have HB89 := Lib.hid hb9
              have K10 := Lib.hid (K10.out.kept hb9)
              have K11 := Lib.hid (K11.out.kept hb9)
              have HRR := Lib.hid (HRR.out.below hb9)
              clear hrok hnC hrt hb9 HB58 HB8 HB6
              go_wp2_with fail
              go_loopw [40] (fun iv wy => ∃ i : Nat, iv = .int .i64 i ∧ i ≤ nC ∧ Hid (Below w9.heap.size w9 wy)) (fun iv _ => nC - (intOf iv).toNat)
              case atStart => exact ⟨0, rfl, Nat.zero_le _, Below.refl _ _⟩
              case round =>
                rename World => wy
                obtain ⟨i, rfl, hi, HBy⟩ := hrel
                by_cases hin : i < nC
                · obtain ⟨x, hx⟩ : ∃ x, recs[i]? = some x := ⟨_, List.getElem?_eq_getElem (by have := HnC.out; omega)⟩
                  have HXo := Lib.hid (HRok.out x (List.mem_of_getElem? hx))
                  obtain ⟨b3, o3, hA3, hb3, hcell⟩ := (HRt.out.below HBy.out).rd.one (fun _ => rfl) (by omega) (by omega)
                  subst hA3
                  obtain ⟨c0, c1, c2, c3, c4, c5, c6, c7, c8⟩ := nine_rec hcell hx
                  clear hcell hx
                  go_upto_region 12 with fail
                  have hbx := oneb wy (.cells #[.int .u32 x.num, .int .u32 x.arch, .int .u64 x.at_, .int .u64 x.a0, .int .u64 x.a1, .int .u64 x.a2, .int .u64 x.a3, .int .u64 x.a4, .int .u64 x.a5] 49)
                  have hkx := Bk.new wy 49 #[.int .u32 x.num, .int .u32 x.arch, .int .u64 x.at_, .int .u64 x.a0, .int .u64 x.a1, .int .u64 x.a2, .int .u64 x.a3, .int .u64 x.a4, .int .u64 x.a5] (l := x.cells) rfl
                  clear c0 c1 c2 c3 c4 c5 c6 c7 c8
                  generalize World.alloc wy _ = w10 at hbx hkx ⊢
                  generalize wy.heap.size = g13 at hkx ⊢
                  have HB910 := Lib.hid (HBy.out.trans (hbx.mono HBy.out.size))
                  have HB810 := Lib.hid (HB89.out.trans (HB910.out.mono HB89.out.size))
                  have K10 := Lib.hid (K10.out.kept HB910.out)
                  have K11 := Lib.hid (K11.out.kept HB910.out)
                  have HRR := Lib.hid (HRR.out.below HB910.out)
                  obtain ⟨sv, hsv⟩ : ∃ s, s = saysR xd (xr.map RuleV.m) x := ⟨_, rfl⟩
                  have HS := Lib.hid (fun W (h : Below w10.heap.size w10 W) => says_any ⟨xn.toArray⟩ xd xr xRA nR xRc xh xPA nP xPc xQA nQ xQc x W HnR.out (by omega) (HRR.out.below h) HXo.out)
                  rw [← hsv] at HS
                  have HSv := Lib.hid hsv
                  have esv : ((sv : Int) != (sv : Int)) = false := by simp
                  clear hsv
                  have e0 := K11.out.cell 0 rfl
                  have e1 := K11.out.cell 1 rfl
                  have y0 := hkx.cell 0 rfl
                  have y1 := hkx.cell 1 rfl
                  have y2 := hkx.cell 2 rfl
                  have y3 := hkx.cell 3 rfl
                  have y4 := hkx.cell 4 rfl
                  have y5 := hkx.cell 5 rfl
                  have y6 := hkx.cell 6 rfl
                  have y7 := hkx.cell 7 rfl
                  have y8 := hkx.cell 8 rfl
                  have k0 := K10.out.cell 0 rfl
                  have k1 := K10.out.cell 1 rfl
                  have k2 := K10.out.cell 2 rfl
                  have k3 := K10.out.cell 3 rfl
                  have k4 := K10.out.cell 4 rfl
                  have k5 := K10.out.cell 5 rfl
                  clear hbx hkx
                  refine wp_region_held_drew (S := (fun w' => w'.cell? ⟨g11, 0, none⟩ = some (.slice PA2 n2 pcap) ∧ w'.cell? ⟨g11, 1, none⟩ = some (.int .u32 xd) ∧ w'.cell? ⟨g13, 0, none⟩ = some (.int .u32 x.num) ∧ w'.cell? ⟨g13, 1, none⟩ = some (.int .u32 x.arch) ∧ w'.cell? ⟨g13, 2, none⟩ = some (.int .u64 x.at_) ∧ w'.cell? ⟨g13, 3, none⟩ = some (.int .u64 x.a0) ∧ w'.cell? ⟨g13, 4, none⟩ = some (.int .u64 x.a1) ∧ w'.cell? ⟨g13, 5, none⟩ = some (.int .u64 x.a2) ∧ w'.cell? ⟨g13, 6, none⟩ = some (.int .u64 x.a3) ∧ w'.cell? ⟨g13, 7, none⟩ = some (.int .u64 x.a4) ∧ w'.cell? ⟨g13, 8, none⟩ = some (.int .u64 x.a5) ∧ w'.cell? ⟨g10, 0, none⟩ = some (.string ⟨xn.toArray⟩) ∧ w'.cell? ⟨g10, 1, none⟩ = some (.int .u32 xd) ∧ w'.cell? ⟨g10, 2, none⟩ = some (.slice xRA nR xRc) ∧ w'.cell? ⟨g10, 3, none⟩ = some (.int .u16 xh) ∧ w'.cell? ⟨g10, 4, none⟩ = some (.slice xPA nP xPc) ∧ w'.cell? ⟨g10, 5, none⟩ = some (.slice xQA nQ xQc) ∧ Hid (Below w10.heap.size w10 w'))) (by kernel_rfl) ?_ (fun hHeld0 => ?_)
                  · exact ⟨e0, e1, y0, y1, y2, y3, y4, y5, y6, y7, y8, k0, k1, k2, k3, k4, k5, Lib.hid (Below.refl w10.heap.size w10).drew⟩
                  clear k0 k1 k2 k3 k4 k5 y0 y1 y2 y3 y4 y5 y6 y7 y8 e0 e1
                  generalize w10.drew = vh0 at hHeld0 ⊢
                  refine wpAnyH_take (i := 0) (v := ?_) (by first | (simp only [List.getElem?_toArray, List.getElem?_cons_zero] <;> rfl) | rfl) (by kernel_rfl) (by kernel_rfl) (by kernel_rfl) (by exact fun _ _ _ h => h) (Or.inl ⟨by rfl, ?_⟩) hHeld0 ?_
                  rotate_left 1
                  · intro w hSw
                    try dsimp only at hSw
                    (go_simp) <;> (with_reducible rfl)
                  try simp only [Act.put, List.setIfInBounds_toArray, List.set_cons_zero, List.set_cons_succ]
                  refine wpAnyH_take (i := 1) (v := ?_) (by first | (simp only [List.getElem?_toArray, List.getElem?_cons_succ, List.getElem?_cons_zero] <;> rfl) | rfl) (by kernel_rfl) (by kernel_rfl) (by kernel_rfl) (by exact fun _ _ _ h => h) (Or.inl ⟨by rfl, ?_⟩) hHeld0 ?_
                  rotate_left 1
                  · intro w hSw
                    try dsimp only at hSw
                    (go_simp) <;> (with_reducible rfl)
                  try simp only [Act.put, List.setIfInBounds_toArray, List.set_cons_zero, List.set_cons_succ]
                  refine wpAnyH_take (i := 3) (v := ?_) (by first | (simp only [List.getElem?_toArray, List.getElem?_cons_succ, List.getElem?_cons_zero] <;> rfl) | rfl) (by kernel_rfl) (by kernel_rfl) (by kernel_rfl) (by exact fun _ _ _ h => h) (Or.inl ⟨by rfl, ?_⟩) hHeld0 ?_
                  rotate_left 1
                  · intro w hSw
                    try dsimp only at hSw
                    (go_simp) <;> (with_reducible rfl)
                  try simp only [Act.put, List.setIfInBounds_toArray, List.set_cons_zero, List.set_cons_succ]
                  refine wpAnyH_take (i := 4) (v := ?_) (by first | (simp only [List.getElem?_toArray, List.getElem?_cons_succ, List.getElem?_cons_zero] <;> rfl) | rfl) (by kernel_rfl) (by kernel_rfl) (by kernel_rfl) (by exact fun _ _ _ h => h) (Or.inl ⟨by rfl, ?_⟩) hHeld0 ?_
                  rotate_left 1
                  · intro w hSw
                    try dsimp only at hSw
                    (go_simp) <;> (with_reducible rfl)
                  try simp only [Act.put, List.setIfInBounds_toArray, List.set_cons_zero, List.set_cons_succ]
                  refine wpAnyH_ready (rs := [2]) (by kernel_rfl) (by simp) ?_
                  refine AllReadyH.cons (by first | (simp only [List.getElem?_toArray, List.getElem?_cons_succ, List.getElem?_cons_zero] <;> rfl) | rfl) (fun K hK => ?_) ?_
                  · go_simp
                    refine (HDec.out x HXo.out _ (HB810.out.trans ((hHeld0.2.2.2.2.2.2.2.2.2.2.2.2.2.2.2.2.2.out).mono HB810.out.size))).mono ?_
                    rintro e vh1 ⟨r1, rfl, hbb, hdr⟩
                    refine hK.out _ _ ?_ (fun hHeld1 => ?_)
                    · exact ⟨cell_below hHeld0.1 hbb, cell_below hHeld0.2.1 hbb, cell_below hHeld0.2.2.1 hbb, cell_below hHeld0.2.2.2.1 hbb, cell_below hHeld0.2.2.2.2.1 hbb, cell_below hHeld0.2.2.2.2.2.1 hbb, cell_below hHeld0.2.2.2.2.2.2.1 hbb, cell_below hHeld0.2.2.2.2.2.2.2.1 hbb, cell_below hHeld0.2.2.2.2.2.2.2.2.1 hbb, cell_below hHeld0.2.2.2.2.2.2.2.2.2.1 hbb, cell_below hHeld0.2.2.2.2.2.2.2.2.2.2.1 hbb, cell_below hHeld0.2.2.2.2.2.2.2.2.2.2.2.1 hbb, cell_below hHeld0.2.2.2.2.2.2.2.2.2.2.2.2.1 hbb, cell_below hHeld0.2.2.2.2.2.2.2.2.2.2.2.2.2.1 hbb, cell_below hHeld0.2.2.2.2.2.2.2.2.2.2.2.2.2.2.1 hbb, cell_below hHeld0.2.2.2.2.2.2.2.2.2.2.2.2.2.2.2.1 hbb, cell_below hHeld0.2.2.2.2.2.2.2.2.2.2.2.2.2.2.2.2.1 hbb, hHeld0.2.2.2.2.2.2.2.2.2.2.2.2.2.2.2.2.2.out.trans (hbb.mono hHeld0.2.2.2.2.2.2.2.2.2.2.2.2.2.2.2.2.2.out.size)⟩
                    clear hK K
                    have HR1 := Lib.hid (HEQ.out x HXo.out r1 hdr)
                    rw [← HSv.out] at HR1
                    have hr1 := HR1.out
                    clear HR1 hdr
                    subst hr1
                    clear hbb hHeld0
                    try simp only [Act.put, List.setIfInBounds_toArray, List.set_cons_zero, List.set_cons_succ]
                    refine wpAnyH_ready (rs := [5]) (by kernel_rfl) (by simp) ?_
                    refine AllReadyH.cons (by first | (simp only [List.getElem?_toArray, List.getElem?_cons_succ, List.getElem?_cons_zero] <;> rfl) | rfl) (fun K hK => ?_) ?_
                    · go_simp
                      refine (HS.out _ (hHeld1.2.2.2.2.2.2.2.2.2.2.2.2.2.2.2.2.2.out)).mono ?_
                      rintro e vh2 ⟨rfl, hbb⟩
                      refine hK.out _ _ ?_ (fun hHeld2 => ?_)
                      · exact ⟨cell_below hHeld1.1 hbb, cell_below hHeld1.2.1 hbb, cell_below hHeld1.2.2.1 hbb, cell_below hHeld1.2.2.2.1 hbb, cell_below hHeld1.2.2.2.2.1 hbb, cell_below hHeld1.2.2.2.2.2.1 hbb, cell_below hHeld1.2.2.2.2.2.2.1 hbb, cell_below hHeld1.2.2.2.2.2.2.2.1 hbb, cell_below hHeld1.2.2.2.2.2.2.2.2.1 hbb, cell_below hHeld1.2.2.2.2.2.2.2.2.2.1 hbb, cell_below hHeld1.2.2.2.2.2.2.2.2.2.2.1 hbb, cell_below hHeld1.2.2.2.2.2.2.2.2.2.2.2.1 hbb, cell_below hHeld1.2.2.2.2.2.2.2.2.2.2.2.2.1 hbb, cell_below hHeld1.2.2.2.2.2.2.2.2.2.2.2.2.2.1 hbb, cell_below hHeld1.2.2.2.2.2.2.2.2.2.2.2.2.2.2.1 hbb, cell_below hHeld1.2.2.2.2.2.2.2.2.2.2.2.2.2.2.2.1 hbb, cell_below hHeld1.2.2.2.2.2.2.2.2.2.2.2.2.2.2.2.2.1 hbb, hHeld1.2.2.2.2.2.2.2.2.2.2.2.2.2.2.2.2.2.out.trans (hbb.mono hHeld1.2.2.2.2.2.2.2.2.2.2.2.2.2.2.2.2.2.out.size)⟩
                      clear hK K
                      clear hbb hHeld1
                      try simp only [Act.put, List.setIfInBounds_toArray, List.set_cons_zero, List.set_cons_succ]
                      refine wpAnyH_take (i := 6) (v := ?_) (by first | (simp only [List.getElem?_toArray, List.getElem?_cons_succ, List.getElem?_cons_zero] <;> rfl) | rfl) (by kernel_rfl) (by kernel_rfl) (by kernel_rfl) (by exact fun _ _ _ h => h) (Or.inl ⟨by rfl, ?_⟩) hHeld2 ?_
                      rotate_left 1
                      · intro w hSw
                        try dsimp only at hSw
                        (go_simp) <;> (with_reducible rfl)
                      try simp only [Act.put, List.setIfInBounds_toArray, List.set_cons_zero, List.set_cons_succ]
                      refine wpAnyH_done (by kernel_rfl) ?_ _
                      rename World => wv
                      have HBv := Lib.hid (HB910.out.trans ((hHeld2.2.2.2.2.2.2.2.2.2.2.2.2.2.2.2.2.2.out).mono HB910.out.size))
                      clear hHeld2 HS
                      go_wp2_with fail
                      go_roundw
                      case rel => exact ⟨i + 1, by go_num, by omega, HBv⟩
                      case measure => simp [intOf]; omega
                    exact AllReadyH.nil
                  exact AllReadyH.nil
                · have HBy2 := Lib.hid (HB59.out.trans (HBy.out.mono HB59.out.size))
                  go_wp2_with fail
                  go_roundw
                  case rel => exact ⟨k + 1, by go_num, by omega, HBy2⟩
                  case measure => simp [intOf]; omega
            · go_wp2_with fail
              go_ret
              exact ⟨rfl, HB5.out.trans (HBr.out.mono HB5.out.size)⟩
        exact AllReadyH.nil
      exact AllReadyH.nil
end Go.Proofs.Ytgdoampokcpagaa.Ir
