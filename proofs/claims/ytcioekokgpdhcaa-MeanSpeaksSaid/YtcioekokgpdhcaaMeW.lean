/- MeanSpeaks: the walk. -/
import Derived.Test.YtcioekokgpdhcaaMeV
namespace Go.Proofs.Ytcioekokgpdhcaa.Me
open Go.RowKit Go.WideElems
theorem idx_split (x : RcM) {ms : List RuleM} {j : Nat} {r : RuleM} (h : ms[j]? = some r) (hm : matB r x = true) : (idxL x 0 ms)[(idxL x 0 (ms.take j)).length]? = some j := by
  obtain ⟨h1, h2⟩ := List.getElem?_eq_some_iff.1 h
  have e : idxL x 0 ms = idxL x 0 (ms.take j) ++ idxL x (0 + (ms.take j).length) (ms.drop j) := by rw [← idx_app, List.take_append_drop]
  rw [e, List.getElem?_append_right (Nat.le_refl _), Nat.sub_self, List.drop_eq_getElem_cons h1, h2, idxL, if_pos hm, List.length_take, Nat.min_eq_left (by omega)]
  simp
theorem nat_cell {l : List Nat} {k j : Nat} (h : l[k]? = some j) : (l.flatMap natC)[k]? = some (.int .i64 j) := by
  have := flatz natC 1 (fun _ => rfl) (by omega) l k 0 (by omega)
  rw [Nat.mul_one, Nat.add_zero, h] at this
  exact this
theorem says_best {d : Nat} {ms : List RuleM} {x : RcM} (h : x.arch = 3221225534) : saysR d ms x = bestA d (bestL x 0 ms none) := by unfold saysR; rw [if_pos h]
set_option maxHeartbeats 32000000 in
set_option maxRecDepth 100000 in
theorem walk_meanSpeaks (p : PolV) (s : SmV) (A : Option Addr) (n c : Nat) (PB : Option Addr) (pn pc : Nat) (zs : List Int) (w : World) (hp : PolIn w p) (hs : SmIn w s) (hl : RecsIn w A n c) (hk : IsRow .u8 w PB pn pc zs) :
    Calls Try.prog 5 #[.agg p.cells.toArray, .agg s.cells.toArray, .slice A n c, .slice PB pn pc] w (RetB true w) := by
  obtain ⟨nm, dflt, rules, RA, Rc, hd, paths, PA, Pc, ports, QA, Qc⟩ := p
  obtain ⟨ni, df, er, hh, srs, SA, sc, dl, DA, dc, gl, GA, gc, kl, KA, kc⟩ := s
  obtain ⟨lr, hlr, hlok, hlR, hlm, hlA⟩ := hl
  obtain ⟨pl, hpl, hp8, hpR, hpm⟩ := row_u8 hk
  show Calls Try.prog _ #[.agg #[.string ⟨nm.toArray⟩, .int .u32 dflt, .slice RA rules.length Rc, .int .u16 hd, .slice PA paths.length Pc, .slice QA ports.length Qc], .agg #[.int .u8 ni, .int .u8 df, .int .u8 er, .slice SA srs.length sc, .int .u16 hh, .slice DA dl.length dc, .slice GA gl.length gc, .slice KA kl.length kc], .slice A n c, .slice PB pn pc] w _
  obtain ⟨hk1, hk2, hb⟩ := two_new w #[.string ⟨nm.toArray⟩, .int .u32 dflt, .slice RA rules.length Rc, .int .u16 hd, .slice PA paths.length Pc, .slice QA ports.length Qc] #[.int .u8 ni, .int .u8 df, .int .u8 er, .slice SA srs.length sc, .int .u16 hh, .slice DA dl.length dc, .slice GA gl.length gc, .slice KA kl.length kc] 30 35 (la := [.string ⟨nm.toArray⟩, .int .u32 dflt, .slice RA rules.length Rc, .int .u16 hd, .slice PA paths.length Pc, .slice QA ports.length Qc]) (lb := [.int .u8 ni, .int .u8 df, .int .u8 er, .slice SA srs.length sc, .int .u16 hh, .slice DA dl.length dc, .slice GA gl.length gc, .slice KA kl.length kc]) rfl rfl
  have HFew := Lib.hid (fun W (h : Below w.heap.size w W) => few_any nm dflt rules RA _ Rc hd paths PA _ Pc ports QA _ Qc W rfl rfl rfl hp.g3 hp.g4 hp.g5 (fun r hr => (hp.g9 r hr).2.2.1) (fun x hx => (hp.g10 x hx).1) (hp.g12.below h))
  have HSm := Lib.hid (fun W (hb : Below w.heap.size w W) => smallPolicy_any ni df er hh srs SA _ sc dl DA _ dc gl GA _ gc kl KA _ kc W hs.g1 hs.g2 hs.g3 hs.g4 rfl rfl rfl rfl hs.g5 hs.g6 hs.g7 hs.g8 hs.g9 hs.g10 hs.g11 hs.g12 (hs.g13.below hb) (fun r hr => (hs.g14 r hr).below hb) (hs.g15.below hb) (hs.g16.below hb) (hs.g17.below hb))
  have HRec := Lib.hid (fun (hn20 : n ≤ 20) nm d rules RA nR Rc hd PA nP Pc QA nQ Qc W (h : Below w.heap.size w W) h1 h2 h3 => records_any nm d rules RA nR Rc hd PA nP Pc QA nQ Qc lr A n c pl PB pn pc W h1 h2 h3 hlr hn20 hlok hlA (hlR.below h) hpl hpm hp8 (hpR.below h))
  have hn63 : n ≤ 9223372036854775807 := hlm
  clear hlok hlR hlA hp8 hpR hk hs hlr hpl hlm
  go_enter Try.func5, Try.ntmps5
  go_upto_region 1 with fail
  generalize (w.alloc _).alloc _ = w2 at hk1 hk2 hb ⊢
  have HB2 := Lib.hid hb
  have HK1 := Lib.hid hk1
  have HK2 := Lib.hid hk2
  clear hk1 hk2 hb
  go_wp2_with fail
  refine (awake_any _).mono ?_
  rintro e w3 ⟨rfl, hb3⟩
  have HB3 := Lib.hid (HB2.out.trans (hb3.mono HB2.out.size))
  have q0 := (HK1.out.kept hb3).cell 0 rfl
  have q1 := (HK1.out.kept hb3).cell 1 rfl
  have q2 := (HK1.out.kept hb3).cell 2 rfl
  have q3 := (HK1.out.kept hb3).cell 3 rfl
  have q4 := (HK1.out.kept hb3).cell 4 rfl
  have q5 := (HK1.out.kept hb3).cell 5 rfl
  have ql := (HK1.out.kept hb3).lt
  have HK1 := Lib.hid (HK1.out.kept hb3)
  have HK2 := Lib.hid (HK2.out.kept hb3)
  clear hb3 HB2
  go_wp2_with fail
  refine (HFew.out _ HB3.out).mono ?_
  clear q0 q1 q2 q3 q4 q5
  rintro e w4 ⟨⟨bf, rfl, hf⟩, hb4⟩
  have HB4 := Lib.hid (HB3.out.trans (hb4.mono HB3.out.size))
  have HK1 := Lib.hid (HK1.out.kept hb4)
  have HK2 := Lib.hid (HK2.out.kept hb4)
  clear hb4 HB3 ql
  cases bf with
  | false =>
    go_wp2_with fail
    go_ret
    exact ⟨rfl, HB4.out⟩
  | true =>
    have HQp := Lib.hid (q_few hp (hf rfl))
    clear hf
    by_cases h20 : 20 < n
    · have g20 : (20 : Int) < (n : Int) := by omega
      have d20 : decide ((20 : Int) < (n : Int)) = true := decide_eq_true g20
      clear h20
      go_wp2_with fail
      go_ret
      exact ⟨rfl, HB4.out⟩
    · have g20 : ¬ (20 : Int) < (n : Int) := by omega
      have d20 : decide ((20 : Int) < (n : Int)) = false := decide_eq_false g20
      have HRec := Lib.hid (HRec.out (by omega))
      clear h20
      have q0 := HK1.out.cell 0 rfl
      have q1 := HK1.out.cell 1 rfl
      have q2 := HK1.out.cell 2 rfl
      have q3 := HK1.out.cell 3 rfl
      have q4 := HK1.out.cell 4 rfl
      have q5 := HK1.out.cell 5 rfl
      have t0 := HK2.out.cell 0 rfl
      have t1 := HK2.out.cell 1 rfl
      have t2 := HK2.out.cell 2 rfl
      have t3 := HK2.out.cell 3 rfl
      have t4 := HK2.out.cell 4 rfl
      have t5 := HK2.out.cell 5 rfl
      have t6 := HK2.out.cell 6 rfl
      have t7 := HK2.out.cell 7 rfl
      go_upto_region 5 with fail
      refine wp_region_held_drew (S := (fun w' => w'.cell? ⟨w.heap.size, 0, none⟩ = some (.string ⟨nm.toArray⟩) ∧ w'.cell? ⟨w.heap.size, 1, none⟩ = some (.int .u32 dflt) ∧ w'.cell? ⟨w.heap.size, 2, none⟩ = some (.slice RA rules.length Rc) ∧ w'.cell? ⟨w.heap.size, 3, none⟩ = some (.int .u16 hd) ∧ w'.cell? ⟨w.heap.size, 4, none⟩ = some (.slice PA paths.length Pc) ∧ w'.cell? ⟨w.heap.size, 5, none⟩ = some (.slice QA ports.length Qc) ∧ w'.cell? ⟨w.heap.size + 1, 0, none⟩ = some (.int .u8 ni) ∧ w'.cell? ⟨w.heap.size + 1, 1, none⟩ = some (.int .u8 df) ∧ w'.cell? ⟨w.heap.size + 1, 2, none⟩ = some (.int .u8 er) ∧ w'.cell? ⟨w.heap.size + 1, 3, none⟩ = some (.slice SA srs.length sc) ∧ w'.cell? ⟨w.heap.size + 1, 4, none⟩ = some (.int .u16 hh) ∧ w'.cell? ⟨w.heap.size + 1, 5, none⟩ = some (.slice DA dl.length dc) ∧ w'.cell? ⟨w.heap.size + 1, 6, none⟩ = some (.slice GA gl.length gc) ∧ w'.cell? ⟨w.heap.size + 1, 7, none⟩ = some (.slice KA kl.length kc) ∧ Hid (Below w4.heap.size w4 w'))) (by kernel_rfl) ?_ (fun hHeld0 => ?_)
      · exact ⟨q0, q1, q2, q3, q4, q5, t0, t1, t2, t3, t4, t5, t6, t7, Lib.hid (Below.refl w4.heap.size w4).drew⟩
      clear q0 q1 q2 q3 q4 q5 t0 t1 t2 t3 t4 t5 t6 t7
      generalize w4.drew = vh0 at hHeld0 ⊢
      refine wpAnyH_take (i := 0) (v := ?_) (by first | (simp only [List.getElem?_toArray, List.getElem?_cons_zero] <;> rfl) | rfl) (by kernel_rfl) (by kernel_rfl) (by kernel_rfl) (by exact fun _ _ _ h => h) (Or.inl ⟨by rfl, ?_⟩) hHeld0 ?_
      rotate_left 1
      · intro w hSw
        try dsimp only at hSw
        (go_simp) <;> (with_reducible rfl)
      try simp only [Act.put, List.setIfInBounds_toArray, List.set_cons_zero, List.set_cons_succ]
      refine wpAnyH_take (i := 1) (v := ?_) (by first | (simp only [List.getElem?_toArray, List.getElem?_cons_succ, List.getElem?_cons_zero] <;> rfl) | rfl) (by kernel_rfl) (by kernel_rfl) (by kernel_rfl) (by exact fun _ _ _ h => h) (Or.inl ⟨by rfl, ?_⟩) hHeld0 ?_
      rotate_left 1
      · intro w hSw
        try dsimp only at hSw
        (go_simp) <;> (with_reducible rfl)
      try simp only [Act.put, List.setIfInBounds_toArray, List.set_cons_zero, List.set_cons_succ]
      refine wpAnyH_take (i := 5) (v := ?_) (by first | (simp only [List.getElem?_toArray, List.getElem?_cons_succ, List.getElem?_cons_zero] <;> rfl) | rfl) (by kernel_rfl) (by kernel_rfl) (by kernel_rfl) (by exact fun _ _ _ h => h) (Or.inl ⟨by rfl, ?_⟩) hHeld0 ?_
      rotate_left 1
      · intro w hSw
        try dsimp only at hSw
        (go_simp) <;> (with_reducible rfl)
      try simp only [Act.put, List.setIfInBounds_toArray, List.set_cons_zero, List.set_cons_succ]
      refine wpAnyH_ready (rs := [2]) (by kernel_rfl) (by simp) ?_
      refine AllReadyH.cons (by first | (simp only [List.getElem?_toArray, List.getElem?_cons_succ, List.getElem?_cons_zero] <;> rfl) | rfl) (fun K hK => ?_) ?_
      · go_simp
        refine (HSm.out _ (HB4.out.trans ((hHeld0.2.2.2.2.2.2.2.2.2.2.2.2.2.2.out).mono HB4.out.size))).mono ?_
        rintro e vh1 ⟨qnm, qact, qrs, qRA, qRc, qhd, qpt, qPA, qPc, qpo, qQA, qQc, rfl, hR4, hOk, hbb⟩
        refine hK.out _ _ ?_ (fun hHeld1 => ?_)
        · exact ⟨cell_below hHeld0.1 hbb, cell_below hHeld0.2.1 hbb, cell_below hHeld0.2.2.1 hbb, cell_below hHeld0.2.2.2.1 hbb, cell_below hHeld0.2.2.2.2.1 hbb, cell_below hHeld0.2.2.2.2.2.1 hbb, cell_below hHeld0.2.2.2.2.2.2.1 hbb, cell_below hHeld0.2.2.2.2.2.2.2.1 hbb, cell_below hHeld0.2.2.2.2.2.2.2.2.1 hbb, cell_below hHeld0.2.2.2.2.2.2.2.2.2.1 hbb, cell_below hHeld0.2.2.2.2.2.2.2.2.2.2.1 hbb, cell_below hHeld0.2.2.2.2.2.2.2.2.2.2.2.1 hbb, cell_below hHeld0.2.2.2.2.2.2.2.2.2.2.2.2.1 hbb, cell_below hHeld0.2.2.2.2.2.2.2.2.2.2.2.2.2.1 hbb, hHeld0.2.2.2.2.2.2.2.2.2.2.2.2.2.2.out.trans (hbb.mono hHeld0.2.2.2.2.2.2.2.2.2.2.2.2.2.2.out.size)⟩
        clear hK K
        have HSr := Lib.hid (small_reads (nm := qnm) (act := qact) (hd := qhd) hR4)
        have HSq := Lib.hid (q_small (RA := qRA) (Rc := qRc) (PA := qPA) (Pc := qPc) (QA := qQA) (Qc := qQc) hOk)
        clear hR4 hOk
        clear hbb hHeld0
        try simp only [Act.put, List.setIfInBounds_toArray, List.set_cons_zero, List.set_cons_succ]
        refine wpAnyH_ready (rs := [3]) (by kernel_rfl) (by simp) ?_
        refine AllReadyH.cons (by first | (simp only [List.getElem?_toArray, List.getElem?_cons_succ, List.getElem?_cons_zero] <;> rfl) | rfl) (fun K hK => ?_) ?_
        · go_simp
          refine hK.out _ _ ?_ (fun hHeld2 => ?_)
          · exact ⟨cell_below hHeld1.1 (oneb _ _), cell_below hHeld1.2.1 (oneb _ _), cell_below hHeld1.2.2.1 (oneb _ _), cell_below hHeld1.2.2.2.1 (oneb _ _), cell_below hHeld1.2.2.2.2.1 (oneb _ _), cell_below hHeld1.2.2.2.2.2.1 (oneb _ _), cell_below hHeld1.2.2.2.2.2.2.1 (oneb _ _), cell_below hHeld1.2.2.2.2.2.2.2.1 (oneb _ _), cell_below hHeld1.2.2.2.2.2.2.2.2.1 (oneb _ _), cell_below hHeld1.2.2.2.2.2.2.2.2.2.1 (oneb _ _), cell_below hHeld1.2.2.2.2.2.2.2.2.2.2.1 (oneb _ _), cell_below hHeld1.2.2.2.2.2.2.2.2.2.2.2.1 (oneb _ _), cell_below hHeld1.2.2.2.2.2.2.2.2.2.2.2.2.1 (oneb _ _), cell_below hHeld1.2.2.2.2.2.2.2.2.2.2.2.2.2.1 (oneb _ _), hHeld1.2.2.2.2.2.2.2.2.2.2.2.2.2.2.out.trans ((oneb _ _).mono hHeld1.2.2.2.2.2.2.2.2.2.2.2.2.2.2.out.size)⟩
          clear hK K
          have hbb := oneb vh1 (.cells #[.string ⟨nm.toArray⟩, .int .u32 dflt, .slice RA rules.length Rc, .int .u16 hd, .slice PA paths.length Pc, .slice QA ports.length Qc, .string ⟨qnm.toArray⟩, .int .u32 qact, .slice qRA qrs.length qRc, .int .u16 qhd, .slice qPA qpt.length qPc, .slice qQA qpo.length qQc] 30)
          have hrd := rd_new vh1 #[.string ⟨nm.toArray⟩, .int .u32 dflt, .slice RA rules.length Rc, .int .u16 hd, .slice PA paths.length Pc, .slice QA ports.length Qc, .string ⟨qnm.toArray⟩, .int .u32 qact, .slice qRA qrs.length qRc, .int .u16 qhd, .slice qPA qpt.length qPc, .slice qQA qpo.length qQc] (T := 30) (l := [(⟨nm, dflt, rules, RA, Rc, hd, paths, PA, Pc, ports, QA, Qc⟩ : PolV), ⟨qnm, qact, qrs, qRA, qRc, qhd, qpt, qPA, qPc, qpo, qQA, qQc⟩].flatMap PolV.cells) (n := 2) (z := 6) rfl rfl
          generalize World.alloc vh1 _ = vh2 at hbb hrd hHeld2 ⊢
          have HSr := Lib.hid (HSr.out.below hbb)
          generalize vh1.heap.size = g31 at hrd ⊢
          have HRd := Lib.hid hrd
          clear hbb hrd hHeld1
          try simp only [Act.put, List.setIfInBounds_toArray, List.set_cons_zero, List.set_cons_succ]
          refine wpAnyH_take (i := 4) (v := ?_) (by first | (simp only [List.getElem?_toArray, List.getElem?_cons_succ, List.getElem?_cons_zero] <;> rfl) | rfl) (by kernel_rfl) (by kernel_rfl) (by kernel_rfl) (by exact fun _ _ _ h => h) (Or.inl ⟨by rfl, ?_⟩) hHeld2 ?_
          rotate_left 1
          · intro w hSw
            try dsimp only at hSw
            (go_simp) <;> (with_reducible rfl)
          try simp only [Act.put, List.setIfInBounds_toArray, List.set_cons_zero, List.set_cons_succ]
          refine wpAnyH_done (by kernel_rfl) ?_ _
          rename World => w5
          have HB5 := Lib.hid (HB4.out.trans ((hHeld2.2.2.2.2.2.2.2.2.2.2.2.2.2.2.out).mono HB4.out.size))
          have HPr := Lib.hid (hp.g12.below HB5.out)
          have HAll := Lib.hid (two_all (Q := fun x => Reads w5 x ∧ QOk x) ⟨HPr.out, HQp.out⟩ ⟨HSr.out, HSq.out⟩)
          clear hHeld2 HSr HSq HPr HSm HFew HB4 HQp
          go_wp2_with fail
          have h31 : g31 < w5.heap.size := by obtain ⟨b, o, e, hb, _⟩ := HRd.out.pos (by omega); cases e; exact hb
          have HRd := Lib.hid HRd.out
          clear HK1 HK2 g20 d20 hn63
          go_loopw [35] (fun iv wr => ∃ k : Nat, iv = .int .i64 k ∧ k ≤ 2 ∧ Hid (Below w5.heap.size w5 wr)) (fun iv _ => 2 - (intOf iv).toNat)
          case atStart => exact ⟨0, rfl, Nat.zero_le _, Below.refl _ _⟩
          case round =>
            obtain ⟨k, rfl, hk, HBr⟩ := hrel
            have hs5 := HBr.out.size
            by_cases hk2 : k < 2
            · obtain ⟨xx, hxx⟩ : ∃ xx, [(⟨nm, dflt, rules, RA, Rc, hd, paths, PA, Pc, ports, QA, Qc⟩ : PolV), ⟨qnm, qact, qrs, qRA, qRc, qhd, qpt, qPA, qPc, qpo, qQA, qQc⟩][k]? = some xx := ⟨_, List.getElem?_eq_getElem hk2⟩
              obtain ⟨hxr, hxq⟩ := HAll.out xx (List.mem_of_getElem? hxx)
              obtain ⟨c0, c1, c2, c3, c4, c5⟩ := six_pol (HRd.out.below HBr.out) hxx
              have HXq := Lib.hid hxq
              have HXr := Lib.hid (hxr.below HBr.out)
              clear hxr hxq hxx
              obtain ⟨xn, xd, xr, xRA, xRc, xh, xp, xPA, xPc, xq, xQA, xQc⟩ := xx
              simp only at c0 c1 c2 c3 c4 c5
              obtain ⟨nR, hnR⟩ : ∃ n, xr.length = n := ⟨_, rfl⟩
              obtain ⟨nP, hnP⟩ : ∃ n, xp.length = n := ⟨_, rfl⟩
              obtain ⟨nQ, hnQ⟩ : ∃ n, xq.length = n := ⟨_, rfl⟩
              rw [hnR] at c2
              rw [hnP] at c4
              rw [hnQ] at c5
              have hlR : nR ≤ 80 := by rw [← hnR]; exact HXq.out.r
              have hlP : nP ≤ 50 := by rw [← hnP]; exact HXq.out.pt
              have hlQ : nQ ≤ 50 := by rw [← hnQ]; exact HXq.out.po
              have HnR := Lib.hid hnR
              have HnP := Lib.hid hnP
              have HnQ := Lib.hid hnQ
              clear hnR hnP hnQ
              have hk0 : (0 : Int) ≤ (k : Int) := by omega
              go_upto_region 8 with fail
              have hbx := oneb wr (.cells #[.string ⟨xn.toArray⟩, .int .u32 xd, .slice xRA nR xRc, .int .u16 xh, .slice xPA nP xPc, .slice xQA nQ xQc] 30)
              have hkx := Bk.new wr 30 #[.string ⟨xn.toArray⟩, .int .u32 xd, .slice xRA nR xRc, .int .u16 xh, .slice xPA nP xPc, .slice xQA nQ xQc] (l := [.string ⟨xn.toArray⟩, .int .u32 xd, .slice xRA nR xRc, .int .u16 xh, .slice xPA nP xPc, .slice xQA nQ xQc]) rfl
              clear c0 c1 c2 c3 c4 c5
              generalize World.alloc wr _ = w6 at hbx hkx ⊢
              generalize wr.heap.size = g10 at hkx ⊢
              have HB56 := Lib.hid (HBr.out.trans (hbx.mono HBr.out.size))
              have HB6 := Lib.hid (HB5.out.trans (HB56.out.mono HB5.out.size))
              have HX6 := Lib.hid (HXr.out.below hbx)
              have HK10 := Lib.hid hkx
              have q0 := hkx.cell 0 rfl
              have q1 := hkx.cell 1 rfl
              have q2 := hkx.cell 2 rfl
              have q3 := hkx.cell 3 rfl
              have q4 := hkx.cell 4 rfl
              have q5 := hkx.cell 5 rfl
              have ql := hkx.lt
              clear hbx hkx HXr
              have HRR := Lib.hid (rrd_of HX6.out HXq.out)
              have hrc := Lib.hid (HRec.out ⟨xn.toArray⟩ xd xr xRA nR xRc xh xPA nP xPc xQA nQ xQc w6 HB6.out HnR.out (by omega) HRR.out)
              go_wp2_with fail
              refine hrc.out.mono ?_
              clear hrc q0 q1 q2 q3 q4 q5 ql
              rintro e w9 ⟨⟨recs, cA, cc, rfl, hl50, hrok, hrt⟩, hb9⟩
              have HRok := Lib.hid hrok
              obtain ⟨nC, hnC⟩ : ∃ n, recs.length = n := ⟨_, rfl⟩
              rw [hnC] at hl50 hrt ⊢
              have HnC := Lib.hid hnC
              have HRt := Lib.hid hrt
              have HB59 := Lib.hid (HB56.out.trans (hb9.mono HB56.out.size))
              have K10 := Lib.hid (HK10.out.kept hb9)
              have HRR := Lib.hid (HRR.out.below hb9)
              clear hrok hnC hrt hb9 HB56 HB6 HX6
              go_wp2_with fail
              go_loopw [44] (fun iv wy => ∃ i : Nat, iv = .int .i64 i ∧ i ≤ nC ∧ Hid (Below w9.heap.size w9 wy)) (fun iv _ => nC - (intOf iv).toNat)
              case atStart => exact ⟨0, rfl, Nat.zero_le _, Below.refl _ _⟩
              case round =>
                rename World => wy
                obtain ⟨i, rfl, hi, HBy⟩ := hrel
                by_cases hin : i < nC
                · obtain ⟨x, hx⟩ : ∃ x, recs[i]? = some x := ⟨_, List.getElem?_eq_getElem (by have := HnC.out; omega)⟩
                  have HXo := Lib.hid (HRok.out x (List.mem_of_getElem? hx))
                  obtain ⟨b3, o3, hA3, hb3, hcell⟩ := (HRt.out.below HBy.out).rd.one (fun _ => rfl) (by omega) (by omega)
                  subst hA3
                  obtain ⟨c0, c1, c2, c3, c4, c5, c6, c7, c8⟩ := nine_rec hcell hx
                  clear hcell hx
                  go_upto_region 11 with fail
                  have hbx := oneb wy (.cells #[.int .u32 x.num, .int .u32 x.arch, .int .u64 x.at_, .int .u64 x.a0, .int .u64 x.a1, .int .u64 x.a2, .int .u64 x.a3, .int .u64 x.a4, .int .u64 x.a5] 51)
                  have hkx := Bk.new wy 51 #[.int .u32 x.num, .int .u32 x.arch, .int .u64 x.at_, .int .u64 x.a0, .int .u64 x.a1, .int .u64 x.a2, .int .u64 x.a3, .int .u64 x.a4, .int .u64 x.a5] (l := x.cells) rfl
                  clear c0 c1 c2 c3 c4 c5 c6 c7 c8
                  generalize World.alloc wy _ = w10 at hbx hkx ⊢
                  generalize wy.heap.size = g13 at hkx ⊢
                  have HB910 := Lib.hid (HBy.out.trans (hbx.mono HBy.out.size))
                  have K13 := Lib.hid hkx
                  have K10 := Lib.hid (K10.out.kept HB910.out)
                  have HRR := Lib.hid (HRR.out.below HB910.out)
                  have q0 := K10.out.cell 0 rfl
                  have q1 := K10.out.cell 1 rfl
                  have q2 := K10.out.cell 2 rfl
                  have q3 := K10.out.cell 3 rfl
                  have q4 := K10.out.cell 4 rfl
                  have q5 := K10.out.cell 5 rfl
                  have ql := K10.out.lt
                  have y0 := K13.out.cell 0 rfl
                  have y1 := K13.out.cell 1 rfl
                  have y2 := K13.out.cell 2 rfl
                  have y3 := K13.out.cell 3 rfl
                  have y4 := K13.out.cell 4 rfl
                  have y5 := K13.out.cell 5 rfl
                  have y6 := K13.out.cell 6 rfl
                  have y7 := K13.out.cell 7 rfl
                  have y8 := K13.out.cell 8 rfl
                  have yl := K13.out.lt
                  clear hbx hkx
                  obtain ⟨ms, hms⟩ : ∃ ms, ms = xr.map RuleV.m := ⟨_, rfl⟩
                  have HSp := Lib.hid (speaks_any ⟨xn.toArray⟩ xd xr xRA nR xRc xh xPA nP xPc xQA nQ xQc x w10 HnR.out (by omega) HRR.out HXo.out)
                  rw [← hms] at HSp
                  have Hms := Lib.hid hms
                  have HmL := Lib.hid (show ms.length = nR by rw [hms, List.length_map]; exact HnR.out)
                  clear hms
                  go_wp2_with fail
                  refine HSp.out.mono ?_
                  clear HSp q0 q1 q2 q3 q4 q5 ql y0 y1 y2 y3 y4 y5 y6 y7 y8 yl
                  rintro e w11 ⟨⟨aA, ac, rfl, hta⟩, hb11⟩
                  have K10 := Lib.hid (K10.out.kept hb11)
                  have K13 := Lib.hid (K13.out.kept hb11)
                  have HRR := Lib.hid (HRR.out.below hb11)
                  have HB1011 := Lib.hid hb11
                  obtain ⟨nI, hnI⟩ : ∃ n, (idxL x 0 ms).length = n := ⟨_, rfl⟩
                  have hnI1 : nI ≤ 1000 := by rw [← hnI]; exact Nat.le_trans (idx_len x ms 0) (by rw [HmL.out]; omega)
                  rw [hnI] at hta ⊢
                  have HnI := Lib.hid hnI
                  have HTa := Lib.hid hta
                  obtain ⟨b1, hb1⟩ : ∃ b1, b1 = bestI (bestL x 0 ms none) := ⟨_, rfl⟩
                  rw [← hb1]
                  have HB0e := Lib.hid hb1
                  have q2 := K10.out.cell 2 rfl
                  have ql := K10.out.lt
                  clear hb11 hnI hta hb1
                  go_wp2_with fail
                  clear q2
                  go_loopw [15, 16, 57] (fun kv bv iv wz => ∃ (j : Nat) (b : Option (Nat × Nat)), iv = .int .i64 j ∧ j ≤ nR ∧ kv = .int .i64 (((idxL x 0 (ms.take j)).length : Nat) : Int) ∧ bv = .int .i64 (bestI b) ∧ Hid (bestL x 0 ms none = bestL x j (ms.drop j) b) ∧ Hid (BOk ms j b) ∧ Hid (Below w11.heap.size w11 wz)) (fun _ _ iv _ => nR - (intOf iv).toNat)
                  case atStart => exact ⟨0, none, rfl, Nat.zero_le _, rfl, rfl, Lib.hid rfl, Lib.hid (BOk.nil _), Below.refl _ _⟩
                  case round =>
                    rename World => wz
                    obtain ⟨j, b, rfl, hj, rfl, rfl, HBe, HBk, HBz⟩ := hrel
                    obtain ⟨kk, hkk⟩ : ∃ kk, kk = (idxL x 0 (ms.take j)).length := ⟨_, rfl⟩
                    rw [← hkk]
                    have HKk := Lib.hid hkk
                    clear hkk
                    by_cases hjn : j < nR
                    · obtain ⟨r, hr⟩ : ∃ r, xr[j]? = some r := ⟨_, List.getElem?_eq_getElem (by have := HnR.out; omega)⟩
                      have HRz := Lib.hid (HRR.out.below HBz.out)
                      have hrd := HRz.out.r
                      simp only [HnR.out] at hrd
                      obtain ⟨bb, ob, hA, hbl, hcell⟩ := hrd.one (fun _ => rfl) (by omega) (by omega)
                      obtain ⟨c0, c1, c2⟩ := rule_cells hcell hr
                      have hcd := HRz.out.c r (List.mem_of_getElem? hr)
                      have hok := HRz.out.ok r (List.mem_of_getElem? hr)
                      have HMk := Lib.hid (show ms[j]? = some r.m by rw [Hms.out, List.getElem?_map, hr]; rfl)
                      clear hcell hrd hr HRz
                      subst hA
                      obtain ⟨⟨num, act, cs⟩, A9, c9⟩ := r
                      simp only at c0 c1 c2 hcd
                      obtain ⟨nc, hnc⟩ : ∃ n, cs.length = n := ⟨_, rfl⟩
                      rw [hnc] at c2 hcd
                      have hncm : nc ≤ 9223372036854775807 := by rw [← hnc]; exact hok.2.2.1
                      have HNc := Lib.hid hnc
                      have HOk := Lib.hid hok
                      have HM := Lib.hid (fun W h => matches_any num act cs A9 nc c9 x W HOk.out.2.2.2 HNc.out (by have := HOk.out.2.2.1; rw [← HNc.out]; exact this) h HXo.out)
                      clear hnc hok
                      go_upto_region 16 with fail
                      have hbx := oneb wz (.cells #[.int .u32 num, .int .u32 act, .slice A9 nc c9] 54)
                      have hkx := Bk.new wz 54 #[.int .u32 num, .int .u32 act, .slice A9 nc c9] (l := [.int .u32 num, .int .u32 act, .slice A9 nc c9]) rfl
                      clear c0 c1 c2
                      generalize World.alloc wz _ = wa at hbx hkx ⊢
                      have HBa := Lib.hid (HBz.out.trans (hbx.mono HBz.out.size))
                      have HCd := Lib.hid (hcd.below hbx)
                      generalize wz.heap.size = g18 at hkx ⊢
                      have HK18 := Lib.hid hkx
                      have k0 := hkx.cell 0 rfl
                      have k1 := hkx.cell 1 rfl
                      have k2 := hkx.cell 2 rfl
                      have kl := hkx.lt
                      have y0 := (K13.out.kept HBa.out).cell 0 rfl
                      have y1 := (K13.out.kept HBa.out).cell 1 rfl
                      have y2 := (K13.out.kept HBa.out).cell 2 rfl
                      have y3 := (K13.out.kept HBa.out).cell 3 rfl
                      have y4 := (K13.out.kept HBa.out).cell 4 rfl
                      have y5 := (K13.out.kept HBa.out).cell 5 rfl
                      have y6 := (K13.out.kept HBa.out).cell 6 rfl
                      have y7 := (K13.out.kept HBa.out).cell 7 rfl
                      have y8 := (K13.out.kept HBa.out).cell 8 rfl
                      have yl := (K13.out.kept HBa.out).lt
                      clear hkx hbx hcd
                      go_wp2_with fail
                      refine (HM.out _ HCd.out).mono ?_
                      clear HM k0 k1 k2 kl y0 y1 y2 y3 y4 y5 y6 y7 y8 yl HCd
                      rintro e wb ⟨rfl, hbm3⟩
                      have HB11b := Lib.hid (HBa.out.trans (hbm3.mono HBa.out.size))
                      cases hmm : matB ⟨num, act, cs⟩ x with
                      | false =>
                        have HMt := Lib.hid hmm
                        have HKK := Lib.hid (show Value.int .i64 (kk : Int) = .int .i64 (((idxL x 0 (ms.take (j + 1))).length : Nat) : Int) by rw [HKk.out, idx_no HMk.out HMt.out])
                        have HBn := HB11b
                        clear hmm hbm3
                        go_wp2_with fail
                        go_roundw
                        case rel => exact ⟨j + 1, b, by go_num, by omega, HKK.out, rfl, Lib.hid (by rw [HBe.out, best_on x HMk.out, step_no HMt.out]), Lib.hid (by have := HBk.out.step HMk.out x; rw [step_no HMt.out] at this; exact this), HBn⟩
                        case measure => simp [intOf]; omega
                      | true =>
                        have HMt := Lib.hid hmm
                        clear hmm
                        have hix := idx_split x HMk.out HMt.out
                        obtain ⟨hkl, _⟩ := List.getElem?_eq_some_iff.1 hix
                        rw [HnI.out] at hkl
                        obtain ⟨ab, ao, hAa, hab, hcella⟩ := (HTa.out.rd.below HB11b.out).pos (by omega)
                        have a0 := hcella _ _ (nat_cell hix)
                        clear hcella hix
                        rw [← HKk.out] at hkl a0
                        have HAa := Lib.hid hAa
                        subst hAa
                        have HKK := Lib.hid (show Value.int .i64 ((kk : Int) + 1) = .int .i64 (((idxL x 0 (ms.take (j + 1))).length : Nat) : Int) by rw [idx_yes HMk.out HMt.out, List.length_append, ← HKk.out]; simp)
                        have gk : ¬ (nI : Int) ≤ (kk : Int) := by omega
                        have dk : decide ((nI : Int) ≤ (kk : Int)) = false := decide_eq_false gk
                        have ej : ((j : Int) != (j : Int)) = false := by simp
                        have hk63 : kk ≤ 100000 := by omega
                        have p1 := (HK18.out.kept hbm3).cell 1 rfl
                        have pl := (HK18.out.kept hbm3).lt
                        have q2 := (K10.out.kept HB11b.out).cell 2 rfl
                        have ql := (K10.out.kept HB11b.out).lt
                        have HBn := Lib.hid (below_drewN HB11b.out 0)
                        cases b with
                        | none =>
                          unfold bestI
                          have dn : decide ((-1 : Int) < 0) = true := (by decide)
                          go_upto_region 20 with fail
                          go_quiet (fail)
                          go_wp2_with fail
                          go_roundw
                          case rel => exact ⟨j + 1, some (j, act), by go_num, by omega, HKK.out, rfl, Lib.hid (by rw [HBe.out, best_on x HMk.out, step_none HMt.out]), Lib.hid (by have := HBk.out.step HMk.out x; rw [step_none HMt.out] at this; exact this), Lib.hid (below_drewN HB11b.out _)⟩
                          case measure => simp [intOf]; omega
                        | some y =>
                          obtain ⟨i2, a⟩ := y
                          obtain ⟨hik, ri, hri, hra⟩ := HBk.out (i2, a) rfl
                          simp only at hik hri hra
                          obtain ⟨rv, hrv, hrm⟩ : ∃ rv, xr[i2]? = some rv ∧ rv.m = ri := by rw [Hms.out, List.getElem?_map] at hri; obtain ⟨rv, h1, h2⟩ := Option.map_eq_some_iff.1 hri; exact ⟨rv, h1, h2⟩
                          have ha32 : a < 4294967296 := by have := (HRR.out.ok rv (List.mem_of_getElem? hrv)).2.1; rw [hrm, hra] at this; exact this
                          have hrd2 := (HRR.out.below HB11b.out).r
                          simp only [HnR.out] at hrd2
                          obtain ⟨b2, o2, hA2, _, hc2⟩ := hrd2.one (fun _ => rfl) (by omega) (by omega)
                          cases hA2
                          have i7 := (rule_cells hc2 hrv).2.1
                          rw [hrm, hra] at i7
                          have hi0 : decide ((i2 : Int) < 0) = false := decide_eq_false (by omega)
                          have hi0' : ¬ (i2 : Int) < 0 := by omega
                          have hin2 : i2 < nR := by omega
                          have hz0 : (0 : Int) ≤ (i2 : Int) := by omega
                          have hz1 : (i2 : Int) < (nR : Int) := by omega
                          obtain ⟨u1, hu1⟩ : ∃ u, u = Rec.strN act := ⟨_, rfl⟩
                          obtain ⟨u2, hu2⟩ : ∃ u, u = Rec.strN a := ⟨_, rfl⟩
                          have hs1 := Lib.hid (fun W => Rec.strength_any act W HOk.out.2.1)
                          have hs2 := Lib.hid (fun W => Rec.strength_any a W ha32)
                          rw [← hu1] at hs1
                          rw [← hu2] at hs2
                          clear hri hra hrv hrm hrd2 hc2
                          unfold bestI
                          by_cases hst : u2 < u1
                          · have g1 : (u2 : Int) < (u1 : Int) := by omega
                            have d1 : decide ((u2 : Int) < (u1 : Int)) = true := decide_eq_true g1
                            have HST := Lib.hid (show Rec.strN a < Rec.strN act by rw [← hu1, ← hu2]; exact hst)
                            clear hst hu1 hu2
                            go_upto_region 20 with fail
                            go_quiet ((go_at_call 21; first | (with_reducible exact quiet_l (hs1.out _)) | (with_reducible exact quiet_l (hs2.out _))))
                            go_wp2_with fail
                            go_roundw
                            case rel => exact ⟨j + 1, some (j, act), by go_num, by omega, HKK.out, rfl, Lib.hid (by rw [HBe.out, best_on x HMk.out, step_yes HMt.out HST.out]), Lib.hid (by have := HBk.out.step HMk.out x; rw [step_yes HMt.out HST.out] at this; exact this), Lib.hid (below_drewN HB11b.out _)⟩
                            case measure => simp [intOf]; omega
                          · have g1 : ¬ (u2 : Int) < (u1 : Int) := by omega
                            have d1 : decide ((u2 : Int) < (u1 : Int)) = false := decide_eq_false g1
                            have HST := Lib.hid (show ¬ Rec.strN a < Rec.strN act by rw [← hu1, ← hu2]; exact hst)
                            clear hst hu1 hu2
                            go_upto_region 20 with fail
                            go_quiet ((go_at_call 21; first | (with_reducible exact quiet_l (hs1.out _)) | (with_reducible exact quiet_l (hs2.out _))))
                            go_wp2_with fail
                            go_roundw
                            case rel => exact ⟨j + 1, some (i2, a), by go_num, by omega, HKK.out, rfl, Lib.hid (by rw [HBe.out, best_on x HMk.out, step_same HMt.out HST.out]), Lib.hid (by have := HBk.out.step HMk.out x; rw [step_same HMt.out HST.out] at this; exact this), Lib.hid (below_drewN HB11b.out _)⟩
                            case measure => simp [intOf]; omega
                    · have hje : j = nR := by omega
                      have HBf := Lib.hid (show bestL x 0 ms none = b by rw [HBe.out, best_end x (by rw [HmL.out]; omega)])
                      have hkn : kk = nI := by rw [HKk.out, List.take_of_length_le (by rw [HmL.out]; omega), HnI.out]
                      have hbc : bestI (bestL x 0 ms none) = bestI b := by rw [HBf.out]
                      rw [hkn]
                      clear hkn
                      have en : ((nI : Int) != (nI : Int)) = false := by simp
                      have q1 := (K10.out.kept HBz.out).cell 1 rfl
                      have q0 := (K10.out.kept HBz.out).cell 0 rfl
                      have q1 := (K10.out.kept HBz.out).cell 1 rfl
                      have q2 := (K10.out.kept HBz.out).cell 2 rfl
                      have q3 := (K10.out.kept HBz.out).cell 3 rfl
                      have q4 := (K10.out.kept HBz.out).cell 4 rfl
                      have q5 := (K10.out.kept HBz.out).cell 5 rfl
                      have ql := (K10.out.kept HBz.out).lt
                      have y0 := (K13.out.kept HBz.out).cell 0 rfl
                      have y1 := (K13.out.kept HBz.out).cell 1 rfl
                      have y2 := (K13.out.kept HBz.out).cell 2 rfl
                      have y3 := (K13.out.kept HBz.out).cell 3 rfl
                      have y4 := (K13.out.kept HBz.out).cell 4 rfl
                      have y5 := (K13.out.kept HBz.out).cell 5 rfl
                      have y6 := (K13.out.kept HBz.out).cell 6 rfl
                      have y7 := (K13.out.kept HBz.out).cell 7 rfl
                      have y8 := (K13.out.kept HBz.out).cell 8 rfl
                      have yl := (K13.out.kept HBz.out).lt
                      have HBk2 := HBk
                      obtain ⟨b0, hb0⟩ : ∃ b0, b0 = bestI (bestL x 0 ms none) := ⟨_, rfl⟩
                      rw [← HB0e.out] at hbc
                      clear hb0
                      cases b with
                      | none =>
                        have eb : (((b1 : Int)) != ((-1 : Int))) = false := by rw [hbc]; rfl
                        have eb2 : ((-1 : Int) != (-1 : Int)) = false := by rfl
                        have d0 : decide ((0 : Int) ≤ (-1 : Int)) = false := (by decide)
                        unfold bestI
                        have hb1 : b1 = -1 := hbc
                        subst hb1
                        clear hbc
                        by_cases ha : x.arch = 3221225534
                        · have ea : ((x.arch : Int) == 3221225534) = true := by rw [ha]; decide
                          have HS := Lib.hid (says_any ⟨xn.toArray⟩ xd xr xRA nR xRc xh xPA nP xPc xQA nQ xQc x wz HnR.out (by omega) (HRR.out.below HBz.out) HXo.out)
                          rw [says_best ha, ← Hms.out, HBf.out] at HS
                          unfold bestA at HS
                          have esv : ((xd : Int) != (xd : Int)) = false := by simp
                          clear ha
                          go_wp2_with fail
                          refine HS.out.mono ?_
                          clear HS
                          rintro e wv ⟨rfl, hbv⟩
                          have HBv := Lib.hid (HB910.out.trans ((HB1011.out.trans ((HBz.out.trans (hbv.mono HBz.out.size)).mono HB1011.out.size)).mono HB910.out.size))
                          clear hbv
                          go_wp2_with fail
                          go_roundw
                          case rel => exact ⟨i + 1, by go_num, by omega, HBv⟩
                          case measure => simp [intOf]; omega
                        · have ea : ((x.arch : Int) == 3221225534) = false := by rw [beq_eq_false_iff_ne]; omega
                          have HBv := Lib.hid (HB910.out.trans ((HB1011.out.trans (HBz.out.mono HB1011.out.size)).mono HB910.out.size))
                          clear ha
                          go_wp2_with fail
                          go_roundw
                          case rel => exact ⟨i + 1, by go_num, by omega, HBv⟩
                          case measure => simp [intOf]; omega
                      | some y =>
                        obtain ⟨i2, a⟩ := y
                        obtain ⟨hik, ri, hri, hra⟩ := HBk2.out (i2, a) rfl
                        simp only at hik hri hra
                        obtain ⟨rv, hrv, hrm⟩ : ∃ rv, xr[i2]? = some rv ∧ rv.m = ri := by rw [Hms.out, List.getElem?_map] at hri; obtain ⟨rv, h1, h2⟩ := Option.map_eq_some_iff.1 hri; exact ⟨rv, h1, h2⟩
                        have hrd2 := (HRR.out.below HBz.out).r
                        simp only [HnR.out] at hrd2
                        obtain ⟨b2, o2, hA2, _, hc2⟩ := hrd2.one (fun _ => rfl) (by omega) (by omega)
                        subst hA2
                        have i7 := (rule_cells hc2 hrv).2.1
                        rw [hrm, hra] at i7
                        have hin2 : i2 < nR := by omega
                        clear hri hra hrv hrm hrd2 hc2
                        have hb1 : b1 = (i2 : Int) := hbc
                        subst hb1
                        clear hbc
                        have eb : (((i2 : Int)) != ((i2 : Int))) = false := by simp
                        have d0 : decide ((0 : Int) ≤ (i2 : Int)) = true := decide_eq_true (by omega)
                        have d0' : (0 : Int) ≤ (i2 : Int) := by omega
                        unfold bestI
                        by_cases ha : x.arch = 3221225534
                        · have ea : ((x.arch : Int) == 3221225534) = true := by rw [ha]; decide
                          have HS := Lib.hid (says_any ⟨xn.toArray⟩ xd xr (some ⟨b2, o2, none⟩) nR xRc xh xPA nP xPc xQA nQ xQc x wz HnR.out (by omega) (HRR.out.below HBz.out) HXo.out)
                          rw [says_best ha, ← Hms.out, HBf.out] at HS
                          unfold bestA at HS
                          have esv : ((a : Int) != (a : Int)) = false := by simp
                          clear ha
                          go_wp2_with fail
                          refine HS.out.mono ?_
                          clear HS
                          rintro e wv ⟨rfl, hbv⟩
                          have HBv := Lib.hid (HB910.out.trans ((HB1011.out.trans ((HBz.out.trans (hbv.mono HBz.out.size)).mono HB1011.out.size)).mono HB910.out.size))
                          clear hbv
                          go_wp2_with fail
                          go_roundw
                          case rel => exact ⟨i + 1, by go_num, by omega, HBv⟩
                          case measure => simp [intOf]; omega
                        · have ea : ((x.arch : Int) == 3221225534) = false := by rw [beq_eq_false_iff_ne]; omega
                          have HBv := Lib.hid (HB910.out.trans ((HB1011.out.trans (HBz.out.mono HB1011.out.size)).mono HB910.out.size))
                          clear ha
                          go_wp2_with fail
                          go_roundw
                          case rel => exact ⟨i + 1, by go_num, by omega, HBv⟩
                          case measure => simp [intOf]; omega
                · have HBy2 := Lib.hid (HB59.out.trans (HBy.out.mono HB59.out.size))
                  go_wp2_with fail
                  go_roundw
                  case rel => exact ⟨k + 1, by go_num, by omega, HBy2⟩
                  case measure => simp [intOf]; omega
            · go_wp2_with fail
              go_ret
              exact ⟨rfl, HB5.out.trans (HBr.out.mono HB5.out.size)⟩
        exact AllReadyH.nil
      exact AllReadyH.nil
end Go.Proofs.Ytcioekokgpdhcaa.Me
