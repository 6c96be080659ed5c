/- MeanSays: the walk. -/
import Derived.Test.YtcioekokgpdhcaaMeO
import Derived.Deep.RegionHeld3
namespace Go.Proofs.Ytcioekokgpdhcaa.Me
open Go.RowKit Go.WideElems
theorem two_all {α : Type} {Q : α → Prop} {a b : α} (ha : Q a) (hb : Q b) : ∀ x ∈ [a, b], Q x := fun x hx => by
  simp only [List.mem_cons, List.not_mem_nil, or_false] at hx
  rcases hx with rfl | rfl
  · exact ha
  · exact hb
theorem six_pol {w : World} {g n k : Nat} {l : List PolV} {x : PolV} (h : Rd w 6 n (some ⟨g, 0, none⟩) (l.flatMap PolV.cells)) (hx : l[k]? = some x) :
    w.cell? ⟨g, k * 6, none⟩ = some (.string ⟨x.name.toArray⟩) ∧ w.cell? ⟨g, k * 6 + 1, none⟩ = some (.int .u32 x.dflt) ∧ w.cell? ⟨g, k * 6 + 2, none⟩ = some (.slice x.RA x.rules.length x.Rc) ∧ w.cell? ⟨g, k * 6 + 3, none⟩ = some (.int .u16 x.handled) ∧ w.cell? ⟨g, k * 6 + 4, none⟩ = some (.slice x.PA x.paths.length x.Pc) ∧ w.cell? ⟨g, k * 6 + 5, none⟩ = some (.slice x.QA x.ports.length x.Qc) := by
  have hn : 0 < n := by
    have h1 := h.len
    rw [flatz_len PolV.cells 6 (fun _ => rfl)] at h1
    have := (List.getElem?_eq_some_iff.1 hx).1
    omega
  obtain ⟨b, o, e, _, hc⟩ := h.one (fun _ => rfl) (by omega) hn
  cases e
  have hj := fun j v hv => hc k x hx j v hv
  simp only [Nat.zero_add] at hj
  exact ⟨hj 0 _ rfl, hj 1 _ rfl, hj 2 _ rfl, hj 3 _ rfl, hj 4 _ rfl, hj 5 _ rfl⟩
theorem nine_rec {w : World} {b o k : Nat} {l : List RcM} {x : RcM} (hc : ∀ k x, l[k]? = some x → ∀ j v, (RcM.cells x)[j]? = some v → w.cell? ⟨b, o + (k * 9 + j), none⟩ = some v) (h : l[k]? = some x) :
    w.cell? ⟨b, o + k * 9, none⟩ = some (.int .u32 x.num) ∧ w.cell? ⟨b, o + k * 9 + 1, none⟩ = some (.int .u32 x.arch) ∧ w.cell? ⟨b, o + k * 9 + 2, none⟩ = some (.int .u64 x.at_) ∧ w.cell? ⟨b, o + k * 9 + 3, none⟩ = some (.int .u64 x.a0) ∧ w.cell? ⟨b, o + k * 9 + 4, none⟩ = some (.int .u64 x.a1) ∧ w.cell? ⟨b, o + k * 9 + 5, none⟩ = some (.int .u64 x.a2) ∧ w.cell? ⟨b, o + k * 9 + 6, none⟩ = some (.int .u64 x.a3) ∧ w.cell? ⟨b, o + k * 9 + 7, none⟩ = some (.int .u64 x.a4) ∧ w.cell? ⟨b, o + k * 9 + 8, none⟩ = some (.int .u64 x.a5) := by
  have hj := fun j v hv => hc k x h j v hv
  simp only [← Nat.add_assoc] at hj
  exact ⟨hj 0 _ rfl, hj 1 _ rfl, hj 2 _ rfl, hj 3 _ rfl, hj 4 _ rfl, hj 5 _ rfl, hj 6 _ rfl, hj 7 _ rfl, hj 8 _ rfl⟩
theorem same_rule {rs xr : List RuleV} {j : Nat} {r : RuleV} (h : rs.map RuleV.m = xr.map RuleV.m) (hr : xr[j]? = some r) : ∃ s, rs[j]? = some s ∧ r.m = s.m := by
  have e : (rs.map RuleV.m)[j]? = some r.m := by rw [h, List.getElem?_map, hr]; rfl
  rw [List.getElem?_map] at e
  obtain ⟨s, h1, h2⟩ := Option.map_eq_some_iff.1 e
  exact ⟨s, h1, h2.symm⟩
theorem same_len {rs xr : List RuleV} (h : rs.map RuleV.m = xr.map RuleV.m) : rs.length = xr.length := by have := congrArg List.length h; simpa using this
theorem ok_same {rs xr : List RuleV} (h : rs.map RuleV.m = xr.map RuleV.m) (ho : ∀ r ∈ xr, r.m.ok) : ∀ r ∈ rs, r.m.ok := fun r hr => by
  have : r.m ∈ xr.map RuleV.m := by rw [← h]; exact List.mem_map_of_mem hr
  obtain ⟨y, hy, e⟩ := List.mem_map.1 this
  rw [← e]; exact ho y hy
set_option maxHeartbeats 32000000 in
set_option maxRecDepth 100000 in
theorem walk_meanSays (p : PolV) (s : SmV) (A : Option Addr) (n c : Nat) (PB : Option Addr) (pn pc : Nat) (zs : List Int) (w : World) (hp : PolIn w p) (hs : SmIn w s) (hl : RecsIn w A n c) (hk : IsRow .u8 w PB pn pc zs) :
    Calls Try.prog 3 #[.agg p.cells.toArray, .agg s.cells.toArray, .slice A n c, .slice PB pn pc] w (RetB true w) := by
  obtain ⟨nm, dflt, rules, RA, Rc, hd, paths, PA, Pc, ports, QA, Qc⟩ := p
  obtain ⟨ni, df, er, hh, srs, SA, sc, dl, DA, dc, gl, GA, gc, kl, KA, kc⟩ := s
  obtain ⟨lr, hlr, hlok, hlR, hlm, hlA⟩ := hl
  obtain ⟨pl, hpl, hp8, hpR, hpm⟩ := row_u8 hk
  show Calls Try.prog _ #[.agg #[.string ⟨nm.toArray⟩, .int .u32 dflt, .slice RA rules.length Rc, .int .u16 hd, .slice PA paths.length Pc, .slice QA ports.length Qc], .agg #[.int .u8 ni, .int .u8 df, .int .u8 er, .slice SA srs.length sc, .int .u16 hh, .slice DA dl.length dc, .slice GA gl.length gc, .slice KA kl.length kc], .slice A n c, .slice PB pn pc] w _
  obtain ⟨hk1, hk2, hb⟩ := two_new w #[.string ⟨nm.toArray⟩, .int .u32 dflt, .slice RA rules.length Rc, .int .u16 hd, .slice PA paths.length Pc, .slice QA ports.length Qc] #[.int .u8 ni, .int .u8 df, .int .u8 er, .slice SA srs.length sc, .int .u16 hh, .slice DA dl.length dc, .slice GA gl.length gc, .slice KA kl.length kc] 30 35 (la := [.string ⟨nm.toArray⟩, .int .u32 dflt, .slice RA rules.length Rc, .int .u16 hd, .slice PA paths.length Pc, .slice QA ports.length Qc]) (lb := [.int .u8 ni, .int .u8 df, .int .u8 er, .slice SA srs.length sc, .int .u16 hh, .slice DA dl.length dc, .slice GA gl.length gc, .slice KA kl.length kc]) rfl rfl
  have HFew := Lib.hid (fun W (h : Below w.heap.size w W) => few_any nm dflt rules RA _ Rc hd paths PA _ Pc ports QA _ Qc W rfl rfl rfl hp.g3 hp.g4 hp.g5 (fun r hr => (hp.g9 r hr).2.2.1) (fun x hx => (hp.g10 x hx).1) (hp.g12.below h))
  have HSm := Lib.hid (fun W (hb : Below w.heap.size w W) => smallPolicy_any ni df er hh srs SA _ sc dl DA _ dc gl GA _ gc kl KA _ kc W hs.g1 hs.g2 hs.g3 hs.g4 rfl rfl rfl rfl hs.g5 hs.g6 hs.g7 hs.g8 hs.g9 hs.g10 hs.g11 hs.g12 (hs.g13.below hb) (fun r hr => (hs.g14 r hr).below hb) (hs.g15.below hb) (hs.g16.below hb) (hs.g17.below hb))
  have HRec := Lib.hid (fun (hn20 : n ≤ 20) nm d rules RA nR Rc hd PA nP Pc QA nQ Qc W (h : Below w.heap.size w W) h1 h2 h3 => records_any nm d rules RA nR Rc hd PA nP Pc QA nQ Qc lr A n c pl PB pn pc W h1 h2 h3 hlr hn20 hlok hlA (hlR.below h) hpl hpm hp8 (hpR.below h))
  have hn63 : n ≤ 9223372036854775807 := hlm
  clear hlok hlR hlA hp8 hpR hk hs hlr hpl hlm
  go_enter Try.func3, Try.ntmps3
  go_upto_region 1 with fail
  generalize (w.alloc _).alloc _ = w2 at hk1 hk2 hb ⊢
  have HB2 := Lib.hid hb
  have HK1 := Lib.hid hk1
  have HK2 := Lib.hid hk2
  clear hk1 hk2 hb
  go_wp2_with fail
  refine (awake_any _).mono ?_
  rintro e w3 ⟨rfl, hb3⟩
  have HB3 := Lib.hid (HB2.out.trans (hb3.mono HB2.out.size))
  have q0 := (HK1.out.kept hb3).cell 0 rfl
  have q1 := (HK1.out.kept hb3).cell 1 rfl
  have q2 := (HK1.out.kept hb3).cell 2 rfl
  have q3 := (HK1.out.kept hb3).cell 3 rfl
  have q4 := (HK1.out.kept hb3).cell 4 rfl
  have q5 := (HK1.out.kept hb3).cell 5 rfl
  have ql := (HK1.out.kept hb3).lt
  have HK1 := Lib.hid (HK1.out.kept hb3)
  have HK2 := Lib.hid (HK2.out.kept hb3)
  clear hb3 HB2
  go_wp2_with fail
  refine (HFew.out _ HB3.out).mono ?_
  clear q0 q1 q2 q3 q4 q5
  rintro e w4 ⟨⟨bf, rfl, hf⟩, hb4⟩
  have HB4 := Lib.hid (HB3.out.trans (hb4.mono HB3.out.size))
  have HK1 := Lib.hid (HK1.out.kept hb4)
  have HK2 := Lib.hid (HK2.out.kept hb4)
  clear hb4 HB3 ql
  cases bf with
  | false =>
    go_wp2_with fail
    go_ret
    exact ⟨rfl, HB4.out⟩
  | true =>
    have HQp := Lib.hid (q_few hp (hf rfl))
    clear hf
    by_cases h20 : 20 < n
    · have g20 : (20 : Int) < (n : Int) := by omega
      have d20 : decide ((20 : Int) < (n : Int)) = true := decide_eq_true g20
      clear h20
      go_wp2_with fail
      go_ret
      exact ⟨rfl, HB4.out⟩
    · have g20 : ¬ (20 : Int) < (n : Int) := by omega
      have d20 : decide ((20 : Int) < (n : Int)) = false := decide_eq_false g20
      have HRec := Lib.hid (HRec.out (by omega))
      clear h20
      have q0 := HK1.out.cell 0 rfl
      have q1 := HK1.out.cell 1 rfl
      have q2 := HK1.out.cell 2 rfl
      have q3 := HK1.out.cell 3 rfl
      have q4 := HK1.out.cell 4 rfl
      have q5 := HK1.out.cell 5 rfl
      have t0 := HK2.out.cell 0 rfl
      have t1 := HK2.out.cell 1 rfl
      have t2 := HK2.out.cell 2 rfl
      have t3 := HK2.out.cell 3 rfl
      have t4 := HK2.out.cell 4 rfl
      have t5 := HK2.out.cell 5 rfl
      have t6 := HK2.out.cell 6 rfl
      have t7 := HK2.out.cell 7 rfl
      go_upto_region 5 with fail
      refine wp_region_held_drew (S := (fun w' => w'.cell? ⟨w.heap.size, 0, none⟩ = some (.string ⟨nm.toArray⟩) ∧ w'.cell? ⟨w.heap.size, 1, none⟩ = some (.int .u32 dflt) ∧ w'.cell? ⟨w.heap.size, 2, none⟩ = some (.slice RA rules.length Rc) ∧ w'.cell? ⟨w.heap.size, 3, none⟩ = some (.int .u16 hd) ∧ w'.cell? ⟨w.heap.size, 4, none⟩ = some (.slice PA paths.length Pc) ∧ w'.cell? ⟨w.heap.size, 5, none⟩ = some (.slice QA ports.length Qc) ∧ w'.cell? ⟨w.heap.size + 1, 0, none⟩ = some (.int .u8 ni) ∧ w'.cell? ⟨w.heap.size + 1, 1, none⟩ = some (.int .u8 df) ∧ w'.cell? ⟨w.heap.size + 1, 2, none⟩ = some (.int .u8 er) ∧ w'.cell? ⟨w.heap.size + 1, 3, none⟩ = some (.slice SA srs.length sc) ∧ w'.cell? ⟨w.heap.size + 1, 4, none⟩ = some (.int .u16 hh) ∧ w'.cell? ⟨w.heap.size + 1, 5, none⟩ = some (.slice DA dl.length dc) ∧ w'.cell? ⟨w.heap.size + 1, 6, none⟩ = some (.slice GA gl.length gc) ∧ w'.cell? ⟨w.heap.size + 1, 7, none⟩ = some (.slice KA kl.length kc) ∧ Hid (Below w4.heap.size w4 w'))) (by kernel_rfl) ?_ (fun hHeld0 => ?_)
      · exact ⟨q0, q1, q2, q3, q4, q5, t0, t1, t2, t3, t4, t5, t6, t7, Lib.hid (Below.refl w4.heap.size w4).drew⟩
      clear q0 q1 q2 q3 q4 q5 t0 t1 t2 t3 t4 t5 t6 t7
      generalize w4.drew = vh0 at hHeld0 ⊢
      refine wpAnyH_take (i := 0) (v := ?_) (by first | (simp only [List.getElem?_toArray, List.getElem?_cons_zero] <;> rfl) | rfl) (by kernel_rfl) (by kernel_rfl) (by kernel_rfl) (by exact fun _ _ _ h => h) (Or.inl ⟨by rfl, ?_⟩) hHeld0 ?_
      rotate_left 1
      · intro w hSw
        try dsimp only at hSw
        (go_simp) <;> (with_reducible rfl)
      try simp only [Act.put, List.setIfInBounds_toArray, List.set_cons_zero, List.set_cons_succ]
      refine wpAnyH_take (i := 1) (v := ?_) (by first | (simp only [List.getElem?_toArray, List.getElem?_cons_succ, List.getElem?_cons_zero] <;> rfl) | rfl) (by kernel_rfl) (by kernel_rfl) (by kernel_rfl) (by exact fun _ _ _ h => h) (Or.inl ⟨by rfl, ?_⟩) hHeld0 ?_
      rotate_left 1
      · intro w hSw
        try dsimp only at hSw
        (go_simp) <;> (with_reducible rfl)
      try simp only [Act.put, List.setIfInBounds_toArray, List.set_cons_zero, List.set_cons_succ]
      refine wpAnyH_take (i := 5) (v := ?_) (by first | (simp only [List.getElem?_toArray, List.getElem?_cons_succ, List.getElem?_cons_zero] <;> rfl) | rfl) (by kernel_rfl) (by kernel_rfl) (by kernel_rfl) (by exact fun _ _ _ h => h) (Or.inl ⟨by rfl, ?_⟩) hHeld0 ?_
      rotate_left 1
      · intro w hSw
        try dsimp only at hSw
        (go_simp) <;> (with_reducible rfl)
      try simp only [Act.put, List.setIfInBounds_toArray, List.set_cons_zero, List.set_cons_succ]
      refine wpAnyH_ready (rs := [2]) (by kernel_rfl) (by simp) ?_
      refine AllReadyH.cons (by first | (simp only [List.getElem?_toArray, List.getElem?_cons_succ, List.getElem?_cons_zero] <;> rfl) | rfl) (fun K hK => ?_) ?_
      · go_simp
        refine (HSm.out _ (HB4.out.trans ((hHeld0.2.2.2.2.2.2.2.2.2.2.2.2.2.2.out).mono HB4.out.size))).mono ?_
        rintro e vh1 ⟨qnm, qact, qrs, qRA, qRc, qhd, qpt, qPA, qPc, qpo, qQA, qQc, rfl, hR4, hOk, hbb⟩
        refine hK.out _ _ ?_ (fun hHeld1 => ?_)
        · exact ⟨cell_below hHeld0.1 hbb, cell_below hHeld0.2.1 hbb, cell_below hHeld0.2.2.1 hbb, cell_below hHeld0.2.2.2.1 hbb, cell_below hHeld0.2.2.2.2.1 hbb, cell_below hHeld0.2.2.2.2.2.1 hbb, cell_below hHeld0.2.2.2.2.2.2.1 hbb, cell_below hHeld0.2.2.2.2.2.2.2.1 hbb, cell_below hHeld0.2.2.2.2.2.2.2.2.1 hbb, cell_below hHeld0.2.2.2.2.2.2.2.2.2.1 hbb, cell_below hHeld0.2.2.2.2.2.2.2.2.2.2.1 hbb, cell_below hHeld0.2.2.2.2.2.2.2.2.2.2.2.1 hbb, cell_below hHeld0.2.2.2.2.2.2.2.2.2.2.2.2.1 hbb, cell_below hHeld0.2.2.2.2.2.2.2.2.2.2.2.2.2.1 hbb, hHeld0.2.2.2.2.2.2.2.2.2.2.2.2.2.2.out.trans (hbb.mono hHeld0.2.2.2.2.2.2.2.2.2.2.2.2.2.2.out.size)⟩
        clear hK K
        have HSr := Lib.hid (small_reads (nm := qnm) (act := qact) (hd := qhd) hR4)
        have HSq := Lib.hid (q_small (RA := qRA) (Rc := qRc) (PA := qPA) (Pc := qPc) (QA := qQA) (Qc := qQc) hOk)
        clear hR4 hOk
        clear hbb hHeld0
        try simp only [Act.put, List.setIfInBounds_toArray, List.set_cons_zero, List.set_cons_succ]
        refine wpAnyH_ready (rs := [3]) (by kernel_rfl) (by simp) ?_
        refine AllReadyH.cons (by first | (simp only [List.getElem?_toArray, List.getElem?_cons_succ, List.getElem?_cons_zero] <;> rfl) | rfl) (fun K hK => ?_) ?_
        · go_simp
          refine hK.out _ _ ?_ (fun hHeld2 => ?_)
          · exact ⟨cell_below hHeld1.1 (oneb _ _), cell_below hHeld1.2.1 (oneb _ _), cell_below hHeld1.2.2.1 (oneb _ _), cell_below hHeld1.2.2.2.1 (oneb _ _), cell_below hHeld1.2.2.2.2.1 (oneb _ _), cell_below hHeld1.2.2.2.2.2.1 (oneb _ _), cell_below hHeld1.2.2.2.2.2.2.1 (oneb _ _), cell_below hHeld1.2.2.2.2.2.2.2.1 (oneb _ _), cell_below hHeld1.2.2.2.2.2.2.2.2.1 (oneb _ _), cell_below hHeld1.2.2.2.2.2.2.2.2.2.1 (oneb _ _), cell_below hHeld1.2.2.2.2.2.2.2.2.2.2.1 (oneb _ _), cell_below hHeld1.2.2.2.2.2.2.2.2.2.2.2.1 (oneb _ _), cell_below hHeld1.2.2.2.2.2.2.2.2.2.2.2.2.1 (oneb _ _), cell_below hHeld1.2.2.2.2.2.2.2.2.2.2.2.2.2.1 (oneb _ _), hHeld1.2.2.2.2.2.2.2.2.2.2.2.2.2.2.out.trans ((oneb _ _).mono hHeld1.2.2.2.2.2.2.2.2.2.2.2.2.2.2.out.size)⟩
          clear hK K
          have hbb := oneb vh1 (.cells #[.string ⟨nm.toArray⟩, .int .u32 dflt, .slice RA rules.length Rc, .int .u16 hd, .slice PA paths.length Pc, .slice QA ports.length Qc, .string ⟨qnm.toArray⟩, .int .u32 qact, .slice qRA qrs.length qRc, .int .u16 qhd, .slice qPA qpt.length qPc, .slice qQA qpo.length qQc] 30)
          have hrd := rd_new vh1 #[.string ⟨nm.toArray⟩, .int .u32 dflt, .slice RA rules.length Rc, .int .u16 hd, .slice PA paths.length Pc, .slice QA ports.length Qc, .string ⟨qnm.toArray⟩, .int .u32 qact, .slice qRA qrs.length qRc, .int .u16 qhd, .slice qPA qpt.length qPc, .slice qQA qpo.length qQc] (T := 30) (l := [(⟨nm, dflt, rules, RA, Rc, hd, paths, PA, Pc, ports, QA, Qc⟩ : PolV), ⟨qnm, qact, qrs, qRA, qRc, qhd, qpt, qPA, qPc, qpo, qQA, qQc⟩].flatMap PolV.cells) (n := 2) (z := 6) rfl rfl
          generalize World.alloc vh1 _ = vh2 at hbb hrd hHeld2 ⊢
          have HSr := Lib.hid (HSr.out.below hbb)
          generalize vh1.heap.size = g31 at hrd ⊢
          have HRd := Lib.hid hrd
          clear hbb hrd hHeld1
          try simp only [Act.put, List.setIfInBounds_toArray, List.set_cons_zero, List.set_cons_succ]
          refine wpAnyH_take (i := 4) (v := ?_) (by first | (simp only [List.getElem?_toArray, List.getElem?_cons_succ, List.getElem?_cons_zero] <;> rfl) | rfl) (by kernel_rfl) (by kernel_rfl) (by kernel_rfl) (by exact fun _ _ _ h => h) (Or.inl ⟨by rfl, ?_⟩) hHeld2 ?_
          rotate_left 1
          · intro w hSw
            try dsimp only at hSw
            (go_simp) <;> (with_reducible rfl)
          try simp only [Act.put, List.setIfInBounds_toArray, List.set_cons_zero, List.set_cons_succ]
          refine wpAnyH_done (by kernel_rfl) ?_ _
          rename World => w5
          have HB5 := Lib.hid (HB4.out.trans ((hHeld2.2.2.2.2.2.2.2.2.2.2.2.2.2.2.out).mono HB4.out.size))
          have HPr := Lib.hid (hp.g12.below HB5.out)
          have HAll := Lib.hid (two_all (Q := fun x => Reads w5 x ∧ QOk x) ⟨HPr.out, HQp.out⟩ ⟨HSr.out, HSq.out⟩)
          clear hHeld2 HSr HSq HPr HSm HFew HB4 HQp
          go_wp2_with fail
          have h31 : g31 < w5.heap.size := by obtain ⟨b, o, e, hb, _⟩ := HRd.out.pos (by omega); cases e; exact hb
          have HRd := Lib.hid HRd.out
          clear HK1 HK2 g20 d20 hn63
          go_loopw [33] (fun iv wr => ∃ k : Nat, iv = .int .i64 k ∧ k ≤ 2 ∧ Hid (Below w5.heap.size w5 wr)) (fun iv _ => 2 - (intOf iv).toNat)
          case atStart => exact ⟨0, rfl, Nat.zero_le _, Below.refl _ _⟩
          case round =>
            obtain ⟨k, rfl, hk, HBr⟩ := hrel
            have hs5 := HBr.out.size
            by_cases hk2 : k < 2
            · obtain ⟨xx, hxx⟩ : ∃ xx, [(⟨nm, dflt, rules, RA, Rc, hd, paths, PA, Pc, ports, QA, Qc⟩ : PolV), ⟨qnm, qact, qrs, qRA, qRc, qhd, qpt, qPA, qPc, qpo, qQA, qQc⟩][k]? = some xx := ⟨_, List.getElem?_eq_getElem hk2⟩
              obtain ⟨hxr, hxq⟩ := HAll.out xx (List.mem_of_getElem? hxx)
              obtain ⟨c0, c1, c2, c3, c4, c5⟩ := six_pol (HRd.out.below HBr.out) hxx
              have HXq := Lib.hid hxq
              have HXr := Lib.hid (hxr.below HBr.out)
              clear hxr hxq hxx
              obtain ⟨xn, xd, xr, xRA, xRc, xh, xp, xPA, xPc, xq, xQA, xQc⟩ := xx
              simp only at c0 c1 c2 c3 c4 c5
              obtain ⟨nR, hnR⟩ : ∃ n, xr.length = n := ⟨_, rfl⟩
              obtain ⟨nP, hnP⟩ : ∃ n, xp.length = n := ⟨_, rfl⟩
              obtain ⟨nQ, hnQ⟩ : ∃ n, xq.length = n := ⟨_, rfl⟩
              rw [hnR] at c2
              rw [hnP] at c4
              rw [hnQ] at c5
              have hlR : nR ≤ 80 := by rw [← hnR]; exact HXq.out.r
              have hlP : nP ≤ 50 := by rw [← hnP]; exact HXq.out.pt
              have hlQ : nQ ≤ 50 := by rw [← hnQ]; exact HXq.out.po
              have HnR := Lib.hid hnR
              have HnP := Lib.hid hnP
              have HnQ := Lib.hid hnQ
              clear hnR hnP hnQ
              have hk0 : (0 : Int) ≤ (k : Int) := by omega
              go_upto_region 8 with fail
              have hbx := oneb wr (.cells #[.string ⟨xn.toArray⟩, .int .u32 xd, .slice xRA nR xRc, .int .u16 xh, .slice xPA nP xPc, .slice xQA nQ xQc] 30)
              have hkx := Bk.new wr 30 #[.string ⟨xn.toArray⟩, .int .u32 xd, .slice xRA nR xRc, .int .u16 xh, .slice xPA nP xPc, .slice xQA nQ xQc] (l := [.string ⟨xn.toArray⟩, .int .u32 xd, .slice xRA nR xRc, .int .u16 xh, .slice xPA nP xPc, .slice xQA nQ xQc]) rfl
              clear c0 c1 c2 c3 c4 c5
              generalize World.alloc wr _ = w6 at hbx hkx ⊢
              generalize wr.heap.size = g10 at hkx ⊢
              have HB56 := Lib.hid (HBr.out.trans (hbx.mono HBr.out.size))
              have HB6 := Lib.hid (HB5.out.trans (HB56.out.mono HB5.out.size))
              have HX6 := Lib.hid (HXr.out.below hbx)
              have HK10 := Lib.hid hkx
              have q0 := hkx.cell 0 rfl
              have q1 := hkx.cell 1 rfl
              have q2 := hkx.cell 2 rfl
              have q3 := hkx.cell 3 rfl
              have q4 := hkx.cell 4 rfl
              have q5 := hkx.cell 5 rfl
              have ql := hkx.lt
              clear hbx hkx HXr
              have hrf := Lib.hid (ref_any xn xd xr xRA nR xRc xh xp xPA nP xPc xq xQA nQ xQc w6 HnR.out HnP.out HnQ.out hlR hlP hlQ (fun r hr => ⟨HXq.out.cs r hr, (HXq.out.ok r hr).2.2.2⟩) HXq.out.hd HXq.out.pa HXq.out.qa HX6.out)
              go_wp2_with fail
              refine hrf.out.mono ?_
              clear hrf q0 q1 q2 q3 q4 q5 ql
              rintro e w7 ⟨⟨rs, rRA, rRc, rPA, rPc, rQA, rQc, hrm, rfl, hrr⟩, hb7⟩
              have HRm0 := Lib.hid hrm
              have HRr := Lib.hid (show RRr w7 rs rRA from ⟨hrr.rules, hrr.conds, ok_same hrm HXq.out.ok⟩)
              have HRR := Lib.hid (rrd_of (HX6.out.below hb7) HXq.out)
              have K10 := Lib.hid (HK10.out.kept hb7)
              have HB57 := Lib.hid (HB56.out.trans (hb7.mono HB56.out.size))
              clear hrm hrr hb7 HK10 HX6 HB56
              go_upto_region 9 with fail
              have hbx := oneb w7 (.cells #[.string ⟨xn.toArray⟩, .int .u32 xd, .slice rRA nR rRc, .int .i64 xh, .slice rPA nP rPc, .slice rQA nQ rQc] 45)
              have hkx := Bk.new w7 45 #[.string ⟨xn.toArray⟩, .int .u32 xd, .slice rRA nR rRc, .int .i64 xh, .slice rPA nP rPc, .slice rQA nQ rQc] (l := [.string ⟨xn.toArray⟩, .int .u32 xd, .slice rRA nR rRc, .int .i64 xh, .slice rPA nP rPc, .slice rQA nQ rQc]) rfl
              generalize World.alloc w7 _ = w8 at hbx hkx ⊢
              generalize w7.heap.size = g11 at hkx ⊢
              have HB58 := Lib.hid (HB57.out.trans (hbx.mono HB57.out.size))
              have HB8 := Lib.hid (HB5.out.trans (HB58.out.mono HB5.out.size))
              have K10 := Lib.hid (K10.out.kept hbx)
              have K11 := Lib.hid hkx
              have HRR := Lib.hid (HRR.out.below hbx)
              have HRr := Lib.hid (HRr.out.below hbx)
              have q0 := K10.out.cell 0 rfl
              have q1 := K10.out.cell 1 rfl
              have q2 := K10.out.cell 2 rfl
              have q3 := K10.out.cell 3 rfl
              have q4 := K10.out.cell 4 rfl
              have q5 := K10.out.cell 5 rfl
              have ql := K10.out.lt
              clear hbx hkx HB57
              have hrc := Lib.hid (HRec.out ⟨xn.toArray⟩ xd xr xRA nR xRc xh xPA nP xPc xQA nQ xQc w8 HB8.out HnR.out (by omega) HRR.out)
              go_wp2_with fail
              refine hrc.out.mono ?_
              clear hrc q0 q1 q2 q3 q4 q5 ql
              rintro e w9 ⟨⟨recs, cA, cc, rfl, hl50, hrok, hrt⟩, hb9⟩
              have HRok := Lib.hid hrok
              obtain ⟨nC, hnC⟩ : ∃ n, recs.length = n := ⟨_, rfl⟩
              rw [hnC] at hl50 hrt ⊢
              have HnC := Lib.hid hnC
              have HRt := Lib.hid hrt
              have HB59 := Lib.hid (HB58.out.trans (hb9.mono HB58.out.size))
              have K10 := Lib.hid (K10.out.kept hb9)
              have K11 := Lib.hid (K11.out.kept hb9)
              have HRR := Lib.hid (HRR.out.below hb9)
              have HRr := Lib.hid (HRr.out.below hb9)
              clear hrok hnC hrt hb9 HB58 HB8 HB6
              go_wp2_with fail
              go_loopw [44] (fun iv wy => ∃ i : Nat, iv = .int .i64 i ∧ i ≤ nC ∧ Hid (Below w9.heap.size w9 wy)) (fun iv _ => nC - (intOf iv).toNat)
              case atStart => exact ⟨0, rfl, Nat.zero_le _, Below.refl _ _⟩
              case round =>
                rename World => wy
                obtain ⟨i, rfl, hi, HBy⟩ := hrel
                by_cases hin : i < nC
                · obtain ⟨x, hx⟩ : ∃ x, recs[i]? = some x := ⟨_, List.getElem?_eq_getElem (by have := HnC.out; omega)⟩
                  have HXo := Lib.hid (HRok.out x (List.mem_of_getElem? hx))
                  obtain ⟨b3, o3, hA3, hb3, hcell⟩ := (HRt.out.below HBy.out).rd.one (fun _ => rfl) (by omega) (by omega)
                  subst hA3
                  obtain ⟨c0, c1, c2, c3, c4, c5, c6, c7, c8⟩ := nine_rec hcell hx
                  clear hcell hx
                  go_upto_region 12 with fail
                  have hbx := oneb wy (.cells #[.int .u32 x.num, .int .u32 x.arch, .int .u64 x.at_, .int .u64 x.a0, .int .u64 x.a1, .int .u64 x.a2, .int .u64 x.a3, .int .u64 x.a4, .int .u64 x.a5] 51)
                  have hkx := Bk.new wy 51 #[.int .u32 x.num, .int .u32 x.arch, .int .u64 x.at_, .int .u64 x.a0, .int .u64 x.a1, .int .u64 x.a2, .int .u64 x.a3, .int .u64 x.a4, .int .u64 x.a5] (l := x.cells) rfl
                  clear c0 c1 c2 c3 c4 c5 c6 c7 c8
                  generalize World.alloc wy _ = w10 at hbx hkx ⊢
                  generalize wy.heap.size = g13 at hkx ⊢
                  have HB910 := Lib.hid (HBy.out.trans (hbx.mono HBy.out.size))
                  have K13 := Lib.hid hkx
                  have K10 := Lib.hid (K10.out.kept HB910.out)
                  have K11 := Lib.hid (K11.out.kept HB910.out)
                  have HRR := Lib.hid (HRR.out.below HB910.out)
                  have HRr := Lib.hid (HRr.out.below HB910.out)
                  have q2 := K10.out.cell 2 rfl
                  have ql := K10.out.lt
                  clear hbx hkx
                  go_wp2_with fail
                  clear q2
                  go_loopw [51] (fun iv wz => ∃ j : Nat, iv = .int .i64 j ∧ j ≤ nR ∧ Hid (Below w10.heap.size w10 wz)) (fun iv _ => nR - (intOf iv).toNat)
                  case atStart => exact ⟨0, rfl, Nat.zero_le _, Below.refl _ _⟩
                  case round =>
                    rename World => wz
                    obtain ⟨j, rfl, hj, HBz⟩ := hrel
                    by_cases hjn : j < nR
                    · obtain ⟨r, hr⟩ : ∃ r, xr[j]? = some r := ⟨_, List.getElem?_eq_getElem (by have := HnR.out; omega)⟩
                      obtain ⟨s, hs, hsm⟩ := same_rule HRm0.out hr
                      have HRz := Lib.hid (HRR.out.below HBz.out)
                      have HRrz := Lib.hid (HRr.out.below HBz.out)
                      have hrd := HRz.out.r
                      simp only [HnR.out] at hrd
                      obtain ⟨bb, ob, hA, hbl, hcell⟩ := hrd.one (fun _ => rfl) (by omega) (by omega)
                      obtain ⟨c0, c1, c2⟩ := rule_cells hcell hr
                      have hcd := HRz.out.c r (List.mem_of_getElem? hr)
                      have hok := HRz.out.ok r (List.mem_of_getElem? hr)
                      have hrr := HRrz.out.r
                      rw [same_len HRm0.out] at hrr
                      simp only [HnR.out] at hrr
                      obtain ⟨rb, ro, hB, hbr, hcellr⟩ := hrr.one (fun _ => rfl) (by omega) (by omega)
                      obtain ⟨f0, f1, f2⟩ := rule_cells hcellr hs
                      have hcr := HRrz.out.c s (List.mem_of_getElem? hs)
                      clear hcell hcellr hrd hrr hr hs HRz HRrz
                      subst hA hB
                      obtain ⟨⟨num, act, cs⟩, A9, c9⟩ := r
                      obtain ⟨⟨snum, sact, scs⟩, B9, d9⟩ := s
                      simp only [RuleM.mk.injEq] at hsm
                      obtain ⟨rfl, rfl, rfl⟩ := hsm
                      simp only at c0 c1 c2 f0 f1 f2 hcd hcr
                      obtain ⟨nc, hnc⟩ : ∃ n, cs.length = n := ⟨_, rfl⟩
                      rw [hnc] at c2 f2 hcd hcr
                      have hncm : nc ≤ 9223372036854775807 := by rw [← hnc]; exact hok.2.2.1
                      have HNc := Lib.hid hnc
                      have HOk := Lib.hid hok
                      obtain ⟨bm, hbm⟩ : ∃ b, b = matB ⟨num, act, cs⟩ x := ⟨_, rfl⟩
                      have HM := Lib.hid (fun W h => matches_any num act cs A9 nc c9 x W HOk.out.2.2.2 HNc.out (by have := HOk.out.2.2.1; rw [← HNc.out]; exact this) h HXo.out)
                      have HRm := Lib.hid (fun W h => refMatches_any num act cs B9 nc d9 x W HOk.out.2.2.2 HNc.out (by have := HOk.out.2.2.1; rw [← HNc.out]; exact this) h HXo.out)
                      rw [← hbm] at HM HRm
                      have ebm : (bm != bm) = false := by simp
                      clear hnc hok hbm
                      go_upto_region 15 with fail
                      have hbx := oneb wz (.cells #[.int .u32 num, .int .u32 act, .slice A9 nc c9] 54)
                      have hkx := Bk.new wz 54 #[.int .u32 num, .int .u32 act, .slice A9 nc c9] (l := [.int .u32 num, .int .u32 act, .slice A9 nc c9]) rfl
                      clear c0 c1 c2
                      generalize World.alloc wz _ = w11 at hbx hkx ⊢
                      have HB1011 := Lib.hid (HBz.out.trans (hbx.mono HBz.out.size))
                      have e0 := cell_below f0 hbx
                      have e1 := cell_below f1 hbx
                      have e2 := cell_below f2 hbx
                      have HRR2 := Lib.hid e2
                      have HCd := Lib.hid (hcd.below hbx)
                      have HCr := Lib.hid (hcr.below hbx)
                      clear f0 f1 f2 hcd hcr
                      generalize wz.heap.size = g15 at hkx ⊢
                      have HK15 := Lib.hid hkx
                      have k0 := hkx.cell 0 rfl
                      have k1 := hkx.cell 1 rfl
                      have k2 := hkx.cell 2 rfl
                      have y0 := (K13.out.kept HB1011.out).cell 0 rfl
                      have y1 := (K13.out.kept HB1011.out).cell 1 rfl
                      have y2 := (K13.out.kept HB1011.out).cell 2 rfl
                      have y3 := (K13.out.kept HB1011.out).cell 3 rfl
                      have y4 := (K13.out.kept HB1011.out).cell 4 rfl
                      have y5 := (K13.out.kept HB1011.out).cell 5 rfl
                      have y6 := (K13.out.kept HB1011.out).cell 6 rfl
                      have y7 := (K13.out.kept HB1011.out).cell 7 rfl
                      have y8 := (K13.out.kept HB1011.out).cell 8 rfl
                      have m2 := (K11.out.kept HB1011.out).cell 2 rfl
                      have j0 : (0 : Int) ≤ (j : Int) := by omega
                      have j1 : (j : Int) < (nR : Int) := by omega
                      clear hkx hbx
                      refine wp_region_held_drew (S := (fun w' => w'.cell? ⟨g15, 0, none⟩ = some (.int .u32 num) ∧ w'.cell? ⟨g15, 1, none⟩ = some (.int .u32 act) ∧ w'.cell? ⟨g15, 2, none⟩ = some (.slice A9 nc c9) ∧ w'.cell? ⟨g13, 0, none⟩ = some (.int .u32 x.num) ∧ w'.cell? ⟨g13, 1, none⟩ = some (.int .u32 x.arch) ∧ w'.cell? ⟨g13, 2, none⟩ = some (.int .u64 x.at_) ∧ w'.cell? ⟨g13, 3, none⟩ = some (.int .u64 x.a0) ∧ w'.cell? ⟨g13, 4, none⟩ = some (.int .u64 x.a1) ∧ w'.cell? ⟨g13, 5, none⟩ = some (.int .u64 x.a2) ∧ w'.cell? ⟨g13, 6, none⟩ = some (.int .u64 x.a3) ∧ w'.cell? ⟨g13, 7, none⟩ = some (.int .u64 x.a4) ∧ w'.cell? ⟨g13, 8, none⟩ = some (.int .u64 x.a5) ∧ w'.cell? ⟨g11, 2, none⟩ = some (.slice (some ⟨rb, ro, none⟩) nR rRc) ∧ w'.cell? ⟨rb, ro + j * 3, none⟩ = some (.int .u32 num) ∧ w'.cell? ⟨rb, ro + j * 3 + 1, none⟩ = some (.int .u32 act) ∧ w'.cell? ⟨rb, ro + j * 3 + 2, none⟩ = some (.slice B9 nc d9) ∧ Hid (Below w11.heap.size w11 w'))) (by kernel_rfl) ?_ (fun hHeld0 => ?_)
                      · exact ⟨k0, k1, k2, y0, y1, y2, y3, y4, y5, y6, y7, y8, m2, e0, e1, e2, Lib.hid (Below.refl w11.heap.size w11).drew⟩
                      clear k0 k1 k2 y0 y1 y2 y3 y4 y5 y6 y7 y8 m2 e0 e1 e2 j0 j1
                      generalize w11.drew = vh0 at hHeld0 ⊢
                      have j0 : (0 : Int) ≤ (j : Int) := by omega
                      have j1 : (j : Int) < (nR : Int) := by omega
                      refine wpAnyH_take (i := 0) (v := ?_) (by first | (simp only [List.getElem?_toArray, List.getElem?_cons_zero] <;> rfl) | rfl) (by kernel_rfl) (by kernel_rfl) (by kernel_rfl) (by exact fun _ _ _ h => h) (Or.inl ⟨by rfl, ?_⟩) hHeld0 ?_
                      rotate_left 1
                      · intro w hSw
                        try dsimp only at hSw
                        (go_simp) <;> (with_reducible rfl)
                      try simp only [Act.put, List.setIfInBounds_toArray, List.set_cons_zero, List.set_cons_succ]
                      refine wpAnyH_take (i := 1) (v := ?_) (by first | (simp only [List.getElem?_toArray, List.getElem?_cons_succ, List.getElem?_cons_zero] <;> rfl) | rfl) (by kernel_rfl) (by kernel_rfl) (by kernel_rfl) (by exact fun _ _ _ h => h) (Or.inl ⟨by rfl, ?_⟩) hHeld0 ?_
                      rotate_left 1
                      · intro w hSw
                        try dsimp only at hSw
                        (go_simp) <;> (with_reducible rfl)
                      try simp only [Act.put, List.setIfInBounds_toArray, List.set_cons_zero, List.set_cons_succ]
                      refine wpAnyH_take (i := 3) (v := ?_) (by first | (simp only [List.getElem?_toArray, List.getElem?_cons_succ, List.getElem?_cons_zero] <;> rfl) | rfl) (by kernel_rfl) (by kernel_rfl) (by kernel_rfl) (by exact fun _ _ _ h => h) (Or.inl ⟨by rfl, ?_⟩) hHeld0 ?_
                      rotate_left 1
                      · intro w hSw
                        try dsimp only at hSw
                        (go_simp) <;> (with_reducible rfl)
                      try simp only [Act.put, List.setIfInBounds_toArray, List.set_cons_zero, List.set_cons_succ]
                      refine wpAnyH_take (i := 4) (v := ?_) (by first | (simp only [List.getElem?_toArray, List.getElem?_cons_succ, List.getElem?_cons_zero] <;> rfl) | rfl) (by kernel_rfl) (by kernel_rfl) (by kernel_rfl) (by exact fun _ _ _ h => h) (Or.inl ⟨by rfl, ?_⟩) hHeld0 ?_
                      rotate_left 1
                      · intro w hSw
                        try dsimp only at hSw
                        (go_simp) <;> (with_reducible rfl)
                      try simp only [Act.put, List.setIfInBounds_toArray, List.set_cons_zero, List.set_cons_succ]
                      refine wpAnyH_take (i := 5) (v := ?_) (by first | (simp only [List.getElem?_toArray, List.getElem?_cons_succ, List.getElem?_cons_zero] <;> rfl) | rfl) (by kernel_rfl) (by kernel_rfl) (by kernel_rfl) (by exact fun _ _ _ h => h) (Or.inl ⟨by rfl, ?_⟩) hHeld0 ?_
                      rotate_left 1
                      · intro w hSw
                        try dsimp only at hSw
                        (go_simp) <;> (with_reducible rfl)
                      try simp only [Act.put, List.setIfInBounds_toArray, List.set_cons_zero, List.set_cons_succ]
                      refine wpAnyH_take (i := 6) (v := ?_) (by first | (simp only [List.getElem?_toArray, List.getElem?_cons_succ, List.getElem?_cons_zero] <;> rfl) | rfl) (by kernel_rfl) (by kernel_rfl) (by kernel_rfl) (by exact fun _ _ _ h => h) (Or.inl ⟨by rfl, ?_⟩) hHeld0 ?_
                      rotate_left 1
                      · intro w hSw
                        try dsimp only at hSw
                        (go_simp) <;> (with_reducible rfl)
                      try simp only [Act.put, List.setIfInBounds_toArray, List.set_cons_zero, List.set_cons_succ]
                      refine wpAnyH_take (i := 7) (v := ?_) (by first | (simp only [List.getElem?_toArray, List.getElem?_cons_succ, List.getElem?_cons_zero] <;> rfl) | rfl) (by kernel_rfl) (by kernel_rfl) (by kernel_rfl) (by exact fun _ _ _ h => h) (Or.inl ⟨by rfl, ?_⟩) hHeld0 ?_
                      rotate_left 1
                      · intro w hSw
                        try dsimp only at hSw
                        (go_simp) <;> (with_reducible rfl)
                      try simp only [Act.put, List.setIfInBounds_toArray, List.set_cons_zero, List.set_cons_succ]
                      refine wpAnyH_take (i := 8) (v := ?_) (by first | (simp only [List.getElem?_toArray, List.getElem?_cons_succ, List.getElem?_cons_zero] <;> rfl) | rfl) (by kernel_rfl) (by kernel_rfl) (by kernel_rfl) (by exact fun _ _ _ h => h) (Or.inl ⟨by rfl, ?_⟩) hHeld0 ?_
                      rotate_left 1
                      · intro w hSw
                        try dsimp only at hSw
                        (go_simp) <;> (with_reducible rfl)
                      try simp only [Act.put, List.setIfInBounds_toArray, List.set_cons_zero, List.set_cons_succ]
                      refine wpAnyH_ready (rs := [2]) (by kernel_rfl) (by simp) ?_
                      refine AllReadyH.cons (by first | (simp only [List.getElem?_toArray, List.getElem?_cons_succ, List.getElem?_cons_zero] <;> rfl) | rfl) (fun K hK => ?_) ?_
                      · go_simp
                        refine (HM.out _ (HCd.out.below (hHeld0.2.2.2.2.2.2.2.2.2.2.2.2.2.2.2.2.out))).mono ?_
                        rintro e vh1 ⟨rfl, hbb⟩
                        refine hK.out _ _ ?_ (fun hHeld1 => ?_)
                        · exact ⟨cell_below hHeld0.1 hbb, cell_below hHeld0.2.1 hbb, cell_below hHeld0.2.2.1 hbb, cell_below hHeld0.2.2.2.1 hbb, cell_below hHeld0.2.2.2.2.1 hbb, cell_below hHeld0.2.2.2.2.2.1 hbb, cell_below hHeld0.2.2.2.2.2.2.1 hbb, cell_below hHeld0.2.2.2.2.2.2.2.1 hbb, cell_below hHeld0.2.2.2.2.2.2.2.2.1 hbb, cell_below hHeld0.2.2.2.2.2.2.2.2.2.1 hbb, cell_below hHeld0.2.2.2.2.2.2.2.2.2.2.1 hbb, cell_below hHeld0.2.2.2.2.2.2.2.2.2.2.2.1 hbb, cell_below hHeld0.2.2.2.2.2.2.2.2.2.2.2.2.1 hbb, cell_below hHeld0.2.2.2.2.2.2.2.2.2.2.2.2.2.1 hbb, cell_below hHeld0.2.2.2.2.2.2.2.2.2.2.2.2.2.2.1 hbb, cell_below hHeld0.2.2.2.2.2.2.2.2.2.2.2.2.2.2.2.1 hbb, hHeld0.2.2.2.2.2.2.2.2.2.2.2.2.2.2.2.2.out.trans (hbb.mono hHeld0.2.2.2.2.2.2.2.2.2.2.2.2.2.2.2.2.out.size)⟩
                        clear hK K
                        clear hbb hHeld0
                        try simp only [Act.put, List.setIfInBounds_toArray, List.set_cons_zero, List.set_cons_succ]
                        refine wpAnyH_ready (rs := [9]) (by kernel_rfl) (by simp) ?_
                        refine AllReadyH.cons (by first | (simp only [List.getElem?_toArray, List.getElem?_cons_succ, List.getElem?_cons_zero] <;> rfl) | rfl) (fun K hK => ?_) ?_
                        · go_simp
                          refine (seen_any x _).mono ?_
                          rintro e vh2 ⟨rfl, hbb⟩
                          refine hK.out _ _ ?_ (fun hHeld2 => ?_)
                          · exact ⟨cell_below hHeld1.1 hbb, cell_below hHeld1.2.1 hbb, cell_below hHeld1.2.2.1 hbb, cell_below hHeld1.2.2.2.1 hbb, cell_below hHeld1.2.2.2.2.1 hbb, cell_below hHeld1.2.2.2.2.2.1 hbb, cell_below hHeld1.2.2.2.2.2.2.1 hbb, cell_below hHeld1.2.2.2.2.2.2.2.1 hbb, cell_below hHeld1.2.2.2.2.2.2.2.2.1 hbb, cell_below hHeld1.2.2.2.2.2.2.2.2.2.1 hbb, cell_below hHeld1.2.2.2.2.2.2.2.2.2.2.1 hbb, cell_below hHeld1.2.2.2.2.2.2.2.2.2.2.2.1 hbb, cell_below hHeld1.2.2.2.2.2.2.2.2.2.2.2.2.1 hbb, cell_below hHeld1.2.2.2.2.2.2.2.2.2.2.2.2.2.1 hbb, cell_below hHeld1.2.2.2.2.2.2.2.2.2.2.2.2.2.2.1 hbb, cell_below hHeld1.2.2.2.2.2.2.2.2.2.2.2.2.2.2.2.1 hbb, hHeld1.2.2.2.2.2.2.2.2.2.2.2.2.2.2.2.2.out.trans (hbb.mono hHeld1.2.2.2.2.2.2.2.2.2.2.2.2.2.2.2.2.out.size)⟩
                          clear hK K
                          clear hbb hHeld1
                          try simp only [Act.put, List.setIfInBounds_toArray, List.set_cons_zero, List.set_cons_succ]
                          refine wpAnyH_ready (rs := [10]) (by kernel_rfl) (by simp) ?_
                          refine AllReadyH.cons (by first | (simp only [List.getElem?_toArray, List.getElem?_cons_succ, List.getElem?_cons_zero] <;> rfl) | rfl) (fun K hK => ?_) ?_
                          · go_simp
                            refine (HRm.out _ (HCr.out.below (hHeld2.2.2.2.2.2.2.2.2.2.2.2.2.2.2.2.2.out))).mono ?_
                            rintro e vh3 ⟨rfl, hbb⟩
                            refine hK.out _ _ ?_ (fun hHeld3 => ?_)
                            · exact ⟨cell_below hHeld2.1 hbb, cell_below hHeld2.2.1 hbb, cell_below hHeld2.2.2.1 hbb, cell_below hHeld2.2.2.2.1 hbb, cell_below hHeld2.2.2.2.2.1 hbb, cell_below hHeld2.2.2.2.2.2.1 hbb, cell_below hHeld2.2.2.2.2.2.2.1 hbb, cell_below hHeld2.2.2.2.2.2.2.2.1 hbb, cell_below hHeld2.2.2.2.2.2.2.2.2.1 hbb, cell_below hHeld2.2.2.2.2.2.2.2.2.2.1 hbb, cell_below hHeld2.2.2.2.2.2.2.2.2.2.2.1 hbb, cell_below hHeld2.2.2.2.2.2.2.2.2.2.2.2.1 hbb, cell_below hHeld2.2.2.2.2.2.2.2.2.2.2.2.2.1 hbb, cell_below hHeld2.2.2.2.2.2.2.2.2.2.2.2.2.2.1 hbb, cell_below hHeld2.2.2.2.2.2.2.2.2.2.2.2.2.2.2.1 hbb, cell_below hHeld2.2.2.2.2.2.2.2.2.2.2.2.2.2.2.2.1 hbb, hHeld2.2.2.2.2.2.2.2.2.2.2.2.2.2.2.2.2.out.trans (hbb.mono hHeld2.2.2.2.2.2.2.2.2.2.2.2.2.2.2.2.2.out.size)⟩
                            clear hK K
                            clear hbb hHeld2
                            try simp only [Act.put, List.setIfInBounds_toArray, List.set_cons_zero, List.set_cons_succ]
                            refine wpAnyH_take (i := 11) (v := ?_) (by first | (simp only [List.getElem?_toArray, List.getElem?_cons_succ, List.getElem?_cons_zero] <;> rfl) | rfl) (by kernel_rfl) (by kernel_rfl) (by kernel_rfl) (by exact fun _ _ _ h => h) (Or.inl ⟨by rfl, ?_⟩) hHeld3 ?_
                            rotate_left 1
                            · intro w hSw
                              try dsimp only at hSw
                              (go_simp) <;> (with_reducible rfl)
                            try simp only [Act.put, List.setIfInBounds_toArray, List.set_cons_zero, List.set_cons_succ]
                            refine wpAnyH_done (by kernel_rfl) ?_ _
                            rename World => w12
                            have hb12 := hHeld3.2.2.2.2.2.2.2.2.2.2.2.2.2.2.2.2.out
                            have HB1012 := Lib.hid (HB1011.out.trans (hb12.mono HB1011.out.size))
                            have r2 := (HK15.out.kept hb12).cell 2 rfl
                            have rl := (HK15.out.kept hb12).lt
                            have K11 := Lib.hid ((K11.out.kept HB1011.out).kept hb12)
                            have K13 := Lib.hid ((K13.out.kept HB1011.out).kept hb12)
                            have HCd := Lib.hid (HCd.out.below hb12)
                            have HCr := Lib.hid (HCr.out.below hb12)
                            have HRR2 := Lib.hid (cell_below HRR2.out hb12)
                            clear hHeld3 HM HRm hb12 HK15
                            go_wp2_with fail
                            clear r2
                            go_loopw [71] (fun iv wu => ∃ m : Nat, iv = .int .i64 m ∧ m ≤ nc ∧ Hid (Below w12.heap.size w12 wu)) (fun iv _ => nc - (intOf iv).toNat)
                            case atStart => exact ⟨0, rfl, Nat.zero_le _, Below.refl _ _⟩
                            case round =>
                              rename World => wu
                              obtain ⟨m, rfl, hm, HBu⟩ := hrel
                              by_cases hmn : m < nc
                              · obtain ⟨co, hco⟩ : ∃ co, cs[m]? = some co := ⟨_, List.getElem?_eq_getElem (by have := HNc.out; omega)⟩
                                obtain ⟨b5, o5, hA5, hb5, hcell⟩ := (HCd.out.below HBu.out).one (fun _ => rfl) (by omega) (by omega)
                                subst hA5
                                obtain ⟨c0, c1, c2, c3⟩ := cond_cells hcell hco
                                obtain ⟨cb, cq, hA6, hb6, hcellr⟩ := (HCr.out.below HBu.out).one (fun _ => rfl) (by omega) (by omega)
                                subst hA6
                                obtain ⟨f0, f1, f2, f3⟩ := rcond_cells hcellr hco
                                have hcok := HOk.out.2.2.2 co (List.mem_of_getElem? hco)
                                have HH := Lib.hid (fun W => holds_any co.arg co.op co.mask co.val x W hcok.2.2.1 hcok.2.2.2.1 HXo.out)
                                have HRh := Lib.hid (fun W => refHolds_any co.arg co.op co.mask co.val x W hcok.2.2.1 hcok.2.2.2.1 HXo.out)
                                clear hcell hcellr hco hcok
                                obtain ⟨bh, hbh⟩ : ∃ b, b = holdB ⟨co.arg, co.op, co.mask, co.val⟩ x := ⟨_, rfl⟩
                                rw [← hbh] at HH HRh
                                have ebh : (bh != bh) = false := by simp
                                clear hbh
                                go_upto_region 20 with fail
                                have hbx := oneb wu (.cells #[.int .i64 co.arg, .int .u8 co.op, .int .u64 co.mask, .int .u64 co.val] 65)
                                have hkx := Bk.new wu 65 #[.int .i64 co.arg, .int .u8 co.op, .int .u64 co.mask, .int .u64 co.val] (l := [.int .i64 co.arg, .int .u8 co.op, .int .u64 co.mask, .int .u64 co.val]) rfl
                                clear c0 c1 c2 c3
                                generalize World.alloc wu _ = w13 at hbx hkx ⊢
                                have HB1213 := Lib.hid (HBu.out.trans (hbx.mono HBu.out.size))
                                have e0 := cell_below f0 hbx
                                have e1 := cell_below f1 hbx
                                have e2 := cell_below f2 hbx
                                have e3 := cell_below f3 hbx
                                clear f0 f1 f2 f3
                                generalize wu.heap.size = g17 at hkx ⊢
                                have k0 := hkx.cell 0 rfl
                                have k1 := hkx.cell 1 rfl
                                have k2 := hkx.cell 2 rfl
                                have k3 := hkx.cell 3 rfl
                                have y0 := (K13.out.kept HB1213.out).cell 0 rfl
                                have y1 := (K13.out.kept HB1213.out).cell 1 rfl
                                have y2 := (K13.out.kept HB1213.out).cell 2 rfl
                                have y3 := (K13.out.kept HB1213.out).cell 3 rfl
                                have y4 := (K13.out.kept HB1213.out).cell 4 rfl
                                have y5 := (K13.out.kept HB1213.out).cell 5 rfl
                                have y6 := (K13.out.kept HB1213.out).cell 6 rfl
                                have y7 := (K13.out.kept HB1213.out).cell 7 rfl
                                have y8 := (K13.out.kept HB1213.out).cell 8 rfl
                                have m2 := (K11.out.kept HB1213.out).cell 2 rfl
                                have rr2 := cell_below HRR2.out HB1213.out
                                have j0 : (0 : Int) ≤ (j : Int) := by omega
                                have j1 : (j : Int) < (nR : Int) := by omega
                                have m0 : (0 : Int) ≤ (m : Int) := by omega
                                have m1 : (m : Int) < (nc : Int) := by omega
                                clear hkx hbx
                                refine wp_region_held_drew (S := (fun w' => w'.cell? ⟨g17, 0, none⟩ = some (.int .i64 co.arg) ∧ w'.cell? ⟨g17, 1, none⟩ = some (.int .u8 co.op) ∧ w'.cell? ⟨g17, 2, none⟩ = some (.int .u64 co.mask) ∧ w'.cell? ⟨g17, 3, none⟩ = some (.int .u64 co.val) ∧ w'.cell? ⟨g13, 0, none⟩ = some (.int .u32 x.num) ∧ w'.cell? ⟨g13, 1, none⟩ = some (.int .u32 x.arch) ∧ w'.cell? ⟨g13, 2, none⟩ = some (.int .u64 x.at_) ∧ w'.cell? ⟨g13, 3, none⟩ = some (.int .u64 x.a0) ∧ w'.cell? ⟨g13, 4, none⟩ = some (.int .u64 x.a1) ∧ w'.cell? ⟨g13, 5, none⟩ = some (.int .u64 x.a2) ∧ w'.cell? ⟨g13, 6, none⟩ = some (.int .u64 x.a3) ∧ w'.cell? ⟨g13, 7, none⟩ = some (.int .u64 x.a4) ∧ w'.cell? ⟨g13, 8, none⟩ = some (.int .u64 x.a5) ∧ w'.cell? ⟨g11, 2, none⟩ = some (.slice (some ⟨rb, ro, none⟩) nR rRc) ∧ w'.cell? ⟨rb, ro + j * 3 + 2, none⟩ = some (.slice (some ⟨cb, cq, none⟩) nc d9) ∧ w'.cell? ⟨cb, cq + m * 4, none⟩ = some (.int .i64 co.arg) ∧ w'.cell? ⟨cb, cq + m * 4 + 1, none⟩ = some (.int .i64 co.op) ∧ w'.cell? ⟨cb, cq + m * 4 + 2, none⟩ = some (.int .u64 co.mask) ∧ w'.cell? ⟨cb, cq + m * 4 + 3, none⟩ = some (.int .u64 co.val) ∧ Hid (Below w13.heap.size w13 w'))) (by kernel_rfl) ?_ (fun hHeld0 => ?_)
                                · exact ⟨k0, k1, k2, k3, y0, y1, y2, y3, y4, y5, y6, y7, y8, m2, rr2, e0, e1, e2, e3, Lib.hid (Below.refl w13.heap.size w13).drew⟩
                                clear k0 k1 k2 k3 y0 y1 y2 y3 y4 y5 y6 y7 y8 m2 rr2 e0 e1 e2 e3
                                generalize w13.drew = vh0 at hHeld0 ⊢
                                refine wpAnyH_take (i := 0) (v := ?_) (by first | (simp only [List.getElem?_toArray, List.getElem?_cons_zero] <;> rfl) | rfl) (by kernel_rfl) (by kernel_rfl) (by kernel_rfl) (by exact fun _ _ _ h => h) (Or.inl ⟨by rfl, ?_⟩) hHeld0 ?_
                                rotate_left 1
                                · intro w hSw
                                  try dsimp only at hSw
                                  (go_simp) <;> (with_reducible rfl)
                                try simp only [Act.put, List.setIfInBounds_toArray, List.set_cons_zero, List.set_cons_succ]
                                refine wpAnyH_take (i := 1) (v := ?_) (by first | (simp only [List.getElem?_toArray, List.getElem?_cons_succ, List.getElem?_cons_zero] <;> rfl) | rfl) (by kernel_rfl) (by kernel_rfl) (by kernel_rfl) (by exact fun _ _ _ h => h) (Or.inl ⟨by rfl, ?_⟩) hHeld0 ?_
                                rotate_left 1
                                · intro w hSw
                                  try dsimp only at hSw
                                  (go_simp) <;> (with_reducible rfl)
                                try simp only [Act.put, List.setIfInBounds_toArray, List.set_cons_zero, List.set_cons_succ]
                                refine wpAnyH_take (i := 3) (v := ?_) (by first | (simp only [List.getElem?_toArray, List.getElem?_cons_succ, List.getElem?_cons_zero] <;> rfl) | rfl) (by kernel_rfl) (by kernel_rfl) (by kernel_rfl) (by exact fun _ _ _ h => h) (Or.inl ⟨by rfl, ?_⟩) hHeld0 ?_
                                rotate_left 1
                                · intro w hSw
                                  try dsimp only at hSw
                                  (go_simp) <;> (with_reducible rfl)
                                try simp only [Act.put, List.setIfInBounds_toArray, List.set_cons_zero, List.set_cons_succ]
                                refine wpAnyH_take (i := 4) (v := ?_) (by first | (simp only [List.getElem?_toArray, List.getElem?_cons_succ, List.getElem?_cons_zero] <;> rfl) | rfl) (by kernel_rfl) (by kernel_rfl) (by kernel_rfl) (by exact fun _ _ _ h => h) (Or.inl ⟨by rfl, ?_⟩) hHeld0 ?_
                                rotate_left 1
                                · intro w hSw
                                  try dsimp only at hSw
                                  (go_simp) <;> (with_reducible rfl)
                                try simp only [Act.put, List.setIfInBounds_toArray, List.set_cons_zero, List.set_cons_succ]
                                refine wpAnyH_take (i := 5) (v := ?_) (by first | (simp only [List.getElem?_toArray, List.getElem?_cons_succ, List.getElem?_cons_zero] <;> rfl) | rfl) (by kernel_rfl) (by kernel_rfl) (by kernel_rfl) (by exact fun _ _ _ h => h) (Or.inl ⟨by rfl, ?_⟩) hHeld0 ?_
                                rotate_left 1
                                · intro w hSw
                                  try dsimp only at hSw
                                  (go_simp) <;> (with_reducible rfl)
                                try simp only [Act.put, List.setIfInBounds_toArray, List.set_cons_zero, List.set_cons_succ]
                                refine wpAnyH_take (i := 6) (v := ?_) (by first | (simp only [List.getElem?_toArray, List.getElem?_cons_succ, List.getElem?_cons_zero] <;> rfl) | rfl) (by kernel_rfl) (by kernel_rfl) (by kernel_rfl) (by exact fun _ _ _ h => h) (Or.inl ⟨by rfl, ?_⟩) hHeld0 ?_
                                rotate_left 1
                                · intro w hSw
                                  try dsimp only at hSw
                                  (go_simp) <;> (with_reducible rfl)
                                try simp only [Act.put, List.setIfInBounds_toArray, List.set_cons_zero, List.set_cons_succ]
                                refine wpAnyH_take (i := 7) (v := ?_) (by first | (simp only [List.getElem?_toArray, List.getElem?_cons_succ, List.getElem?_cons_zero] <;> rfl) | rfl) (by kernel_rfl) (by kernel_rfl) (by kernel_rfl) (by exact fun _ _ _ h => h) (Or.inl ⟨by rfl, ?_⟩) hHeld0 ?_
                                rotate_left 1
                                · intro w hSw
                                  try dsimp only at hSw
                                  (go_simp) <;> (with_reducible rfl)
                                try simp only [Act.put, List.setIfInBounds_toArray, List.set_cons_zero, List.set_cons_succ]
                                refine wpAnyH_take (i := 8) (v := ?_) (by first | (simp only [List.getElem?_toArray, List.getElem?_cons_succ, List.getElem?_cons_zero] <;> rfl) | rfl) (by kernel_rfl) (by kernel_rfl) (by kernel_rfl) (by exact fun _ _ _ h => h) (Or.inl ⟨by rfl, ?_⟩) hHeld0 ?_
                                rotate_left 1
                                · intro w hSw
                                  try dsimp only at hSw
                                  (go_simp) <;> (with_reducible rfl)
                                try simp only [Act.put, List.setIfInBounds_toArray, List.set_cons_zero, List.set_cons_succ]
                                refine wpAnyH_take (i := 9) (v := ?_) (by first | (simp only [List.getElem?_toArray, List.getElem?_cons_succ, List.getElem?_cons_zero] <;> rfl) | rfl) (by kernel_rfl) (by kernel_rfl) (by kernel_rfl) (by exact fun _ _ _ h => h) (Or.inl ⟨by rfl, ?_⟩) hHeld0 ?_
                                rotate_left 1
                                · intro w hSw
                                  try dsimp only at hSw
                                  (go_simp) <;> (with_reducible rfl)
                                try simp only [Act.put, List.setIfInBounds_toArray, List.set_cons_zero, List.set_cons_succ]
                                refine wpAnyH_take (i := 10) (v := ?_) (by first | (simp only [List.getElem?_toArray, List.getElem?_cons_succ, List.getElem?_cons_zero] <;> rfl) | rfl) (by kernel_rfl) (by kernel_rfl) (by kernel_rfl) (by exact fun _ _ _ h => h) (Or.inl ⟨by rfl, ?_⟩) hHeld0 ?_
                                rotate_left 1
                                · intro w hSw
                                  try dsimp only at hSw
                                  (go_simp) <;> (with_reducible rfl)
                                try simp only [Act.put, List.setIfInBounds_toArray, List.set_cons_zero, List.set_cons_succ]
                                refine wpAnyH_take (i := 11) (v := ?_) (by first | (simp only [List.getElem?_toArray, List.getElem?_cons_succ, List.getElem?_cons_zero] <;> rfl) | rfl) (by kernel_rfl) (by kernel_rfl) (by kernel_rfl) (by exact fun _ _ _ h => h) (Or.inl ⟨by rfl, ?_⟩) hHeld0 ?_
                                rotate_left 1
                                · intro w hSw
                                  try dsimp only at hSw
                                  (go_simp) <;> (with_reducible rfl)
                                try simp only [Act.put, List.setIfInBounds_toArray, List.set_cons_zero, List.set_cons_succ]
                                refine wpAnyH_take (i := 12) (v := ?_) (by first | (simp only [List.getElem?_toArray, List.getElem?_cons_succ, List.getElem?_cons_zero] <;> rfl) | rfl) (by kernel_rfl) (by kernel_rfl) (by kernel_rfl) (by exact fun _ _ _ h => h) (Or.inl ⟨by rfl, ?_⟩) hHeld0 ?_
                                rotate_left 1
                                · intro w hSw
                                  try dsimp only at hSw
                                  (go_simp) <;> (with_reducible rfl)
                                try simp only [Act.put, List.setIfInBounds_toArray, List.set_cons_zero, List.set_cons_succ]
                                refine wpAnyH_ready (rs := [2]) (by kernel_rfl) (by simp) ?_
                                refine AllReadyH.cons (by first | (simp only [List.getElem?_toArray, List.getElem?_cons_succ, List.getElem?_cons_zero] <;> rfl) | rfl) (fun K hK => ?_) ?_
                                · go_simp
                                  refine (HH.out _).mono ?_
                                  rintro e vh1 ⟨rfl, hbb⟩
                                  refine hK.out _ _ ?_ (fun hHeld1 => ?_)
                                  · exact ⟨cell_below hHeld0.1 hbb, cell_below hHeld0.2.1 hbb, cell_below hHeld0.2.2.1 hbb, cell_below hHeld0.2.2.2.1 hbb, cell_below hHeld0.2.2.2.2.1 hbb, cell_below hHeld0.2.2.2.2.2.1 hbb, cell_below hHeld0.2.2.2.2.2.2.1 hbb, cell_below hHeld0.2.2.2.2.2.2.2.1 hbb, cell_below hHeld0.2.2.2.2.2.2.2.2.1 hbb, cell_below hHeld0.2.2.2.2.2.2.2.2.2.1 hbb, cell_below hHeld0.2.2.2.2.2.2.2.2.2.2.1 hbb, cell_below hHeld0.2.2.2.2.2.2.2.2.2.2.2.1 hbb, cell_below hHeld0.2.2.2.2.2.2.2.2.2.2.2.2.1 hbb, cell_below hHeld0.2.2.2.2.2.2.2.2.2.2.2.2.2.1 hbb, cell_below hHeld0.2.2.2.2.2.2.2.2.2.2.2.2.2.2.1 hbb, cell_below hHeld0.2.2.2.2.2.2.2.2.2.2.2.2.2.2.2.1 hbb, cell_below hHeld0.2.2.2.2.2.2.2.2.2.2.2.2.2.2.2.2.1 hbb, cell_below hHeld0.2.2.2.2.2.2.2.2.2.2.2.2.2.2.2.2.2.1 hbb, cell_below hHeld0.2.2.2.2.2.2.2.2.2.2.2.2.2.2.2.2.2.2.1 hbb, hHeld0.2.2.2.2.2.2.2.2.2.2.2.2.2.2.2.2.2.2.2.out.trans (hbb.mono hHeld0.2.2.2.2.2.2.2.2.2.2.2.2.2.2.2.2.2.2.2.out.size)⟩
                                  clear hK K
                                  clear hbb hHeld0
                                  try simp only [Act.put, List.setIfInBounds_toArray, List.set_cons_zero, List.set_cons_succ]
                                  refine wpAnyH_ready (rs := [13]) (by kernel_rfl) (by simp) ?_
                                  refine AllReadyH.cons (by first | (simp only [List.getElem?_toArray, List.getElem?_cons_succ, List.getElem?_cons_zero] <;> rfl) | rfl) (fun K hK => ?_) ?_
                                  · go_simp
                                    refine (seen_any x _).mono ?_
                                    rintro e vh2 ⟨rfl, hbb⟩
                                    refine hK.out _ _ ?_ (fun hHeld2 => ?_)
                                    · exact ⟨cell_below hHeld1.1 hbb, cell_below hHeld1.2.1 hbb, cell_below hHeld1.2.2.1 hbb, cell_below hHeld1.2.2.2.1 hbb, cell_below hHeld1.2.2.2.2.1 hbb, cell_below hHeld1.2.2.2.2.2.1 hbb, cell_below hHeld1.2.2.2.2.2.2.1 hbb, cell_below hHeld1.2.2.2.2.2.2.2.1 hbb, cell_below hHeld1.2.2.2.2.2.2.2.2.1 hbb, cell_below hHeld1.2.2.2.2.2.2.2.2.2.1 hbb, cell_below hHeld1.2.2.2.2.2.2.2.2.2.2.1 hbb, cell_below hHeld1.2.2.2.2.2.2.2.2.2.2.2.1 hbb, cell_below hHeld1.2.2.2.2.2.2.2.2.2.2.2.2.1 hbb, cell_below hHeld1.2.2.2.2.2.2.2.2.2.2.2.2.2.1 hbb, cell_below hHeld1.2.2.2.2.2.2.2.2.2.2.2.2.2.2.1 hbb, cell_below hHeld1.2.2.2.2.2.2.2.2.2.2.2.2.2.2.2.1 hbb, cell_below hHeld1.2.2.2.2.2.2.2.2.2.2.2.2.2.2.2.2.1 hbb, cell_below hHeld1.2.2.2.2.2.2.2.2.2.2.2.2.2.2.2.2.2.1 hbb, cell_below hHeld1.2.2.2.2.2.2.2.2.2.2.2.2.2.2.2.2.2.2.1 hbb, hHeld1.2.2.2.2.2.2.2.2.2.2.2.2.2.2.2.2.2.2.2.out.trans (hbb.mono hHeld1.2.2.2.2.2.2.2.2.2.2.2.2.2.2.2.2.2.2.2.out.size)⟩
                                    clear hK K
                                    clear hbb hHeld1
                                    try simp only [Act.put, List.setIfInBounds_toArray, List.set_cons_zero, List.set_cons_succ]
                                    refine wpAnyH_ready (rs := [14]) (by kernel_rfl) (by simp) ?_
                                    refine AllReadyH.cons (by first | (simp only [List.getElem?_toArray, List.getElem?_cons_succ, List.getElem?_cons_zero] <;> rfl) | rfl) (fun K hK => ?_) ?_
                                    · go_simp
                                      refine (HRh.out _).mono ?_
                                      rintro e vh3 ⟨rfl, hbb⟩
                                      refine hK.out _ _ ?_ (fun hHeld3 => ?_)
                                      · exact ⟨cell_below hHeld2.1 hbb, cell_below hHeld2.2.1 hbb, cell_below hHeld2.2.2.1 hbb, cell_below hHeld2.2.2.2.1 hbb, cell_below hHeld2.2.2.2.2.1 hbb, cell_below hHeld2.2.2.2.2.2.1 hbb, cell_below hHeld2.2.2.2.2.2.2.1 hbb, cell_below hHeld2.2.2.2.2.2.2.2.1 hbb, cell_below hHeld2.2.2.2.2.2.2.2.2.1 hbb, cell_below hHeld2.2.2.2.2.2.2.2.2.2.1 hbb, cell_below hHeld2.2.2.2.2.2.2.2.2.2.2.1 hbb, cell_below hHeld2.2.2.2.2.2.2.2.2.2.2.2.1 hbb, cell_below hHeld2.2.2.2.2.2.2.2.2.2.2.2.2.1 hbb, cell_below hHeld2.2.2.2.2.2.2.2.2.2.2.2.2.2.1 hbb, cell_below hHeld2.2.2.2.2.2.2.2.2.2.2.2.2.2.2.1 hbb, cell_below hHeld2.2.2.2.2.2.2.2.2.2.2.2.2.2.2.2.1 hbb, cell_below hHeld2.2.2.2.2.2.2.2.2.2.2.2.2.2.2.2.2.1 hbb, cell_below hHeld2.2.2.2.2.2.2.2.2.2.2.2.2.2.2.2.2.2.1 hbb, cell_below hHeld2.2.2.2.2.2.2.2.2.2.2.2.2.2.2.2.2.2.2.1 hbb, hHeld2.2.2.2.2.2.2.2.2.2.2.2.2.2.2.2.2.2.2.2.out.trans (hbb.mono hHeld2.2.2.2.2.2.2.2.2.2.2.2.2.2.2.2.2.2.2.2.out.size)⟩
                                      clear hK K
                                      clear hbb hHeld2
                                      try simp only [Act.put, List.setIfInBounds_toArray, List.set_cons_zero, List.set_cons_succ]
                                      refine wpAnyH_take (i := 15) (v := ?_) (by first | (simp only [List.getElem?_toArray, List.getElem?_cons_succ, List.getElem?_cons_zero] <;> rfl) | rfl) (by kernel_rfl) (by kernel_rfl) (by kernel_rfl) (by exact fun _ _ _ h => h) (Or.inl ⟨by rfl, ?_⟩) hHeld3 ?_
                                      rotate_left 1
                                      · intro w hSw
                                        try dsimp only at hSw
                                        (go_simp) <;> (with_reducible rfl)
                                      try simp only [Act.put, List.setIfInBounds_toArray, List.set_cons_zero, List.set_cons_succ]
                                      refine wpAnyH_done (by kernel_rfl) ?_ _
                                      rename World => wv
                                      have HBv := Lib.hid (HB1213.out.trans ((hHeld3.2.2.2.2.2.2.2.2.2.2.2.2.2.2.2.2.2.2.2.out).mono HB1213.out.size))
                                      clear hHeld3 HH HRh
                                      go_wp2_with fail
                                      go_roundw
                                      case rel => exact ⟨m + 1, by go_num, by omega, HBv⟩
                                      case measure => simp [intOf]; omega
                                    exact AllReadyH.nil
                                  exact AllReadyH.nil
                                exact AllReadyH.nil
                              · have HBz2 := Lib.hid (HB1012.out.trans (HBu.out.mono HB1012.out.size))
                                go_wp2_with fail
                                go_roundw
                                case rel => exact ⟨j + 1, by go_num, by omega, HBz2⟩
                                case measure => simp [intOf]; omega
                          exact AllReadyH.nil
                        exact AllReadyH.nil
                      exact AllReadyH.nil
                    · have HS := Lib.hid (fun W (h : Below wz.heap.size wz W) => says_any ⟨xn.toArray⟩ xd xr xRA nR xRc xh xPA nP xPc xQA nQ xQc x W HnR.out (by omega) ((HRR.out.below HBz.out).below h) HXo.out)
                      have HSr := Lib.hid (fun W (h : Below wz.heap.size wz W) => refSays_any ⟨xn.toArray⟩ xd rs rRA nR rRc xh rPA nP rPc rQA nQ rQc x W ((same_len HRm0.out).trans HnR.out) (by omega) ((HRr.out.below HBz.out).below h) HXo.out)
                      rw [HRm0.out] at HSr
                      obtain ⟨sv, hsv⟩ : ∃ s, s = saysR xd (xr.map RuleV.m) x := ⟨_, rfl⟩
                      rw [← hsv] at HS HSr
                      have esv : ((sv : Int) != (sv : Int)) = false := by simp
                      clear hsv
                      have k0 := (K10.out.kept HBz.out).cell 0 rfl
                      have k1 := (K10.out.kept HBz.out).cell 1 rfl
                      have k2 := (K10.out.kept HBz.out).cell 2 rfl
                      have k3 := (K10.out.kept HBz.out).cell 3 rfl
                      have k4 := (K10.out.kept HBz.out).cell 4 rfl
                      have k5 := (K10.out.kept HBz.out).cell 5 rfl
                      have y0 := (K13.out.kept HBz.out).cell 0 rfl
                      have y1 := (K13.out.kept HBz.out).cell 1 rfl
                      have y2 := (K13.out.kept HBz.out).cell 2 rfl
                      have y3 := (K13.out.kept HBz.out).cell 3 rfl
                      have y4 := (K13.out.kept HBz.out).cell 4 rfl
                      have y5 := (K13.out.kept HBz.out).cell 5 rfl
                      have y6 := (K13.out.kept HBz.out).cell 6 rfl
                      have y7 := (K13.out.kept HBz.out).cell 7 rfl
                      have y8 := (K13.out.kept HBz.out).cell 8 rfl
                      have e0 := (K11.out.kept HBz.out).cell 0 rfl
                      have e1 := (K11.out.kept HBz.out).cell 1 rfl
                      have e2 := (K11.out.kept HBz.out).cell 2 rfl
                      have e3 := (K11.out.kept HBz.out).cell 3 rfl
                      have e4 := (K11.out.kept HBz.out).cell 4 rfl
                      have e5 := (K11.out.kept HBz.out).cell 5 rfl
                      go_upto_region 24 with fail
                      refine wp_region_held_drew (S := (fun w' => w'.cell? ⟨g10, 0, none⟩ = some (.string ⟨xn.toArray⟩) ∧ w'.cell? ⟨g10, 1, none⟩ = some (.int .u32 xd) ∧ w'.cell? ⟨g10, 2, none⟩ = some (.slice xRA nR xRc) ∧ w'.cell? ⟨g10, 3, none⟩ = some (.int .u16 xh) ∧ w'.cell? ⟨g10, 4, none⟩ = some (.slice xPA nP xPc) ∧ w'.cell? ⟨g10, 5, none⟩ = some (.slice xQA nQ xQc) ∧ w'.cell? ⟨g13, 0, none⟩ = some (.int .u32 x.num) ∧ w'.cell? ⟨g13, 1, none⟩ = some (.int .u32 x.arch) ∧ w'.cell? ⟨g13, 2, none⟩ = some (.int .u64 x.at_) ∧ w'.cell? ⟨g13, 3, none⟩ = some (.int .u64 x.a0) ∧ w'.cell? ⟨g13, 4, none⟩ = some (.int .u64 x.a1) ∧ w'.cell? ⟨g13, 5, none⟩ = some (.int .u64 x.a2) ∧ w'.cell? ⟨g13, 6, none⟩ = some (.int .u64 x.a3) ∧ w'.cell? ⟨g13, 7, none⟩ = some (.int .u64 x.a4) ∧ w'.cell? ⟨g13, 8, none⟩ = some (.int .u64 x.a5) ∧ w'.cell? ⟨g11, 0, none⟩ = some (.string ⟨xn.toArray⟩) ∧ w'.cell? ⟨g11, 1, none⟩ = some (.int .u32 xd) ∧ w'.cell? ⟨g11, 2, none⟩ = some (.slice rRA nR rRc) ∧ w'.cell? ⟨g11, 3, none⟩ = some (.int .i64 xh) ∧ w'.cell? ⟨g11, 4, none⟩ = some (.slice rPA nP rPc) ∧ w'.cell? ⟨g11, 5, none⟩ = some (.slice rQA nQ rQc) ∧ Hid (Below wz.heap.size wz w'))) (by kernel_rfl) ?_ (fun hHeld0 => ?_)
                      · exact ⟨k0, k1, k2, k3, k4, k5, y0, y1, y2, y3, y4, y5, y6, y7, y8, e0, e1, e2, e3, e4, e5, Lib.hid (Below.refl wz.heap.size wz).drew⟩
                      clear k0 k1 k2 k3 k4 k5 y0 y1 y2 y3 y4 y5 y6 y7 y8 e0 e1 e2 e3 e4 e5
                      generalize wz.drew = vh0 at hHeld0 ⊢
                      refine wpAnyH_take (i := 0) (v := ?_) (by first | (simp only [List.getElem?_toArray, List.getElem?_cons_zero] <;> rfl) | rfl) (by kernel_rfl) (by kernel_rfl) (by kernel_rfl) (by exact fun _ _ _ h => h) (Or.inl ⟨by rfl, ?_⟩) hHeld0 ?_
                      rotate_left 1
                      · intro w hSw
                        try dsimp only at hSw
                        (go_simp) <;> (with_reducible rfl)
                      try simp only [Act.put, List.setIfInBounds_toArray, List.set_cons_zero, List.set_cons_succ]
                      refine wpAnyH_take (i := 1) (v := ?_) (by first | (simp only [List.getElem?_toArray, List.getElem?_cons_succ, List.getElem?_cons_zero] <;> rfl) | rfl) (by kernel_rfl) (by kernel_rfl) (by kernel_rfl) (by exact fun _ _ _ h => h) (Or.inl ⟨by rfl, ?_⟩) hHeld0 ?_
                      rotate_left 1
                      · intro w hSw
                        try dsimp only at hSw
                        (go_simp) <;> (with_reducible rfl)
                      try simp only [Act.put, List.setIfInBounds_toArray, List.set_cons_zero, List.set_cons_succ]
                      refine wpAnyH_take (i := 3) (v := ?_) (by first | (simp only [List.getElem?_toArray, List.getElem?_cons_succ, List.getElem?_cons_zero] <;> rfl) | rfl) (by kernel_rfl) (by kernel_rfl) (by kernel_rfl) (by exact fun _ _ _ h => h) (Or.inl ⟨by rfl, ?_⟩) hHeld0 ?_
                      rotate_left 1
                      · intro w hSw
                        try dsimp only at hSw
                        (go_simp) <;> (with_reducible rfl)
                      try simp only [Act.put, List.setIfInBounds_toArray, List.set_cons_zero, List.set_cons_succ]
                      refine wpAnyH_take (i := 4) (v := ?_) (by first | (simp only [List.getElem?_toArray, List.getElem?_cons_succ, List.getElem?_cons_zero] <;> rfl) | rfl) (by kernel_rfl) (by kernel_rfl) (by kernel_rfl) (by exact fun _ _ _ h => h) (Or.inl ⟨by rfl, ?_⟩) hHeld0 ?_
                      rotate_left 1
                      · intro w hSw
                        try dsimp only at hSw
                        (go_simp) <;> (with_reducible rfl)
                      try simp only [Act.put, List.setIfInBounds_toArray, List.set_cons_zero, List.set_cons_succ]
                      refine wpAnyH_ready (rs := [2]) (by kernel_rfl) (by simp) ?_
                      refine AllReadyH.cons (by first | (simp only [List.getElem?_toArray, List.getElem?_cons_succ, List.getElem?_cons_zero] <;> rfl) | rfl) (fun K hK => ?_) ?_
                      · go_simp
                        refine (HS.out _ (hHeld0.2.2.2.2.2.2.2.2.2.2.2.2.2.2.2.2.2.2.2.2.2.out)).mono ?_
                        rintro e vh1 ⟨rfl, hbb⟩
                        refine hK.out _ _ ?_ (fun hHeld1 => ?_)
                        · exact ⟨cell_below hHeld0.1 hbb, cell_below hHeld0.2.1 hbb, cell_below hHeld0.2.2.1 hbb, cell_below hHeld0.2.2.2.1 hbb, cell_below hHeld0.2.2.2.2.1 hbb, cell_below hHeld0.2.2.2.2.2.1 hbb, cell_below hHeld0.2.2.2.2.2.2.1 hbb, cell_below hHeld0.2.2.2.2.2.2.2.1 hbb, cell_below hHeld0.2.2.2.2.2.2.2.2.1 hbb, cell_below hHeld0.2.2.2.2.2.2.2.2.2.1 hbb, cell_below hHeld0.2.2.2.2.2.2.2.2.2.2.1 hbb, cell_below hHeld0.2.2.2.2.2.2.2.2.2.2.2.1 hbb, cell_below hHeld0.2.2.2.2.2.2.2.2.2.2.2.2.1 hbb, cell_below hHeld0.2.2.2.2.2.2.2.2.2.2.2.2.2.1 hbb, cell_below hHeld0.2.2.2.2.2.2.2.2.2.2.2.2.2.2.1 hbb, cell_below hHeld0.2.2.2.2.2.2.2.2.2.2.2.2.2.2.2.1 hbb, cell_below hHeld0.2.2.2.2.2.2.2.2.2.2.2.2.2.2.2.2.1 hbb, cell_below hHeld0.2.2.2.2.2.2.2.2.2.2.2.2.2.2.2.2.2.1 hbb, cell_below hHeld0.2.2.2.2.2.2.2.2.2.2.2.2.2.2.2.2.2.2.1 hbb, cell_below hHeld0.2.2.2.2.2.2.2.2.2.2.2.2.2.2.2.2.2.2.2.1 hbb, cell_below hHeld0.2.2.2.2.2.2.2.2.2.2.2.2.2.2.2.2.2.2.2.2.1 hbb, hHeld0.2.2.2.2.2.2.2.2.2.2.2.2.2.2.2.2.2.2.2.2.2.out.trans (hbb.mono hHeld0.2.2.2.2.2.2.2.2.2.2.2.2.2.2.2.2.2.2.2.2.2.out.size)⟩
                        clear hK K
                        clear hbb hHeld0
                        try simp only [Act.put, List.setIfInBounds_toArray, List.set_cons_zero, List.set_cons_succ]
                        refine wpAnyH_ready (rs := [5]) (by kernel_rfl) (by simp) ?_
                        refine AllReadyH.cons (by first | (simp only [List.getElem?_toArray, List.getElem?_cons_succ, List.getElem?_cons_zero] <;> rfl) | rfl) (fun K hK => ?_) ?_
                        · go_simp
                          refine (seen_any x _).mono ?_
                          rintro e vh2 ⟨rfl, hbb⟩
                          refine hK.out _ _ ?_ (fun hHeld2 => ?_)
                          · exact ⟨cell_below hHeld1.1 hbb, cell_below hHeld1.2.1 hbb, cell_below hHeld1.2.2.1 hbb, cell_below hHeld1.2.2.2.1 hbb, cell_below hHeld1.2.2.2.2.1 hbb, cell_below hHeld1.2.2.2.2.2.1 hbb, cell_below hHeld1.2.2.2.2.2.2.1 hbb, cell_below hHeld1.2.2.2.2.2.2.2.1 hbb, cell_below hHeld1.2.2.2.2.2.2.2.2.1 hbb, cell_below hHeld1.2.2.2.2.2.2.2.2.2.1 hbb, cell_below hHeld1.2.2.2.2.2.2.2.2.2.2.1 hbb, cell_below hHeld1.2.2.2.2.2.2.2.2.2.2.2.1 hbb, cell_below hHeld1.2.2.2.2.2.2.2.2.2.2.2.2.1 hbb, cell_below hHeld1.2.2.2.2.2.2.2.2.2.2.2.2.2.1 hbb, cell_below hHeld1.2.2.2.2.2.2.2.2.2.2.2.2.2.2.1 hbb, cell_below hHeld1.2.2.2.2.2.2.2.2.2.2.2.2.2.2.2.1 hbb, cell_below hHeld1.2.2.2.2.2.2.2.2.2.2.2.2.2.2.2.2.1 hbb, cell_below hHeld1.2.2.2.2.2.2.2.2.2.2.2.2.2.2.2.2.2.1 hbb, cell_below hHeld1.2.2.2.2.2.2.2.2.2.2.2.2.2.2.2.2.2.2.1 hbb, cell_below hHeld1.2.2.2.2.2.2.2.2.2.2.2.2.2.2.2.2.2.2.2.1 hbb, cell_below hHeld1.2.2.2.2.2.2.2.2.2.2.2.2.2.2.2.2.2.2.2.2.1 hbb, hHeld1.2.2.2.2.2.2.2.2.2.2.2.2.2.2.2.2.2.2.2.2.2.out.trans (hbb.mono hHeld1.2.2.2.2.2.2.2.2.2.2.2.2.2.2.2.2.2.2.2.2.2.out.size)⟩
                          clear hK K
                          clear hbb hHeld1
                          try simp only [Act.put, List.setIfInBounds_toArray, List.set_cons_zero, List.set_cons_succ]
                          refine wpAnyH_ready (rs := [6]) (by kernel_rfl) (by simp) ?_
                          refine AllReadyH.cons (by first | (simp only [List.getElem?_toArray, List.getElem?_cons_succ, List.getElem?_cons_zero] <;> rfl) | rfl) (fun K hK => ?_) ?_
                          · go_simp
                            refine (HSr.out _ (hHeld2.2.2.2.2.2.2.2.2.2.2.2.2.2.2.2.2.2.2.2.2.2.out)).mono ?_
                            rintro e vh3 ⟨rfl, hbb⟩
                            refine hK.out _ _ ?_ (fun hHeld3 => ?_)
                            · exact ⟨cell_below hHeld2.1 hbb, cell_below hHeld2.2.1 hbb, cell_below hHeld2.2.2.1 hbb, cell_below hHeld2.2.2.2.1 hbb, cell_below hHeld2.2.2.2.2.1 hbb, cell_below hHeld2.2.2.2.2.2.1 hbb, cell_below hHeld2.2.2.2.2.2.2.1 hbb, cell_below hHeld2.2.2.2.2.2.2.2.1 hbb, cell_below hHeld2.2.2.2.2.2.2.2.2.1 hbb, cell_below hHeld2.2.2.2.2.2.2.2.2.2.1 hbb, cell_below hHeld2.2.2.2.2.2.2.2.2.2.2.1 hbb, cell_below hHeld2.2.2.2.2.2.2.2.2.2.2.2.1 hbb, cell_below hHeld2.2.2.2.2.2.2.2.2.2.2.2.2.1 hbb, cell_below hHeld2.2.2.2.2.2.2.2.2.2.2.2.2.2.1 hbb, cell_below hHeld2.2.2.2.2.2.2.2.2.2.2.2.2.2.2.1 hbb, cell_below hHeld2.2.2.2.2.2.2.2.2.2.2.2.2.2.2.2.1 hbb, cell_below hHeld2.2.2.2.2.2.2.2.2.2.2.2.2.2.2.2.2.1 hbb, cell_below hHeld2.2.2.2.2.2.2.2.2.2.2.2.2.2.2.2.2.2.1 hbb, cell_below hHeld2.2.2.2.2.2.2.2.2.2.2.2.2.2.2.2.2.2.2.1 hbb, cell_below hHeld2.2.2.2.2.2.2.2.2.2.2.2.2.2.2.2.2.2.2.2.1 hbb, cell_below hHeld2.2.2.2.2.2.2.2.2.2.2.2.2.2.2.2.2.2.2.2.2.1 hbb, hHeld2.2.2.2.2.2.2.2.2.2.2.2.2.2.2.2.2.2.2.2.2.2.out.trans (hbb.mono hHeld2.2.2.2.2.2.2.2.2.2.2.2.2.2.2.2.2.2.2.2.2.2.out.size)⟩
                            clear hK K
                            clear hbb hHeld2
                            try simp only [Act.put, List.setIfInBounds_toArray, List.set_cons_zero, List.set_cons_succ]
                            refine wpAnyH_take (i := 7) (v := ?_) (by first | (simp only [List.getElem?_toArray, List.getElem?_cons_succ, List.getElem?_cons_zero] <;> rfl) | rfl) (by kernel_rfl) (by kernel_rfl) (by kernel_rfl) (by exact fun _ _ _ h => h) (Or.inl ⟨by rfl, ?_⟩) hHeld3 ?_
                            rotate_left 1
                            · intro w hSw
                              try dsimp only at hSw
                              (go_simp) <;> (with_reducible rfl)
                            try simp only [Act.put, List.setIfInBounds_toArray, List.set_cons_zero, List.set_cons_succ]
                            refine wpAnyH_done (by kernel_rfl) ?_ _
                            rename World => wv
                            have HBv := Lib.hid (HB910.out.trans ((HBz.out.trans ((hHeld3.2.2.2.2.2.2.2.2.2.2.2.2.2.2.2.2.2.2.2.2.2.out).mono HBz.out.size)).mono HB910.out.size))
                            clear hHeld3 HS HSr
                            go_wp2_with fail
                            go_roundw
                            case rel => exact ⟨i + 1, by go_num, by omega, HBv⟩
                            case measure => simp [intOf]; omega
                          exact AllReadyH.nil
                        exact AllReadyH.nil
                      exact AllReadyH.nil
                · have HBy2 := Lib.hid (HB59.out.trans (HBy.out.mono HB59.out.size))
                  go_wp2_with fail
                  go_roundw
                  case rel => exact ⟨k + 1, by go_num, by omega, HBy2⟩
                  case measure => simp [intOf]; omega
            · go_wp2_with fail
              go_ret
              exact ⟨rfl, HB5.out.trans (HBr.out.mono HB5.out.size)⟩
        exact AllReadyH.nil
      exact AllReadyH.nil
end Go.Proofs.Ytcioekokgpdhcaa.Me
