/- What no policy says; the document's answer of what policies say together. -/
import Derived.Test.YtagbamengcnfeaaMeB
namespace Go.Proofs.Ytagbamengcnfeaa.Me
open Go.RowKit Go.Shelf Go.WideElems
attribute [local go_sem] Oper.semAt_some
set_option maxRecDepth 100000 in
set_option maxHeartbeats 2000000 in
theorem back0 (m : Nat) (_hm : 1 ≤ m) (L Bs cap : Nat) (J Jx : List (At 0) → World → Prop) (W : World) (hBs : W.cell? ⟨Bs, 0, none⟩ = some (.slice none 0 cap)) (h0 : J [] W) :
    CallsIn Fence.wide m Try.prog 47 #[.func (.yield L) #[] #[], .pointer (some ⟨Bs, 0, none⟩)] W fun e W' => (∃ v, e = .returned v) ∧
      ((∃ ys, ys = [] ∧ J ys W') ∨ (∃ pre, True ∧ Jx pre W')) := by
  have H0 := Lib.hid h0
  clear h0
  refine callsIn_of_wp Try.func47 rfl trivial ?_ rfl
  simp only [Try.ntmps47, List.size_toArray, List.length_cons, List.length_nil, Nat.reduceAdd, Nat.reduceSub, Array.replicate_succ, Array.replicate_zero, List.push_toArray, List.append_toArray, List.nil_append, List.cons_append]
  gi_wp2
  gi_loopw [3] (fun i wr => i = .int .i64 (-1) ∧ Hid (J [] wr)) (fun _ _ => 0)
  case atStart => exact ⟨rfl, H0⟩
  case round =>
    obtain ⟨rfl, HJ⟩ := hrel
    gi_wp2
    go_end0
    exact ⟨⟨_, rfl⟩, .inl ⟨_, rfl, HJ.out⟩⟩
set_option maxRecDepth 100000 in
set_option maxHeartbeats 4000000 in
theorem mall_nil (R : List Value) (w : World) (cap : Nat) :
    Calls Try.prog 13 #[.slice none 0 cap, .agg R.toArray] w (RetU 2147418112 w) := by
  refine (callsIn_wide (n := 8)).1 ?_
  refine callsIn_of_wp_marks Try.func13 rfl trivial ?_ rfl
  simp only [Try.ntmps13, List.size_toArray, List.length_cons, List.length_nil, Nat.reduceAdd, Nat.reduceSub, Array.replicate_succ, Array.replicate_zero, List.push_toArray, List.append_toArray, List.nil_append, List.cons_append]
  gi_wp2_with (first | (refine ⟨trivial, ?_⟩; gi_at_call 34; refine (backward_in _ _ _ _ _).mono ?_; rintro e w' ⟨rfl, rfl⟩))
  have h2 := Bk.new (l := [.int .u32 2147418112]) (w.alloc (.cells R.toArray 33)) 37 #[.int .u32 2147418112] rfl
  have h3 := Boxed.new ((w.alloc (.cells R.toArray 33)).alloc (.cells #[.int .u32 2147418112] 37)) 35 (.slice none 0 cap)
  have hb := (((Below.refl w.heap.size w).alloc (Nat.le_refl _) (.cells R.toArray 33)).alloc (by simp) (.cells #[.int .u32 2147418112] 37)).alloc (by simp; omega) (.cells #[.slice none 0 cap] 35)
  simp only [World.size_alloc] at h2 h3
  have H2 := Lib.hid (h2.alloc (.cells #[.slice none 0 cap] 35))
  have H3 := Lib.hid h3
  have HB := Lib.hid hb
  have hsz : (((w.alloc (.cells R.toArray 33)).alloc (.cells #[.int .u32 2147418112] 37)).alloc (.cells #[.slice none 0 cap] 35)).heap.size = w.heap.size + 3 := by simp
  clear h2 h3 hb
  revert H2 H3 HB hsz
  generalize (((w.alloc (.cells R.toArray 33)).alloc (.cells #[.int .u32 2147418112] 37)).alloc (.cells #[.slice none 0 cap] 35)) = W0
  rw [show w.heap.size + 1 + 1 = w.heap.size + 2 from rfl]
  intro H2 H3 HB hsz
  refine wpIn_rangeFunc_ownH (α := At 0) (encs := handed [] 0) (Kp := KB w.heap.size (w.heap.size + 2)) (S := fun ys => ys = []) (Sp := fun _ => True) (N := 0) (w0 := W0) rfl (by omega) (gf := 47) (lb := #[.pointer (some ⟨w.heap.size + 2, 0, none⟩)]) rfl trivial (enters_of Try.func47 (by kernel_rfl) rfl)
    (fun L J Jx W hW _ _ _ h0 => back0 7 (by omega) L (w.heap.size + 2) cap J Jx W ((hW.cell (p := ⟨w.heap.size + 2, 0, none⟩) (by show w.heap.size + 2 < W0.heap.size; omega)).trans H3.out.cell) h0) KB.trans (kb_put (by omega) (by omega)) (Below.refl _ _) (fun _ => rfl)
    (fun _ W => Bk W (w.heap.size + 1) 37 [.int .u32 2147418112] ∧ Below w.heap.size w W) (fun _ _ _ => False)
    (OwnFrom.and (Own.from (bk_ownG _ _ (fun _ => _)) _) (ownFrom_below (Nat.le_refl _) (by omega)))
    (fun _ _ _ _ _ hs _ _ => hs)
    ⟨H2.out, HB.out⟩
    (fun _ _ _ => False)
    (fun _ _ _ _ _ _ hs _ _ => hs)
    ?assign ?body ?done ?stop
  case assign =>
    intro L pre x
    exact absurd x.2 (Nat.not_lt_zero _)
  case body =>
    intro L pre x
    exact absurd x.2 (Nat.not_lt_zero _)
  case done =>
    rintro D' ys W hD' rfl ⟨b2, hbel⟩ hK
    have cX := b2.cell 0 rfl
    gi_wp2
    refine ⟨by simp, .inl ⟨_, _, rfl, run_takeDeferred hK, ?_⟩⟩
    exact ⟨_, results_tmp rfl _ _ _, rfl, hbel.trans (belowK_b (w := w) (Nat.le_refl _) W D' _ _ (by omega) hK rfl rfl)⟩
  case stop =>
    rintro D' c pre W _ _ h _
    exact h.elim
theorem six_rat {w : World} {b off k : Nat} {l : List PolV} {x : PolV} (h : ∀ j u, (l.flatMap PolV.rcells)[j]? = some u → w.cell? ⟨b, off + j, none⟩ = some u) (hx : l[k]? = some x) :
    w.cell? ⟨b, off + k * 6, none⟩ = some (.string ⟨x.name.toArray⟩) ∧ w.cell? ⟨b, off + k * 6 + 1, none⟩ = some (.int .u32 x.dflt) ∧ w.cell? ⟨b, off + k * 6 + 2, none⟩ = some (.slice x.RA x.rules.length x.Rc) ∧ w.cell? ⟨b, off + k * 6 + 3, none⟩ = some (.int .i64 x.handled) ∧ w.cell? ⟨b, off + k * 6 + 4, none⟩ = some (.slice x.PA x.paths.length x.Pc) ∧ w.cell? ⟨b, off + k * 6 + 5, none⟩ = some (.slice x.QA x.ports.length x.Qc) := by
  have hj := fun (j : Nat) (v : Value) (hv : (PolV.rcells x)[j]? = some v) (hj6 : j < 6) => h (k * 6 + j) v (by rw [flatz PolV.rcells 6 (fun _ => rfl) (by omega) l k j hj6, hx]; exact hv)
  simp only [← Nat.add_assoc] at hj
  exact ⟨hj 0 _ rfl (by omega), hj 1 _ rfl (by omega), hj 2 _ rfl (by omega), hj 3 _ rfl (by omega), hj 4 _ rfl (by omega), hj 5 _ rfl (by omega)⟩
theorem allR_drop (l : List PolV) (x : RcM) (k : Nat) (p : PolV) (h : l[k]? = some p) : allR ((l.drop k).map pm) x = Rec.stg (allR ((l.drop (k + 1)).map pm) x) (saysR p.dflt (p.rules.map RuleV.m) x) := by
  obtain ⟨h1, h2⟩ := List.getElem?_eq_some_iff.1 h
  rw [List.drop_eq_getElem_cons h1, h2]; rfl
set_option maxRecDepth 100000 in
set_option maxHeartbeats 8000000 in
theorem refAll_any (x : RcM) (l : List PolV) (n cap : Nat) (A : Option Addr) (w : World) (hl : l.length = n) (hn : n ≤ 1000) (hx : x.ok) (hr : ∀ p ∈ l, RRr w p.rules p.RA ∧ p.rules.length ≤ 1000) (hd : ∀ p ∈ l, p.dflt < 4294967296) (hR : Rd w 6 n A (l.flatMap PolV.rcells)) :
    Calls Try.prog 14 #[.slice A n cap, .agg #[.int .u32 x.num, .int .u32 x.arch, .int .u64 x.a0, .int .u64 x.a1, .int .u64 x.a2, .int .u64 x.a3, .int .u64 x.a4, .int .u64 x.a5]] w (RetU (allR (l.map pm) x) w) := by
  have hk1 := Bk.new w 56 #[.int .u32 x.num, .int .u32 x.arch, .int .u64 x.a0, .int .u64 x.a1, .int .u64 x.a2, .int .u64 x.a3, .int .u64 x.a4, .int .u64 x.a5] (l := x.seen) rfl
  have hb := oneb w (.cells #[.int .u32 x.num, .int .u32 x.arch, .int .u64 x.a0, .int .u64 x.a1, .int .u64 x.a2, .int .u64 x.a3, .int .u64 x.a4, .int .u64 x.a5] 56)
  have HSy := Lib.hid (fun (p : PolV) (hp : p ∈ l) W (h : Below w.heap.size w W) => refSays_any ⟨p.name.toArray⟩ p.dflt p.rules p.RA p.rules.length p.Rc p.handled p.PA p.paths.length p.Pc p.QA p.ports.length p.Qc x W rfl (hr p hp).2 ((hr p hp).1.below h) hx)
  have HLt := Lib.hid (fun (p : PolV) (hp : p ∈ l) => (says_ltM (x := x) (hd p hp) (hr p hp).1.ok : saysR p.dflt (p.rules.map RuleV.m) x < 4294967296))
  have HR := Lib.hid hR
  have HL := Lib.hid hl
  clear hr hd hR hl hx
  go_enter Try.func14, Try.ntmps14
  go_upto_region 1 with fail
  generalize World.alloc w _ = w2 at hk1 hb ⊢
  have HB2 := Lib.hid hb
  have HK1 := Lib.hid hk1
  clear hk1 hb
  go_wp2_with fail
  go_loopw [5, 6] (fun ov iv wr => ∃ (p : Nat) (z : Int) (o : Nat), p ≤ n ∧ z + 1 = p ∧ iv = .int .i64 z ∧ ov = .int .u32 o ∧ Hid (o = allR ((l.drop p).map pm) x ∧ o < 4294967296) ∧ Hid (Below w2.heap.size w2 wr)) (fun _ iv _ => (intOf iv + 1).toNat)
  case atStart => exact ⟨n, (n : Int) - 1, 2147418112, Nat.le_refl _, by omega, rfl, rfl, Lib.hid ⟨by rw [← HL.out, List.drop_length]; rfl, by omega⟩, Below.refl _ _⟩
  case round =>
    obtain ⟨p, z, o, hp, hz, rfl, rfl, HO, HBr⟩ := hrel
    by_cases hlt : 0 < p
    · obtain ⟨q, rfl⟩ : ∃ q, p = q + 1 := ⟨p - 1, by omega⟩
      obtain rfl : z = (q : Int) := by omega
      obtain ⟨y, hy⟩ : ∃ y, l[q]? = some y := ⟨_, List.getElem?_eq_getElem (by have := HL.out; omega)⟩
      have hmem := List.mem_of_getElem? hy
      have HBw := Lib.hid (HB2.out.trans (HBr.out.mono HB2.out.size))
      obtain ⟨b, off, rfl, hbl, hcell⟩ := (HR.out.below HBw.out).pos (by omega)
      obtain ⟨e0, e1, e2, e3, e4, e5⟩ := six_rat hcell hy
      have Hsy := Lib.hid (HSy.out y hmem)
      have Hy := Lib.hid (HLt.out y hmem)
      have Hst := Lib.hid (allR_drop l x q y hy)
      obtain ⟨pnm, pdf, prs, pRA, pRc, phd, pps, pPA, pPc, pqs, pQA, pQc⟩ := y
      simp only at e0 e1 e2 e3 e4 e5
      dsimp only at Hsy Hy Hst
      obtain ⟨y, hyy⟩ : ∃ y, y = saysR pdf (prs.map RuleV.m) x := ⟨_, rfl⟩
      rw [← hyy] at Hsy Hy Hst
      have HO1 := Lib.hid HO.out.1
      rw [← HO1.out] at Hst
      have HSt := Lib.hid (Rec.refStronger_any o y)
      have hq0 : (0 : Int) ≤ (q : Int) := by omega
      have hqn : (q : Int) < (n : Int) := by omega
      have wq1 : IntKind.i64.wrap (q : Int) = (q : Int) := IntWalk.i64_in _ (by omega)
      have wq2 : ((q : Int)).toNat = q := by omega
      have k0 := (HK1.out.kept HBr.out).cell 0 rfl
      have k1 := (HK1.out.kept HBr.out).cell 1 rfl
      have k2 := (HK1.out.kept HBr.out).cell 2 rfl
      have k3 := (HK1.out.kept HBr.out).cell 3 rfl
      have k4 := (HK1.out.kept HBr.out).cell 4 rfl
      have k5 := (HK1.out.kept HBr.out).cell 5 rfl
      have k6 := (HK1.out.kept HBr.out).cell 6 rfl
      have k7 := (HK1.out.kept HBr.out).cell 7 rfl
      clear hyy hy hmem hcell hz
      have HmkS := Lib.hid (fun V (h : Below wr.heap.size wr V) => (show (fun V' => V'.cell? ⟨b, off + q * 6, none⟩ = some (.string ⟨pnm.toArray⟩) ∧ V'.cell? ⟨b, off + q * 6 + 1, none⟩ = some (.int .u32 pdf) ∧ V'.cell? ⟨b, off + q * 6 + 2, none⟩ = some (.slice pRA prs.length pRc) ∧ V'.cell? ⟨b, off + q * 6 + 3, none⟩ = some (.int .i64 phd) ∧ V'.cell? ⟨b, off + q * 6 + 4, none⟩ = some (.slice pPA pps.length pPc) ∧ V'.cell? ⟨b, off + q * 6 + 5, none⟩ = some (.slice pQA pqs.length pQc) ∧ V'.cell? ⟨w.heap.size, 0, none⟩ = some (.int .u32 x.num) ∧ V'.cell? ⟨w.heap.size, 1, none⟩ = some (.int .u32 x.arch) ∧ V'.cell? ⟨w.heap.size, 2, none⟩ = some (.int .u64 x.a0) ∧ V'.cell? ⟨w.heap.size, 3, none⟩ = some (.int .u64 x.a1) ∧ V'.cell? ⟨w.heap.size, 4, none⟩ = some (.int .u64 x.a2) ∧ V'.cell? ⟨w.heap.size, 5, none⟩ = some (.int .u64 x.a3) ∧ V'.cell? ⟨w.heap.size, 6, none⟩ = some (.int .u64 x.a4) ∧ V'.cell? ⟨w.heap.size, 7, none⟩ = some (.int .u64 x.a5)) V from ⟨cell_below e0 h, cell_below e1 h, cell_below e2 h, cell_below e3 h, cell_below e4 h, cell_below e5 h, cell_below k0 h, cell_below k1 h, cell_below k2 h, cell_below k3 h, cell_below k4 h, cell_below k5 h, cell_below k6 h, cell_below k7 h⟩))
      have HE := Lib.hid (And.intro e0 (And.intro e1 (And.intro e2 (And.intro e3 (And.intro e4 e5)))))
      go_upto_region 5 with fail
      refine wp_region_held_drew (S := (fun V' => V'.cell? ⟨b, off + q * 6, none⟩ = some (.string ⟨pnm.toArray⟩) ∧ V'.cell? ⟨b, off + q * 6 + 1, none⟩ = some (.int .u32 pdf) ∧ V'.cell? ⟨b, off + q * 6 + 2, none⟩ = some (.slice pRA prs.length pRc) ∧ V'.cell? ⟨b, off + q * 6 + 3, none⟩ = some (.int .i64 phd) ∧ V'.cell? ⟨b, off + q * 6 + 4, none⟩ = some (.slice pPA pps.length pPc) ∧ V'.cell? ⟨b, off + q * 6 + 5, none⟩ = some (.slice pQA pqs.length pQc) ∧ V'.cell? ⟨w.heap.size, 0, none⟩ = some (.int .u32 x.num) ∧ V'.cell? ⟨w.heap.size, 1, none⟩ = some (.int .u32 x.arch) ∧ V'.cell? ⟨w.heap.size, 2, none⟩ = some (.int .u64 x.a0) ∧ V'.cell? ⟨w.heap.size, 3, none⟩ = some (.int .u64 x.a1) ∧ V'.cell? ⟨w.heap.size, 4, none⟩ = some (.int .u64 x.a2) ∧ V'.cell? ⟨w.heap.size, 5, none⟩ = some (.int .u64 x.a3) ∧ V'.cell? ⟨w.heap.size, 6, none⟩ = some (.int .u64 x.a4) ∧ V'.cell? ⟨w.heap.size, 7, none⟩ = some (.int .u64 x.a5))) (by kernel_rfl) ?_ (fun hHeld0 => ?_)
      · exact HmkS.out _ (Below.refl wr.heap.size wr).drew
      have HBv := Lib.hid (Below.refl wr.heap.size wr).drew
      clear e0 e1 e2 e3 e4 e5 k0 k1 k2 k3 k4 k5 k6 k7
      generalize wr.drew = vh0 at hHeld0 HBv ⊢
      refine wpAnyH_take (i := 0) (v := ?_) (by first | (simp only [List.getElem?_toArray, List.getElem?_cons_zero] <;> rfl) | rfl) (by kernel_rfl) (by kernel_rfl) (by kernel_rfl) (by exact fun _ _ _ h => h) (Or.inl ⟨by rfl, ?_⟩) hHeld0 ?_
      rotate_left 1
      · intro w hSw
        try dsimp only at hSw
        (go_simp) <;> (with_reducible rfl)
      try simp only [Act.put, List.setIfInBounds_toArray, List.set_cons_zero, List.set_cons_succ]
      refine wpAnyH_take (i := 1) (v := ?_) (by first | (simp only [List.getElem?_toArray, List.getElem?_cons_succ, List.getElem?_cons_zero] <;> rfl) | rfl) (by kernel_rfl) (by kernel_rfl) (by kernel_rfl) (by exact fun _ _ _ h => h) (Or.inl ⟨by rfl, ?_⟩) hHeld0 ?_
      rotate_left 1
      · intro w hSw
        try dsimp only at hSw
        (go_simp) <;> (with_reducible rfl)
      try simp only [Act.put, List.setIfInBounds_toArray, List.set_cons_zero, List.set_cons_succ]
      refine wpAnyH_take (i := 2) (v := ?_) (by first | (simp only [List.getElem?_toArray, List.getElem?_cons_succ, List.getElem?_cons_zero] <;> rfl) | rfl) (by kernel_rfl) (by kernel_rfl) (by kernel_rfl) (by exact fun _ _ _ h => h) (Or.inl ⟨by rfl, ?_⟩) hHeld0 ?_
      rotate_left 1
      · intro w hSw
        try dsimp only at hSw
        (go_simp) <;> (with_reducible rfl)
      try simp only [Act.put, List.setIfInBounds_toArray, List.set_cons_zero, List.set_cons_succ]
      refine wpAnyH_take (i := 3) (v := ?_) (by first | (simp only [List.getElem?_toArray, List.getElem?_cons_succ, List.getElem?_cons_zero] <;> rfl) | rfl) (by kernel_rfl) (by kernel_rfl) (by kernel_rfl) (by exact fun _ _ _ h => h) (Or.inl ⟨by rfl, ?_⟩) hHeld0 ?_
      rotate_left 1
      · intro w hSw
        try dsimp only at hSw
        (go_simp) <;> (with_reducible rfl)
      try simp only [Act.put, List.setIfInBounds_toArray, List.set_cons_zero, List.set_cons_succ]
      refine wpAnyH_take (i := 4) (v := ?_) (by first | (simp only [List.getElem?_toArray, List.getElem?_cons_succ, List.getElem?_cons_zero] <;> rfl) | rfl) (by kernel_rfl) (by kernel_rfl) (by kernel_rfl) (by exact fun _ _ _ h => h) (Or.inl ⟨by rfl, ?_⟩) hHeld0 ?_
      rotate_left 1
      · intro w hSw
        try dsimp only at hSw
        (go_simp) <;> (with_reducible rfl)
      try simp only [Act.put, List.setIfInBounds_toArray, List.set_cons_zero, List.set_cons_succ]
      refine wpAnyH_take (i := 5) (v := ?_) (by first | (simp only [List.getElem?_toArray, List.getElem?_cons_succ, List.getElem?_cons_zero] <;> rfl) | rfl) (by kernel_rfl) (by kernel_rfl) (by kernel_rfl) (by exact fun _ _ _ h => h) (Or.inl ⟨by rfl, ?_⟩) hHeld0 ?_
      rotate_left 1
      · intro w hSw
        try dsimp only at hSw
        (go_simp) <;> (with_reducible rfl)
      try simp only [Act.put, List.setIfInBounds_toArray, List.set_cons_zero, List.set_cons_succ]
      refine wpAnyH_ready (rs := [6]) (by kernel_rfl) (by simp) ?_
      refine AllReadyH.cons (by first | (simp only [List.getElem?_toArray, List.getElem?_cons_succ, List.getElem?_cons_zero] <;> rfl) | rfl) (fun K hK => ?_) ?_
      · skip
        go_simp
        refine (Hsy.out _ (HBw.out.trans (HBv.out.mono HBw.out.size))).mono ?_
        rintro e wc ⟨rfl, hbc⟩
        have HBv := Lib.hid (HBv.out.trans (hbc.mono HBv.out.size))
        clear hbc
        refine hK.out _ _ (HmkS.out _ HBv.out) (fun hHeld1 => ?_)
        clear hK K hHeld0
        try simp only [Act.put, List.setIfInBounds_toArray, List.set_cons_zero, List.set_cons_succ]
        refine wpAnyH_ready (rs := [7]) (by kernel_rfl) (by simp) ?_
        refine AllReadyH.cons (by first | (simp only [List.getElem?_toArray, List.getElem?_cons_succ, List.getElem?_cons_zero] <;> rfl) | rfl) (fun K hK => ?_) ?_
        · skip
          go_simp
          refine (HSt.out _ HO.out.2 Hy.out).mono ?_
          rintro e wd ⟨rfl, rfl⟩
          refine hK.out _ _ hHeld1 (fun hHeld2 => ?_)
          clear hK K hHeld1
          try simp only [Act.put, List.setIfInBounds_toArray, List.set_cons_zero, List.set_cons_succ]
          refine wpAnyH_take (i := 8) (v := ?_) (by first | (simp only [List.getElem?_toArray, List.getElem?_cons_succ, List.getElem?_cons_zero] <;> rfl) | rfl) (by kernel_rfl) (by kernel_rfl) (by kernel_rfl) (by exact fun _ _ _ h => h) (Or.inl ⟨by rfl, ?_⟩) hHeld2 ?_
          rotate_left 1
          · intro w hSw
            try dsimp only at hSw
            (go_simp) <;> (with_reducible rfl)
          try simp only [Act.put, List.setIfInBounds_toArray, List.set_cons_zero, List.set_cons_succ]
          refine wpAnyH_done (by kernel_rfl) ?_ _
          clear hHeld2
          go_wp2_with fail
          go_roundw
          case rel => exact ⟨q, (q : Int) - 1, Rec.stg o y, by omega, by omega, by go_num, rfl, Lib.hid ⟨Hst.out.symm, Rec.stg_lt HO.out.2 Hy.out⟩, Lib.hid (HBr.out.trans (HBv.out.mono HBr.out.size))⟩
          case measure => simp [intOf]
        exact AllReadyH.nil
      exact AllReadyH.nil
    · obtain rfl : p = 0 := by omega
      obtain rfl : z = -1 := by omega
      go_wp2_with fail
      go_ret
      exact retu (by rw [← (show l.drop 0 = l from rfl)]; exact HO.out.1.symm) rfl (HB2.out.trans (HBr.out.mono HB2.out.size))
end Go.Proofs.Ytagbamengcnfeaa.Me
