/- LowerConds: conditions handed in; the walk. -/
import Derived.Test.YtcageojoafkojaaGreatK26
import Derived.Test.YtcageojoafkojaaGreatK28
import Derived.Laws.BitsAllLaws
namespace Go.Proofs.YtcageojoafkojaaGreat.Lo
open Go.RowKit Go.ChangeShapes Go.WideShapes Go.ChangeAt Go.WideElems Go.Proofs.YtcageojoafkojaaGreat.Ju Go.Proofs.YtcageojoafkojaaGreat.Me Go.Proofs.YtcageojoafkojaaGreat.Ir
set_option maxRecDepth 100000
theorem Ju.bk_rd {w : World} {g t n z : Nat} {l : List Value} (h : Bk w g t l) (hl : l.length = n * z) : Rd w z n (some ⟨g, 0, none⟩) l :=
  ⟨hl, Or.inr ⟨g, 0, rfl, h.lt, fun j u hu => by rw [Nat.zero_add]; exact h.cell j hu⟩⟩
theorem open_cond {H : Type} {enc : TypeId × Value → H} {w : World} {base : Nat} {spare : Nat → Bool} {held : Bool} {r : Go.Reach} {b0 : Nat} {v : Value} {d : DataW H} {pp : List MemPlace} (hv : Value.okWide Tryz.prog w r b0 66 v) (h : DataW.Trod enc Tryz.prog w base spare held 66 v d pp) : ∃ c : CondM, v = .agg #[.int .i64 c.arg, .int .u8 c.op, .int .u64 c.mask, .int .u64 c.val] ∧ c.ok := by
  obtain ⟨cs, rfl, hsz⟩ := okWide_struct Tryz.underlying66 hv
  have hC : Tryz.prog.cellsOf 66 = 4 := by kernel_rfl
  obtain ⟨l⟩ := cs
  match l, hsz.trans hC with
  | [v0, v1, v2, v3], _ =>
    obtain ⟨fuel, hf⟩ := h
    obtain ⟨xs, n', _, _, _, hlen, hg⟩ := DataW.trod_struct Tryz.underlying66 hf
    match xs, hlen with
    | [y0, y1, y2, y3], _ =>
      have f0 : DataW.trod enc Tryz.prog w base spare held n' 3 [v0] = some y0 := one_field (hg 0 _ rfl) rfl rfl (by kernel_rfl) rfl
      obtain ⟨n0, e0, _, g0⟩ := DataW.trod_int Tryz.underlying3 f0
      simp only [List.cons.injEq, and_true] at e0
      subst e0
      have b0 := bounds_i64 g0
      have f1 : DataW.trod enc Tryz.prog w base spare held n' 64 [v1] = some y1 := one_field (hg 1 _ rfl) rfl rfl (by kernel_rfl) rfl
      obtain ⟨n1, e1, _, g1⟩ := DataW.trod_int Tryz.underlying64 f1
      simp only [List.cons.injEq, and_true] at e1
      subst e1
      have b1 := bounds_u8 g1
      obtain ⟨m1, rfl⟩ := Int.eq_ofNat_of_zero_le b1.1
      have d1 : m1 < 256 := by omega
      have f2 : DataW.trod enc Tryz.prog w base spare held n' 55 [v2] = some y2 := one_field (hg 2 _ rfl) rfl rfl (by kernel_rfl) rfl
      obtain ⟨n2, e2, _, g2⟩ := DataW.trod_int Tryz.underlying55 f2
      simp only [List.cons.injEq, and_true] at e2
      subst e2
      have b2 := bounds_u64 g2
      obtain ⟨m2, rfl⟩ := Int.eq_ofNat_of_zero_le b2.1
      have d2 : m2 < 18446744073709551616 := by omega
      have f3 : DataW.trod enc Tryz.prog w base spare held n' 55 [v3] = some y3 := one_field (hg 3 _ rfl) rfl rfl (by kernel_rfl) rfl
      obtain ⟨n3, e3, _, g3⟩ := DataW.trod_int Tryz.underlying55 f3
      simp only [List.cons.injEq, and_true] at e3
      subst e3
      have b3 := bounds_u64 g3
      obtain ⟨m3, rfl⟩ := Int.eq_ofNat_of_zero_le b3.1
      have d3 : m3 < 18446744073709551616 := by omega
      exact ⟨⟨n0, m1, m2, m3⟩, rfl, ⟨b0.1, b0.2, d1, d2, d3⟩⟩
structure ScIn (ca cb cm cv : Nat) : Prop where
  a : ca < 256
  b : cb < 256
  m : cm < 256
  v : cv < 256
theorem open_sc {H : Type} {enc : TypeId × Value → H} {w : World} {base : Nat} {spare : Nat → Bool} {held : Bool} {r : Go.Reach} {b0 : Nat} {v : Value} {d : DataW H} {pp : List MemPlace} (hv : Value.okWide Tryz.prog w r b0 68 v) (h : DataW.Trod enc Tryz.prog w base spare held 68 v d pp) : ∃ c : SC, ScIn c.a c.b c.m c.v ∧ v = .agg c.cells.toArray := by
  obtain ⟨cs, rfl, hsz⟩ := okWide_struct Tryz.underlying68 hv
  have hC : Tryz.prog.cellsOf 68 = 4 := by kernel_rfl
  obtain ⟨l⟩ := cs
  match l, hsz.trans hC with
  | [v0, v1, v2, v3], _ =>
    obtain ⟨fuel, hf⟩ := h
    obtain ⟨xs, n', _, _, _, hlen, hg⟩ := DataW.trod_struct Tryz.underlying68 hf
    match xs, hlen with
    | [y0, y1, y2, y3], _ =>
      have f0 : DataW.trod enc Tryz.prog w base spare held n' 5 [v0] = some y0 := one_field (hg 0 _ rfl) rfl rfl (by kernel_rfl) rfl
      obtain ⟨n0, e0, _, g0⟩ := DataW.trod_int Tryz.underlying5 f0
      simp only [List.cons.injEq, and_true] at e0
      subst e0
      have b0 := bounds_u8 g0
      obtain ⟨m0, rfl⟩ := Int.eq_ofNat_of_zero_le b0.1
      have f1 : DataW.trod enc Tryz.prog w base spare held n' 5 [v1] = some y1 := one_field (hg 1 _ rfl) rfl rfl (by kernel_rfl) rfl
      obtain ⟨n1, e1, _, g1⟩ := DataW.trod_int Tryz.underlying5 f1
      simp only [List.cons.injEq, and_true] at e1
      subst e1
      have b1 := bounds_u8 g1
      obtain ⟨m1, rfl⟩ := Int.eq_ofNat_of_zero_le b1.1
      have f2 : DataW.trod enc Tryz.prog w base spare held n' 5 [v2] = some y2 := one_field (hg 2 _ rfl) rfl rfl (by kernel_rfl) rfl
      obtain ⟨n2, e2, _, g2⟩ := DataW.trod_int Tryz.underlying5 f2
      simp only [List.cons.injEq, and_true] at e2
      subst e2
      have b2 := bounds_u8 g2
      obtain ⟨m2, rfl⟩ := Int.eq_ofNat_of_zero_le b2.1
      have f3 : DataW.trod enc Tryz.prog w base spare held n' 5 [v3] = some y3 := one_field (hg 3 _ rfl) rfl rfl (by kernel_rfl) rfl
      obtain ⟨n3, e3, _, g3⟩ := DataW.trod_int Tryz.underlying5 f3
      simp only [List.cons.injEq, and_true] at e3
      subst e3
      have b3 := bounds_u8 g3
      obtain ⟨m3, rfl⟩ := Int.eq_ofNat_of_zero_le b3.1
      exact ⟨⟨m0, m1, m2, m3⟩, ⟨by show m0 < 256; omega, by show m1 < 256; omega, by show m2 < 256; omega, by show m3 < 256; omega⟩, rfl⟩
def zeroSc : Value := .agg #[.int .u8 0, .int .u8 0, .int .u8 0, .int .u8 0]
theorem open_cnd {H : Type} {enc : TypeId × Value → H} {w : World} {base : Nat} {spare : Nat → Bool} {held : Bool} {r : Go.Reach} {b0 : Nat} {v : Value} {d : DataW H} {pp : List MemPlace} (hv : Value.okWide Tryz.prog w r b0 66 v) (h : DataW.Trod enc Tryz.prog w base spare held 66 v d pp) : ∃ c : CondM, c.ok ∧ v = .agg c.cells.toArray := by
  obtain ⟨c, e, hc⟩ := open_cond hv h
  exact ⟨c, hc, e⟩
def zeroCnd : Value := .agg #[.int .i64 0, .int .u8 0, .int .u64 0, .int .u64 0]
theorem fail9 (w : World) : Calls Tryz.prog 16 #[.int .i64 9] w fun e w' => e = .returned (.int .u32 327689) ∧ Below w.heap.size w w' := by
  refine (Rec.fail_any 9 w).mono ?_
  rintro e w' ⟨rfl, rfl⟩
  exact ⟨by rfl, Below.refl _ _⟩
theorem set6 {w : World} {g t : Nat} {u0 u1 u2 u3 u4 u5 : Value} (v0 v1 v2 v3 v4 v5 : Value) (h : Bk w g t [u0, u1, u2, u3, u4, u5]) : Bk (((((((w).setCell ⟨g, 0, none⟩ v0).setCell ⟨g, 1, none⟩ v1).setCell ⟨g, 2, none⟩ v2).setCell ⟨g, 3, none⟩ v3).setCell ⟨g, 4, none⟩ v4).setCell ⟨g, 5, none⟩ v5) g t [v0, v1, v2, v3, v4, v5] ∧ w.grownBy (((((((w).setCell ⟨g, 0, none⟩ v0).setCell ⟨g, 1, none⟩ v1).setCell ⟨g, 2, none⟩ v2).setCell ⟨g, 3, none⟩ v3).setCell ⟨g, 4, none⟩ v4).setCell ⟨g, 5, none⟩ v5) (some g) := by
  refine ⟨(((((h.set 0 v0).set 1 v1).set 2 v2).set 3 v3).set 4 v4).set 5 v5, ?_⟩
  exact only_trans (only_trans (only_trans (only_trans (only_trans (only_set _ g 0 v0) (only_set _ g 1 v1)) (only_set _ g 2 v2)) (only_set _ g 3 v3)) (only_set _ g 4 v4)) (only_set _ g 5 v5)
def fillR (m b : Nat) : RcM := ⟨7, 3221225534, 0, if 0 < m then b else 0, if 1 < m then b else 0, if 2 < m then b else 0, if 3 < m then b else 0, if 4 < m then b else 0, if 5 < m then b else 0⟩
theorem fill_set {m b : Nat} (hm : m < 6) : (fillR m b).cells.set (3 + m) (.int .u64 b) = (fillR (m + 1) b).cells := by rcases six hm with rfl | rfl | rfl | rfl | rfl | rfl <;> rfl
theorem fill_cell {m b : Nat} (hm : m < 6) : (fillR m b).cells[3 + m]? = some (.int .u64 (0 : Nat)) := by rcases six hm with rfl | rfl | rfl | rfl | rfl | rfl <;> rfl
def recX (b n g : Nat) : RcM := ⟨7, 3221225534, 0, if g = 0 then n else b, if g = 1 then n else b, if g = 2 then n else b, if g = 3 then n else b, if g = 4 then n else b, if g = 5 then n else b⟩
theorem fill_end {b n g : Nat} (hg : g < 6) : (fillR 6 b).cells.set (3 + g) (.int .u64 n) = (recX b n g).cells := by rcases six hg with rfl | rfl | rfl | rfl | rfl | rfl <;> rfl
theorem fill_cell6 {b g : Nat} (hg : g < 6) : (fillR 6 b).cells[3 + g]? = some (.int .u64 b) := by rcases six hg with rfl | rfl | rfl | rfl | rfl | rfl <;> rfl
theorem recX_ok {b n g : Nat} (hb : b < 18446744073709551616) (hn : n < 18446744073709551616) : (recX b n g).ok := by
  refine ⟨by show 7 < _; omega, by show 3221225534 < _; omega, by show 0 < _; omega, ?_, ?_, ?_, ?_, ?_, ?_⟩ <;> (unfold recX; simp only; split <;> omega)
theorem says_one (d act : Nat) (x : CondM) (X : RcM) (h7 : X.num = 7) (ha : X.arch = 3221225534) : saysR d [⟨7, act, [x]⟩] X = if holdB x X = true then act else d := by
  unfold saysR
  rw [if_pos ha]
  unfold bestL stepB matB
  cases h : holdB x X <;> simp [h, h7, bestL, bestA]
set_option maxHeartbeats 32000000 in
theorem conds_any2 (c : CondM) (k : SC) (a b : Nat) (w : World) (hc : c.ok) (hk : ScIn k.a k.b k.m k.v) (ha : a < 18446744073709551616) (hb : b < 18446744073709551616) :
    Calls Tryz.prog 4 #[.agg #[.int .i64 c.arg, .int .u8 c.op, .int .u64 c.mask, .int .u64 c.val], .agg #[.int .u8 k.a, .int .u8 k.b, .int .u8 k.m, .int .u8 k.v], .int .u64 a, .int .u64 b] w (Ju.RetB true w) := by
  obtain ⟨hk1, hk2, hb2⟩ := two_new w #[.int .i64 c.arg, .int .u8 c.op, .int .u64 c.mask, .int .u64 c.val] #[.int .u8 k.a, .int .u8 k.b, .int .u8 k.m, .int .u8 k.v] 66 68 (la := [.int .i64 c.arg, .int .u8 c.op, .int .u64 c.mask, .int .u64 c.val]) (lb := [.int .u8 k.a, .int .u8 k.b, .int .u8 k.m, .int .u8 k.v]) rfl rfl
  have HCd := Lib.hid (fun W => condCond_any k.a k.b k.m k.v W hk.a hk.b hk.m hk.v)
  have HCo := Lib.hid hc
  clear hk hc
  go_enter Tryz.func4, Tryz.ntmps4
  go_upto_region 1 with fail
  generalize (w.alloc _).alloc _ = w2 at hk1 hk2 hb2 ⊢
  generalize w.heap.size + 1 = g2 at hk2 ⊢
  obtain ⟨g1, hg1⟩ : ∃ g, g = w.heap.size := ⟨_, rfl⟩
  rw [← hg1] at hk1 ⊢
  have HBw := Lib.hid hb2
  have HK1 := Lib.hid hk1
  have HK2 := Lib.hid hk2
  clear hk1 hk2 hb2 hg1
  go_wp2_with fail
  refine (Lo.awake_any _).mono ?_
  rintro e w3 ⟨rfl, hb3⟩
  have HBw := Lib.hid (HBw.out.trans (hb3.mono HBw.out.size))
  have hk1 := HK1.out.kept hb3
  have hk2 := HK2.out.kept hb3
  have c0 := hk1.cell 0 rfl
  have c1 := hk1.cell 1 rfl
  have c2 := hk1.cell 2 rfl
  have c3 := hk1.cell 3 rfl
  have cl := hk1.lt
  have k0 := hk2.cell 0 rfl
  have k1 := hk2.cell 1 rfl
  have k2 := hk2.cell 2 rfl
  have k3 := hk2.cell 3 rfl
  have kl := hk2.lt
  clear hb3 hk1 hk2 HK1 HK2
  go_upto_region 3 with fail
  refine wp_region_held_drew (S := (fun w' => w'.cell? ⟨g1, 0, none⟩ = some (.int .i64 c.arg) ∧ w'.cell? ⟨g1, 1, none⟩ = some (.int .u8 c.op) ∧ w'.cell? ⟨g1, 2, none⟩ = some (.int .u64 c.mask) ∧ w'.cell? ⟨g1, 3, none⟩ = some (.int .u64 c.val) ∧ w'.cell? ⟨g2, 0, none⟩ = some (.int .u8 k.a) ∧ w'.cell? ⟨g2, 1, none⟩ = some (.int .u8 k.b) ∧ w'.cell? ⟨g2, 2, none⟩ = some (.int .u8 k.m) ∧ w'.cell? ⟨g2, 3, none⟩ = some (.int .u8 k.v) ∧ Hid (Below w3.heap.size w3 w'))) (by kernel_rfl) ?_ (fun hHeld0 => ?_)
  · exact ⟨c0, c1, c2, c3, k0, k1, k2, k3, Lib.hid (Below.refl w3.heap.size w3).drew⟩
  clear c0 c1 c2 c3 cl k0 k1 k2 k3 kl
  generalize w3.drew = vh0 at hHeld0 ⊢
  refine wpAnyH_take (i := 0) (v := ?_) (by first | (simp only [List.getElem?_toArray, List.getElem?_cons_zero] <;> rfl) | rfl) (by kernel_rfl) (by kernel_rfl) (by kernel_rfl) (by exact fun _ _ _ h => h) (Or.inl ⟨by rfl, ?_⟩) hHeld0 ?_
  rotate_left 1
  · intro w hSw
    try dsimp only at hSw
    (go_simp) <;> (with_reducible rfl)
  try simp only [Act.put, List.setIfInBounds_toArray, List.set_cons_zero, List.set_cons_succ]
  refine wpAnyH_take (i := 1) (v := ?_) (by first | (simp only [List.getElem?_toArray, List.getElem?_cons_succ, List.getElem?_cons_zero] <;> rfl) | rfl) (by kernel_rfl) (by kernel_rfl) (by kernel_rfl) (by exact fun _ _ _ h => h) (Or.inl ⟨by rfl, ?_⟩) hHeld0 ?_
  rotate_left 1
  · intro w hSw
    try dsimp only at hSw
    (go_simp) <;> (with_reducible rfl)
  try simp only [Act.put, List.setIfInBounds_toArray, List.set_cons_zero, List.set_cons_succ]
  refine wpAnyH_take (i := 5) (v := ?_) (by first | (simp only [List.getElem?_toArray, List.getElem?_cons_succ, List.getElem?_cons_zero] <;> rfl) | rfl) (by kernel_rfl) (by kernel_rfl) (by kernel_rfl) (by exact fun _ _ _ h => h) (Or.inl ⟨by rfl, ?_⟩) hHeld0 ?_
  rotate_left 1
  · intro w hSw
    try dsimp only at hSw
    (go_simp) <;> (with_reducible rfl)
  try simp only [Act.put, List.setIfInBounds_toArray, List.set_cons_zero, List.set_cons_succ]
  refine wpAnyH_ready (rs := [2]) (by kernel_rfl) (by simp) ?_
  refine AllReadyH.cons (by first | (simp only [List.getElem?_toArray, List.getElem?_cons_succ, List.getElem?_cons_zero] <;> rfl) | rfl) (fun K hK => ?_) ?_
  · go_simp
    refine (HCd.out _).mono ?_
    rintro e vh1 ⟨⟨d, rfl, hce, hcok, hcF⟩, hbb⟩
    refine hK.out _ _ ?_ (fun hHeld1 => ?_)
    · exact ⟨cell_below hHeld0.1 hbb, cell_below hHeld0.2.1 hbb, cell_below hHeld0.2.2.1 hbb, cell_below hHeld0.2.2.2.1 hbb, cell_below hHeld0.2.2.2.2.1 hbb, cell_below hHeld0.2.2.2.2.2.1 hbb, cell_below hHeld0.2.2.2.2.2.2.1 hbb, cell_below hHeld0.2.2.2.2.2.2.2.1 hbb, Lib.hid (hHeld0.2.2.2.2.2.2.2.2.out.trans (hbb.mono hHeld0.2.2.2.2.2.2.2.2.out.size))⟩
    clear hK K
    have HDk := Lib.hid hcok
    clear hbb hce hcok hcF hHeld0
    try simp only [Act.put, List.setIfInBounds_toArray, List.set_cons_zero, List.set_cons_succ]
    refine wpAnyH_ready (rs := [3]) (by kernel_rfl) (by simp) ?_
    refine AllReadyH.cons (by first | (simp only [List.getElem?_toArray, List.getElem?_cons_succ, List.getElem?_cons_zero] <;> rfl) | rfl) (fun K hK => ?_) ?_
    · go_simp
      refine hK.out _ _ ?_ (fun hHeld2 => ?_)
      · exact ⟨cell_below hHeld1.1 (oneb _ _), cell_below hHeld1.2.1 (oneb _ _), cell_below hHeld1.2.2.1 (oneb _ _), cell_below hHeld1.2.2.2.1 (oneb _ _), cell_below hHeld1.2.2.2.2.1 (oneb _ _), cell_below hHeld1.2.2.2.2.2.1 (oneb _ _), cell_below hHeld1.2.2.2.2.2.2.1 (oneb _ _), cell_below hHeld1.2.2.2.2.2.2.2.1 (oneb _ _), Lib.hid (hHeld1.2.2.2.2.2.2.2.2.out.trans ((oneb _ _).mono hHeld1.2.2.2.2.2.2.2.2.out.size))⟩
      clear hK K
      have hbb := oneb vh1 (.cells #[.int .i64 c.arg, .int .u8 c.op, .int .u64 c.mask, .int .u64 c.val, .int .i64 d.arg, .int .u8 d.op, .int .u64 d.mask, .int .u64 d.val] 66)
      have hkb := Bk.new vh1 66 #[.int .i64 c.arg, .int .u8 c.op, .int .u64 c.mask, .int .u64 c.val, .int .i64 d.arg, .int .u8 d.op, .int .u64 d.mask, .int .u64 d.val] (l := [c, d].flatMap CondM.cells) rfl
      generalize World.alloc vh1 _ = vh2 at hbb hkb hHeld2 ⊢
      generalize vh1.heap.size = bb at hkb ⊢
      have HKb := Lib.hid hkb
      clear hbb hkb hHeld1
      try simp only [Act.put, List.setIfInBounds_toArray, List.set_cons_zero, List.set_cons_succ]
      refine wpAnyH_take (i := 4) (v := ?_) (by first | (simp only [List.getElem?_toArray, List.getElem?_cons_succ, List.getElem?_cons_zero] <;> rfl) | rfl) (by kernel_rfl) (by kernel_rfl) (by kernel_rfl) (by exact fun _ _ _ h => h) (Or.inl ⟨by rfl, ?_⟩) hHeld2 ?_
      rotate_left 1
      · intro w hSw
        try dsimp only at hSw
        (go_simp) <;> (with_reducible rfl)
      try simp only [Act.put, List.setIfInBounds_toArray, List.set_cons_zero, List.set_cons_succ]
      refine wpAnyH_done (by kernel_rfl) ?_ _
      rename World => w4
      have HB3 := Lib.hid (hHeld2.2.2.2.2.2.2.2.2.out)
      have HBw := Lib.hid (HBw.out.trans (HB3.out.mono HBw.out.size))
      clear hHeld2 HB3 HCd
      go_wp2_with fail
      go_loopw [30] (fun iv wz => ∃ i : Nat, iv = .int .i64 i ∧ i ≤ 2 ∧ Hid (Below w4.heap.size w4 wz)) (fun iv _ => 2 - (intOf iv).toNat)
      case atStart => exact ⟨0, rfl, by omega, Lib.hid (Below.refl _ _)⟩
      case round =>
        rename World => wz
        obtain ⟨i, rfl, hi, HB⟩ := hrel
        by_cases hlt : i < 2
        · obtain ⟨x, hx⟩ : ∃ x, [c, d][i]? = some x := ⟨_, List.getElem?_eq_getElem (by simpa using hlt)⟩
          have HXo := Lib.hid (show x.ok by
            have := List.mem_of_getElem? hx
            simp only [List.mem_cons, List.not_mem_nil, or_false] at this
            rcases this with rfl | rfl
            · exact HCo.out
            · exact HDk.out)
          obtain ⟨b9, o9, hA, hbl, hcell⟩ := ((Ju.bk_rd (n := 2) (z := 4) HKb.out rfl).below HB.out).one (f := CondM.cells) (fun _ => rfl) (by omega) (by omega)
          cases hA
          obtain ⟨c0, c1, c2, c3⟩ := cond_cells hcell hx
          simp only [Nat.zero_add] at c0 c1 c2 c3
          clear hx hcell
          go_upto_region 6 with fail
          have hbx := oneb wz (.cells #[.int .i64 x.arg, .int .u8 x.op, .int .u64 x.mask, .int .u64 x.val] 66)
          have hkx := Bk.new wz 66 #[.int .i64 x.arg, .int .u8 x.op, .int .u64 x.mask, .int .u64 x.val] (l := [.int .i64 x.arg, .int .u8 x.op, .int .u64 x.mask, .int .u64 x.val]) rfl
          clear c0 c1 c2 c3 hbl
          generalize World.alloc wz _ = w5 at hbx hkx ⊢
          generalize wz.heap.size = gx at hkx ⊢
          have HX := Lib.hid hkx
          have HB := Lib.hid (HB.out.trans (hbx.mono HB.out.size))
          have x0 := hkx.cell 0 rfl
          have xl := hkx.lt
          clear hbx hkx
          obtain ⟨g1', g2', -, -, -⟩ := HXo.out
          by_cases h1 : x.arg < 0
          · go_wp2_with fail
            go_roundw
            case rel => exact ⟨i + 1, by go_num, by omega, HB⟩
            case measure => simp [intOf]; omega
          by_cases h2 : 5 < x.arg
          · go_wp2_with fail
            go_roundw
            case rel => exact ⟨i + 1, by go_num, by omega, HB⟩
            case measure => simp [intOf]; omega
          have HAr := Lib.hid (show 0 ≤ x.arg ∧ x.arg < 6 by omega)
          go_upto_region 7 with fail
          clear h1 h2 g1' g2'
          have x1 := HX.out.cell 1 rfl
          have x2 := HX.out.cell 2 rfl
          have x3 := HX.out.cell 3 rfl
          have HmkS : Hid (∀ W, Below w5.heap.size w5 W → Bk W gx 66 [.int .i64 x.arg, .int .u8 x.op, .int .u64 x.mask, .int .u64 x.val] → (fun w' => w'.cell? ⟨gx, 0, none⟩ = some (.int .i64 x.arg) ∧ w'.cell? ⟨gx, 1, none⟩ = some (.int .u8 x.op) ∧ w'.cell? ⟨gx, 2, none⟩ = some (.int .u64 x.mask) ∧ w'.cell? ⟨gx, 3, none⟩ = some (.int .u64 x.val) ∧ Hid (Below w5.heap.size w5 w')) W) := Lib.hid (fun W h hk => ⟨hk.cell 0 rfl, hk.cell 1 rfl, hk.cell 2 rfl, hk.cell 3 rfl, Lib.hid h⟩)
          go_cut [11] from 31 to 47 (fun pv wx => ∃ gp gr gc : Nat, pv = .pointer (some ⟨gp, 0, none⟩) ∧ Hid (Bk wx gp 37 [.string ⟨#[]⟩, .int .u32 2147418112, .slice (some ⟨gr, 0, none⟩) 1 1, .int .u16 0, .slice none 0 0, .slice none 0 0]) ∧ Hid (Bk wx gr 73 [.int .u32 7, .int .u32 327689, .slice (some ⟨gc, 0, none⟩) 1 1]) ∧ Hid (Bk wx gc 66 [.int .i64 x.arg, .int .u8 x.op, .int .u64 x.mask, .int .u64 x.val]) ∧ Hid (Bk wx gx 66 [.int .i64 x.arg, .int .u8 x.op, .int .u64 x.mask, .int .u64 x.val]) ∧ Hid (Below w5.heap.size w5 wx))
          case first =>
            refine wp_region_held_drew (S := (fun w' => w'.cell? ⟨gx, 0, none⟩ = some (.int .i64 x.arg) ∧ w'.cell? ⟨gx, 1, none⟩ = some (.int .u8 x.op) ∧ w'.cell? ⟨gx, 2, none⟩ = some (.int .u64 x.mask) ∧ w'.cell? ⟨gx, 3, none⟩ = some (.int .u64 x.val) ∧ Hid (Below w5.heap.size w5 w'))) (by kernel_rfl) ?_ (fun hHeld0 => ?_)
            · exact ⟨x0, x1, x2, x3, Lib.hid (Below.refl w5.heap.size w5).drew⟩
            have HBv := Lib.hid (show Below w5.heap.size w5 w5.drew from (Below.refl _ _).drew)
            have HXv := Lib.hid (show Bk w5.drew gx 66 [.int .i64 x.arg, .int .u8 x.op, .int .u64 x.mask, .int .u64 x.val] from HX.out.drew)
            clear x0 x1 x2 x3 xl
            generalize w5.drew = vh0 at hHeld0 HBv HXv ⊢
            refine wpAnyH_take (i := 1) (v := ?_) (by first | (simp only [List.getElem?_toArray, List.getElem?_cons_succ, List.getElem?_cons_zero] <;> rfl) | rfl) (by kernel_rfl) (by kernel_rfl) (by kernel_rfl) (by exact fun _ _ _ h => h) (Or.inl ⟨by rfl, ?_⟩) hHeld0 ?_
            rotate_left 1
            · intro w hSw
              try dsimp only at hSw
              (go_simp) <;> (with_reducible rfl)
            try simp only [Act.put, List.setIfInBounds_toArray, List.set_cons_zero, List.set_cons_succ]
            refine wpAnyH_ready (rs := [0, 2, 6]) (by kernel_rfl) (by simp) ?_
            refine AllReadyH.cons (by first | (simp only [List.getElem?_toArray, List.getElem?_cons_zero] <;> rfl) | rfl) (fun K hK => ?_) ?_
            · skip
              go_simp
              refine (fail9 _).mono ?_
              rintro e vh1 ⟨rfl, hbb⟩
              have HBn := Lib.hid (HBv.out.trans (hbb.mono HBv.out.size))
              have HXn := Lib.hid (HXv.out.kept hbb)
              refine hK.out _ _ (HmkS.out _ HBn.out HXn.out) (fun hHeld1 => ?_)
              clear hK K
              first | (have HC := Lib.hid (HC.out.kept hbb)) | skip
              first | (have HRu := Lib.hid (HRu.out.kept hbb)) | skip
              first | (have HPp := Lib.hid (HPp.out.kept hbb)) | skip
              clear hbb
              have HBv := HBn
              have HXv := HXn
              clear HBn HXn hHeld0
              try simp only [Act.put, List.setIfInBounds_toArray, List.set_cons_zero, List.set_cons_succ]
              refine wpAnyH_ready (rs := [2, 6]) (by kernel_rfl) (by simp) ?_
              refine AllReadyH.cons (by first | (simp only [List.getElem?_toArray, List.getElem?_cons_succ, List.getElem?_cons_zero] <;> rfl) | rfl) (fun K hK => ?_) ?_
              · skip
                go_simp
                have hbb := oneb vh1 (.cells #[.int .i64 x.arg, .int .u8 x.op, .int .u64 x.mask, .int .u64 x.val] 66)
                have hN := Bk.new vh1 66 #[.int .i64 x.arg, .int .u8 x.op, .int .u64 x.mask, .int .u64 x.val] (l := [.int .i64 x.arg, .int .u8 x.op, .int .u64 x.mask, .int .u64 x.val]) rfl
                have HBn := Lib.hid (HBv.out.trans (hbb.mono HBv.out.size))
                have HXn := Lib.hid (HXv.out.kept hbb)
                refine hK.out _ _ (HmkS.out _ HBn.out HXn.out) (fun hHeld2 => ?_)
                clear hK K
                generalize World.alloc vh1 _ = vh2 at hbb hN HBn HXn hHeld2 ⊢
                first | (have HC := Lib.hid (HC.out.kept hbb)) | skip
                first | (have HRu := Lib.hid (HRu.out.kept hbb)) | skip
                first | (have HPp := Lib.hid (HPp.out.kept hbb)) | skip
                obtain ⟨gc, hgg⟩ : ∃ g, g = vh1.heap.size := ⟨_, rfl⟩
                rw [← hgg] at hN ⊢
                have HC := Lib.hid hN
                clear hN hbb hgg
                have HBv := HBn
                have HXv := HXn
                clear HBn HXn hHeld1
                try simp only [Act.put, List.setIfInBounds_toArray, List.set_cons_zero, List.set_cons_succ]
                refine wpAnyH_take (i := 3) (v := ?_) (by first | (simp only [List.getElem?_toArray, List.getElem?_cons_succ, List.getElem?_cons_zero] <;> rfl) | rfl) (by kernel_rfl) (by kernel_rfl) (by kernel_rfl) (by exact fun _ _ _ h => h) (Or.inl ⟨by rfl, ?_⟩) hHeld2 ?_
                rotate_left 1
                · intro w hSw
                  try dsimp only at hSw
                  (go_simp) <;> (with_reducible rfl)
                try simp only [Act.put, List.setIfInBounds_toArray, List.set_cons_zero, List.set_cons_succ]
                refine wpAnyH_ready (rs := [4, 6]) (by kernel_rfl) (by simp) ?_
                refine AllReadyH.cons (by first | (simp only [List.getElem?_toArray, List.getElem?_cons_succ, List.getElem?_cons_zero] <;> rfl) | rfl) (fun K hK => ?_) ?_
                · skip
                  go_simp
                  have hbb := oneb vh2 (.cells #[.int .u32 7, .int .u32 327689, .slice (some ⟨gc, 0, none⟩) 1 1] 73)
                  have hN := Bk.new vh2 73 #[.int .u32 7, .int .u32 327689, .slice (some ⟨gc, 0, none⟩) 1 1] (l := [.int .u32 7, .int .u32 327689, .slice (some ⟨gc, 0, none⟩) 1 1]) rfl
                  have HBn := Lib.hid (HBv.out.trans (hbb.mono HBv.out.size))
                  have HXn := Lib.hid (HXv.out.kept hbb)
                  refine hK.out _ _ (HmkS.out _ HBn.out HXn.out) (fun hHeld3 => ?_)
                  clear hK K
                  generalize World.alloc vh2 _ = vh3 at hbb hN HBn HXn hHeld3 ⊢
                  first | (have HC := Lib.hid (HC.out.kept hbb)) | skip
                  first | (have HRu := Lib.hid (HRu.out.kept hbb)) | skip
                  first | (have HPp := Lib.hid (HPp.out.kept hbb)) | skip
                  obtain ⟨gr, hgg⟩ : ∃ g, g = vh2.heap.size := ⟨_, rfl⟩
                  rw [← hgg] at hN ⊢
                  have HRu := Lib.hid hN
                  clear hN hbb hgg
                  have HBv := HBn
                  have HXv := HXn
                  clear HBn HXn hHeld2
                  try simp only [Act.put, List.setIfInBounds_toArray, List.set_cons_zero, List.set_cons_succ]
                  refine wpAnyH_take (i := 5) (v := ?_) (by first | (simp only [List.getElem?_toArray, List.getElem?_cons_succ, List.getElem?_cons_zero] <;> rfl) | rfl) (by kernel_rfl) (by kernel_rfl) (by kernel_rfl) (by exact fun _ _ _ h => h) (Or.inl ⟨by rfl, ?_⟩) hHeld3 ?_
                  rotate_left 1
                  · intro w hSw
                    try dsimp only at hSw
                    (go_simp) <;> (with_reducible rfl)
                  try simp only [Act.put, List.setIfInBounds_toArray, List.set_cons_zero, List.set_cons_succ]
                  refine wpAnyH_ready (rs := [6]) (by kernel_rfl) (by simp) ?_
                  refine AllReadyH.cons (by first | (simp only [List.getElem?_toArray, List.getElem?_cons_succ, List.getElem?_cons_zero] <;> rfl) | rfl) (fun K hK => ?_) ?_
                  · skip
                    go_simp
                    have hbb := oneb vh3 (.cells #[.string ⟨#[]⟩, .int .u32 0, .slice none 0 0, .int .u16 0, .slice none 0 0, .slice none 0 0] 37)
                    have hN := Bk.new vh3 37 #[.string ⟨#[]⟩, .int .u32 0, .slice none 0 0, .int .u16 0, .slice none 0 0, .slice none 0 0] (l := [.string ⟨#[]⟩, .int .u32 0, .slice none 0 0, .int .u16 0, .slice none 0 0, .slice none 0 0]) rfl
                    have HBn := Lib.hid (HBv.out.trans (hbb.mono HBv.out.size))
                    have HXn := Lib.hid (HXv.out.kept hbb)
                    refine hK.out _ _ (HmkS.out _ HBn.out HXn.out) (fun hHeld4 => ?_)
                    clear hK K
                    generalize World.alloc vh3 _ = vh4 at hbb hN HBn HXn hHeld4 ⊢
                    first | (have HC := Lib.hid (HC.out.kept hbb)) | skip
                    first | (have HRu := Lib.hid (HRu.out.kept hbb)) | skip
                    first | (have HPp := Lib.hid (HPp.out.kept hbb)) | skip
                    have HGe := Lib.hid HBv.out.size
                    obtain ⟨gp, hgg⟩ : ∃ g, g = vh3.heap.size := ⟨_, rfl⟩
                    rw [← hgg] at hN HGe ⊢
                    have HPp := Lib.hid hN
                    clear hN hbb hgg
                    have HBv := HBn
                    have HXv := HXn
                    clear HBn HXn hHeld3
                    try simp only [Act.put, List.setIfInBounds_toArray, List.set_cons_zero, List.set_cons_succ]
                    refine wpAnyH_ready (rs := [7]) (by kernel_rfl) (by simp) ?_
                    refine AllReadyH.cons (by first | (simp only [List.getElem?_toArray, List.getElem?_cons_succ, List.getElem?_cons_zero] <;> rfl) | rfl) (fun K hK => ?_) ?_
                    · skip
                      have y0 := HPp.out.cell 0 rfl
                      have y1 := HPp.out.cell 1 rfl
                      have y2 := HPp.out.cell 2 rfl
                      have y3 := HPp.out.cell 3 rfl
                      have y4 := HPp.out.cell 4 rfl
                      have y5 := HPp.out.cell 5 rfl
                      have z0 := HPp.out.fz 0
                      have z1 := HPp.out.fz 1
                      have z2 := HPp.out.fz 2
                      have z3 := HPp.out.fz 3
                      have z4 := HPp.out.fz 4
                      have z5 := HPp.out.fz 5
                      have yl := HPp.out.lt
                      go_simp
                      obtain ⟨hN, hg⟩ := set6 (.string ⟨#[]⟩) (.int .u32 2147418112) (.slice (some ⟨gr, 0, none⟩) 1 1) (.int .u16 0) (.slice none 0 0) (.slice none 0 0) HPp.out
                      have HBn := Lib.hid (HBv.out.grown hg HBv.out.size (fun q e => by cases e; exact HGe.out))
                      have HXn := Lib.hid (HXv.out.grown hg (fun e => (HXv.out.tyb.ne HPp.out.tyb (by decide)) (Option.some.inj e)))
                      have hC := HC.out.grown hg (fun e => (HC.out.tyb.ne HPp.out.tyb (by decide)) (Option.some.inj e))
                      have hRu := HRu.out.grown hg (fun e => (HRu.out.tyb.ne HPp.out.tyb (by decide)) (Option.some.inj e))
                      refine hK.out _ _ (HmkS.out _ HBn.out HXn.out) (fun hHeld5 => ?_)
                      clear hK K y0 y1 y2 y3 y4 y5 z0 z1 z2 z3 z4 z5 yl
                      generalize World.setCell _ _ _ = vh5 at hN hg HBn HXn hC hRu hHeld5 ⊢
                      have HPp := Lib.hid hN
                      have HC := Lib.hid hC
                      have HRu := Lib.hid hRu
                      clear hN hg hC hRu
                      have HBv := HBn
                      have HXv := HXn
                      clear HBn HXn hHeld4
                      try simp only [Act.put, List.setIfInBounds_toArray, List.set_cons_zero, List.set_cons_succ]
                      refine wpAnyH_done (by kernel_rfl) ?_ _
                      clear hHeld5
                      go_wp2_with fail
                      go_meet
                      case rel => exact ⟨gp, gr, gc, rfl, HPp, HRu, HC, HXv, HBv⟩
                    exact AllReadyH.nil
                  exact AllReadyH.nil
                refine AllReadyH.cons (by first | (simp only [List.getElem?_toArray, List.getElem?_cons_succ, List.getElem?_cons_zero] <;> rfl) | rfl) (fun K hK => ?_) ?_
                · skip
                  go_simp
                  have hbb := oneb vh2 (.cells #[.string ⟨#[]⟩, .int .u32 0, .slice none 0 0, .int .u16 0, .slice none 0 0, .slice none 0 0] 37)
                  have hN := Bk.new vh2 37 #[.string ⟨#[]⟩, .int .u32 0, .slice none 0 0, .int .u16 0, .slice none 0 0, .slice none 0 0] (l := [.string ⟨#[]⟩, .int .u32 0, .slice none 0 0, .int .u16 0, .slice none 0 0, .slice none 0 0]) rfl
                  have HBn := Lib.hid (HBv.out.trans (hbb.mono HBv.out.size))
                  have HXn := Lib.hid (HXv.out.kept hbb)
                  refine hK.out _ _ (HmkS.out _ HBn.out HXn.out) (fun hHeld3 => ?_)
                  clear hK K
                  generalize World.alloc vh2 _ = vh3 at hbb hN HBn HXn hHeld3 ⊢
                  first | (have HC := Lib.hid (HC.out.kept hbb)) | skip
                  first | (have HRu := Lib.hid (HRu.out.kept hbb)) | skip
                  first | (have HPp := Lib.hid (HPp.out.kept hbb)) | skip
                  have HGe := Lib.hid HBv.out.size
                  obtain ⟨gp, hgg⟩ : ∃ g, g = vh2.heap.size := ⟨_, rfl⟩
                  rw [← hgg] at hN HGe ⊢
                  have HPp := Lib.hid hN
                  clear hN hbb hgg
                  have HBv := HBn
                  have HXv := HXn
                  clear HBn HXn hHeld2
                  try simp only [Act.put, List.setIfInBounds_toArray, List.set_cons_zero, List.set_cons_succ]
                  refine wpAnyH_ready (rs := [4]) (by kernel_rfl) (by simp) ?_
                  refine AllReadyH.cons (by first | (simp only [List.getElem?_toArray, List.getElem?_cons_succ, List.getElem?_cons_zero] <;> rfl) | rfl) (fun K hK => ?_) ?_
                  · skip
                    go_simp
                    have hbb := oneb vh3 (.cells #[.int .u32 7, .int .u32 327689, .slice (some ⟨gc, 0, none⟩) 1 1] 73)
                    have hN := Bk.new vh3 73 #[.int .u32 7, .int .u32 327689, .slice (some ⟨gc, 0, none⟩) 1 1] (l := [.int .u32 7, .int .u32 327689, .slice (some ⟨gc, 0, none⟩) 1 1]) rfl
                    have HBn := Lib.hid (HBv.out.trans (hbb.mono HBv.out.size))
                    have HXn := Lib.hid (HXv.out.kept hbb)
                    refine hK.out _ _ (HmkS.out _ HBn.out HXn.out) (fun hHeld4 => ?_)
                    clear hK K
                    generalize World.alloc vh3 _ = vh4 at hbb hN HBn HXn hHeld4 ⊢
                    first | (have HC := Lib.hid (HC.out.kept hbb)) | skip
                    first | (have HRu := Lib.hid (HRu.out.kept hbb)) | skip
                    first | (have HPp := Lib.hid (HPp.out.kept hbb)) | skip
                    obtain ⟨gr, hgg⟩ : ∃ g, g = vh3.heap.size := ⟨_, rfl⟩
                    rw [← hgg] at hN ⊢
                    have HRu := Lib.hid hN
                    clear hN hbb hgg
                    have HBv := HBn
                    have HXv := HXn
                    clear HBn HXn hHeld3
                    try simp only [Act.put, List.setIfInBounds_toArray, List.set_cons_zero, List.set_cons_succ]
                    refine wpAnyH_take (i := 5) (v := ?_) (by first | (simp only [List.getElem?_toArray, List.getElem?_cons_succ, List.getElem?_cons_zero] <;> rfl) | rfl) (by kernel_rfl) (by kernel_rfl) (by kernel_rfl) (by exact fun _ _ _ h => h) (Or.inl ⟨by rfl, ?_⟩) hHeld4 ?_
                    rotate_left 1
                    · intro w hSw
                      try dsimp only at hSw
                      (go_simp) <;> (with_reducible rfl)
                    try simp only [Act.put, List.setIfInBounds_toArray, List.set_cons_zero, List.set_cons_succ]
                    refine wpAnyH_ready (rs := [7]) (by kernel_rfl) (by simp) ?_
                    refine AllReadyH.cons (by first | (simp only [List.getElem?_toArray, List.getElem?_cons_succ, List.getElem?_cons_zero] <;> rfl) | rfl) (fun K hK => ?_) ?_
                    · skip
                      have y0 := HPp.out.cell 0 rfl
                      have y1 := HPp.out.cell 1 rfl
                      have y2 := HPp.out.cell 2 rfl
                      have y3 := HPp.out.cell 3 rfl
                      have y4 := HPp.out.cell 4 rfl
                      have y5 := HPp.out.cell 5 rfl
                      have z0 := HPp.out.fz 0
                      have z1 := HPp.out.fz 1
                      have z2 := HPp.out.fz 2
                      have z3 := HPp.out.fz 3
                      have z4 := HPp.out.fz 4
                      have z5 := HPp.out.fz 5
                      have yl := HPp.out.lt
                      go_simp
                      obtain ⟨hN, hg⟩ := set6 (.string ⟨#[]⟩) (.int .u32 2147418112) (.slice (some ⟨gr, 0, none⟩) 1 1) (.int .u16 0) (.slice none 0 0) (.slice none 0 0) HPp.out
                      have HBn := Lib.hid (HBv.out.grown hg HBv.out.size (fun q e => by cases e; exact HGe.out))
                      have HXn := Lib.hid (HXv.out.grown hg (fun e => (HXv.out.tyb.ne HPp.out.tyb (by decide)) (Option.some.inj e)))
                      have hC := HC.out.grown hg (fun e => (HC.out.tyb.ne HPp.out.tyb (by decide)) (Option.some.inj e))
                      have hRu := HRu.out.grown hg (fun e => (HRu.out.tyb.ne HPp.out.tyb (by decide)) (Option.some.inj e))
                      refine hK.out _ _ (HmkS.out _ HBn.out HXn.out) (fun hHeld5 => ?_)
                      clear hK K y0 y1 y2 y3 y4 y5 z0 z1 z2 z3 z4 z5 yl
                      generalize World.setCell _ _ _ = vh5 at hN hg HBn HXn hC hRu hHeld5 ⊢
                      have HPp := Lib.hid hN
                      have HC := Lib.hid hC
                      have HRu := Lib.hid hRu
                      clear hN hg hC hRu
                      have HBv := HBn
                      have HXv := HXn
                      clear HBn HXn hHeld4
                      try simp only [Act.put, List.setIfInBounds_toArray, List.set_cons_zero, List.set_cons_succ]
                      refine wpAnyH_done (by kernel_rfl) ?_ _
                      clear hHeld5
                      go_wp2_with fail
                      go_meet
                      case rel => exact ⟨gp, gr, gc, rfl, HPp, HRu, HC, HXv, HBv⟩
                    exact AllReadyH.nil
                  exact AllReadyH.nil
                exact AllReadyH.nil
              refine AllReadyH.cons (by first | (simp only [List.getElem?_toArray, List.getElem?_cons_succ, List.getElem?_cons_zero] <;> rfl) | rfl) (fun K hK => ?_) ?_
              · skip
                go_simp
                have hbb := oneb vh1 (.cells #[.string ⟨#[]⟩, .int .u32 0, .slice none 0 0, .int .u16 0, .slice none 0 0, .slice none 0 0] 37)
                have hN := Bk.new vh1 37 #[.string ⟨#[]⟩, .int .u32 0, .slice none 0 0, .int .u16 0, .slice none 0 0, .slice none 0 0] (l := [.string ⟨#[]⟩, .int .u32 0, .slice none 0 0, .int .u16 0, .slice none 0 0, .slice none 0 0]) rfl
                have HBn := Lib.hid (HBv.out.trans (hbb.mono HBv.out.size))
                have HXn := Lib.hid (HXv.out.kept hbb)
                refine hK.out _ _ (HmkS.out _ HBn.out HXn.out) (fun hHeld2 => ?_)
                clear hK K
                generalize World.alloc vh1 _ = vh2 at hbb hN HBn HXn hHeld2 ⊢
                first | (have HC := Lib.hid (HC.out.kept hbb)) | skip
                first | (have HRu := Lib.hid (HRu.out.kept hbb)) | skip
                first | (have HPp := Lib.hid (HPp.out.kept hbb)) | skip
                have HGe := Lib.hid HBv.out.size
                obtain ⟨gp, hgg⟩ : ∃ g, g = vh1.heap.size := ⟨_, rfl⟩
                rw [← hgg] at hN HGe ⊢
                have HPp := Lib.hid hN
                clear hN hbb hgg
                have HBv := HBn
                have HXv := HXn
                clear HBn HXn hHeld1
                try simp only [Act.put, List.setIfInBounds_toArray, List.set_cons_zero, List.set_cons_succ]
                refine wpAnyH_ready (rs := [2]) (by kernel_rfl) (by simp) ?_
                refine AllReadyH.cons (by first | (simp only [List.getElem?_toArray, List.getElem?_cons_succ, List.getElem?_cons_zero] <;> rfl) | rfl) (fun K hK => ?_) ?_
                · skip
                  go_simp
                  have hbb := oneb vh2 (.cells #[.int .i64 x.arg, .int .u8 x.op, .int .u64 x.mask, .int .u64 x.val] 66)
                  have hN := Bk.new vh2 66 #[.int .i64 x.arg, .int .u8 x.op, .int .u64 x.mask, .int .u64 x.val] (l := [.int .i64 x.arg, .int .u8 x.op, .int .u64 x.mask, .int .u64 x.val]) rfl
                  have HBn := Lib.hid (HBv.out.trans (hbb.mono HBv.out.size))
                  have HXn := Lib.hid (HXv.out.kept hbb)
                  refine hK.out _ _ (HmkS.out _ HBn.out HXn.out) (fun hHeld3 => ?_)
                  clear hK K
                  generalize World.alloc vh2 _ = vh3 at hbb hN HBn HXn hHeld3 ⊢
                  first | (have HC := Lib.hid (HC.out.kept hbb)) | skip
                  first | (have HRu := Lib.hid (HRu.out.kept hbb)) | skip
                  first | (have HPp := Lib.hid (HPp.out.kept hbb)) | skip
                  obtain ⟨gc, hgg⟩ : ∃ g, g = vh2.heap.size := ⟨_, rfl⟩
                  rw [← hgg] at hN ⊢
                  have HC := Lib.hid hN
                  clear hN hbb hgg
                  have HBv := HBn
                  have HXv := HXn
                  clear HBn HXn hHeld2
                  try simp only [Act.put, List.setIfInBounds_toArray, List.set_cons_zero, List.set_cons_succ]
                  refine wpAnyH_take (i := 3) (v := ?_) (by first | (simp only [List.getElem?_toArray, List.getElem?_cons_succ, List.getElem?_cons_zero] <;> rfl) | rfl) (by kernel_rfl) (by kernel_rfl) (by kernel_rfl) (by exact fun _ _ _ h => h) (Or.inl ⟨by rfl, ?_⟩) hHeld3 ?_
                  rotate_left 1
                  · intro w hSw
                    try dsimp only at hSw
                    (go_simp) <;> (with_reducible rfl)
                  try simp only [Act.put, List.setIfInBounds_toArray, List.set_cons_zero, List.set_cons_succ]
                  refine wpAnyH_ready (rs := [4]) (by kernel_rfl) (by simp) ?_
                  refine AllReadyH.cons (by first | (simp only [List.getElem?_toArray, List.getElem?_cons_succ, List.getElem?_cons_zero] <;> rfl) | rfl) (fun K hK => ?_) ?_
                  · skip
                    go_simp
                    have hbb := oneb vh3 (.cells #[.int .u32 7, .int .u32 327689, .slice (some ⟨gc, 0, none⟩) 1 1] 73)
                    have hN := Bk.new vh3 73 #[.int .u32 7, .int .u32 327689, .slice (some ⟨gc, 0, none⟩) 1 1] (l := [.int .u32 7, .int .u32 327689, .slice (some ⟨gc, 0, none⟩) 1 1]) rfl
                    have HBn := Lib.hid (HBv.out.trans (hbb.mono HBv.out.size))
                    have HXn := Lib.hid (HXv.out.kept hbb)
                    refine hK.out _ _ (HmkS.out _ HBn.out HXn.out) (fun hHeld4 => ?_)
                    clear hK K
                    generalize World.alloc vh3 _ = vh4 at hbb hN HBn HXn hHeld4 ⊢
                    first | (have HC := Lib.hid (HC.out.kept hbb)) | skip
                    first | (have HRu := Lib.hid (HRu.out.kept hbb)) | skip
                    first | (have HPp := Lib.hid (HPp.out.kept hbb)) | skip
                    obtain ⟨gr, hgg⟩ : ∃ g, g = vh3.heap.size := ⟨_, rfl⟩
                    rw [← hgg] at hN ⊢
                    have HRu := Lib.hid hN
                    clear hN hbb hgg
                    have HBv := HBn
                    have HXv := HXn
                    clear HBn HXn hHeld3
                    try simp only [Act.put, List.setIfInBounds_toArray, List.set_cons_zero, List.set_cons_succ]
                    refine wpAnyH_take (i := 5) (v := ?_) (by first | (simp only [List.getElem?_toArray, List.getElem?_cons_succ, List.getElem?_cons_zero] <;> rfl) | rfl) (by kernel_rfl) (by kernel_rfl) (by kernel_rfl) (by exact fun _ _ _ h => h) (Or.inl ⟨by rfl, ?_⟩) hHeld4 ?_
                    rotate_left 1
                    · intro w hSw
                      try dsimp only at hSw
                      (go_simp) <;> (with_reducible rfl)
                    try simp only [Act.put, List.setIfInBounds_toArray, List.set_cons_zero, List.set_cons_succ]
                    refine wpAnyH_ready (rs := [7]) (by kernel_rfl) (by simp) ?_
                    refine AllReadyH.cons (by first | (simp only [List.getElem?_toArray, List.getElem?_cons_succ, List.getElem?_cons_zero] <;> rfl) | rfl) (fun K hK => ?_) ?_
                    · skip
                      have y0 := HPp.out.cell 0 rfl
                      have y1 := HPp.out.cell 1 rfl
                      have y2 := HPp.out.cell 2 rfl
                      have y3 := HPp.out.cell 3 rfl
                      have y4 := HPp.out.cell 4 rfl
                      have y5 := HPp.out.cell 5 rfl
                      have z0 := HPp.out.fz 0
                      have z1 := HPp.out.fz 1
                      have z2 := HPp.out.fz 2
                      have z3 := HPp.out.fz 3
                      have z4 := HPp.out.fz 4
                      have z5 := HPp.out.fz 5
                      have yl := HPp.out.lt
                      go_simp
                      obtain ⟨hN, hg⟩ := set6 (.string ⟨#[]⟩) (.int .u32 2147418112) (.slice (some ⟨gr, 0, none⟩) 1 1) (.int .u16 0) (.slice none 0 0) (.slice none 0 0) HPp.out
                      have HBn := Lib.hid (HBv.out.grown hg HBv.out.size (fun q e => by cases e; exact HGe.out))
                      have HXn := Lib.hid (HXv.out.grown hg (fun e => (HXv.out.tyb.ne HPp.out.tyb (by decide)) (Option.some.inj e)))
                      have hC := HC.out.grown hg (fun e => (HC.out.tyb.ne HPp.out.tyb (by decide)) (Option.some.inj e))
                      have hRu := HRu.out.grown hg (fun e => (HRu.out.tyb.ne HPp.out.tyb (by decide)) (Option.some.inj e))
                      refine hK.out _ _ (HmkS.out _ HBn.out HXn.out) (fun hHeld5 => ?_)
                      clear hK K y0 y1 y2 y3 y4 y5 z0 z1 z2 z3 z4 z5 yl
                      generalize World.setCell _ _ _ = vh5 at hN hg HBn HXn hC hRu hHeld5 ⊢
                      have HPp := Lib.hid hN
                      have HC := Lib.hid hC
                      have HRu := Lib.hid hRu
                      clear hN hg hC hRu
                      have HBv := HBn
                      have HXv := HXn
                      clear HBn HXn hHeld4
                      try simp only [Act.put, List.setIfInBounds_toArray, List.set_cons_zero, List.set_cons_succ]
                      refine wpAnyH_done (by kernel_rfl) ?_ _
                      clear hHeld5
                      go_wp2_with fail
                      go_meet
                      case rel => exact ⟨gp, gr, gc, rfl, HPp, HRu, HC, HXv, HBv⟩
                    exact AllReadyH.nil
                  exact AllReadyH.nil
                exact AllReadyH.nil
              exact AllReadyH.nil
            refine AllReadyH.cons (by first | (simp only [List.getElem?_toArray, List.getElem?_cons_succ, List.getElem?_cons_zero] <;> rfl) | rfl) (fun K hK => ?_) ?_
            · skip
              go_simp
              have hbb := oneb vh0 (.cells #[.int .i64 x.arg, .int .u8 x.op, .int .u64 x.mask, .int .u64 x.val] 66)
              have hN := Bk.new vh0 66 #[.int .i64 x.arg, .int .u8 x.op, .int .u64 x.mask, .int .u64 x.val] (l := [.int .i64 x.arg, .int .u8 x.op, .int .u64 x.mask, .int .u64 x.val]) rfl
              have HBn := Lib.hid (HBv.out.trans (hbb.mono HBv.out.size))
              have HXn := Lib.hid (HXv.out.kept hbb)
              refine hK.out _ _ (HmkS.out _ HBn.out HXn.out) (fun hHeld1 => ?_)
              clear hK K
              generalize World.alloc vh0 _ = vh1 at hbb hN HBn HXn hHeld1 ⊢
              first | (have HC := Lib.hid (HC.out.kept hbb)) | skip
              first | (have HRu := Lib.hid (HRu.out.kept hbb)) | skip
              first | (have HPp := Lib.hid (HPp.out.kept hbb)) | skip
              obtain ⟨gc, hgg⟩ : ∃ g, g = vh0.heap.size := ⟨_, rfl⟩
              rw [← hgg] at hN ⊢
              have HC := Lib.hid hN
              clear hN hbb hgg
              have HBv := HBn
              have HXv := HXn
              clear HBn HXn hHeld0
              try simp only [Act.put, List.setIfInBounds_toArray, List.set_cons_zero, List.set_cons_succ]
              refine wpAnyH_ready (rs := [0, 6]) (by kernel_rfl) (by simp) ?_
              refine AllReadyH.cons (by first | (simp only [List.getElem?_toArray, List.getElem?_cons_zero] <;> rfl) | rfl) (fun K hK => ?_) ?_
              · skip
                go_simp
                refine (fail9 _).mono ?_
                rintro e vh2 ⟨rfl, hbb⟩
                have HBn := Lib.hid (HBv.out.trans (hbb.mono HBv.out.size))
                have HXn := Lib.hid (HXv.out.kept hbb)
                refine hK.out _ _ (HmkS.out _ HBn.out HXn.out) (fun hHeld2 => ?_)
                clear hK K
                first | (have HC := Lib.hid (HC.out.kept hbb)) | skip
                first | (have HRu := Lib.hid (HRu.out.kept hbb)) | skip
                first | (have HPp := Lib.hid (HPp.out.kept hbb)) | skip
                clear hbb
                have HBv := HBn
                have HXv := HXn
                clear HBn HXn hHeld1
                try simp only [Act.put, List.setIfInBounds_toArray, List.set_cons_zero, List.set_cons_succ]
                refine wpAnyH_take (i := 3) (v := ?_) (by first | (simp only [List.getElem?_toArray, List.getElem?_cons_succ, List.getElem?_cons_zero] <;> rfl) | rfl) (by kernel_rfl) (by kernel_rfl) (by kernel_rfl) (by exact fun _ _ _ h => h) (Or.inl ⟨by rfl, ?_⟩) hHeld2 ?_
                rotate_left 1
                · intro w hSw
                  try dsimp only at hSw
                  (go_simp) <;> (with_reducible rfl)
                try simp only [Act.put, List.setIfInBounds_toArray, List.set_cons_zero, List.set_cons_succ]
                refine wpAnyH_ready (rs := [4, 6]) (by kernel_rfl) (by simp) ?_
                refine AllReadyH.cons (by first | (simp only [List.getElem?_toArray, List.getElem?_cons_succ, List.getElem?_cons_zero] <;> rfl) | rfl) (fun K hK => ?_) ?_
                · skip
                  go_simp
                  have hbb := oneb vh2 (.cells #[.int .u32 7, .int .u32 327689, .slice (some ⟨gc, 0, none⟩) 1 1] 73)
                  have hN := Bk.new vh2 73 #[.int .u32 7, .int .u32 327689, .slice (some ⟨gc, 0, none⟩) 1 1] (l := [.int .u32 7, .int .u32 327689, .slice (some ⟨gc, 0, none⟩) 1 1]) rfl
                  have HBn := Lib.hid (HBv.out.trans (hbb.mono HBv.out.size))
                  have HXn := Lib.hid (HXv.out.kept hbb)
                  refine hK.out _ _ (HmkS.out _ HBn.out HXn.out) (fun hHeld3 => ?_)
                  clear hK K
                  generalize World.alloc vh2 _ = vh3 at hbb hN HBn HXn hHeld3 ⊢
                  first | (have HC := Lib.hid (HC.out.kept hbb)) | skip
                  first | (have HRu := Lib.hid (HRu.out.kept hbb)) | skip
                  first | (have HPp := Lib.hid (HPp.out.kept hbb)) | skip
                  obtain ⟨gr, hgg⟩ : ∃ g, g = vh2.heap.size := ⟨_, rfl⟩
                  rw [← hgg] at hN ⊢
                  have HRu := Lib.hid hN
                  clear hN hbb hgg
                  have HBv := HBn
                  have HXv := HXn
                  clear HBn HXn hHeld2
                  try simp only [Act.put, List.setIfInBounds_toArray, List.set_cons_zero, List.set_cons_succ]
                  refine wpAnyH_take (i := 5) (v := ?_) (by first | (simp only [List.getElem?_toArray, List.getElem?_cons_succ, List.getElem?_cons_zero] <;> rfl) | rfl) (by kernel_rfl) (by kernel_rfl) (by kernel_rfl) (by exact fun _ _ _ h => h) (Or.inl ⟨by rfl, ?_⟩) hHeld3 ?_
                  rotate_left 1
                  · intro w hSw
                    try dsimp only at hSw
                    (go_simp) <;> (with_reducible rfl)
                  try simp only [Act.put, List.setIfInBounds_toArray, List.set_cons_zero, List.set_cons_succ]
                  refine wpAnyH_ready (rs := [6]) (by kernel_rfl) (by simp) ?_
                  refine AllReadyH.cons (by first | (simp only [List.getElem?_toArray, List.getElem?_cons_succ, List.getElem?_cons_zero] <;> rfl) | rfl) (fun K hK => ?_) ?_
                  · skip
                    go_simp
                    have hbb := oneb vh3 (.cells #[.string ⟨#[]⟩, .int .u32 0, .slice none 0 0, .int .u16 0, .slice none 0 0, .slice none 0 0] 37)
                    have hN := Bk.new vh3 37 #[.string ⟨#[]⟩, .int .u32 0, .slice none 0 0, .int .u16 0, .slice none 0 0, .slice none 0 0] (l := [.string ⟨#[]⟩, .int .u32 0, .slice none 0 0, .int .u16 0, .slice none 0 0, .slice none 0 0]) rfl
                    have HBn := Lib.hid (HBv.out.trans (hbb.mono HBv.out.size))
                    have HXn := Lib.hid (HXv.out.kept hbb)
                    refine hK.out _ _ (HmkS.out _ HBn.out HXn.out) (fun hHeld4 => ?_)
                    clear hK K
                    generalize World.alloc vh3 _ = vh4 at hbb hN HBn HXn hHeld4 ⊢
                    first | (have HC := Lib.hid (HC.out.kept hbb)) | skip
                    first | (have HRu := Lib.hid (HRu.out.kept hbb)) | skip
                    first | (have HPp := Lib.hid (HPp.out.kept hbb)) | skip
                    have HGe := Lib.hid HBv.out.size
                    obtain ⟨gp, hgg⟩ : ∃ g, g = vh3.heap.size := ⟨_, rfl⟩
                    rw [← hgg] at hN HGe ⊢
                    have HPp := Lib.hid hN
                    clear hN hbb hgg
                    have HBv := HBn
                    have HXv := HXn
                    clear HBn HXn hHeld3
                    try simp only [Act.put, List.setIfInBounds_toArray, List.set_cons_zero, List.set_cons_succ]
                    refine wpAnyH_ready (rs := [7]) (by kernel_rfl) (by simp) ?_
                    refine AllReadyH.cons (by first | (simp only [List.getElem?_toArray, List.getElem?_cons_succ, List.getElem?_cons_zero] <;> rfl) | rfl) (fun K hK => ?_) ?_
                    · skip
                      have y0 := HPp.out.cell 0 rfl
                      have y1 := HPp.out.cell 1 rfl
                      have y2 := HPp.out.cell 2 rfl
                      have y3 := HPp.out.cell 3 rfl
                      have y4 := HPp.out.cell 4 rfl
                      have y5 := HPp.out.cell 5 rfl
                      have z0 := HPp.out.fz 0
                      have z1 := HPp.out.fz 1
                      have z2 := HPp.out.fz 2
                      have z3 := HPp.out.fz 3
                      have z4 := HPp.out.fz 4
                      have z5 := HPp.out.fz 5
                      have yl := HPp.out.lt
                      go_simp
                      obtain ⟨hN, hg⟩ := set6 (.string ⟨#[]⟩) (.int .u32 2147418112) (.slice (some ⟨gr, 0, none⟩) 1 1) (.int .u16 0) (.slice none 0 0) (.slice none 0 0) HPp.out
                      have HBn := Lib.hid (HBv.out.grown hg HBv.out.size (fun q e => by cases e; exact HGe.out))
                      have HXn := Lib.hid (HXv.out.grown hg (fun e => (HXv.out.tyb.ne HPp.out.tyb (by decide)) (Option.some.inj e)))
                      have hC := HC.out.grown hg (fun e => (HC.out.tyb.ne HPp.out.tyb (by decide)) (Option.some.inj e))
                      have hRu := HRu.out.grown hg (fun e => (HRu.out.tyb.ne HPp.out.tyb (by decide)) (Option.some.inj e))
                      refine hK.out _ _ (HmkS.out _ HBn.out HXn.out) (fun hHeld5 => ?_)
                      clear hK K y0 y1 y2 y3 y4 y5 z0 z1 z2 z3 z4 z5 yl
                      generalize World.setCell _ _ _ = vh5 at hN hg HBn HXn hC hRu hHeld5 ⊢
                      have HPp := Lib.hid hN
                      have HC := Lib.hid hC
                      have HRu := Lib.hid hRu
                      clear hN hg hC hRu
                      have HBv := HBn
                      have HXv := HXn
                      clear HBn HXn hHeld4
                      try simp only [Act.put, List.setIfInBounds_toArray, List.set_cons_zero, List.set_cons_succ]
                      refine wpAnyH_done (by kernel_rfl) ?_ _
                      clear hHeld5
                      go_wp2_with fail
                      go_meet
                      case rel => exact ⟨gp, gr, gc, rfl, HPp, HRu, HC, HXv, HBv⟩
                    exact AllReadyH.nil
                  exact AllReadyH.nil
                refine AllReadyH.cons (by first | (simp only [List.getElem?_toArray, List.getElem?_cons_succ, List.getElem?_cons_zero] <;> rfl) | rfl) (fun K hK => ?_) ?_
                · skip
                  go_simp
                  have hbb := oneb vh2 (.cells #[.string ⟨#[]⟩, .int .u32 0, .slice none 0 0, .int .u16 0, .slice none 0 0, .slice none 0 0] 37)
                  have hN := Bk.new vh2 37 #[.string ⟨#[]⟩, .int .u32 0, .slice none 0 0, .int .u16 0, .slice none 0 0, .slice none 0 0] (l := [.string ⟨#[]⟩, .int .u32 0, .slice none 0 0, .int .u16 0, .slice none 0 0, .slice none 0 0]) rfl
                  have HBn := Lib.hid (HBv.out.trans (hbb.mono HBv.out.size))
                  have HXn := Lib.hid (HXv.out.kept hbb)
                  refine hK.out _ _ (HmkS.out _ HBn.out HXn.out) (fun hHeld3 => ?_)
                  clear hK K
                  generalize World.alloc vh2 _ = vh3 at hbb hN HBn HXn hHeld3 ⊢
                  first | (have HC := Lib.hid (HC.out.kept hbb)) | skip
                  first | (have HRu := Lib.hid (HRu.out.kept hbb)) | skip
                  first | (have HPp := Lib.hid (HPp.out.kept hbb)) | skip
                  have HGe := Lib.hid HBv.out.size
                  obtain ⟨gp, hgg⟩ : ∃ g, g = vh2.heap.size := ⟨_, rfl⟩
                  rw [← hgg] at hN HGe ⊢
                  have HPp := Lib.hid hN
                  clear hN hbb hgg
                  have HBv := HBn
                  have HXv := HXn
                  clear HBn HXn hHeld2
                  try simp only [Act.put, List.setIfInBounds_toArray, List.set_cons_zero, List.set_cons_succ]
                  refine wpAnyH_ready (rs := [4]) (by kernel_rfl) (by simp) ?_
                  refine AllReadyH.cons (by first | (simp only [List.getElem?_toArray, List.getElem?_cons_succ, List.getElem?_cons_zero] <;> rfl) | rfl) (fun K hK => ?_) ?_
                  · skip
                    go_simp
                    have hbb := oneb vh3 (.cells #[.int .u32 7, .int .u32 327689, .slice (some ⟨gc, 0, none⟩) 1 1] 73)
                    have hN := Bk.new vh3 73 #[.int .u32 7, .int .u32 327689, .slice (some ⟨gc, 0, none⟩) 1 1] (l := [.int .u32 7, .int .u32 327689, .slice (some ⟨gc, 0, none⟩) 1 1]) rfl
                    have HBn := Lib.hid (HBv.out.trans (hbb.mono HBv.out.size))
                    have HXn := Lib.hid (HXv.out.kept hbb)
                    refine hK.out _ _ (HmkS.out _ HBn.out HXn.out) (fun hHeld4 => ?_)
                    clear hK K
                    generalize World.alloc vh3 _ = vh4 at hbb hN HBn HXn hHeld4 ⊢
                    first | (have HC := Lib.hid (HC.out.kept hbb)) | skip
                    first | (have HRu := Lib.hid (HRu.out.kept hbb)) | skip
                    first | (have HPp := Lib.hid (HPp.out.kept hbb)) | skip
                    obtain ⟨gr, hgg⟩ : ∃ g, g = vh3.heap.size := ⟨_, rfl⟩
                    rw [← hgg] at hN ⊢
                    have HRu := Lib.hid hN
                    clear hN hbb hgg
                    have HBv := HBn
                    have HXv := HXn
                    clear HBn HXn hHeld3
                    try simp only [Act.put, List.setIfInBounds_toArray, List.set_cons_zero, List.set_cons_succ]
                    refine wpAnyH_take (i := 5) (v := ?_) (by first | (simp only [List.getElem?_toArray, List.getElem?_cons_succ, List.getElem?_cons_zero] <;> rfl) | rfl) (by kernel_rfl) (by kernel_rfl) (by kernel_rfl) (by exact fun _ _ _ h => h) (Or.inl ⟨by rfl, ?_⟩) hHeld4 ?_
                    rotate_left 1
                    · intro w hSw
                      try dsimp only at hSw
                      (go_simp) <;> (with_reducible rfl)
                    try simp only [Act.put, List.setIfInBounds_toArray, List.set_cons_zero, List.set_cons_succ]
                    refine wpAnyH_ready (rs := [7]) (by kernel_rfl) (by simp) ?_
                    refine AllReadyH.cons (by first | (simp only [List.getElem?_toArray, List.getElem?_cons_succ, List.getElem?_cons_zero] <;> rfl) | rfl) (fun K hK => ?_) ?_
                    · skip
                      have y0 := HPp.out.cell 0 rfl
                      have y1 := HPp.out.cell 1 rfl
                      have y2 := HPp.out.cell 2 rfl
                      have y3 := HPp.out.cell 3 rfl
                      have y4 := HPp.out.cell 4 rfl
                      have y5 := HPp.out.cell 5 rfl
                      have z0 := HPp.out.fz 0
                      have z1 := HPp.out.fz 1
                      have z2 := HPp.out.fz 2
                      have z3 := HPp.out.fz 3
                      have z4 := HPp.out.fz 4
                      have z5 := HPp.out.fz 5
                      have yl := HPp.out.lt
                      go_simp
                      obtain ⟨hN, hg⟩ := set6 (.string ⟨#[]⟩) (.int .u32 2147418112) (.slice (some ⟨gr, 0, none⟩) 1 1) (.int .u16 0) (.slice none 0 0) (.slice none 0 0) HPp.out
                      have HBn := Lib.hid (HBv.out.grown hg HBv.out.size (fun q e => by cases e; exact HGe.out))
                      have HXn := Lib.hid (HXv.out.grown hg (fun e => (HXv.out.tyb.ne HPp.out.tyb (by decide)) (Option.some.inj e)))
                      have hC := HC.out.grown hg (fun e => (HC.out.tyb.ne HPp.out.tyb (by decide)) (Option.some.inj e))
                      have hRu := HRu.out.grown hg (fun e => (HRu.out.tyb.ne HPp.out.tyb (by decide)) (Option.some.inj e))
                      refine hK.out _ _ (HmkS.out _ HBn.out HXn.out) (fun hHeld5 => ?_)
                      clear hK K y0 y1 y2 y3 y4 y5 z0 z1 z2 z3 z4 z5 yl
                      generalize World.setCell _ _ _ = vh5 at hN hg HBn HXn hC hRu hHeld5 ⊢
                      have HPp := Lib.hid hN
                      have HC := Lib.hid hC
                      have HRu := Lib.hid hRu
                      clear hN hg hC hRu
                      have HBv := HBn
                      have HXv := HXn
                      clear HBn HXn hHeld4
                      try simp only [Act.put, List.setIfInBounds_toArray, List.set_cons_zero, List.set_cons_succ]
                      refine wpAnyH_done (by kernel_rfl) ?_ _
                      clear hHeld5
                      go_wp2_with fail
                      go_meet
                      case rel => exact ⟨gp, gr, gc, rfl, HPp, HRu, HC, HXv, HBv⟩
                    exact AllReadyH.nil
                  exact AllReadyH.nil
                exact AllReadyH.nil
              refine AllReadyH.cons (by first | (simp only [List.getElem?_toArray, List.getElem?_cons_succ, List.getElem?_cons_zero] <;> rfl) | rfl) (fun K hK => ?_) ?_
              · skip
                go_simp
                have hbb := oneb vh1 (.cells #[.string ⟨#[]⟩, .int .u32 0, .slice none 0 0, .int .u16 0, .slice none 0 0, .slice none 0 0] 37)
                have hN := Bk.new vh1 37 #[.string ⟨#[]⟩, .int .u32 0, .slice none 0 0, .int .u16 0, .slice none 0 0, .slice none 0 0] (l := [.string ⟨#[]⟩, .int .u32 0, .slice none 0 0, .int .u16 0, .slice none 0 0, .slice none 0 0]) rfl
                have HBn := Lib.hid (HBv.out.trans (hbb.mono HBv.out.size))
                have HXn := Lib.hid (HXv.out.kept hbb)
                refine hK.out _ _ (HmkS.out _ HBn.out HXn.out) (fun hHeld2 => ?_)
                clear hK K
                generalize World.alloc vh1 _ = vh2 at hbb hN HBn HXn hHeld2 ⊢
                first | (have HC := Lib.hid (HC.out.kept hbb)) | skip
                first | (have HRu := Lib.hid (HRu.out.kept hbb)) | skip
                first | (have HPp := Lib.hid (HPp.out.kept hbb)) | skip
                have HGe := Lib.hid HBv.out.size
                obtain ⟨gp, hgg⟩ : ∃ g, g = vh1.heap.size := ⟨_, rfl⟩
                rw [← hgg] at hN HGe ⊢
                have HPp := Lib.hid hN
                clear hN hbb hgg
                have HBv := HBn
                have HXv := HXn
                clear HBn HXn hHeld1
                try simp only [Act.put, List.setIfInBounds_toArray, List.set_cons_zero, List.set_cons_succ]
                refine wpAnyH_ready (rs := [0]) (by kernel_rfl) (by simp) ?_
                refine AllReadyH.cons (by first | (simp only [List.getElem?_toArray, List.getElem?_cons_zero] <;> rfl) | rfl) (fun K hK => ?_) ?_
                · skip
                  go_simp
                  refine (fail9 _).mono ?_
                  rintro e vh3 ⟨rfl, hbb⟩
                  have HBn := Lib.hid (HBv.out.trans (hbb.mono HBv.out.size))
                  have HXn := Lib.hid (HXv.out.kept hbb)
                  refine hK.out _ _ (HmkS.out _ HBn.out HXn.out) (fun hHeld3 => ?_)
                  clear hK K
                  first | (have HC := Lib.hid (HC.out.kept hbb)) | skip
                  first | (have HRu := Lib.hid (HRu.out.kept hbb)) | skip
                  first | (have HPp := Lib.hid (HPp.out.kept hbb)) | skip
                  clear hbb
                  have HBv := HBn
                  have HXv := HXn
                  clear HBn HXn hHeld2
                  try simp only [Act.put, List.setIfInBounds_toArray, List.set_cons_zero, List.set_cons_succ]
                  refine wpAnyH_take (i := 3) (v := ?_) (by first | (simp only [List.getElem?_toArray, List.getElem?_cons_succ, List.getElem?_cons_zero] <;> rfl) | rfl) (by kernel_rfl) (by kernel_rfl) (by kernel_rfl) (by exact fun _ _ _ h => h) (Or.inl ⟨by rfl, ?_⟩) hHeld3 ?_
                  rotate_left 1
                  · intro w hSw
                    try dsimp only at hSw
                    (go_simp) <;> (with_reducible rfl)
                  try simp only [Act.put, List.setIfInBounds_toArray, List.set_cons_zero, List.set_cons_succ]
                  refine wpAnyH_ready (rs := [4]) (by kernel_rfl) (by simp) ?_
                  refine AllReadyH.cons (by first | (simp only [List.getElem?_toArray, List.getElem?_cons_succ, List.getElem?_cons_zero] <;> rfl) | rfl) (fun K hK => ?_) ?_
                  · skip
                    go_simp
                    have hbb := oneb vh3 (.cells #[.int .u32 7, .int .u32 327689, .slice (some ⟨gc, 0, none⟩) 1 1] 73)
                    have hN := Bk.new vh3 73 #[.int .u32 7, .int .u32 327689, .slice (some ⟨gc, 0, none⟩) 1 1] (l := [.int .u32 7, .int .u32 327689, .slice (some ⟨gc, 0, none⟩) 1 1]) rfl
                    have HBn := Lib.hid (HBv.out.trans (hbb.mono HBv.out.size))
                    have HXn := Lib.hid (HXv.out.kept hbb)
                    refine hK.out _ _ (HmkS.out _ HBn.out HXn.out) (fun hHeld4 => ?_)
                    clear hK K
                    generalize World.alloc vh3 _ = vh4 at hbb hN HBn HXn hHeld4 ⊢
                    first | (have HC := Lib.hid (HC.out.kept hbb)) | skip
                    first | (have HRu := Lib.hid (HRu.out.kept hbb)) | skip
                    first | (have HPp := Lib.hid (HPp.out.kept hbb)) | skip
                    obtain ⟨gr, hgg⟩ : ∃ g, g = vh3.heap.size := ⟨_, rfl⟩
                    rw [← hgg] at hN ⊢
                    have HRu := Lib.hid hN
                    clear hN hbb hgg
                    have HBv := HBn
                    have HXv := HXn
                    clear HBn HXn hHeld3
                    try simp only [Act.put, List.setIfInBounds_toArray, List.set_cons_zero, List.set_cons_succ]
                    refine wpAnyH_take (i := 5) (v := ?_) (by first | (simp only [List.getElem?_toArray, List.getElem?_cons_succ, List.getElem?_cons_zero] <;> rfl) | rfl) (by kernel_rfl) (by kernel_rfl) (by kernel_rfl) (by exact fun _ _ _ h => h) (Or.inl ⟨by rfl, ?_⟩) hHeld4 ?_
                    rotate_left 1
                    · intro w hSw
                      try dsimp only at hSw
                      (go_simp) <;> (with_reducible rfl)
                    try simp only [Act.put, List.setIfInBounds_toArray, List.set_cons_zero, List.set_cons_succ]
                    refine wpAnyH_ready (rs := [7]) (by kernel_rfl) (by simp) ?_
                    refine AllReadyH.cons (by first | (simp only [List.getElem?_toArray, List.getElem?_cons_succ, List.getElem?_cons_zero] <;> rfl) | rfl) (fun K hK => ?_) ?_
                    · skip
                      have y0 := HPp.out.cell 0 rfl
                      have y1 := HPp.out.cell 1 rfl
                      have y2 := HPp.out.cell 2 rfl
                      have y3 := HPp.out.cell 3 rfl
                      have y4 := HPp.out.cell 4 rfl
                      have y5 := HPp.out.cell 5 rfl
                      have z0 := HPp.out.fz 0
                      have z1 := HPp.out.fz 1
                      have z2 := HPp.out.fz 2
                      have z3 := HPp.out.fz 3
                      have z4 := HPp.out.fz 4
                      have z5 := HPp.out.fz 5
                      have yl := HPp.out.lt
                      go_simp
                      obtain ⟨hN, hg⟩ := set6 (.string ⟨#[]⟩) (.int .u32 2147418112) (.slice (some ⟨gr, 0, none⟩) 1 1) (.int .u16 0) (.slice none 0 0) (.slice none 0 0) HPp.out
                      have HBn := Lib.hid (HBv.out.grown hg HBv.out.size (fun q e => by cases e; exact HGe.out))
                      have HXn := Lib.hid (HXv.out.grown hg (fun e => (HXv.out.tyb.ne HPp.out.tyb (by decide)) (Option.some.inj e)))
                      have hC := HC.out.grown hg (fun e => (HC.out.tyb.ne HPp.out.tyb (by decide)) (Option.some.inj e))
                      have hRu := HRu.out.grown hg (fun e => (HRu.out.tyb.ne HPp.out.tyb (by decide)) (Option.some.inj e))
                      refine hK.out _ _ (HmkS.out _ HBn.out HXn.out) (fun hHeld5 => ?_)
                      clear hK K y0 y1 y2 y3 y4 y5 z0 z1 z2 z3 z4 z5 yl
                      generalize World.setCell _ _ _ = vh5 at hN hg HBn HXn hC hRu hHeld5 ⊢
                      have HPp := Lib.hid hN
                      have HC := Lib.hid hC
                      have HRu := Lib.hid hRu
                      clear hN hg hC hRu
                      have HBv := HBn
                      have HXv := HXn
                      clear HBn HXn hHeld4
                      try simp only [Act.put, List.setIfInBounds_toArray, List.set_cons_zero, List.set_cons_succ]
                      refine wpAnyH_done (by kernel_rfl) ?_ _
                      clear hHeld5
                      go_wp2_with fail
                      go_meet
                      case rel => exact ⟨gp, gr, gc, rfl, HPp, HRu, HC, HXv, HBv⟩
                    exact AllReadyH.nil
                  exact AllReadyH.nil
                exact AllReadyH.nil
              exact AllReadyH.nil
            refine AllReadyH.cons (by first | (simp only [List.getElem?_toArray, List.getElem?_cons_succ, List.getElem?_cons_zero] <;> rfl) | rfl) (fun K hK => ?_) ?_
            · skip
              go_simp
              have hbb := oneb vh0 (.cells #[.string ⟨#[]⟩, .int .u32 0, .slice none 0 0, .int .u16 0, .slice none 0 0, .slice none 0 0] 37)
              have hN := Bk.new vh0 37 #[.string ⟨#[]⟩, .int .u32 0, .slice none 0 0, .int .u16 0, .slice none 0 0, .slice none 0 0] (l := [.string ⟨#[]⟩, .int .u32 0, .slice none 0 0, .int .u16 0, .slice none 0 0, .slice none 0 0]) rfl
              have HBn := Lib.hid (HBv.out.trans (hbb.mono HBv.out.size))
              have HXn := Lib.hid (HXv.out.kept hbb)
              refine hK.out _ _ (HmkS.out _ HBn.out HXn.out) (fun hHeld1 => ?_)
              clear hK K
              generalize World.alloc vh0 _ = vh1 at hbb hN HBn HXn hHeld1 ⊢
              first | (have HC := Lib.hid (HC.out.kept hbb)) | skip
              first | (have HRu := Lib.hid (HRu.out.kept hbb)) | skip
              first | (have HPp := Lib.hid (HPp.out.kept hbb)) | skip
              have HGe := Lib.hid HBv.out.size
              obtain ⟨gp, hgg⟩ : ∃ g, g = vh0.heap.size := ⟨_, rfl⟩
              rw [← hgg] at hN HGe ⊢
              have HPp := Lib.hid hN
              clear hN hbb hgg
              have HBv := HBn
              have HXv := HXn
              clear HBn HXn hHeld0
              try simp only [Act.put, List.setIfInBounds_toArray, List.set_cons_zero, List.set_cons_succ]
              refine wpAnyH_ready (rs := [0, 2]) (by kernel_rfl) (by simp) ?_
              refine AllReadyH.cons (by first | (simp only [List.getElem?_toArray, List.getElem?_cons_zero] <;> rfl) | rfl) (fun K hK => ?_) ?_
              · skip
                go_simp
                refine (fail9 _).mono ?_
                rintro e vh2 ⟨rfl, hbb⟩
                have HBn := Lib.hid (HBv.out.trans (hbb.mono HBv.out.size))
                have HXn := Lib.hid (HXv.out.kept hbb)
                refine hK.out _ _ (HmkS.out _ HBn.out HXn.out) (fun hHeld2 => ?_)
                clear hK K
                first | (have HC := Lib.hid (HC.out.kept hbb)) | skip
                first | (have HRu := Lib.hid (HRu.out.kept hbb)) | skip
                first | (have HPp := Lib.hid (HPp.out.kept hbb)) | skip
                clear hbb
                have HBv := HBn
                have HXv := HXn
                clear HBn HXn hHeld1
                try simp only [Act.put, List.setIfInBounds_toArray, List.set_cons_zero, List.set_cons_succ]
                refine wpAnyH_ready (rs := [2]) (by kernel_rfl) (by simp) ?_
                refine AllReadyH.cons (by first | (simp only [List.getElem?_toArray, List.getElem?_cons_succ, List.getElem?_cons_zero] <;> rfl) | rfl) (fun K hK => ?_) ?_
                · skip
                  go_simp
                  have hbb := oneb vh2 (.cells #[.int .i64 x.arg, .int .u8 x.op, .int .u64 x.mask, .int .u64 x.val] 66)
                  have hN := Bk.new vh2 66 #[.int .i64 x.arg, .int .u8 x.op, .int .u64 x.mask, .int .u64 x.val] (l := [.int .i64 x.arg, .int .u8 x.op, .int .u64 x.mask, .int .u64 x.val]) rfl
                  have HBn := Lib.hid (HBv.out.trans (hbb.mono HBv.out.size))
                  have HXn := Lib.hid (HXv.out.kept hbb)
                  refine hK.out _ _ (HmkS.out _ HBn.out HXn.out) (fun hHeld3 => ?_)
                  clear hK K
                  generalize World.alloc vh2 _ = vh3 at hbb hN HBn HXn hHeld3 ⊢
                  first | (have HC := Lib.hid (HC.out.kept hbb)) | skip
                  first | (have HRu := Lib.hid (HRu.out.kept hbb)) | skip
                  first | (have HPp := Lib.hid (HPp.out.kept hbb)) | skip
                  obtain ⟨gc, hgg⟩ : ∃ g, g = vh2.heap.size := ⟨_, rfl⟩
                  rw [← hgg] at hN ⊢
                  have HC := Lib.hid hN
                  clear hN hbb hgg
                  have HBv := HBn
                  have HXv := HXn
                  clear HBn HXn hHeld2
                  try simp only [Act.put, List.setIfInBounds_toArray, List.set_cons_zero, List.set_cons_succ]
                  refine wpAnyH_take (i := 3) (v := ?_) (by first | (simp only [List.getElem?_toArray, List.getElem?_cons_succ, List.getElem?_cons_zero] <;> rfl) | rfl) (by kernel_rfl) (by kernel_rfl) (by kernel_rfl) (by exact fun _ _ _ h => h) (Or.inl ⟨by rfl, ?_⟩) hHeld3 ?_
                  rotate_left 1
                  · intro w hSw
                    try dsimp only at hSw
                    (go_simp) <;> (with_reducible rfl)
                  try simp only [Act.put, List.setIfInBounds_toArray, List.set_cons_zero, List.set_cons_succ]
                  refine wpAnyH_ready (rs := [4]) (by kernel_rfl) (by simp) ?_
                  refine AllReadyH.cons (by first | (simp only [List.getElem?_toArray, List.getElem?_cons_succ, List.getElem?_cons_zero] <;> rfl) | rfl) (fun K hK => ?_) ?_
                  · skip
                    go_simp
                    have hbb := oneb vh3 (.cells #[.int .u32 7, .int .u32 327689, .slice (some ⟨gc, 0, none⟩) 1 1] 73)
                    have hN := Bk.new vh3 73 #[.int .u32 7, .int .u32 327689, .slice (some ⟨gc, 0, none⟩) 1 1] (l := [.int .u32 7, .int .u32 327689, .slice (some ⟨gc, 0, none⟩) 1 1]) rfl
                    have HBn := Lib.hid (HBv.out.trans (hbb.mono HBv.out.size))
                    have HXn := Lib.hid (HXv.out.kept hbb)
                    refine hK.out _ _ (HmkS.out _ HBn.out HXn.out) (fun hHeld4 => ?_)
                    clear hK K
                    generalize World.alloc vh3 _ = vh4 at hbb hN HBn HXn hHeld4 ⊢
                    first | (have HC := Lib.hid (HC.out.kept hbb)) | skip
                    first | (have HRu := Lib.hid (HRu.out.kept hbb)) | skip
                    first | (have HPp := Lib.hid (HPp.out.kept hbb)) | skip
                    obtain ⟨gr, hgg⟩ : ∃ g, g = vh3.heap.size := ⟨_, rfl⟩
                    rw [← hgg] at hN ⊢
                    have HRu := Lib.hid hN
                    clear hN hbb hgg
                    have HBv := HBn
                    have HXv := HXn
                    clear HBn HXn hHeld3
                    try simp only [Act.put, List.setIfInBounds_toArray, List.set_cons_zero, List.set_cons_succ]
                    refine wpAnyH_take (i := 5) (v := ?_) (by first | (simp only [List.getElem?_toArray, List.getElem?_cons_succ, List.getElem?_cons_zero] <;> rfl) | rfl) (by kernel_rfl) (by kernel_rfl) (by kernel_rfl) (by exact fun _ _ _ h => h) (Or.inl ⟨by rfl, ?_⟩) hHeld4 ?_
                    rotate_left 1
                    · intro w hSw
                      try dsimp only at hSw
                      (go_simp) <;> (with_reducible rfl)
                    try simp only [Act.put, List.setIfInBounds_toArray, List.set_cons_zero, List.set_cons_succ]
                    refine wpAnyH_ready (rs := [7]) (by kernel_rfl) (by simp) ?_
                    refine AllReadyH.cons (by first | (simp only [List.getElem?_toArray, List.getElem?_cons_succ, List.getElem?_cons_zero] <;> rfl) | rfl) (fun K hK => ?_) ?_
                    · skip
                      have y0 := HPp.out.cell 0 rfl
                      have y1 := HPp.out.cell 1 rfl
                      have y2 := HPp.out.cell 2 rfl
                      have y3 := HPp.out.cell 3 rfl
                      have y4 := HPp.out.cell 4 rfl
                      have y5 := HPp.out.cell 5 rfl
                      have z0 := HPp.out.fz 0
                      have z1 := HPp.out.fz 1
                      have z2 := HPp.out.fz 2
                      have z3 := HPp.out.fz 3
                      have z4 := HPp.out.fz 4
                      have z5 := HPp.out.fz 5
                      have yl := HPp.out.lt
                      go_simp
                      obtain ⟨hN, hg⟩ := set6 (.string ⟨#[]⟩) (.int .u32 2147418112) (.slice (some ⟨gr, 0, none⟩) 1 1) (.int .u16 0) (.slice none 0 0) (.slice none 0 0) HPp.out
                      have HBn := Lib.hid (HBv.out.grown hg HBv.out.size (fun q e => by cases e; exact HGe.out))
                      have HXn := Lib.hid (HXv.out.grown hg (fun e => (HXv.out.tyb.ne HPp.out.tyb (by decide)) (Option.some.inj e)))
                      have hC := HC.out.grown hg (fun e => (HC.out.tyb.ne HPp.out.tyb (by decide)) (Option.some.inj e))
                      have hRu := HRu.out.grown hg (fun e => (HRu.out.tyb.ne HPp.out.tyb (by decide)) (Option.some.inj e))
                      refine hK.out _ _ (HmkS.out _ HBn.out HXn.out) (fun hHeld5 => ?_)
                      clear hK K y0 y1 y2 y3 y4 y5 z0 z1 z2 z3 z4 z5 yl
                      generalize World.setCell _ _ _ = vh5 at hN hg HBn HXn hC hRu hHeld5 ⊢
                      have HPp := Lib.hid hN
                      have HC := Lib.hid hC
                      have HRu := Lib.hid hRu
                      clear hN hg hC hRu
                      have HBv := HBn
                      have HXv := HXn
                      clear HBn HXn hHeld4
                      try simp only [Act.put, List.setIfInBounds_toArray, List.set_cons_zero, List.set_cons_succ]
                      refine wpAnyH_done (by kernel_rfl) ?_ _
                      clear hHeld5
                      go_wp2_with fail
                      go_meet
                      case rel => exact ⟨gp, gr, gc, rfl, HPp, HRu, HC, HXv, HBv⟩
                    exact AllReadyH.nil
                  exact AllReadyH.nil
                exact AllReadyH.nil
              refine AllReadyH.cons (by first | (simp only [List.getElem?_toArray, List.getElem?_cons_succ, List.getElem?_cons_zero] <;> rfl) | rfl) (fun K hK => ?_) ?_
              · skip
                go_simp
                have hbb := oneb vh1 (.cells #[.int .i64 x.arg, .int .u8 x.op, .int .u64 x.mask, .int .u64 x.val] 66)
                have hN := Bk.new vh1 66 #[.int .i64 x.arg, .int .u8 x.op, .int .u64 x.mask, .int .u64 x.val] (l := [.int .i64 x.arg, .int .u8 x.op, .int .u64 x.mask, .int .u64 x.val]) rfl
                have HBn := Lib.hid (HBv.out.trans (hbb.mono HBv.out.size))
                have HXn := Lib.hid (HXv.out.kept hbb)
                refine hK.out _ _ (HmkS.out _ HBn.out HXn.out) (fun hHeld2 => ?_)
                clear hK K
                generalize World.alloc vh1 _ = vh2 at hbb hN HBn HXn hHeld2 ⊢
                first | (have HC := Lib.hid (HC.out.kept hbb)) | skip
                first | (have HRu := Lib.hid (HRu.out.kept hbb)) | skip
                first | (have HPp := Lib.hid (HPp.out.kept hbb)) | skip
                obtain ⟨gc, hgg⟩ : ∃ g, g = vh1.heap.size := ⟨_, rfl⟩
                rw [← hgg] at hN ⊢
                have HC := Lib.hid hN
                clear hN hbb hgg
                have HBv := HBn
                have HXv := HXn
                clear HBn HXn hHeld1
                try simp only [Act.put, List.setIfInBounds_toArray, List.set_cons_zero, List.set_cons_succ]
                refine wpAnyH_ready (rs := [0]) (by kernel_rfl) (by simp) ?_
                refine AllReadyH.cons (by first | (simp only [List.getElem?_toArray, List.getElem?_cons_zero] <;> rfl) | rfl) (fun K hK => ?_) ?_
                · skip
                  go_simp
                  refine (fail9 _).mono ?_
                  rintro e vh3 ⟨rfl, hbb⟩
                  have HBn := Lib.hid (HBv.out.trans (hbb.mono HBv.out.size))
                  have HXn := Lib.hid (HXv.out.kept hbb)
                  refine hK.out _ _ (HmkS.out _ HBn.out HXn.out) (fun hHeld3 => ?_)
                  clear hK K
                  first | (have HC := Lib.hid (HC.out.kept hbb)) | skip
                  first | (have HRu := Lib.hid (HRu.out.kept hbb)) | skip
                  first | (have HPp := Lib.hid (HPp.out.kept hbb)) | skip
                  clear hbb
                  have HBv := HBn
                  have HXv := HXn
                  clear HBn HXn hHeld2
                  try simp only [Act.put, List.setIfInBounds_toArray, List.set_cons_zero, List.set_cons_succ]
                  refine wpAnyH_take (i := 3) (v := ?_) (by first | (simp only [List.getElem?_toArray, List.getElem?_cons_succ, List.getElem?_cons_zero] <;> rfl) | rfl) (by kernel_rfl) (by kernel_rfl) (by kernel_rfl) (by exact fun _ _ _ h => h) (Or.inl ⟨by rfl, ?_⟩) hHeld3 ?_
                  rotate_left 1
                  · intro w hSw
                    try dsimp only at hSw
                    (go_simp) <;> (with_reducible rfl)
                  try simp only [Act.put, List.setIfInBounds_toArray, List.set_cons_zero, List.set_cons_succ]
                  refine wpAnyH_ready (rs := [4]) (by kernel_rfl) (by simp) ?_
                  refine AllReadyH.cons (by first | (simp only [List.getElem?_toArray, List.getElem?_cons_succ, List.getElem?_cons_zero] <;> rfl) | rfl) (fun K hK => ?_) ?_
                  · skip
                    go_simp
                    have hbb := oneb vh3 (.cells #[.int .u32 7, .int .u32 327689, .slice (some ⟨gc, 0, none⟩) 1 1] 73)
                    have hN := Bk.new vh3 73 #[.int .u32 7, .int .u32 327689, .slice (some ⟨gc, 0, none⟩) 1 1] (l := [.int .u32 7, .int .u32 327689, .slice (some ⟨gc, 0, none⟩) 1 1]) rfl
                    have HBn := Lib.hid (HBv.out.trans (hbb.mono HBv.out.size))
                    have HXn := Lib.hid (HXv.out.kept hbb)
                    refine hK.out _ _ (HmkS.out _ HBn.out HXn.out) (fun hHeld4 => ?_)
                    clear hK K
                    generalize World.alloc vh3 _ = vh4 at hbb hN HBn HXn hHeld4 ⊢
                    first | (have HC := Lib.hid (HC.out.kept hbb)) | skip
                    first | (have HRu := Lib.hid (HRu.out.kept hbb)) | skip
                    first | (have HPp := Lib.hid (HPp.out.kept hbb)) | skip
                    obtain ⟨gr, hgg⟩ : ∃ g, g = vh3.heap.size := ⟨_, rfl⟩
                    rw [← hgg] at hN ⊢
                    have HRu := Lib.hid hN
                    clear hN hbb hgg
                    have HBv := HBn
                    have HXv := HXn
                    clear HBn HXn hHeld3
                    try simp only [Act.put, List.setIfInBounds_toArray, List.set_cons_zero, List.set_cons_succ]
                    refine wpAnyH_take (i := 5) (v := ?_) (by first | (simp only [List.getElem?_toArray, List.getElem?_cons_succ, List.getElem?_cons_zero] <;> rfl) | rfl) (by kernel_rfl) (by kernel_rfl) (by kernel_rfl) (by exact fun _ _ _ h => h) (Or.inl ⟨by rfl, ?_⟩) hHeld4 ?_
                    rotate_left 1
                    · intro w hSw
                      try dsimp only at hSw
                      (go_simp) <;> (with_reducible rfl)
                    try simp only [Act.put, List.setIfInBounds_toArray, List.set_cons_zero, List.set_cons_succ]
                    refine wpAnyH_ready (rs := [7]) (by kernel_rfl) (by simp) ?_
                    refine AllReadyH.cons (by first | (simp only [List.getElem?_toArray, List.getElem?_cons_succ, List.getElem?_cons_zero] <;> rfl) | rfl) (fun K hK => ?_) ?_
                    · skip
                      have y0 := HPp.out.cell 0 rfl
                      have y1 := HPp.out.cell 1 rfl
                      have y2 := HPp.out.cell 2 rfl
                      have y3 := HPp.out.cell 3 rfl
                      have y4 := HPp.out.cell 4 rfl
                      have y5 := HPp.out.cell 5 rfl
                      have z0 := HPp.out.fz 0
                      have z1 := HPp.out.fz 1
                      have z2 := HPp.out.fz 2
                      have z3 := HPp.out.fz 3
                      have z4 := HPp.out.fz 4
                      have z5 := HPp.out.fz 5
                      have yl := HPp.out.lt
                      go_simp
                      obtain ⟨hN, hg⟩ := set6 (.string ⟨#[]⟩) (.int .u32 2147418112) (.slice (some ⟨gr, 0, none⟩) 1 1) (.int .u16 0) (.slice none 0 0) (.slice none 0 0) HPp.out
                      have HBn := Lib.hid (HBv.out.grown hg HBv.out.size (fun q e => by cases e; exact HGe.out))
                      have HXn := Lib.hid (HXv.out.grown hg (fun e => (HXv.out.tyb.ne HPp.out.tyb (by decide)) (Option.some.inj e)))
                      have hC := HC.out.grown hg (fun e => (HC.out.tyb.ne HPp.out.tyb (by decide)) (Option.some.inj e))
                      have hRu := HRu.out.grown hg (fun e => (HRu.out.tyb.ne HPp.out.tyb (by decide)) (Option.some.inj e))
                      refine hK.out _ _ (HmkS.out _ HBn.out HXn.out) (fun hHeld5 => ?_)
                      clear hK K y0 y1 y2 y3 y4 y5 z0 z1 z2 z3 z4 z5 yl
                      generalize World.setCell _ _ _ = vh5 at hN hg HBn HXn hC hRu hHeld5 ⊢
                      have HPp := Lib.hid hN
                      have HC := Lib.hid hC
                      have HRu := Lib.hid hRu
                      clear hN hg hC hRu
                      have HBv := HBn
                      have HXv := HXn
                      clear HBn HXn hHeld4
                      try simp only [Act.put, List.setIfInBounds_toArray, List.set_cons_zero, List.set_cons_succ]
                      refine wpAnyH_done (by kernel_rfl) ?_ _
                      clear hHeld5
                      go_wp2_with fail
                      go_meet
                      case rel => exact ⟨gp, gr, gc, rfl, HPp, HRu, HC, HXv, HBv⟩
                    exact AllReadyH.nil
                  exact AllReadyH.nil
                exact AllReadyH.nil
              exact AllReadyH.nil
            exact AllReadyH.nil
          case rest =>
            rename World => w6
            obtain ⟨gp, gr, gc, rfl, HPp, HRu, HC, HX, HB56⟩ := hcut
            clear HmkS x0 x1 x2 x3 xl
            have HGx := HX
            have HBw0 := HBw
            have HBw := Lib.hid (HB.out.trans (HB56.out.mono HB.out.size))
            clear HX HB HB56
            have HRr := Lib.hid (show RRd w6 [⟨⟨7, 327689, [x]⟩, some ⟨gc, 0, none⟩, 1⟩] (some ⟨gr, 0, none⟩) from ⟨Ju.bk_rd (n := 1) (z := 3) HRu.out rfl, (fun r hr => by
              obtain rfl := List.mem_singleton.1 hr
              exact Ju.bk_rd (n := 1) (z := 4) HC.out rfl), (fun r hr => by
              obtain rfl := List.mem_singleton.1 hr
              exact ⟨by show 7 < _; omega, by show 327689 < _; omega, by show 1 ≤ _; unfold maxLen; omega, fun q hq => by obtain rfl := List.mem_singleton.1 hq; exact HXo.out⟩)⟩)
            have hof := Lib.hid (of_anyC ⟨#[]⟩ 2147418112 [⟨⟨7, 327689, [x]⟩, some ⟨gc, 0, none⟩, 1⟩] (some ⟨gr, 0, none⟩) 1 1 0 none 0 0 none 0 0 w6 rfl (by omega) HRr.out (fun r hr => by obtain rfl := List.mem_singleton.1 hr; show 1 ≤ _; omega))
            have y0 := HPp.out.cell 0 rfl
            have y1 := HPp.out.cell 1 rfl
            have y2 := HPp.out.cell 2 rfl
            have y3 := HPp.out.cell 3 rfl
            have y4 := HPp.out.cell 4 rfl
            have y5 := HPp.out.cell 5 rfl
            have yl := HPp.out.lt
            go_wp2_with fail
            refine hof.out.mono ?_
            clear y0 y1 y2 y3 y4 y5 yl hof HPp HRu HC HRr
            rintro e w7 ⟨hb7, l', hS, CA, Cc, cs, hcs, rfl, hP, hcap⟩
            have HBw := Lib.hid (HBw.out.trans (hb7.mono HBw.out.size))
            have HB6 := Lib.hid hb7
            have hS' : Sorted [(⟨7, 327689, [x]⟩ : RuleM)] l' := hS
            have hok1 : ∀ r ∈ [(⟨7, 327689, [x]⟩ : RuleM)], r.ok := fun r hr => by
              obtain rfl := List.mem_singleton.1 hr
              exact ⟨by show 7 < _; omega, by show 327689 < _; omega, by show 1 ≤ _; unfold maxLen; omega, fun q hq => by obtain rfl := List.mem_singleton.1 hq; exact HXo.out⟩
            have hcl : cs.length ≤ 1 := by
              have h1 := Go.Proofs.YtcageojoafkojaaGreat.Ir.plan_len hS'
              rw [← hcs, List.length_map] at h1
              exact h1
            have hsml : ∀ c ∈ cs, c.brs.length ≤ 100000 ∧ ∀ b ∈ c.brs, b.m.conds.length ≤ 100000 ∧ ∀ q ∈ b.m.conds, q.ok := fun cc hc => by
              have hm : cc.m ∈ ofF l' := by rw [← hcs]; exact List.mem_map.2 ⟨cc, hc, rfl⟩
              obtain ⟨q1, q2⟩ := plan_sub hS' cc.m hm
              have q3 : cc.m.brs.length = cc.brs.length := by show (cc.brs.map BrV.m).length = _; rw [List.length_map]
              simp only [List.length_cons, List.length_nil] at q1
              refine ⟨by omega, fun b hb => ?_⟩
              obtain ⟨r, hrm, _, _, h4, h5⟩ := q2 b.m (List.mem_map.2 ⟨b, hb, rfl⟩)
              obtain rfl := List.mem_singleton.1 hrm
              exact ⟨by simp only [List.length_cons, List.length_nil] at h4; omega, fun q hq => (hok1 _ (List.mem_singleton.2 rfl)).2.2.2 q (h5 q hq)⟩
            have hsz := of_size (R := 1) (C := 1) hS' (by simp) (fun r hr => by obtain rfl := List.mem_singleton.1 hr; simp)
            have hpl := Lo.plan_len 2147418112 (cs.map CaV.m)
            rw [hcs] at hpl
            have hplN : (planL 2147418112 (ofF l')).length ≤ 25 := by omega
            have hfi := of_fine hS' hok1
            have hpf := plan_fine (d := 2147418112) (by omega) hfi (by
              have h1 := search_cnt 2147418112 (ofF l').length 2 (ofF l')
              by_cases h0 : ofF l' = []
              · rw [h0]; show (2 : Nat) ≤ _; omega
              · have h2 := search_len 2147418112 (ofF l').length 2 (ofF l') (Nat.le_refl _) h0
                omega)
            have hmd : MadeR (planL 2147418112 (ofF l')) := made_of (plan_fwd _ _) hpf.fin (plan_last _ _) (by have := wt_len (planL 2147418112 (ofF l')); omega)
            have HMd := Lib.hid hmd
            have HOk := Lib.hid hpf.ok
            have HMs := Lib.hid (fun (X : RcM) (hx : X.ok) (bs : List Nat) (hb : Sees (recW bs) X) => code_says hS' hok1 hmd hx hb)
            have HPl := Lib.hid (plan_any cs CA cs.length Cc 2147418112 w7 (csin_of hP hsml) rfl hcap (by omega) (by rw [hcs]; omega))
            rw [hcs] at HPl
            obtain ⟨nC, hnC⟩ : ∃ n, n = cs.length := ⟨_, rfl⟩
            rw [← hnC] at HPl ⊢
            obtain ⟨PL, hPL⟩ : ∃ z, z = planL 2147418112 (ofF l') := ⟨_, rfl⟩
            rw [← hPL] at HPl HMd HOk HMs hplN
            obtain ⟨N, hN⟩ : ∃ z, z = PL.length := ⟨_, rfl⟩
            unfold PtPost at HPl
            rw [← hN] at HPl hplN
            have HPk := Lib.hid hN.symm
            clear hb7 hS hS' hok1 hcs hP hcap hcl hsml hsz hpl hfi hpf hmd hnC hPL hN
            go_wp2_with fail
            refine HPl.out.mono ?_
            rintro e w8 ⟨A1, c1, rfl, hr1, hb8⟩
            have HR1 := Lib.hid hr1
            have HBw := Lib.hid (HBw.out.trans (hb8.mono HBw.out.size))
            have HB6 := Lib.hid (HB6.out.trans (hb8.mono HB6.out.size))
            clear hr1 hb8 HPl
            go_wp2_with fail
            refine (make_any PL N A1 c1 w8 HPk.out (by omega) HOk.out HR1.out).mono ?_
            rintro e w9 ⟨hb2, hmk, _⟩
            obtain ⟨v, hr, rfl⟩ := hmk HMd.out.ok
            have HIk := Lib.hid (make_oks PL HOk.out HMd.out.ok)
            have HIl := Lib.hid (make_len PL HMd.out.ok)
            have HGd := Lib.hid HMd.out.good
            have HSay := Lib.hid HMd.out.says
            obtain ⟨ins, hins⟩ : ∃ i, i = (makeF PL).2.ins := ⟨_, rfl⟩
            rw [← hins] at hr HIk HIl HGd HSay HMs
            obtain ⟨K, hK⟩ : ∃ K, K = ins.length := ⟨_, rfl⟩
            rw [← hK] at hr HIl
            have hK4 : K ≤ 4096 := HIl.out
            obtain ⟨Aa, ca, rfl, _⟩ := own_typed hr
            have HBm := Lib.hid hb2
            have HBw := Lib.hid (HBw.out.trans (hb2.mono HBw.out.size))
            have HKl := Lib.hid hK.symm
            have HL1 := Lib.hid (load_any ins K Aa ca w9 hK.symm HIk.out (own_rdI hr) (by unfold maxLen; omega))
            clear hb2 hmk hr hins hK HMd HIl
            have HBw9 := HBw
            have HB6 := Lib.hid (HB6.out.trans (HBm.out.mono HB6.out.size))
            have HB69 := HB6
            go_wp2_with fail
            refine HL1.out.mono ?_
            rintro e w10 ⟨_, _, _, hb3, hgood | ⟨hbad, _⟩⟩
            rotate_left 1
            · exact absurd HGd.out hbad
            obtain ⟨_, rfl, rfl, p, fb, fo, fc, hp, hpb, rfl, hF⟩ := hgood
            have HPw := Lib.hid (show w4.heap.size ≤ p from Nat.le_trans HBw.out.size hp)
            have HPw2 := Lib.hid (show w9.heap.size ≤ p from hp)
            have HBw := Lib.hid (HBw.out.trans (hb3.mono HBw.out.size))
            have HB23 := Lib.hid hb3
            go_upto_region 10 with fail
            have hx := Bk.new w10 51 #[.int .i64 0, .int .i64 0] (l := [.int .i64 0, .int .i64 0]) rfl
            have hb4 := oneb w10 (.cells #[.int .i64 0, .int .i64 0] 51)
            generalize World.alloc w10 _ = w11 at hx hb4 ⊢
            have hF4 := hF.below hb4
            obtain ⟨BB, hBB⟩ : ∃ b, b = w10.heap.size := ⟨_, rfl⟩
            have HBw := Lib.hid (HBw.out.trans (hb4.mono HBw.out.size))
            have HB24 := Lib.hid (HB23.out.trans (hb4.mono HB23.out.size))
            rw [← hBB] at hF4 hx ⊢
            have HF := Lib.hid hF4
            have HX := Lib.hid hx
            have HXp := Lib.hid (show BB ≠ p by have := hF4.lp; omega)
            clear hb3 hp hpb hF hx hb4 hF4 hBB HL1 HB23
            have HB6 := Lib.hid (HB6.out.trans (HB24.out.mono HB6.out.size))
            have y0 := HX.out.cell 0 rfl
            have y1 := HX.out.cell 1 rfl
            have yl := HX.out.lt
            have hQ : ∀ W : World, (binOp .neq 51 (.agg #[.int .i64 0, .int .i64 0]) (.agg #[.int .i64 0, .int .i64 0])).run Tryz.prog W = .ok (.bool false) W := fun W => by kernel_rfl
            have hgx := HGx.out.kept HB6.out
            have x3 := hgx.cell 3 rfl
            have xl := hgx.lt
            obtain ⟨n3, l3, q3⟩ := wrap_nat ((x.val : Int) + 1)
            obtain ⟨n4, l4, q4⟩ := wrap_nat ((x.val : Int) - 1)
            have hxv := HXo.out.2.2.2.2
            have q3b : ((x.val : Int) + 1) % 18446744073709551616 = (n3 : Int) := by rw [← q3, IntKind.wrap_u64]
            have q4b : ((x.val : Int) - 1) % 18446744073709551616 = (n4 : Int) := by rw [← q4, IntKind.wrap_u64]
            have q5 : bits .xor .u64 (x.val : Int) 4294967296 = ((x.val ^^^ 4294967296 : Nat) : Int) := u64_xor_nat x.val 4294967296 hxv (by omega)
            have l5 : x.val ^^^ 4294967296 < 18446744073709551616 := Nat.xor_lt_two_pow (n := 64) hxv (by omega)
            have q6 : bits .and .u64 (x.val : Int) 4294967295 = ((x.val &&& 4294967295 : Nat) : Int) := u64_and_nat x.val 4294967295 hxv (by omega)
            have q7 : bits .andNot .u64 (a : Int) 4294967295 = ((a &&& 18446744069414584320 : Nat) : Int) := u64_andNot_nat a 4294967295 ha (by omega)
            have q8 : bits .andNot .u64 (x.val : Int) 4294967295 = ((x.val &&& 18446744069414584320 : Nat) : Int) := u64_andNot_nat x.val 4294967295 hxv (by omega)
            have q9 : bits .and .u64 (b : Int) 4294967295 = ((b &&& 4294967295 : Nat) : Int) := u64_and_nat b 4294967295 hb (by omega)
            have l6 : x.val &&& 4294967295 < 18446744073709551616 := Nat.lt_of_le_of_lt Nat.and_le_left hxv
            have l7 : a &&& 18446744069414584320 < 18446744073709551616 := Nat.lt_of_le_of_lt Nat.and_le_left ha
            have l8 : x.val &&& 18446744069414584320 < 18446744073709551616 := Nat.lt_of_le_of_lt Nat.and_le_left hxv
            have l9 : b &&& 4294967295 < 18446744073709551616 := Nat.lt_of_le_of_lt Nat.and_le_left hb
            obtain ⟨n5, hn5⟩ : ∃ n, n = x.val ^^^ 4294967296 := ⟨_, rfl⟩
            obtain ⟨n6, hn6⟩ : ∃ n, n = x.val &&& 4294967295 := ⟨_, rfl⟩
            obtain ⟨n7, hn7⟩ : ∃ n, n = a &&& 18446744069414584320 := ⟨_, rfl⟩
            obtain ⟨n8, hn8⟩ : ∃ n, n = x.val &&& 18446744069414584320 := ⟨_, rfl⟩
            obtain ⟨n9, hn9⟩ : ∃ n, n = b &&& 4294967295 := ⟨_, rfl⟩
            rw [← hn5] at q5 l5
            rw [← hn6] at q6 l6
            rw [← hn7] at q7 l7
            rw [← hn8] at q8 l8
            rw [← hn9] at q9 l9
            clear hn5 hn6 hn7 hn8 hn9
            have p1 : bits .or .u64 (n6 : Int) (n7 : Int) = ((n6 ||| n7 : Nat) : Int) := u64_or_nat n6 n7 l6 l7
            have p2 : bits .or .u64 (n8 : Int) (n9 : Int) = ((n8 ||| n9 : Nat) : Int) := u64_or_nat n8 n9 l8 l9
            have o1 : n6 ||| n7 < 18446744073709551616 := Nat.or_lt_two_pow (n := 64) l6 l7
            have o2 : n8 ||| n9 < 18446744073709551616 := Nat.or_lt_two_pow (n := 64) l8 l9
            obtain ⟨m1, hm1⟩ : ∃ n, n = n6 ||| n7 := ⟨_, rfl⟩
            obtain ⟨m2, hm2⟩ : ∃ n, n = n8 ||| n9 := ⟨_, rfl⟩
            rw [← hm1] at p1 o1
            rw [← hm2] at p2 o2
            have HL10 := Lib.hid (show ∀ n ∈ [a, b, x.val, n3, n4, n5, m1, m2, 0, 18446744073709551615], n < 18446744073709551616 from fun n hn => by
              simp only [List.mem_cons, List.not_mem_nil, or_false] at hn
              rcases hn with rfl | rfl | rfl | rfl | rfl | rfl | rfl | rfl | rfl | rfl <;> omega)
            clear hgx hm1 hm2 l3 l4 l5 l6 l7 l8 l9 o1 o2
            go_wp2_with fail
            have hbl := oneb w11 (.cells #[.int .u64 a, .int .u64 b, .int .u64 x.val, .int .u64 n3, .int .u64 n4, .int .u64 n5, .int .u64 m1, .int .u64 m2, .int .u64 0, .int .u64 18446744073709551615] 55)
            have hkl := Bk.new w11 55 #[.int .u64 a, .int .u64 b, .int .u64 x.val, .int .u64 n3, .int .u64 n4, .int .u64 n5, .int .u64 m1, .int .u64 m2, .int .u64 0, .int .u64 18446744073709551615] (l := [a, b, x.val, n3, n4, n5, m1, m2, 0, 18446744073709551615].map fun n : Nat => Value.int .u64 n) rfl
            generalize World.alloc w11 _ = w12 at hbl hkl ⊢
            generalize w11.heap.size = gl at hkl ⊢
            have HF := Lib.hid (HF.out.below (hbl.mono HF.out.le))
            have HB9 := Lib.hid (HB24.out.trans (hbl.mono HB24.out.size))
            have HL := Lib.hid hkl
            have HG9 := Lib.hid (HGx.out.kept (show Below w6.heap.size w6 w9 from HB69.out))
            clear y0 y1 yl hQ x3 xl q3 q4 q3b q4b q5 q6 q7 q8 q9 p1 p2 hbl hkl HX HXp HBw HB24 HB6 HGx
            go_loopw [94] (fun jv wy => ∃ j st : Nat, jv = .int .i64 j ∧ j ≤ 10 ∧ st ≤ 4096 * j ∧ Hid (Fil wy BB p fb fo fc ins j st) ∧ Hid (Below w9.heap.size w9 wy) ∧ Hid (Bk wy gl 55 ([a, b, x.val, n3, n4, n5, m1, m2, 0, 18446744073709551615].map fun n : Nat => Value.int .u64 n))) (fun jv _ => 10 - (intOf jv).toNat)
            case atStart => exact ⟨0, 0, rfl, by omega, by omega, HF, HB9, HL⟩
            case round =>
              clear HF HB9 HL
              rename World => wy
              obtain ⟨j, st, rfl, hj, hst, HF, HB9, HL⟩ := hrel
              by_cases hjt : j < 10
              · obtain ⟨n, hn⟩ : ∃ n, [a, b, x.val, n3, n4, n5, m1, m2, 0, 18446744073709551615][j]? = some n := ⟨_, List.getElem?_eq_getElem (by simpa using hjt)⟩
                have hn64 := HL10.out n (List.mem_of_getElem? hn)
                have u0 := HL.out.cell j (v := .int .u64 n) (by rw [List.getElem?_map, hn]; rfl)
                have ul := HL.out.lt
                have j0 : (0 : Int) ≤ (j : Int) := by omega
                have j1 : (j : Int) < 10 := by omega
                clear hn
                go_upto_region 16 with fail
                clear u0 ul
                have hbx := oneb wy (.cells #[.int .u32 7, .int .u32 3221225534, .int .u64 0, .int .u64 0, .int .u64 0, .int .u64 0, .int .u64 0, .int .u64 0, .int .u64 0] 58)
                have hkx := Bk.new wy 58 #[.int .u32 7, .int .u32 3221225534, .int .u64 0, .int .u64 0, .int .u64 0, .int .u64 0, .int .u64 0, .int .u64 0, .int .u64 0] (l := (fillR 0 b).cells) rfl
                generalize World.alloc wy _ = w14 at hbx hkx ⊢
                have hgr : BB ≤ wy.heap.size ∧ w9.heap.size ≤ wy.heap.size := ⟨HF.out.le, HB9.out.size⟩
                generalize wy.heap.size = gr9 at hkx hgr ⊢
                have HF := Lib.hid (HF.out.below (hbx.mono HF.out.le))
                have HB9 := Lib.hid (HB9.out.trans (hbx.mono HB9.out.size))
                have HL := Lib.hid (HL.out.kept hbx)
                have HR := Lib.hid hkx
                have HRy := Lib.hid hkx.tyb
                have HGr := Lib.hid hgr
                have HO := Lib.hid (only_refl w14 (some gr9))
                clear hbx hkx hgr
                go_wp2_with fail
                go_loopw [99] (fun mv wq => ∃ m : Nat, mv = .int .i64 m ∧ m ≤ 6 ∧ Hid (Bk wq gr9 58 (fillR m b).cells) ∧ Hid (w14.grownBy wq (some gr9))) (fun mv _ => 6 - (intOf mv).toNat)
                case atStart => exact ⟨0, rfl, by omega, HR, HO⟩
                case round =>
                  clear HR HO
                  rename World => wq
                  obtain ⟨m, rfl, hm, HR, HO⟩ := hrel
                  by_cases hmt : m < 6
                  · have u0 := HR.out.cell (3 + m) (fill_cell hmt)
                    have uf := HR.out.fz (3 + m)
                    have ul := HR.out.lt
                    have i0 : (0 : Int) ≤ (m : Int) := by omega
                    have i1 : (m : Int) < 6 := by omega
                    have HR2 := Lib.hid (show Bk (wq.setCell ⟨gr9, 3 + m, none⟩ (.int .u64 b)) gr9 58 (fillR (m + 1) b).cells by have := HR.out.set (3 + m) (.int .u64 b); rw [fill_set hmt] at this; exact this)
                    have HO2 := Lib.hid (only_trans HO.out (only_set wq gr9 (3 + m) (.int .u64 b)))
                    go_wp2_with fail
                    go_roundw
                    case rel => exact ⟨m + 1, by go_num, by omega, HR2, HO2⟩
                    case measure => simp [intOf]; omega
                  · obtain rfl : m = 6 := by omega
                    have hgx := HG9.out.kept (show Below w9.heap.size w9 wq from only_below HB9.out HO.out HB9.out.size HGr.out.2)
                    obtain ⟨ga, hga⟩ : ∃ g : Nat, x.arg = (g : Int) := ⟨x.arg.toNat, by have := HAr.out; omega⟩
                    have hga6 : ga < 6 := by have := HAr.out; omega
                    have HGa := Lib.hid hga
                    have x0 := hgx.cell 0 rfl
                    rw [hga] at x0
                    have xl := hgx.lt
                    have u0 := HR.out.cell (3 + ga) (fill_cell6 hga6)
                    have uf := HR.out.fz (3 + ga)
                    have ul := HR.out.lt
                    have i0 : (0 : Int) ≤ (ga : Int) := by omega
                    have i1 : (ga : Int) < 6 := by omega
                    obtain ⟨X, hX⟩ : ∃ X, X = recX b n ga := ⟨_, rfl⟩
                    have HR2 := Lib.hid (show Bk (wq.setCell ⟨gr9, 3 + ga, none⟩ (.int .u64 n)) gr9 58 X.cells by have := HR.out.set (3 + ga) (.int .u64 n); rw [fill_end hga6, ← hX] at this; exact this)
                    have HO2 := Lib.hid (only_trans HO.out (only_set wq gr9 (3 + ga) (.int .u64 n)))
                    have HXk := Lib.hid (show X.ok by rw [hX]; exact recX_ok hb hn64)
                    have HX7 := Lib.hid (show X.num = 7 ∧ X.arch = 3221225534 by rw [hX]; exact ⟨rfl, rfl⟩)
                    clear hgx hga hX HR HO
                    go_upto_region 22 with fail
                    clear u0 uf ul i0 i1 x0 xl
                    generalize World.setCell wq _ _ = w15 at HR2 HO2 ⊢
                    have HB9 := Lib.hid (only_below HB9.out HO2.out HB9.out.size HGr.out.2)
                    have HF := Lib.hid (HF.out.below (only_below (Below.refl BB w14) HO2.out HF.out.le HGr.out.1))
                    have HL := Lib.hid (HL.out.grown HO2.out (fun e => (HL.out.tyb.ne HRy.out (by decide)) (Option.some.inj e)))
                    have hgx := HG9.out.kept HB9.out
                    have x0 := hgx.cell 0 rfl
                    have x1 := hgx.cell 1 rfl
                    have x2 := hgx.cell 2 rfl
                    have x3 := hgx.cell 3 rfl
                    have xl := hgx.lt
                    have hkx := HR2.out
                    have y0 := hkx.cell 0 rfl
                    have y1 := hkx.cell 1 rfl
                    have y2 := hkx.cell 2 rfl
                    have y3 := hkx.cell 3 rfl
                    have y4 := hkx.cell 4 rfl
                    have y5 := hkx.cell 5 rfl
                    have y6 := hkx.cell 6 rfl
                    have y7 := hkx.cell 7 rfl
                    have y8 := hkx.cell 8 rfl
                    have yl := hkx.lt
                    have HHo := Lib.hid (Me.holds_any x.arg x.op x.mask x.val X w15 HXo.out.2.2.1 HXo.out.2.2.2.1 HXk.out)
                    obtain ⟨bs, hbs, hrl, hse⟩ := rec_bs X HXk.out
                    have hsy := HMs.out X HXk.out bs hse
                    rw [says_one _ _ x X HX7.out.1 HX7.out.2] at hsy
                    have HBs := Lib.hid hbs
                    have HRl := Lib.hid hrl
                    have HSy := Lib.hid hsy
                    clear hgx hkx hbs hrl hse hsy
                    go_wp2_with fail
                    refine HHo.out.mono ?_
                    clear x0 x1 x2 x3 xl y0 y1 y2 y3 y4 y5 y6 y7 y8 yl HHo
                    rintro e w16 ⟨rfl, hb16⟩
                    have HB9 := Lib.hid (HB9.out.trans (hb16.mono HB9.out.size))
                    have HF := Lib.hid (HF.out.below (hb16.mono HF.out.le))
                    have HL := Lib.hid (HL.out.kept hb16)
                    have HR2 := Lib.hid (HR2.out.kept hb16)
                    clear hb16
                    cases hh : holdB ⟨x.arg, x.op, x.mask, x.val⟩ X with
                    | true =>
                      have hsy := HSy.out
                      rw [if_pos hh] at hsy
                      have hbs := HBs.out
                      have hrl := HRl.out
                      clear hh HSy HBs HRl
                      go_wp2_with fail
                      refine (fail9 _).mono ?_
                      rintro e w17 ⟨rfl, hb17⟩
                      have HB9 := Lib.hid (HB9.out.trans (hb17.mono HB9.out.size))
                      have HF := Lib.hid (HF.out.below (hb17.mono HF.out.le))
                      have HL := Lib.hid (HL.out.kept hb17)
                      have HR2 := Lib.hid (HR2.out.kept hb17)
                      have hnl := run_len (recW bs) ins
                      rw [HKl.out] at hnl
                      have R1 := Lib.hid (run_any bs ins BB p fb fo fc j st w17 HF.out HGd.out HIk.out hbs (smJ (by omega)) (smJ (by omega)))
                      unfold RunTo at R1
                      rw [hsy, hrl] at R1
                      obtain ⟨nr, hnr⟩ : ∃ n, n = (runN (recW bs) ins).1.length := ⟨_, rfl⟩
                      rw [← hnr] at R1 hnl
                      clear hnr
                      have hkx := HR2.out
                      have y0 := hkx.cell 0 rfl
                      have y1 := hkx.cell 1 rfl
                      have y2 := hkx.cell 2 rfl
                      have y3 := hkx.cell 3 rfl
                      have y4 := hkx.cell 4 rfl
                      have y5 := hkx.cell 5 rfl
                      have y6 := hkx.cell 6 rfl
                      have y7 := hkx.cell 7 rfl
                      have y8 := hkx.cell 8 rfl
                      have yl := hkx.lt
                      clear hb17 hsy hbs hrl hkx
                      go_wp2_with fail
                      refine (R1.out).mono ?_
                      clear y0 y1 y2 y3 y4 y5 y6 y7 y8 yl R1
                      rintro e w18 ⟨rfl, hf, hg⟩
                      have HTy := Lib.hid HF.out.bk.tyb
                      have HL := Lib.hid (HL.out.grown hg (fun e => (HL.out.tyb.ne HTy.out (by decide)) (Option.some.inj e)))
                      have HB9 := Lib.hid (only_below HB9.out hg HB9.out.size HPw2.out)
                      have HF := Lib.hid hf
                      clear hf hg HTy
                      go_wp2_with fail
                      go_roundw
                      case rel => first | exact ⟨j + 1, st + nr, by go_num, by omega, by omega, HF, HB9, HL⟩ | ((repeat apply Exists.intro); exact ⟨⟨j + 1, st + nr, by go_num, by omega, by omega, HF, HB9, HL⟩, rfl⟩)
                      case measure => simp [intOf]; omega
                    | false =>
                      have hsy := HSy.out
                      rw [if_neg (by rw [hh]; decide)] at hsy
                      have hbs := HBs.out
                      have hrl := HRl.out
                      have hnl := run_len (recW bs) ins
                      rw [HKl.out] at hnl
                      have R1 := Lib.hid (run_any bs ins BB p fb fo fc j st w16 HF.out HGd.out HIk.out hbs (smJ (by omega)) (smJ (by omega)))
                      unfold RunTo at R1
                      rw [hsy, hrl] at R1
                      obtain ⟨nr, hnr⟩ : ∃ n, n = (runN (recW bs) ins).1.length := ⟨_, rfl⟩
                      rw [← hnr] at R1 hnl
                      clear hnr
                      have hkx := HR2.out
                      have y0 := hkx.cell 0 rfl
                      have y1 := hkx.cell 1 rfl
                      have y2 := hkx.cell 2 rfl
                      have y3 := hkx.cell 3 rfl
                      have y4 := hkx.cell 4 rfl
                      have y5 := hkx.cell 5 rfl
                      have y6 := hkx.cell 6 rfl
                      have y7 := hkx.cell 7 rfl
                      have y8 := hkx.cell 8 rfl
                      have yl := hkx.lt
                      clear hh HSy HBs HRl hsy hbs hrl hkx
                      go_wp2_with fail
                      refine (R1.out).mono ?_
                      clear y0 y1 y2 y3 y4 y5 y6 y7 y8 yl R1
                      rintro e w18 ⟨rfl, hf, hg⟩
                      have HTy := Lib.hid HF.out.bk.tyb
                      have HL := Lib.hid (HL.out.grown hg (fun e => (HL.out.tyb.ne HTy.out (by decide)) (Option.some.inj e)))
                      have HB9 := Lib.hid (only_below HB9.out hg HB9.out.size HPw2.out)
                      have HF := Lib.hid hf
                      clear hf hg HTy
                      go_wp2_with fail
                      go_roundw
                      case rel => first | exact ⟨j + 1, st + nr, by go_num, by omega, by omega, HF, HB9, HL⟩ | ((repeat apply Exists.intro); exact ⟨⟨j + 1, st + nr, by go_num, by omega, by omega, HF, HB9, HL⟩, rfl⟩)
                      case measure => simp [intOf]; omega
              · go_wp2_with fail
                go_roundw
                case rel => first | exact ⟨i + 1, by go_num, by omega, Lib.hid (HBw9.out.trans (HB9.out.mono HBw9.out.size))⟩ | ((repeat apply Exists.intro); exact ⟨⟨i + 1, by go_num, by omega, Lib.hid (HBw9.out.trans (HB9.out.mono HBw9.out.size))⟩, rfl⟩)
                case measure => simp [intOf]; omega

        · go_wp2_with fail
          go_ret
          exact ⟨rfl, HBw.out.trans (HB.out.mono HBw.out.size)⟩

    exact AllReadyH.nil
  exact AllReadyH.nil
end Go.Proofs.YtcageojoafkojaaGreat.Lo
