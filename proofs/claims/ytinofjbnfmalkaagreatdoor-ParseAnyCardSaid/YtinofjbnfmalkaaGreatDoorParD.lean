/- What answers a condition: the walk. -/
import Derived.Test.YtinofjbnfmalkaaGreatDoorParC
namespace Go.Proofs.YtinofjbnfmalkaaGreatDoor.Pa
open Go.RowKit Go.WideElems
def cvV (x : CondM) : Value := .agg #[.int .i64 x.arg, .int .u8 x.op, .int .u64 x.mask, .int .u64 x.val]
theorem set4_grown (w : World) (g : Nat) (v0 v1 v2 v3 : Value) : w.grownBy ((((w.setCell ⟨g, 0, none⟩ v0).setCell ⟨g, 1, none⟩ v1).setCell ⟨g, 2, none⟩ v2).setCell ⟨g, 3, none⟩ v3) (some g) :=
  only_trans (only_trans (only_trans (only_set _ g 0 v0) (only_set _ g 1 v1)) (only_set _ g 2 v2)) (only_set _ g 3 v3)
theorem fin4 {w w1 : World} {b g : Nat} {c : RC} {s : RS} (h : Rb w1 b c s) (hg : w.grownBy w1 (some b)) (hb : b < w.heap.size) (hw : w.heap.size ≤ g) (v0 v1 v2 v3 : Value) :
    Rb ((((w1.setCell ⟨g, 0, none⟩ v0).setCell ⟨g, 1, none⟩ v1).setCell ⟨g, 2, none⟩ v2).setCell ⟨g, 3, none⟩ v3) b c s ∧
    w.grownBy ((((w1.setCell ⟨g, 0, none⟩ v0).setCell ⟨g, 1, none⟩ v1).setCell ⟨g, 2, none⟩ v2).setCell ⟨g, 3, none⟩ v3) (some b) :=
  ⟨h.grown (set4_grown w1 g v0 v1 v2 v3) (by omega), grown_trans hg (set4_grown w1 g v0 v1 v2 v3) (fun k hk => by cases hk; exact .inr hw)⟩
theorem store_fresh {w w1 : World} {b g j : Nat} (hg : w.grownBy w1 (some b)) (hw : w.heap.size ≤ g) (v : Value) : w.grownBy (w1.setCell ⟨g, j, none⟩ v) (some b) := grown_trans hg (only_set w1 g j v) (fun k hk => by cases hk; exact .inr hw)
set_option maxHeartbeats 4000000 in
set_option maxRecDepth 100000 in
theorem cond_any (b : Nat) (c : RC) (s : RS) (w : World) (h : Rb w b c s) (hs : In s) (hE : Ev w b) :
    Calls Tryz.prog 158 #[.pointer (some ⟨b, 0, none⟩)] w (ValR (cvV (cndV s)) b c (cndS s) w) := by
  have hlt := h.lt
  have hs1 := hs.sub (ag_sub s)
  have hs2 := hs1.sub (tk_sub 4 (agS s))
  have Hn := Lib.hid (arg_any b c s _ (h.alloc (.cells #[.int .i64 0, .int .u8 0, .int .u64 0, .int .u64 0] 90)) hs)
  have hbk := Bk.new w 90 #[.int .i64 0, .int .u8 0, .int .u64 0, .int .u64 0] (l := [.int .i64 0, .int .u8 0, .int .u64 0, .int .u64 0]) rfl
  have HE0 := Lib.hid (hE.kept (oneb w (.cells #[.int .i64 0, .int .u8 0, .int .u64 0, .int .u64 0] 90)))
  clear h hE
  obtain ⟨a, ha⟩ : ∃ a, a = agV s := ⟨_, rfl⟩
  obtain ⟨q, hq⟩ : ∃ q, q = opV (agS s) := ⟨_, rfl⟩
  have HA := Lib.hid ha
  have HQ := Lib.hid hq
  rw [← ha] at Hn
  go_enter Tryz.func158, Tryz.ntmps158
  go_wp2_with fail
  refine Hn.out.mono ?_
  clear Hn ha
  rintro e w1 ⟨rfl, hr1, hg1⟩
  have HE1 := Lib.hid (HE0.out.grown hg1 (Nat.le_refl _))
  have hbk1 := hbk.grown hg1 (by intro e; have := Option.some.inj e; omega)
  have Hn := Lib.hid (op_any b c (agS s) _ hr1 hs1 HE1.out)
  have hlt1 := hr1.lt
  have HG1 := Lib.hid (grow_in _ hg1)
  rw [← hq] at Hn
  clear hr1 hbk hg1 hq HE0
  go_wp2_with fail
  refine Hn.out.mono ?_
  clear Hn
  rintro e w2 ⟨rfl, hr2, hg2⟩
  have HE2 := Lib.hid (HE1.out.grown hg2 (Nat.le_refl _))
  have HBK2 := Lib.hid (hbk1.grown hg2 (by intro e; have := Option.some.inj e; omega))
  have HR2 := Lib.hid hr2
  have HG2 := Lib.hid (only_trans HG1.out hg2)
  have hsz2 : w.heap.size < w2.heap.size := HBK2.out.lt
  clear hr2 hg2 hbk1 HE1 HG1 hlt1
  go_upto_region 2 with fail
  have hcb := Bk.new w2 90 #[.int .i64 (a : Nat), .int .u8 (q : Nat), .int .u64 0, .int .u64 0] (l := [.int .i64 (a : Nat), .int .u8 (q : Nat), .int .u64 0, .int .u64 0]) rfl
  have HE3 := Lib.hid (HE2.out.kept (oneb w2 (.cells #[.int .i64 (a : Nat), .int .u8 (q : Nat), .int .u64 0, .int .u64 0] 90)))
  have HBK3 := Lib.hid (HBK2.out.alloc (.cells #[.int .i64 (a : Nat), .int .u8 (q : Nat), .int .u64 0, .int .u64 0] 90))
  have HR3 := Lib.hid (HR2.out.alloc (.cells #[.int .i64 (a : Nat), .int .u8 (q : Nat), .int .u64 0, .int .u64 0] 90))
  have HG3 := Lib.hid (grow_al HG2.out (.cells #[.int .i64 (a : Nat), .int .u8 (q : Nat), .int .u64 0, .int .u64 0] 90))
  have hcl : w2.heap.size < (w2.alloc (.cells #[.int .i64 (a : Nat), .int .u8 (q : Nat), .int .u64 0, .int .u64 0] 90)).heap.size := by simp
  obtain ⟨cb, hcb0⟩ : ∃ cb, cb = w2.heap.size := ⟨_, rfl⟩
  rw [← hcb0] at hcb hsz2 hcl ⊢
  clear HE2 HBK2 HR2 HG2
  generalize w2.alloc _ = w3 at hcb HE3 HBK3 HR3 HG3 hcl ⊢
  have HCB := Lib.hid hcb
  have k1 := hcb.cell 1 rfl
  clear hcb hcb0
  by_cases h7 : q = 7
  · have g7 : ((q : Int) == 7) = true := by rw [beq_iff_eq]; omega
    have hs3 := hs2.sub (tk_sub 2 (tkS 4 (agS s)))
    have hs4 := hs3.sub (wn_sub eqW _)
    have HST := Lib.hid (show mkS (opV (agS s)) (tkS 4 (agS s)) = wnS eqW (tkS 2 (tkS 4 (agS s))) by unfold mkS; rw [← HQ.out, if_pos h7])
    have HMK := Lib.hid (show mkV (opV (agS s)) (tkS 4 (agS s)) = (nx (tkS 4 (agS s))).n by unfold mkV; rw [← HQ.out, if_pos h7])
    obtain ⟨mt, hmt⟩ : ∃ mt, mt = nx (tkS 4 (agS s)) := ⟨_, rfl⟩
    have hmti := hs2.nx
    have Hn := Lib.hid (take_any 2 b c (tkS 4 (agS s)) _ HR3.out hs2.len)
    rw [← hmt] at Hn HMK hmti
    have hm64 := hmti.2.1
    clear h7 hmt hmti
    go_wp2_with fail
    refine Hn.out.mono ?_
    clear Hn k1
    rintro e w4 ⟨rfl, hr4, hg4⟩
    unfold tkV
    have hbk4 := HBK3.out.grown hg4 (by intro e; have := Option.some.inj e; omega)
    have hcb4 := HCB.out.grown hg4 (by intro e; have := Option.some.inj e; omega)
    have k2 := hcb4.cell 2 rfl
    have kz := hcb4.fz 2
    have kl := hcb4.lt
    have hone := only_set w4 cb 2 (.int .u64 mt.n)
    have HE5 := Lib.hid (((HE3.out.grown hg4 (Nat.le_refl _))).grown hone (by omega))
    have HBK5 := Lib.hid (hbk4.grown hone (by intro e; have := Option.some.inj e; omega))
    have HCB5 := Lib.hid (hcb4.set 2 (.int .u64 mt.n))
    have HR5 := Lib.hid (hr4.grown hone (by omega))
    have HG5 := Lib.hid (store_fresh (only_trans HG3.out hg4) (Nat.le_of_lt hsz2) (.int .u64 mt.n) (j := 2))
    clear hbk4 hcb4 hr4 hg4 hone
    have hfl : ∀ W : World, (Instr.field 182 (.agg #[.int .u8 mt.k, .string ⟨mt.t.toArray⟩, .int .u64 mt.n, .int .i64 mt.line, .int .i64 mt.col]) 2).run Tryz.prog W = .ok (.int .u64 mt.n) W := fun W => by kernel_rfl
    go_wp2_with fail
    refine (sgn_1 _ (HE5.out.sg 1 (by omega))).mono ?_
    rintro e w5 ⟨rfl, rfl⟩
    have Hn := Lib.hid (want_any eqW b c (tkS 2 (tkS 4 (agS s))) _ HR5.out hs3.len)
    clear k2 kz kl
    go_wp2_with fail
    refine Hn.out.mono ?_
    clear Hn
    rintro e w5 ⟨rfl, hr6, hg6⟩
    have HBKa := Lib.hid (HBK5.out.grown hg6 (by intro e; have := Option.some.inj e; omega))
    have HCBa := Lib.hid (HCB5.out.grown hg6 (by intro e; have := Option.some.inj e; omega))
    have HRa := Lib.hid hr6
    have HGa := Lib.hid (only_trans HG5.out hg6)
    have k1 := HCBa.out.cell 1 rfl
    clear hr6 hg6
    obtain ⟨t, ht⟩ : ∃ t, t = nx (wnS eqW (tkS 2 (tkS 4 (agS s)))) := ⟨_, rfl⟩
    have HT := Lib.hid ht
    have hti := hs4.nx
    rw [← ht] at hti
    have hn64 := hti.2.1
    have Hn := Lib.hid (take_any 2 b c (wnS eqW (tkS 2 (tkS 4 (agS s)))) _ HRa.out hs4.len)
    rw [← ht] at Hn
    clear ht hti
    go_wp2_with fail
    refine Hn.out.mono ?_
    clear Hn
    rintro e w6 ⟨rfl, hr6, hg6⟩
    unfold tkV
    have HBK6 := Lib.hid (HBKa.out.grown hg6 (by intro e; have := Option.some.inj e; omega))
    have HCB6 := Lib.hid (HCBa.out.grown hg6 (by intro e; have := Option.some.inj e; omega))
    have HR6 := Lib.hid hr6
    have HG6 := Lib.hid (only_trans HGa.out hg6)
    have hl6 := HCB6.out.lt
    clear hr6 hg6 k1
    have k0 := HCB6.out.cell 0 rfl
    have k1 := HCB6.out.cell 1 rfl
    have k2 := HCB6.out.cell 2 rfl
    have k3 := HCB6.out.cell 3 rfl
    have kz := HCB6.out.fz 3
    have hck := Lib.hid (fun W => condCheck_any (a : Nat) q (mt.n) t.n W hm64 hn64)
    go_wp2_with fail
    refine (hck.out _).mono ?_
    clear hck
    rintro e w8 ⟨rfl, hb8⟩
    have hsz6 : (w6.setCell ⟨cb, 3, none⟩ (.int .u64 t.n)).heap.size = w6.heap.size := by simp [World.setCell]
    have htk := Bk.new (w6.setCell ⟨cb, 3, none⟩ (.int .u64 t.n)) 182 #[.int .u8 t.k, .string ⟨t.t.toArray⟩, .int .u64 t.n, .int .i64 t.line, .int .i64 t.col] (l := [.int .u8 t.k, .string ⟨t.t.toArray⟩, .int .u64 t.n, .int .i64 t.line, .int .i64 t.col]) rfl
    rw [hsz6] at htk
    have hone := only_set w6 cb 3 (.int .u64 t.n)
    have HTK8 := Lib.hid (htk.kept hb8)
    have HCB8 := Lib.hid (((HCB6.out.set 3 (.int .u64 t.n)).alloc (.cells #[.int .u8 t.k, .string ⟨t.t.toArray⟩, .int .u64 t.n, .int .i64 t.line, .int .i64 t.col] 182)).kept hb8)
    have HBK8 := Lib.hid (((HBK6.out.grown hone (by intro e; have := Option.some.inj e; omega)).alloc (.cells #[.int .u8 t.k, .string ⟨t.t.toArray⟩, .int .u64 t.n, .int .i64 t.line, .int .i64 t.col] 182)).kept hb8)
    have HR8 := Lib.hid (((HR6.out.grown hone (by omega)).alloc (.cells #[.int .u8 t.k, .string ⟨t.t.toArray⟩, .int .u64 t.n, .int .i64 t.line, .int .i64 t.col] 182)).kept hb8)
    have HG8 := Lib.hid (only_trans (grow_al (store_fresh HG6.out (Nat.le_of_lt hsz2) (.int .u64 t.n) (j := 3)) (.cells #[.int .u8 t.k, .string ⟨t.t.toArray⟩, .int .u64 t.n, .int .i64 t.line, .int .i64 t.col] 182)) (gb b hb8))
    clear hb8 hsz6 htk hone k0 k1 k2 k3 kz hl6
    obtain ⟨er, her⟩ : ∃ er, er = condE ⟨(a : Nat), q, mt.n, t.n⟩ := ⟨_, rfl⟩
    rw [← her]
    have HW := Lib.hid (show cndV s = ⟨(a : Nat), q, mt.n, t.n⟩ from by unfold cndV; rw [HMK.out, HST.out, ← HT.out, ← HQ.out, ← HA.out])
    have HER := Lib.hid (show condE (cndV s) = er by rw [HW.out, her])
    clear her
    by_cases he : er = 0
    · have HV := Lib.hid (show cndS s = tkS 2 (wnS eqW (tkS 2 (tkS 4 (agS s)))) by unfold cndS vlS; rw [HER.out, if_pos he]; exact congrArg (tkS 2) HST.out)
      have ge : ((er : Int) != 0) = false := by rw [bne_eq_false_iff_eq]; omega
      clear he
      have q0 := HBK8.out.cell 0 rfl
      have q1 := HBK8.out.cell 1 rfl
      have q2 := HBK8.out.cell 2 rfl
      have q3 := HBK8.out.cell 3 rfl
      have qz0 := HBK8.out.fz 0
      have qz1 := HBK8.out.fz 1
      have qz2 := HBK8.out.fz 2
      have qz3 := HBK8.out.fz 3
      have ql := HBK8.out.lt
      have k0 := HCB8.out.cell 0 rfl
      have k1 := HCB8.out.cell 1 rfl
      have k2 := HCB8.out.cell 2 rfl
      have k3 := HCB8.out.cell 3 rfl
      have kl := HCB8.out.lt
      go_wp2_with fail
      have hend := fin4 HR8.out HG8.out hlt (Nat.le_refl _) (.int .i64 (a : Nat)) (.int .u8 (q : Nat)) (.int .u64 (mt.n)) (.int .u64 t.n)
      refine bodyPost_ret (v := cvV ⟨(a : Nat), q, mt.n, t.n⟩) (by simp [results, Tryz.results158, go_sem, cvV, q0, q1, q2, q3]) rfl ?_
      exact val_of (by rw [HW.out]) HV.out rfl hend.1 hend.2
    · have HV := Lib.hid (show cndS s = fl (tkS 2 (wnS eqW (tkS 2 (tkS 4 (agS s))))) t er by unfold cndS vlS; rw [HER.out, if_neg he, HT.out]; exact congrArg (fun x => fl (tkS 2 x) (nx x) er) HST.out)
      have ge : ((er : Int) != 0) = true := by rw [bne_iff_ne]; omega
      clear he
      have r0 := HTK8.out.cell 0 rfl
      have r1 := HTK8.out.cell 1 rfl
      have r2 := HTK8.out.cell 2 rfl
      have r3 := HTK8.out.cell 3 rfl
      have r4 := HTK8.out.cell 4 rfl
      have rl := HTK8.out.lt
      go_wp2_with fail
      refine (fail_any' b c (tkS 2 (wnS eqW (tkS 2 (tkS 4 (agS s))))) t er _ HR8.out).mono ?_
      rintro e w9 ⟨rfl, hr9, hg9⟩
      have HBK9 := Lib.hid (HBK8.out.grown hg9 (by intro e; have := Option.some.inj e; omega))
      have HCB9 := Lib.hid (HCB8.out.grown hg9 (by intro e; have := Option.some.inj e; omega))
      have HR9 := Lib.hid hr9
      have HG9 := Lib.hid (only_trans HG8.out hg9)
      clear hr9 hg9 r0 r1 r2 r3 r4 rl
      have q0 := HBK9.out.cell 0 rfl
      have q1 := HBK9.out.cell 1 rfl
      have q2 := HBK9.out.cell 2 rfl
      have q3 := HBK9.out.cell 3 rfl
      have qz0 := HBK9.out.fz 0
      have qz1 := HBK9.out.fz 1
      have qz2 := HBK9.out.fz 2
      have qz3 := HBK9.out.fz 3
      have ql := HBK9.out.lt
      have k0 := HCB9.out.cell 0 rfl
      have k1 := HCB9.out.cell 1 rfl
      have k2 := HCB9.out.cell 2 rfl
      have k3 := HCB9.out.cell 3 rfl
      have kl := HCB9.out.lt
      go_wp2_with fail
      have hend := fin4 HR9.out HG9.out hlt (Nat.le_refl _) (.int .i64 (a : Nat)) (.int .u8 (q : Nat)) (.int .u64 (mt.n)) (.int .u64 t.n)
      refine bodyPost_ret (v := cvV ⟨(a : Nat), q, mt.n, t.n⟩) (by simp [results, Tryz.results158, go_sem, cvV, q0, q1, q2, q3]) rfl ?_
      exact val_of (by rw [HW.out]) HV.out rfl hend.1 hend.2
  · have g7 : ((q : Int) == 7) = false := by rw [beq_eq_false_iff_ne]; omega
    have hs4 := hs2
    have HST := Lib.hid (show mkS (opV (agS s)) (tkS 4 (agS s)) = tkS 4 (agS s) by unfold mkS; rw [← HQ.out, if_neg h7])
    have HMK := Lib.hid (show mkV (opV (agS s)) (tkS 4 (agS s)) = 0 by unfold mkV; rw [← HQ.out, if_neg h7])
    clear h7
    obtain ⟨t, ht⟩ : ∃ t, t = nx (tkS 4 (agS s)) := ⟨_, rfl⟩
    have HT := Lib.hid ht
    have hti := hs4.nx
    rw [← ht] at hti
    have hn64 := hti.2.1
    have Hn := Lib.hid (take_any 2 b c (tkS 4 (agS s)) _ HR3.out hs4.len)
    rw [← ht] at Hn
    clear ht hti
    go_wp2_with fail
    refine Hn.out.mono ?_
    clear Hn
    rintro e w6 ⟨rfl, hr6, hg6⟩
    unfold tkV
    have HBK6 := Lib.hid (HBK3.out.grown hg6 (by intro e; have := Option.some.inj e; omega))
    have HCB6 := Lib.hid (HCB.out.grown hg6 (by intro e; have := Option.some.inj e; omega))
    have HR6 := Lib.hid hr6
    have HG6 := Lib.hid (only_trans HG3.out hg6)
    have hl6 := HCB6.out.lt
    clear hr6 hg6 k1
    have k0 := HCB6.out.cell 0 rfl
    have k1 := HCB6.out.cell 1 rfl
    have k2 := HCB6.out.cell 2 rfl
    have k3 := HCB6.out.cell 3 rfl
    have kz := HCB6.out.fz 3
    have hck := Lib.hid (fun W => condCheck_any (a : Nat) q (0) t.n W (by decide) hn64)
    go_wp2_with fail
    refine (hck.out _).mono ?_
    clear hck
    rintro e w8 ⟨rfl, hb8⟩
    have hsz6 : (w6.setCell ⟨cb, 3, none⟩ (.int .u64 t.n)).heap.size = w6.heap.size := by simp [World.setCell]
    have htk := Bk.new (w6.setCell ⟨cb, 3, none⟩ (.int .u64 t.n)) 182 #[.int .u8 t.k, .string ⟨t.t.toArray⟩, .int .u64 t.n, .int .i64 t.line, .int .i64 t.col] (l := [.int .u8 t.k, .string ⟨t.t.toArray⟩, .int .u64 t.n, .int .i64 t.line, .int .i64 t.col]) rfl
    rw [hsz6] at htk
    have hone := only_set w6 cb 3 (.int .u64 t.n)
    have HTK8 := Lib.hid (htk.kept hb8)
    have HCB8 := Lib.hid (((HCB6.out.set 3 (.int .u64 t.n)).alloc (.cells #[.int .u8 t.k, .string ⟨t.t.toArray⟩, .int .u64 t.n, .int .i64 t.line, .int .i64 t.col] 182)).kept hb8)
    have HBK8 := Lib.hid (((HBK6.out.grown hone (by intro e; have := Option.some.inj e; omega)).alloc (.cells #[.int .u8 t.k, .string ⟨t.t.toArray⟩, .int .u64 t.n, .int .i64 t.line, .int .i64 t.col] 182)).kept hb8)
    have HR8 := Lib.hid (((HR6.out.grown hone (by omega)).alloc (.cells #[.int .u8 t.k, .string ⟨t.t.toArray⟩, .int .u64 t.n, .int .i64 t.line, .int .i64 t.col] 182)).kept hb8)
    have HG8 := Lib.hid (only_trans (grow_al (store_fresh HG6.out (Nat.le_of_lt hsz2) (.int .u64 t.n) (j := 3)) (.cells #[.int .u8 t.k, .string ⟨t.t.toArray⟩, .int .u64 t.n, .int .i64 t.line, .int .i64 t.col] 182)) (gb b hb8))
    clear hb8 hsz6 htk hone k0 k1 k2 k3 kz hl6
    obtain ⟨er, her⟩ : ∃ er, er = condE ⟨(a : Nat), q, 0, t.n⟩ := ⟨_, rfl⟩
    rw [← her]
    have HW := Lib.hid (show cndV s = ⟨(a : Nat), q, 0, t.n⟩ from by unfold cndV; rw [HMK.out, HST.out, ← HT.out, ← HQ.out, ← HA.out])
    have HER := Lib.hid (show condE (cndV s) = er by rw [HW.out, her])
    clear her
    by_cases he : er = 0
    · have HV := Lib.hid (show cndS s = tkS 2 (tkS 4 (agS s)) by unfold cndS vlS; rw [HER.out, if_pos he]; exact congrArg (tkS 2) HST.out)
      have ge : ((er : Int) != 0) = false := by rw [bne_eq_false_iff_eq]; omega
      clear he
      have q0 := HBK8.out.cell 0 rfl
      have q1 := HBK8.out.cell 1 rfl
      have q2 := HBK8.out.cell 2 rfl
      have q3 := HBK8.out.cell 3 rfl
      have qz0 := HBK8.out.fz 0
      have qz1 := HBK8.out.fz 1
      have qz2 := HBK8.out.fz 2
      have qz3 := HBK8.out.fz 3
      have ql := HBK8.out.lt
      have k0 := HCB8.out.cell 0 rfl
      have k1 := HCB8.out.cell 1 rfl
      have k2 := HCB8.out.cell 2 rfl
      have k3 := HCB8.out.cell 3 rfl
      have kl := HCB8.out.lt
      go_wp2_with fail
      have hend := fin4 HR8.out HG8.out hlt (Nat.le_refl _) (.int .i64 (a : Nat)) (.int .u8 (q : Nat)) (.int .u64 (0)) (.int .u64 t.n)
      refine bodyPost_ret (v := cvV ⟨(a : Nat), q, 0, t.n⟩) (by simp [results, Tryz.results158, go_sem, cvV, q0, q1, q2, q3]) rfl ?_
      exact val_of (by rw [HW.out]) HV.out rfl hend.1 hend.2
    · have HV := Lib.hid (show cndS s = fl (tkS 2 (tkS 4 (agS s))) t er by unfold cndS vlS; rw [HER.out, if_neg he, HT.out]; exact congrArg (fun x => fl (tkS 2 x) (nx x) er) HST.out)
      have ge : ((er : Int) != 0) = true := by rw [bne_iff_ne]; omega
      clear he
      have r0 := HTK8.out.cell 0 rfl
      have r1 := HTK8.out.cell 1 rfl
      have r2 := HTK8.out.cell 2 rfl
      have r3 := HTK8.out.cell 3 rfl
      have r4 := HTK8.out.cell 4 rfl
      have rl := HTK8.out.lt
      go_wp2_with fail
      refine (fail_any' b c (tkS 2 (tkS 4 (agS s))) t er _ HR8.out).mono ?_
      rintro e w9 ⟨rfl, hr9, hg9⟩
      have HBK9 := Lib.hid (HBK8.out.grown hg9 (by intro e; have := Option.some.inj e; omega))
      have HCB9 := Lib.hid (HCB8.out.grown hg9 (by intro e; have := Option.some.inj e; omega))
      have HR9 := Lib.hid hr9
      have HG9 := Lib.hid (only_trans HG8.out hg9)
      clear hr9 hg9 r0 r1 r2 r3 r4 rl
      have q0 := HBK9.out.cell 0 rfl
      have q1 := HBK9.out.cell 1 rfl
      have q2 := HBK9.out.cell 2 rfl
      have q3 := HBK9.out.cell 3 rfl
      have qz0 := HBK9.out.fz 0
      have qz1 := HBK9.out.fz 1
      have qz2 := HBK9.out.fz 2
      have qz3 := HBK9.out.fz 3
      have ql := HBK9.out.lt
      have k0 := HCB9.out.cell 0 rfl
      have k1 := HCB9.out.cell 1 rfl
      have k2 := HCB9.out.cell 2 rfl
      have k3 := HCB9.out.cell 3 rfl
      have kl := HCB9.out.lt
      go_wp2_with fail
      have hend := fin4 HR9.out HG9.out hlt (Nat.le_refl _) (.int .i64 (a : Nat)) (.int .u8 (q : Nat)) (.int .u64 (0)) (.int .u64 t.n)
      refine bodyPost_ret (v := cvV ⟨(a : Nat), q, 0, t.n⟩) (by simp [results, Tryz.results158, go_sem, cvV, q0, q1, q2, q3]) rfl ?_
      exact val_of (by rw [HW.out]) HV.out rfl hend.1 hend.2
end Go.Proofs.YtinofjbnfmalkaaGreatDoor.Pa
