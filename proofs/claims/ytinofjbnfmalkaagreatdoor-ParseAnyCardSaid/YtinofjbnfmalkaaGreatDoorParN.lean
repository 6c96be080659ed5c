/- A port's line behind its first word: the walk. -/
import Derived.Test.YtinofjbnfmalkaaGreatDoorParK
namespace Go.Proofs.YtinofjbnfmalkaaGreatDoor.Pa
open Go.RowKit Go.WideElems Go.Maps
set_option maxRecDepth 100000 in
theorem closPort (y c : Nat) (r bb : Nat) (w : World) (hc : w.cell? ⟨bb, 0, none⟩ = some (.int .u16 c)) (hb : bb < w.heap.size) : Calls Tryz.prog 136 #[.agg #[.int .u16 y, .int .u16 r], .pointer (some ⟨bb, 0, none⟩)] w (BoolPost (decide (y = c)) w) := by
 have HB := Lib.hid (show Below w.heap.size w (w.alloc (.cells #[.int .u16 y, .int .u16 r] 97)) from (Below.refl _ _).alloc (Nat.le_refl _) _)
 by_cases he : y = c
 ·rw [decide_eq_true he]
  subst he
  go_enter Tryz.func136, Tryz.ntmps136
  go_wp2_with fail
  go_ret
  exact ⟨rfl, HB.out⟩
 ·rw [decide_eq_false he]
  have g : ((y : Int) == (c : Int)) = false := by rw [beq_eq_false_iff_ne]; omega
  clear he
  go_enter Tryz.func136, Tryz.ntmps136
  go_wp2_with fail
  go_ret
  exact ⟨rfl, HB.out⟩
def IxPort (l : List (Nat × Nat)) (c : Nat) (w : World) (e : Ending) (w' : World) : Prop := (∃ v : Int, e = .returned (.int .i64 v) ∧ decide (0 ≤ v) = l.any fun y => decide (y.1 = c)) ∧ Below w.heap.size w w'
set_option maxHeartbeats 1000000 in
set_option maxRecDepth 100000 in
theorem indexPort (l : List (Nat × Nat)) (A : Option Addr) (n cap bb : Nat) (c : Nat) (w : World) (hn : l.length = n) (hr : Rd w 2 n A (l.flatMap portC)) (hc : w.cell? ⟨bb, 0, none⟩ = some (.int .u16 c)) (hb : bb < w.heap.size) (hm : n ≤ 70000) :
  Calls Tryz.prog 88 #[.slice A n cap, .func (.func 136) #[] #[.pointer (some ⟨bb, 0, none⟩)]] w (IxPort l c w) := by
 have HR := Lib.hid hr
 have HN := Lib.hid hn
 have HC := Lib.hid hc
 clear hr hc
 go_enter Tryz.func88, Tryz.ntmps88
 go_wp2_with fail
 go_loopw [8] (fun iv wr => ∃ k : Nat, iv = .int .i64 k ∧ k ≤ n ∧ Hid (((l.take k).any fun y => decide (y.1 = c)) = false) ∧ Hid (Below w.heap.size w wr)) (fun iv _ => n - (intOf iv).toNat)
 case atStart => exact ⟨0, rfl, Nat.zero_le _, rfl, Below.refl _ _⟩
 case round =>
  obtain ⟨k, rfl, hk, HT, HB⟩ := hrel
  have hbr : bb < wr.heap.size := Nat.lt_of_lt_of_le hb HB.out.size
  by_cases hlt : k < n
  ·obtain ⟨x, hx⟩ : ∃ x, l[k]? = some x := ⟨_, List.getElem?_eq_getElem (by omega)⟩
   obtain ⟨b, o, rfl, hbl, hcell⟩ := (HR.out.below HB.out).one (fun _ => rfl) (by omega) (by omega)
   obtain ⟨c0, c1⟩ := two_cells (f := portC) hcell hx rfl
   have HX := Lib.hid hx
   have hp := closPort x.1 c x.2 bb wr (cell_below HC.out HB.out) hbr
   clear hcell hx
   go_wp2_with fail
   refine hp.mono ?_
   clear hp c0 c1
   rintro e w2 ⟨rfl, hb2⟩
   have HB2 := Lib.hid (HB.out.trans (hb2.mono HB.out.size))
   clear hb2
   cases hq : decide (x.1 = c) with
   | true =>
    have HV := Lib.hid (show decide ((0 : Int) ≤ (k : Int)) = l.any fun y => decide (y.1 = c) by
     rw [decide_eq_true (by omega : (0 : Int) ≤ (k : Int))]
     exact (List.any_eq_true.2 ⟨x, List.mem_of_getElem? HX.out, hq⟩).symm)
    clear hq
    go_wp2_with fail
    go_ret
    exact ⟨⟨_, rfl, HV.out⟩, HB2.out⟩
   | false =>
    have HK := Lib.hid (show ((l.take (k + 1)).any fun y => decide (y.1 = c)) = false by
     rw [List.take_add_one, HX.out, List.any_append, HT.out]; simpa using hq)
    clear hq
    go_wp2_with fail
    go_roundw
    case rel => exact ⟨k + 1, by go_num, by omega, HK, HB2⟩
    case measure => simp [intOf]; omega
  ·have HV := Lib.hid (show decide ((0 : Int) ≤ -1) = l.any fun y => decide (y.1 = c) by
    have := HT.out
    rw [List.take_of_length_le (by have := HN.out; omega)] at this
    rw [this]; rfl)
   go_wp2_with fail
   go_ret
   exact ⟨⟨_, rfl, HV.out⟩, HB.out⟩
theorem containsPort (l : List (Nat × Nat)) (A : Option Addr) (n cap bb : Nat) (c : Nat) (w : World) (hn : l.length = n) (hr : Rd w 2 n A (l.flatMap portC)) (hc : w.cell? ⟨bb, 0, none⟩ = some (.int .u16 c)) (hb : bb < w.heap.size) (hm : n ≤ 70000) :
  Calls Tryz.prog 62 #[.slice A n cap, .func (.func 136) #[] #[.pointer (some ⟨bb, 0, none⟩)]] w (BoolPost (l.any fun y => decide (y.1 = c)) w) := by
 have hp := indexPort l A n cap bb c w hn hr hc hb hm
 go_enter Tryz.func62, Tryz.ntmps62
 go_wp2_with fail
 refine hp.mono ?_
 clear hp
 rintro e w2 ⟨⟨v, rfl, hv⟩, hb2⟩
 go_wp2_with fail
 go_ret
 refine ⟨?_, hb2⟩
 rw [← hv]
 rfl
set_option maxHeartbeats 16000000 in
set_option maxRecDepth 100000 in
theorem port_any (w0 : World) (b tb pb m : Nat) (qa : Addr) (w : World) (T : TV) (s : RS) (h : Rr w0 b tb pb qa w m T s) (hn : T.po.length ≤ 1000) :
  Calls Tryz.prog 105 #[.pointer (some ⟨b, 0, none⟩)] w (BodyR { T.m with ports := T.m.ports ++ [((nx s).n % 65536, rtV (qt1 s))] } w0 b tb pb qa m (qtS T.hd T.po s) w) := by
 have hlt := h.rb.lt
 have Hn := Lib.hid (take_any 2 b (T.c pb) s _ h.rb h.inn.len)
 have hti := h.inn.nx
 have HRr := Lib.hid h
 have hh16 : T.hd < 65536 := h.sz.hd
 clear h
 obtain ⟨t, ht⟩ : ∃ t, t = nx s := ⟨_, rfl⟩
 have HT : Hid (t = nx s) := Lib.hid ht
 rw [← ht] at Hn hti
 have htl := hti.2.2
 have hn64 := hti.2.1
 clear hti ht
 go_enter Tryz.func105, Tryz.ntmps105
 go_wp2_with fail
 refine Hn.out.mono ?_
 clear Hn
 rintro e w1 ⟨rfl, hr1, hg1⟩
 unfold tkV
 have hsm := HRr.out.small hr1 hg1 (tk_sub 2 s)
 have hbk := (Bk.new w1 182 #[.int .u8 t.k, .string ⟨t.t.toArray⟩, .int .u64 t.n, .int .i64 t.line, .int .i64 t.col] (l := [.int .u8 t.k, .string ⟨t.t.toArray⟩, .int .u64 t.n, .int .i64 t.line, .int .i64 t.col]) rfl)
 have HR2 := Lib.hid (hsm.1.alloc (.cells #[.int .u8 t.k, .string ⟨t.t.toArray⟩, .int .u64 t.n, .int .i64 t.line, .int .i64 t.col] 182))
 have HK2 := Lib.hid (hsm.2.trans (KT.below (oneb w1 (.cells #[.int .u8 t.k, .string ⟨t.t.toArray⟩, .int .u64 t.n, .int .i64 t.line, .int .i64 t.col] 182))))
 have hl1 := hr1.lt
 clear hsm hr1 hg1
 go_upto_region 1 with fail
 generalize w1.alloc _ = w2 at hbk HR2 HK2 ⊢
 have HBK := Lib.hid hbk
 clear hbk
 obtain ⟨tk, htk⟩ : ∃ tk, tk = w1.heap.size := ⟨_, rfl⟩
 rw [← htk] at HBK hl1 ⊢
 clear htk
 obtain ⟨pn, hpn0⟩ : ∃ pn, pn = t.n % 65536 := ⟨_, rfl⟩
 have HPn := Lib.hid (show t.n % 65536 = pn from hpn0.symm)
 have hpn : pn < 65536 := by rw [hpn0]; exact Nat.mod_lt _ (by decide)
 have hcv : IntKind.u16.wrap (t.n : Int) = (pn : Int) := by
  rw [hpn0]
  show ((t.n : Int) % 65536) = _
  omega
 clear hpn0
 have r2 := HBK.out.cell 2 rfl
 have rl := HBK.out.lt
 by_cases hp : 65535 < t.n
 ·have HP := Lib.hid (show qt1 s = fl (tkS 2 s) t 204 by unfold qt1; rw [← HT.out, if_pos hp])
  have gp : (65535 : Int) < (t.n : Int) := by omega
  clear hp r2 rl
  have r0 := HBK.out.cell 0 rfl
  have r1 := HBK.out.cell 1 rfl
  have r2 := HBK.out.cell 2 rfl
  have r3 := HBK.out.cell 3 rfl
  have r4 := HBK.out.cell 4 rfl
  have rl := HBK.out.lt
  go_wp2_with fail
  refine (fail_any' b (T.c pb) (tkS 2 s) t 204 _ HR2.out.rb).mono ?_
  rintro e w4 ⟨rfl, hr4, hg4⟩
  have hs4 := HR2.out.small hr4 hg4 (fl_sub (Sub.refl _) _ _)
  have HR3b := Lib.hid hs4.1
  have HK3b := Lib.hid (HK2.out.trans hs4.2)
  have HBK3b := Lib.hid (hs4.2 _ _ HBK.out)
  clear hr4 hg4 hs4 r0 r1 r2 r3 r4 rl gp
  go_upto_region 3 with fail
  go_cut [3] from 12 to 23 (fun sl wx => ∃ g : Nat, sl = .pointer (some ⟨g, 0, none⟩) ∧ b < g ∧ Hid (Bk wx g 97 [.int .u16 (pn : Nat), .int .u16 (rtV (fl (tkS 2 s) t 204) : Nat)]) ∧ Hid (Rr w0 b tb pb qa wx m T (rtS (T.hd &&& 49152) (fl (tkS 2 s) t 204))) ∧ Hid (KT w wx) ∧ Hid (Bk wx tk 182 [.int .u8 t.k, .string ⟨t.t.toArray⟩, .int .u64 t.n, .int .i64 t.line, .int .i64 t.col]))
  case first =>
   have hc0 := HBK3b.out.cell 2 rfl
   have hc5 : w4.cell? ⟨b, 5, none⟩ = some (.int .u16 T.hd) := by obtain ⟨_, _, hq, _⟩ := HR3b.out.rb.blk; exact hq.cell 5 rfl
   have hand : bits .and .u16 (T.hd : Int) 49152 = ((T.hd &&& 49152 : Nat) : Int) := u16_and_nat T.hd 49152 hh16 (by omega)
   have hbd := (Below.refl w4.heap.size w4).drew
   have HRc := Lib.hid (HR3b.out.kept hbd)
   have HKc := Lib.hid (HK3b.out.trans (KT.drew w4))
   have HBc := Lib.hid (HBK3b.out.drew)
   have hc0v : w4.drew.cell? ⟨tk, 2, none⟩ = _ := hc0
   have hc5v : w4.drew.cell? ⟨b, 5, none⟩ = _ := hc5
   refine wp_region_held_drew (S := fun W : World => W.cell? ⟨tk, 2, none⟩ = some (.int .u64 t.n) ∧ W.cell? ⟨b, 5, none⟩ = some (.int .u16 T.hd)) (by kernel_rfl) ?_ (fun hHeld0 => ?_)
   ·exact ⟨hc0v, hc5v⟩
   generalize w4.drew = v0 at hHeld0 HRc HKc HBc hbd ⊢
   clear hbd hc0 hc5 hc0v hc5v
   refine wpAnyH_take (i := 0) (v := ?_) (by first | (simp only [List.getElem?_toArray, List.getElem?_cons_zero] <;> rfl) | rfl) (by kernel_rfl) (by kernel_rfl) (by kernel_rfl) (by exact fun _ _ _ h => h) (Or.inl ⟨by rfl, ?_⟩) hHeld0 ?_
   rotate_left 1
   ·intro w hSw
    try dsimp only at hSw
    (go_simp) <;> (with_reducible rfl)
   try simp only [Act.put, List.setIfInBounds_toArray, List.set_cons_zero, List.set_cons_succ]
   refine wpAnyH_take (i := 1) (v := ?_) (by first | (simp only [List.getElem?_toArray, List.getElem?_cons_succ, List.getElem?_cons_zero] <;> rfl) | rfl) (by kernel_rfl) (by kernel_rfl) (by kernel_rfl) (by exact fun _ _ _ h => h) (Or.inl ⟨by rfl, ?_⟩) hHeld0 ?_
   rotate_left 1
   ·intro w hSw
    try dsimp only at hSw
    (go_simp) <;> (with_reducible rfl)
   try simp only [Act.put, List.setIfInBounds_toArray, List.set_cons_zero, List.set_cons_succ]
   refine wpAnyH_take (i := 2) (v := ?_) (by first | (simp only [List.getElem?_toArray, List.getElem?_cons_succ, List.getElem?_cons_zero] <;> rfl) | rfl) (by kernel_rfl) (by kernel_rfl) (by kernel_rfl) (by exact fun _ _ _ h => h) (Or.inl ⟨by rfl, ?_⟩) hHeld0 ?_
   rotate_left 1
   ·intro w hSw
    try dsimp only at hSw
    (go_simp) <;> (with_reducible rfl)
   try simp only [Act.put, List.setIfInBounds_toArray, List.set_cons_zero, List.set_cons_succ]
   refine wpAnyH_take (i := 3) (v := ?_) (by first | (simp only [List.getElem?_toArray, List.getElem?_cons_succ, List.getElem?_cons_zero] <;> rfl) | rfl) (by kernel_rfl) (by kernel_rfl) (by kernel_rfl) (by exact fun _ _ _ h => h) (Or.inl ⟨by rfl, ?_⟩) hHeld0 ?_
   rotate_left 1
   ·intro w hSw
    try dsimp only at hSw
    (go_simp) <;> (with_reducible rfl)
   try simp only [Act.put, List.setIfInBounds_toArray, List.set_cons_zero, List.set_cons_succ]
   refine wpAnyH_take (i := 4) (v := ?_) (by first | (simp only [List.getElem?_toArray, List.getElem?_cons_succ, List.getElem?_cons_zero] <;> rfl) | rfl) (by kernel_rfl) (by kernel_rfl) (by kernel_rfl) (by exact fun _ _ _ h => h) (Or.inl ⟨by rfl, ?_⟩) hHeld0 ?_
   rotate_left 1
   ·intro w hSw
    try dsimp only at hSw
    (go_simp) <;> (with_reducible rfl)
   try simp only [Act.put, List.setIfInBounds_toArray, List.set_cons_zero, List.set_cons_succ]
   refine wpAnyH_take (i := 5) (v := ?_) (by first | (simp only [List.getElem?_toArray, List.getElem?_cons_succ, List.getElem?_cons_zero] <;> rfl) | rfl) (by kernel_rfl) (by kernel_rfl) (by kernel_rfl) (by exact fun _ _ _ h => h) (Or.inl ⟨by rfl, ?_⟩) hHeld0 ?_
   rotate_left 1
   ·intro w hSw
    try dsimp only at hSw
    (go_simp) <;> (with_reducible rfl)
   try simp only [Act.put, List.setIfInBounds_toArray, List.set_cons_zero, List.set_cons_succ]
   refine wpAnyH_take (i := 6) (v := ?_) (by first | (simp only [List.getElem?_toArray, List.getElem?_cons_succ, List.getElem?_cons_zero] <;> rfl) | rfl) (by kernel_rfl) (by kernel_rfl) (by kernel_rfl) (by exact fun _ _ _ h => h) (Or.inl ⟨by rfl, ?_⟩) hHeld0 ?_
   rotate_left 1
   ·intro w hSw
    try dsimp only at hSw
    (go_simp) <;> (with_reducible rfl)
   try simp only [Act.put, List.setIfInBounds_toArray, List.set_cons_zero, List.set_cons_succ]
   refine wpAnyH_take (i := 7) (v := ?_) (by first | (simp only [List.getElem?_toArray, List.getElem?_cons_succ, List.getElem?_cons_zero] <;> rfl) | rfl) (by kernel_rfl) (by kernel_rfl) (by kernel_rfl) (by exact fun _ _ _ h => h) (Or.inl ⟨by rfl, ?_⟩) hHeld0 ?_
   rotate_left 1
   ·intro w hSw
    try dsimp only at hSw
    (go_simp) <;> (with_reducible rfl)
   try simp only [Act.put, List.setIfInBounds_toArray, List.set_cons_zero, List.set_cons_succ]
   refine wpAnyH_take (i := 8) (v := ?_) (by first | (simp only [List.getElem?_toArray, List.getElem?_cons_succ, List.getElem?_cons_zero] <;> rfl) | rfl) (by kernel_rfl) (by kernel_rfl) (by kernel_rfl) (by exact fun _ _ _ h => h) (Or.inl ⟨by rfl, ?_⟩) hHeld0 ?_
   rotate_left 1
   ·intro w hSw
    try dsimp only at hSw
    (go_simp) <;> (with_reducible rfl)
   try simp only [Act.put, List.setIfInBounds_toArray, List.set_cons_zero, List.set_cons_succ]
   refine wpAnyH_take (i := 9) (v := ?_) (by first | (simp only [List.getElem?_toArray, List.getElem?_cons_succ, List.getElem?_cons_zero] <;> rfl) | rfl) (by kernel_rfl) (by kernel_rfl) (by kernel_rfl) (by exact fun _ _ _ h => h) (Or.inl ⟨by rfl, ?_⟩) hHeld0 ?_
   rotate_left 1
   ·intro w hSw
    try dsimp only at hSw
    (go_simp) <;> (with_reducible rfl)
   try simp only [Act.put, List.setIfInBounds_toArray, List.set_cons_zero, List.set_cons_succ]
   refine wpAnyH_ready (rs := [10, 12]) (by kernel_rfl) (by simp) ?_
   refine AllReadyH.cons (by first | (simp only [List.getElem?_toArray, List.getElem?_cons_succ, List.getElem?_cons_zero] <;> rfl) | rfl) (fun K hK => ?_) ?_
   ·go_simp
    refine (rights_any (T.hd &&& 49152) pb tb qa b (T.c pb) (fl (tkS 2 s) t 204) _ HRc.out.rb HRc.out.inn HRc.out.ev HRc.out.pz rfl (Nat.lt_of_le_of_lt Nat.and_le_left hh16)).mono ?_
    rintro e v ⟨rfl, hrr, hgg⟩
    have hss := HRc.out.small hrr hgg (rt_sub _ _)
    refine hK.out _ _ ?_ (fun hHeld1 => ?_)
    ·exact ⟨cell_grow hHeld0.1 hgg (by have := hl1; omega), by obtain ⟨_, _, hq, _⟩ := hss.1.rb.blk; exact hq.cell 5 rfl⟩
    clear hK K
    have HBc := Lib.hid (HBc.out.grown hgg (by intro e; have := Option.some.inj e; omega))
    first | (have HNb := Lib.hid (HNb.out.grown hgg (by intro e; have := Option.some.inj e; omega))) | skip
    have HRc := Lib.hid hss.1
    have HKc := Lib.hid (HKc.out.trans hss.2)
    clear hrr hgg hss hHeld0
    first | (have n0 := HNb.out.cell 0 rfl; have n1 := HNb.out.cell 1 rfl; have nz0 := HNb.out.fz 0; have nz1 := HNb.out.fz 1; have nl := HNb.out.lt) | skip
    try simp only [Act.put, List.setIfInBounds_toArray, List.set_cons_zero, List.set_cons_succ]
    refine wpAnyH_take (i := 11) (v := ?_) (by first | (simp only [List.getElem?_toArray, List.getElem?_cons_succ, List.getElem?_cons_zero] <;> rfl) | rfl) (by kernel_rfl) (by kernel_rfl) (by kernel_rfl) (by exact fun _ _ _ h => h) (Or.inl ⟨by rfl, ?_⟩) hHeld1 ?_
    rotate_left 1
    ·intro w hSw
     try dsimp only at hSw
     (go_simp) <;> (with_reducible rfl)
    try simp only [Act.put, List.setIfInBounds_toArray, List.set_cons_zero, List.set_cons_succ]
    refine wpAnyH_ready (rs := [12]) (by kernel_rfl) (by simp) ?_
    refine AllReadyH.cons (by first | (simp only [List.getElem?_toArray, List.getElem?_cons_succ, List.getElem?_cons_zero] <;> rfl) | rfl) (fun K hK => ?_) ?_
    ·go_simp
     refine hK.out _ _ ?_ (fun hHeld2 => ?_)
     ·exact ⟨cell_below hHeld1.1 (oneb _ _), cell_below hHeld1.2 (oneb _ _)⟩
     clear hK K
     have hgl := HRc.out.rb.lt
     have HNr := Lib.hid (fun q hq => Nat.ne_of_lt (HRc.out.p.lt q hq).2)
     have HNq := Lib.hid (fun q hq => Nat.ne_of_lt (HRc.out.q.lt q hq).2)
     have HRp := HRc
     have HKp := HKc
     have HBp := HBc
     have HNb := Lib.hid (newBk HRc.out 97 (l := [.int .u16 0, .int .u16 0]) (a := #[.int .u16 0, .int .u16 0]) rfl)
     have HRc := Lib.hid (HRc.out.alloc (.cells #[.int .u16 0, .int .u16 0] 97))
     have HKc := Lib.hid (HKc.out.trans (KT.below (oneb _ (.cells #[.int .u16 0, .int .u16 0] 97))))
     have HBc := Lib.hid (HBc.out.alloc (.cells #[.int .u16 0, .int .u16 0] 97))
     first | (have n0 := HNb.out.cell 0 rfl; have n1 := HNb.out.cell 1 rfl; have nz0 := HNb.out.fz 0; have nz1 := HNb.out.fz 1; have nl := HNb.out.lt) | skip
     try simp only [Act.put, List.setIfInBounds_toArray, List.set_cons_zero, List.set_cons_succ]
     refine wpAnyH_ready (rs := [13]) (by kernel_rfl) (by simp) ?_
     refine AllReadyH.cons (by first | (simp only [List.getElem?_toArray, List.getElem?_cons_succ, List.getElem?_cons_zero] <;> rfl) | rfl) (fun K hK => ?_) ?_
     ·go_simp
      refine hK.out _ _ ?_ (fun hHeld3 => ?_)
      ·first | exact ⟨cell_below hHeld1.1 (oneb _ _), cell_below hHeld1.2 (oneb _ _)⟩ | exact ⟨cell_grow hHeld2.1 (set2_grown _ _ _ _) (HBc.out.tyb.ne HNb.out.tyb (by decide)), cell_grow hHeld2.2 (set2_grown _ _ _ _) (by omega)⟩
      clear hK K
      try simp only [Act.put, List.setIfInBounds_toArray, List.set_cons_zero, List.set_cons_succ]
      refine wpAnyH_done (by kernel_rfl) ?_ _
      go_wp2_with fail
      go_meet
      case rel =>
       first | exact ⟨_, rfl, hgl, Bk.new _ _ _ rfl, HRp.out.alloc _, HKp.out.trans (KT.below (oneb _ _)), HBp.out.alloc _⟩ | exact ⟨_, rfl, hgl, (HNb.out.set 0 (.int .u16 (pn : Nat))).set 1 (.int .u16 (rtV (fl (tkS 2 s) t 204) : Nat)), HRc.out.otherB (set2_grown _ _ _ _) HNb.out.tyb hgl (by decide) (by decide) (by decide) HNr.out HNq.out, HKc.out.trans (KT.grown (set2_grown _ _ _ _) HNb.out.tyb (by decide)), HBc.out.grown (set2_grown _ _ _ _) (by intro e; exact HBc.out.tyb.ne HNb.out.tyb (by decide) (Option.some.inj e))⟩
     exact AllReadyH.nil
    exact AllReadyH.nil
   refine AllReadyH.cons (by first | (simp only [List.getElem?_toArray, List.getElem?_cons_succ, List.getElem?_cons_zero] <;> rfl) | rfl) (fun K hK => ?_) ?_
   ·go_simp
    refine hK.out _ _ ?_ (fun hHeld1 => ?_)
    ·exact ⟨cell_below hHeld0.1 (oneb _ _), cell_below hHeld0.2 (oneb _ _)⟩
    clear hK K
    have hgl := HRc.out.rb.lt
    have HNr := Lib.hid (fun q hq => Nat.ne_of_lt (HRc.out.p.lt q hq).2)
    have HNq := Lib.hid (fun q hq => Nat.ne_of_lt (HRc.out.q.lt q hq).2)
    have HRp := HRc
    have HKp := HKc
    have HBp := HBc
    have HNb := Lib.hid (newBk HRc.out 97 (l := [.int .u16 0, .int .u16 0]) (a := #[.int .u16 0, .int .u16 0]) rfl)
    have HRc := Lib.hid (HRc.out.alloc (.cells #[.int .u16 0, .int .u16 0] 97))
    have HKc := Lib.hid (HKc.out.trans (KT.below (oneb _ (.cells #[.int .u16 0, .int .u16 0] 97))))
    have HBc := Lib.hid (HBc.out.alloc (.cells #[.int .u16 0, .int .u16 0] 97))
    first | (have n0 := HNb.out.cell 0 rfl; have n1 := HNb.out.cell 1 rfl; have nz0 := HNb.out.fz 0; have nz1 := HNb.out.fz 1; have nl := HNb.out.lt) | skip
    try simp only [Act.put, List.setIfInBounds_toArray, List.set_cons_zero, List.set_cons_succ]
    refine wpAnyH_ready (rs := [10]) (by kernel_rfl) (by simp) ?_
    refine AllReadyH.cons (by first | (simp only [List.getElem?_toArray, List.getElem?_cons_succ, List.getElem?_cons_zero] <;> rfl) | rfl) (fun K hK => ?_) ?_
    ·go_simp
     refine (rights_any (T.hd &&& 49152) pb tb qa b (T.c pb) (fl (tkS 2 s) t 204) _ HRc.out.rb HRc.out.inn HRc.out.ev HRc.out.pz rfl (Nat.lt_of_le_of_lt Nat.and_le_left hh16)).mono ?_
     rintro e v ⟨rfl, hrr, hgg⟩
     have hss := HRc.out.small hrr hgg (rt_sub _ _)
     refine hK.out _ _ ?_ (fun hHeld2 => ?_)
     ·exact ⟨cell_grow hHeld1.1 hgg (by have := hl1; omega), by obtain ⟨_, _, hq, _⟩ := hss.1.rb.blk; exact hq.cell 5 rfl⟩
     clear hK K
     have HBc := Lib.hid (HBc.out.grown hgg (by intro e; have := Option.some.inj e; omega))
     first | (have HNb := Lib.hid (HNb.out.grown hgg (by intro e; have := Option.some.inj e; omega))) | skip
     have HRc := Lib.hid hss.1
     have HKc := Lib.hid (HKc.out.trans hss.2)
     clear hrr hgg hss hHeld1
     first | (have n0 := HNb.out.cell 0 rfl; have n1 := HNb.out.cell 1 rfl; have nz0 := HNb.out.fz 0; have nz1 := HNb.out.fz 1; have nl := HNb.out.lt) | skip
     try simp only [Act.put, List.setIfInBounds_toArray, List.set_cons_zero, List.set_cons_succ]
     refine wpAnyH_take (i := 11) (v := ?_) (by first | (simp only [List.getElem?_toArray, List.getElem?_cons_succ, List.getElem?_cons_zero] <;> rfl) | rfl) (by kernel_rfl) (by kernel_rfl) (by kernel_rfl) (by exact fun _ _ _ h => h) (Or.inl ⟨by rfl, ?_⟩) hHeld2 ?_
     rotate_left 1
     ·intro w hSw
      try dsimp only at hSw
      (go_simp) <;> (with_reducible rfl)
     try simp only [Act.put, List.setIfInBounds_toArray, List.set_cons_zero, List.set_cons_succ]
     refine wpAnyH_ready (rs := [13]) (by kernel_rfl) (by simp) ?_
     refine AllReadyH.cons (by first | (simp only [List.getElem?_toArray, List.getElem?_cons_succ, List.getElem?_cons_zero] <;> rfl) | rfl) (fun K hK => ?_) ?_
     ·go_simp
      refine hK.out _ _ ?_ (fun hHeld3 => ?_)
      ·first | exact ⟨cell_below hHeld1.1 (oneb _ _), cell_below hHeld1.2 (oneb _ _)⟩ | exact ⟨cell_grow hHeld2.1 (set2_grown _ _ _ _) (HBc.out.tyb.ne HNb.out.tyb (by decide)), cell_grow hHeld2.2 (set2_grown _ _ _ _) (by omega)⟩
      clear hK K
      try simp only [Act.put, List.setIfInBounds_toArray, List.set_cons_zero, List.set_cons_succ]
      refine wpAnyH_done (by kernel_rfl) ?_ _
      go_wp2_with fail
      go_meet
      case rel =>
       first | exact ⟨_, rfl, hgl, Bk.new _ _ _ rfl, HRp.out.alloc _, HKp.out.trans (KT.below (oneb _ _)), HBp.out.alloc _⟩ | exact ⟨_, rfl, hgl, (HNb.out.set 0 (.int .u16 (pn : Nat))).set 1 (.int .u16 (rtV (fl (tkS 2 s) t 204) : Nat)), HRc.out.otherB (set2_grown _ _ _ _) HNb.out.tyb hgl (by decide) (by decide) (by decide) HNr.out HNq.out, HKc.out.trans (KT.grown (set2_grown _ _ _ _) HNb.out.tyb (by decide)), HBc.out.grown (set2_grown _ _ _ _) (by intro e; exact HBc.out.tyb.ne HNb.out.tyb (by decide) (Option.some.inj e))⟩
     exact AllReadyH.nil
    exact AllReadyH.nil
   exact AllReadyH.nil
  case rest =>
   obtain ⟨g, rfl, hgb, HNb, HR4, HK4, HB4⟩ := hcut
   rename World => w5
   obtain ⟨A2, c2, e2, hc2, htr2, _⟩ := own_typed HR4.out.q
   have hq6 : w5.cell? ⟨b, 7, none⟩ = some T.qv := by obtain ⟨_, _, hq, _⟩ := HR4.out.rb.blk; exact hq.cell 7 rfl
   rw [e2] at hq6
   obtain ⟨n2, hn2⟩ : ∃ n2, n2 = T.po.length := ⟨_, rfl⟩
   rw [← hn2] at hq6 htr2 hn hc2
   have hct := Lib.hid (containsPort T.po A2 n2 c2 g pn w5 hn2.symm htr2.rd (HNb.out.cell 0 rfl) HNb.out.lt (by omega))
   have HN2 := Lib.hid hn2
   have hbl5 := HR4.out.rb.lt
   clear e2 htr2 hn2
   go_wp2_with fail
   refine hct.out.mono ?_
   clear hct
   rintro e w6 ⟨rfl, hb6⟩
   have HN6 := Lib.hid (HNb.out.kept hb6)
   have HR6 := Lib.hid (HR4.out.kept hb6)
   have HK6 := Lib.hid (HK4.out.trans (KT.below hb6))
   have HB6 := Lib.hid (HB4.out.kept hb6)
   clear hb6 hq6
   cases hany : (T.po.any fun y => decide (y.1 = pn)) with
   | true =>
    have HS := Lib.hid (show qtS T.hd T.po s = fl (rtS (T.hd &&& 49152) (fl (tkS 2 s) t 204)) t 206 by unfold qtS; rw [← HT.out, HPn.out, hany, if_pos rfl, HP.out])
    clear hany
    have r0 := HB6.out.cell 0 rfl
    have r1 := HB6.out.cell 1 rfl
    have r2 := HB6.out.cell 2 rfl
    have r3 := HB6.out.cell 3 rfl
    have r4 := HB6.out.cell 4 rfl
    have rl := HB6.out.lt
    go_wp2_with fail
    refine (fail_any' b (T.c pb) (rtS (T.hd &&& 49152) (fl (tkS 2 s) t 204)) t 206 _ HR6.out.rb).mono ?_
    rintro e w7 ⟨rfl, hr7, hg7⟩
    have hs7 := HR6.out.small hr7 hg7 (fl_sub (Sub.refl _) _ _)
    have hx := HN6.out.grown hg7 (by intro e; have := Option.some.inj e; omega)
    have hR4 := hs7.1
    have hK4 := HK6.out.trans hs7.2
    have hl4 := hx.lt
    clear hr7 hg7 hs7 r0 r1 r2 r3 r4 rl
    go_upto_region 6 with fail
    have hRsz := Lib.hid hR4.sz
    rw [HN2.out] at hn
    refine wp_region_any (by kernel_rfl) ?_
    change wpAny _ _ _ _ _ _ _ (World.drew _)
    have hxv := hx.drew
    have hRv := hR4.kept (Below.refl w7.heap.size w7).drew
    have hKv := hK4.trans (KT.drew w7)
    have hlv : g < w7.drew.heap.size := hl4
    generalize w7.drew = v0 at hxv hRv hKv hlv  ⊢
    have hb5 := oneb v0 (.cells #[.int .u16 (pn : Nat), .int .u16 (rtV (fl (tkS 2 s) t 204) : Nat)] 97)
    have HR5 := Lib.hid (hRv.kept hb5)
    have HK5 := Lib.hid (hKv.trans (KT.below hb5))
    have hB5 := Bk.new v0 97 #[.int .u16 (pn : Nat), .int .u16 (rtV (fl (tkS 2 s) t 204) : Nat)] (l := [.int .u16 (pn : Nat), .int .u16 (rtV (fl (tkS 2 s) t 204) : Nat)]) rfl
    obtain ⟨v', wb, hrun, ho, hg⟩ := row_run (t := 33) (ty := 33) infoPP rfl (by decide) Tryz.underlying33 (by decide) HR5.out.q hB5 rfl (by intro u hu; simp at hu; rcases hu with rfl | rfl <;> rfl) (by omega) (by have := HR5.out.rb.lt; omega)
    obtain ⟨A7, c7, hv7, _⟩ := own_typed ho
    subst hv7
    have hob := HR5.out.rb.app HR5.out.q hg
    obtain ⟨Al, capl, hbl, _⟩ := hob.blk
    have z4 := hbl.cell 7 rfl
    have zf := hbl.fz 7
    have zl := hbl.lt
    have HO := Lib.hid ho
    have HG := Lib.hid hg
    have HRun := Lib.hid hrun
    have hb4 : v0.cell? ⟨b, 7, none⟩ = some T.qv := by obtain ⟨_, _, hq, _⟩ := hRv.rb.blk; exact hq.cell 7 rfl
    have hbl4 := hRv.rb.lt
    have x0 := hxv.cell 0 rfl
    have x1 := hxv.cell 1 rfl
    have xl := hxv.lt
    clear hxv hRv hKv hb5 hB5 hrun ho hg hob hbl hx hR4 hK4  
    refine wpAny_take (i := 0) (v := ?_) rfl (by kernel_rfl) (by kernel_rfl) (by kernel_rfl) (fun _ _ _ h => h) (Or.inl ⟨by rfl, ?_⟩) ?_
    rotate_left 1
    ·intro w
     (go_simp) <;> (with_reducible rfl)
    refine wpAny_take (i := 1) (v := ?_) rfl (by kernel_rfl) (by kernel_rfl) (by kernel_rfl) (fun _ _ _ h => h) (Or.inl ⟨by rfl, ?_⟩) ?_
    rotate_left 1
    ·intro w
     (go_simp) <;> (with_reducible rfl)
    refine wpAny_take (i := 2) (v := ?_) rfl (by kernel_rfl) (by kernel_rfl) (by kernel_rfl) (fun _ _ _ h => h) (Or.inl ⟨by rfl, ?_⟩) ?_
    rotate_left 1
    ·intro w
     (go_simp) <;> (with_reducible rfl)
    refine wpAny_take (i := 3) (v := ?_) rfl (by kernel_rfl) (by kernel_rfl) (by kernel_rfl) (fun _ _ _ h => h) (Or.inl ⟨by rfl, ?_⟩) ?_
    rotate_left 1
    ·intro w
     (go_simp) <;> (with_reducible rfl)
    refine wpAny_take (i := 4) (v := ?_) rfl (by kernel_rfl) (by kernel_rfl) (by kernel_rfl) (fun _ _ _ h => h) (Or.inl ⟨by rfl, ?_⟩) ?_
    rotate_left 1
    ·intro w
     (go_simp) <;> (with_reducible rfl)
    refine wpAny_ready (rs := [5, 6]) (by kernel_rfl) (by simp) ?_
    refine AllReady.cons rfl (fun K hK => ?_) ?_
    ·skip
     go_simp
     refine hK _ _ ?_
     clear hK K
     refine wpAny_ready (rs := [6]) (by kernel_rfl) (by simp) ?_
     refine AllReady.cons rfl (fun K hK => ?_) ?_
     ·skip
      go_simp
      refine hK _ _ ?_
      clear hK K
      refine wpAny_ready (rs := [7]) (by kernel_rfl) (by simp) ?_
      refine AllReady.cons rfl (fun K hK => ?_) ?_
      ·skip
       go_simp
       refine hK _ _ ?_
       clear hK K
       refine wpAny_ready (rs := [8]) (by kernel_rfl) (by simp) ?_
       refine AllReady.cons rfl (fun K hK => ?_) ?_
       ·skip
        rw [if_pos (by rfl)]
        refine op_append (.tmp 39) (.tmp 41) 33 rfl _ _ _ wb rfl rfl HRun.out ?_
        refine hK _ _ ?_
        clear hK K
        refine wpAny_take (i := 9) (v := ?_) rfl (by kernel_rfl) (by kernel_rfl) (by kernel_rfl) (fun _ _ _ h => h) (Or.inl ⟨by rfl, ?_⟩) ?_
        rotate_left 1
        ·intro w
         (go_simp) <;> (with_reducible rfl)
        refine wpAny_take (i := 10) (v := ?_) rfl (by kernel_rfl) (by kernel_rfl) (by kernel_rfl) (fun _ _ _ h => h) (Or.inl ⟨by rfl, ?_⟩) ?_
        rotate_left 1
        ·intro w
         (go_simp) <;> (with_reducible rfl)
        refine wpAny_take (i := 11) (v := ?_) rfl (by kernel_rfl) (by kernel_rfl) (by kernel_rfl) (fun _ _ _ h => h) (Or.inl ⟨by rfl, ?_⟩) ?_
        rotate_left 1
        ·intro w
         (go_simp) <;> (with_reducible rfl)
        refine wpAny_ready (rs := [12]) (by kernel_rfl) (by simp) ?_
        refine AllReady.cons rfl (fun K hK => ?_) ?_
        ·skip
         go_simp
         refine hK _ _ ?_
         clear hK K
         refine wpAny_done (by kernel_rfl) ?_ _
         go_wp2_with fail
         go_end0
         have had := HR5.out.addPort (pn, rtV (fl (tkS 2 s) t 204)) HO.out HG.out (sz_port hRsz.out hpn (rtV_lt _))
         exact body_of (p' := { T.m with ports := T.m.ports ++ [(pn, rtV (fl (tkS 2 s) t 204))] }) (s' := fl (rtS (T.hd &&& 49152) (fl (tkS 2 s) t 204)) t 206) (by rw [← HT.out, HPn.out, HP.out]) HS.out rfl rfl had.1 (HK5.out.trans had.2)
        exact AllReady.nil
       exact AllReady.nil
      exact AllReady.nil
     exact AllReady.nil
    refine AllReady.cons rfl (fun K hK => ?_) ?_
    ·skip
     go_simp
     refine hK _ _ ?_
     clear hK K
     refine wpAny_ready (rs := [5, 7]) (by kernel_rfl) (by simp) ?_
     refine AllReady.cons rfl (fun K hK => ?_) ?_
     ·skip
      go_simp
      refine hK _ _ ?_
      clear hK K
      refine wpAny_ready (rs := [7]) (by kernel_rfl) (by simp) ?_
      refine AllReady.cons rfl (fun K hK => ?_) ?_
      ·skip
       go_simp
       refine hK _ _ ?_
       clear hK K
       refine wpAny_ready (rs := [8]) (by kernel_rfl) (by simp) ?_
       refine AllReady.cons rfl (fun K hK => ?_) ?_
       ·skip
        rw [if_pos (by rfl)]
        refine op_append (.tmp 39) (.tmp 41) 33 rfl _ _ _ wb rfl rfl HRun.out ?_
        refine hK _ _ ?_
        clear hK K
        refine wpAny_take (i := 9) (v := ?_) rfl (by kernel_rfl) (by kernel_rfl) (by kernel_rfl) (fun _ _ _ h => h) (Or.inl ⟨by rfl, ?_⟩) ?_
        rotate_left 1
        ·intro w
         (go_simp) <;> (with_reducible rfl)
        refine wpAny_take (i := 10) (v := ?_) rfl (by kernel_rfl) (by kernel_rfl) (by kernel_rfl) (fun _ _ _ h => h) (Or.inl ⟨by rfl, ?_⟩) ?_
        rotate_left 1
        ·intro w
         (go_simp) <;> (with_reducible rfl)
        refine wpAny_take (i := 11) (v := ?_) rfl (by kernel_rfl) (by kernel_rfl) (by kernel_rfl) (fun _ _ _ h => h) (Or.inl ⟨by rfl, ?_⟩) ?_
        rotate_left 1
        ·intro w
         (go_simp) <;> (with_reducible rfl)
        refine wpAny_ready (rs := [12]) (by kernel_rfl) (by simp) ?_
        refine AllReady.cons rfl (fun K hK => ?_) ?_
        ·skip
         go_simp
         refine hK _ _ ?_
         clear hK K
         refine wpAny_done (by kernel_rfl) ?_ _
         go_wp2_with fail
         go_end0
         have had := HR5.out.addPort (pn, rtV (fl (tkS 2 s) t 204)) HO.out HG.out (sz_port hRsz.out hpn (rtV_lt _))
         exact body_of (p' := { T.m with ports := T.m.ports ++ [(pn, rtV (fl (tkS 2 s) t 204))] }) (s' := fl (rtS (T.hd &&& 49152) (fl (tkS 2 s) t 204)) t 206) (by rw [← HT.out, HPn.out, HP.out]) HS.out rfl rfl had.1 (HK5.out.trans had.2)
        exact AllReady.nil
       exact AllReady.nil
      exact AllReady.nil
     refine AllReady.cons rfl (fun K hK => ?_) ?_
     ·skip
      go_simp
      refine hK _ _ ?_
      clear hK K
      refine wpAny_ready (rs := [5]) (by kernel_rfl) (by simp) ?_
      refine AllReady.cons rfl (fun K hK => ?_) ?_
      ·skip
       go_simp
       refine hK _ _ ?_
       clear hK K
       refine wpAny_ready (rs := [8]) (by kernel_rfl) (by simp) ?_
       refine AllReady.cons rfl (fun K hK => ?_) ?_
       ·skip
        rw [if_pos (by rfl)]
        refine op_append (.tmp 39) (.tmp 41) 33 rfl _ _ _ wb rfl rfl HRun.out ?_
        refine hK _ _ ?_
        clear hK K
        refine wpAny_take (i := 9) (v := ?_) rfl (by kernel_rfl) (by kernel_rfl) (by kernel_rfl) (fun _ _ _ h => h) (Or.inl ⟨by rfl, ?_⟩) ?_
        rotate_left 1
        ·intro w
         (go_simp) <;> (with_reducible rfl)
        refine wpAny_take (i := 10) (v := ?_) rfl (by kernel_rfl) (by kernel_rfl) (by kernel_rfl) (fun _ _ _ h => h) (Or.inl ⟨by rfl, ?_⟩) ?_
        rotate_left 1
        ·intro w
         (go_simp) <;> (with_reducible rfl)
        refine wpAny_take (i := 11) (v := ?_) rfl (by kernel_rfl) (by kernel_rfl) (by kernel_rfl) (fun _ _ _ h => h) (Or.inl ⟨by rfl, ?_⟩) ?_
        rotate_left 1
        ·intro w
         (go_simp) <;> (with_reducible rfl)
        refine wpAny_ready (rs := [12]) (by kernel_rfl) (by simp) ?_
        refine AllReady.cons rfl (fun K hK => ?_) ?_
        ·skip
         go_simp
         refine hK _ _ ?_
         clear hK K
         refine wpAny_done (by kernel_rfl) ?_ _
         go_wp2_with fail
         go_end0
         have had := HR5.out.addPort (pn, rtV (fl (tkS 2 s) t 204)) HO.out HG.out (sz_port hRsz.out hpn (rtV_lt _))
         exact body_of (p' := { T.m with ports := T.m.ports ++ [(pn, rtV (fl (tkS 2 s) t 204))] }) (s' := fl (rtS (T.hd &&& 49152) (fl (tkS 2 s) t 204)) t 206) (by rw [← HT.out, HPn.out, HP.out]) HS.out rfl rfl had.1 (HK5.out.trans had.2)
        exact AllReady.nil
       exact AllReady.nil
      exact AllReady.nil
     exact AllReady.nil
    exact AllReady.nil
   | false =>
    have HS := Lib.hid (show qtS T.hd T.po s = rtS (T.hd &&& 49152) (fl (tkS 2 s) t 204) by unfold qtS; rw [← HT.out, HPn.out, hany, if_neg (by simp), HP.out])
    clear hany
    have hx := HN6.out
    have hR4 := HR6.out
    have hK4 := HK6.out
    have hl4 := hx.lt
    go_upto_region 6 with fail
    have hRsz := Lib.hid hR4.sz
    rw [HN2.out] at hn
    refine wp_region_any (by kernel_rfl) ?_
    change wpAny _ _ _ _ _ _ _ (World.drew _)
    have hxv := hx.drew
    have hRv := hR4.kept (Below.refl w6.heap.size w6).drew
    have hKv := hK4.trans (KT.drew w6)
    have hlv : g < w6.drew.heap.size := hl4
    generalize w6.drew = v0 at hxv hRv hKv hlv  ⊢
    have hb5 := oneb v0 (.cells #[.int .u16 (pn : Nat), .int .u16 (rtV (fl (tkS 2 s) t 204) : Nat)] 97)
    have HR5 := Lib.hid (hRv.kept hb5)
    have HK5 := Lib.hid (hKv.trans (KT.below hb5))
    have hB5 := Bk.new v0 97 #[.int .u16 (pn : Nat), .int .u16 (rtV (fl (tkS 2 s) t 204) : Nat)] (l := [.int .u16 (pn : Nat), .int .u16 (rtV (fl (tkS 2 s) t 204) : Nat)]) rfl
    obtain ⟨v', wb, hrun, ho, hg⟩ := row_run (t := 33) (ty := 33) infoPP rfl (by decide) Tryz.underlying33 (by decide) HR5.out.q hB5 rfl (by intro u hu; simp at hu; rcases hu with rfl | rfl <;> rfl) (by omega) (by have := HR5.out.rb.lt; omega)
    obtain ⟨A7, c7, hv7, _⟩ := own_typed ho
    subst hv7
    have hob := HR5.out.rb.app HR5.out.q hg
    obtain ⟨Al, capl, hbl, _⟩ := hob.blk
    have z4 := hbl.cell 7 rfl
    have zf := hbl.fz 7
    have zl := hbl.lt
    have HO := Lib.hid ho
    have HG := Lib.hid hg
    have HRun := Lib.hid hrun
    have hb4 : v0.cell? ⟨b, 7, none⟩ = some T.qv := by obtain ⟨_, _, hq, _⟩ := hRv.rb.blk; exact hq.cell 7 rfl
    have hbl4 := hRv.rb.lt
    have x0 := hxv.cell 0 rfl
    have x1 := hxv.cell 1 rfl
    have xl := hxv.lt
    clear hxv hRv hKv hb5 hB5 hrun ho hg hob hbl hx hR4 hK4  
    refine wpAny_take (i := 0) (v := ?_) rfl (by kernel_rfl) (by kernel_rfl) (by kernel_rfl) (fun _ _ _ h => h) (Or.inl ⟨by rfl, ?_⟩) ?_
    rotate_left 1
    ·intro w
     (go_simp) <;> (with_reducible rfl)
    refine wpAny_take (i := 1) (v := ?_) rfl (by kernel_rfl) (by kernel_rfl) (by kernel_rfl) (fun _ _ _ h => h) (Or.inl ⟨by rfl, ?_⟩) ?_
    rotate_left 1
    ·intro w
     (go_simp) <;> (with_reducible rfl)
    refine wpAny_take (i := 2) (v := ?_) rfl (by kernel_rfl) (by kernel_rfl) (by kernel_rfl) (fun _ _ _ h => h) (Or.inl ⟨by rfl, ?_⟩) ?_
    rotate_left 1
    ·intro w
     (go_simp) <;> (with_reducible rfl)
    refine wpAny_take (i := 3) (v := ?_) rfl (by kernel_rfl) (by kernel_rfl) (by kernel_rfl) (fun _ _ _ h => h) (Or.inl ⟨by rfl, ?_⟩) ?_
    rotate_left 1
    ·intro w
     (go_simp) <;> (with_reducible rfl)
    refine wpAny_take (i := 4) (v := ?_) rfl (by kernel_rfl) (by kernel_rfl) (by kernel_rfl) (fun _ _ _ h => h) (Or.inl ⟨by rfl, ?_⟩) ?_
    rotate_left 1
    ·intro w
     (go_simp) <;> (with_reducible rfl)
    refine wpAny_ready (rs := [5, 6]) (by kernel_rfl) (by simp) ?_
    refine AllReady.cons rfl (fun K hK => ?_) ?_
    ·skip
     go_simp
     refine hK _ _ ?_
     clear hK K
     refine wpAny_ready (rs := [6]) (by kernel_rfl) (by simp) ?_
     refine AllReady.cons rfl (fun K hK => ?_) ?_
     ·skip
      go_simp
      refine hK _ _ ?_
      clear hK K
      refine wpAny_ready (rs := [7]) (by kernel_rfl) (by simp) ?_
      refine AllReady.cons rfl (fun K hK => ?_) ?_
      ·skip
       go_simp
       refine hK _ _ ?_
       clear hK K
       refine wpAny_ready (rs := [8]) (by kernel_rfl) (by simp) ?_
       refine AllReady.cons rfl (fun K hK => ?_) ?_
       ·skip
        rw [if_pos (by rfl)]
        refine op_append (.tmp 39) (.tmp 41) 33 rfl _ _ _ wb rfl rfl HRun.out ?_
        refine hK _ _ ?_
        clear hK K
        refine wpAny_take (i := 9) (v := ?_) rfl (by kernel_rfl) (by kernel_rfl) (by kernel_rfl) (fun _ _ _ h => h) (Or.inl ⟨by rfl, ?_⟩) ?_
        rotate_left 1
        ·intro w
         (go_simp) <;> (with_reducible rfl)
        refine wpAny_take (i := 10) (v := ?_) rfl (by kernel_rfl) (by kernel_rfl) (by kernel_rfl) (fun _ _ _ h => h) (Or.inl ⟨by rfl, ?_⟩) ?_
        rotate_left 1
        ·intro w
         (go_simp) <;> (with_reducible rfl)
        refine wpAny_take (i := 11) (v := ?_) rfl (by kernel_rfl) (by kernel_rfl) (by kernel_rfl) (fun _ _ _ h => h) (Or.inl ⟨by rfl, ?_⟩) ?_
        rotate_left 1
        ·intro w
         (go_simp) <;> (with_reducible rfl)
        refine wpAny_ready (rs := [12]) (by kernel_rfl) (by simp) ?_
        refine AllReady.cons rfl (fun K hK => ?_) ?_
        ·skip
         go_simp
         refine hK _ _ ?_
         clear hK K
         refine wpAny_done (by kernel_rfl) ?_ _
         go_wp2_with fail
         go_end0
         have had := HR5.out.addPort (pn, rtV (fl (tkS 2 s) t 204)) HO.out HG.out (sz_port hRsz.out hpn (rtV_lt _))
         exact body_of (p' := { T.m with ports := T.m.ports ++ [(pn, rtV (fl (tkS 2 s) t 204))] }) (s' := rtS (T.hd &&& 49152) (fl (tkS 2 s) t 204)) (by rw [← HT.out, HPn.out, HP.out]) HS.out rfl rfl had.1 (HK5.out.trans had.2)
        exact AllReady.nil
       exact AllReady.nil
      exact AllReady.nil
     exact AllReady.nil
    refine AllReady.cons rfl (fun K hK => ?_) ?_
    ·skip
     go_simp
     refine hK _ _ ?_
     clear hK K
     refine wpAny_ready (rs := [5, 7]) (by kernel_rfl) (by simp) ?_
     refine AllReady.cons rfl (fun K hK => ?_) ?_
     ·skip
      go_simp
      refine hK _ _ ?_
      clear hK K
      refine wpAny_ready (rs := [7]) (by kernel_rfl) (by simp) ?_
      refine AllReady.cons rfl (fun K hK => ?_) ?_
      ·skip
       go_simp
       refine hK _ _ ?_
       clear hK K
       refine wpAny_ready (rs := [8]) (by kernel_rfl) (by simp) ?_
       refine AllReady.cons rfl (fun K hK => ?_) ?_
       ·skip
        rw [if_pos (by rfl)]
        refine op_append (.tmp 39) (.tmp 41) 33 rfl _ _ _ wb rfl rfl HRun.out ?_
        refine hK _ _ ?_
        clear hK K
        refine wpAny_take (i := 9) (v := ?_) rfl (by kernel_rfl) (by kernel_rfl) (by kernel_rfl) (fun _ _ _ h => h) (Or.inl ⟨by rfl, ?_⟩) ?_
        rotate_left 1
        ·intro w
         (go_simp) <;> (with_reducible rfl)
        refine wpAny_take (i := 10) (v := ?_) rfl (by kernel_rfl) (by kernel_rfl) (by kernel_rfl) (fun _ _ _ h => h) (Or.inl ⟨by rfl, ?_⟩) ?_
        rotate_left 1
        ·intro w
         (go_simp) <;> (with_reducible rfl)
        refine wpAny_take (i := 11) (v := ?_) rfl (by kernel_rfl) (by kernel_rfl) (by kernel_rfl) (fun _ _ _ h => h) (Or.inl ⟨by rfl, ?_⟩) ?_
        rotate_left 1
        ·intro w
         (go_simp) <;> (with_reducible rfl)
        refine wpAny_ready (rs := [12]) (by kernel_rfl) (by simp) ?_
        refine AllReady.cons rfl (fun K hK => ?_) ?_
        ·skip
         go_simp
         refine hK _ _ ?_
         clear hK K
         refine wpAny_done (by kernel_rfl) ?_ _
         go_wp2_with fail
         go_end0
         have had := HR5.out.addPort (pn, rtV (fl (tkS 2 s) t 204)) HO.out HG.out (sz_port hRsz.out hpn (rtV_lt _))
         exact body_of (p' := { T.m with ports := T.m.ports ++ [(pn, rtV (fl (tkS 2 s) t 204))] }) (s' := rtS (T.hd &&& 49152) (fl (tkS 2 s) t 204)) (by rw [← HT.out, HPn.out, HP.out]) HS.out rfl rfl had.1 (HK5.out.trans had.2)
        exact AllReady.nil
       exact AllReady.nil
      exact AllReady.nil
     refine AllReady.cons rfl (fun K hK => ?_) ?_
     ·skip
      go_simp
      refine hK _ _ ?_
      clear hK K
      refine wpAny_ready (rs := [5]) (by kernel_rfl) (by simp) ?_
      refine AllReady.cons rfl (fun K hK => ?_) ?_
      ·skip
       go_simp
       refine hK _ _ ?_
       clear hK K
       refine wpAny_ready (rs := [8]) (by kernel_rfl) (by simp) ?_
       refine AllReady.cons rfl (fun K hK => ?_) ?_
       ·skip
        rw [if_pos (by rfl)]
        refine op_append (.tmp 39) (.tmp 41) 33 rfl _ _ _ wb rfl rfl HRun.out ?_
        refine hK _ _ ?_
        clear hK K
        refine wpAny_take (i := 9) (v := ?_) rfl (by kernel_rfl) (by kernel_rfl) (by kernel_rfl) (fun _ _ _ h => h) (Or.inl ⟨by rfl, ?_⟩) ?_
        rotate_left 1
        ·intro w
         (go_simp) <;> (with_reducible rfl)
        refine wpAny_take (i := 10) (v := ?_) rfl (by kernel_rfl) (by kernel_rfl) (by kernel_rfl) (fun _ _ _ h => h) (Or.inl ⟨by rfl, ?_⟩) ?_
        rotate_left 1
        ·intro w
         (go_simp) <;> (with_reducible rfl)
        refine wpAny_take (i := 11) (v := ?_) rfl (by kernel_rfl) (by kernel_rfl) (by kernel_rfl) (fun _ _ _ h => h) (Or.inl ⟨by rfl, ?_⟩) ?_
        rotate_left 1
        ·intro w
         (go_simp) <;> (with_reducible rfl)
        refine wpAny_ready (rs := [12]) (by kernel_rfl) (by simp) ?_
        refine AllReady.cons rfl (fun K hK => ?_) ?_
        ·skip
         go_simp
         refine hK _ _ ?_
         clear hK K
         refine wpAny_done (by kernel_rfl) ?_ _
         go_wp2_with fail
         go_end0
         have had := HR5.out.addPort (pn, rtV (fl (tkS 2 s) t 204)) HO.out HG.out (sz_port hRsz.out hpn (rtV_lt _))
         exact body_of (p' := { T.m with ports := T.m.ports ++ [(pn, rtV (fl (tkS 2 s) t 204))] }) (s' := rtS (T.hd &&& 49152) (fl (tkS 2 s) t 204)) (by rw [← HT.out, HPn.out, HP.out]) HS.out rfl rfl had.1 (HK5.out.trans had.2)
        exact AllReady.nil
       exact AllReady.nil
      exact AllReady.nil
     exact AllReady.nil
    exact AllReady.nil
 ·have HP := Lib.hid (show qt1 s = tkS 2 s by unfold qt1; rw [← HT.out, if_neg hp])
  have gp : ¬ (65535 : Int) < (t.n : Int) := by omega
  have gp2 : (t.n : Int) ≤ 65535 := by omega
  clear hp
  go_upto_region 3 with fail
  go_cut [3] from 12 to 23 (fun sl wx => ∃ g : Nat, sl = .pointer (some ⟨g, 0, none⟩) ∧ b < g ∧ Hid (Bk wx g 97 [.int .u16 (pn : Nat), .int .u16 (rtV (tkS 2 s) : Nat)]) ∧ Hid (Rr w0 b tb pb qa wx m T (rtS (T.hd &&& 49152) (tkS 2 s))) ∧ Hid (KT w wx) ∧ Hid (Bk wx tk 182 [.int .u8 t.k, .string ⟨t.t.toArray⟩, .int .u64 t.n, .int .i64 t.line, .int .i64 t.col]))
  case first =>
   have hc0 := HBK.out.cell 2 rfl
   have hc5 : w2.cell? ⟨b, 5, none⟩ = some (.int .u16 T.hd) := by obtain ⟨_, _, hq, _⟩ := HR2.out.rb.blk; exact hq.cell 5 rfl
   have hand : bits .and .u16 (T.hd : Int) 49152 = ((T.hd &&& 49152 : Nat) : Int) := u16_and_nat T.hd 49152 hh16 (by omega)
   have hbd := (Below.refl w2.heap.size w2).drew
   have HRc := Lib.hid (HR2.out.kept hbd)
   have HKc := Lib.hid (HK2.out.trans (KT.drew w2))
   have HBc := Lib.hid (HBK.out.drew)
   have hc0v : w2.drew.cell? ⟨tk, 2, none⟩ = _ := hc0
   have hc5v : w2.drew.cell? ⟨b, 5, none⟩ = _ := hc5
   refine wp_region_held_drew (S := fun W : World => W.cell? ⟨tk, 2, none⟩ = some (.int .u64 t.n) ∧ W.cell? ⟨b, 5, none⟩ = some (.int .u16 T.hd)) (by kernel_rfl) ?_ (fun hHeld0 => ?_)
   ·exact ⟨hc0v, hc5v⟩
   generalize w2.drew = v0 at hHeld0 HRc HKc HBc hbd ⊢
   clear hbd hc0 hc5 hc0v hc5v
   refine wpAnyH_take (i := 0) (v := ?_) (by first | (simp only [List.getElem?_toArray, List.getElem?_cons_zero] <;> rfl) | rfl) (by kernel_rfl) (by kernel_rfl) (by kernel_rfl) (by exact fun _ _ _ h => h) (Or.inl ⟨by rfl, ?_⟩) hHeld0 ?_
   rotate_left 1
   ·intro w hSw
    try dsimp only at hSw
    (go_simp) <;> (with_reducible rfl)
   try simp only [Act.put, List.setIfInBounds_toArray, List.set_cons_zero, List.set_cons_succ]
   refine wpAnyH_take (i := 1) (v := ?_) (by first | (simp only [List.getElem?_toArray, List.getElem?_cons_succ, List.getElem?_cons_zero] <;> rfl) | rfl) (by kernel_rfl) (by kernel_rfl) (by kernel_rfl) (by exact fun _ _ _ h => h) (Or.inl ⟨by rfl, ?_⟩) hHeld0 ?_
   rotate_left 1
   ·intro w hSw
    try dsimp only at hSw
    (go_simp) <;> (with_reducible rfl)
   try simp only [Act.put, List.setIfInBounds_toArray, List.set_cons_zero, List.set_cons_succ]
   refine wpAnyH_take (i := 2) (v := ?_) (by first | (simp only [List.getElem?_toArray, List.getElem?_cons_succ, List.getElem?_cons_zero] <;> rfl) | rfl) (by kernel_rfl) (by kernel_rfl) (by kernel_rfl) (by exact fun _ _ _ h => h) (Or.inl ⟨by rfl, ?_⟩) hHeld0 ?_
   rotate_left 1
   ·intro w hSw
    try dsimp only at hSw
    (go_simp) <;> (with_reducible rfl)
   try simp only [Act.put, List.setIfInBounds_toArray, List.set_cons_zero, List.set_cons_succ]
   refine wpAnyH_take (i := 3) (v := ?_) (by first | (simp only [List.getElem?_toArray, List.getElem?_cons_succ, List.getElem?_cons_zero] <;> rfl) | rfl) (by kernel_rfl) (by kernel_rfl) (by kernel_rfl) (by exact fun _ _ _ h => h) (Or.inl ⟨by rfl, ?_⟩) hHeld0 ?_
   rotate_left 1
   ·intro w hSw
    try dsimp only at hSw
    (go_simp) <;> (with_reducible rfl)
   try simp only [Act.put, List.setIfInBounds_toArray, List.set_cons_zero, List.set_cons_succ]
   refine wpAnyH_take (i := 4) (v := ?_) (by first | (simp only [List.getElem?_toArray, List.getElem?_cons_succ, List.getElem?_cons_zero] <;> rfl) | rfl) (by kernel_rfl) (by kernel_rfl) (by kernel_rfl) (by exact fun _ _ _ h => h) (Or.inl ⟨by rfl, ?_⟩) hHeld0 ?_
   rotate_left 1
   ·intro w hSw
    try dsimp only at hSw
    (go_simp) <;> (with_reducible rfl)
   try simp only [Act.put, List.setIfInBounds_toArray, List.set_cons_zero, List.set_cons_succ]
   refine wpAnyH_take (i := 5) (v := ?_) (by first | (simp only [List.getElem?_toArray, List.getElem?_cons_succ, List.getElem?_cons_zero] <;> rfl) | rfl) (by kernel_rfl) (by kernel_rfl) (by kernel_rfl) (by exact fun _ _ _ h => h) (Or.inl ⟨by rfl, ?_⟩) hHeld0 ?_
   rotate_left 1
   ·intro w hSw
    try dsimp only at hSw
    (go_simp) <;> (with_reducible rfl)
   try simp only [Act.put, List.setIfInBounds_toArray, List.set_cons_zero, List.set_cons_succ]
   refine wpAnyH_take (i := 6) (v := ?_) (by first | (simp only [List.getElem?_toArray, List.getElem?_cons_succ, List.getElem?_cons_zero] <;> rfl) | rfl) (by kernel_rfl) (by kernel_rfl) (by kernel_rfl) (by exact fun _ _ _ h => h) (Or.inl ⟨by rfl, ?_⟩) hHeld0 ?_
   rotate_left 1
   ·intro w hSw
    try dsimp only at hSw
    (go_simp) <;> (with_reducible rfl)
   try simp only [Act.put, List.setIfInBounds_toArray, List.set_cons_zero, List.set_cons_succ]
   refine wpAnyH_take (i := 7) (v := ?_) (by first | (simp only [List.getElem?_toArray, List.getElem?_cons_succ, List.getElem?_cons_zero] <;> rfl) | rfl) (by kernel_rfl) (by kernel_rfl) (by kernel_rfl) (by exact fun _ _ _ h => h) (Or.inl ⟨by rfl, ?_⟩) hHeld0 ?_
   rotate_left 1
   ·intro w hSw
    try dsimp only at hSw
    (go_simp) <;> (with_reducible rfl)
   try simp only [Act.put, List.setIfInBounds_toArray, List.set_cons_zero, List.set_cons_succ]
   refine wpAnyH_take (i := 8) (v := ?_) (by first | (simp only [List.getElem?_toArray, List.getElem?_cons_succ, List.getElem?_cons_zero] <;> rfl) | rfl) (by kernel_rfl) (by kernel_rfl) (by kernel_rfl) (by exact fun _ _ _ h => h) (Or.inl ⟨by rfl, ?_⟩) hHeld0 ?_
   rotate_left 1
   ·intro w hSw
    try dsimp only at hSw
    (go_simp) <;> (with_reducible rfl)
   try simp only [Act.put, List.setIfInBounds_toArray, List.set_cons_zero, List.set_cons_succ]
   refine wpAnyH_take (i := 9) (v := ?_) (by first | (simp only [List.getElem?_toArray, List.getElem?_cons_succ, List.getElem?_cons_zero] <;> rfl) | rfl) (by kernel_rfl) (by kernel_rfl) (by kernel_rfl) (by exact fun _ _ _ h => h) (Or.inl ⟨by rfl, ?_⟩) hHeld0 ?_
   rotate_left 1
   ·intro w hSw
    try dsimp only at hSw
    (go_simp) <;> (with_reducible rfl)
   try simp only [Act.put, List.setIfInBounds_toArray, List.set_cons_zero, List.set_cons_succ]
   refine wpAnyH_ready (rs := [10, 12]) (by kernel_rfl) (by simp) ?_
   refine AllReadyH.cons (by first | (simp only [List.getElem?_toArray, List.getElem?_cons_succ, List.getElem?_cons_zero] <;> rfl) | rfl) (fun K hK => ?_) ?_
   ·go_simp
    refine (rights_any (T.hd &&& 49152) pb tb qa b (T.c pb) (tkS 2 s) _ HRc.out.rb HRc.out.inn HRc.out.ev HRc.out.pz rfl (Nat.lt_of_le_of_lt Nat.and_le_left hh16)).mono ?_
    rintro e v ⟨rfl, hrr, hgg⟩
    have hss := HRc.out.small hrr hgg (rt_sub _ _)
    refine hK.out _ _ ?_ (fun hHeld1 => ?_)
    ·exact ⟨cell_grow hHeld0.1 hgg (by have := hl1; omega), by obtain ⟨_, _, hq, _⟩ := hss.1.rb.blk; exact hq.cell 5 rfl⟩
    clear hK K
    have HBc := Lib.hid (HBc.out.grown hgg (by intro e; have := Option.some.inj e; omega))
    first | (have HNb := Lib.hid (HNb.out.grown hgg (by intro e; have := Option.some.inj e; omega))) | skip
    have HRc := Lib.hid hss.1
    have HKc := Lib.hid (HKc.out.trans hss.2)
    clear hrr hgg hss hHeld0
    first | (have n0 := HNb.out.cell 0 rfl; have n1 := HNb.out.cell 1 rfl; have nz0 := HNb.out.fz 0; have nz1 := HNb.out.fz 1; have nl := HNb.out.lt) | skip
    try simp only [Act.put, List.setIfInBounds_toArray, List.set_cons_zero, List.set_cons_succ]
    refine wpAnyH_take (i := 11) (v := ?_) (by first | (simp only [List.getElem?_toArray, List.getElem?_cons_succ, List.getElem?_cons_zero] <;> rfl) | rfl) (by kernel_rfl) (by kernel_rfl) (by kernel_rfl) (by exact fun _ _ _ h => h) (Or.inl ⟨by rfl, ?_⟩) hHeld1 ?_
    rotate_left 1
    ·intro w hSw
     try dsimp only at hSw
     (go_simp) <;> (with_reducible rfl)
    try simp only [Act.put, List.setIfInBounds_toArray, List.set_cons_zero, List.set_cons_succ]
    refine wpAnyH_ready (rs := [12]) (by kernel_rfl) (by simp) ?_
    refine AllReadyH.cons (by first | (simp only [List.getElem?_toArray, List.getElem?_cons_succ, List.getElem?_cons_zero] <;> rfl) | rfl) (fun K hK => ?_) ?_
    ·go_simp
     refine hK.out _ _ ?_ (fun hHeld2 => ?_)
     ·exact ⟨cell_below hHeld1.1 (oneb _ _), cell_below hHeld1.2 (oneb _ _)⟩
     clear hK K
     have hgl := HRc.out.rb.lt
     have HNr := Lib.hid (fun q hq => Nat.ne_of_lt (HRc.out.p.lt q hq).2)
     have HNq := Lib.hid (fun q hq => Nat.ne_of_lt (HRc.out.q.lt q hq).2)
     have HRp := HRc
     have HKp := HKc
     have HBp := HBc
     have HNb := Lib.hid (newBk HRc.out 97 (l := [.int .u16 0, .int .u16 0]) (a := #[.int .u16 0, .int .u16 0]) rfl)
     have HRc := Lib.hid (HRc.out.alloc (.cells #[.int .u16 0, .int .u16 0] 97))
     have HKc := Lib.hid (HKc.out.trans (KT.below (oneb _ (.cells #[.int .u16 0, .int .u16 0] 97))))
     have HBc := Lib.hid (HBc.out.alloc (.cells #[.int .u16 0, .int .u16 0] 97))
     first | (have n0 := HNb.out.cell 0 rfl; have n1 := HNb.out.cell 1 rfl; have nz0 := HNb.out.fz 0; have nz1 := HNb.out.fz 1; have nl := HNb.out.lt) | skip
     try simp only [Act.put, List.setIfInBounds_toArray, List.set_cons_zero, List.set_cons_succ]
     refine wpAnyH_ready (rs := [13]) (by kernel_rfl) (by simp) ?_
     refine AllReadyH.cons (by first | (simp only [List.getElem?_toArray, List.getElem?_cons_succ, List.getElem?_cons_zero] <;> rfl) | rfl) (fun K hK => ?_) ?_
     ·go_simp
      refine hK.out _ _ ?_ (fun hHeld3 => ?_)
      ·first | exact ⟨cell_below hHeld1.1 (oneb _ _), cell_below hHeld1.2 (oneb _ _)⟩ | exact ⟨cell_grow hHeld2.1 (set2_grown _ _ _ _) (HBc.out.tyb.ne HNb.out.tyb (by decide)), cell_grow hHeld2.2 (set2_grown _ _ _ _) (by omega)⟩
      clear hK K
      try simp only [Act.put, List.setIfInBounds_toArray, List.set_cons_zero, List.set_cons_succ]
      refine wpAnyH_done (by kernel_rfl) ?_ _
      go_wp2_with fail
      go_meet
      case rel =>
       first | exact ⟨_, rfl, hgl, Bk.new _ _ _ rfl, HRp.out.alloc _, HKp.out.trans (KT.below (oneb _ _)), HBp.out.alloc _⟩ | exact ⟨_, rfl, hgl, (HNb.out.set 0 (.int .u16 (pn : Nat))).set 1 (.int .u16 (rtV (tkS 2 s) : Nat)), HRc.out.otherB (set2_grown _ _ _ _) HNb.out.tyb hgl (by decide) (by decide) (by decide) HNr.out HNq.out, HKc.out.trans (KT.grown (set2_grown _ _ _ _) HNb.out.tyb (by decide)), HBc.out.grown (set2_grown _ _ _ _) (by intro e; exact HBc.out.tyb.ne HNb.out.tyb (by decide) (Option.some.inj e))⟩
     exact AllReadyH.nil
    exact AllReadyH.nil
   refine AllReadyH.cons (by first | (simp only [List.getElem?_toArray, List.getElem?_cons_succ, List.getElem?_cons_zero] <;> rfl) | rfl) (fun K hK => ?_) ?_
   ·go_simp
    refine hK.out _ _ ?_ (fun hHeld1 => ?_)
    ·exact ⟨cell_below hHeld0.1 (oneb _ _), cell_below hHeld0.2 (oneb _ _)⟩
    clear hK K
    have hgl := HRc.out.rb.lt
    have HNr := Lib.hid (fun q hq => Nat.ne_of_lt (HRc.out.p.lt q hq).2)
    have HNq := Lib.hid (fun q hq => Nat.ne_of_lt (HRc.out.q.lt q hq).2)
    have HRp := HRc
    have HKp := HKc
    have HBp := HBc
    have HNb := Lib.hid (newBk HRc.out 97 (l := [.int .u16 0, .int .u16 0]) (a := #[.int .u16 0, .int .u16 0]) rfl)
    have HRc := Lib.hid (HRc.out.alloc (.cells #[.int .u16 0, .int .u16 0] 97))
    have HKc := Lib.hid (HKc.out.trans (KT.below (oneb _ (.cells #[.int .u16 0, .int .u16 0] 97))))
    have HBc := Lib.hid (HBc.out.alloc (.cells #[.int .u16 0, .int .u16 0] 97))
    first | (have n0 := HNb.out.cell 0 rfl; have n1 := HNb.out.cell 1 rfl; have nz0 := HNb.out.fz 0; have nz1 := HNb.out.fz 1; have nl := HNb.out.lt) | skip
    try simp only [Act.put, List.setIfInBounds_toArray, List.set_cons_zero, List.set_cons_succ]
    refine wpAnyH_ready (rs := [10]) (by kernel_rfl) (by simp) ?_
    refine AllReadyH.cons (by first | (simp only [List.getElem?_toArray, List.getElem?_cons_succ, List.getElem?_cons_zero] <;> rfl) | rfl) (fun K hK => ?_) ?_
    ·go_simp
     refine (rights_any (T.hd &&& 49152) pb tb qa b (T.c pb) (tkS 2 s) _ HRc.out.rb HRc.out.inn HRc.out.ev HRc.out.pz rfl (Nat.lt_of_le_of_lt Nat.and_le_left hh16)).mono ?_
     rintro e v ⟨rfl, hrr, hgg⟩
     have hss := HRc.out.small hrr hgg (rt_sub _ _)
     refine hK.out _ _ ?_ (fun hHeld2 => ?_)
     ·exact ⟨cell_grow hHeld1.1 hgg (by have := hl1; omega), by obtain ⟨_, _, hq, _⟩ := hss.1.rb.blk; exact hq.cell 5 rfl⟩
     clear hK K
     have HBc := Lib.hid (HBc.out.grown hgg (by intro e; have := Option.some.inj e; omega))
     first | (have HNb := Lib.hid (HNb.out.grown hgg (by intro e; have := Option.some.inj e; omega))) | skip
     have HRc := Lib.hid hss.1
     have HKc := Lib.hid (HKc.out.trans hss.2)
     clear hrr hgg hss hHeld1
     first | (have n0 := HNb.out.cell 0 rfl; have n1 := HNb.out.cell 1 rfl; have nz0 := HNb.out.fz 0; have nz1 := HNb.out.fz 1; have nl := HNb.out.lt) | skip
     try simp only [Act.put, List.setIfInBounds_toArray, List.set_cons_zero, List.set_cons_succ]
     refine wpAnyH_take (i := 11) (v := ?_) (by first | (simp only [List.getElem?_toArray, List.getElem?_cons_succ, List.getElem?_cons_zero] <;> rfl) | rfl) (by kernel_rfl) (by kernel_rfl) (by kernel_rfl) (by exact fun _ _ _ h => h) (Or.inl ⟨by rfl, ?_⟩) hHeld2 ?_
     rotate_left 1
     ·intro w hSw
      try dsimp only at hSw
      (go_simp) <;> (with_reducible rfl)
     try simp only [Act.put, List.setIfInBounds_toArray, List.set_cons_zero, List.set_cons_succ]
     refine wpAnyH_ready (rs := [13]) (by kernel_rfl) (by simp) ?_
     refine AllReadyH.cons (by first | (simp only [List.getElem?_toArray, List.getElem?_cons_succ, List.getElem?_cons_zero] <;> rfl) | rfl) (fun K hK => ?_) ?_
     ·go_simp
      refine hK.out _ _ ?_ (fun hHeld3 => ?_)
      ·first | exact ⟨cell_below hHeld1.1 (oneb _ _), cell_below hHeld1.2 (oneb _ _)⟩ | exact ⟨cell_grow hHeld2.1 (set2_grown _ _ _ _) (HBc.out.tyb.ne HNb.out.tyb (by decide)), cell_grow hHeld2.2 (set2_grown _ _ _ _) (by omega)⟩
      clear hK K
      try simp only [Act.put, List.setIfInBounds_toArray, List.set_cons_zero, List.set_cons_succ]
      refine wpAnyH_done (by kernel_rfl) ?_ _
      go_wp2_with fail
      go_meet
      case rel =>
       first | exact ⟨_, rfl, hgl, Bk.new _ _ _ rfl, HRp.out.alloc _, HKp.out.trans (KT.below (oneb _ _)), HBp.out.alloc _⟩ | exact ⟨_, rfl, hgl, (HNb.out.set 0 (.int .u16 (pn : Nat))).set 1 (.int .u16 (rtV (tkS 2 s) : Nat)), HRc.out.otherB (set2_grown _ _ _ _) HNb.out.tyb hgl (by decide) (by decide) (by decide) HNr.out HNq.out, HKc.out.trans (KT.grown (set2_grown _ _ _ _) HNb.out.tyb (by decide)), HBc.out.grown (set2_grown _ _ _ _) (by intro e; exact HBc.out.tyb.ne HNb.out.tyb (by decide) (Option.some.inj e))⟩
     exact AllReadyH.nil
    exact AllReadyH.nil
   exact AllReadyH.nil
  case rest =>
   obtain ⟨g, rfl, hgb, HNb, HR4, HK4, HB4⟩ := hcut
   rename World => w5
   obtain ⟨A2, c2, e2, hc2, htr2, _⟩ := own_typed HR4.out.q
   have hq6 : w5.cell? ⟨b, 7, none⟩ = some T.qv := by obtain ⟨_, _, hq, _⟩ := HR4.out.rb.blk; exact hq.cell 7 rfl
   rw [e2] at hq6
   obtain ⟨n2, hn2⟩ : ∃ n2, n2 = T.po.length := ⟨_, rfl⟩
   rw [← hn2] at hq6 htr2 hn hc2
   have hct := Lib.hid (containsPort T.po A2 n2 c2 g pn w5 hn2.symm htr2.rd (HNb.out.cell 0 rfl) HNb.out.lt (by omega))
   have HN2 := Lib.hid hn2
   have hbl5 := HR4.out.rb.lt
   clear e2 htr2 hn2
   go_wp2_with fail
   refine hct.out.mono ?_
   clear hct
   rintro e w6 ⟨rfl, hb6⟩
   have HN6 := Lib.hid (HNb.out.kept hb6)
   have HR6 := Lib.hid (HR4.out.kept hb6)
   have HK6 := Lib.hid (HK4.out.trans (KT.below hb6))
   have HB6 := Lib.hid (HB4.out.kept hb6)
   clear hb6 hq6
   cases hany : (T.po.any fun y => decide (y.1 = pn)) with
   | true =>
    have HS := Lib.hid (show qtS T.hd T.po s = fl (rtS (T.hd &&& 49152) (tkS 2 s)) t 206 by unfold qtS; rw [← HT.out, HPn.out, hany, if_pos rfl, HP.out])
    clear hany
    have r0 := HB6.out.cell 0 rfl
    have r1 := HB6.out.cell 1 rfl
    have r2 := HB6.out.cell 2 rfl
    have r3 := HB6.out.cell 3 rfl
    have r4 := HB6.out.cell 4 rfl
    have rl := HB6.out.lt
    go_wp2_with fail
    refine (fail_any' b (T.c pb) (rtS (T.hd &&& 49152) (tkS 2 s)) t 206 _ HR6.out.rb).mono ?_
    rintro e w7 ⟨rfl, hr7, hg7⟩
    have hs7 := HR6.out.small hr7 hg7 (fl_sub (Sub.refl _) _ _)
    have hx := HN6.out.grown hg7 (by intro e; have := Option.some.inj e; omega)
    have hR4 := hs7.1
    have hK4 := HK6.out.trans hs7.2
    have hl4 := hx.lt
    clear hr7 hg7 hs7 r0 r1 r2 r3 r4 rl
    go_upto_region 6 with fail
    have hRsz := Lib.hid hR4.sz
    rw [HN2.out] at hn
    refine wp_region_any (by kernel_rfl) ?_
    change wpAny _ _ _ _ _ _ _ (World.drew _)
    have hxv := hx.drew
    have hRv := hR4.kept (Below.refl w7.heap.size w7).drew
    have hKv := hK4.trans (KT.drew w7)
    have hlv : g < w7.drew.heap.size := hl4
    generalize w7.drew = v0 at hxv hRv hKv hlv  ⊢
    have hb5 := oneb v0 (.cells #[.int .u16 (pn : Nat), .int .u16 (rtV (tkS 2 s) : Nat)] 97)
    have HR5 := Lib.hid (hRv.kept hb5)
    have HK5 := Lib.hid (hKv.trans (KT.below hb5))
    have hB5 := Bk.new v0 97 #[.int .u16 (pn : Nat), .int .u16 (rtV (tkS 2 s) : Nat)] (l := [.int .u16 (pn : Nat), .int .u16 (rtV (tkS 2 s) : Nat)]) rfl
    obtain ⟨v', wb, hrun, ho, hg⟩ := row_run (t := 33) (ty := 33) infoPP rfl (by decide) Tryz.underlying33 (by decide) HR5.out.q hB5 rfl (by intro u hu; simp at hu; rcases hu with rfl | rfl <;> rfl) (by omega) (by have := HR5.out.rb.lt; omega)
    obtain ⟨A7, c7, hv7, _⟩ := own_typed ho
    subst hv7
    have hob := HR5.out.rb.app HR5.out.q hg
    obtain ⟨Al, capl, hbl, _⟩ := hob.blk
    have z4 := hbl.cell 7 rfl
    have zf := hbl.fz 7
    have zl := hbl.lt
    have HO := Lib.hid ho
    have HG := Lib.hid hg
    have HRun := Lib.hid hrun
    have hb4 : v0.cell? ⟨b, 7, none⟩ = some T.qv := by obtain ⟨_, _, hq, _⟩ := hRv.rb.blk; exact hq.cell 7 rfl
    have hbl4 := hRv.rb.lt
    have x0 := hxv.cell 0 rfl
    have x1 := hxv.cell 1 rfl
    have xl := hxv.lt
    clear hxv hRv hKv hb5 hB5 hrun ho hg hob hbl hx hR4 hK4  
    refine wpAny_take (i := 0) (v := ?_) rfl (by kernel_rfl) (by kernel_rfl) (by kernel_rfl) (fun _ _ _ h => h) (Or.inl ⟨by rfl, ?_⟩) ?_
    rotate_left 1
    ·intro w
     (go_simp) <;> (with_reducible rfl)
    refine wpAny_take (i := 1) (v := ?_) rfl (by kernel_rfl) (by kernel_rfl) (by kernel_rfl) (fun _ _ _ h => h) (Or.inl ⟨by rfl, ?_⟩) ?_
    rotate_left 1
    ·intro w
     (go_simp) <;> (with_reducible rfl)
    refine wpAny_take (i := 2) (v := ?_) rfl (by kernel_rfl) (by kernel_rfl) (by kernel_rfl) (fun _ _ _ h => h) (Or.inl ⟨by rfl, ?_⟩) ?_
    rotate_left 1
    ·intro w
     (go_simp) <;> (with_reducible rfl)
    refine wpAny_take (i := 3) (v := ?_) rfl (by kernel_rfl) (by kernel_rfl) (by kernel_rfl) (fun _ _ _ h => h) (Or.inl ⟨by rfl, ?_⟩) ?_
    rotate_left 1
    ·intro w
     (go_simp) <;> (with_reducible rfl)
    refine wpAny_take (i := 4) (v := ?_) rfl (by kernel_rfl) (by kernel_rfl) (by kernel_rfl) (fun _ _ _ h => h) (Or.inl ⟨by rfl, ?_⟩) ?_
    rotate_left 1
    ·intro w
     (go_simp) <;> (with_reducible rfl)
    refine wpAny_ready (rs := [5, 6]) (by kernel_rfl) (by simp) ?_
    refine AllReady.cons rfl (fun K hK => ?_) ?_
    ·skip
     go_simp
     refine hK _ _ ?_
     clear hK K
     refine wpAny_ready (rs := [6]) (by kernel_rfl) (by simp) ?_
     refine AllReady.cons rfl (fun K hK => ?_) ?_
     ·skip
      go_simp
      refine hK _ _ ?_
      clear hK K
      refine wpAny_ready (rs := [7]) (by kernel_rfl) (by simp) ?_
      refine AllReady.cons rfl (fun K hK => ?_) ?_
      ·skip
       go_simp
       refine hK _ _ ?_
       clear hK K
       refine wpAny_ready (rs := [8]) (by kernel_rfl) (by simp) ?_
       refine AllReady.cons rfl (fun K hK => ?_) ?_
       ·skip
        rw [if_pos (by rfl)]
        refine op_append (.tmp 39) (.tmp 41) 33 rfl _ _ _ wb rfl rfl HRun.out ?_
        refine hK _ _ ?_
        clear hK K
        refine wpAny_take (i := 9) (v := ?_) rfl (by kernel_rfl) (by kernel_rfl) (by kernel_rfl) (fun _ _ _ h => h) (Or.inl ⟨by rfl, ?_⟩) ?_
        rotate_left 1
        ·intro w
         (go_simp) <;> (with_reducible rfl)
        refine wpAny_take (i := 10) (v := ?_) rfl (by kernel_rfl) (by kernel_rfl) (by kernel_rfl) (fun _ _ _ h => h) (Or.inl ⟨by rfl, ?_⟩) ?_
        rotate_left 1
        ·intro w
         (go_simp) <;> (with_reducible rfl)
        refine wpAny_take (i := 11) (v := ?_) rfl (by kernel_rfl) (by kernel_rfl) (by kernel_rfl) (fun _ _ _ h => h) (Or.inl ⟨by rfl, ?_⟩) ?_
        rotate_left 1
        ·intro w
         (go_simp) <;> (with_reducible rfl)
        refine wpAny_ready (rs := [12]) (by kernel_rfl) (by simp) ?_
        refine AllReady.cons rfl (fun K hK => ?_) ?_
        ·skip
         go_simp
         refine hK _ _ ?_
         clear hK K
         refine wpAny_done (by kernel_rfl) ?_ _
         go_wp2_with fail
         go_end0
         have had := HR5.out.addPort (pn, rtV (tkS 2 s)) HO.out HG.out (sz_port hRsz.out hpn (rtV_lt _))
         exact body_of (p' := { T.m with ports := T.m.ports ++ [(pn, rtV (tkS 2 s))] }) (s' := fl (rtS (T.hd &&& 49152) (tkS 2 s)) t 206) (by rw [← HT.out, HPn.out, HP.out]) HS.out rfl rfl had.1 (HK5.out.trans had.2)
        exact AllReady.nil
       exact AllReady.nil
      exact AllReady.nil
     exact AllReady.nil
    refine AllReady.cons rfl (fun K hK => ?_) ?_
    ·skip
     go_simp
     refine hK _ _ ?_
     clear hK K
     refine wpAny_ready (rs := [5, 7]) (by kernel_rfl) (by simp) ?_
     refine AllReady.cons rfl (fun K hK => ?_) ?_
     ·skip
      go_simp
      refine hK _ _ ?_
      clear hK K
      refine wpAny_ready (rs := [7]) (by kernel_rfl) (by simp) ?_
      refine AllReady.cons rfl (fun K hK => ?_) ?_
      ·skip
       go_simp
       refine hK _ _ ?_
       clear hK K
       refine wpAny_ready (rs := [8]) (by kernel_rfl) (by simp) ?_
       refine AllReady.cons rfl (fun K hK => ?_) ?_
       ·skip
        rw [if_pos (by rfl)]
        refine op_append (.tmp 39) (.tmp 41) 33 rfl _ _ _ wb rfl rfl HRun.out ?_
        refine hK _ _ ?_
        clear hK K
        refine wpAny_take (i := 9) (v := ?_) rfl (by kernel_rfl) (by kernel_rfl) (by kernel_rfl) (fun _ _ _ h => h) (Or.inl ⟨by rfl, ?_⟩) ?_
        rotate_left 1
        ·intro w
         (go_simp) <;> (with_reducible rfl)
        refine wpAny_take (i := 10) (v := ?_) rfl (by kernel_rfl) (by kernel_rfl) (by kernel_rfl) (fun _ _ _ h => h) (Or.inl ⟨by rfl, ?_⟩) ?_
        rotate_left 1
        ·intro w
         (go_simp) <;> (with_reducible rfl)
        refine wpAny_take (i := 11) (v := ?_) rfl (by kernel_rfl) (by kernel_rfl) (by kernel_rfl) (fun _ _ _ h => h) (Or.inl ⟨by rfl, ?_⟩) ?_
        rotate_left 1
        ·intro w
         (go_simp) <;> (with_reducible rfl)
        refine wpAny_ready (rs := [12]) (by kernel_rfl) (by simp) ?_
        refine AllReady.cons rfl (fun K hK => ?_) ?_
        ·skip
         go_simp
         refine hK _ _ ?_
         clear hK K
         refine wpAny_done (by kernel_rfl) ?_ _
         go_wp2_with fail
         go_end0
         have had := HR5.out.addPort (pn, rtV (tkS 2 s)) HO.out HG.out (sz_port hRsz.out hpn (rtV_lt _))
         exact body_of (p' := { T.m with ports := T.m.ports ++ [(pn, rtV (tkS 2 s))] }) (s' := fl (rtS (T.hd &&& 49152) (tkS 2 s)) t 206) (by rw [← HT.out, HPn.out, HP.out]) HS.out rfl rfl had.1 (HK5.out.trans had.2)
        exact AllReady.nil
       exact AllReady.nil
      exact AllReady.nil
     refine AllReady.cons rfl (fun K hK => ?_) ?_
     ·skip
      go_simp
      refine hK _ _ ?_
      clear hK K
      refine wpAny_ready (rs := [5]) (by kernel_rfl) (by simp) ?_
      refine AllReady.cons rfl (fun K hK => ?_) ?_
      ·skip
       go_simp
       refine hK _ _ ?_
       clear hK K
       refine wpAny_ready (rs := [8]) (by kernel_rfl) (by simp) ?_
       refine AllReady.cons rfl (fun K hK => ?_) ?_
       ·skip
        rw [if_pos (by rfl)]
        refine op_append (.tmp 39) (.tmp 41) 33 rfl _ _ _ wb rfl rfl HRun.out ?_
        refine hK _ _ ?_
        clear hK K
        refine wpAny_take (i := 9) (v := ?_) rfl (by kernel_rfl) (by kernel_rfl) (by kernel_rfl) (fun _ _ _ h => h) (Or.inl ⟨by rfl, ?_⟩) ?_
        rotate_left 1
        ·intro w
         (go_simp) <;> (with_reducible rfl)
        refine wpAny_take (i := 10) (v := ?_) rfl (by kernel_rfl) (by kernel_rfl) (by kernel_rfl) (fun _ _ _ h => h) (Or.inl ⟨by rfl, ?_⟩) ?_
        rotate_left 1
        ·intro w
         (go_simp) <;> (with_reducible rfl)
        refine wpAny_take (i := 11) (v := ?_) rfl (by kernel_rfl) (by kernel_rfl) (by kernel_rfl) (fun _ _ _ h => h) (Or.inl ⟨by rfl, ?_⟩) ?_
        rotate_left 1
        ·intro w
         (go_simp) <;> (with_reducible rfl)
        refine wpAny_ready (rs := [12]) (by kernel_rfl) (by simp) ?_
        refine AllReady.cons rfl (fun K hK => ?_) ?_
        ·skip
         go_simp
         refine hK _ _ ?_
         clear hK K
         refine wpAny_done (by kernel_rfl) ?_ _
         go_wp2_with fail
         go_end0
         have had := HR5.out.addPort (pn, rtV (tkS 2 s)) HO.out HG.out (sz_port hRsz.out hpn (rtV_lt _))
         exact body_of (p' := { T.m with ports := T.m.ports ++ [(pn, rtV (tkS 2 s))] }) (s' := fl (rtS (T.hd &&& 49152) (tkS 2 s)) t 206) (by rw [← HT.out, HPn.out, HP.out]) HS.out rfl rfl had.1 (HK5.out.trans had.2)
        exact AllReady.nil
       exact AllReady.nil
      exact AllReady.nil
     exact AllReady.nil
    exact AllReady.nil
   | false =>
    have HS := Lib.hid (show qtS T.hd T.po s = rtS (T.hd &&& 49152) (tkS 2 s) by unfold qtS; rw [← HT.out, HPn.out, hany, if_neg (by simp), HP.out])
    clear hany
    have hx := HN6.out
    have hR4 := HR6.out
    have hK4 := HK6.out
    have hl4 := hx.lt
    go_upto_region 6 with fail
    have hRsz := Lib.hid hR4.sz
    rw [HN2.out] at hn
    refine wp_region_any (by kernel_rfl) ?_
    change wpAny _ _ _ _ _ _ _ (World.drew _)
    have hxv := hx.drew
    have hRv := hR4.kept (Below.refl w6.heap.size w6).drew
    have hKv := hK4.trans (KT.drew w6)
    have hlv : g < w6.drew.heap.size := hl4
    generalize w6.drew = v0 at hxv hRv hKv hlv  ⊢
    have hb5 := oneb v0 (.cells #[.int .u16 (pn : Nat), .int .u16 (rtV (tkS 2 s) : Nat)] 97)
    have HR5 := Lib.hid (hRv.kept hb5)
    have HK5 := Lib.hid (hKv.trans (KT.below hb5))
    have hB5 := Bk.new v0 97 #[.int .u16 (pn : Nat), .int .u16 (rtV (tkS 2 s) : Nat)] (l := [.int .u16 (pn : Nat), .int .u16 (rtV (tkS 2 s) : Nat)]) rfl
    obtain ⟨v', wb, hrun, ho, hg⟩ := row_run (t := 33) (ty := 33) infoPP rfl (by decide) Tryz.underlying33 (by decide) HR5.out.q hB5 rfl (by intro u hu; simp at hu; rcases hu with rfl | rfl <;> rfl) (by omega) (by have := HR5.out.rb.lt; omega)
    obtain ⟨A7, c7, hv7, _⟩ := own_typed ho
    subst hv7
    have hob := HR5.out.rb.app HR5.out.q hg
    obtain ⟨Al, capl, hbl, _⟩ := hob.blk
    have z4 := hbl.cell 7 rfl
    have zf := hbl.fz 7
    have zl := hbl.lt
    have HO := Lib.hid ho
    have HG := Lib.hid hg
    have HRun := Lib.hid hrun
    have hb4 : v0.cell? ⟨b, 7, none⟩ = some T.qv := by obtain ⟨_, _, hq, _⟩ := hRv.rb.blk; exact hq.cell 7 rfl
    have hbl4 := hRv.rb.lt
    have x0 := hxv.cell 0 rfl
    have x1 := hxv.cell 1 rfl
    have xl := hxv.lt
    clear hxv hRv hKv hb5 hB5 hrun ho hg hob hbl hx hR4 hK4  
    refine wpAny_take (i := 0) (v := ?_) rfl (by kernel_rfl) (by kernel_rfl) (by kernel_rfl) (fun _ _ _ h => h) (Or.inl ⟨by rfl, ?_⟩) ?_
    rotate_left 1
    ·intro w
     (go_simp) <;> (with_reducible rfl)
    refine wpAny_take (i := 1) (v := ?_) rfl (by kernel_rfl) (by kernel_rfl) (by kernel_rfl) (fun _ _ _ h => h) (Or.inl ⟨by rfl, ?_⟩) ?_
    rotate_left 1
    ·intro w
     (go_simp) <;> (with_reducible rfl)
    refine wpAny_take (i := 2) (v := ?_) rfl (by kernel_rfl) (by kernel_rfl) (by kernel_rfl) (fun _ _ _ h => h) (Or.inl ⟨by rfl, ?_⟩) ?_
    rotate_left 1
    ·intro w
     (go_simp) <;> (with_reducible rfl)
    refine wpAny_take (i := 3) (v := ?_) rfl (by kernel_rfl) (by kernel_rfl) (by kernel_rfl) (fun _ _ _ h => h) (Or.inl ⟨by rfl, ?_⟩) ?_
    rotate_left 1
    ·intro w
     (go_simp) <;> (with_reducible rfl)
    refine wpAny_take (i := 4) (v := ?_) rfl (by kernel_rfl) (by kernel_rfl) (by kernel_rfl) (fun _ _ _ h => h) (Or.inl ⟨by rfl, ?_⟩) ?_
    rotate_left 1
    ·intro w
     (go_simp) <;> (with_reducible rfl)
    refine wpAny_ready (rs := [5, 6]) (by kernel_rfl) (by simp) ?_
    refine AllReady.cons rfl (fun K hK => ?_) ?_
    ·skip
     go_simp
     refine hK _ _ ?_
     clear hK K
     refine wpAny_ready (rs := [6]) (by kernel_rfl) (by simp) ?_
     refine AllReady.cons rfl (fun K hK => ?_) ?_
     ·skip
      go_simp
      refine hK _ _ ?_
      clear hK K
      refine wpAny_ready (rs := [7]) (by kernel_rfl) (by simp) ?_
      refine AllReady.cons rfl (fun K hK => ?_) ?_
      ·skip
       go_simp
       refine hK _ _ ?_
       clear hK K
       refine wpAny_ready (rs := [8]) (by kernel_rfl) (by simp) ?_
       refine AllReady.cons rfl (fun K hK => ?_) ?_
       ·skip
        rw [if_pos (by rfl)]
        refine op_append (.tmp 39) (.tmp 41) 33 rfl _ _ _ wb rfl rfl HRun.out ?_
        refine hK _ _ ?_
        clear hK K
        refine wpAny_take (i := 9) (v := ?_) rfl (by kernel_rfl) (by kernel_rfl) (by kernel_rfl) (fun _ _ _ h => h) (Or.inl ⟨by rfl, ?_⟩) ?_
        rotate_left 1
        ·intro w
         (go_simp) <;> (with_reducible rfl)
        refine wpAny_take (i := 10) (v := ?_) rfl (by kernel_rfl) (by kernel_rfl) (by kernel_rfl) (fun _ _ _ h => h) (Or.inl ⟨by rfl, ?_⟩) ?_
        rotate_left 1
        ·intro w
         (go_simp) <;> (with_reducible rfl)
        refine wpAny_take (i := 11) (v := ?_) rfl (by kernel_rfl) (by kernel_rfl) (by kernel_rfl) (fun _ _ _ h => h) (Or.inl ⟨by rfl, ?_⟩) ?_
        rotate_left 1
        ·intro w
         (go_simp) <;> (with_reducible rfl)
        refine wpAny_ready (rs := [12]) (by kernel_rfl) (by simp) ?_
        refine AllReady.cons rfl (fun K hK => ?_) ?_
        ·skip
         go_simp
         refine hK _ _ ?_
         clear hK K
         refine wpAny_done (by kernel_rfl) ?_ _
         go_wp2_with fail
         go_end0
         have had := HR5.out.addPort (pn, rtV (tkS 2 s)) HO.out HG.out (sz_port hRsz.out hpn (rtV_lt _))
         exact body_of (p' := { T.m with ports := T.m.ports ++ [(pn, rtV (tkS 2 s))] }) (s' := rtS (T.hd &&& 49152) (tkS 2 s)) (by rw [← HT.out, HPn.out, HP.out]) HS.out rfl rfl had.1 (HK5.out.trans had.2)
        exact AllReady.nil
       exact AllReady.nil
      exact AllReady.nil
     exact AllReady.nil
    refine AllReady.cons rfl (fun K hK => ?_) ?_
    ·skip
     go_simp
     refine hK _ _ ?_
     clear hK K
     refine wpAny_ready (rs := [5, 7]) (by kernel_rfl) (by simp) ?_
     refine AllReady.cons rfl (fun K hK => ?_) ?_
     ·skip
      go_simp
      refine hK _ _ ?_
      clear hK K
      refine wpAny_ready (rs := [7]) (by kernel_rfl) (by simp) ?_
      refine AllReady.cons rfl (fun K hK => ?_) ?_
      ·skip
       go_simp
       refine hK _ _ ?_
       clear hK K
       refine wpAny_ready (rs := [8]) (by kernel_rfl) (by simp) ?_
       refine AllReady.cons rfl (fun K hK => ?_) ?_
       ·skip
        rw [if_pos (by rfl)]
        refine op_append (.tmp 39) (.tmp 41) 33 rfl _ _ _ wb rfl rfl HRun.out ?_
        refine hK _ _ ?_
        clear hK K
        refine wpAny_take (i := 9) (v := ?_) rfl (by kernel_rfl) (by kernel_rfl) (by kernel_rfl) (fun _ _ _ h => h) (Or.inl ⟨by rfl, ?_⟩) ?_
        rotate_left 1
        ·intro w
         (go_simp) <;> (with_reducible rfl)
        refine wpAny_take (i := 10) (v := ?_) rfl (by kernel_rfl) (by kernel_rfl) (by kernel_rfl) (fun _ _ _ h => h) (Or.inl ⟨by rfl, ?_⟩) ?_
        rotate_left 1
        ·intro w
         (go_simp) <;> (with_reducible rfl)
        refine wpAny_take (i := 11) (v := ?_) rfl (by kernel_rfl) (by kernel_rfl) (by kernel_rfl) (fun _ _ _ h => h) (Or.inl ⟨by rfl, ?_⟩) ?_
        rotate_left 1
        ·intro w
         (go_simp) <;> (with_reducible rfl)
        refine wpAny_ready (rs := [12]) (by kernel_rfl) (by simp) ?_
        refine AllReady.cons rfl (fun K hK => ?_) ?_
        ·skip
         go_simp
         refine hK _ _ ?_
         clear hK K
         refine wpAny_done (by kernel_rfl) ?_ _
         go_wp2_with fail
         go_end0
         have had := HR5.out.addPort (pn, rtV (tkS 2 s)) HO.out HG.out (sz_port hRsz.out hpn (rtV_lt _))
         exact body_of (p' := { T.m with ports := T.m.ports ++ [(pn, rtV (tkS 2 s))] }) (s' := rtS (T.hd &&& 49152) (tkS 2 s)) (by rw [← HT.out, HPn.out, HP.out]) HS.out rfl rfl had.1 (HK5.out.trans had.2)
        exact AllReady.nil
       exact AllReady.nil
      exact AllReady.nil
     refine AllReady.cons rfl (fun K hK => ?_) ?_
     ·skip
      go_simp
      refine hK _ _ ?_
      clear hK K
      refine wpAny_ready (rs := [5]) (by kernel_rfl) (by simp) ?_
      refine AllReady.cons rfl (fun K hK => ?_) ?_
      ·skip
       go_simp
       refine hK _ _ ?_
       clear hK K
       refine wpAny_ready (rs := [8]) (by kernel_rfl) (by simp) ?_
       refine AllReady.cons rfl (fun K hK => ?_) ?_
       ·skip
        rw [if_pos (by rfl)]
        refine op_append (.tmp 39) (.tmp 41) 33 rfl _ _ _ wb rfl rfl HRun.out ?_
        refine hK _ _ ?_
        clear hK K
        refine wpAny_take (i := 9) (v := ?_) rfl (by kernel_rfl) (by kernel_rfl) (by kernel_rfl) (fun _ _ _ h => h) (Or.inl ⟨by rfl, ?_⟩) ?_
        rotate_left 1
        ·intro w
         (go_simp) <;> (with_reducible rfl)
        refine wpAny_take (i := 10) (v := ?_) rfl (by kernel_rfl) (by kernel_rfl) (by kernel_rfl) (fun _ _ _ h => h) (Or.inl ⟨by rfl, ?_⟩) ?_
        rotate_left 1
        ·intro w
         (go_simp) <;> (with_reducible rfl)
        refine wpAny_take (i := 11) (v := ?_) rfl (by kernel_rfl) (by kernel_rfl) (by kernel_rfl) (fun _ _ _ h => h) (Or.inl ⟨by rfl, ?_⟩) ?_
        rotate_left 1
        ·intro w
         (go_simp) <;> (with_reducible rfl)
        refine wpAny_ready (rs := [12]) (by kernel_rfl) (by simp) ?_
        refine AllReady.cons rfl (fun K hK => ?_) ?_
        ·skip
         go_simp
         refine hK _ _ ?_
         clear hK K
         refine wpAny_done (by kernel_rfl) ?_ _
         go_wp2_with fail
         go_end0
         have had := HR5.out.addPort (pn, rtV (tkS 2 s)) HO.out HG.out (sz_port hRsz.out hpn (rtV_lt _))
         exact body_of (p' := { T.m with ports := T.m.ports ++ [(pn, rtV (tkS 2 s))] }) (s' := rtS (T.hd &&& 49152) (tkS 2 s)) (by rw [← HT.out, HPn.out, HP.out]) HS.out rfl rfl had.1 (HK5.out.trans had.2)
        exact AllReady.nil
       exact AllReady.nil
      exact AllReady.nil
     exact AllReady.nil
    exact AllReady.nil
end Go.Proofs.YtinofjbnfmalkaaGreatDoor.Pa
