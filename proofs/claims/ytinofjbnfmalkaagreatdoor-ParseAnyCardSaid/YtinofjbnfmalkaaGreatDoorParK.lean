/- A path's line behind its first word: the walk. -/
import Derived.Test.YtinofjbnfmalkaaGreatDoorParJ
import Derived.Deep.CutRange
import Derived.Deep.RegionHeld3
namespace Go.Proofs.YtinofjbnfmalkaaGreatDoor.Pa
open Go.RowKit Go.WideElems Go.Maps
theorem Rr.otherB {w0 w w' : World} {b tb pb m : Nat} {qa : Addr} {T : TV} {s : RS} {g : Nat} {U : TypeId} (h : Rr w0 b tb pb qa w m T s) (hg : w.grownBy w' (some g)) (ht : TyB w g U) (hb : b < g) (n1 : U ≠ 148) (n2 : U ≠ 70) (n3 : U ≠ 90) (hp : ∀ q, T.bv.ownBlock = some q → q ≠ g) (hq : ∀ q, T.qv.ownBlock = some q → q ≠ g) :
  Rr w0 b tb pb qa w' m T s :=
 ⟨h.rb.grown hg hb, own_keep h.r hg (fun q hq => ((own_tyP h.r) q hq).ne ht (Ne.symm n2)), fun x hx => (h.cc x hx).grown hg ((h.cc x hx).off ht (Ne.symm n3)), own_keep h.p hg hp, own_keep h.q hg hq, h.ev.grown hg (Nat.le_of_lt hb), h.pz.grown hg (Nat.le_of_lt hb), TS.off h.ts hg ht n1, h.tl, grown_trans h.gr hg (fun k hk => by cases hk; exact .inr (by have := h.hb; omega)), h.hb, h.inn, h.sz⟩
theorem sz_path {p : PolM} (h : Sz p) {t : Bs} {r : Nat} (ht : t.length ≤ 65536) (hr : r < 65536) : Sz { p with paths := p.paths ++ [(t, r)] } :=
 ⟨h.name, h.dflt, h.each, h.hd, fun x hx => by
  rcases List.mem_append.1 hx with hx | hx
  ·exact h.path x hx
  ·simp at hx; subst hx; exact ⟨ht, hr⟩, h.port⟩
theorem sz_port {p : PolM} (h : Sz p) {n r : Nat} (hn : n < 65536) (hr : r < 65536) : Sz { p with ports := p.ports ++ [(n, r)] } :=
 ⟨h.name, h.dflt, h.each, h.hd, h.path, fun x hx => by
  rcases List.mem_append.1 hx with hx | hx
  ·exact h.port x hx
  ·simp at hx; subst hx; exact ⟨hn, hr⟩⟩
theorem newBk {w0 W : World} {b tb pb m : Nat} {qa : Addr} {T : TV} {s : RS} (_ : Rr w0 b tb pb qa W m T s) (U : TypeId) {l : List Value} {a : Array Value} (h : a = l.toArray) : Bk (W.alloc (.cells a U)) W.heap.size U l := Bk.new W U a h
theorem set2_grown (w : World) (g : Nat) (v0 v1 : Value) : w.grownBy ((w.setCell ⟨g, 0, none⟩ v0).setCell ⟨g, 1, none⟩ v1) (some g) := only_trans (only_set _ g 0 v0) (only_set _ g 1 v1)
set_option maxRecDepth 100000 in
theorem closPath (y c : Bs) (r bb : Nat) (w : World) (hc : w.cell? ⟨bb, 0, none⟩ = some (.string ⟨c.toArray⟩)) (hb : bb < w.heap.size) : Calls Tryz.prog 135 #[.agg #[.string ⟨y.toArray⟩, .int .u16 r], .pointer (some ⟨bb, 0, none⟩)] w (BoolPost (decide (y = c)) w) := by
 have HB := Lib.hid (show Below w.heap.size w (w.alloc (.cells #[.string ⟨y.toArray⟩, .int .u16 r] 72)) from (Below.refl _ _).alloc (Nat.le_refl _) _)
 by_cases he : y = c
 ·rw [decide_eq_true he]
  subst he
  go_enter Tryz.func135, Tryz.ntmps135
  go_wp2_with fail
  go_ret
  exact ⟨rfl, HB.out⟩
 ·rw [decide_eq_false he]
  have g : (y == c) = false := by simpa using he
  clear he
  go_enter Tryz.func135, Tryz.ntmps135
  go_wp2_with fail
  go_ret
  exact ⟨rfl, HB.out⟩
def IxPath (l : List (Bs × Nat)) (c : Bs) (w : World) (e : Ending) (w' : World) : Prop := (∃ v : Int, e = .returned (.int .i64 v) ∧ decide (0 ≤ v) = l.any fun y => decide (y.1 = c)) ∧ Below w.heap.size w w'
set_option maxHeartbeats 1000000 in
set_option maxRecDepth 100000 in
theorem indexPath (l : List (Bs × Nat)) (A : Option Addr) (n cap bb : Nat) (c : Bs) (w : World) (hn : l.length = n) (hr : Rd w 2 n A (l.flatMap pathC)) (hc : w.cell? ⟨bb, 0, none⟩ = some (.string ⟨c.toArray⟩)) (hb : bb < w.heap.size) (hm : n ≤ 70000) :
  Calls Tryz.prog 87 #[.slice A n cap, .func (.func 135) #[] #[.pointer (some ⟨bb, 0, none⟩)]] w (IxPath l c w) := by
 have HR := Lib.hid hr
 have HN := Lib.hid hn
 have HC := Lib.hid hc
 clear hr hc
 go_enter Tryz.func87, Tryz.ntmps87
 go_wp2_with fail
 go_loopw [8] (fun iv wr => ∃ k : Nat, iv = .int .i64 k ∧ k ≤ n ∧ Hid (((l.take k).any fun y => decide (y.1 = c)) = false) ∧ Hid (Below w.heap.size w wr)) (fun iv _ => n - (intOf iv).toNat)
 case atStart => exact ⟨0, rfl, Nat.zero_le _, rfl, Below.refl _ _⟩
 case round =>
  obtain ⟨k, rfl, hk, HT, HB⟩ := hrel
  have hbr : bb < wr.heap.size := Nat.lt_of_lt_of_le hb HB.out.size
  by_cases hlt : k < n
  ·obtain ⟨x, hx⟩ : ∃ x, l[k]? = some x := ⟨_, List.getElem?_eq_getElem (by omega)⟩
   obtain ⟨b, o, rfl, hbl, hcell⟩ := (HR.out.below HB.out).one (fun _ => rfl) (by omega) (by omega)
   obtain ⟨c0, c1⟩ := two_cells (f := pathC) hcell hx rfl
   have HX := Lib.hid hx
   have hp := closPath x.1 c x.2 bb wr (cell_below HC.out HB.out) hbr
   clear hcell hx
   go_wp2_with fail
   refine hp.mono ?_
   clear hp c0 c1
   rintro e w2 ⟨rfl, hb2⟩
   have HB2 := Lib.hid (HB.out.trans (hb2.mono HB.out.size))
   clear hb2
   cases hq : decide (x.1 = c) with
   | true =>
    have HV := Lib.hid (show decide ((0 : Int) ≤ (k : Int)) = l.any fun y => decide (y.1 = c) by
     rw [decide_eq_true (by omega : (0 : Int) ≤ (k : Int))]
     exact (List.any_eq_true.2 ⟨x, List.mem_of_getElem? HX.out, hq⟩).symm)
    clear hq
    go_wp2_with fail
    go_ret
    exact ⟨⟨_, rfl, HV.out⟩, HB2.out⟩
   | false =>
    have HK := Lib.hid (show ((l.take (k + 1)).any fun y => decide (y.1 = c)) = false by
     rw [List.take_add_one, HX.out, List.any_append, HT.out]; simpa using hq)
    clear hq
    go_wp2_with fail
    go_roundw
    case rel => exact ⟨k + 1, by go_num, by omega, HK, HB2⟩
    case measure => simp [intOf]; omega
  ·have HV := Lib.hid (show decide ((0 : Int) ≤ -1) = l.any fun y => decide (y.1 = c) by
    have := HT.out
    rw [List.take_of_length_le (by have := HN.out; omega)] at this
    rw [this]; rfl)
   go_wp2_with fail
   go_ret
   exact ⟨⟨_, rfl, HV.out⟩, HB.out⟩
theorem containsPath (l : List (Bs × Nat)) (A : Option Addr) (n cap bb : Nat) (c : Bs) (w : World) (hn : l.length = n) (hr : Rd w 2 n A (l.flatMap pathC)) (hc : w.cell? ⟨bb, 0, none⟩ = some (.string ⟨c.toArray⟩)) (hb : bb < w.heap.size) (hm : n ≤ 70000) :
  Calls Tryz.prog 60 #[.slice A n cap, .func (.func 135) #[] #[.pointer (some ⟨bb, 0, none⟩)]] w (BoolPost (l.any fun y => decide (y.1 = c)) w) := by
 have hp := indexPath l A n cap bb c w hn hr hc hb hm
 go_enter Tryz.func60, Tryz.ntmps60
 go_wp2_with fail
 refine hp.mono ?_
 clear hp
 rintro e w2 ⟨⟨v, rfl, hv⟩, hb2⟩
 go_wp2_with fail
 go_ret
 refine ⟨?_, hb2⟩
 rw [← hv]
 rfl
set_option maxHeartbeats 16000000 in
set_option maxRecDepth 100000 in
theorem beneath_any (w0 : World) (b tb pb m : Nat) (qa : Addr) (w : World) (T : TV) (s : RS) (h : Rr w0 b tb pb qa w m T s) (hn : T.pt.length ≤ 1000) :
  Calls Tryz.prog 104 #[.pointer (some ⟨b, 0, none⟩)] w (BodyR { T.m with paths := T.m.paths ++ [((nx s).t, rtV (pt1 s))] } w0 b tb pb qa m (ptS T.hd T.pt s) w) := by
 have hlt := h.rb.lt
 have Hn := Lib.hid (take_any 3 b (T.c pb) s _ h.rb h.inn.len)
 have hti := h.inn.nx
 have HRr := Lib.hid h
 have hh16 : T.hd < 65536 := h.sz.hd
 clear h
 obtain ⟨t, ht⟩ : ∃ t, t = nx s := ⟨_, rfl⟩
 have HT : Hid (t = nx s) := Lib.hid ht
 rw [← ht] at Hn hti
 have htl := hti.2.2
 have hn64 := hti.2.1
 clear hti ht
 go_enter Tryz.func104, Tryz.ntmps104
 go_wp2_with fail
 refine Hn.out.mono ?_
 clear Hn
 rintro e w1 ⟨rfl, hr1, hg1⟩
 unfold tkV
 have hsm := HRr.out.small hr1 hg1 (tk_sub 3 s)
 have hbk := (Bk.new w1 182 #[.int .u8 t.k, .string ⟨t.t.toArray⟩, .int .u64 t.n, .int .i64 t.line, .int .i64 t.col] (l := [.int .u8 t.k, .string ⟨t.t.toArray⟩, .int .u64 t.n, .int .i64 t.line, .int .i64 t.col]) rfl)
 have HR2 := Lib.hid (hsm.1.alloc (.cells #[.int .u8 t.k, .string ⟨t.t.toArray⟩, .int .u64 t.n, .int .i64 t.line, .int .i64 t.col] 182))
 have HK2 := Lib.hid (hsm.2.trans (KT.below (oneb w1 (.cells #[.int .u8 t.k, .string ⟨t.t.toArray⟩, .int .u64 t.n, .int .i64 t.line, .int .i64 t.col] 182))))
 have hl1 := hr1.lt
 clear hsm hr1 hg1
 go_upto_region 1 with fail
 generalize w1.alloc _ = w2 at hbk HR2 HK2 ⊢
 have HBK := Lib.hid hbk
 clear hbk
 obtain ⟨tk, htk⟩ : ∃ tk, tk = w1.heap.size := ⟨_, rfl⟩
 rw [← htk] at HBK hl1 ⊢
 clear htk
 have r1 := HBK.out.cell 1 rfl
 have rl := HBK.out.lt
 go_wp2_with fail
 refine (path_any t.t w2 (by unfold maxLen; omega) HR2.out.ev.env).mono ?_
 rintro e w3 ⟨rfl, hb3⟩
 have HR3 := Lib.hid (HR2.out.kept hb3)
 have HK3 := Lib.hid (HK2.out.trans (KT.below hb3))
 have HBK3 := Lib.hid (HBK.out.kept hb3)
 clear hb3 r1 rl
 cases hp : pathB t.t with
 | true =>
  have HP := Lib.hid (show pt1 s = tkS 3 s by unfold pt1; rw [← HT.out, hp, if_pos rfl])
  clear hp
  go_upto_region 3 with fail
  go_cut [3] from 13 to 24 (fun sl wx => ∃ g : Nat, sl = .pointer (some ⟨g, 0, none⟩) ∧ b < g ∧ Hid (Bk wx g 72 [.string ⟨t.t.toArray⟩, .int .u16 (rtV (tkS 3 s) : Nat)]) ∧ Hid (Rr w0 b tb pb qa wx m T (rtS (T.hd &&& 2047) (tkS 3 s))) ∧ Hid (KT w wx) ∧ Hid (Bk wx tk 182 [.int .u8 t.k, .string ⟨t.t.toArray⟩, .int .u64 t.n, .int .i64 t.line, .int .i64 t.col]))
  case first =>
   have hc0 := HBK3.out.cell 1 rfl
   have hc5 : w3.cell? ⟨b, 5, none⟩ = some (.int .u16 T.hd) := by obtain ⟨_, _, hq, _⟩ := HR3.out.rb.blk; exact hq.cell 5 rfl
   have hand : bits .and .u16 (T.hd : Int) 2047 = ((T.hd &&& 2047 : Nat) : Int) := u16_and_nat T.hd 2047 hh16 (by omega)
   have hbd := (Below.refl w3.heap.size w3).drew
   have HRc := Lib.hid (HR3.out.kept hbd)
   have HKc := Lib.hid (HK3.out.trans (KT.drew w3))
   have HBc := Lib.hid (HBK3.out.drew)
   have hc0v : w3.drew.cell? ⟨tk, 1, none⟩ = _ := hc0
   have hc5v : w3.drew.cell? ⟨b, 5, none⟩ = _ := hc5
   refine wp_region_held_drew (S := fun W : World => W.cell? ⟨tk, 1, none⟩ = some (.string ⟨t.t.toArray⟩) ∧ W.cell? ⟨b, 5, none⟩ = some (.int .u16 T.hd)) (by kernel_rfl) ?_ (fun hHeld0 => ?_)
   ·exact ⟨hc0v, hc5v⟩
   generalize w3.drew = v0 at hHeld0 HRc HKc HBc hbd ⊢
   clear hbd hc0 hc5 hc0v hc5v
   refine wpAnyH_take (i := 0) (v := ?_) (by first | (simp only [List.getElem?_toArray, List.getElem?_cons_zero] <;> rfl) | rfl) (by kernel_rfl) (by kernel_rfl) (by kernel_rfl) (by exact fun _ _ _ h => h) (Or.inl ⟨by rfl, ?_⟩) hHeld0 ?_
   rotate_left 1
   ·intro w hSw
    try dsimp only at hSw
    (go_simp) <;> (with_reducible rfl)
   try simp only [Act.put, List.setIfInBounds_toArray, List.set_cons_zero, List.set_cons_succ]
   refine wpAnyH_take (i := 1) (v := ?_) (by first | (simp only [List.getElem?_toArray, List.getElem?_cons_succ, List.getElem?_cons_zero] <;> rfl) | rfl) (by kernel_rfl) (by kernel_rfl) (by kernel_rfl) (by exact fun _ _ _ h => h) (Or.inl ⟨by rfl, ?_⟩) hHeld0 ?_
   rotate_left 1
   ·intro w hSw
    try dsimp only at hSw
    (go_simp) <;> (with_reducible rfl)
   try simp only [Act.put, List.setIfInBounds_toArray, List.set_cons_zero, List.set_cons_succ]
   refine wpAnyH_take (i := 3) (v := ?_) (by first | (simp only [List.getElem?_toArray, List.getElem?_cons_succ, List.getElem?_cons_zero] <;> rfl) | rfl) (by kernel_rfl) (by kernel_rfl) (by kernel_rfl) (by exact fun _ _ _ h => h) (Or.inl ⟨by rfl, ?_⟩) hHeld0 ?_
   rotate_left 1
   ·intro w hSw
    try dsimp only at hSw
    (go_simp) <;> (with_reducible rfl)
   try simp only [Act.put, List.setIfInBounds_toArray, List.set_cons_zero, List.set_cons_succ]
   refine wpAnyH_take (i := 4) (v := ?_) (by first | (simp only [List.getElem?_toArray, List.getElem?_cons_succ, List.getElem?_cons_zero] <;> rfl) | rfl) (by kernel_rfl) (by kernel_rfl) (by kernel_rfl) (by exact fun _ _ _ h => h) (Or.inl ⟨by rfl, ?_⟩) hHeld0 ?_
   rotate_left 1
   ·intro w hSw
    try dsimp only at hSw
    (go_simp) <;> (with_reducible rfl)
   try simp only [Act.put, List.setIfInBounds_toArray, List.set_cons_zero, List.set_cons_succ]
   refine wpAnyH_take (i := 5) (v := ?_) (by first | (simp only [List.getElem?_toArray, List.getElem?_cons_succ, List.getElem?_cons_zero] <;> rfl) | rfl) (by kernel_rfl) (by kernel_rfl) (by kernel_rfl) (by exact fun _ _ _ h => h) (Or.inl ⟨by rfl, ?_⟩) hHeld0 ?_
   rotate_left 1
   ·intro w hSw
    try dsimp only at hSw
    (go_simp) <;> (with_reducible rfl)
   try simp only [Act.put, List.setIfInBounds_toArray, List.set_cons_zero, List.set_cons_succ]
   refine wpAnyH_take (i := 6) (v := ?_) (by first | (simp only [List.getElem?_toArray, List.getElem?_cons_succ, List.getElem?_cons_zero] <;> rfl) | rfl) (by kernel_rfl) (by kernel_rfl) (by kernel_rfl) (by exact fun _ _ _ h => h) (Or.inl ⟨by rfl, ?_⟩) hHeld0 ?_
   rotate_left 1
   ·intro w hSw
    try dsimp only at hSw
    (go_simp) <;> (with_reducible rfl)
   try simp only [Act.put, List.setIfInBounds_toArray, List.set_cons_zero, List.set_cons_succ]
   refine wpAnyH_take (i := 7) (v := ?_) (by first | (simp only [List.getElem?_toArray, List.getElem?_cons_succ, List.getElem?_cons_zero] <;> rfl) | rfl) (by kernel_rfl) (by kernel_rfl) (by kernel_rfl) (by exact fun _ _ _ h => h) (Or.inl ⟨by rfl, ?_⟩) hHeld0 ?_
   rotate_left 1
   ·intro w hSw
    try dsimp only at hSw
    (go_simp) <;> (with_reducible rfl)
   try simp only [Act.put, List.setIfInBounds_toArray, List.set_cons_zero, List.set_cons_succ]
   refine wpAnyH_take (i := 8) (v := ?_) (by first | (simp only [List.getElem?_toArray, List.getElem?_cons_succ, List.getElem?_cons_zero] <;> rfl) | rfl) (by kernel_rfl) (by kernel_rfl) (by kernel_rfl) (by exact fun _ _ _ h => h) (Or.inl ⟨by rfl, ?_⟩) hHeld0 ?_
   rotate_left 1
   ·intro w hSw
    try dsimp only at hSw
    (go_simp) <;> (with_reducible rfl)
   try simp only [Act.put, List.setIfInBounds_toArray, List.set_cons_zero, List.set_cons_succ]
   refine wpAnyH_take (i := 9) (v := ?_) (by first | (simp only [List.getElem?_toArray, List.getElem?_cons_succ, List.getElem?_cons_zero] <;> rfl) | rfl) (by kernel_rfl) (by kernel_rfl) (by kernel_rfl) (by exact fun _ _ _ h => h) (Or.inl ⟨by rfl, ?_⟩) hHeld0 ?_
   rotate_left 1
   ·intro w hSw
    try dsimp only at hSw
    (go_simp) <;> (with_reducible rfl)
   try simp only [Act.put, List.setIfInBounds_toArray, List.set_cons_zero, List.set_cons_succ]
   refine wpAnyH_ready (rs := [2, 12]) (by kernel_rfl) (by simp) ?_
   refine AllReadyH.cons (by first | (simp only [List.getElem?_toArray, List.getElem?_cons_succ, List.getElem?_cons_zero] <;> rfl) | rfl) (fun K hK => ?_) ?_
   ·go_simp
    refine (clone_any _ _ (by rw [Lib.size_eq]; show t.t.length ≤ _; omega)).mono ?_
    rintro e v ⟨rfl, hbb⟩
    refine hK.out _ _ ?_ (fun hHeld1 => ?_)
    ·exact ⟨cell_below hHeld0.1 hbb, cell_below hHeld0.2 hbb⟩
    clear hK K
    have HRc := Lib.hid (HRc.out.kept hbb)
    have HKc := Lib.hid (HKc.out.trans (KT.below hbb))
    have HBc := Lib.hid (HBc.out.kept hbb)
    first | (have HNb := Lib.hid (HNb.out.kept hbb)) | skip
    first | (have n0 := HNb.out.cell 0 rfl; have n1 := HNb.out.cell 1 rfl; have nz0 := HNb.out.fz 0; have nz1 := HNb.out.fz 1; have nl := HNb.out.lt) | skip
    clear hbb hHeld0
    try simp only [Act.put, List.setIfInBounds_toArray, List.set_cons_zero, List.set_cons_succ]
    refine wpAnyH_ready (rs := [10, 12]) (by kernel_rfl) (by simp) ?_
    refine AllReadyH.cons (by first | (simp only [List.getElem?_toArray, List.getElem?_cons_succ, List.getElem?_cons_zero] <;> rfl) | rfl) (fun K hK => ?_) ?_
    ·go_simp
     refine (rights_any (T.hd &&& 2047) pb tb qa b (T.c pb) (tkS 3 s) _ HRc.out.rb HRc.out.inn HRc.out.ev HRc.out.pz rfl (Nat.lt_of_le_of_lt Nat.and_le_left hh16)).mono ?_
     rintro e v ⟨rfl, hrr, hgg⟩
     have hss := HRc.out.small hrr hgg (rt_sub _ _)
     refine hK.out _ _ ?_ (fun hHeld2 => ?_)
     ·exact ⟨cell_grow hHeld1.1 hgg (by have := hl1; omega), by obtain ⟨_, _, hq, _⟩ := hss.1.rb.blk; exact hq.cell 5 rfl⟩
     clear hK K
     have HBc := Lib.hid (HBc.out.grown hgg (by intro e; have := Option.some.inj e; omega))
     first | (have HNb := Lib.hid (HNb.out.grown hgg (by intro e; have := Option.some.inj e; omega))) | skip
     have HRc := Lib.hid hss.1
     have HKc := Lib.hid (HKc.out.trans hss.2)
     clear hrr hgg hss hHeld1
     first | (have n0 := HNb.out.cell 0 rfl; have n1 := HNb.out.cell 1 rfl; have nz0 := HNb.out.fz 0; have nz1 := HNb.out.fz 1; have nl := HNb.out.lt) | skip
     try simp only [Act.put, List.setIfInBounds_toArray, List.set_cons_zero, List.set_cons_succ]
     refine wpAnyH_take (i := 11) (v := ?_) (by first | (simp only [List.getElem?_toArray, List.getElem?_cons_succ, List.getElem?_cons_zero] <;> rfl) | rfl) (by kernel_rfl) (by kernel_rfl) (by kernel_rfl) (by exact fun _ _ _ h => h) (Or.inl ⟨by rfl, ?_⟩) hHeld2 ?_
     rotate_left 1
     ·intro w hSw
      try dsimp only at hSw
      (go_simp) <;> (with_reducible rfl)
     try simp only [Act.put, List.setIfInBounds_toArray, List.set_cons_zero, List.set_cons_succ]
     refine wpAnyH_ready (rs := [12]) (by kernel_rfl) (by simp) ?_
     refine AllReadyH.cons (by first | (simp only [List.getElem?_toArray, List.getElem?_cons_succ, List.getElem?_cons_zero] <;> rfl) | rfl) (fun K hK => ?_) ?_
     ·go_simp
      refine hK.out _ _ ?_ (fun hHeld3 => ?_)
      ·exact ⟨cell_below hHeld2.1 (oneb _ _), cell_below hHeld2.2 (oneb _ _)⟩
      clear hK K
      have hgl := HRc.out.rb.lt
      have HNr := Lib.hid (fun q hq => Nat.ne_of_lt (HRc.out.p.lt q hq).2)
      have HNq := Lib.hid (fun q hq => Nat.ne_of_lt (HRc.out.q.lt q hq).2)
      have HRp := HRc
      have HKp := HKc
      have HBp := HBc
      have HNb := Lib.hid (newBk HRc.out 72 (l := [.string ByteArray.empty, .int .u16 0]) (a := #[.string ByteArray.empty, .int .u16 0]) rfl)
      have HRc := Lib.hid (HRc.out.alloc (.cells #[.string ByteArray.empty, .int .u16 0] 72))
      have HKc := Lib.hid (HKc.out.trans (KT.below (oneb _ (.cells #[.string ByteArray.empty, .int .u16 0] 72))))
      have HBc := Lib.hid (HBc.out.alloc (.cells #[.string ByteArray.empty, .int .u16 0] 72))
      first | (have n0 := HNb.out.cell 0 rfl; have n1 := HNb.out.cell 1 rfl; have nz0 := HNb.out.fz 0; have nz1 := HNb.out.fz 1; have nl := HNb.out.lt) | skip
      try simp only [Act.put, List.setIfInBounds_toArray, List.set_cons_zero, List.set_cons_succ]
      refine wpAnyH_ready (rs := [13]) (by kernel_rfl) (by simp) ?_
      refine AllReadyH.cons (by first | (simp only [List.getElem?_toArray, List.getElem?_cons_succ, List.getElem?_cons_zero] <;> rfl) | rfl) (fun K hK => ?_) ?_
      ·go_simp
       refine hK.out _ _ ?_ (fun hHeld4 => ?_)
       ·first | exact ⟨cell_below hHeld2.1 (oneb _ _), cell_below hHeld2.2 (oneb _ _)⟩ | exact ⟨cell_grow hHeld3.1 (set2_grown _ _ _ _) (HBc.out.tyb.ne HNb.out.tyb (by decide)), cell_grow hHeld3.2 (set2_grown _ _ _ _) (by omega)⟩
       clear hK K
       try simp only [Act.put, List.setIfInBounds_toArray, List.set_cons_zero, List.set_cons_succ]
       refine wpAnyH_done (by kernel_rfl) ?_ _
       go_wp2_with fail
       go_meet
       case rel =>
        first | exact ⟨_, rfl, hgl, Bk.new _ _ _ rfl, HRp.out.alloc _, HKp.out.trans (KT.below (oneb _ _)), HBp.out.alloc _⟩ | exact ⟨_, rfl, hgl, (HNb.out.set 0 (.string ⟨t.t.toArray⟩)).set 1 (.int .u16 (rtV (tkS 3 s) : Nat)), HRc.out.otherB (set2_grown _ _ _ _) HNb.out.tyb hgl (by decide) (by decide) (by decide) HNr.out HNq.out, HKc.out.trans (KT.grown (set2_grown _ _ _ _) HNb.out.tyb (by decide)), HBc.out.grown (set2_grown _ _ _ _) (by intro e; exact HBc.out.tyb.ne HNb.out.tyb (by decide) (Option.some.inj e))⟩
      exact AllReadyH.nil
     exact AllReadyH.nil
    refine AllReadyH.cons (by first | (simp only [List.getElem?_toArray, List.getElem?_cons_succ, List.getElem?_cons_zero] <;> rfl) | rfl) (fun K hK => ?_) ?_
    ·go_simp
     refine hK.out _ _ ?_ (fun hHeld2 => ?_)
     ·exact ⟨cell_below hHeld1.1 (oneb _ _), cell_below hHeld1.2 (oneb _ _)⟩
     clear hK K
     have hgl := HRc.out.rb.lt
     have HNr := Lib.hid (fun q hq => Nat.ne_of_lt (HRc.out.p.lt q hq).2)
     have HNq := Lib.hid (fun q hq => Nat.ne_of_lt (HRc.out.q.lt q hq).2)
     have HRp := HRc
     have HKp := HKc
     have HBp := HBc
     have HNb := Lib.hid (newBk HRc.out 72 (l := [.string ByteArray.empty, .int .u16 0]) (a := #[.string ByteArray.empty, .int .u16 0]) rfl)
     have HRc := Lib.hid (HRc.out.alloc (.cells #[.string ByteArray.empty, .int .u16 0] 72))
     have HKc := Lib.hid (HKc.out.trans (KT.below (oneb _ (.cells #[.string ByteArray.empty, .int .u16 0] 72))))
     have HBc := Lib.hid (HBc.out.alloc (.cells #[.string ByteArray.empty, .int .u16 0] 72))
     first | (have n0 := HNb.out.cell 0 rfl; have n1 := HNb.out.cell 1 rfl; have nz0 := HNb.out.fz 0; have nz1 := HNb.out.fz 1; have nl := HNb.out.lt) | skip
     try simp only [Act.put, List.setIfInBounds_toArray, List.set_cons_zero, List.set_cons_succ]
     refine wpAnyH_ready (rs := [10]) (by kernel_rfl) (by simp) ?_
     refine AllReadyH.cons (by first | (simp only [List.getElem?_toArray, List.getElem?_cons_succ, List.getElem?_cons_zero] <;> rfl) | rfl) (fun K hK => ?_) ?_
     ·go_simp
      refine (rights_any (T.hd &&& 2047) pb tb qa b (T.c pb) (tkS 3 s) _ HRc.out.rb HRc.out.inn HRc.out.ev HRc.out.pz rfl (Nat.lt_of_le_of_lt Nat.and_le_left hh16)).mono ?_
      rintro e v ⟨rfl, hrr, hgg⟩
      have hss := HRc.out.small hrr hgg (rt_sub _ _)
      refine hK.out _ _ ?_ (fun hHeld3 => ?_)
      ·exact ⟨cell_grow hHeld2.1 hgg (by have := hl1; omega), by obtain ⟨_, _, hq, _⟩ := hss.1.rb.blk; exact hq.cell 5 rfl⟩
      clear hK K
      have HBc := Lib.hid (HBc.out.grown hgg (by intro e; have := Option.some.inj e; omega))
      first | (have HNb := Lib.hid (HNb.out.grown hgg (by intro e; have := Option.some.inj e; omega))) | skip
      have HRc := Lib.hid hss.1
      have HKc := Lib.hid (HKc.out.trans hss.2)
      clear hrr hgg hss hHeld2
      first | (have n0 := HNb.out.cell 0 rfl; have n1 := HNb.out.cell 1 rfl; have nz0 := HNb.out.fz 0; have nz1 := HNb.out.fz 1; have nl := HNb.out.lt) | skip
      try simp only [Act.put, List.setIfInBounds_toArray, List.set_cons_zero, List.set_cons_succ]
      refine wpAnyH_take (i := 11) (v := ?_) (by first | (simp only [List.getElem?_toArray, List.getElem?_cons_succ, List.getElem?_cons_zero] <;> rfl) | rfl) (by kernel_rfl) (by kernel_rfl) (by kernel_rfl) (by exact fun _ _ _ h => h) (Or.inl ⟨by rfl, ?_⟩) hHeld3 ?_
      rotate_left 1
      ·intro w hSw
       try dsimp only at hSw
       (go_simp) <;> (with_reducible rfl)
      try simp only [Act.put, List.setIfInBounds_toArray, List.set_cons_zero, List.set_cons_succ]
      refine wpAnyH_ready (rs := [13]) (by kernel_rfl) (by simp) ?_
      refine AllReadyH.cons (by first | (simp only [List.getElem?_toArray, List.getElem?_cons_succ, List.getElem?_cons_zero] <;> rfl) | rfl) (fun K hK => ?_) ?_
      ·go_simp
       refine hK.out _ _ ?_ (fun hHeld4 => ?_)
       ·first | exact ⟨cell_below hHeld2.1 (oneb _ _), cell_below hHeld2.2 (oneb _ _)⟩ | exact ⟨cell_grow hHeld3.1 (set2_grown _ _ _ _) (HBc.out.tyb.ne HNb.out.tyb (by decide)), cell_grow hHeld3.2 (set2_grown _ _ _ _) (by omega)⟩
       clear hK K
       try simp only [Act.put, List.setIfInBounds_toArray, List.set_cons_zero, List.set_cons_succ]
       refine wpAnyH_done (by kernel_rfl) ?_ _
       go_wp2_with fail
       go_meet
       case rel =>
        first | exact ⟨_, rfl, hgl, Bk.new _ _ _ rfl, HRp.out.alloc _, HKp.out.trans (KT.below (oneb _ _)), HBp.out.alloc _⟩ | exact ⟨_, rfl, hgl, (HNb.out.set 0 (.string ⟨t.t.toArray⟩)).set 1 (.int .u16 (rtV (tkS 3 s) : Nat)), HRc.out.otherB (set2_grown _ _ _ _) HNb.out.tyb hgl (by decide) (by decide) (by decide) HNr.out HNq.out, HKc.out.trans (KT.grown (set2_grown _ _ _ _) HNb.out.tyb (by decide)), HBc.out.grown (set2_grown _ _ _ _) (by intro e; exact HBc.out.tyb.ne HNb.out.tyb (by decide) (Option.some.inj e))⟩
      exact AllReadyH.nil
     exact AllReadyH.nil
    exact AllReadyH.nil
   refine AllReadyH.cons (by first | (simp only [List.getElem?_toArray, List.getElem?_cons_succ, List.getElem?_cons_zero] <;> rfl) | rfl) (fun K hK => ?_) ?_
   ·go_simp
    refine hK.out _ _ ?_ (fun hHeld1 => ?_)
    ·exact ⟨cell_below hHeld0.1 (oneb _ _), cell_below hHeld0.2 (oneb _ _)⟩
    clear hK K
    have hgl := HRc.out.rb.lt
    have HNr := Lib.hid (fun q hq => Nat.ne_of_lt (HRc.out.p.lt q hq).2)
    have HNq := Lib.hid (fun q hq => Nat.ne_of_lt (HRc.out.q.lt q hq).2)
    have HRp := HRc
    have HKp := HKc
    have HBp := HBc
    have HNb := Lib.hid (newBk HRc.out 72 (l := [.string ByteArray.empty, .int .u16 0]) (a := #[.string ByteArray.empty, .int .u16 0]) rfl)
    have HRc := Lib.hid (HRc.out.alloc (.cells #[.string ByteArray.empty, .int .u16 0] 72))
    have HKc := Lib.hid (HKc.out.trans (KT.below (oneb _ (.cells #[.string ByteArray.empty, .int .u16 0] 72))))
    have HBc := Lib.hid (HBc.out.alloc (.cells #[.string ByteArray.empty, .int .u16 0] 72))
    first | (have n0 := HNb.out.cell 0 rfl; have n1 := HNb.out.cell 1 rfl; have nz0 := HNb.out.fz 0; have nz1 := HNb.out.fz 1; have nl := HNb.out.lt) | skip
    try simp only [Act.put, List.setIfInBounds_toArray, List.set_cons_zero, List.set_cons_succ]
    refine wpAnyH_ready (rs := [2]) (by kernel_rfl) (by simp) ?_
    refine AllReadyH.cons (by first | (simp only [List.getElem?_toArray, List.getElem?_cons_succ, List.getElem?_cons_zero] <;> rfl) | rfl) (fun K hK => ?_) ?_
    ·go_simp
     refine (clone_any _ _ (by rw [Lib.size_eq]; show t.t.length ≤ _; omega)).mono ?_
     rintro e v ⟨rfl, hbb⟩
     refine hK.out _ _ ?_ (fun hHeld2 => ?_)
     ·exact ⟨cell_below hHeld1.1 hbb, cell_below hHeld1.2 hbb⟩
     clear hK K
     have HRc := Lib.hid (HRc.out.kept hbb)
     have HKc := Lib.hid (HKc.out.trans (KT.below hbb))
     have HBc := Lib.hid (HBc.out.kept hbb)
     first | (have HNb := Lib.hid (HNb.out.kept hbb)) | skip
     first | (have n0 := HNb.out.cell 0 rfl; have n1 := HNb.out.cell 1 rfl; have nz0 := HNb.out.fz 0; have nz1 := HNb.out.fz 1; have nl := HNb.out.lt) | skip
     clear hbb hHeld1
     try simp only [Act.put, List.setIfInBounds_toArray, List.set_cons_zero, List.set_cons_succ]
     refine wpAnyH_ready (rs := [10]) (by kernel_rfl) (by simp) ?_
     refine AllReadyH.cons (by first | (simp only [List.getElem?_toArray, List.getElem?_cons_succ, List.getElem?_cons_zero] <;> rfl) | rfl) (fun K hK => ?_) ?_
     ·go_simp
      refine (rights_any (T.hd &&& 2047) pb tb qa b (T.c pb) (tkS 3 s) _ HRc.out.rb HRc.out.inn HRc.out.ev HRc.out.pz rfl (Nat.lt_of_le_of_lt Nat.and_le_left hh16)).mono ?_
      rintro e v ⟨rfl, hrr, hgg⟩
      have hss := HRc.out.small hrr hgg (rt_sub _ _)
      refine hK.out _ _ ?_ (fun hHeld3 => ?_)
      ·exact ⟨cell_grow hHeld2.1 hgg (by have := hl1; omega), by obtain ⟨_, _, hq, _⟩ := hss.1.rb.blk; exact hq.cell 5 rfl⟩
      clear hK K
      have HBc := Lib.hid (HBc.out.grown hgg (by intro e; have := Option.some.inj e; omega))
      first | (have HNb := Lib.hid (HNb.out.grown hgg (by intro e; have := Option.some.inj e; omega))) | skip
      have HRc := Lib.hid hss.1
      have HKc := Lib.hid (HKc.out.trans hss.2)
      clear hrr hgg hss hHeld2
      first | (have n0 := HNb.out.cell 0 rfl; have n1 := HNb.out.cell 1 rfl; have nz0 := HNb.out.fz 0; have nz1 := HNb.out.fz 1; have nl := HNb.out.lt) | skip
      try simp only [Act.put, List.setIfInBounds_toArray, List.set_cons_zero, List.set_cons_succ]
      refine wpAnyH_take (i := 11) (v := ?_) (by first | (simp only [List.getElem?_toArray, List.getElem?_cons_succ, List.getElem?_cons_zero] <;> rfl) | rfl) (by kernel_rfl) (by kernel_rfl) (by kernel_rfl) (by exact fun _ _ _ h => h) (Or.inl ⟨by rfl, ?_⟩) hHeld3 ?_
      rotate_left 1
      ·intro w hSw
       try dsimp only at hSw
       (go_simp) <;> (with_reducible rfl)
      try simp only [Act.put, List.setIfInBounds_toArray, List.set_cons_zero, List.set_cons_succ]
      refine wpAnyH_ready (rs := [13]) (by kernel_rfl) (by simp) ?_
      refine AllReadyH.cons (by first | (simp only [List.getElem?_toArray, List.getElem?_cons_succ, List.getElem?_cons_zero] <;> rfl) | rfl) (fun K hK => ?_) ?_
      ·go_simp
       refine hK.out _ _ ?_ (fun hHeld4 => ?_)
       ·first | exact ⟨cell_below hHeld2.1 (oneb _ _), cell_below hHeld2.2 (oneb _ _)⟩ | exact ⟨cell_grow hHeld3.1 (set2_grown _ _ _ _) (HBc.out.tyb.ne HNb.out.tyb (by decide)), cell_grow hHeld3.2 (set2_grown _ _ _ _) (by omega)⟩
       clear hK K
       try simp only [Act.put, List.setIfInBounds_toArray, List.set_cons_zero, List.set_cons_succ]
       refine wpAnyH_done (by kernel_rfl) ?_ _
       go_wp2_with fail
       go_meet
       case rel =>
        first | exact ⟨_, rfl, hgl, Bk.new _ _ _ rfl, HRp.out.alloc _, HKp.out.trans (KT.below (oneb _ _)), HBp.out.alloc _⟩ | exact ⟨_, rfl, hgl, (HNb.out.set 0 (.string ⟨t.t.toArray⟩)).set 1 (.int .u16 (rtV (tkS 3 s) : Nat)), HRc.out.otherB (set2_grown _ _ _ _) HNb.out.tyb hgl (by decide) (by decide) (by decide) HNr.out HNq.out, HKc.out.trans (KT.grown (set2_grown _ _ _ _) HNb.out.tyb (by decide)), HBc.out.grown (set2_grown _ _ _ _) (by intro e; exact HBc.out.tyb.ne HNb.out.tyb (by decide) (Option.some.inj e))⟩
      exact AllReadyH.nil
     exact AllReadyH.nil
    exact AllReadyH.nil
   exact AllReadyH.nil
  case rest =>
   obtain ⟨g, rfl, hgb, HNb, HR4, HK4, HB4⟩ := hcut
   rename World => w5
   obtain ⟨A2, c2, e2, hc2, htr2, _⟩ := own_typed HR4.out.p
   have hq6 : w5.cell? ⟨b, 6, none⟩ = some T.bv := by obtain ⟨_, _, hq, _⟩ := HR4.out.rb.blk; exact hq.cell 6 rfl
   rw [e2] at hq6
   obtain ⟨n2, hn2⟩ : ∃ n2, n2 = T.pt.length := ⟨_, rfl⟩
   rw [← hn2] at hq6 htr2 hn hc2
   have hct := Lib.hid (containsPath T.pt A2 n2 c2 g t.t w5 hn2.symm htr2.rd (HNb.out.cell 0 rfl) HNb.out.lt (by omega))
   have HN2 := Lib.hid hn2
   have hbl5 := HR4.out.rb.lt
   clear e2 htr2 hn2
   go_wp2_with fail
   refine hct.out.mono ?_
   clear hct
   rintro e w6 ⟨rfl, hb6⟩
   have HN6 := Lib.hid (HNb.out.kept hb6)
   have HR6 := Lib.hid (HR4.out.kept hb6)
   have HK6 := Lib.hid (HK4.out.trans (KT.below hb6))
   have HB6 := Lib.hid (HB4.out.kept hb6)
   clear hb6 hq6
   cases hany : (T.pt.any fun y => decide (y.1 = t.t)) with
   | true =>
    have HS := Lib.hid (show ptS T.hd T.pt s = fl (rtS (T.hd &&& 2047) (tkS 3 s)) t 206 by unfold ptS; rw [← HT.out, hany, if_pos rfl, HP.out])
    clear hany
    have r0 := HB6.out.cell 0 rfl
    have r1 := HB6.out.cell 1 rfl
    have r2 := HB6.out.cell 2 rfl
    have r3 := HB6.out.cell 3 rfl
    have r4 := HB6.out.cell 4 rfl
    have rl := HB6.out.lt
    go_wp2_with fail
    refine (fail_any' b (T.c pb) (rtS (T.hd &&& 2047) (tkS 3 s)) t 206 _ HR6.out.rb).mono ?_
    rintro e w7 ⟨rfl, hr7, hg7⟩
    have hs7 := HR6.out.small hr7 hg7 (fl_sub (Sub.refl _) _ _)
    have hx := HN6.out.grown hg7 (by intro e; have := Option.some.inj e; omega)
    have hR4 := hs7.1
    have hK4 := HK6.out.trans hs7.2
    have hl4 := hx.lt
    clear hr7 hg7 hs7 r0 r1 r2 r3 r4 rl
    go_upto_region 6 with fail
    have hRsz := Lib.hid hR4.sz
    rw [HN2.out] at hn
    refine wp_region_any (by kernel_rfl) ?_
    change wpAny _ _ _ _ _ _ _ (World.drew _)
    have hxv := hx.drew
    have hRv := hR4.kept (Below.refl w7.heap.size w7).drew
    have hKv := hK4.trans (KT.drew w7)
    have hlv : g < w7.drew.heap.size := hl4
    generalize w7.drew = v0 at hxv hRv hKv hlv  ⊢
    have hb5 := oneb v0 (.cells #[.string ⟨t.t.toArray⟩, .int .u16 (rtV (tkS 3 s) : Nat)] 72)
    have HR5 := Lib.hid (hRv.kept hb5)
    have HK5 := Lib.hid (hKv.trans (KT.below hb5))
    have hB5 := Bk.new v0 72 #[.string ⟨t.t.toArray⟩, .int .u16 (rtV (tkS 3 s) : Nat)] (l := [.string ⟨t.t.toArray⟩, .int .u16 (rtV (tkS 3 s) : Nat)]) rfl
    obtain ⟨v', wb, hrun, ho, hg⟩ := row_run (t := 32) (ty := 32) infoPB rfl (by decide) Tryz.underlying32 (by decide) HR5.out.p hB5 rfl (by intro u hu; simp at hu; rcases hu with rfl | rfl <;> rfl) (by omega) (by have := HR5.out.rb.lt; omega)
    obtain ⟨A7, c7, hv7, _⟩ := own_typed ho
    subst hv7
    have hob := HR5.out.rb.app HR5.out.p hg
    obtain ⟨Al, capl, hbl, _⟩ := hob.blk
    have z4 := hbl.cell 6 rfl
    have zf := hbl.fz 6
    have zl := hbl.lt
    have HO := Lib.hid ho
    have HG := Lib.hid hg
    have HRun := Lib.hid hrun
    have hb4 : v0.cell? ⟨b, 6, none⟩ = some T.bv := by obtain ⟨_, _, hq, _⟩ := hRv.rb.blk; exact hq.cell 6 rfl
    have hbl4 := hRv.rb.lt
    have x0 := hxv.cell 0 rfl
    have x1 := hxv.cell 1 rfl
    have xl := hxv.lt
    clear hxv hRv hKv hb5 hB5 hrun ho hg hob hbl hx hR4 hK4  
    refine wpAny_take (i := 0) (v := ?_) rfl (by kernel_rfl) (by kernel_rfl) (by kernel_rfl) (fun _ _ _ h => h) (Or.inl ⟨by rfl, ?_⟩) ?_
    rotate_left 1
    ·intro w
     (go_simp) <;> (with_reducible rfl)
    refine wpAny_take (i := 1) (v := ?_) rfl (by kernel_rfl) (by kernel_rfl) (by kernel_rfl) (fun _ _ _ h => h) (Or.inl ⟨by rfl, ?_⟩) ?_
    rotate_left 1
    ·intro w
     (go_simp) <;> (with_reducible rfl)
    refine wpAny_take (i := 2) (v := ?_) rfl (by kernel_rfl) (by kernel_rfl) (by kernel_rfl) (fun _ _ _ h => h) (Or.inl ⟨by rfl, ?_⟩) ?_
    rotate_left 1
    ·intro w
     (go_simp) <;> (with_reducible rfl)
    refine wpAny_take (i := 3) (v := ?_) rfl (by kernel_rfl) (by kernel_rfl) (by kernel_rfl) (fun _ _ _ h => h) (Or.inl ⟨by rfl, ?_⟩) ?_
    rotate_left 1
    ·intro w
     (go_simp) <;> (with_reducible rfl)
    refine wpAny_take (i := 4) (v := ?_) rfl (by kernel_rfl) (by kernel_rfl) (by kernel_rfl) (fun _ _ _ h => h) (Or.inl ⟨by rfl, ?_⟩) ?_
    rotate_left 1
    ·intro w
     (go_simp) <;> (with_reducible rfl)
    refine wpAny_ready (rs := [5, 6]) (by kernel_rfl) (by simp) ?_
    refine AllReady.cons rfl (fun K hK => ?_) ?_
    ·skip
     go_simp
     refine hK _ _ ?_
     clear hK K
     refine wpAny_ready (rs := [6]) (by kernel_rfl) (by simp) ?_
     refine AllReady.cons rfl (fun K hK => ?_) ?_
     ·skip
      go_simp
      refine hK _ _ ?_
      clear hK K
      refine wpAny_ready (rs := [7]) (by kernel_rfl) (by simp) ?_
      refine AllReady.cons rfl (fun K hK => ?_) ?_
      ·skip
       go_simp
       refine hK _ _ ?_
       clear hK K
       refine wpAny_ready (rs := [8]) (by kernel_rfl) (by simp) ?_
       refine AllReady.cons rfl (fun K hK => ?_) ?_
       ·skip
        rw [if_pos (by rfl)]
        refine op_append (.tmp 40) (.tmp 42) 32 rfl _ _ _ wb rfl rfl HRun.out ?_
        refine hK _ _ ?_
        clear hK K
        refine wpAny_take (i := 9) (v := ?_) rfl (by kernel_rfl) (by kernel_rfl) (by kernel_rfl) (fun _ _ _ h => h) (Or.inl ⟨by rfl, ?_⟩) ?_
        rotate_left 1
        ·intro w
         (go_simp) <;> (with_reducible rfl)
        refine wpAny_take (i := 10) (v := ?_) rfl (by kernel_rfl) (by kernel_rfl) (by kernel_rfl) (fun _ _ _ h => h) (Or.inl ⟨by rfl, ?_⟩) ?_
        rotate_left 1
        ·intro w
         (go_simp) <;> (with_reducible rfl)
        refine wpAny_take (i := 11) (v := ?_) rfl (by kernel_rfl) (by kernel_rfl) (by kernel_rfl) (fun _ _ _ h => h) (Or.inl ⟨by rfl, ?_⟩) ?_
        rotate_left 1
        ·intro w
         (go_simp) <;> (with_reducible rfl)
        refine wpAny_ready (rs := [12]) (by kernel_rfl) (by simp) ?_
        refine AllReady.cons rfl (fun K hK => ?_) ?_
        ·skip
         go_simp
         refine hK _ _ ?_
         clear hK K
         refine wpAny_done (by kernel_rfl) ?_ _
         go_wp2_with fail
         go_end0
         have had := HR5.out.addPath (t.t, rtV (tkS 3 s)) HO.out HG.out (sz_path hRsz.out htl (rtV_lt _))
         exact body_of (p' := { T.m with paths := T.m.paths ++ [(t.t, rtV (tkS 3 s))] }) (s' := fl (rtS (T.hd &&& 2047) (tkS 3 s)) t 206) (by rw [← HT.out, HP.out]) HS.out rfl rfl had.1 (HK5.out.trans had.2)
        exact AllReady.nil
       exact AllReady.nil
      exact AllReady.nil
     exact AllReady.nil
    refine AllReady.cons rfl (fun K hK => ?_) ?_
    ·skip
     go_simp
     refine hK _ _ ?_
     clear hK K
     refine wpAny_ready (rs := [5, 7]) (by kernel_rfl) (by simp) ?_
     refine AllReady.cons rfl (fun K hK => ?_) ?_
     ·skip
      go_simp
      refine hK _ _ ?_
      clear hK K
      refine wpAny_ready (rs := [7]) (by kernel_rfl) (by simp) ?_
      refine AllReady.cons rfl (fun K hK => ?_) ?_
      ·skip
       go_simp
       refine hK _ _ ?_
       clear hK K
       refine wpAny_ready (rs := [8]) (by kernel_rfl) (by simp) ?_
       refine AllReady.cons rfl (fun K hK => ?_) ?_
       ·skip
        rw [if_pos (by rfl)]
        refine op_append (.tmp 40) (.tmp 42) 32 rfl _ _ _ wb rfl rfl HRun.out ?_
        refine hK _ _ ?_
        clear hK K
        refine wpAny_take (i := 9) (v := ?_) rfl (by kernel_rfl) (by kernel_rfl) (by kernel_rfl) (fun _ _ _ h => h) (Or.inl ⟨by rfl, ?_⟩) ?_
        rotate_left 1
        ·intro w
         (go_simp) <;> (with_reducible rfl)
        refine wpAny_take (i := 10) (v := ?_) rfl (by kernel_rfl) (by kernel_rfl) (by kernel_rfl) (fun _ _ _ h => h) (Or.inl ⟨by rfl, ?_⟩) ?_
        rotate_left 1
        ·intro w
         (go_simp) <;> (with_reducible rfl)
        refine wpAny_take (i := 11) (v := ?_) rfl (by kernel_rfl) (by kernel_rfl) (by kernel_rfl) (fun _ _ _ h => h) (Or.inl ⟨by rfl, ?_⟩) ?_
        rotate_left 1
        ·intro w
         (go_simp) <;> (with_reducible rfl)
        refine wpAny_ready (rs := [12]) (by kernel_rfl) (by simp) ?_
        refine AllReady.cons rfl (fun K hK => ?_) ?_
        ·skip
         go_simp
         refine hK _ _ ?_
         clear hK K
         refine wpAny_done (by kernel_rfl) ?_ _
         go_wp2_with fail
         go_end0
         have had := HR5.out.addPath (t.t, rtV (tkS 3 s)) HO.out HG.out (sz_path hRsz.out htl (rtV_lt _))
         exact body_of (p' := { T.m with paths := T.m.paths ++ [(t.t, rtV (tkS 3 s))] }) (s' := fl (rtS (T.hd &&& 2047) (tkS 3 s)) t 206) (by rw [← HT.out, HP.out]) HS.out rfl rfl had.1 (HK5.out.trans had.2)
        exact AllReady.nil
       exact AllReady.nil
      exact AllReady.nil
     refine AllReady.cons rfl (fun K hK => ?_) ?_
     ·skip
      go_simp
      refine hK _ _ ?_
      clear hK K
      refine wpAny_ready (rs := [5]) (by kernel_rfl) (by simp) ?_
      refine AllReady.cons rfl (fun K hK => ?_) ?_
      ·skip
       go_simp
       refine hK _ _ ?_
       clear hK K
       refine wpAny_ready (rs := [8]) (by kernel_rfl) (by simp) ?_
       refine AllReady.cons rfl (fun K hK => ?_) ?_
       ·skip
        rw [if_pos (by rfl)]
        refine op_append (.tmp 40) (.tmp 42) 32 rfl _ _ _ wb rfl rfl HRun.out ?_
        refine hK _ _ ?_
        clear hK K
        refine wpAny_take (i := 9) (v := ?_) rfl (by kernel_rfl) (by kernel_rfl) (by kernel_rfl) (fun _ _ _ h => h) (Or.inl ⟨by rfl, ?_⟩) ?_
        rotate_left 1
        ·intro w
         (go_simp) <;> (with_reducible rfl)
        refine wpAny_take (i := 10) (v := ?_) rfl (by kernel_rfl) (by kernel_rfl) (by kernel_rfl) (fun _ _ _ h => h) (Or.inl ⟨by rfl, ?_⟩) ?_
        rotate_left 1
        ·intro w
         (go_simp) <;> (with_reducible rfl)
        refine wpAny_take (i := 11) (v := ?_) rfl (by kernel_rfl) (by kernel_rfl) (by kernel_rfl) (fun _ _ _ h => h) (Or.inl ⟨by rfl, ?_⟩) ?_
        rotate_left 1
        ·intro w
         (go_simp) <;> (with_reducible rfl)
        refine wpAny_ready (rs := [12]) (by kernel_rfl) (by simp) ?_
        refine AllReady.cons rfl (fun K hK => ?_) ?_
        ·skip
         go_simp
         refine hK _ _ ?_
         clear hK K
         refine wpAny_done (by kernel_rfl) ?_ _
         go_wp2_with fail
         go_end0
         have had := HR5.out.addPath (t.t, rtV (tkS 3 s)) HO.out HG.out (sz_path hRsz.out htl (rtV_lt _))
         exact body_of (p' := { T.m with paths := T.m.paths ++ [(t.t, rtV (tkS 3 s))] }) (s' := fl (rtS (T.hd &&& 2047) (tkS 3 s)) t 206) (by rw [← HT.out, HP.out]) HS.out rfl rfl had.1 (HK5.out.trans had.2)
        exact AllReady.nil
       exact AllReady.nil
      exact AllReady.nil
     exact AllReady.nil
    exact AllReady.nil
   | false =>
    have HS := Lib.hid (show ptS T.hd T.pt s = rtS (T.hd &&& 2047) (tkS 3 s) by unfold ptS; rw [← HT.out, hany, if_neg (by simp), HP.out])
    clear hany
    have hx := HN6.out
    have hR4 := HR6.out
    have hK4 := HK6.out
    have hl4 := hx.lt
    go_upto_region 6 with fail
    have hRsz := Lib.hid hR4.sz
    rw [HN2.out] at hn
    refine wp_region_any (by kernel_rfl) ?_
    change wpAny _ _ _ _ _ _ _ (World.drew _)
    have hxv := hx.drew
    have hRv := hR4.kept (Below.refl w6.heap.size w6).drew
    have hKv := hK4.trans (KT.drew w6)
    have hlv : g < w6.drew.heap.size := hl4
    generalize w6.drew = v0 at hxv hRv hKv hlv  ⊢
    have hb5 := oneb v0 (.cells #[.string ⟨t.t.toArray⟩, .int .u16 (rtV (tkS 3 s) : Nat)] 72)
    have HR5 := Lib.hid (hRv.kept hb5)
    have HK5 := Lib.hid (hKv.trans (KT.below hb5))
    have hB5 := Bk.new v0 72 #[.string ⟨t.t.toArray⟩, .int .u16 (rtV (tkS 3 s) : Nat)] (l := [.string ⟨t.t.toArray⟩, .int .u16 (rtV (tkS 3 s) : Nat)]) rfl
    obtain ⟨v', wb, hrun, ho, hg⟩ := row_run (t := 32) (ty := 32) infoPB rfl (by decide) Tryz.underlying32 (by decide) HR5.out.p hB5 rfl (by intro u hu; simp at hu; rcases hu with rfl | rfl <;> rfl) (by omega) (by have := HR5.out.rb.lt; omega)
    obtain ⟨A7, c7, hv7, _⟩ := own_typed ho
    subst hv7
    have hob := HR5.out.rb.app HR5.out.p hg
    obtain ⟨Al, capl, hbl, _⟩ := hob.blk
    have z4 := hbl.cell 6 rfl
    have zf := hbl.fz 6
    have zl := hbl.lt
    have HO := Lib.hid ho
    have HG := Lib.hid hg
    have HRun := Lib.hid hrun
    have hb4 : v0.cell? ⟨b, 6, none⟩ = some T.bv := by obtain ⟨_, _, hq, _⟩ := hRv.rb.blk; exact hq.cell 6 rfl
    have hbl4 := hRv.rb.lt
    have x0 := hxv.cell 0 rfl
    have x1 := hxv.cell 1 rfl
    have xl := hxv.lt
    clear hxv hRv hKv hb5 hB5 hrun ho hg hob hbl hx hR4 hK4  
    refine wpAny_take (i := 0) (v := ?_) rfl (by kernel_rfl) (by kernel_rfl) (by kernel_rfl) (fun _ _ _ h => h) (Or.inl ⟨by rfl, ?_⟩) ?_
    rotate_left 1
    ·intro w
     (go_simp) <;> (with_reducible rfl)
    refine wpAny_take (i := 1) (v := ?_) rfl (by kernel_rfl) (by kernel_rfl) (by kernel_rfl) (fun _ _ _ h => h) (Or.inl ⟨by rfl, ?_⟩) ?_
    rotate_left 1
    ·intro w
     (go_simp) <;> (with_reducible rfl)
    refine wpAny_take (i := 2) (v := ?_) rfl (by kernel_rfl) (by kernel_rfl) (by kernel_rfl) (fun _ _ _ h => h) (Or.inl ⟨by rfl, ?_⟩) ?_
    rotate_left 1
    ·intro w
     (go_simp) <;> (with_reducible rfl)
    refine wpAny_take (i := 3) (v := ?_) rfl (by kernel_rfl) (by kernel_rfl) (by kernel_rfl) (fun _ _ _ h => h) (Or.inl ⟨by rfl, ?_⟩) ?_
    rotate_left 1
    ·intro w
     (go_simp) <;> (with_reducible rfl)
    refine wpAny_take (i := 4) (v := ?_) rfl (by kernel_rfl) (by kernel_rfl) (by kernel_rfl) (fun _ _ _ h => h) (Or.inl ⟨by rfl, ?_⟩) ?_
    rotate_left 1
    ·intro w
     (go_simp) <;> (with_reducible rfl)
    refine wpAny_ready (rs := [5, 6]) (by kernel_rfl) (by simp) ?_
    refine AllReady.cons rfl (fun K hK => ?_) ?_
    ·skip
     go_simp
     refine hK _ _ ?_
     clear hK K
     refine wpAny_ready (rs := [6]) (by kernel_rfl) (by simp) ?_
     refine AllReady.cons rfl (fun K hK => ?_) ?_
     ·skip
      go_simp
      refine hK _ _ ?_
      clear hK K
      refine wpAny_ready (rs := [7]) (by kernel_rfl) (by simp) ?_
      refine AllReady.cons rfl (fun K hK => ?_) ?_
      ·skip
       go_simp
       refine hK _ _ ?_
       clear hK K
       refine wpAny_ready (rs := [8]) (by kernel_rfl) (by simp) ?_
       refine AllReady.cons rfl (fun K hK => ?_) ?_
       ·skip
        rw [if_pos (by rfl)]
        refine op_append (.tmp 40) (.tmp 42) 32 rfl _ _ _ wb rfl rfl HRun.out ?_
        refine hK _ _ ?_
        clear hK K
        refine wpAny_take (i := 9) (v := ?_) rfl (by kernel_rfl) (by kernel_rfl) (by kernel_rfl) (fun _ _ _ h => h) (Or.inl ⟨by rfl, ?_⟩) ?_
        rotate_left 1
        ·intro w
         (go_simp) <;> (with_reducible rfl)
        refine wpAny_take (i := 10) (v := ?_) rfl (by kernel_rfl) (by kernel_rfl) (by kernel_rfl) (fun _ _ _ h => h) (Or.inl ⟨by rfl, ?_⟩) ?_
        rotate_left 1
        ·intro w
         (go_simp) <;> (with_reducible rfl)
        refine wpAny_take (i := 11) (v := ?_) rfl (by kernel_rfl) (by kernel_rfl) (by kernel_rfl) (fun _ _ _ h => h) (Or.inl ⟨by rfl, ?_⟩) ?_
        rotate_left 1
        ·intro w
         (go_simp) <;> (with_reducible rfl)
        refine wpAny_ready (rs := [12]) (by kernel_rfl) (by simp) ?_
        refine AllReady.cons rfl (fun K hK => ?_) ?_
        ·skip
         go_simp
         refine hK _ _ ?_
         clear hK K
         refine wpAny_done (by kernel_rfl) ?_ _
         go_wp2_with fail
         go_end0
         have had := HR5.out.addPath (t.t, rtV (tkS 3 s)) HO.out HG.out (sz_path hRsz.out htl (rtV_lt _))
         exact body_of (p' := { T.m with paths := T.m.paths ++ [(t.t, rtV (tkS 3 s))] }) (s' := rtS (T.hd &&& 2047) (tkS 3 s)) (by rw [← HT.out, HP.out]) HS.out rfl rfl had.1 (HK5.out.trans had.2)
        exact AllReady.nil
       exact AllReady.nil
      exact AllReady.nil
     exact AllReady.nil
    refine AllReady.cons rfl (fun K hK => ?_) ?_
    ·skip
     go_simp
     refine hK _ _ ?_
     clear hK K
     refine wpAny_ready (rs := [5, 7]) (by kernel_rfl) (by simp) ?_
     refine AllReady.cons rfl (fun K hK => ?_) ?_
     ·skip
      go_simp
      refine hK _ _ ?_
      clear hK K
      refine wpAny_ready (rs := [7]) (by kernel_rfl) (by simp) ?_
      refine AllReady.cons rfl (fun K hK => ?_) ?_
      ·skip
       go_simp
       refine hK _ _ ?_
       clear hK K
       refine wpAny_ready (rs := [8]) (by kernel_rfl) (by simp) ?_
       refine AllReady.cons rfl (fun K hK => ?_) ?_
       ·skip
        rw [if_pos (by rfl)]
        refine op_append (.tmp 40) (.tmp 42) 32 rfl _ _ _ wb rfl rfl HRun.out ?_
        refine hK _ _ ?_
        clear hK K
        refine wpAny_take (i := 9) (v := ?_) rfl (by kernel_rfl) (by kernel_rfl) (by kernel_rfl) (fun _ _ _ h => h) (Or.inl ⟨by rfl, ?_⟩) ?_
        rotate_left 1
        ·intro w
         (go_simp) <;> (with_reducible rfl)
        refine wpAny_take (i := 10) (v := ?_) rfl (by kernel_rfl) (by kernel_rfl) (by kernel_rfl) (fun _ _ _ h => h) (Or.inl ⟨by rfl, ?_⟩) ?_
        rotate_left 1
        ·intro w
         (go_simp) <;> (with_reducible rfl)
        refine wpAny_take (i := 11) (v := ?_) rfl (by kernel_rfl) (by kernel_rfl) (by kernel_rfl) (fun _ _ _ h => h) (Or.inl ⟨by rfl, ?_⟩) ?_
        rotate_left 1
        ·intro w
         (go_simp) <;> (with_reducible rfl)
        refine wpAny_ready (rs := [12]) (by kernel_rfl) (by simp) ?_
        refine AllReady.cons rfl (fun K hK => ?_) ?_
        ·skip
         go_simp
         refine hK _ _ ?_
         clear hK K
         refine wpAny_done (by kernel_rfl) ?_ _
         go_wp2_with fail
         go_end0
         have had := HR5.out.addPath (t.t, rtV (tkS 3 s)) HO.out HG.out (sz_path hRsz.out htl (rtV_lt _))
         exact body_of (p' := { T.m with paths := T.m.paths ++ [(t.t, rtV (tkS 3 s))] }) (s' := rtS (T.hd &&& 2047) (tkS 3 s)) (by rw [← HT.out, HP.out]) HS.out rfl rfl had.1 (HK5.out.trans had.2)
        exact AllReady.nil
       exact AllReady.nil
      exact AllReady.nil
     refine AllReady.cons rfl (fun K hK => ?_) ?_
     ·skip
      go_simp
      refine hK _ _ ?_
      clear hK K
      refine wpAny_ready (rs := [5]) (by kernel_rfl) (by simp) ?_
      refine AllReady.cons rfl (fun K hK => ?_) ?_
      ·skip
       go_simp
       refine hK _ _ ?_
       clear hK K
       refine wpAny_ready (rs := [8]) (by kernel_rfl) (by simp) ?_
       refine AllReady.cons rfl (fun K hK => ?_) ?_
       ·skip
        rw [if_pos (by rfl)]
        refine op_append (.tmp 40) (.tmp 42) 32 rfl _ _ _ wb rfl rfl HRun.out ?_
        refine hK _ _ ?_
        clear hK K
        refine wpAny_take (i := 9) (v := ?_) rfl (by kernel_rfl) (by kernel_rfl) (by kernel_rfl) (fun _ _ _ h => h) (Or.inl ⟨by rfl, ?_⟩) ?_
        rotate_left 1
        ·intro w
         (go_simp) <;> (with_reducible rfl)
        refine wpAny_take (i := 10) (v := ?_) rfl (by kernel_rfl) (by kernel_rfl) (by kernel_rfl) (fun _ _ _ h => h) (Or.inl ⟨by rfl, ?_⟩) ?_
        rotate_left 1
        ·intro w
         (go_simp) <;> (with_reducible rfl)
        refine wpAny_take (i := 11) (v := ?_) rfl (by kernel_rfl) (by kernel_rfl) (by kernel_rfl) (fun _ _ _ h => h) (Or.inl ⟨by rfl, ?_⟩) ?_
        rotate_left 1
        ·intro w
         (go_simp) <;> (with_reducible rfl)
        refine wpAny_ready (rs := [12]) (by kernel_rfl) (by simp) ?_
        refine AllReady.cons rfl (fun K hK => ?_) ?_
        ·skip
         go_simp
         refine hK _ _ ?_
         clear hK K
         refine wpAny_done (by kernel_rfl) ?_ _
         go_wp2_with fail
         go_end0
         have had := HR5.out.addPath (t.t, rtV (tkS 3 s)) HO.out HG.out (sz_path hRsz.out htl (rtV_lt _))
         exact body_of (p' := { T.m with paths := T.m.paths ++ [(t.t, rtV (tkS 3 s))] }) (s' := rtS (T.hd &&& 2047) (tkS 3 s)) (by rw [← HT.out, HP.out]) HS.out rfl rfl had.1 (HK5.out.trans had.2)
        exact AllReady.nil
       exact AllReady.nil
      exact AllReady.nil
     exact AllReady.nil
    exact AllReady.nil
 | false =>
  have HP := Lib.hid (show pt1 s = fl (tkS 3 s) t 203 by unfold pt1; rw [← HT.out, hp, if_neg (by simp)])
  clear hp
  have r0 := HBK3.out.cell 0 rfl
  have r1 := HBK3.out.cell 1 rfl
  have r2 := HBK3.out.cell 2 rfl
  have r3 := HBK3.out.cell 3 rfl
  have r4 := HBK3.out.cell 4 rfl
  have rl := HBK3.out.lt
  go_wp2_with fail
  refine (fail_any' b (T.c pb) (tkS 3 s) t 203 _ HR3.out.rb).mono ?_
  rintro e w4 ⟨rfl, hr4, hg4⟩
  have hs4 := HR3.out.small hr4 hg4 (fl_sub (Sub.refl _) _ _)
  have HR3b := Lib.hid hs4.1
  have HK3b := Lib.hid (HK3.out.trans hs4.2)
  have HBK3b := Lib.hid (hs4.2 _ _ HBK3.out)
  clear hr4 hg4 hs4 r0 r1 r2 r3 r4 rl
  go_upto_region 3 with fail
  go_cut [3] from 13 to 24 (fun sl wx => ∃ g : Nat, sl = .pointer (some ⟨g, 0, none⟩) ∧ b < g ∧ Hid (Bk wx g 72 [.string ⟨t.t.toArray⟩, .int .u16 (rtV (fl (tkS 3 s) t 203) : Nat)]) ∧ Hid (Rr w0 b tb pb qa wx m T (rtS (T.hd &&& 2047) (fl (tkS 3 s) t 203))) ∧ Hid (KT w wx) ∧ Hid (Bk wx tk 182 [.int .u8 t.k, .string ⟨t.t.toArray⟩, .int .u64 t.n, .int .i64 t.line, .int .i64 t.col]))
  case first =>
   have hc0 := HBK3b.out.cell 1 rfl
   have hc5 : w4.cell? ⟨b, 5, none⟩ = some (.int .u16 T.hd) := by obtain ⟨_, _, hq, _⟩ := HR3b.out.rb.blk; exact hq.cell 5 rfl
   have hand : bits .and .u16 (T.hd : Int) 2047 = ((T.hd &&& 2047 : Nat) : Int) := u16_and_nat T.hd 2047 hh16 (by omega)
   have hbd := (Below.refl w4.heap.size w4).drew
   have HRc := Lib.hid (HR3b.out.kept hbd)
   have HKc := Lib.hid (HK3b.out.trans (KT.drew w4))
   have HBc := Lib.hid (HBK3b.out.drew)
   have hc0v : w4.drew.cell? ⟨tk, 1, none⟩ = _ := hc0
   have hc5v : w4.drew.cell? ⟨b, 5, none⟩ = _ := hc5
   refine wp_region_held_drew (S := fun W : World => W.cell? ⟨tk, 1, none⟩ = some (.string ⟨t.t.toArray⟩) ∧ W.cell? ⟨b, 5, none⟩ = some (.int .u16 T.hd)) (by kernel_rfl) ?_ (fun hHeld0 => ?_)
   ·exact ⟨hc0v, hc5v⟩
   generalize w4.drew = v0 at hHeld0 HRc HKc HBc hbd ⊢
   clear hbd hc0 hc5 hc0v hc5v
   refine wpAnyH_take (i := 0) (v := ?_) (by first | (simp only [List.getElem?_toArray, List.getElem?_cons_zero] <;> rfl) | rfl) (by kernel_rfl) (by kernel_rfl) (by kernel_rfl) (by exact fun _ _ _ h => h) (Or.inl ⟨by rfl, ?_⟩) hHeld0 ?_
   rotate_left 1
   ·intro w hSw
    try dsimp only at hSw
    (go_simp) <;> (with_reducible rfl)
   try simp only [Act.put, List.setIfInBounds_toArray, List.set_cons_zero, List.set_cons_succ]
   refine wpAnyH_take (i := 1) (v := ?_) (by first | (simp only [List.getElem?_toArray, List.getElem?_cons_succ, List.getElem?_cons_zero] <;> rfl) | rfl) (by kernel_rfl) (by kernel_rfl) (by kernel_rfl) (by exact fun _ _ _ h => h) (Or.inl ⟨by rfl, ?_⟩) hHeld0 ?_
   rotate_left 1
   ·intro w hSw
    try dsimp only at hSw
    (go_simp) <;> (with_reducible rfl)
   try simp only [Act.put, List.setIfInBounds_toArray, List.set_cons_zero, List.set_cons_succ]
   refine wpAnyH_take (i := 3) (v := ?_) (by first | (simp only [List.getElem?_toArray, List.getElem?_cons_succ, List.getElem?_cons_zero] <;> rfl) | rfl) (by kernel_rfl) (by kernel_rfl) (by kernel_rfl) (by exact fun _ _ _ h => h) (Or.inl ⟨by rfl, ?_⟩) hHeld0 ?_
   rotate_left 1
   ·intro w hSw
    try dsimp only at hSw
    (go_simp) <;> (with_reducible rfl)
   try simp only [Act.put, List.setIfInBounds_toArray, List.set_cons_zero, List.set_cons_succ]
   refine wpAnyH_take (i := 4) (v := ?_) (by first | (simp only [List.getElem?_toArray, List.getElem?_cons_succ, List.getElem?_cons_zero] <;> rfl) | rfl) (by kernel_rfl) (by kernel_rfl) (by kernel_rfl) (by exact fun _ _ _ h => h) (Or.inl ⟨by rfl, ?_⟩) hHeld0 ?_
   rotate_left 1
   ·intro w hSw
    try dsimp only at hSw
    (go_simp) <;> (with_reducible rfl)
   try simp only [Act.put, List.setIfInBounds_toArray, List.set_cons_zero, List.set_cons_succ]
   refine wpAnyH_take (i := 5) (v := ?_) (by first | (simp only [List.getElem?_toArray, List.getElem?_cons_succ, List.getElem?_cons_zero] <;> rfl) | rfl) (by kernel_rfl) (by kernel_rfl) (by kernel_rfl) (by exact fun _ _ _ h => h) (Or.inl ⟨by rfl, ?_⟩) hHeld0 ?_
   rotate_left 1
   ·intro w hSw
    try dsimp only at hSw
    (go_simp) <;> (with_reducible rfl)
   try simp only [Act.put, List.setIfInBounds_toArray, List.set_cons_zero, List.set_cons_succ]
   refine wpAnyH_take (i := 6) (v := ?_) (by first | (simp only [List.getElem?_toArray, List.getElem?_cons_succ, List.getElem?_cons_zero] <;> rfl) | rfl) (by kernel_rfl) (by kernel_rfl) (by kernel_rfl) (by exact fun _ _ _ h => h) (Or.inl ⟨by rfl, ?_⟩) hHeld0 ?_
   rotate_left 1
   ·intro w hSw
    try dsimp only at hSw
    (go_simp) <;> (with_reducible rfl)
   try simp only [Act.put, List.setIfInBounds_toArray, List.set_cons_zero, List.set_cons_succ]
   refine wpAnyH_take (i := 7) (v := ?_) (by first | (simp only [List.getElem?_toArray, List.getElem?_cons_succ, List.getElem?_cons_zero] <;> rfl) | rfl) (by kernel_rfl) (by kernel_rfl) (by kernel_rfl) (by exact fun _ _ _ h => h) (Or.inl ⟨by rfl, ?_⟩) hHeld0 ?_
   rotate_left 1
   ·intro w hSw
    try dsimp only at hSw
    (go_simp) <;> (with_reducible rfl)
   try simp only [Act.put, List.setIfInBounds_toArray, List.set_cons_zero, List.set_cons_succ]
   refine wpAnyH_take (i := 8) (v := ?_) (by first | (simp only [List.getElem?_toArray, List.getElem?_cons_succ, List.getElem?_cons_zero] <;> rfl) | rfl) (by kernel_rfl) (by kernel_rfl) (by kernel_rfl) (by exact fun _ _ _ h => h) (Or.inl ⟨by rfl, ?_⟩) hHeld0 ?_
   rotate_left 1
   ·intro w hSw
    try dsimp only at hSw
    (go_simp) <;> (with_reducible rfl)
   try simp only [Act.put, List.setIfInBounds_toArray, List.set_cons_zero, List.set_cons_succ]
   refine wpAnyH_take (i := 9) (v := ?_) (by first | (simp only [List.getElem?_toArray, List.getElem?_cons_succ, List.getElem?_cons_zero] <;> rfl) | rfl) (by kernel_rfl) (by kernel_rfl) (by kernel_rfl) (by exact fun _ _ _ h => h) (Or.inl ⟨by rfl, ?_⟩) hHeld0 ?_
   rotate_left 1
   ·intro w hSw
    try dsimp only at hSw
    (go_simp) <;> (with_reducible rfl)
   try simp only [Act.put, List.setIfInBounds_toArray, List.set_cons_zero, List.set_cons_succ]
   refine wpAnyH_ready (rs := [2, 12]) (by kernel_rfl) (by simp) ?_
   refine AllReadyH.cons (by first | (simp only [List.getElem?_toArray, List.getElem?_cons_succ, List.getElem?_cons_zero] <;> rfl) | rfl) (fun K hK => ?_) ?_
   ·go_simp
    refine (clone_any _ _ (by rw [Lib.size_eq]; show t.t.length ≤ _; omega)).mono ?_
    rintro e v ⟨rfl, hbb⟩
    refine hK.out _ _ ?_ (fun hHeld1 => ?_)
    ·exact ⟨cell_below hHeld0.1 hbb, cell_below hHeld0.2 hbb⟩
    clear hK K
    have HRc := Lib.hid (HRc.out.kept hbb)
    have HKc := Lib.hid (HKc.out.trans (KT.below hbb))
    have HBc := Lib.hid (HBc.out.kept hbb)
    first | (have HNb := Lib.hid (HNb.out.kept hbb)) | skip
    first | (have n0 := HNb.out.cell 0 rfl; have n1 := HNb.out.cell 1 rfl; have nz0 := HNb.out.fz 0; have nz1 := HNb.out.fz 1; have nl := HNb.out.lt) | skip
    clear hbb hHeld0
    try simp only [Act.put, List.setIfInBounds_toArray, List.set_cons_zero, List.set_cons_succ]
    refine wpAnyH_ready (rs := [10, 12]) (by kernel_rfl) (by simp) ?_
    refine AllReadyH.cons (by first | (simp only [List.getElem?_toArray, List.getElem?_cons_succ, List.getElem?_cons_zero] <;> rfl) | rfl) (fun K hK => ?_) ?_
    ·go_simp
     refine (rights_any (T.hd &&& 2047) pb tb qa b (T.c pb) (fl (tkS 3 s) t 203) _ HRc.out.rb HRc.out.inn HRc.out.ev HRc.out.pz rfl (Nat.lt_of_le_of_lt Nat.and_le_left hh16)).mono ?_
     rintro e v ⟨rfl, hrr, hgg⟩
     have hss := HRc.out.small hrr hgg (rt_sub _ _)
     refine hK.out _ _ ?_ (fun hHeld2 => ?_)
     ·exact ⟨cell_grow hHeld1.1 hgg (by have := hl1; omega), by obtain ⟨_, _, hq, _⟩ := hss.1.rb.blk; exact hq.cell 5 rfl⟩
     clear hK K
     have HBc := Lib.hid (HBc.out.grown hgg (by intro e; have := Option.some.inj e; omega))
     first | (have HNb := Lib.hid (HNb.out.grown hgg (by intro e; have := Option.some.inj e; omega))) | skip
     have HRc := Lib.hid hss.1
     have HKc := Lib.hid (HKc.out.trans hss.2)
     clear hrr hgg hss hHeld1
     first | (have n0 := HNb.out.cell 0 rfl; have n1 := HNb.out.cell 1 rfl; have nz0 := HNb.out.fz 0; have nz1 := HNb.out.fz 1; have nl := HNb.out.lt) | skip
     try simp only [Act.put, List.setIfInBounds_toArray, List.set_cons_zero, List.set_cons_succ]
     refine wpAnyH_take (i := 11) (v := ?_) (by first | (simp only [List.getElem?_toArray, List.getElem?_cons_succ, List.getElem?_cons_zero] <;> rfl) | rfl) (by kernel_rfl) (by kernel_rfl) (by kernel_rfl) (by exact fun _ _ _ h => h) (Or.inl ⟨by rfl, ?_⟩) hHeld2 ?_
     rotate_left 1
     ·intro w hSw
      try dsimp only at hSw
      (go_simp) <;> (with_reducible rfl)
     try simp only [Act.put, List.setIfInBounds_toArray, List.set_cons_zero, List.set_cons_succ]
     refine wpAnyH_ready (rs := [12]) (by kernel_rfl) (by simp) ?_
     refine AllReadyH.cons (by first | (simp only [List.getElem?_toArray, List.getElem?_cons_succ, List.getElem?_cons_zero] <;> rfl) | rfl) (fun K hK => ?_) ?_
     ·go_simp
      refine hK.out _ _ ?_ (fun hHeld3 => ?_)
      ·exact ⟨cell_below hHeld2.1 (oneb _ _), cell_below hHeld2.2 (oneb _ _)⟩
      clear hK K
      have hgl := HRc.out.rb.lt
      have HNr := Lib.hid (fun q hq => Nat.ne_of_lt (HRc.out.p.lt q hq).2)
      have HNq := Lib.hid (fun q hq => Nat.ne_of_lt (HRc.out.q.lt q hq).2)
      have HRp := HRc
      have HKp := HKc
      have HBp := HBc
      have HNb := Lib.hid (newBk HRc.out 72 (l := [.string ByteArray.empty, .int .u16 0]) (a := #[.string ByteArray.empty, .int .u16 0]) rfl)
      have HRc := Lib.hid (HRc.out.alloc (.cells #[.string ByteArray.empty, .int .u16 0] 72))
      have HKc := Lib.hid (HKc.out.trans (KT.below (oneb _ (.cells #[.string ByteArray.empty, .int .u16 0] 72))))
      have HBc := Lib.hid (HBc.out.alloc (.cells #[.string ByteArray.empty, .int .u16 0] 72))
      first | (have n0 := HNb.out.cell 0 rfl; have n1 := HNb.out.cell 1 rfl; have nz0 := HNb.out.fz 0; have nz1 := HNb.out.fz 1; have nl := HNb.out.lt) | skip
      try simp only [Act.put, List.setIfInBounds_toArray, List.set_cons_zero, List.set_cons_succ]
      refine wpAnyH_ready (rs := [13]) (by kernel_rfl) (by simp) ?_
      refine AllReadyH.cons (by first | (simp only [List.getElem?_toArray, List.getElem?_cons_succ, List.getElem?_cons_zero] <;> rfl) | rfl) (fun K hK => ?_) ?_
      ·go_simp
       refine hK.out _ _ ?_ (fun hHeld4 => ?_)
       ·first | exact ⟨cell_below hHeld2.1 (oneb _ _), cell_below hHeld2.2 (oneb _ _)⟩ | exact ⟨cell_grow hHeld3.1 (set2_grown _ _ _ _) (HBc.out.tyb.ne HNb.out.tyb (by decide)), cell_grow hHeld3.2 (set2_grown _ _ _ _) (by omega)⟩
       clear hK K
       try simp only [Act.put, List.setIfInBounds_toArray, List.set_cons_zero, List.set_cons_succ]
       refine wpAnyH_done (by kernel_rfl) ?_ _
       go_wp2_with fail
       go_meet
       case rel =>
        first | exact ⟨_, rfl, hgl, Bk.new _ _ _ rfl, HRp.out.alloc _, HKp.out.trans (KT.below (oneb _ _)), HBp.out.alloc _⟩ | exact ⟨_, rfl, hgl, (HNb.out.set 0 (.string ⟨t.t.toArray⟩)).set 1 (.int .u16 (rtV (fl (tkS 3 s) t 203) : Nat)), HRc.out.otherB (set2_grown _ _ _ _) HNb.out.tyb hgl (by decide) (by decide) (by decide) HNr.out HNq.out, HKc.out.trans (KT.grown (set2_grown _ _ _ _) HNb.out.tyb (by decide)), HBc.out.grown (set2_grown _ _ _ _) (by intro e; exact HBc.out.tyb.ne HNb.out.tyb (by decide) (Option.some.inj e))⟩
      exact AllReadyH.nil
     exact AllReadyH.nil
    refine AllReadyH.cons (by first | (simp only [List.getElem?_toArray, List.getElem?_cons_succ, List.getElem?_cons_zero] <;> rfl) | rfl) (fun K hK => ?_) ?_
    ·go_simp
     refine hK.out _ _ ?_ (fun hHeld2 => ?_)
     ·exact ⟨cell_below hHeld1.1 (oneb _ _), cell_below hHeld1.2 (oneb _ _)⟩
     clear hK K
     have hgl := HRc.out.rb.lt
     have HNr := Lib.hid (fun q hq => Nat.ne_of_lt (HRc.out.p.lt q hq).2)
     have HNq := Lib.hid (fun q hq => Nat.ne_of_lt (HRc.out.q.lt q hq).2)
     have HRp := HRc
     have HKp := HKc
     have HBp := HBc
     have HNb := Lib.hid (newBk HRc.out 72 (l := [.string ByteArray.empty, .int .u16 0]) (a := #[.string ByteArray.empty, .int .u16 0]) rfl)
     have HRc := Lib.hid (HRc.out.alloc (.cells #[.string ByteArray.empty, .int .u16 0] 72))
     have HKc := Lib.hid (HKc.out.trans (KT.below (oneb _ (.cells #[.string ByteArray.empty, .int .u16 0] 72))))
     have HBc := Lib.hid (HBc.out.alloc (.cells #[.string ByteArray.empty, .int .u16 0] 72))
     first | (have n0 := HNb.out.cell 0 rfl; have n1 := HNb.out.cell 1 rfl; have nz0 := HNb.out.fz 0; have nz1 := HNb.out.fz 1; have nl := HNb.out.lt) | skip
     try simp only [Act.put, List.setIfInBounds_toArray, List.set_cons_zero, List.set_cons_succ]
     refine wpAnyH_ready (rs := [10]) (by kernel_rfl) (by simp) ?_
     refine AllReadyH.cons (by first | (simp only [List.getElem?_toArray, List.getElem?_cons_succ, List.getElem?_cons_zero] <;> rfl) | rfl) (fun K hK => ?_) ?_
     ·go_simp
      refine (rights_any (T.hd &&& 2047) pb tb qa b (T.c pb) (fl (tkS 3 s) t 203) _ HRc.out.rb HRc.out.inn HRc.out.ev HRc.out.pz rfl (Nat.lt_of_le_of_lt Nat.and_le_left hh16)).mono ?_
      rintro e v ⟨rfl, hrr, hgg⟩
      have hss := HRc.out.small hrr hgg (rt_sub _ _)
      refine hK.out _ _ ?_ (fun hHeld3 => ?_)
      ·exact ⟨cell_grow hHeld2.1 hgg (by have := hl1; omega), by obtain ⟨_, _, hq, _⟩ := hss.1.rb.blk; exact hq.cell 5 rfl⟩
      clear hK K
      have HBc := Lib.hid (HBc.out.grown hgg (by intro e; have := Option.some.inj e; omega))
      first | (have HNb := Lib.hid (HNb.out.grown hgg (by intro e; have := Option.some.inj e; omega))) | skip
      have HRc := Lib.hid hss.1
      have HKc := Lib.hid (HKc.out.trans hss.2)
      clear hrr hgg hss hHeld2
      first | (have n0 := HNb.out.cell 0 rfl; have n1 := HNb.out.cell 1 rfl; have nz0 := HNb.out.fz 0; have nz1 := HNb.out.fz 1; have nl := HNb.out.lt) | skip
      try simp only [Act.put, List.setIfInBounds_toArray, List.set_cons_zero, List.set_cons_succ]
      refine wpAnyH_take (i := 11) (v := ?_) (by first | (simp only [List.getElem?_toArray, List.getElem?_cons_succ, List.getElem?_cons_zero] <;> rfl) | rfl) (by kernel_rfl) (by kernel_rfl) (by kernel_rfl) (by exact fun _ _ _ h => h) (Or.inl ⟨by rfl, ?_⟩) hHeld3 ?_
      rotate_left 1
      ·intro w hSw
       try dsimp only at hSw
       (go_simp) <;> (with_reducible rfl)
      try simp only [Act.put, List.setIfInBounds_toArray, List.set_cons_zero, List.set_cons_succ]
      refine wpAnyH_ready (rs := [13]) (by kernel_rfl) (by simp) ?_
      refine AllReadyH.cons (by first | (simp only [List.getElem?_toArray, List.getElem?_cons_succ, List.getElem?_cons_zero] <;> rfl) | rfl) (fun K hK => ?_) ?_
      ·go_simp
       refine hK.out _ _ ?_ (fun hHeld4 => ?_)
       ·first | exact ⟨cell_below hHeld2.1 (oneb _ _), cell_below hHeld2.2 (oneb _ _)⟩ | exact ⟨cell_grow hHeld3.1 (set2_grown _ _ _ _) (HBc.out.tyb.ne HNb.out.tyb (by decide)), cell_grow hHeld3.2 (set2_grown _ _ _ _) (by omega)⟩
       clear hK K
       try simp only [Act.put, List.setIfInBounds_toArray, List.set_cons_zero, List.set_cons_succ]
       refine wpAnyH_done (by kernel_rfl) ?_ _
       go_wp2_with fail
       go_meet
       case rel =>
        first | exact ⟨_, rfl, hgl, Bk.new _ _ _ rfl, HRp.out.alloc _, HKp.out.trans (KT.below (oneb _ _)), HBp.out.alloc _⟩ | exact ⟨_, rfl, hgl, (HNb.out.set 0 (.string ⟨t.t.toArray⟩)).set 1 (.int .u16 (rtV (fl (tkS 3 s) t 203) : Nat)), HRc.out.otherB (set2_grown _ _ _ _) HNb.out.tyb hgl (by decide) (by decide) (by decide) HNr.out HNq.out, HKc.out.trans (KT.grown (set2_grown _ _ _ _) HNb.out.tyb (by decide)), HBc.out.grown (set2_grown _ _ _ _) (by intro e; exact HBc.out.tyb.ne HNb.out.tyb (by decide) (Option.some.inj e))⟩
      exact AllReadyH.nil
     exact AllReadyH.nil
    exact AllReadyH.nil
   refine AllReadyH.cons (by first | (simp only [List.getElem?_toArray, List.getElem?_cons_succ, List.getElem?_cons_zero] <;> rfl) | rfl) (fun K hK => ?_) ?_
   ·go_simp
    refine hK.out _ _ ?_ (fun hHeld1 => ?_)
    ·exact ⟨cell_below hHeld0.1 (oneb _ _), cell_below hHeld0.2 (oneb _ _)⟩
    clear hK K
    have hgl := HRc.out.rb.lt
    have HNr := Lib.hid (fun q hq => Nat.ne_of_lt (HRc.out.p.lt q hq).2)
    have HNq := Lib.hid (fun q hq => Nat.ne_of_lt (HRc.out.q.lt q hq).2)
    have HRp := HRc
    have HKp := HKc
    have HBp := HBc
    have HNb := Lib.hid (newBk HRc.out 72 (l := [.string ByteArray.empty, .int .u16 0]) (a := #[.string ByteArray.empty, .int .u16 0]) rfl)
    have HRc := Lib.hid (HRc.out.alloc (.cells #[.string ByteArray.empty, .int .u16 0] 72))
    have HKc := Lib.hid (HKc.out.trans (KT.below (oneb _ (.cells #[.string ByteArray.empty, .int .u16 0] 72))))
    have HBc := Lib.hid (HBc.out.alloc (.cells #[.string ByteArray.empty, .int .u16 0] 72))
    first | (have n0 := HNb.out.cell 0 rfl; have n1 := HNb.out.cell 1 rfl; have nz0 := HNb.out.fz 0; have nz1 := HNb.out.fz 1; have nl := HNb.out.lt) | skip
    try simp only [Act.put, List.setIfInBounds_toArray, List.set_cons_zero, List.set_cons_succ]
    refine wpAnyH_ready (rs := [2]) (by kernel_rfl) (by simp) ?_
    refine AllReadyH.cons (by first | (simp only [List.getElem?_toArray, List.getElem?_cons_succ, List.getElem?_cons_zero] <;> rfl) | rfl) (fun K hK => ?_) ?_
    ·go_simp
     refine (clone_any _ _ (by rw [Lib.size_eq]; show t.t.length ≤ _; omega)).mono ?_
     rintro e v ⟨rfl, hbb⟩
     refine hK.out _ _ ?_ (fun hHeld2 => ?_)
     ·exact ⟨cell_below hHeld1.1 hbb, cell_below hHeld1.2 hbb⟩
     clear hK K
     have HRc := Lib.hid (HRc.out.kept hbb)
     have HKc := Lib.hid (HKc.out.trans (KT.below hbb))
     have HBc := Lib.hid (HBc.out.kept hbb)
     first | (have HNb := Lib.hid (HNb.out.kept hbb)) | skip
     first | (have n0 := HNb.out.cell 0 rfl; have n1 := HNb.out.cell 1 rfl; have nz0 := HNb.out.fz 0; have nz1 := HNb.out.fz 1; have nl := HNb.out.lt) | skip
     clear hbb hHeld1
     try simp only [Act.put, List.setIfInBounds_toArray, List.set_cons_zero, List.set_cons_succ]
     refine wpAnyH_ready (rs := [10]) (by kernel_rfl) (by simp) ?_
     refine AllReadyH.cons (by first | (simp only [List.getElem?_toArray, List.getElem?_cons_succ, List.getElem?_cons_zero] <;> rfl) | rfl) (fun K hK => ?_) ?_
     ·go_simp
      refine (rights_any (T.hd &&& 2047) pb tb qa b (T.c pb) (fl (tkS 3 s) t 203) _ HRc.out.rb HRc.out.inn HRc.out.ev HRc.out.pz rfl (Nat.lt_of_le_of_lt Nat.and_le_left hh16)).mono ?_
      rintro e v ⟨rfl, hrr, hgg⟩
      have hss := HRc.out.small hrr hgg (rt_sub _ _)
      refine hK.out _ _ ?_ (fun hHeld3 => ?_)
      ·exact ⟨cell_grow hHeld2.1 hgg (by have := hl1; omega), by obtain ⟨_, _, hq, _⟩ := hss.1.rb.blk; exact hq.cell 5 rfl⟩
      clear hK K
      have HBc := Lib.hid (HBc.out.grown hgg (by intro e; have := Option.some.inj e; omega))
      first | (have HNb := Lib.hid (HNb.out.grown hgg (by intro e; have := Option.some.inj e; omega))) | skip
      have HRc := Lib.hid hss.1
      have HKc := Lib.hid (HKc.out.trans hss.2)
      clear hrr hgg hss hHeld2
      first | (have n0 := HNb.out.cell 0 rfl; have n1 := HNb.out.cell 1 rfl; have nz0 := HNb.out.fz 0; have nz1 := HNb.out.fz 1; have nl := HNb.out.lt) | skip
      try simp only [Act.put, List.setIfInBounds_toArray, List.set_cons_zero, List.set_cons_succ]
      refine wpAnyH_take (i := 11) (v := ?_) (by first | (simp only [List.getElem?_toArray, List.getElem?_cons_succ, List.getElem?_cons_zero] <;> rfl) | rfl) (by kernel_rfl) (by kernel_rfl) (by kernel_rfl) (by exact fun _ _ _ h => h) (Or.inl ⟨by rfl, ?_⟩) hHeld3 ?_
      rotate_left 1
      ·intro w hSw
       try dsimp only at hSw
       (go_simp) <;> (with_reducible rfl)
      try simp only [Act.put, List.setIfInBounds_toArray, List.set_cons_zero, List.set_cons_succ]
      refine wpAnyH_ready (rs := [13]) (by kernel_rfl) (by simp) ?_
      refine AllReadyH.cons (by first | (simp only [List.getElem?_toArray, List.getElem?_cons_succ, List.getElem?_cons_zero] <;> rfl) | rfl) (fun K hK => ?_) ?_
      ·go_simp
       refine hK.out _ _ ?_ (fun hHeld4 => ?_)
       ·first | exact ⟨cell_below hHeld2.1 (oneb _ _), cell_below hHeld2.2 (oneb _ _)⟩ | exact ⟨cell_grow hHeld3.1 (set2_grown _ _ _ _) (HBc.out.tyb.ne HNb.out.tyb (by decide)), cell_grow hHeld3.2 (set2_grown _ _ _ _) (by omega)⟩
       clear hK K
       try simp only [Act.put, List.setIfInBounds_toArray, List.set_cons_zero, List.set_cons_succ]
       refine wpAnyH_done (by kernel_rfl) ?_ _
       go_wp2_with fail
       go_meet
       case rel =>
        first | exact ⟨_, rfl, hgl, Bk.new _ _ _ rfl, HRp.out.alloc _, HKp.out.trans (KT.below (oneb _ _)), HBp.out.alloc _⟩ | exact ⟨_, rfl, hgl, (HNb.out.set 0 (.string ⟨t.t.toArray⟩)).set 1 (.int .u16 (rtV (fl (tkS 3 s) t 203) : Nat)), HRc.out.otherB (set2_grown _ _ _ _) HNb.out.tyb hgl (by decide) (by decide) (by decide) HNr.out HNq.out, HKc.out.trans (KT.grown (set2_grown _ _ _ _) HNb.out.tyb (by decide)), HBc.out.grown (set2_grown _ _ _ _) (by intro e; exact HBc.out.tyb.ne HNb.out.tyb (by decide) (Option.some.inj e))⟩
      exact AllReadyH.nil
     exact AllReadyH.nil
    exact AllReadyH.nil
   exact AllReadyH.nil
  case rest =>
   obtain ⟨g, rfl, hgb, HNb, HR4, HK4, HB4⟩ := hcut
   rename World => w5
   obtain ⟨A2, c2, e2, hc2, htr2, _⟩ := own_typed HR4.out.p
   have hq6 : w5.cell? ⟨b, 6, none⟩ = some T.bv := by obtain ⟨_, _, hq, _⟩ := HR4.out.rb.blk; exact hq.cell 6 rfl
   rw [e2] at hq6
   obtain ⟨n2, hn2⟩ : ∃ n2, n2 = T.pt.length := ⟨_, rfl⟩
   rw [← hn2] at hq6 htr2 hn hc2
   have hct := Lib.hid (containsPath T.pt A2 n2 c2 g t.t w5 hn2.symm htr2.rd (HNb.out.cell 0 rfl) HNb.out.lt (by omega))
   have HN2 := Lib.hid hn2
   have hbl5 := HR4.out.rb.lt
   clear e2 htr2 hn2
   go_wp2_with fail
   refine hct.out.mono ?_
   clear hct
   rintro e w6 ⟨rfl, hb6⟩
   have HN6 := Lib.hid (HNb.out.kept hb6)
   have HR6 := Lib.hid (HR4.out.kept hb6)
   have HK6 := Lib.hid (HK4.out.trans (KT.below hb6))
   have HB6 := Lib.hid (HB4.out.kept hb6)
   clear hb6 hq6
   cases hany : (T.pt.any fun y => decide (y.1 = t.t)) with
   | true =>
    have HS := Lib.hid (show ptS T.hd T.pt s = fl (rtS (T.hd &&& 2047) (fl (tkS 3 s) t 203)) t 206 by unfold ptS; rw [← HT.out, hany, if_pos rfl, HP.out])
    clear hany
    have r0 := HB6.out.cell 0 rfl
    have r1 := HB6.out.cell 1 rfl
    have r2 := HB6.out.cell 2 rfl
    have r3 := HB6.out.cell 3 rfl
    have r4 := HB6.out.cell 4 rfl
    have rl := HB6.out.lt
    go_wp2_with fail
    refine (fail_any' b (T.c pb) (rtS (T.hd &&& 2047) (fl (tkS 3 s) t 203)) t 206 _ HR6.out.rb).mono ?_
    rintro e w7 ⟨rfl, hr7, hg7⟩
    have hs7 := HR6.out.small hr7 hg7 (fl_sub (Sub.refl _) _ _)
    have hx := HN6.out.grown hg7 (by intro e; have := Option.some.inj e; omega)
    have hR4 := hs7.1
    have hK4 := HK6.out.trans hs7.2
    have hl4 := hx.lt
    clear hr7 hg7 hs7 r0 r1 r2 r3 r4 rl
    go_upto_region 6 with fail
    have hRsz := Lib.hid hR4.sz
    rw [HN2.out] at hn
    refine wp_region_any (by kernel_rfl) ?_
    change wpAny _ _ _ _ _ _ _ (World.drew _)
    have hxv := hx.drew
    have hRv := hR4.kept (Below.refl w7.heap.size w7).drew
    have hKv := hK4.trans (KT.drew w7)
    have hlv : g < w7.drew.heap.size := hl4
    generalize w7.drew = v0 at hxv hRv hKv hlv  ⊢
    have hb5 := oneb v0 (.cells #[.string ⟨t.t.toArray⟩, .int .u16 (rtV (fl (tkS 3 s) t 203) : Nat)] 72)
    have HR5 := Lib.hid (hRv.kept hb5)
    have HK5 := Lib.hid (hKv.trans (KT.below hb5))
    have hB5 := Bk.new v0 72 #[.string ⟨t.t.toArray⟩, .int .u16 (rtV (fl (tkS 3 s) t 203) : Nat)] (l := [.string ⟨t.t.toArray⟩, .int .u16 (rtV (fl (tkS 3 s) t 203) : Nat)]) rfl
    obtain ⟨v', wb, hrun, ho, hg⟩ := row_run (t := 32) (ty := 32) infoPB rfl (by decide) Tryz.underlying32 (by decide) HR5.out.p hB5 rfl (by intro u hu; simp at hu; rcases hu with rfl | rfl <;> rfl) (by omega) (by have := HR5.out.rb.lt; omega)
    obtain ⟨A7, c7, hv7, _⟩ := own_typed ho
    subst hv7
    have hob := HR5.out.rb.app HR5.out.p hg
    obtain ⟨Al, capl, hbl, _⟩ := hob.blk
    have z4 := hbl.cell 6 rfl
    have zf := hbl.fz 6
    have zl := hbl.lt
    have HO := Lib.hid ho
    have HG := Lib.hid hg
    have HRun := Lib.hid hrun
    have hb4 : v0.cell? ⟨b, 6, none⟩ = some T.bv := by obtain ⟨_, _, hq, _⟩ := hRv.rb.blk; exact hq.cell 6 rfl
    have hbl4 := hRv.rb.lt
    have x0 := hxv.cell 0 rfl
    have x1 := hxv.cell 1 rfl
    have xl := hxv.lt
    clear hxv hRv hKv hb5 hB5 hrun ho hg hob hbl hx hR4 hK4  
    refine wpAny_take (i := 0) (v := ?_) rfl (by kernel_rfl) (by kernel_rfl) (by kernel_rfl) (fun _ _ _ h => h) (Or.inl ⟨by rfl, ?_⟩) ?_
    rotate_left 1
    ·intro w
     (go_simp) <;> (with_reducible rfl)
    refine wpAny_take (i := 1) (v := ?_) rfl (by kernel_rfl) (by kernel_rfl) (by kernel_rfl) (fun _ _ _ h => h) (Or.inl ⟨by rfl, ?_⟩) ?_
    rotate_left 1
    ·intro w
     (go_simp) <;> (with_reducible rfl)
    refine wpAny_take (i := 2) (v := ?_) rfl (by kernel_rfl) (by kernel_rfl) (by kernel_rfl) (fun _ _ _ h => h) (Or.inl ⟨by rfl, ?_⟩) ?_
    rotate_left 1
    ·intro w
     (go_simp) <;> (with_reducible rfl)
    refine wpAny_take (i := 3) (v := ?_) rfl (by kernel_rfl) (by kernel_rfl) (by kernel_rfl) (fun _ _ _ h => h) (Or.inl ⟨by rfl, ?_⟩) ?_
    rotate_left 1
    ·intro w
     (go_simp) <;> (with_reducible rfl)
    refine wpAny_take (i := 4) (v := ?_) rfl (by kernel_rfl) (by kernel_rfl) (by kernel_rfl) (fun _ _ _ h => h) (Or.inl ⟨by rfl, ?_⟩) ?_
    rotate_left 1
    ·intro w
     (go_simp) <;> (with_reducible rfl)
    refine wpAny_ready (rs := [5, 6]) (by kernel_rfl) (by simp) ?_
    refine AllReady.cons rfl (fun K hK => ?_) ?_
    ·skip
     go_simp
     refine hK _ _ ?_
     clear hK K
     refine wpAny_ready (rs := [6]) (by kernel_rfl) (by simp) ?_
     refine AllReady.cons rfl (fun K hK => ?_) ?_
     ·skip
      go_simp
      refine hK _ _ ?_
      clear hK K
      refine wpAny_ready (rs := [7]) (by kernel_rfl) (by simp) ?_
      refine AllReady.cons rfl (fun K hK => ?_) ?_
      ·skip
       go_simp
       refine hK _ _ ?_
       clear hK K
       refine wpAny_ready (rs := [8]) (by kernel_rfl) (by simp) ?_
       refine AllReady.cons rfl (fun K hK => ?_) ?_
       ·skip
        rw [if_pos (by rfl)]
        refine op_append (.tmp 40) (.tmp 42) 32 rfl _ _ _ wb rfl rfl HRun.out ?_
        refine hK _ _ ?_
        clear hK K
        refine wpAny_take (i := 9) (v := ?_) rfl (by kernel_rfl) (by kernel_rfl) (by kernel_rfl) (fun _ _ _ h => h) (Or.inl ⟨by rfl, ?_⟩) ?_
        rotate_left 1
        ·intro w
         (go_simp) <;> (with_reducible rfl)
        refine wpAny_take (i := 10) (v := ?_) rfl (by kernel_rfl) (by kernel_rfl) (by kernel_rfl) (fun _ _ _ h => h) (Or.inl ⟨by rfl, ?_⟩) ?_
        rotate_left 1
        ·intro w
         (go_simp) <;> (with_reducible rfl)
        refine wpAny_take (i := 11) (v := ?_) rfl (by kernel_rfl) (by kernel_rfl) (by kernel_rfl) (fun _ _ _ h => h) (Or.inl ⟨by rfl, ?_⟩) ?_
        rotate_left 1
        ·intro w
         (go_simp) <;> (with_reducible rfl)
        refine wpAny_ready (rs := [12]) (by kernel_rfl) (by simp) ?_
        refine AllReady.cons rfl (fun K hK => ?_) ?_
        ·skip
         go_simp
         refine hK _ _ ?_
         clear hK K
         refine wpAny_done (by kernel_rfl) ?_ _
         go_wp2_with fail
         go_end0
         have had := HR5.out.addPath (t.t, rtV (fl (tkS 3 s) t 203)) HO.out HG.out (sz_path hRsz.out htl (rtV_lt _))
         exact body_of (p' := { T.m with paths := T.m.paths ++ [(t.t, rtV (fl (tkS 3 s) t 203))] }) (s' := fl (rtS (T.hd &&& 2047) (fl (tkS 3 s) t 203)) t 206) (by rw [← HT.out, HP.out]) HS.out rfl rfl had.1 (HK5.out.trans had.2)
        exact AllReady.nil
       exact AllReady.nil
      exact AllReady.nil
     exact AllReady.nil
    refine AllReady.cons rfl (fun K hK => ?_) ?_
    ·skip
     go_simp
     refine hK _ _ ?_
     clear hK K
     refine wpAny_ready (rs := [5, 7]) (by kernel_rfl) (by simp) ?_
     refine AllReady.cons rfl (fun K hK => ?_) ?_
     ·skip
      go_simp
      refine hK _ _ ?_
      clear hK K
      refine wpAny_ready (rs := [7]) (by kernel_rfl) (by simp) ?_
      refine AllReady.cons rfl (fun K hK => ?_) ?_
      ·skip
       go_simp
       refine hK _ _ ?_
       clear hK K
       refine wpAny_ready (rs := [8]) (by kernel_rfl) (by simp) ?_
       refine AllReady.cons rfl (fun K hK => ?_) ?_
       ·skip
        rw [if_pos (by rfl)]
        refine op_append (.tmp 40) (.tmp 42) 32 rfl _ _ _ wb rfl rfl HRun.out ?_
        refine hK _ _ ?_
        clear hK K
        refine wpAny_take (i := 9) (v := ?_) rfl (by kernel_rfl) (by kernel_rfl) (by kernel_rfl) (fun _ _ _ h => h) (Or.inl ⟨by rfl, ?_⟩) ?_
        rotate_left 1
        ·intro w
         (go_simp) <;> (with_reducible rfl)
        refine wpAny_take (i := 10) (v := ?_) rfl (by kernel_rfl) (by kernel_rfl) (by kernel_rfl) (fun _ _ _ h => h) (Or.inl ⟨by rfl, ?_⟩) ?_
        rotate_left 1
        ·intro w
         (go_simp) <;> (with_reducible rfl)
        refine wpAny_take (i := 11) (v := ?_) rfl (by kernel_rfl) (by kernel_rfl) (by kernel_rfl) (fun _ _ _ h => h) (Or.inl ⟨by rfl, ?_⟩) ?_
        rotate_left 1
        ·intro w
         (go_simp) <;> (with_reducible rfl)
        refine wpAny_ready (rs := [12]) (by kernel_rfl) (by simp) ?_
        refine AllReady.cons rfl (fun K hK => ?_) ?_
        ·skip
         go_simp
         refine hK _ _ ?_
         clear hK K
         refine wpAny_done (by kernel_rfl) ?_ _
         go_wp2_with fail
         go_end0
         have had := HR5.out.addPath (t.t, rtV (fl (tkS 3 s) t 203)) HO.out HG.out (sz_path hRsz.out htl (rtV_lt _))
         exact body_of (p' := { T.m with paths := T.m.paths ++ [(t.t, rtV (fl (tkS 3 s) t 203))] }) (s' := fl (rtS (T.hd &&& 2047) (fl (tkS 3 s) t 203)) t 206) (by rw [← HT.out, HP.out]) HS.out rfl rfl had.1 (HK5.out.trans had.2)
        exact AllReady.nil
       exact AllReady.nil
      exact AllReady.nil
     refine AllReady.cons rfl (fun K hK => ?_) ?_
     ·skip
      go_simp
      refine hK _ _ ?_
      clear hK K
      refine wpAny_ready (rs := [5]) (by kernel_rfl) (by simp) ?_
      refine AllReady.cons rfl (fun K hK => ?_) ?_
      ·skip
       go_simp
       refine hK _ _ ?_
       clear hK K
       refine wpAny_ready (rs := [8]) (by kernel_rfl) (by simp) ?_
       refine AllReady.cons rfl (fun K hK => ?_) ?_
       ·skip
        rw [if_pos (by rfl)]
        refine op_append (.tmp 40) (.tmp 42) 32 rfl _ _ _ wb rfl rfl HRun.out ?_
        refine hK _ _ ?_
        clear hK K
        refine wpAny_take (i := 9) (v := ?_) rfl (by kernel_rfl) (by kernel_rfl) (by kernel_rfl) (fun _ _ _ h => h) (Or.inl ⟨by rfl, ?_⟩) ?_
        rotate_left 1
        ·intro w
         (go_simp) <;> (with_reducible rfl)
        refine wpAny_take (i := 10) (v := ?_) rfl (by kernel_rfl) (by kernel_rfl) (by kernel_rfl) (fun _ _ _ h => h) (Or.inl ⟨by rfl, ?_⟩) ?_
        rotate_left 1
        ·intro w
         (go_simp) <;> (with_reducible rfl)
        refine wpAny_take (i := 11) (v := ?_) rfl (by kernel_rfl) (by kernel_rfl) (by kernel_rfl) (fun _ _ _ h => h) (Or.inl ⟨by rfl, ?_⟩) ?_
        rotate_left 1
        ·intro w
         (go_simp) <;> (with_reducible rfl)
        refine wpAny_ready (rs := [12]) (by kernel_rfl) (by simp) ?_
        refine AllReady.cons rfl (fun K hK => ?_) ?_
        ·skip
         go_simp
         refine hK _ _ ?_
         clear hK K
         refine wpAny_done (by kernel_rfl) ?_ _
         go_wp2_with fail
         go_end0
         have had := HR5.out.addPath (t.t, rtV (fl (tkS 3 s) t 203)) HO.out HG.out (sz_path hRsz.out htl (rtV_lt _))
         exact body_of (p' := { T.m with paths := T.m.paths ++ [(t.t, rtV (fl (tkS 3 s) t 203))] }) (s' := fl (rtS (T.hd &&& 2047) (fl (tkS 3 s) t 203)) t 206) (by rw [← HT.out, HP.out]) HS.out rfl rfl had.1 (HK5.out.trans had.2)
        exact AllReady.nil
       exact AllReady.nil
      exact AllReady.nil
     exact AllReady.nil
    exact AllReady.nil
   | false =>
    have HS := Lib.hid (show ptS T.hd T.pt s = rtS (T.hd &&& 2047) (fl (tkS 3 s) t 203) by unfold ptS; rw [← HT.out, hany, if_neg (by simp), HP.out])
    clear hany
    have hx := HN6.out
    have hR4 := HR6.out
    have hK4 := HK6.out
    have hl4 := hx.lt
    go_upto_region 6 with fail
    have hRsz := Lib.hid hR4.sz
    rw [HN2.out] at hn
    refine wp_region_any (by kernel_rfl) ?_
    change wpAny _ _ _ _ _ _ _ (World.drew _)
    have hxv := hx.drew
    have hRv := hR4.kept (Below.refl w6.heap.size w6).drew
    have hKv := hK4.trans (KT.drew w6)
    have hlv : g < w6.drew.heap.size := hl4
    generalize w6.drew = v0 at hxv hRv hKv hlv  ⊢
    have hb5 := oneb v0 (.cells #[.string ⟨t.t.toArray⟩, .int .u16 (rtV (fl (tkS 3 s) t 203) : Nat)] 72)
    have HR5 := Lib.hid (hRv.kept hb5)
    have HK5 := Lib.hid (hKv.trans (KT.below hb5))
    have hB5 := Bk.new v0 72 #[.string ⟨t.t.toArray⟩, .int .u16 (rtV (fl (tkS 3 s) t 203) : Nat)] (l := [.string ⟨t.t.toArray⟩, .int .u16 (rtV (fl (tkS 3 s) t 203) : Nat)]) rfl
    obtain ⟨v', wb, hrun, ho, hg⟩ := row_run (t := 32) (ty := 32) infoPB rfl (by decide) Tryz.underlying32 (by decide) HR5.out.p hB5 rfl (by intro u hu; simp at hu; rcases hu with rfl | rfl <;> rfl) (by omega) (by have := HR5.out.rb.lt; omega)
    obtain ⟨A7, c7, hv7, _⟩ := own_typed ho
    subst hv7
    have hob := HR5.out.rb.app HR5.out.p hg
    obtain ⟨Al, capl, hbl, _⟩ := hob.blk
    have z4 := hbl.cell 6 rfl
    have zf := hbl.fz 6
    have zl := hbl.lt
    have HO := Lib.hid ho
    have HG := Lib.hid hg
    have HRun := Lib.hid hrun
    have hb4 : v0.cell? ⟨b, 6, none⟩ = some T.bv := by obtain ⟨_, _, hq, _⟩ := hRv.rb.blk; exact hq.cell 6 rfl
    have hbl4 := hRv.rb.lt
    have x0 := hxv.cell 0 rfl
    have x1 := hxv.cell 1 rfl
    have xl := hxv.lt
    clear hxv hRv hKv hb5 hB5 hrun ho hg hob hbl hx hR4 hK4  
    refine wpAny_take (i := 0) (v := ?_) rfl (by kernel_rfl) (by kernel_rfl) (by kernel_rfl) (fun _ _ _ h => h) (Or.inl ⟨by rfl, ?_⟩) ?_
    rotate_left 1
    ·intro w
     (go_simp) <;> (with_reducible rfl)
    refine wpAny_take (i := 1) (v := ?_) rfl (by kernel_rfl) (by kernel_rfl) (by kernel_rfl) (fun _ _ _ h => h) (Or.inl ⟨by rfl, ?_⟩) ?_
    rotate_left 1
    ·intro w
     (go_simp) <;> (with_reducible rfl)
    refine wpAny_take (i := 2) (v := ?_) rfl (by kernel_rfl) (by kernel_rfl) (by kernel_rfl) (fun _ _ _ h => h) (Or.inl ⟨by rfl, ?_⟩) ?_
    rotate_left 1
    ·intro w
     (go_simp) <;> (with_reducible rfl)
    refine wpAny_take (i := 3) (v := ?_) rfl (by kernel_rfl) (by kernel_rfl) (by kernel_rfl) (fun _ _ _ h => h) (Or.inl ⟨by rfl, ?_⟩) ?_
    rotate_left 1
    ·intro w
     (go_simp) <;> (with_reducible rfl)
    refine wpAny_take (i := 4) (v := ?_) rfl (by kernel_rfl) (by kernel_rfl) (by kernel_rfl) (fun _ _ _ h => h) (Or.inl ⟨by rfl, ?_⟩) ?_
    rotate_left 1
    ·intro w
     (go_simp) <;> (with_reducible rfl)
    refine wpAny_ready (rs := [5, 6]) (by kernel_rfl) (by simp) ?_
    refine AllReady.cons rfl (fun K hK => ?_) ?_
    ·skip
     go_simp
     refine hK _ _ ?_
     clear hK K
     refine wpAny_ready (rs := [6]) (by kernel_rfl) (by simp) ?_
     refine AllReady.cons rfl (fun K hK => ?_) ?_
     ·skip
      go_simp
      refine hK _ _ ?_
      clear hK K
      refine wpAny_ready (rs := [7]) (by kernel_rfl) (by simp) ?_
      refine AllReady.cons rfl (fun K hK => ?_) ?_
      ·skip
       go_simp
       refine hK _ _ ?_
       clear hK K
       refine wpAny_ready (rs := [8]) (by kernel_rfl) (by simp) ?_
       refine AllReady.cons rfl (fun K hK => ?_) ?_
       ·skip
        rw [if_pos (by rfl)]
        refine op_append (.tmp 40) (.tmp 42) 32 rfl _ _ _ wb rfl rfl HRun.out ?_
        refine hK _ _ ?_
        clear hK K
        refine wpAny_take (i := 9) (v := ?_) rfl (by kernel_rfl) (by kernel_rfl) (by kernel_rfl) (fun _ _ _ h => h) (Or.inl ⟨by rfl, ?_⟩) ?_
        rotate_left 1
        ·intro w
         (go_simp) <;> (with_reducible rfl)
        refine wpAny_take (i := 10) (v := ?_) rfl (by kernel_rfl) (by kernel_rfl) (by kernel_rfl) (fun _ _ _ h => h) (Or.inl ⟨by rfl, ?_⟩) ?_
        rotate_left 1
        ·intro w
         (go_simp) <;> (with_reducible rfl)
        refine wpAny_take (i := 11) (v := ?_) rfl (by kernel_rfl) (by kernel_rfl) (by kernel_rfl) (fun _ _ _ h => h) (Or.inl ⟨by rfl, ?_⟩) ?_
        rotate_left 1
        ·intro w
         (go_simp) <;> (with_reducible rfl)
        refine wpAny_ready (rs := [12]) (by kernel_rfl) (by simp) ?_
        refine AllReady.cons rfl (fun K hK => ?_) ?_
        ·skip
         go_simp
         refine hK _ _ ?_
         clear hK K
         refine wpAny_done (by kernel_rfl) ?_ _
         go_wp2_with fail
         go_end0
         have had := HR5.out.addPath (t.t, rtV (fl (tkS 3 s) t 203)) HO.out HG.out (sz_path hRsz.out htl (rtV_lt _))
         exact body_of (p' := { T.m with paths := T.m.paths ++ [(t.t, rtV (fl (tkS 3 s) t 203))] }) (s' := rtS (T.hd &&& 2047) (fl (tkS 3 s) t 203)) (by rw [← HT.out, HP.out]) HS.out rfl rfl had.1 (HK5.out.trans had.2)
        exact AllReady.nil
       exact AllReady.nil
      exact AllReady.nil
     exact AllReady.nil
    refine AllReady.cons rfl (fun K hK => ?_) ?_
    ·skip
     go_simp
     refine hK _ _ ?_
     clear hK K
     refine wpAny_ready (rs := [5, 7]) (by kernel_rfl) (by simp) ?_
     refine AllReady.cons rfl (fun K hK => ?_) ?_
     ·skip
      go_simp
      refine hK _ _ ?_
      clear hK K
      refine wpAny_ready (rs := [7]) (by kernel_rfl) (by simp) ?_
      refine AllReady.cons rfl (fun K hK => ?_) ?_
      ·skip
       go_simp
       refine hK _ _ ?_
       clear hK K
       refine wpAny_ready (rs := [8]) (by kernel_rfl) (by simp) ?_
       refine AllReady.cons rfl (fun K hK => ?_) ?_
       ·skip
        rw [if_pos (by rfl)]
        refine op_append (.tmp 40) (.tmp 42) 32 rfl _ _ _ wb rfl rfl HRun.out ?_
        refine hK _ _ ?_
        clear hK K
        refine wpAny_take (i := 9) (v := ?_) rfl (by kernel_rfl) (by kernel_rfl) (by kernel_rfl) (fun _ _ _ h => h) (Or.inl ⟨by rfl, ?_⟩) ?_
        rotate_left 1
        ·intro w
         (go_simp) <;> (with_reducible rfl)
        refine wpAny_take (i := 10) (v := ?_) rfl (by kernel_rfl) (by kernel_rfl) (by kernel_rfl) (fun _ _ _ h => h) (Or.inl ⟨by rfl, ?_⟩) ?_
        rotate_left 1
        ·intro w
         (go_simp) <;> (with_reducible rfl)
        refine wpAny_take (i := 11) (v := ?_) rfl (by kernel_rfl) (by kernel_rfl) (by kernel_rfl) (fun _ _ _ h => h) (Or.inl ⟨by rfl, ?_⟩) ?_
        rotate_left 1
        ·intro w
         (go_simp) <;> (with_reducible rfl)
        refine wpAny_ready (rs := [12]) (by kernel_rfl) (by simp) ?_
        refine AllReady.cons rfl (fun K hK => ?_) ?_
        ·skip
         go_simp
         refine hK _ _ ?_
         clear hK K
         refine wpAny_done (by kernel_rfl) ?_ _
         go_wp2_with fail
         go_end0
         have had := HR5.out.addPath (t.t, rtV (fl (tkS 3 s) t 203)) HO.out HG.out (sz_path hRsz.out htl (rtV_lt _))
         exact body_of (p' := { T.m with paths := T.m.paths ++ [(t.t, rtV (fl (tkS 3 s) t 203))] }) (s' := rtS (T.hd &&& 2047) (fl (tkS 3 s) t 203)) (by rw [← HT.out, HP.out]) HS.out rfl rfl had.1 (HK5.out.trans had.2)
        exact AllReady.nil
       exact AllReady.nil
      exact AllReady.nil
     refine AllReady.cons rfl (fun K hK => ?_) ?_
     ·skip
      go_simp
      refine hK _ _ ?_
      clear hK K
      refine wpAny_ready (rs := [5]) (by kernel_rfl) (by simp) ?_
      refine AllReady.cons rfl (fun K hK => ?_) ?_
      ·skip
       go_simp
       refine hK _ _ ?_
       clear hK K
       refine wpAny_ready (rs := [8]) (by kernel_rfl) (by simp) ?_
       refine AllReady.cons rfl (fun K hK => ?_) ?_
       ·skip
        rw [if_pos (by rfl)]
        refine op_append (.tmp 40) (.tmp 42) 32 rfl _ _ _ wb rfl rfl HRun.out ?_
        refine hK _ _ ?_
        clear hK K
        refine wpAny_take (i := 9) (v := ?_) rfl (by kernel_rfl) (by kernel_rfl) (by kernel_rfl) (fun _ _ _ h => h) (Or.inl ⟨by rfl, ?_⟩) ?_
        rotate_left 1
        ·intro w
         (go_simp) <;> (with_reducible rfl)
        refine wpAny_take (i := 10) (v := ?_) rfl (by kernel_rfl) (by kernel_rfl) (by kernel_rfl) (fun _ _ _ h => h) (Or.inl ⟨by rfl, ?_⟩) ?_
        rotate_left 1
        ·intro w
         (go_simp) <;> (with_reducible rfl)
        refine wpAny_take (i := 11) (v := ?_) rfl (by kernel_rfl) (by kernel_rfl) (by kernel_rfl) (fun _ _ _ h => h) (Or.inl ⟨by rfl, ?_⟩) ?_
        rotate_left 1
        ·intro w
         (go_simp) <;> (with_reducible rfl)
        refine wpAny_ready (rs := [12]) (by kernel_rfl) (by simp) ?_
        refine AllReady.cons rfl (fun K hK => ?_) ?_
        ·skip
         go_simp
         refine hK _ _ ?_
         clear hK K
         refine wpAny_done (by kernel_rfl) ?_ _
         go_wp2_with fail
         go_end0
         have had := HR5.out.addPath (t.t, rtV (fl (tkS 3 s) t 203)) HO.out HG.out (sz_path hRsz.out htl (rtV_lt _))
         exact body_of (p' := { T.m with paths := T.m.paths ++ [(t.t, rtV (fl (tkS 3 s) t 203))] }) (s' := rtS (T.hd &&& 2047) (fl (tkS 3 s) t 203)) (by rw [← HT.out, HP.out]) HS.out rfl rfl had.1 (HK5.out.trans had.2)
        exact AllReady.nil
       exact AllReady.nil
      exact AllReady.nil
     exact AllReady.nil
    exact AllReady.nil
end Go.Proofs.YtinofjbnfmalkaaGreatDoor.Pa
