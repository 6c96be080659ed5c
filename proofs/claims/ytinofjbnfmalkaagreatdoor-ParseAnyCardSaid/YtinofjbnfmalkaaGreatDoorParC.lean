/- What answers rights, a condition: the walks. -/
import Derived.Test.YtinofjbnfmalkaaGreatDoorParA
namespace Go.Proofs.YtinofjbnfmalkaaGreatDoor.Pa
open Go.RowKit Go.WideElems
structure Pz (w : World) (b pb tb : Nat) (qa : Addr) : Prop where
  blk : Bk w pb 76 [.pointer (some ⟨tb, 0, none⟩), .pointer (some qa)]
  lt : pb < b
theorem Pz.grown {w w' : World} {b pb tb g : Nat} {qa : Addr} (h : Pz w b pb tb qa) (hg : w.grownBy w' (some g)) (hb : b ≤ g) : Pz w' b pb tb qa :=
  ⟨h.blk.grown hg (by intro e; have := Option.some.inj e; have := h.lt; omega), h.lt⟩
theorem Pz.kept {w w' : World} {b pb tb : Nat} {qa : Addr} (h : Pz w b pb tb qa) (hb : Below w.heap.size w w') : Pz w' b pb tb qa := ⟨h.blk.kept hb, h.lt⟩
theorem rparse (t : Bs) (r e : Nat) (h : Rt.pars 0 (Rt.words t) = (r, e)) (w : World) (hm : t.length ≤ maxLen) (hN : Rt.NamesAt w) (p : Addr) : Calls Tryz.prog 159 #[.pointer (some p), .string ⟨t.toArray⟩] w fun x w' =>
    x = .returned (.tuple #[.int .u16 r, .int .i64 e]) ∧ ∃ n, w' = w.drewN n :=
  (Rt.parse_any ⟨t.toArray⟩ w (by rw [Lib.size_eq]; exact hm) hN p).mono fun x w' ⟨h1, h2⟩ => ⟨by
    have h' : Rt.pars 0 (Rt.words (⟨t.toArray⟩ : ByteArray).data.toList) = (r, e) := h
    rw [h1, h'], h2⟩
theorem has_s (a b : Nat) (w : World) (ha : a < 65536) (hb : b < 65536) (bb : Bool) (h : hasS a b = bb) : Calls Tryz.prog 69 #[.int .u16 a, .int .u16 b] w fun e w' => e = .returned (.bool bb) ∧ w = w' :=
  (Rt.has_any a b w ha hb).mono fun e w' ⟨h1, h2⟩ => ⟨by rw [h1, ← h]; rfl, h2⟩
set_option maxHeartbeats 1000000 in
set_option maxRecDepth 100000 in
theorem ended_yes (b : Nat) (c : RC) (s : RS) (w : World) (h : Rb w b c s) (hk : (nx s).k = 0) (hs : s.left.length ≤ 2000000) : Calls Tryz.prog 157 #[.pointer (some ⟨b, 0, none⟩)] w fun e w' => e = .returned (.bool true) ∧ w = w' := by
  obtain ⟨xs, wr⟩ := s
  obtain ⟨A, cap, hb, hc, hr, hA⟩ := h.blk
  have hlt := hb.lt
  have q1 := hb.cell 1 rfl
  clear h hb
  cases xs with
  | nil =>
    go_enter Tryz.func157, Tryz.ntmps157
    go_wp2_with fail
    go_ret
    exact ⟨rfl, rfl⟩
  | cons x l =>
    obtain ⟨b0, o0, rfl, hbl, hcell⟩ := hr.pos (by simp)
    obtain ⟨c0, _, _, _, _⟩ := five_cells (k := 0) hcell rfl
    simp only [Nat.zero_mul, Nat.add_zero] at c0
    obtain ⟨n, hn⟩ : ∃ n, n = l.length := ⟨_, rfl⟩
    simp only [List.length_cons] at q1 hs
    rw [← hn] at q1 hs
    have hn1 : ((n + 1 : Nat) : Int) = (n : Int) + 1 := by omega
    have hz : ((n : Int) + 1 == 0) = false := by rw [beq_eq_false_iff_ne]; omega
    have hk0 : (x.k : Int) = 0 := by have : x.k = 0 := hk; omega
    clear hcell hr hk hn
    go_enter Tryz.func157, Tryz.ntmps157
    go_wp2_with fail
    go_ret
    exact ⟨rfl, rfl⟩
set_option maxHeartbeats 1000000 in
set_option maxRecDepth 100000 in
theorem ended_no (b : Nat) (c : RC) (s : RS) (w : World) (h : Rb w b c s) (hk : (nx s).k ≠ 0) (hs : s.left.length ≤ 2000000) : Calls Tryz.prog 157 #[.pointer (some ⟨b, 0, none⟩)] w fun e w' => e = .returned (.bool false) ∧ w = w' := by
  obtain ⟨xs, wr⟩ := s
  obtain ⟨A, cap, hb, hc, hr, hA⟩ := h.blk
  have hlt := hb.lt
  have q1 := hb.cell 1 rfl
  clear h hb
  cases xs with
  | nil => exact absurd rfl hk
  | cons x l =>
    obtain ⟨b0, o0, rfl, hbl, hcell⟩ := hr.pos (by simp)
    obtain ⟨c0, _, _, _, _⟩ := five_cells (k := 0) hcell rfl
    simp only [Nat.zero_mul, Nat.add_zero] at c0
    obtain ⟨n, hn⟩ : ∃ n, n = l.length := ⟨_, rfl⟩
    simp only [List.length_cons] at q1 hs
    rw [← hn] at q1 hs
    have hn1 : ((n + 1 : Nat) : Int) = (n : Int) + 1 := by omega
    have hz : ((n : Int) + 1 == 0) = false := by rw [beq_eq_false_iff_ne]; omega
    have hk0 : ((x.k : Int) == 0) = false := by rw [beq_eq_false_iff_ne]; have : x.k ≠ 0 := hk; omega
    clear hcell hr hk hn
    go_enter Tryz.func157, Tryz.ntmps157
    go_wp2_with fail
    go_ret
    exact ⟨rfl, rfl⟩
set_option maxHeartbeats 4000000 in
set_option maxRecDepth 100000 in
theorem rights_any (may pb tb : Nat) (qa : Addr) (b : Nat) (c : RC) (s : RS) (w : World) (h : Rb w b c s) (hs : In s) (hE : Ev w b) (hP : Pz w b pb tb qa) (hc : c.pv = .pointer (some ⟨pb, 0, none⟩)) (hm : may < 65536) :
    Calls Tryz.prog 134 #[.pointer (some ⟨b, 0, none⟩), .int .u16 may] w (ValR (.int .u16 (rtV s : Nat)) b c (rtS may s) w) := by
  have Hn := Lib.hid (take_any 1 b c s _ h hs.len)
  have hlt := h.lt
  have hti := hs.nx
  clear h
  obtain ⟨t, ht⟩ : ∃ t, t = nx s := ⟨_, rfl⟩
  have HT : Hid (t = nx s) := Lib.hid ht
  rw [← ht] at Hn hti
  have hn64 := hti.2.1
  have htl := hti.2.2
  have HTI := Lib.hid hti
  clear hti ht
  have HE0 := Lib.hid hE
  have HP0 := Lib.hid hP
  clear hE hP
  go_enter Tryz.func134, Tryz.ntmps134
  go_wp2_with fail
  refine Hn.out.mono ?_
  clear Hn
  rintro e w1 ⟨rfl, hr1, hg1⟩
  have HR1 := Lib.hid hr1
  have HG1 := Lib.hid hg1
  have hlt1 := hr1.lt
  clear hr1 hg1
  unfold tkV
  obtain ⟨rv, er, hre⟩ : ∃ rv er, Rt.pars 0 (Rt.words t.t) = (rv, er) := ⟨_, _, rfl⟩
  have HV1 := Lib.hid (show rtV s = rv by unfold rtV; rw [← HT.out, hre])
  have HV2 := Lib.hid (show rtE s = er by unfold rtE; rw [← HT.out, hre])
  have hrv : rv < 65536 := by have := rtV_lt s; rw [HV1.out] at this; exact this
  have HRE := Lib.hid hre
  have HE2 := Lib.hid ((HE0.out.grown HG1.out (Nat.le_refl _)).kept (oneb w1 (.cells #[.int .u8 t.k, .string ⟨t.t.toArray⟩, .int .u64 t.n, .int .i64 t.line, .int .i64 t.col] 182)))
  have HP2 := Lib.hid ((HP0.out.grown HG1.out (Nat.le_refl _)).kept (oneb w1 (.cells #[.int .u8 t.k, .string ⟨t.t.toArray⟩, .int .u64 t.n, .int .i64 t.line, .int .i64 t.col] 182)))
  have hbk := (Bk.new w1 182 #[.int .u8 t.k, .string ⟨t.t.toArray⟩, .int .u64 t.n, .int .i64 t.line, .int .i64 t.col] (l := [.int .u8 t.k, .string ⟨t.t.toArray⟩, .int .u64 t.n, .int .i64 t.line, .int .i64 t.col]) rfl)
  have HR2 := Lib.hid (HR1.out.alloc (.cells #[.int .u8 t.k, .string ⟨t.t.toArray⟩, .int .u64 t.n, .int .i64 t.line, .int .i64 t.col] 182))
  have HG2 := Lib.hid (grow_al HG1.out (.cells #[.int .u8 t.k, .string ⟨t.t.toArray⟩, .int .u64 t.n, .int .i64 t.line, .int .i64 t.col] 182))
  clear hre
  go_upto_region 2 with fail
  generalize w1.alloc _ = w2 at hbk HE2 HP2 HR2 HG2 ⊢
  have HBK := Lib.hid hbk
  have r1 := hbk.cell 1 rfl
  have rl := hbk.lt
  have hq0 : w2.cell? ⟨b, 0, none⟩ = some (.pointer (some ⟨pb, 0, none⟩)) := by obtain ⟨A, cap, hb, _⟩ := HR2.out.blk; rw [← hc]; exact hb.cell 0 rfl
  have hbl := HR2.out.lt
  have p1 := HP2.out.blk.cell 1 rfl
  have pl := HP2.out.blk.lt
  have hpq := fun n => rparse t.t rv er HRE.out (w2.drewN n) (by unfold maxLen; omega) (HE2.out.nm.drewN n) qa
  clear hbk hc
  go_quiet (first | (go_at_call 159; exact Calls.quiet_of (hpq _)))
  have hbd := below_drewN (Below.refl w2.heap.size w2) nq
  have HR3 := Lib.hid (HR2.out.kept hbd)
  have HG3 := Lib.hid (only_trans HG2.out (gb b hbd))
  have HBK3 := Lib.hid (HBK.out.drewN nq)
  clear hbd r1 rl hq0 hbl p1 pl hpq
  generalize w2.drewN nq = w3 at HR3 HG3 HBK3 ⊢
  by_cases he : er = 0
  · have HVr := Lib.hid (show rt1 s = tkS 1 s by unfold rt1; rw [HV2.out, if_pos he])
    have ge : ((er : Int) != 0) = false := by rw [bne_eq_false_iff_eq]; omega
    clear he
    cases hbb : hasS may rv with
    | true =>
      have HVV := Lib.hid (show rtS may s = tkS 1 s by unfold rtS; rw [HV1.out, hbb, if_pos rfl, HVr.out])
      have hhs := fun W => has_s may rv W hm hrv _ hbb
      clear hbb
      go_wp2_with fail
      refine (hhs _).mono ?_
      rintro e w9 ⟨rfl, rfl⟩
      go_wp2_with fail
      go_ret
      exact val_of (by rw [HV1.out]; rfl) HVV.out rfl HR3.out HG3.out
    | false =>
      have HVV := Lib.hid (show rtS may s = fl (tkS 1 s) t 204 by unfold rtS; rw [HV1.out, hbb, if_neg (by simp), HVr.out, HT.out])
      have hhs := fun W => has_s may rv W hm hrv _ hbb
      clear hbb
      go_wp2_with fail
      refine (hhs _).mono ?_
      rintro e w9 ⟨rfl, rfl⟩
      have r0 := HBK3.out.cell 0 rfl
      have r1 := HBK3.out.cell 1 rfl
      have r2 := HBK3.out.cell 2 rfl
      have r3 := HBK3.out.cell 3 rfl
      have r4 := HBK3.out.cell 4 rfl
      have rl := HBK3.out.lt
      go_wp2_with fail
      refine (fail_any' b c (tkS 1 s) t 204 _ HR3.out).mono ?_
      rintro e w8 ⟨rfl, hr2, hg2⟩
      have HBK3b := Lib.hid (HBK3.out.grown hg2 (by intro e; have := Option.some.inj e; omega))
      have HR3b := Lib.hid hr2
      have HG3b := Lib.hid (only_trans HG3.out hg2)
      clear hr2 hg2 r0 r1 r2 r3 r4 rl
      go_wp2_with fail
      go_ret
      exact val_of (by rw [HV1.out]; rfl) HVV.out rfl HR3b.out HG3b.out
  · have HVr := Lib.hid (show rt1 s = fl (tkS 1 s) t er by unfold rt1; rw [HV2.out, if_neg he, HT.out])
    have ge : ((er : Int) != 0) = true := by rw [bne_iff_ne]; omega
    clear he
    have r0 := HBK3.out.cell 0 rfl
    have r1 := HBK3.out.cell 1 rfl
    have r2 := HBK3.out.cell 2 rfl
    have r3 := HBK3.out.cell 3 rfl
    have r4 := HBK3.out.cell 4 rfl
    have rl := HBK3.out.lt
    go_wp2_with fail
    refine (fail_any' b c (tkS 1 s) t er _ HR3.out).mono ?_
    rintro e w4 ⟨rfl, hr2, hg2⟩
    have HBK3b := Lib.hid (HBK3.out.grown hg2 (by intro e; have := Option.some.inj e; omega))
    have HR3b := Lib.hid hr2
    have HG3b := Lib.hid (only_trans HG3.out hg2)
    clear hr2 hg2 r0 r1 r2 r3 r4 rl
    cases hbb : hasS may rv with
    | true =>
      have HVV := Lib.hid (show rtS may s = fl (tkS 1 s) t er by unfold rtS; rw [HV1.out, hbb, if_pos rfl, HVr.out])
      have hhs := fun W => has_s may rv W hm hrv _ hbb
      clear hbb
      go_wp2_with fail
      refine (hhs _).mono ?_
      rintro e w9 ⟨rfl, rfl⟩
      go_wp2_with fail
      go_ret
      exact val_of (by rw [HV1.out]; rfl) HVV.out rfl HR3b.out HG3b.out
    | false =>
      have HVV := Lib.hid (show rtS may s = fl (fl (tkS 1 s) t er) t 204 by unfold rtS; rw [HV1.out, hbb, if_neg (by simp), HVr.out, HT.out])
      have hhs := fun W => has_s may rv W hm hrv _ hbb
      clear hbb
      go_wp2_with fail
      refine (hhs _).mono ?_
      rintro e w9 ⟨rfl, rfl⟩
      have r0 := HBK3b.out.cell 0 rfl
      have r1 := HBK3b.out.cell 1 rfl
      have r2 := HBK3b.out.cell 2 rfl
      have r3 := HBK3b.out.cell 3 rfl
      have r4 := HBK3b.out.cell 4 rfl
      have rl := HBK3b.out.lt
      go_wp2_with fail
      refine (fail_any' b c (fl (tkS 1 s) t er) t 204 _ HR3b.out).mono ?_
      rintro e w8 ⟨rfl, hr2, hg2⟩
      have HBK3bb := Lib.hid (HBK3b.out.grown hg2 (by intro e; have := Option.some.inj e; omega))
      have HR3bb := Lib.hid hr2
      have HG3bb := Lib.hid (only_trans HG3b.out hg2)
      clear hr2 hg2 r0 r1 r2 r3 r4 rl
      go_wp2_with fail
      go_ret
      exact val_of (by rw [HV1.out]; rfl) HVV.out rfl HR3bb.out HG3bb.out
end Go.Proofs.YtinofjbnfmalkaaGreatDoor.Pa
