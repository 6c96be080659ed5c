/- What answers a name, an action: the walks. -/
import Derived.Test.YtinofjbnfmalkaaGreatDoorParS
import Derived.Test.YtinofjbnfmalkaaGreatDoorGq
import Derived.Test.YtinofjbnfmalkaaGreatDoorGr
import Derived.BigQuiet
namespace Go.Proofs.YtinofjbnfmalkaaGreatDoor.Pa
open Go.RowKit Go.WideElems
theorem comma_in (l : Bs) : decide (0 ≤ Lib.indexByte l 44) = decide ((44 : UInt8) ∈ l) := by
  by_cases h : (44 : UInt8) ∈ l
  · obtain ⟨a, r, rfl, ha⟩ := List.eq_append_cons_of_mem h
    rw [decide_eq_true h, Rt.indexByte_hit a r ha, decide_eq_true (by omega)]
  · rw [decide_eq_false h, Rt.indexByte_miss _ h]; rfl
theorem comma_any (t : Bs) (bb : Bool) (h : decide ((44 : UInt8) ∈ t) = bb) (w : World) : Calls Tryz.prog 130 #[.string ⟨t.toArray⟩, .string ⟨#[44]⟩] w fun e w' => e = .returned (.bool bb) ∧ w = w' :=
  (Tryz.strings_Contains_one ⟨t.toArray⟩ 44 w).mono fun e w' ⟨he, hw⟩ => ⟨by rw [he]; congr 2; exact (comma_in t).trans h, hw.symm⟩
theorem gb {w w' : World} (b : Nat) (h : Below w.heap.size w w') : w.grownBy w' (some b) := ⟨h.os, h.tape, h.output, h.size, fun i hi _ => h.block i hi⟩
theorem clone_any (s : ByteArray) (w : World) (h : s.size ≤ 281474976710656) : Calls Tryz.prog 100 #[.string s] w fun e w' => e = .returned (.string s) ∧ Below w.heap.size w w' := by
  go_enter Tryz.func100, Tryz.ntmps100
  go_wp2_with fail
  refine (Tryz.stringslite_Clone s _ h).mono ?_
  rintro e w1 ⟨rfl, hb⟩
  go_wp2_with fail
  go_ret
  exact ⟨rfl, hb⟩
set_option maxHeartbeats 4000000 in
set_option maxRecDepth 100000 in
theorem name_any (b : Nat) (c : RC) (s : RS) (w : World) (h : Rb w b c s) (hs : s.left.length ≤ 2000000) :
    Calls Tryz.prog 99 #[.pointer (some ⟨b, 0, none⟩)] w (TokR (nx s) b c (nmS s) w) := by
  have hlt := h.lt
  have Hn := Lib.hid (take_any 1 b c s _ (h.alloc (.cells #[.int .u8 0, .string ByteArray.empty, .int .u64 0, .int .i64 0, .int .i64 0] 182)) hs)
  have hbk := Bk.new w 182 #[.int .u8 0, .string ByteArray.empty, .int .u64 0, .int .i64 0, .int .i64 0] (l := [.int .u8 0, .string ByteArray.empty, .int .u64 0, .int .i64 0, .int .i64 0]) rfl
  clear h
  obtain ⟨t, ht⟩ : ∃ t, t = nx s := ⟨_, rfl⟩
  rw [← ht] at Hn ⊢
  go_enter Tryz.func99, Tryz.ntmps99
  go_wp2_with fail
  refine Hn.out.mono ?_
  clear Hn
  rintro e w1 ⟨rfl, hr1, hg1⟩
  have hbk1 := hbk.grown hg1 (by intro e; have := Option.some.inj e; omega)
  have q0 := hbk1.cell 0 rfl
  have q1 := hbk1.cell 1 rfl
  have q2 := hbk1.cell 2 rfl
  have q3 := hbk1.cell 3 rfl
  have q4 := hbk1.cell 4 rfl
  have qz0 := hbk1.fz 0
  have qz1 := hbk1.fz 1
  have qz2 := hbk1.fz 2
  have qz3 := hbk1.fz 3
  have qz4 := hbk1.fz 4
  have ql := hbk1.lt
  have HR1 := Lib.hid hr1
  have HG1 := Lib.hid (grow_in _ hg1)
  have hlt1 := hr1.lt
  have HBK := Lib.hid hbk1
  clear hr1 hg1 hbk hbk1
  unfold tkV
  by_cases hk : (44 : UInt8) ∈ t.t
  · have HV := Lib.hid (show nmS s = fl (tkS 1 s) t 203 by unfold nmS; rw [if_pos (by rw [← ht]; exact hk), ← ht])
    have g0 := Lib.hid (decide_eq_true hk)
    clear hk ht
    go_wp2_with fail
    refine (comma_any t.t true g0.out _).mono ?_
    rintro e w' ⟨rfl, rfl⟩
    go_wp2_with fail
    refine (fail_any' b c (tkS 1 s) t 203 _ (HR1.out.alloc _)).mono ?_
    rintro e w2 ⟨rfl, hr2, hg2⟩
    have hbk2 := (HBK.out.alloc (.cells #[.int .u8 t.k, .string ⟨t.t.toArray⟩, .int .u64 t.n, .int .i64 t.line, .int .i64 t.col] 182)).grown hg2 (by intro e; have := Option.some.inj e; omega)
    have htk2 := (Bk.new w1 182 #[.int .u8 t.k, .string ⟨t.t.toArray⟩, .int .u64 t.n, .int .i64 t.line, .int .i64 t.col] (l := [.int .u8 t.k, .string ⟨t.t.toArray⟩, .int .u64 t.n, .int .i64 t.line, .int .i64 t.col]) rfl).grown hg2 (by intro e; have := Option.some.inj e; omega)
    clear q0 q1 q2 q3 q4 qz0 qz1 qz2 qz3 qz4 ql
    have q0 := hbk2.cell 0 rfl
    have q1 := hbk2.cell 1 rfl
    have q2 := hbk2.cell 2 rfl
    have q3 := hbk2.cell 3 rfl
    have q4 := hbk2.cell 4 rfl
    have qz0 := hbk2.fz 0
    have qz1 := hbk2.fz 1
    have qz2 := hbk2.fz 2
    have qz3 := hbk2.fz 3
    have qz4 := hbk2.fz 4
    have ql := hbk2.lt
    have r0 := htk2.cell 0 rfl
    have r1 := htk2.cell 1 rfl
    have r2 := htk2.cell 2 rfl
    have r3 := htk2.cell 3 rfl
    have r4 := htk2.cell 4 rfl
    have rl := htk2.lt
    have HR2 := Lib.hid hr2
    have HG2 := Lib.hid (only_trans HG1.out (grow_in _ hg2))
    clear hr2 hg2 hbk2 htk2
    go_wp2_with fail
    have hend := fin5 HR2.out HG2.out hlt (Nat.le_refl _) (.int .u8 t.k) (.string ⟨t.t.toArray⟩) (.int .u64 t.n) (.int .i64 t.line) (.int .i64 t.col)
    refine bodyPost_ret (v := tkV t) (by simp [results, Tryz.results99, go_sem, tkV, q0, q1, q2, q3, q4]) rfl ?_
    exact tok_of rfl HV.out rfl hend.1 hend.2
  · have HV := Lib.hid (show nmS s = tkS 1 s by unfold nmS; rw [if_neg (by rw [← ht]; exact hk)])
    have g0 := Lib.hid (decide_eq_false hk)
    clear hk ht
    go_wp2_with fail
    refine (comma_any t.t false g0.out _).mono ?_
    rintro e w' ⟨rfl, rfl⟩
    go_wp2_with fail
    have hend := fin5 HR1.out HG1.out hlt (Nat.le_refl _) (.int .u8 t.k) (.string ⟨t.t.toArray⟩) (.int .u64 t.n) (.int .i64 t.line) (.int .i64 t.col)
    refine bodyPost_ret (v := tkV t) (by simp [results, Tryz.results99, go_sem, tkV, q0, q1, q2, q3, q4, ql]) rfl ?_
    exact tok_of rfl HV.out rfl (hend.1.alloc _) (grow_al hend.2 _)
set_option maxHeartbeats 4000000 in
set_option maxRecDepth 100000 in
theorem ownName_any (b : Nat) (c : RC) (s : RS) (w : World) (h : Rb w b c s) (hs : In s) :
    Calls Tryz.prog 76 #[.pointer (some ⟨b, 0, none⟩)] w (ValR (.string ⟨(nx s).t.toArray⟩) b c (owS s) w) := by
  have Hn := Lib.hid (name_any b c s _ h hs.len)
  have hlt := h.lt
  have hti := hs.nx
  clear h
  obtain ⟨t, ht⟩ : ∃ t, t = nx s := ⟨_, rfl⟩
  have HT : Hid (t = nx s) := Lib.hid ht
  rw [← ht] at Hn hti
  have hn64 := hti.2.1
  have htl := hti.2.2
  have HTI := Lib.hid hti
  clear hti ht
  go_enter Tryz.func76, Tryz.ntmps76
  go_wp2_with fail
  refine Hn.out.mono ?_
  clear Hn
  rintro e w1 ⟨rfl, hr1, hg1⟩
  have HR1 := Lib.hid hr1
  have HG1 := Lib.hid hg1
  have hlt1 := hr1.lt
  clear hr1 hg1
  unfold tkV
  go_wp2_with fail
  refine (word_any ⟨t.t.toArray⟩ _ (by rw [Lib.size_eq]; show t.t.length ≤ _; unfold maxLen; omega)).mono ?_
  rintro e w2 ⟨⟨wb, rfl, hwb⟩, hb2⟩
  have hw := wordB_of hwb
  have htk := (Bk.new w1 182 #[.int .u8 t.k, .string ⟨t.t.toArray⟩, .int .u64 t.n, .int .i64 t.line, .int .i64 t.col] (l := [.int .u8 t.k, .string ⟨t.t.toArray⟩, .int .u64 t.n, .int .i64 t.line, .int .i64 t.col]) rfl).kept hb2
  have HTK := Lib.hid htk
  have r0 := htk.cell 0 rfl
  have r1 := htk.cell 1 rfl
  have r2 := htk.cell 2 rfl
  have r3 := htk.cell 3 rfl
  have r4 := htk.cell 4 rfl
  have rl := htk.lt
  have HR2 := Lib.hid ((HR1.out.alloc (.cells #[.int .u8 t.k, .string ⟨t.t.toArray⟩, .int .u64 t.n, .int .i64 t.line, .int .i64 t.col] 182)).kept hb2)
  have HG2 := Lib.hid (only_trans (grow_al HG1.out (.cells #[.int .u8 t.k, .string ⟨t.t.toArray⟩, .int .u64 t.n, .int .i64 t.line, .int .i64 t.col] 182)) (gb b hb2))
  have hs2 := hb2.size
  clear hb2 htk hwb
  cases wb with
  | true =>
    have HV := Lib.hid (show owS s = nmS s by unfold owS; rw [← HT.out, hw, if_pos rfl])
    clear hw
    go_wp2_with fail
    refine (clone_any _ _ (by rw [Lib.size_eq]; show t.t.length ≤ _; omega)).mono ?_
    rintro e w3 ⟨rfl, hb3⟩
    have HB3 := Lib.hid hb3
    clear hb3
    go_wp2_with fail
    go_ret
    exact val_of (by rw [← HT.out]; rfl) HV.out rfl (HR2.out.kept HB3.out) (only_trans HG2.out (gb b HB3.out))
  | false =>
    have HV := Lib.hid (show owS s = fl (nmS s) t 202 by unfold owS; rw [← HT.out, hw, if_neg (by simp)])
    clear hw
    go_wp2_with fail
    refine (fail_any' b c (nmS s) t 202 _ HR2.out).mono ?_
    rintro e w3 ⟨rfl, hr3, hg3⟩
    have htk3 := HTK.out.grown hg3 (by intro e; have := Option.some.inj e; omega)
    clear r0 r1 r2 r3 r4 rl
    have r0 := htk3.cell 0 rfl
    have r1 := htk3.cell 1 rfl
    have r2 := htk3.cell 2 rfl
    have r3 := htk3.cell 3 rfl
    have r4 := htk3.cell 4 rfl
    have rl := htk3.lt
    have HR3 := Lib.hid hr3
    have HG3 := Lib.hid (only_trans HG2.out hg3)
    clear hr3 hg3 htk3
    go_wp2_with fail
    refine (clone_any _ _ (by rw [Lib.size_eq]; show t.t.length ≤ _; omega)).mono ?_
    rintro e w4 ⟨rfl, hb4⟩
    have HB4 := Lib.hid hb4
    clear hb4
    go_wp2_with fail
    go_ret
    exact val_of (by rw [← HT.out]; rfl) HV.out rfl (HR3.out.kept HB4.out) (only_trans HG3.out (gb b HB4.out))
set_option maxHeartbeats 4000000 in
set_option maxRecDepth 100000 in
theorem errno_any (b : Nat) (c : RC) (s : RS) (w : World) (h : Rb w b c s) (hs : In s) :
    Calls Tryz.prog 101 #[.pointer (some ⟨b, 0, none⟩)] w (ValR (.int .u32 (errV (nx s).n)) b c (erS s) w) := by
  have Hn := Lib.hid (take_any 2 b c s _ h hs.len)
  have hlt := h.lt
  have hti := hs.nx
  clear h
  obtain ⟨t, ht⟩ : ∃ t, t = nx s := ⟨_, rfl⟩
  have HT : Hid (t = nx s) := Lib.hid ht
  rw [← ht] at Hn hti
  have hn64 := hti.2.1
  have htl := hti.2.2
  have HTI := Lib.hid hti
  clear hti ht
  go_enter Tryz.func101, Tryz.ntmps101
  go_wp2_with fail
  refine Hn.out.mono ?_
  clear Hn
  rintro e w1 ⟨rfl, hr1, hg1⟩
  have HR1 := Lib.hid hr1
  have HG1 := Lib.hid hg1
  have hlt1 := hr1.lt
  clear hr1 hg1
  unfold tkV
  have hfe := Lib.hid (fun e W => Rec.fail_any e W)
  by_cases h1 : t.n < 1
  · have HV := Lib.hid (show erS s = fl (tkS 2 s) t 204 by unfold erS; rw [← HT.out, if_pos (.inl h1)])
    have g1 : (t.n : Int) < 1 := by omega
    have g2 : decide ((t.n : Int) < 1) = true := decide_eq_true g1
    clear h1
    go_wp2_with fail
    refine (fail_any' b c (tkS 2 s) t 204 _ (HR1.out.alloc _)).mono ?_
    rintro e w2 ⟨rfl, hr2, hg2⟩
    have htk2 := (Bk.new w1 182 #[.int .u8 t.k, .string ⟨t.t.toArray⟩, .int .u64 t.n, .int .i64 t.line, .int .i64 t.col] (l := [.int .u8 t.k, .string ⟨t.t.toArray⟩, .int .u64 t.n, .int .i64 t.line, .int .i64 t.col]) rfl).grown hg2 (by intro e; have := Option.some.inj e; omega)
    have r0 := htk2.cell 0 rfl
    have r1 := htk2.cell 1 rfl
    have r2 := htk2.cell 2 rfl
    have r3 := htk2.cell 3 rfl
    have r4 := htk2.cell 4 rfl
    have rl := htk2.lt
    have HR2 := Lib.hid hr2
    have HG2 := Lib.hid (only_trans HG1.out (grow_in _ hg2))
    clear hr2 hg2 htk2
    go_wp2_with fail
    refine (hfe.out _ _).mono ?_
    rintro e w3 ⟨rfl, rfl⟩
    go_wp2_with fail
    go_ret
    exact val_of (by rw [← HT.out]; show Value.int .u32 (errV t.n : Nat) = _; first | rfl | (unfold errV; rw [i64_small t.n (by omega)]; rfl) | exact Eq.trans (congrArg (Value.int .u32) (show ((errV t.n : Nat) : Int) = 327680 + ((Rec.clampN (wrap64 t.n) : Nat) : Int) by unfold errV; rw [Int.natCast_add, IntWalk.i64_left]; rfl)) rfl) HV.out rfl HR2.out HG2.out
  · have g1 : ¬ (t.n : Int) < 1 := by omega
    have g2 : decide ((t.n : Int) < 1) = false := decide_eq_false g1
    by_cases h4 : 4095 < t.n
    · have HV := Lib.hid (show erS s = fl (tkS 2 s) t 204 by unfold erS; rw [← HT.out, if_pos (.inr h4)])
      have g3 : (4095 : Int) < (t.n : Int) := by omega
      have g4 : decide ((4095 : Int) < (t.n : Int)) = true := decide_eq_true g3
      clear h1 h4
      go_wp2_with fail
      refine (fail_any' b c (tkS 2 s) t 204 _ (HR1.out.alloc _)).mono ?_
      rintro e w2 ⟨rfl, hr2, hg2⟩
      have htk2 := (Bk.new w1 182 #[.int .u8 t.k, .string ⟨t.t.toArray⟩, .int .u64 t.n, .int .i64 t.line, .int .i64 t.col] (l := [.int .u8 t.k, .string ⟨t.t.toArray⟩, .int .u64 t.n, .int .i64 t.line, .int .i64 t.col]) rfl).grown hg2 (by intro e; have := Option.some.inj e; omega)
      have r0 := htk2.cell 0 rfl
      have r1 := htk2.cell 1 rfl
      have r2 := htk2.cell 2 rfl
      have r3 := htk2.cell 3 rfl
      have r4 := htk2.cell 4 rfl
      have rl := htk2.lt
      have HR2 := Lib.hid hr2
      have HG2 := Lib.hid (only_trans HG1.out (grow_in _ hg2))
      clear hr2 hg2 htk2
      go_wp2_with fail
      refine (hfe.out _ _).mono ?_
      rintro e w3 ⟨rfl, rfl⟩
      go_wp2_with fail
      go_ret
      exact val_of (by rw [← HT.out]; show Value.int .u32 (errV t.n : Nat) = _; first | rfl | (unfold errV; rw [i64_small t.n (by omega)]; rfl) | exact Eq.trans (congrArg (Value.int .u32) (show ((errV t.n : Nat) : Int) = 327680 + ((Rec.clampN (wrap64 t.n) : Nat) : Int) by unfold errV; rw [Int.natCast_add, IntWalk.i64_left]; rfl)) rfl) HV.out rfl HR2.out HG2.out
    · have HV := Lib.hid (show erS s = tkS 2 s by unfold erS; rw [← HT.out, if_neg (by omega)])
      have g3 : ¬ (4095 : Int) < (t.n : Int) := by omega
      have g4 : decide ((4095 : Int) < (t.n : Int)) = false := decide_eq_false g3
      clear h1 h4
      go_wp2_with fail
      refine (hfe.out _ _).mono ?_
      rintro e w3 ⟨rfl, rfl⟩
      go_wp2_with fail
      go_ret
      exact val_of (by rw [← HT.out]; show Value.int .u32 (errV t.n : Nat) = _; unfold errV; rw [i64_small t.n (by omega)]; rfl) HV.out rfl (HR1.out.alloc _) (grow_al HG1.out _)
set_option maxHeartbeats 4000000 in
set_option maxRecDepth 100000 in
theorem action_any (b : Nat) (c : RC) (s : RS) (w : World) (h : Rb w b c s) (hs : In s) :
    Calls Tryz.prog 78 #[.pointer (some ⟨b, 0, none⟩)] w (ValR (.int .u32 (actV s)) b c (actS s) w) := by
  have Hn := Lib.hid (name_any b c s _ h hs.len)
  have hlt := h.lt
  have hti := hs.nx
  clear h
  obtain ⟨t, ht⟩ : ∃ t, t = nx s := ⟨_, rfl⟩
  have HT : Hid (t = nx s) := Lib.hid ht
  rw [← ht] at Hn hti
  have hn64 := hti.2.1
  have htl := hti.2.2
  have HTI := Lib.hid hti
  clear hti ht
  go_enter Tryz.func78, Tryz.ntmps78
  go_wp2_with fail
  refine Hn.out.mono ?_
  clear Hn
  rintro e w1 ⟨rfl, hr1, hg1⟩
  have HR1 := Lib.hid hr1
  have HG1 := Lib.hid hg1
  have hlt1 := hr1.lt
  clear hr1 hg1
  unfold tkV
  by_cases h0 : t.t = killW
  · have HV := Lib.hid (show actS s = nmS s by unfold actS; rw [← HT.out, if_pos h0])
    have HW := Lib.hid (show actV s = 2147483648 by unfold actV; rw [← HT.out, if_pos h0])
    have g0 : (t.t == [107, 105, 108, 108]) = true := by rw [beq_iff_eq]; exact h0
    clear h0
    go_wp2_with fail
    go_ret
    exact val_of (by rw [HW.out]; rfl) HV.out rfl (HR1.out.alloc _) (grow_al HG1.out _)
  by_cases h1 : t.t = errnoW
  · have HV := Lib.hid (show actS s = erS (nmS s) by unfold actS; rw [← HT.out, if_neg h0, if_pos h1])
    have HW := Lib.hid (show actV s = errV (nx (nmS s)).n by unfold actV; rw [← HT.out, if_neg h0, if_pos h1])
    have g0 : (t.t == [107, 105, 108, 108]) = false := by rw [beq_eq_false_iff_ne]; exact h0
    have g1 : (t.t == [101, 114, 114, 110, 111]) = true := by rw [beq_iff_eq]; exact h1
    clear h0 h1
    go_wp2_with fail
    refine (errno_any b c (nmS s) _ (HR1.out.alloc _) (hs.sub (nm_sub s))).mono ?_
    rintro e w2 ⟨rfl, hr2, hg2⟩
    have HR2 := Lib.hid hr2
    have HG2 := Lib.hid (only_trans HG1.out (grow_in _ hg2))
    clear hr2 hg2
    go_wp2_with fail
    go_ret
    exact val_of (by rw [HW.out]; rfl) HV.out rfl HR2.out HG2.out
  by_cases h2 : t.t = logW
  · have HV := Lib.hid (show actS s = nmS s by unfold actS; rw [← HT.out, if_neg h0, if_neg h1, if_pos h2])
    have HW := Lib.hid (show actV s = 2147221504 by unfold actV; rw [← HT.out, if_neg h0, if_neg h1, if_pos h2])
    have g0 : (t.t == [107, 105, 108, 108]) = false := by rw [beq_eq_false_iff_ne]; exact h0
    have g1 : (t.t == [101, 114, 114, 110, 111]) = false := by rw [beq_eq_false_iff_ne]; exact h1
    have g2 : (t.t == [108, 111, 103]) = true := by rw [beq_iff_eq]; exact h2
    clear h0 h1 h2
    go_wp2_with fail
    go_ret
    exact val_of (by rw [HW.out]; rfl) HV.out rfl (HR1.out.alloc _) (grow_al HG1.out _)
  by_cases h3 : t.t = allowW
  · have HV := Lib.hid (show actS s = nmS s by unfold actS; rw [← HT.out, if_neg h0, if_neg h1, if_neg h2, if_pos h3])
    have HW := Lib.hid (show actV s = 2147418112 by unfold actV; rw [← HT.out, if_neg h0, if_neg h1, if_neg h2, if_pos h3])
    have g0 : (t.t == [107, 105, 108, 108]) = false := by rw [beq_eq_false_iff_ne]; exact h0
    have g1 : (t.t == [101, 114, 114, 110, 111]) = false := by rw [beq_eq_false_iff_ne]; exact h1
    have g2 : (t.t == [108, 111, 103]) = false := by rw [beq_eq_false_iff_ne]; exact h2
    have g3 : (t.t == [97, 108, 108, 111, 119]) = true := by rw [beq_iff_eq]; exact h3
    clear h0 h1 h2 h3
    go_wp2_with fail
    go_ret
    exact val_of (by rw [HW.out]; rfl) HV.out rfl (HR1.out.alloc _) (grow_al HG1.out _)
  have HV := Lib.hid (show actS s = fl (nmS s) t 202 by unfold actS; rw [← HT.out, if_neg h0, if_neg h1, if_neg h2, if_neg h3])
  have HW := Lib.hid (show actV s = 2147483648 by unfold actV; rw [← HT.out, if_neg h0, if_neg h1, if_neg h2, if_neg h3])
  have g0 : (t.t == [107, 105, 108, 108]) = false := by rw [beq_eq_false_iff_ne]; exact h0
  have g1 : (t.t == [101, 114, 114, 110, 111]) = false := by rw [beq_eq_false_iff_ne]; exact h1
  have g2 : (t.t == [108, 111, 103]) = false := by rw [beq_eq_false_iff_ne]; exact h2
  have g3 : (t.t == [97, 108, 108, 111, 119]) = false := by rw [beq_eq_false_iff_ne]; exact h3
  clear h0 h1 h2 h3
  go_wp2_with fail
  refine (fail_any' b c (nmS s) t 202 _ (HR1.out.alloc _)).mono ?_
  rintro e w2 ⟨rfl, hr2, hg2⟩
  have HR2 := Lib.hid hr2
  have HG2 := Lib.hid (only_trans HG1.out (grow_in _ hg2))
  clear hr2 hg2
  go_wp2_with fail
  go_ret
  exact val_of (by rw [HW.out]; rfl) HV.out rfl HR2.out HG2.out
end Go.Proofs.YtinofjbnfmalkaaGreatDoor.Pa
