/- What takes the next word, and asks of it. -/
import Derived.Test.YtinofjbnfmalkaaGreatDoorParR
namespace Go.Proofs.YtinofjbnfmalkaaGreatDoor.Pa
open Go.RowKit Go.WideElems
def ValR (v : Value) (b : Nat) (c : RC) (s : RS) (w : World) (e : Ending) (w' : World) : Prop := e = .returned v ∧ Rb w' b c s ∧ w.grownBy w' (some b)
theorem val_of {v v' : Value} {b : Nat} {c : RC} {s s' : RS} {w w' : World} {e : Ending} (hv : v = v') (h : s = s') (he : e = .returned v') (hr : Rb w' b c s') (hg : w.grownBy w' (some b)) : ValR v b c s w e w' := by subst h; subst hv; exact ⟨he, hr, hg⟩
set_option maxHeartbeats 4000000 in
set_option maxRecDepth 100000 in
theorem take_any (k : Nat) (b : Nat) (c : RC) (s : RS) (w : World) (h : Rb w b c s) (hs : s.left.length ≤ 2000000) :
    Calls Tryz.prog 77 #[.pointer (some ⟨b, 0, none⟩), .int .u8 k] w (TokR (nx s) b c (tkS k s) w) := by
  have hlt := h.lt
  have Hn := Lib.hid (next_any b c s _ (h.alloc (.cells #[.int .u8 0, .string ByteArray.empty, .int .u64 0, .int .i64 0, .int .i64 0] 182)) hs)
  have hbk := Bk.new w 182 #[.int .u8 0, .string ByteArray.empty, .int .u64 0, .int .i64 0, .int .i64 0] (l := [.int .u8 0, .string ByteArray.empty, .int .u64 0, .int .i64 0, .int .i64 0]) rfl
  clear h
  obtain ⟨t, ht⟩ : ∃ t, t = nx s := ⟨_, rfl⟩
  rw [← ht] at Hn ⊢
  go_enter Tryz.func77, Tryz.ntmps77
  go_wp2_with fail
  refine Hn.out.mono ?_
  clear Hn
  rintro e w1 ⟨rfl, hr1, hg1⟩
  have hbk1 := hbk.grown hg1 (by intro e; have := Option.some.inj e; omega)
  have q0 := hbk1.cell 0 rfl
  have q1 := hbk1.cell 1 rfl
  have q2 := hbk1.cell 2 rfl
  have q3 := hbk1.cell 3 rfl
  have q4 := hbk1.cell 4 rfl
  have qz0 := hbk1.fz 0
  have qz1 := hbk1.fz 1
  have qz2 := hbk1.fz 2
  have qz3 := hbk1.fz 3
  have qz4 := hbk1.fz 4
  have ql := hbk1.lt
  have HR1 := Lib.hid hr1
  have HG1 := Lib.hid (grow_in _ hg1)
  have hlt1 := hr1.lt
  have HBK := Lib.hid hbk1
  clear hr1 hg1 hbk hbk1
  unfold tkV
  by_cases hk : t.k = k
  · have HV := Lib.hid (show tkS k s = dp s by unfold tkS; rw [if_pos (by rw [← ht]; exact hk)])
    have g0 : ((t.k : Int) == (k : Int)) = true := by rw [beq_iff_eq]; omega
    clear hk ht
    go_wp2_with fail
    have hend := fin5 HR1.out HG1.out hlt (Nat.le_refl _) (.int .u8 t.k) (.string ⟨t.t.toArray⟩) (.int .u64 t.n) (.int .i64 t.line) (.int .i64 t.col)
    refine bodyPost_ret (v := tkV t) (by simp [results, Tryz.results77, go_sem, tkV, q0, q1, q2, q3, q4, ql]) rfl ?_
    exact tok_of rfl HV.out rfl (hend.1.alloc _) (grow_al hend.2 _)
  · have HV := Lib.hid (show tkS k s = fl (dp s) t 203 by unfold tkS; rw [if_neg (by rw [← ht]; exact hk), ← ht])
    have g0 : ((t.k : Int) == (k : Int)) = false := by rw [beq_eq_false_iff_ne]; omega
    clear hk ht
    go_wp2_with fail
    refine (fail_any' b c (dp s) t 203 _ (HR1.out.alloc _)).mono ?_
    rintro e w2 ⟨rfl, hr2, hg2⟩
    have hbk2 := (HBK.out.alloc (.cells #[.int .u8 t.k, .string ⟨t.t.toArray⟩, .int .u64 t.n, .int .i64 t.line, .int .i64 t.col] 182)).grown hg2 (by intro e; have := Option.some.inj e; omega)
    have htk2 := (Bk.new w1 182 #[.int .u8 t.k, .string ⟨t.t.toArray⟩, .int .u64 t.n, .int .i64 t.line, .int .i64 t.col] (l := [.int .u8 t.k, .string ⟨t.t.toArray⟩, .int .u64 t.n, .int .i64 t.line, .int .i64 t.col]) rfl).grown hg2 (by intro e; have := Option.some.inj e; omega)
    clear q0 q1 q2 q3 q4 qz0 qz1 qz2 qz3 qz4 ql
    have q0 := hbk2.cell 0 rfl
    have q1 := hbk2.cell 1 rfl
    have q2 := hbk2.cell 2 rfl
    have q3 := hbk2.cell 3 rfl
    have q4 := hbk2.cell 4 rfl
    have qz0 := hbk2.fz 0
    have qz1 := hbk2.fz 1
    have qz2 := hbk2.fz 2
    have qz3 := hbk2.fz 3
    have qz4 := hbk2.fz 4
    have ql := hbk2.lt
    have r0 := htk2.cell 0 rfl
    have r1 := htk2.cell 1 rfl
    have r2 := htk2.cell 2 rfl
    have r3 := htk2.cell 3 rfl
    have r4 := htk2.cell 4 rfl
    have rl := htk2.lt
    have HR2 := Lib.hid hr2
    have HG2 := Lib.hid (only_trans HG1.out (grow_in _ hg2))
    clear hr2 hg2 hbk2 htk2
    go_wp2_with fail
    have hend := fin5 HR2.out HG2.out hlt (Nat.le_refl _) (.int .u8 t.k) (.string ⟨t.t.toArray⟩) (.int .u64 t.n) (.int .i64 t.line) (.int .i64 t.col)
    refine bodyPost_ret (v := tkV t) (by simp [results, Tryz.results77, go_sem, tkV, q0, q1, q2, q3, q4]) rfl ?_
    exact tok_of rfl HV.out rfl hend.1 hend.2
set_option maxHeartbeats 4000000 in
set_option maxRecDepth 100000 in
theorem want_any (x : Bs) (b : Nat) (c : RC) (s : RS) (w : World) (h : Rb w b c s) (hs : s.left.length ≤ 2000000) :
    Calls Tryz.prog 75 #[.pointer (some ⟨b, 0, none⟩), .string ⟨x.toArray⟩] w (TokR (nx s) b c (wnS x s) w) := by
  have hlt := h.lt
  have Hn := Lib.hid (next_any b c s _ (h.alloc (.cells #[.int .u8 0, .string ByteArray.empty, .int .u64 0, .int .i64 0, .int .i64 0] 182)) hs)
  have hbk := Bk.new w 182 #[.int .u8 0, .string ByteArray.empty, .int .u64 0, .int .i64 0, .int .i64 0] (l := [.int .u8 0, .string ByteArray.empty, .int .u64 0, .int .i64 0, .int .i64 0]) rfl
  clear h
  obtain ⟨t, ht⟩ : ∃ t, t = nx s := ⟨_, rfl⟩
  rw [← ht] at Hn ⊢
  go_enter Tryz.func75, Tryz.ntmps75
  go_wp2_with fail
  refine Hn.out.mono ?_
  clear Hn
  rintro e w1 ⟨rfl, hr1, hg1⟩
  have hbk1 := hbk.grown hg1 (by intro e; have := Option.some.inj e; omega)
  have q0 := hbk1.cell 0 rfl
  have q1 := hbk1.cell 1 rfl
  have q2 := hbk1.cell 2 rfl
  have q3 := hbk1.cell 3 rfl
  have q4 := hbk1.cell 4 rfl
  have qz0 := hbk1.fz 0
  have qz1 := hbk1.fz 1
  have qz2 := hbk1.fz 2
  have qz3 := hbk1.fz 3
  have qz4 := hbk1.fz 4
  have ql := hbk1.lt
  have HR1 := Lib.hid hr1
  have HG1 := Lib.hid (grow_in _ hg1)
  have hlt1 := hr1.lt
  have HBK := Lib.hid hbk1
  clear hr1 hg1 hbk hbk1
  unfold tkV
  by_cases hk : t.t = x
  · have HV := Lib.hid (show wnS x s = dp s by unfold wnS; rw [if_pos (by rw [← ht]; exact hk)])
    have g0 : (t.t == x) = true := by rw [beq_iff_eq]; exact hk
    clear hk ht
    go_wp2_with fail
    have hend := fin5 HR1.out HG1.out hlt (Nat.le_refl _) (.int .u8 t.k) (.string ⟨t.t.toArray⟩) (.int .u64 t.n) (.int .i64 t.line) (.int .i64 t.col)
    refine bodyPost_ret (v := tkV t) (by simp [results, Tryz.results75, go_sem, tkV, q0, q1, q2, q3, q4, ql]) rfl ?_
    exact tok_of rfl HV.out rfl (hend.1.alloc _) (grow_al hend.2 _)
  · have HV := Lib.hid (show wnS x s = fl (dp s) t 203 by unfold wnS; rw [if_neg (by rw [← ht]; exact hk), ← ht])
    have g0 : (t.t == x) = false := by rw [beq_eq_false_iff_ne]; exact hk
    clear hk ht
    go_wp2_with fail
    refine (fail_any' b c (dp s) t 203 _ (HR1.out.alloc _)).mono ?_
    rintro e w2 ⟨rfl, hr2, hg2⟩
    have hbk2 := (HBK.out.alloc (.cells #[.int .u8 t.k, .string ⟨t.t.toArray⟩, .int .u64 t.n, .int .i64 t.line, .int .i64 t.col] 182)).grown hg2 (by intro e; have := Option.some.inj e; omega)
    have htk2 := (Bk.new w1 182 #[.int .u8 t.k, .string ⟨t.t.toArray⟩, .int .u64 t.n, .int .i64 t.line, .int .i64 t.col] (l := [.int .u8 t.k, .string ⟨t.t.toArray⟩, .int .u64 t.n, .int .i64 t.line, .int .i64 t.col]) rfl).grown hg2 (by intro e; have := Option.some.inj e; omega)
    clear q0 q1 q2 q3 q4 qz0 qz1 qz2 qz3 qz4 ql
    have q0 := hbk2.cell 0 rfl
    have q1 := hbk2.cell 1 rfl
    have q2 := hbk2.cell 2 rfl
    have q3 := hbk2.cell 3 rfl
    have q4 := hbk2.cell 4 rfl
    have qz0 := hbk2.fz 0
    have qz1 := hbk2.fz 1
    have qz2 := hbk2.fz 2
    have qz3 := hbk2.fz 3
    have qz4 := hbk2.fz 4
    have ql := hbk2.lt
    have r0 := htk2.cell 0 rfl
    have r1 := htk2.cell 1 rfl
    have r2 := htk2.cell 2 rfl
    have r3 := htk2.cell 3 rfl
    have r4 := htk2.cell 4 rfl
    have rl := htk2.lt
    have HR2 := Lib.hid hr2
    have HG2 := Lib.hid (only_trans HG1.out (grow_in _ hg2))
    clear hr2 hg2 hbk2 htk2
    go_wp2_with fail
    have hend := fin5 HR2.out HG2.out hlt (Nat.le_refl _) (.int .u8 t.k) (.string ⟨t.t.toArray⟩) (.int .u64 t.n) (.int .i64 t.line) (.int .i64 t.col)
    refine bodyPost_ret (v := tkV t) (by simp [results, Tryz.results75, go_sem, tkV, q0, q1, q2, q3, q4]) rfl ?_
    exact tok_of rfl HV.out rfl hend.1 hend.2
end Go.Proofs.YtinofjbnfmalkaaGreatDoor.Pa
