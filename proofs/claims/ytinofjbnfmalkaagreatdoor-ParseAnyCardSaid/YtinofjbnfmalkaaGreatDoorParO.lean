/- A line: the walk. -/
import Derived.Test.YtinofjbnfmalkaaGreatDoorParK
import Derived.Test.YtinofjbnfmalkaaGreatDoorParN
namespace Go.Proofs.YtinofjbnfmalkaaGreatDoor.Pa
open Go.RowKit Go.WideElems Go.Maps
theorem Rr.mono {w0 w : World} {b tb pb m m' : Nat} {qa : Addr} {T : TV} {s : RS} (h : Rr w0 b tb pb qa w m T s) (hm : m ≤ m') : Rr w0 b tb pb qa w m' T s := { h with ts := h.ts.mono hm }
set_option maxHeartbeats 8000000 in
set_option maxRecDepth 100000 in
theorem line_any (w0 : World) (b tb pb m : Nat) (qa : Addr) (w : World) (T : TV) (s : RS) (h : Rr w0 b tb pb qa w m T s) (hm : m ≤ 1000000000) (hn1 : T.rs.length ≤ 1000) (hn2 : T.pt.length ≤ 1000) (hn3 : T.po.length ≤ 1000) :
    Calls Tryz.prog 79 #[.pointer (some ⟨b, 0, none⟩)] w (BodyR (lineV T.m s) w0 b tb pb qa (m + 1) (lineS T.m s) w) := by
  have hlt := h.rb.lt
  have Hn := Lib.hid (name_any b (T.c pb) s _ h.rb h.inn.len)
  have HRr := Lib.hid h
  clear h
  obtain ⟨t, ht⟩ : ∃ t, t = nx s := ⟨_, rfl⟩
  have HT : Hid (t = nx s) := Lib.hid ht
  rw [← ht] at Hn
  clear ht
  go_enter Tryz.func79, Tryz.ntmps79
  go_wp2_with fail
  refine Hn.out.mono ?_
  clear Hn
  rintro e w1 ⟨rfl, hr1, hg1⟩
  unfold tkV
  have hsm := HRr.out.small hr1 hg1 (nm_sub s)
  have hbk := (Bk.new w1 182 #[.int .u8 t.k, .string ⟨t.t.toArray⟩, .int .u64 t.n, .int .i64 t.line, .int .i64 t.col] (l := [.int .u8 t.k, .string ⟨t.t.toArray⟩, .int .u64 t.n, .int .i64 t.line, .int .i64 t.col]) rfl)
  have HR2 := Lib.hid (hsm.1.alloc (.cells #[.int .u8 t.k, .string ⟨t.t.toArray⟩, .int .u64 t.n, .int .i64 t.line, .int .i64 t.col] 182))
  have HK2 := Lib.hid (hsm.2.trans (KT.below (oneb w1 (.cells #[.int .u8 t.k, .string ⟨t.t.toArray⟩, .int .u64 t.n, .int .i64 t.line, .int .i64 t.col] 182))))
  have hl1 := hr1.lt
  clear hsm hr1 hg1
  go_upto_region 1 with fail
  generalize w1.alloc _ = w2 at hbk HR2 HK2 ⊢
  have HBK := Lib.hid hbk
  have r0 := hbk.cell 0 rfl
  have r1 := hbk.cell 1 rfl
  have r2 := hbk.cell 2 rfl
  have r3 := hbk.cell 3 rfl
  have r4 := hbk.cell 4 rfl
  have rl := hbk.lt
  clear hbk
  by_cases h0 : t.t = callW
  · have HS := Lib.hid (show bodyS T.m t (nmS s) = rulS (nmS s) by unfold bodyS; rw [if_pos h0]; try rfl)
    have g0 : (t.t == [99, 97, 108, 108]) = true := by rw [beq_iff_eq]; exact h0
    have HVl := Lib.hid (show lineV T.m s = bodyP T.m t (nmS s) by unfold lineV; rw [← HT.out])
    have HVb := Lib.hid (show bodyP T.m t (nmS s) = _ by unfold bodyP; rw [if_pos h0])
    have Hc := Lib.hid (rule_any w0 b tb pb m qa _ T (nmS s) HR2.out hm hn1)
    clear h0
    go_wp2_with fail
    refine Hc.out.mono ?_
    clear Hc
    rintro e w3 ⟨T3, rfl, hm3, hr3, hk3⟩
    have HR3 := Lib.hid (hr3)
    have HK3 := Lib.hid (HK2.out.trans hk3)
    have HB3 := Lib.hid (hk3 _ _ HBK.out)
    have HM := Lib.hid (show T3.m = lineV T.m s by rw [HVl.out, HVb.out, hm3]; try rfl)
    clear hm3 hr3 hk3
    have Hn := Lib.hid (take_any 0 b (T3.c pb) (rulS (nmS s)) _ HR3.out.rb HR3.out.inn.len)
    clear r0 r1 r2 r3 r4 rl
    go_wp2_with fail
    refine Hn.out.mono ?_
    clear Hn
    rintro e w4 ⟨rfl, hr4, hg4⟩
    have hs4 := HR3.out.small hr4 hg4 (tk_sub 0 (rulS (nmS s)))
    have HR4 := Lib.hid hs4.1
    have HB4 := Lib.hid (hs4.2 _ _ HB3.out)
    have HK4 := Lib.hid (HK3.out.trans hs4.2)
    have Hm := Lib.hid (tooMany_any w0 b tb pb (m + 1) qa w4 T3 _ hs4.1)
    clear hr4 hg4 hs4
    go_wp2_with fail
    refine Hm.out.mono ?_
    clear Hm
    rintro e w5 ⟨rfl, rfl⟩
    cases hmm : many T3.m with
    | false =>
      have HW := Lib.hid (show lineS T.m s = tkS 0 (rulS (nmS s)) by unfold lineS; rw [← HM.out, hmm, if_neg (by simp), ← HT.out, HS.out])
      clear hmm
      go_wp2_with fail
      go_end0
      exact body_of HM.out.symm HW.out rfl rfl HR4.out HK4.out
    | true =>
      have HW := Lib.hid (show lineS T.m s = fl (tkS 0 (rulS (nmS s))) t 205 by unfold lineS; rw [← HM.out, hmm, if_pos rfl, ← HT.out, HS.out])
      clear hmm
      have r0 := HB4.out.cell 0 rfl
      have r1 := HB4.out.cell 1 rfl
      have r2 := HB4.out.cell 2 rfl
      have r3 := HB4.out.cell 3 rfl
      have r4 := HB4.out.cell 4 rfl
      have rl := HB4.out.lt
      go_wp2_with fail
      refine (fail_any' b (T3.c pb) (tkS 0 (rulS (nmS s))) t 205 _ HR4.out.rb).mono ?_
      rintro e w6 ⟨rfl, hr6, hg6⟩
      have hs6 := HR4.out.small hr6 hg6 (fl_sub (Sub.refl _) _ _)
      have HR6 := Lib.hid hs6.1
      have HK6 := Lib.hid (HK4.out.trans hs6.2)
      clear hr6 hg6 hs6
      go_wp2_with fail
      go_end0
      exact body_of HM.out.symm HW.out rfl rfl HR6.out HK6.out
  by_cases h1 : t.t = handleW
  · have HS := Lib.hid (show bodyS T.m t (nmS s) = rtS 51199 (hdS T.hd t (nmS s)) by unfold bodyS; rw [if_neg h0, if_pos h1]; try rfl)
    have g0 : (t.t == [99, 97, 108, 108]) = false := by rw [beq_eq_false_iff_ne]; exact h0
    have g1 : (t.t == [104, 97, 110, 100, 108, 101]) = true := by rw [beq_iff_eq]; exact h1
    have HVl := Lib.hid (show lineV T.m s = bodyP T.m t (nmS s) by unfold lineV; rw [← HT.out])
    have HVb := Lib.hid (show bodyP T.m t (nmS s) = _ by unfold bodyP; rw [if_neg h0, if_pos h1])
    have Hc := Lib.hid (handle_any w0 b tb pb m qa _ T (nmS s) t HR2.out)
    clear h0 h1
    go_wp2_with fail
    refine Hc.out.mono ?_
    clear Hc
    rintro e w3 ⟨T3, rfl, hm3, hr3, hk3⟩
    have HR3 := Lib.hid (hr3.mono (Nat.le_succ m))
    have HK3 := Lib.hid (HK2.out.trans hk3)
    have HB3 := Lib.hid (hk3 _ _ HBK.out)
    have HM := Lib.hid (show T3.m = lineV T.m s by rw [HVl.out, HVb.out, hm3]; try rfl)
    clear hm3 hr3 hk3
    have Hn := Lib.hid (take_any 0 b (T3.c pb) (rtS 51199 (hdS T.hd t (nmS s))) _ HR3.out.rb HR3.out.inn.len)
    clear r0 r1 r2 r3 r4 rl
    go_wp2_with fail
    refine Hn.out.mono ?_
    clear Hn
    rintro e w4 ⟨rfl, hr4, hg4⟩
    have hs4 := HR3.out.small hr4 hg4 (tk_sub 0 (rtS 51199 (hdS T.hd t (nmS s))))
    have HR4 := Lib.hid hs4.1
    have HB4 := Lib.hid (hs4.2 _ _ HB3.out)
    have HK4 := Lib.hid (HK3.out.trans hs4.2)
    have Hm := Lib.hid (tooMany_any w0 b tb pb (m + 1) qa w4 T3 _ hs4.1)
    clear hr4 hg4 hs4
    go_wp2_with fail
    refine Hm.out.mono ?_
    clear Hm
    rintro e w5 ⟨rfl, rfl⟩
    cases hmm : many T3.m with
    | false =>
      have HW := Lib.hid (show lineS T.m s = tkS 0 (rtS 51199 (hdS T.hd t (nmS s))) by unfold lineS; rw [← HM.out, hmm, if_neg (by simp), ← HT.out, HS.out])
      clear hmm
      go_wp2_with fail
      go_end0
      exact body_of HM.out.symm HW.out rfl rfl HR4.out HK4.out
    | true =>
      have HW := Lib.hid (show lineS T.m s = fl (tkS 0 (rtS 51199 (hdS T.hd t (nmS s)))) t 205 by unfold lineS; rw [← HM.out, hmm, if_pos rfl, ← HT.out, HS.out])
      clear hmm
      have r0 := HB4.out.cell 0 rfl
      have r1 := HB4.out.cell 1 rfl
      have r2 := HB4.out.cell 2 rfl
      have r3 := HB4.out.cell 3 rfl
      have r4 := HB4.out.cell 4 rfl
      have rl := HB4.out.lt
      go_wp2_with fail
      refine (fail_any' b (T3.c pb) (tkS 0 (rtS 51199 (hdS T.hd t (nmS s)))) t 205 _ HR4.out.rb).mono ?_
      rintro e w6 ⟨rfl, hr6, hg6⟩
      have hs6 := HR4.out.small hr6 hg6 (fl_sub (Sub.refl _) _ _)
      have HR6 := Lib.hid hs6.1
      have HK6 := Lib.hid (HK4.out.trans hs6.2)
      clear hr6 hg6 hs6
      go_wp2_with fail
      go_end0
      exact body_of HM.out.symm HW.out rfl rfl HR6.out HK6.out
  by_cases h2 : t.t = beneathW
  · have HS := Lib.hid (show bodyS T.m t (nmS s) = ptS T.hd T.pt (nmS s) by unfold bodyS; rw [if_neg h0, if_neg h1, if_pos h2]; try rfl)
    have g0 : (t.t == [99, 97, 108, 108]) = false := by rw [beq_eq_false_iff_ne]; exact h0
    have g1 : (t.t == [104, 97, 110, 100, 108, 101]) = false := by rw [beq_eq_false_iff_ne]; exact h1
    have g2 : (t.t == [98, 101, 110, 101, 97, 116, 104]) = true := by rw [beq_iff_eq]; exact h2
    have HVl := Lib.hid (show lineV T.m s = bodyP T.m t (nmS s) by unfold lineV; rw [← HT.out])
    have HVb := Lib.hid (show bodyP T.m t (nmS s) = _ by unfold bodyP; rw [if_neg h0, if_neg h1, if_pos h2])
    have Hc := Lib.hid (beneath_any w0 b tb pb m qa _ T (nmS s) HR2.out hn2)
    clear h0 h1 h2
    go_wp2_with fail
    refine Hc.out.mono ?_
    clear Hc
    rintro e w3 ⟨T3, rfl, hm3, hr3, hk3⟩
    have HR3 := Lib.hid (hr3.mono (Nat.le_succ m))
    have HK3 := Lib.hid (HK2.out.trans hk3)
    have HB3 := Lib.hid (hk3 _ _ HBK.out)
    have HM := Lib.hid (show T3.m = lineV T.m s by rw [HVl.out, HVb.out, hm3]; try rfl)
    clear hm3 hr3 hk3
    have Hn := Lib.hid (take_any 0 b (T3.c pb) (ptS T.hd T.pt (nmS s)) _ HR3.out.rb HR3.out.inn.len)
    clear r0 r1 r2 r3 r4 rl
    go_wp2_with fail
    refine Hn.out.mono ?_
    clear Hn
    rintro e w4 ⟨rfl, hr4, hg4⟩
    have hs4 := HR3.out.small hr4 hg4 (tk_sub 0 (ptS T.hd T.pt (nmS s)))
    have HR4 := Lib.hid hs4.1
    have HB4 := Lib.hid (hs4.2 _ _ HB3.out)
    have HK4 := Lib.hid (HK3.out.trans hs4.2)
    have Hm := Lib.hid (tooMany_any w0 b tb pb (m + 1) qa w4 T3 _ hs4.1)
    clear hr4 hg4 hs4
    go_wp2_with fail
    refine Hm.out.mono ?_
    clear Hm
    rintro e w5 ⟨rfl, rfl⟩
    cases hmm : many T3.m with
    | false =>
      have HW := Lib.hid (show lineS T.m s = tkS 0 (ptS T.hd T.pt (nmS s)) by unfold lineS; rw [← HM.out, hmm, if_neg (by simp), ← HT.out, HS.out])
      clear hmm
      go_wp2_with fail
      go_end0
      exact body_of HM.out.symm HW.out rfl rfl HR4.out HK4.out
    | true =>
      have HW := Lib.hid (show lineS T.m s = fl (tkS 0 (ptS T.hd T.pt (nmS s))) t 205 by unfold lineS; rw [← HM.out, hmm, if_pos rfl, ← HT.out, HS.out])
      clear hmm
      have r0 := HB4.out.cell 0 rfl
      have r1 := HB4.out.cell 1 rfl
      have r2 := HB4.out.cell 2 rfl
      have r3 := HB4.out.cell 3 rfl
      have r4 := HB4.out.cell 4 rfl
      have rl := HB4.out.lt
      go_wp2_with fail
      refine (fail_any' b (T3.c pb) (tkS 0 (ptS T.hd T.pt (nmS s))) t 205 _ HR4.out.rb).mono ?_
      rintro e w6 ⟨rfl, hr6, hg6⟩
      have hs6 := HR4.out.small hr6 hg6 (fl_sub (Sub.refl _) _ _)
      have HR6 := Lib.hid hs6.1
      have HK6 := Lib.hid (HK4.out.trans hs6.2)
      clear hr6 hg6 hs6
      go_wp2_with fail
      go_end0
      exact body_of HM.out.symm HW.out rfl rfl HR6.out HK6.out
  by_cases h3 : t.t = portW
  · have HS := Lib.hid (show bodyS T.m t (nmS s) = qtS T.hd T.po (nmS s) by unfold bodyS; rw [if_neg h0, if_neg h1, if_neg h2, if_pos h3]; try rfl)
    have g0 : (t.t == [99, 97, 108, 108]) = false := by rw [beq_eq_false_iff_ne]; exact h0
    have g1 : (t.t == [104, 97, 110, 100, 108, 101]) = false := by rw [beq_eq_false_iff_ne]; exact h1
    have g2 : (t.t == [98, 101, 110, 101, 97, 116, 104]) = false := by rw [beq_eq_false_iff_ne]; exact h2
    have g3 : (t.t == [112, 111, 114, 116]) = true := by rw [beq_iff_eq]; exact h3
    have HVl := Lib.hid (show lineV T.m s = bodyP T.m t (nmS s) by unfold lineV; rw [← HT.out])
    have HVb := Lib.hid (show bodyP T.m t (nmS s) = _ by unfold bodyP; rw [if_neg h0, if_neg h1, if_neg h2, if_pos h3])
    have Hc := Lib.hid (port_any w0 b tb pb m qa _ T (nmS s) HR2.out hn3)
    clear h0 h1 h2 h3
    go_wp2_with fail
    refine Hc.out.mono ?_
    clear Hc
    rintro e w3 ⟨T3, rfl, hm3, hr3, hk3⟩
    have HR3 := Lib.hid (hr3.mono (Nat.le_succ m))
    have HK3 := Lib.hid (HK2.out.trans hk3)
    have HB3 := Lib.hid (hk3 _ _ HBK.out)
    have HM := Lib.hid (show T3.m = lineV T.m s by rw [HVl.out, HVb.out, hm3]; try rfl)
    clear hm3 hr3 hk3
    have Hn := Lib.hid (take_any 0 b (T3.c pb) (qtS T.hd T.po (nmS s)) _ HR3.out.rb HR3.out.inn.len)
    clear r0 r1 r2 r3 r4 rl
    go_wp2_with fail
    refine Hn.out.mono ?_
    clear Hn
    rintro e w4 ⟨rfl, hr4, hg4⟩
    have hs4 := HR3.out.small hr4 hg4 (tk_sub 0 (qtS T.hd T.po (nmS s)))
    have HR4 := Lib.hid hs4.1
    have HB4 := Lib.hid (hs4.2 _ _ HB3.out)
    have HK4 := Lib.hid (HK3.out.trans hs4.2)
    have Hm := Lib.hid (tooMany_any w0 b tb pb (m + 1) qa w4 T3 _ hs4.1)
    clear hr4 hg4 hs4
    go_wp2_with fail
    refine Hm.out.mono ?_
    clear Hm
    rintro e w5 ⟨rfl, rfl⟩
    cases hmm : many T3.m with
    | false =>
      have HW := Lib.hid (show lineS T.m s = tkS 0 (qtS T.hd T.po (nmS s)) by unfold lineS; rw [← HM.out, hmm, if_neg (by simp), ← HT.out, HS.out])
      clear hmm
      go_wp2_with fail
      go_end0
      exact body_of HM.out.symm HW.out rfl rfl HR4.out HK4.out
    | true =>
      have HW := Lib.hid (show lineS T.m s = fl (tkS 0 (qtS T.hd T.po (nmS s))) t 205 by unfold lineS; rw [← HM.out, hmm, if_pos rfl, ← HT.out, HS.out])
      clear hmm
      have r0 := HB4.out.cell 0 rfl
      have r1 := HB4.out.cell 1 rfl
      have r2 := HB4.out.cell 2 rfl
      have r3 := HB4.out.cell 3 rfl
      have r4 := HB4.out.cell 4 rfl
      have rl := HB4.out.lt
      go_wp2_with fail
      refine (fail_any' b (T3.c pb) (tkS 0 (qtS T.hd T.po (nmS s))) t 205 _ HR4.out.rb).mono ?_
      rintro e w6 ⟨rfl, hr6, hg6⟩
      have hs6 := HR4.out.small hr6 hg6 (fl_sub (Sub.refl _) _ _)
      have HR6 := Lib.hid hs6.1
      have HK6 := Lib.hid (HK4.out.trans hs6.2)
      clear hr6 hg6 hs6
      go_wp2_with fail
      go_end0
      exact body_of HM.out.symm HW.out rfl rfl HR6.out HK6.out
  have HS := Lib.hid (show bodyS T.m t (nmS s) = fl (nmS s) t 202 by unfold bodyS; rw [if_neg h0, if_neg h1, if_neg h2, if_neg h3])
  have g0 : (t.t == [99, 97, 108, 108]) = false := by rw [beq_eq_false_iff_ne]; exact h0
  have g1 : (t.t == [104, 97, 110, 100, 108, 101]) = false := by rw [beq_eq_false_iff_ne]; exact h1
  have g2 : (t.t == [98, 101, 110, 101, 97, 116, 104]) = false := by rw [beq_eq_false_iff_ne]; exact h2
  have g3 : (t.t == [112, 111, 114, 116]) = false := by rw [beq_eq_false_iff_ne]; exact h3
  have HM := Lib.hid (show T.m = lineV T.m s by unfold lineV bodyP; rw [← HT.out, if_neg h0, if_neg h1, if_neg h2, if_neg h3])
  clear h0 h1 h2 h3
  go_wp2_with fail
  refine (fail_any' b (T.c pb) (nmS s) t 202 _ HR2.out.rb).mono ?_
  rintro e w3 ⟨rfl, hr3, hg3⟩
  have hs3 := HR2.out.small hr3 hg3 (fl_sub (Sub.refl _) _ _)
  have HR3 := Lib.hid (hs3.1.mono (Nat.le_succ m))
  have HK3 := Lib.hid (HK2.out.trans hs3.2)
  have HB3 := Lib.hid (hs3.2 _ _ HBK.out)
  clear hr3 hg3 hs3
  have Hn := Lib.hid (take_any 0 b (T.c pb) (fl (nmS s) t 202) _ HR3.out.rb HR3.out.inn.len)
  clear r0 r1 r2 r3 r4 rl
  go_wp2_with fail
  refine Hn.out.mono ?_
  clear Hn
  rintro e w4 ⟨rfl, hr4, hg4⟩
  have hs4 := HR3.out.small hr4 hg4 (tk_sub 0 (fl (nmS s) t 202))
  have HR4 := Lib.hid hs4.1
  have HB4 := Lib.hid (hs4.2 _ _ HB3.out)
  have HK4 := Lib.hid (HK3.out.trans hs4.2)
  have Hm := Lib.hid (tooMany_any w0 b tb pb (m + 1) qa w4 T _ hs4.1)
  clear hr4 hg4 hs4
  go_wp2_with fail
  refine Hm.out.mono ?_
  clear Hm
  rintro e w5 ⟨rfl, rfl⟩
  cases hmm : many T.m with
  | false =>
    have HW := Lib.hid (show lineS T.m s = tkS 0 (fl (nmS s) t 202) by unfold lineS; rw [← HM.out, hmm, if_neg (by simp), ← HT.out, HS.out])
    clear hmm
    go_wp2_with fail
    go_end0
    exact body_of HM.out.symm HW.out rfl rfl HR4.out HK4.out
  | true =>
    have HW := Lib.hid (show lineS T.m s = fl (tkS 0 (fl (nmS s) t 202)) t 205 by unfold lineS; rw [← HM.out, hmm, if_pos rfl, ← HT.out, HS.out])
    clear hmm
    have r0 := HB4.out.cell 0 rfl
    have r1 := HB4.out.cell 1 rfl
    have r2 := HB4.out.cell 2 rfl
    have r3 := HB4.out.cell 3 rfl
    have r4 := HB4.out.cell 4 rfl
    have rl := HB4.out.lt
    go_wp2_with fail
    refine (fail_any' b (T.c pb) (tkS 0 (fl (nmS s) t 202)) t 205 _ HR4.out.rb).mono ?_
    rintro e w6 ⟨rfl, hr6, hg6⟩
    have hs6 := HR4.out.small hr6 hg6 (fl_sub (Sub.refl _) _ _)
    have HR6 := Lib.hid hs6.1
    have HK6 := Lib.hid (HK4.out.trans hs6.2)
    clear hr6 hg6 hs6
    go_wp2_with fail
    go_end0
    exact body_of HM.out.symm HW.out rfl rfl HR6.out HK6.out
end Go.Proofs.YtinofjbnfmalkaaGreatDoor.Pa
