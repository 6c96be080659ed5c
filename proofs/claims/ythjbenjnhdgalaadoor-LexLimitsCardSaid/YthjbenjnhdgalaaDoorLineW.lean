/- A line's words: the walk. -/
import Derived.Test.YthjbenjnhdgalaaDoorLine
import Derived.Deep.LoopGhost
import Derived.ChangeKeysEq
import Derived.Laws.StructEq
namespace Go.Proofs.YthjbenjnhdgalaaDoor
open Go.RowKit
def Wr.val (x : Wr) : Value := .agg #[.int .i64 x.l, .int .i64 x.c, .int .i64 x.e]
def LinePost (R : List Tok × Wr) (w : World) (e : Ending) (w' : World) : Prop :=
  ∃ v, e = .returned (.tuple #[v, R.2.val]) ∧ w'.ownsRow w.heap.size 35 5 v R.1.length (flatT R.1) ∧ Below w.heap.size w w'
theorem line_bad {R : List Tok × Wr} {ln n col er : Nat} {w w' : World} {e : Ending} (h : R = lineR ln n ([], col, er)) (h0 : er ≠ 0) (he : e = .returned (.tuple #[.slice none 0 0, .agg #[.int .i64 ln, .int .i64 col, .int .i64 er]])) (hb : Below w.heap.size w w') : LinePost R w e w' := by
  unfold lineR at h
  rw [if_pos h0] at h
  subst h
  exact ⟨_, he, World.ownsRow_nil _ _ _ _, hb⟩
theorem line_none {R : List Tok × Wr} {ln n : Nat} {w w' : World} {e : Ending} (h : R = lineR ln n ([], 0, 0)) (he : e = .returned (.tuple #[.slice none 0 0, .agg #[.int .i64 0, .int .i64 0, .int .i64 0]])) (hb : Below w.heap.size w w') : LinePost R w e w' := by
  subst h
  exact ⟨_, he, World.ownsRow_nil _ _ _ _, hb⟩
theorem line_good {R : List Tok × Wr} {ln n : Nat} {acc : List Tok} {w w' : World} {e : Ending} {v : Value} (h : R = lineR ln n (acc, 0, 0)) (h0 : acc ≠ []) (he : e = .returned (.tuple #[v, .agg #[.int .i64 0, .int .i64 0, .int .i64 0]]))
    (hown : w'.ownsRow w.heap.size 35 5 v (acc.length + 1) (flatT acc ++ (endT ln n).cells)) (hb : Below w.heap.size w w') : LinePost R w e w' := by
  unfold lineR at h
  rw [if_neg (by simp), if_neg h0] at h
  subst h
  refine ⟨_, he, ?_, hb⟩
  rw [flatT_app, flatT_one, List.length_append]
  exact hown
set_option maxHeartbeats 4000000 in
set_option maxRecDepth 100000 in
theorem line_any (l : Bs) (ln : Nat) (w : World) (hl : l.length ≤ 65536) (hE : Env w) :
    Calls Tryd.prog 19 #[.string ⟨l.toArray⟩, .int .i64 ln] w (LinePost (lineB ln l) w) := by
  obtain ⟨i0, hi0, hz0, hz1, hz2⟩ := info_parts infoTok
  obtain ⟨m, hm⟩ := hE.ml
  have HE := Lib.hid hE
  have hc := fun (W : World) (hm : W.cell? ⟨2, 0, none⟩ = some (.int .i64 m)) => Tryd.strings_Cut ⟨l.toArray⟩ ⟨#[35]⟩ m W (by rw [Lib.size_eq]; show l.length < _; omega) hm
  rw [show ((⟨#[35]⟩ : ByteArray).data.toList) = [35] from rfl, show ((⟨l.toArray⟩ : ByteArray).data.toList) = l from rfl, cut_head] at hc
  have hsl := cutH_len l
  have HR := Lib.hid (lineB_eq ln l)
  generalize (Lib.cut l [35]).2.1 = r1 at hc
  generalize (Lib.cut l [35]).2.2 = r2 at hc
  generalize cutH l = s at hc hsl HR
  have hs : s.length ≤ 65536 := by omega
  have hsz : (⟨s.toArray⟩ : ByteArray).size = s.length := by rw [Lib.size_eq]
  have HC := Lib.hid hc
  have Hm := Lib.hid hm
  clear hE hm hc hsl
  go_enter Tryd.func19, Tryd.ntmps19
  go_wp2_with fail
  refine (HC.out _ ((cell_below Hm.out ((Below.refl _ _).alloc (Nat.le_refl _) _)))).mono ?_
  rintro e w1 ⟨rfl, nq, hw1⟩
  have HW := Lib.hid (show Bk w1 w.heap.size 39 wr0 from hw1 ▸ (Bk.new w 39 _ rfl).drewN nq)
  have HB1 := Lib.hid (show Below w.heap.size w w1 from hw1 ▸ below_drewN ((Below.refl _ _).alloc (Nat.le_refl _) _) nq)
  clear hw1 HC
  go_wp2_with fail
  refine (cutter_any s w1).mono ?_
  rintro e w2 ⟨B, hBq, rfl, hC2, hb2⟩
  have hWB := HW.out.lt
  rw [← hBq] at hWB
  have HWs := Lib.hid HB1.out.size
  have HW2 := Lib.hid (HW.out.kept hb2)
  have HB2 := Lib.hid (HB1.out.trans (hb2.mono HB1.out.size))
  have HC2 := Lib.hid (show Cut w2 0 B (B + 1) (B + 2) s 0 from ⟨hC2.txt, hC2.pos, hC2.tk, hC2.ne1, hC2.ne2, Nat.zero_le _, hC2.ha⟩)
  have Hll := Lib.hid hC2.tk.lt
  clear hC2 hb2 hBq HW HB1
  go_wp2_with fail
  refine (next_any s 0 0 B (B + 1) (B + 2) w2 (by omega) HC2.out).mono ?_
  rintro e w3 ⟨k, t, col, ok, a', rfl, hN, hC3, hg3⟩
  have HN := Lib.hid hN
  have HLn := Lib.hid (show LnR w w.heap.size B w3.heap.size s a' [.int .u8 k, .string ⟨t.toArray⟩, .int .u64 0, .int .i64 0, .int .i64 col] [] (.slice none 0 0) (w3.alloc (.cells #[.int .u8 k, .string ⟨t.toArray⟩, .int .u64 0, .int .i64 0, .int .i64 col] 35)) from by
    have hb3 : Below w3.heap.size w3 (w3.alloc (.cells #[.int .u8 k, .string ⟨t.toArray⟩, .int .u64 0, .int .i64 0, .int .i64 col] 35)) := (Below.refl _ _).alloc (Nat.le_refl _) _
    have hs3 := hg3.size
    have := Hll.out
    have hbb := HB2.out.grown hg3 HB2.out.size (fun q hq => by cases hq; omega)
    refine ⟨hC3.below hb3, (HW2.out.grown hg3 (fun e => by have := Option.some.inj e; omega)).kept hb3, tok_new _ _ _ _ _ _ _, World.ownsRow_nil _ _ _ _, (fun g hg => by cases hg), ⟨by omega, by omega, Nat.le_refl _⟩, hbb.trans (hb3.mono hbb.size)⟩)
  have HD0 := Lib.hid (show lineB ln l = lineR ln s.length (lexP ln (s.drop 0) 0 []) from HR.out)
  clear hN hC3 hg3 HR HC2 HW2 HB2 Hll
  go_wp2_with fail
  go_loopg [10, 11, 12] (s.length + 1) (fun g v tp okv wx => ∃ (p k : Nat) (t : Bs) (col : Nat) (ok : Bool) (a a' : Nat) (acc : List Tok), tp = .pointer (some ⟨p, 0, none⟩) ∧ okv = .bool ok ∧ Hid (s.length + 1 ≤ g + a) ∧ a ≤ s.length ∧ acc.length ≤ a ∧ Hid (Nx s a k t col ok a') ∧ Hid (LnR w w.heap.size B p s a' [.int .u8 k, .string ⟨t.toArray⟩, .int .u64 0, .int .i64 0, .int .i64 col] acc v wx) ∧ Hid (lineB ln l = lineR ln s.length (lexP ln (s.drop a) a acc)))
  case atStart => exact ⟨_, k, t, col, ok, 0, a', [], rfl, rfl, Nat.le_refl _, Nat.zero_le _, Nat.le_refl _, HN.out, HLn.out, HD0.out⟩
  case round =>
    clear HN HLn HD0 HWs hWB
    obtain ⟨p, k, t, col, ok, a, a', acc, rfl, rfl, Hg, ha, hacc, HN, HL, HD⟩ := hrel
    have ha' := HL.out.cut.ha
    cases gk with
    | zero => exact absurd Hg.out (by omega)
    | succ g =>
      have hpl := HL.out.tok.lt
      have t0 := HL.out.tok.cell 0 rfl
      have t1 := HL.out.tok.cell 1 rfl
      have t2 := HL.out.tok.cell 2 rfl
      have t3 := HL.out.tok.cell 3 rfl
      have t4 := HL.out.tok.cell 4 rfl
      have f0 := HL.out.tok.fz 0
      have f1 := HL.out.tok.fz 1
      have f2 := HL.out.tok.fz 2
      have f3 := HL.out.tok.fz 3
      have f4 := HL.out.tok.fz 4
      cases ok with
      | false =>
        have HD2 := Lib.hid (show lineB ln l = lineR ln s.length (acc, 0, 0) by rw [HD.out, nx_false HN.out])
        have hwl := HL.out.wrg.lt
        have g0 := HL.out.wrg.cell 0 rfl
        have g1 := HL.out.wrg.cell 1 rfl
        have g2 := HL.out.wrg.cell 2 rfl
        have e0 := HL.out.wrg.fz 0
        have e1 := HL.out.wrg.fz 1
        have e2 := HL.out.wrg.fz 2
        by_cases h0 : acc = []
        · have h1 : acc.length = 0 := by rw [h0]; rfl
          have HD3 := Lib.hid (HD2.out.trans (by rw [h0]))
          obtain ⟨Av, cv, rfl, hcv, _⟩ := own_seg HL.out.own
          clear h0
          go_wp2_with fail
          have HZ := Lib.hid (((HL.out.wrg.set 0 (.int .i64 0)).set 1 (.int .i64 0)).set 2 (.int .i64 0))
          have HG := Lib.hid (only_trans (only_trans (only_set wr w.heap.size 0 (.int .i64 0)) (only_set _ w.heap.size 1 (.int .i64 0))) (only_set _ w.heap.size 2 (.int .i64 0)))
          clear g0 g1 g2 e0 e1 e2 hwl
          revert HZ HG
          generalize World.setCell _ _ _ = w9
          intro HZ HG
          have hwl := HZ.out.lt
          have y0 := HZ.out.cell 0 rfl
          have y1 := HZ.out.cell 1 rfl
          have y2 := HZ.out.cell 2 rfl
          refine bodyPost_ret (v := .tuple #[.slice none 0 0, .agg #[.int .i64 0, .int .i64 0, .int .i64 0]]) ?_ rfl ?_
          · simp [results, Tryd.results19, go_sem, y0, y1, y2]
          · exact line_none HD3.out rfl (HL.out.bel.grown HG.out HL.out.bel.size (fun g hg => by cases hg; exact Nat.le_refl _))
        · have h1 : ((acc.length : Int) == 0) = false := by
            have := List.length_pos_iff.2 h0
            rw [beq_eq_false_iff_ne]; omega
          obtain ⟨Av, cv, rfl, hcv, _⟩ := own_seg HL.out.own
          obtain ⟨q, hq⟩ : ∃ q, q = s.length + 1 := ⟨_, rfl⟩
          have hqi : ((s.length : Int) + 1) = (q : Int) := by omega
          have hal : acc.length ≤ 65536 := by omega
          have Hbw := Lib.hid (show w.heap.size ≤ wr.heap.size + 1 by have := HL.out.bel.size; omega)
          have Hnews := Lib.hid (show ∀ (j : Nat) (u : Value), (Tok.cells ⟨0, [], 0, ln, q⟩)[j]? = some u → (wr.alloc (.cells #[.int .u8 0, .string ⟨#[]⟩, .int .u64 0, .int .i64 ln, .int .i64 q] 35)).cell? ((⟨wr.heap.size, 0, none⟩ : Addr).add j) = some u from bk_news (bk_new_at (l := Tok.cells ⟨0, [], 0, ln, q⟩) _ 35 #[.int .u8 0, .string ⟨#[]⟩, .int .u64 0, .int .i64 ln, .int .i64 q] rfl rfl))
          have Hq := Lib.hid hq
          have H0 := Lib.hid h0
          clear h0 hq
          go_wp2_with (at_builtin; refine wpList_append_own_at _ rfl (.tmp 60) (.tmp 66) 26 rfl w.heap.size 35 i0 _ 5 48 Tryd.underlying26 hi0 hz0 hz1 hz2 rfl (by decide) _ acc.length (flatT acc) rfl (HL.out.own.alloc _) ⟨wr.heap.size, 0, none⟩ 1 1 (Tok.cells ⟨0, [], 0, ln, q⟩) rfl rfl Hnews.out (cells_oneT _) (by unfold maxLen; omega) (by omega) (by simp; exact Hbw.out) ?_; intro v' w5 hown' hgrow _ hat; have HL6 := Lib.hid (HL.out.app hown' hgrow hat); have Hown := Lib.hid hown'; clear hown' hgrow hat Hnews g0 g1 g2 e0 e1 e2 hwl; have hwl := HL6.out.wrg.lt; have g0 := HL6.out.wrg.cell 0 rfl; have g1 := HL6.out.wrg.cell 1 rfl; have g2 := HL6.out.wrg.cell 2 rfl; have e0 := HL6.out.wrg.fz 0; have e1 := HL6.out.wrg.fz 1; have e2 := HL6.out.wrg.fz 2)
          have HZ := Lib.hid (((HL6.out.wrg.set 0 (.int .i64 0)).set 1 (.int .i64 0)).set 2 (.int .i64 0))
          have HG := Lib.hid (only_trans (only_trans (only_set w5 w.heap.size 0 (.int .i64 0)) (only_set _ w.heap.size 1 (.int .i64 0))) (only_set _ w.heap.size 2 (.int .i64 0)))
          clear g0 g1 g2 e0 e1 e2 hwl
          revert HZ HG
          generalize World.setCell _ _ _ = w9
          intro HZ HG
          have hwl := HZ.out.lt
          have y0 := HZ.out.cell 0 rfl
          have y1 := HZ.out.cell 1 rfl
          have y2 := HZ.out.cell 2 rfl
          refine bodyPost_ret (v := .tuple #[v', .agg #[.int .i64 0, .int .i64 0, .int .i64 0]]) ?_ rfl ?_
          · simp [results, Tryd.results19, go_sem, y0, y1, y2]
          · exact line_good HD2.out H0.out rfl (by have h := own_other HL6.out.own HG.out (fun g hg e => (HL6.out.apart g hg).1 (Option.some.inj e).symm); rw [flatT_app, flatT_one, List.length_append] at h; unfold endT; rw [← Hq.out]; exact h) (HL6.out.bel.grown HG.out HL6.out.bel.size (fun g hg => by cases hg; exact Nat.le_refl _))
      | true =>
        have HK := Lib.hid (nx_kind HN.out)
        have HL1 := Lib.hid (HL.out.setp 3 (.int .i64 ln))
        obtain ⟨nv, er, hv⟩ : ∃ nv er, valB k t = (nv, er) := ⟨_, _, rfl⟩
        have hvp := fun (n lnv cv : Nat) (W : World) (E : Env W) => value_any k t n lnv cv W HK.out.1 (by have := HK.out.2.1; omega) E
        unfold ValPost at hvp
        rw [hv] at hvp
        have Hvp := Lib.hid hvp
        have Hv := Lib.hid hv
        clear hvp hv
        go_wp2_with fail
        refine (Hvp.out 0 ln col _ (HE.out.below HL1.out.bel)).mono ?_
        rintro e w4 ⟨rfl, hb4⟩
        have HL4 := Lib.hid (HL1.out.kept hb4)
        clear hb4 HL HL1 Hvp t0 t1 t2 t3 t4 f0 f1 f2 f3 f4 hpl
        have hpl := HL4.out.tok.lt
        have t0 := HL4.out.tok.cell 0 rfl
        have t1 := HL4.out.tok.cell 1 rfl
        have t2 := HL4.out.tok.cell 2 rfl
        have t3 := HL4.out.tok.cell 3 rfl
        have t4 := HL4.out.tok.cell 4 rfl
        have f0 := HL4.out.tok.fz 0
        have f1 := HL4.out.tok.fz 1
        have f2 := HL4.out.tok.fz 2
        have f3 := HL4.out.tok.fz 3
        have f4 := HL4.out.tok.fz 4
        by_cases her : er = 0
        · have h1 : ((er : Int) == 0) = true := by rw [her]; rfl
          have h2 : ((er : Int) != 0) = false := by rw [her]; rfl
          have HS := Lib.hid (nx_step (ln := ln) (acc := acc) HN.out (by rw [Hv.out]; exact her))
          rw [Hv.out] at HS
          clear her Hv HN
          have HL5 := Lib.hid (HL4.out.setp 2 (.int .u64 nv))
          have hal : acc.length ≤ 65536 := by omega
          have Hbw := Lib.hid (show w.heap.size ≤ w4.heap.size + 1 by have := HL4.out.bel.size; omega)
          have Hnews := Lib.hid (show ∀ (j : Nat) (u : Value), (Tok.cells ⟨k, t, nv, ln, col⟩)[j]? = some u → ((w4.setCell ⟨p, 2, none⟩ (.int .u64 nv)).alloc (.cells #[.int .u8 k, .string ⟨t.toArray⟩, .int .u64 nv, .int .i64 ln, .int .i64 col] 35)).cell? ((⟨w4.heap.size, 0, none⟩ : Addr).add j) = some u from bk_news (bk_new_at (l := Tok.cells ⟨k, t, nv, ln, col⟩) _ 35 #[.int .u8 k, .string ⟨t.toArray⟩, .int .u64 nv, .int .i64 ln, .int .i64 col] rfl (by simp)))
          obtain ⟨Av, cv, rfl, hcv, _⟩ := own_seg HL5.out.own
          go_wp2_with (at_builtin; refine wpList_append_own_at _ rfl (.tmp 51) (.tmp 53) 26 rfl w.heap.size 35 i0 _ 5 48 Tryd.underlying26 hi0 hz0 hz1 hz2 rfl (by decide) _ acc.length (flatT acc) rfl (HL5.out.own.alloc _) ⟨w4.heap.size, 0, none⟩ 1 1 (Tok.cells ⟨k, t, nv, ln, col⟩) rfl rfl Hnews.out (cells_oneT _) (by unfold maxLen; omega) (by omega) (by simp; exact Hbw.out) ?_; intro v' w5 hown' hgrow _ hat; have HL6 := Lib.hid (HL5.out.app hown' hgrow hat); clear hown' hgrow hat Hnews t0 t1 t2 t3 t4 f0 f1 f2 f3 f4 hpl; have hpl := HL6.out.tok.lt; have t0 := HL6.out.tok.cell 0 rfl; have t1 := HL6.out.tok.cell 1 rfl; have t2 := HL6.out.tok.cell 2 rfl; have t3 := HL6.out.tok.cell 3 rfl; have t4 := HL6.out.tok.cell 4 rfl; have f0 := HL6.out.tok.fz 0; have f1 := HL6.out.tok.fz 1; have f2 := HL6.out.tok.fz 2; have f3 := HL6.out.tok.fz 3; have f4 := HL6.out.tok.fz 4)
          have HL7 := Lib.hid (HL6.out.newp [.int .u8 k, .string ⟨t.toArray⟩, .int .u64 nv, .int .i64 ln, .int .i64 col])
          refine (next_any s a' 0 B (B + 1) (B + 2) _ (by omega) HL7.out.cut).mono ?_
          rintro e w7 ⟨k2, t2', col2, ok2, a2, rfl, hN2, hC7, hg7⟩
          have HN2 := Lib.hid hN2
          have HL8 := Lib.hid (HL7.out.next hg7 hC7)
          clear hN2 hC7 hg7 HL7 HL6 HL5 HL4 t0 t1 t2 t3 t4 f0 f1 f2 f3 f4 hpl
          have hpl := HL8.out.tok.lt
          have t0 := HL8.out.tok.cell 0 rfl
          have t1 := HL8.out.tok.cell 1 rfl
          have t2 := HL8.out.tok.cell 2 rfl
          have t3 := HL8.out.tok.cell 3 rfl
          have t4 := HL8.out.tok.cell 4 rfl
          have f0 := HL8.out.tok.fz 0
          have f1 := HL8.out.tok.fz 1
          have f2 := HL8.out.tok.fz 2
          have f3 := HL8.out.tok.fz 3
          have f4 := HL8.out.tok.fz 4
          have HL9 : Hid (LnR w w.heap.size B w5.heap.size s a2 [.int .u8 k2, .string ⟨t2'.toArray⟩, .int .u64 0, .int .i64 0, .int .i64 col2] (acc ++ [⟨k, t, nv, ln, col⟩]) v' _) := Lib.hid (((((HL8.out.setp 0 (.int .u8 k2)).setp 1 (.string ⟨t2'.toArray⟩)).setp 2 (.int .u64 0)).setp 3 (.int .i64 0)).setp 4 (.int .i64 col2))
          go_wp2_with fail
          go_roundg g
          case rel => exact ⟨_, k2, t2', col2, ok2, a', a2, acc ++ [(⟨k, t, nv, ln, col⟩ : Tok)], rfl, rfl, by have := Hg.out; have := HS.out.2; show s.length + 1 ≤ g + a'; omega, ha', by have := HS.out.2; simp; omega, HN2.out, HL9.out, by rw [HD.out, HS.out.1]; rfl⟩
          case measure => omega
        · have h1 : ((er : Int) == 0) = false := by rw [beq_eq_false_iff_ne]; omega
          have h2 : ((er : Int) != 0) = true := by simp; omega
          have HS := Lib.hid (nx_bad (ln := ln) (acc := acc) HN.out (by rw [Hv.out]; exact her))
          have hwl := HL4.out.wrg.lt
          have g0 := HL4.out.wrg.cell 0 rfl
          have g1 := HL4.out.wrg.cell 1 rfl
          have g2 := HL4.out.wrg.cell 2 rfl
          have e0 := HL4.out.wrg.fz 0
          have e1 := HL4.out.wrg.fz 1
          have e2 := HL4.out.wrg.fz 2
          have Her := Lib.hid her
          clear her
          go_wp2_with fail
          go_region
          go_wp2_with fail
          have HZ := Lib.hid ((((HL4.out.wrg.set 0 (.int .i64 ln)).set 1 (.int .i64 col)).set 2 (.int .i64 er)).drew)
          have HG := Lib.hid (show Below w.heap.size w _ from (((HL4.out.bel.grown (only_set w4 w.heap.size 0 (.int .i64 ln)) HL4.out.bel.size (fun q hq => by cases hq; omega)).grown (only_set _ w.heap.size 1 (.int .i64 col)) (by simp [World.setCell]; exact HL4.out.bel.size) (fun q hq => by cases hq; omega)).grown (only_set _ w.heap.size 2 (.int .i64 er)) (by simp [World.setCell]; exact HL4.out.bel.size) (fun q hq => by cases hq; omega)).drew)
          clear g0 g1 g2 e0 e1 e2 hwl
          revert HZ HG
          generalize World.drew _ = w5
          intro HZ HG
          have hwl := HZ.out.lt
          have y0 := HZ.out.cell 0 rfl
          have y1 := HZ.out.cell 1 rfl
          have y2 := HZ.out.cell 2 rfl
          refine bodyPost_ret (v := .tuple #[.slice none 0 0, .agg #[.int .i64 ln, .int .i64 col, .int .i64 er]]) ?_ rfl ?_
          · simp [results, Tryd.results19, go_sem, y0, y1, y2]
          · exact line_bad (by rw [HD.out, HS.out, Hv.out]) Her.out rfl HG.out
end Go.Proofs.YthjbenjnhdgalaaDoor
