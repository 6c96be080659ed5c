/- A text's words: the walk. -/
import Derived.Test.YthjbenjnhdgalaaDoorLex
namespace Go.Proofs.YthjbenjnhdgalaaDoor
open Go.RowKit
theorem lex_bad {R : List Tok × Wr} {x : Wr} {w w' : World} {e : Ending} (h : R = ([], x)) (he : e = .returned (.tuple #[.slice none 0 0, .agg #[.int .i64 x.l, .int .i64 x.c, .int .i64 x.e]])) (hb : Below w.heap.size w w') : LinePost R w e w' := by
  subst h
  exact ⟨_, he, World.ownsRow_nil _ _ _ _, hb⟩
theorem lex_good {R : List Tok × Wr} {L : List Tok} {w w' : World} {e : Ending} {v : Value} (h : R = (L, noW)) (he : e = .returned (.tuple #[v, .agg #[.int .i64 0, .int .i64 0, .int .i64 0]])) (hown : w'.ownsRow w.heap.size 35 5 v L.length (flatT L)) (hb : Below w.heap.size w w') : LinePost R w e w' := by
  subst h
  exact ⟨_, he, hown, hb⟩
set_option maxHeartbeats 4000000 in
set_option maxRecDepth 100000 in
theorem lex_long (s : ByteArray) (w : World) (hs : 65536 < s.size) : Calls Tryd.prog 11 #[.string s] w (LinePost (lexB s.data.toList) w) := by
  have HR := Lib.hid (show lexB s.data.toList = ([], ⟨0, 0, 36⟩) by unfold lexB; rw [if_pos (by rw [← Lib.size_eq]; exact hs)])
  have h1 : (65536 : Int) < (s.size : Int) := by omega
  have h2 : ¬ (s.size : Int) ≤ 65536 := by omega
  go_enter Tryd.func11, Tryd.ntmps11
  go_wp2_with fail
  refine bodyPost_ret (v := .tuple #[.slice none 0 0, .agg #[.int .i64 0, .int .i64 0, .int .i64 36]]) ?_ rfl ?_
  · simp [results, Tryd.results11, go_sem]
  · exact lex_bad HR.out rfl ((Below.refl _ _).alloc (Nat.le_refl _) _)
set_option maxHeartbeats 4000000 in
set_option maxRecDepth 100000 in
theorem lex_any (s : ByteArray) (w : World) (hE : Env w) : Calls Tryd.prog 11 #[.string s] w (LinePost (lexB s.data.toList) w) := by
  by_cases hs : s.size ≤ 65536
  case neg => exact lex_long s w (by omega)
  have HE := Lib.hid hE
  have hsz := Lib.size_eq s
  have Hln := Lib.hid (fun l hl => (lines_mem s.data.toList l hl).1)
  have HP0 := Lib.hid (show lexB s.data.toList = lexL ((lines s.data.toList).drop 0) 0 [] by unfold lexB; rw [if_neg (by omega)]; rfl)
  have hll := lines_len s.data.toList
  have Hsp := Lib.hid (fun W E => split_any s W hs E)
  have hll2 : (lines s.data.toList).length ≤ 65537 := by omega
  have Hsl := Lib.hid (show s.data.toList.length ≤ 65536 by omega)
  have HB0 := Lib.hid (show Below w.heap.size w (w.alloc (.cells #[.int .i64 0, .int .i64 0, .int .i64 0] 39)) from (Below.refl _ _).alloc (Nat.le_refl _) _)
  have h1 : ¬ (65536 : Int) < (s.size : Int) := by omega
  have h2 : (s.size : Int) ≤ 65536 := by omega
  clear hE hll hsz
  go_enter Tryd.func11, Tryd.ntmps11
  go_wp2_with fail
  refine (Hsp.out _ (HE.out.below HB0.out)).mono ?_
  rintro e w1 ⟨A, rfl, hseg, hb1⟩
  obtain ⟨Ls, hLs⟩ : ∃ Ls, Ls = lines s.data.toList := ⟨_, rfl⟩
  rw [← hLs] at hseg Hln HP0 hll2 ⊢
  have HPs := Lib.hid (show PsL w A Ls [] (.slice none 0 0) w1 from by
    rw [show (w.alloc (.cells #[.int .i64 0, .int .i64 0, .int .i64 0] 39)).heap.size = w.heap.size + 1 by simp] at hseg
    obtain ⟨b, o, e, h0, hl, _⟩ := hseg.pos (by
      have : Ls ≠ [] := by rw [hLs]; exact lines_ne _
      exact List.length_pos_iff.2 this)
    cases e
    exact ⟨hseg, Bk.kept (Bk.new w _ _ rfl) hb1, World.ownsRow_nil _ _ _ _, (fun g hg => by cases hg), ⟨by omega, hl⟩, HB0.out.trans (hb1.mono HB0.out.size)⟩)
  clear hseg hb1 hLs Hsp HB0
  go_wp2_with fail
  go_loopw [4, 16] (fun v c wr => ∃ (k : Nat) (L : List Tok), k ≤ Ls.length ∧ c = .int .i64 k ∧ L.length ≤ k * 65537 ∧ Hid (lexB s.data.toList = lexL (Ls.drop k) k L) ∧ Hid (PsL w A Ls L v wr)) (fun _ c _ => Ls.length - (intOf c).toNat)
  case atStart => exact ⟨0, [], by omega, rfl, by simp, HP0.out, HPs.out⟩
  case round =>
    obtain ⟨k, L, hk, rfl, hL, HD, HT⟩ := hrel
    clear HPs HP0
    by_cases hlt : k < Ls.length
    · obtain ⟨l, hl⟩ : ∃ l, Ls[k]? = some l := ⟨_, List.getElem?_eq_getElem hlt⟩
      have hA := HT.out.lt.2
      obtain ⟨b, o, hbo, _, hbl, hcell⟩ := HT.out.lin.pos (by omega)
      cases hbo
      have c0 : wr.cell? ⟨A, k, none⟩ = some (.string ⟨l.toArray⟩) := by have := hcell k _ (strs_at hl); rwa [Nat.zero_add] at this
      have hlm := Hln.out l (List.mem_of_getElem? hl)
      have hl64 : l.length ≤ 65536 := by have := Hsl.out; omega
      obtain ⟨k1, hk1⟩ : ∃ k1, k1 = k + 1 := ⟨_, rfl⟩
      have hki : ((k : Int) + 1) = (k1 : Int) := by omega
      have Hon := Lib.hid (fun h => lexL_on (acc := L) hl h)
      have Hbad := Lib.hid (fun h => lexL_bad (acc := L) hl h)
      have hlb := lineB_len (k + 1) l
      rw [← hk1] at Hon Hbad hlb
      obtain ⟨R, hR⟩ : ∃ R, R = lineB k1 l := ⟨_, rfl⟩
      have Hline := Lib.hid (fun W E => line_any l k1 W hl64 E)
      rw [← hR] at Hon Hbad hlb Hline
      obtain ⟨M, xl, xc, xe⟩ := R
      obtain ⟨Av, cv, rfl, hcv, _⟩ := own_slice HT.out.own
      have hkr : k1 ≤ 65537 := by omega
      have Hk1 := Lib.hid hk1
      have Hhl := Lib.hid hl
      clear hcell hl hlm hR hk1
      go_wp2_with fail
      refine (Hline.out _ (HE.out.below HT.out.bel)).mono ?_
      rintro e w2 ⟨v2, rfl, hown2, hb2⟩
      have HT2 := Lib.hid (HT.out.kept hb2)
      have HO2 := Lib.hid hown2
      have Hsz2 := Lib.hid hb2.size
      clear hb2 hown2 Hline c0 HT hA
      obtain ⟨A2, c2, rfl, hc2, hR2, hn2⟩ := own_slice HO2.out
      have HR2 := Lib.hid hR2
      have HN2 := Lib.hid hn2
      simp only [Wr.val]
      have HX := Lib.hid (bk_new_at w2 39 (l := [.int .i64 xl, .int .i64 xc, .int .i64 xe]) #[.int .i64 xl, .int .i64 xc, .int .i64 xe] rfl rfl)
      have HT3 := Lib.hid (HT2.out.kept ((Below.refl _ _).alloc (Nat.le_refl _) (.cells #[.int .i64 xl, .int .i64 xc, .int .i64 xe] 39)))
      have d0 := HX.out.cell 0 rfl
      have d1 := HX.out.cell 1 rfl
      have d2 := HX.out.cell 2 rfl
      clear hR2 hn2
      by_cases hx : (⟨xl, xc, xe⟩ : Wr) = noW
      · have hQ : ∀ W : World, (binOp .neq 39 (.agg #[.int .i64 xl, .int .i64 xc, .int .i64 xe]) (.agg #[.int .i64 0, .int .i64 0, .int .i64 0])).run Tryd.prog W = .ok (.bool false) W := fun W => by have h := neq_wr ⟨xl, xc, xe⟩ noW W; rw [decide_eq_true hx] at h; exact h
        have HD2 := Lib.hid (HD.out.trans (Hon.out hx))
        have HR3 := Lib.hid (HR2.out.below ((Below.refl w2.heap.size w2).alloc (Nat.le_refl _) (.cells #[.int .i64 xl, .int .i64 xc, .int .i64 xe] 39)))
        have hML : M.length ≤ 65537 := by have hl2 : M.length ≤ l.length + 1 := hlb; omega
        have hnm : L.length + M.length ≤ 10000000000 := by omega
        have Hbw := Lib.hid (show w.heap.size ≤ w2.heap.size + 1 by have := HT2.out.bel.size; omega)
        clear hx hlb HT2
        go_wp2_with (at_builtin; refine append_toks rfl (.tmp 32) (.tmp 33) rfl w.heap.size _ L.length (flatT L) rfl HT3.out.own M A2 M.length c2 rfl rfl HR3.out HN2.out hnm (by simp; exact Hbw.out) ?_; intro v' w5 hown' hgrow hat; have HT5 := Lib.hid (HT3.out.put hown' hgrow hat); clear hown' hgrow hat)
        go_roundw
        case rel => exact ⟨k1, L ++ M, by have := Hk1.out; omega, by have := Hk1.out; go_num, by simp; have := Hk1.out; omega, HD2.out, HT5.out⟩
        case measure => simp [intOf]; omega
      · have hQ : ∀ W : World, (binOp .neq 39 (.agg #[.int .i64 xl, .int .i64 xc, .int .i64 xe]) (.agg #[.int .i64 0, .int .i64 0, .int .i64 0])).run Tryd.prog W = .ok (.bool true) W := fun W => by have h := neq_wr ⟨xl, xc, xe⟩ noW W; rw [decide_eq_false hx] at h; exact h
        have HD2 := Lib.hid (HD.out.trans (Hbad.out hx))
        have hwl := HT3.out.wrg.lt
        have g0 := HT3.out.wrg.cell 0 rfl
        have g1 := HT3.out.wrg.cell 1 rfl
        have g2 := HT3.out.wrg.cell 2 rfl
        have e0 := HT3.out.wrg.fz 0
        have e1 := HT3.out.wrg.fz 1
        have e2 := HT3.out.wrg.fz 2
        clear hx hlb HT2
        go_wp2_with fail
        go_region
        go_wp2_with fail
        have HZ := Lib.hid (((HT3.out.wrg.set 0 (.int .i64 xl)).set 1 (.int .i64 xc)).set 2 (.int .i64 xe))
        have HG := Lib.hid (only_trans (only_trans (only_set (w2.alloc (.cells #[.int .i64 xl, .int .i64 xc, .int .i64 xe] 39)) w.heap.size 0 (.int .i64 xl)) (only_set _ w.heap.size 1 (.int .i64 xc))) (only_set _ w.heap.size 2 (.int .i64 xe)))
        clear g0 g1 g2 e0 e1 e2 hwl
        revert HZ HG
        generalize World.setCell _ _ _ = w9
        intro HZ HG
        have hwl := HZ.out.lt
        have y0 := HZ.out.cell 0 rfl
        have y1 := HZ.out.cell 1 rfl
        have y2 := HZ.out.cell 2 rfl
        refine bodyPost_ret (v := .tuple #[.slice none 0 0, .agg #[.int .i64 xl, .int .i64 xc, .int .i64 xe]]) ?_ rfl ?_
        · simp [results, Tryd.results11, go_sem, y0, y1, y2]
        · exact lex_bad HD2.out rfl ((HT3.out.bel.grown HG.out HT3.out.bel.size (fun g hg => by cases hg; exact Nat.le_refl _)).drew)
    · obtain rfl : k = Ls.length := by omega
      obtain ⟨Av, cv, rfl, hcv, _⟩ := own_slice HT.out.own
      have HD2 := Lib.hid (show lexB s.data.toList = (L, noW) by rw [HD.out, List.drop_eq_nil_of_le (Nat.le_refl _)]; rfl)
      have hwl := HT.out.wrg.lt
      have g0 := HT.out.wrg.cell 0 rfl
      have g1 := HT.out.wrg.cell 1 rfl
      have g2 := HT.out.wrg.cell 2 rfl
      have e0 := HT.out.wrg.fz 0
      have e1 := HT.out.wrg.fz 1
      have e2 := HT.out.wrg.fz 2
      go_wp2_with fail
      have HZ := Lib.hid (((HT.out.wrg.set 0 (.int .i64 0)).set 1 (.int .i64 0)).set 2 (.int .i64 0))
      have HG := Lib.hid (only_trans (only_trans (only_set wr w.heap.size 0 (.int .i64 0)) (only_set _ w.heap.size 1 (.int .i64 0))) (only_set _ w.heap.size 2 (.int .i64 0)))
      clear g0 g1 g2 e0 e1 e2 hwl
      revert HZ HG
      generalize World.setCell _ _ _ = w9
      intro HZ HG
      have hwl := HZ.out.lt
      have y0 := HZ.out.cell 0 rfl
      have y1 := HZ.out.cell 1 rfl
      have y2 := HZ.out.cell 2 rfl
      refine bodyPost_ret (v := .tuple #[.slice Av L.length cv, .agg #[.int .i64 0, .int .i64 0, .int .i64 0]]) ?_ rfl ?_
      · simp [results, Tryd.results11, go_sem, y0, y1, y2]
      · exact lex_good HD2.out rfl (own_other HT.out.own HG.out (fun g hg e => (HT.out.apart g hg).2 (Option.some.inj e).symm)) (HT.out.bel.grown HG.out HT.out.bel.size (fun g hg => by cases hg; exact Nat.le_refl _))
end Go.Proofs.YthjbenjnhdgalaaDoor
