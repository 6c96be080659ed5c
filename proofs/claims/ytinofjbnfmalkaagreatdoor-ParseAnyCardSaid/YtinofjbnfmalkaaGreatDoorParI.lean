/- A rule's line behind its first word: the walk. -/
import Derived.Test.YtinofjbnfmalkaaGreatDoorParH
import Derived.Test.YtinofjbnfmalkaaGreatDoorGw
import Derived.Deep.RegionLaw
namespace Go.Proofs.YtinofjbnfmalkaaGreatDoor.Pa
open Go.RowKit Go.WideElems Go.Maps
theorem row_run {W : World} {e t ty : TypeId} {zero : Value} {size bytes base n g : Nat} {v : Value} {xs news : List Value} (hinfo : (Tryz.prog.info? e).map (fun i => (i.zero, i.size, i.bytes)) = some (some zero, size, bytes)) (hzs : zero.cells.size = size) (hsz : 0 < size) (ht : Tryz.prog.underlying t = some (.slice e)) (hby : bytes ≤ 64)
    (hown : W.ownsRow base e size v n xs) (hB : Bk W g e news) (hl : news.length = size) (h1 : ∀ u ∈ news, u.oneCell' = true) (hn : n ≤ 100000) (hbase : base ≤ W.heap.size) :
    ∃ v' wb, (Builtin.append_ #[t, t] ty #[v, .slice (some ⟨g, 0, none⟩) 1 1]).run Tryz.prog W = .ok v' wb ∧ wb.ownsRow base e size v' (n + 1) (xs ++ news) ∧ W.grownBy wb v.ownBlock := by
  obtain ⟨i0, hi, hz0, hz1, hz2⟩ := info_parts hinfo
  obtain ⟨v', wb, hr, ho, hg, _, _⟩ := run_append_own_at (P := Tryz.prog) W base t ty e i0 zero size bytes ht hi hz0 hz1 hz2 hzs hsz v n xs hown ⟨g, 0, none⟩ 1 1 news (by omega) (fun j u hu => by rw [addr_at, Nat.zero_add]; exact hB.cell j hu) h1 (by unfold maxLen; omega) (by have : (n + 1) * bytes ≤ 100001 * 64 := Nat.mul_le_mul (by omega) hby; omega) hbase
  exact ⟨v', wb, hr, ho, hg⟩
def BodyR (p : PolM) (w0 : World) (b tb pb : Nat) (qa : Addr) (m : Nat) (s : RS) (w : World) (e : Ending) (w' : World) : Prop := ∃ T, e = .returned (.tuple #[]) ∧ TV.m T = p ∧ Rr w0 b tb pb qa w' m T s ∧ KT w w'
theorem body_of {p p' : PolM} {w0 : World} {b tb pb m : Nat} {qa : Addr} {T : TV} {s s' : RS} {w w' : World} {e : Ending} (hp : p = p') (hs : s = s') (he : e = .returned (.tuple #[])) (hT : TV.m T = p') (h : Rr w0 b tb pb qa w' m T s') (hk : KT w w') : BodyR p w0 b tb pb qa m s w e w' := by
  subst hp; subst hs; exact ⟨T, he, hT, h, hk⟩
theorem sz_rule {p : PolM} {s : RS} (h : Sz p) (hs : AllIn s) : Sz { p with rules := p.rules ++ [rulV s] } := by
  refine ⟨h.name, h.dflt, fun r hr => ?_, h.hd, h.path, h.port⟩
  rcases List.mem_append.1 hr with hr | hr
  · exact h.each r hr
  · simp at hr; subst hr
    exact ⟨byName_lt _, actV_lt _, cnds_good _ _ _ (hs.sub ((act_sub _).trans (call_sub _))) (by simp)⟩
theorem add_rule_m (T : TV) (x : RuleV) (v' : Value) : ({ T with rv := v', rs := T.rs ++ [x] } : TV).m = { T.m with rules := T.m.rules ++ [x.m] } := by unfold TV.m; simp
set_option maxHeartbeats 8000000 in
set_option maxRecDepth 100000 in
theorem rule_any (w0 : World) (b tb pb m : Nat) (qa : Addr) (w : World) (T : TV) (s : RS) (h : Rr w0 b tb pb qa w m T s) (hm : m ≤ 1000000000) (hn : T.rs.length ≤ 1000) :
    Calls Tryz.prog 102 #[.pointer (some ⟨b, 0, none⟩)] w (BodyR { T.m with rules := T.m.rules ++ [rulV s] } w0 b tb pb qa (m + 1) (rulS s) w) := by
  have hlt := h.rb.lt
  have Hc := Lib.hid (call_any w0 b tb pb m qa w T s h hm)
  have HIn := Lib.hid h.inn
  have HSz := Lib.hid h.sz
  clear h
  obtain ⟨num, hnum⟩ : ∃ num, num = callV s := ⟨_, rfl⟩
  obtain ⟨act, hact⟩ : ∃ act, act = actV (callS s) := ⟨_, rfl⟩
  have HNum := Lib.hid hnum
  have HAct := Lib.hid hact
  rw [← hnum] at Hc
  clear hnum
  go_enter Tryz.func102, Tryz.ntmps102
  go_wp2_with fail
  refine Hc.out.mono ?_
  clear Hc
  rintro e w1 ⟨rfl, hr1, hk1⟩
  have Ha := Lib.hid (action_any b (T.c pb) (callS s) w1 hr1.rb hr1.inn)
  have HR1 := Lib.hid hr1
  have HK1 := Lib.hid hk1
  rw [← hact] at Ha
  clear hr1 hk1 hact
  go_wp2_with fail
  refine Ha.out.mono ?_
  clear Ha
  rintro e w2 ⟨rfl, hr2, hg2⟩
  have hs2 := HR1.out.small hr2 hg2 (act_sub _)
  have Hd := Lib.hid (conds_any b (T.c pb) (actS (callS s)) w2 hs2.1.rb hs2.1.inn hs2.1.ev)
  have HR2 := Lib.hid hs2.1
  have HK2 := Lib.hid (HK1.out.trans hs2.2)
  clear hr2 hg2 hs2
  go_wp2_with fail
  refine Hd.out.mono ?_
  clear Hd
  rintro e w3 ⟨v, rfl, hown, hr3, hg3⟩
  have hs3 := HR2.out.small hr3 hg3 (cnds_sub _ _ _)
  obtain ⟨A, cv, rfl, hcv, htr, _⟩ := own_typed hown
  obtain ⟨L, hL⟩ : ∃ L, L = (cnds (actS (callS s))).1 := ⟨_, rfl⟩
  have HL := Lib.hid hL
  rw [← hL] at hcv htr ⊢
  obtain ⟨n, hnl⟩ : ∃ n, n = L.length := ⟨_, rfl⟩
  have HNl := Lib.hid hnl
  rw [← hnl] at hcv htr ⊢
  have HTr := Lib.hid htr
  have HR3 := Lib.hid hs3.1
  have HK3 := Lib.hid (HK2.out.trans hs3.2)
  clear hown hr3 hg3 hs3 hL hnl htr
  go_upto_region 1 with fail
  have hx := Bk.new w3 70 #[.int .u32 num, .int .u32 act, .slice A n cv] (l := [.int .u32 num, .int .u32 act, .slice A n cv]) rfl
  have hR4 := HR3.out.alloc (.cells #[.int .u32 num, .int .u32 act, .slice A n cv] 70)
  have hT4 := HTr.out.below (oneb w3 (.cells #[.int .u32 num, .int .u32 act, .slice A n cv] 70))
  have hK4 := HK3.out.trans (KT.below (oneb w3 (.cells #[.int .u32 num, .int .u32 act, .slice A n cv] 70)))
  have hl4 : w3.heap.size < (w3.alloc (.cells #[.int .u32 num, .int .u32 act, .slice A n cv] 70)).heap.size := by simp
  generalize w3.alloc _ = w4 at hx hR4 hT4 hK4 hl4 ⊢
  have HRV := Lib.hid (show (⟨num, act, L⟩ : RuleM) = rulV s by unfold rulV; rw [← HNum.out, ← HAct.out, ← HL.out])
  refine wp_region_any (by kernel_rfl) ?_
  change wpAny _ _ _ _ _ _ _ (World.drew _)
  have hxv := hx.drew
  have hRv := hR4.kept (Below.refl w4.heap.size w4).drew
  have hKv := hK4.trans (KT.drew w4)
  have hlv : w3.heap.size < w4.drew.heap.size := hl4
  have hT4v := hT4.below (Below.refl w4.heap.size w4).drew
  generalize w4.drew = v0 at hxv hRv hKv hlv hT4v ⊢
  have hb5 := oneb v0 (.cells #[.int .u32 num, .int .u32 act, .slice A n cv] 70)
  have HR5 := Lib.hid (hRv.kept hb5)
  have HhT4 := Lib.hid (hT4v.below hb5)
  have HK5 := Lib.hid (hKv.trans (KT.below hb5))
  have hB5 := Bk.new v0 70 #[.int .u32 num, .int .u32 act, .slice A n cv] (l := [.int .u32 num, .int .u32 act, .slice A n cv]) rfl
  obtain ⟨v', wb, hrun, ho, hg⟩ := row_run (t := 30) (ty := 30) infoPR rfl (by decide) Tryz.underlying30 (by decide) HR5.out.r hB5 rfl (by intro u hu; simp at hu; rcases hu with rfl | rfl | rfl <;> rfl) (by omega) (by have := HR5.out.rb.lt; omega)
  obtain ⟨A7, c7, hv7, _⟩ := own_typed ho
  subst hv7
  have hob := HR5.out.rb.app HR5.out.r hg
  obtain ⟨Al, capl, hbl, _⟩ := hob.blk
  have z4 := hbl.cell 4 rfl
  have zf := hbl.fz 4
  have zl := hbl.lt
  have HO := Lib.hid ho
  have HG := Lib.hid hg
  have HRun := Lib.hid hrun
  have hb4 : v0.cell? ⟨b, 4, none⟩ = some T.rv := by obtain ⟨_, _, hq, _⟩ := hRv.rb.blk; exact hq.cell 4 rfl
  have hbl4 := hRv.rb.lt
  have x0 := hxv.cell 0 rfl
  have x1 := hxv.cell 1 rfl
  have x2 := hxv.cell 2 rfl
  have xl := hxv.lt
  clear hxv hRv hKv hb5 hB5 hrun ho hg hob hbl hx hR4 hK4 hT4 hT4v
  refine wpAny_take (i := 0) (v := ?_) rfl (by kernel_rfl) (by kernel_rfl) (by kernel_rfl) (fun _ _ _ h => h) (Or.inl ⟨by rfl, ?_⟩) ?_
  rotate_left 1
  · intro w
    (go_simp) <;> (with_reducible rfl)
  refine wpAny_take (i := 1) (v := ?_) rfl (by kernel_rfl) (by kernel_rfl) (by kernel_rfl) (fun _ _ _ h => h) (Or.inl ⟨by rfl, ?_⟩) ?_
  rotate_left 1
  · intro w
    (go_simp) <;> (with_reducible rfl)
  refine wpAny_take (i := 2) (v := ?_) rfl (by kernel_rfl) (by kernel_rfl) (by kernel_rfl) (fun _ _ _ h => h) (Or.inl ⟨by rfl, ?_⟩) ?_
  rotate_left 1
  · intro w
    (go_simp) <;> (with_reducible rfl)
  refine wpAny_take (i := 3) (v := ?_) rfl (by kernel_rfl) (by kernel_rfl) (by kernel_rfl) (fun _ _ _ h => h) (Or.inl ⟨by rfl, ?_⟩) ?_
  rotate_left 1
  · intro w
    (go_simp) <;> (with_reducible rfl)
  refine wpAny_take (i := 4) (v := ?_) rfl (by kernel_rfl) (by kernel_rfl) (by kernel_rfl) (fun _ _ _ h => h) (Or.inl ⟨by rfl, ?_⟩) ?_
  rotate_left 1
  · intro w
    (go_simp) <;> (with_reducible rfl)
  refine wpAny_ready (rs := [5, 6]) (by kernel_rfl) (by simp) ?_
  refine AllReady.cons rfl (fun K hK => ?_) ?_
  · skip
    go_simp
    refine hK _ _ ?_
    clear hK K
    refine wpAny_ready (rs := [6]) (by kernel_rfl) (by simp) ?_
    refine AllReady.cons rfl (fun K hK => ?_) ?_
    · skip
      go_simp
      refine hK _ _ ?_
      clear hK K
      refine wpAny_ready (rs := [7]) (by kernel_rfl) (by simp) ?_
      refine AllReady.cons rfl (fun K hK => ?_) ?_
      · skip
        go_simp
        refine hK _ _ ?_
        clear hK K
        refine wpAny_ready (rs := [8]) (by kernel_rfl) (by simp) ?_
        refine AllReady.cons rfl (fun K hK => ?_) ?_
        · skip
          rw [if_pos (by rfl)]
          refine op_append (.tmp 15) (.tmp 17) 30 rfl _ _ _ wb rfl rfl HRun.out ?_
          refine hK _ _ ?_
          clear hK K
          refine wpAny_take (i := 9) (v := ?_) rfl (by kernel_rfl) (by kernel_rfl) (by kernel_rfl) (fun _ _ _ h => h) (Or.inl ⟨by rfl, ?_⟩) ?_
          rotate_left 1
          · intro w
            (go_simp) <;> (with_reducible rfl)
          refine wpAny_take (i := 10) (v := ?_) rfl (by kernel_rfl) (by kernel_rfl) (by kernel_rfl) (fun _ _ _ h => h) (Or.inl ⟨by rfl, ?_⟩) ?_
          rotate_left 1
          · intro w
            (go_simp) <;> (with_reducible rfl)
          refine wpAny_take (i := 11) (v := ?_) rfl (by kernel_rfl) (by kernel_rfl) (by kernel_rfl) (fun _ _ _ h => h) (Or.inl ⟨by rfl, ?_⟩) ?_
          rotate_left 1
          · intro w
            (go_simp) <;> (with_reducible rfl)
          refine wpAny_ready (rs := [12]) (by kernel_rfl) (by simp) ?_
          refine AllReady.cons rfl (fun K hK => ?_) ?_
          · skip
            go_simp
            refine hK _ _ ?_
            clear hK K
            refine wpAny_done (by kernel_rfl) ?_ _
            go_wp2_with fail
            go_end0
            have had := HR5.out.addRule ⟨⟨num, act, L⟩, A, cv⟩ (by show TRd _ _ 4 L.length A _; rw [← HNl.out]; exact HhT4.out) (by show World.ownsRow wb (b + 1) _ 3 _ _ (_ ++ [.int .u32 num, .int .u32 act, .slice A L.length cv]); rw [← HNl.out]; exact HO.out) HG.out (by rw [add_rule_m]; show Sz { T.m with rules := T.m.rules ++ [⟨num, act, L⟩] }; rw [HRV.out]; exact sz_rule HSz.out HIn.out.all)
            exact body_of (by rw [← HRV.out]) rfl rfl (add_rule_m _ _ _) had.1 (HK5.out.trans had.2)
          exact AllReady.nil
        exact AllReady.nil
      exact AllReady.nil
    exact AllReady.nil
  refine AllReady.cons rfl (fun K hK => ?_) ?_
  · skip
    go_simp
    refine hK _ _ ?_
    clear hK K
    refine wpAny_ready (rs := [5, 7]) (by kernel_rfl) (by simp) ?_
    refine AllReady.cons rfl (fun K hK => ?_) ?_
    · skip
      go_simp
      refine hK _ _ ?_
      clear hK K
      refine wpAny_ready (rs := [7]) (by kernel_rfl) (by simp) ?_
      refine AllReady.cons rfl (fun K hK => ?_) ?_
      · skip
        go_simp
        refine hK _ _ ?_
        clear hK K
        refine wpAny_ready (rs := [8]) (by kernel_rfl) (by simp) ?_
        refine AllReady.cons rfl (fun K hK => ?_) ?_
        · skip
          rw [if_pos (by rfl)]
          refine op_append (.tmp 15) (.tmp 17) 30 rfl _ _ _ wb rfl rfl HRun.out ?_
          refine hK _ _ ?_
          clear hK K
          refine wpAny_take (i := 9) (v := ?_) rfl (by kernel_rfl) (by kernel_rfl) (by kernel_rfl) (fun _ _ _ h => h) (Or.inl ⟨by rfl, ?_⟩) ?_
          rotate_left 1
          · intro w
            (go_simp) <;> (with_reducible rfl)
          refine wpAny_take (i := 10) (v := ?_) rfl (by kernel_rfl) (by kernel_rfl) (by kernel_rfl) (fun _ _ _ h => h) (Or.inl ⟨by rfl, ?_⟩) ?_
          rotate_left 1
          · intro w
            (go_simp) <;> (with_reducible rfl)
          refine wpAny_take (i := 11) (v := ?_) rfl (by kernel_rfl) (by kernel_rfl) (by kernel_rfl) (fun _ _ _ h => h) (Or.inl ⟨by rfl, ?_⟩) ?_
          rotate_left 1
          · intro w
            (go_simp) <;> (with_reducible rfl)
          refine wpAny_ready (rs := [12]) (by kernel_rfl) (by simp) ?_
          refine AllReady.cons rfl (fun K hK => ?_) ?_
          · skip
            go_simp
            refine hK _ _ ?_
            clear hK K
            refine wpAny_done (by kernel_rfl) ?_ _
            go_wp2_with fail
            go_end0
            have had := HR5.out.addRule ⟨⟨num, act, L⟩, A, cv⟩ (by show TRd _ _ 4 L.length A _; rw [← HNl.out]; exact HhT4.out) (by show World.ownsRow wb (b + 1) _ 3 _ _ (_ ++ [.int .u32 num, .int .u32 act, .slice A L.length cv]); rw [← HNl.out]; exact HO.out) HG.out (by rw [add_rule_m]; show Sz { T.m with rules := T.m.rules ++ [⟨num, act, L⟩] }; rw [HRV.out]; exact sz_rule HSz.out HIn.out.all)
            exact body_of (by rw [← HRV.out]) rfl rfl (add_rule_m _ _ _) had.1 (HK5.out.trans had.2)
          exact AllReady.nil
        exact AllReady.nil
      exact AllReady.nil
    refine AllReady.cons rfl (fun K hK => ?_) ?_
    · skip
      go_simp
      refine hK _ _ ?_
      clear hK K
      refine wpAny_ready (rs := [5]) (by kernel_rfl) (by simp) ?_
      refine AllReady.cons rfl (fun K hK => ?_) ?_
      · skip
        go_simp
        refine hK _ _ ?_
        clear hK K
        refine wpAny_ready (rs := [8]) (by kernel_rfl) (by simp) ?_
        refine AllReady.cons rfl (fun K hK => ?_) ?_
        · skip
          rw [if_pos (by rfl)]
          refine op_append (.tmp 15) (.tmp 17) 30 rfl _ _ _ wb rfl rfl HRun.out ?_
          refine hK _ _ ?_
          clear hK K
          refine wpAny_take (i := 9) (v := ?_) rfl (by kernel_rfl) (by kernel_rfl) (by kernel_rfl) (fun _ _ _ h => h) (Or.inl ⟨by rfl, ?_⟩) ?_
          rotate_left 1
          · intro w
            (go_simp) <;> (with_reducible rfl)
          refine wpAny_take (i := 10) (v := ?_) rfl (by kernel_rfl) (by kernel_rfl) (by kernel_rfl) (fun _ _ _ h => h) (Or.inl ⟨by rfl, ?_⟩) ?_
          rotate_left 1
          · intro w
            (go_simp) <;> (with_reducible rfl)
          refine wpAny_take (i := 11) (v := ?_) rfl (by kernel_rfl) (by kernel_rfl) (by kernel_rfl) (fun _ _ _ h => h) (Or.inl ⟨by rfl, ?_⟩) ?_
          rotate_left 1
          · intro w
            (go_simp) <;> (with_reducible rfl)
          refine wpAny_ready (rs := [12]) (by kernel_rfl) (by simp) ?_
          refine AllReady.cons rfl (fun K hK => ?_) ?_
          · skip
            go_simp
            refine hK _ _ ?_
            clear hK K
            refine wpAny_done (by kernel_rfl) ?_ _
            go_wp2_with fail
            go_end0
            have had := HR5.out.addRule ⟨⟨num, act, L⟩, A, cv⟩ (by show TRd _ _ 4 L.length A _; rw [← HNl.out]; exact HhT4.out) (by show World.ownsRow wb (b + 1) _ 3 _ _ (_ ++ [.int .u32 num, .int .u32 act, .slice A L.length cv]); rw [← HNl.out]; exact HO.out) HG.out (by rw [add_rule_m]; show Sz { T.m with rules := T.m.rules ++ [⟨num, act, L⟩] }; rw [HRV.out]; exact sz_rule HSz.out HIn.out.all)
            exact body_of (by rw [← HRV.out]) rfl rfl (add_rule_m _ _ _) had.1 (HK5.out.trans had.2)
          exact AllReady.nil
        exact AllReady.nil
      exact AllReady.nil
    exact AllReady.nil
  exact AllReady.nil
end Go.Proofs.YtinofjbnfmalkaaGreatDoor.Pa
