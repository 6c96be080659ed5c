/- All of a text's lines: the walk. -/
import Derived.Test.YtinofjbnfmalkaaGreatDoorParO
namespace Go.Proofs.YtinofjbnfmalkaaGreatDoor.Pa
open Go.RowKit Go.WideElems Go.Maps
def T0 : TV := ⟨[], 0, 0, .slice none 0 0, .slice none 0 0, .slice none 0 0, [], [], []⟩
theorem sz_name {p : PolM} (h : Sz p) {t : Bs} (ht : t.length ≤ 65536) : Sz { p with name := t } := ⟨ht, h.dflt, h.each, h.hd, h.path, h.port⟩
theorem sz_dflt {p : PolM} (h : Sz p) {d : Nat} (hd : d < 4294967296) : Sz { p with dflt := d } := ⟨h.name, hd, h.each, h.hd, h.path, h.port⟩
theorem many_few {T : TV} (h : many T.m = false) : T.rs.length ≤ 64 ∧ T.pt.length ≤ 32 ∧ T.po.length ≤ 32 := by
  have := many_inv h
  have h1 := this.r
  have h2 := this.p
  have h3 := this.q
  unfold TV.m at h1 h2 h3
  simp at h1 h2 h3
  exact ⟨h1, h2, h3⟩
set_option maxHeartbeats 8000000 in
set_option maxRecDepth 100000 in
theorem lines_any (w0 : World) (b tb pb m : Nat) (qa : Addr) (w : World) (L : List Tok) (h : Rr w0 b tb pb qa w m T0 ⟨L, noW⟩) (hm : m ≤ 900000000) :
    Calls Tryz.prog 38 #[.pointer (some ⟨b, 0, none⟩)] w (BodyR (readP L).1 w0 b tb pb qa (m + L.length + 1) (readP L).2 w) := by
  have hlt := h.rb.lt
  obtain ⟨s0, hs0⟩ : ∃ s0 : RS, s0 = ⟨L, noW⟩ := ⟨_, rfl⟩
  have HS0 := Lib.hid hs0
  rw [← hs0] at h
  have hLl : L.length ≤ 2000000 := by have := h.inn.len; rw [hs0] at this; exact this
  have Hn := Lib.hid (want_any policyW b (T0.c pb) s0 _ h.rb h.inn.len)
  have HR0 := Lib.hid h
  clear h hs0
  go_enter Tryz.func38, Tryz.ntmps38
  go_wp2_with fail
  refine Hn.out.mono ?_
  clear Hn
  rintro e w1 ⟨rfl, hr1, hg1⟩
  have hs1 := HR0.out.small hr1 hg1 (wn_sub policyW s0)
  have HR1 := Lib.hid hs1.1
  have HK1 := Lib.hid hs1.2
  have Ho := Lib.hid (ownName_any b (T0.c pb) (wnS policyW s0) _ hs1.1.rb hs1.1.inn)
  clear hr1 hg1 hs1
  go_wp2_with fail
  refine Ho.out.mono ?_
  clear Ho
  rintro e w2 ⟨rfl, hr2, hg2⟩
  have hs2 := HR1.out.small hr2 hg2 (show Sub (owS (wnS policyW s0)) (wnS policyW s0) by unfold owS; split; exact nm_sub _; exact fl_sub (nm_sub _) _ _)
  obtain ⟨nm, hnm⟩ : ∃ nm, nm = (nx (wnS policyW s0)).t := ⟨_, rfl⟩
  have HNm := Lib.hid hnm
  have hnml : nm.length ≤ 65536 := by rw [hnm]; exact HR1.out.inn.nx.2.2
  rw [← hnm]
  obtain ⟨_, _, hbk, _⟩ := hr2.blk
  have z2 := hbk.cell 2 rfl
  have zf := hbk.fz 2
  have zl := hbk.lt
  have hp := hs2.1.put (j := 2) (v := .string ⟨nm.toArray⟩) (T' := { T0 with nm := nm }) (fun _ _ => rfl) rfl rfl rfl rfl rfl rfl (sz_name hs2.1.sz hnml)
  have HR2 := Lib.hid hp.1
  have HK2 := Lib.hid ((HK1.out.trans hs2.2).trans hp.2)
  have Hn := Lib.hid (take_any 0 b (TV.c { T0 with nm := nm } pb) (owS (wnS policyW s0)) _ hp.1.rb hp.1.inn.len)
  clear hr2 hg2 hs2 hbk hp hnm
  go_wp2_with fail
  refine Hn.out.mono ?_
  clear Hn z2 zf zl
  rintro e w3 ⟨rfl, hr3, hg3⟩
  have hs3 := HR2.out.small hr3 hg3 (tk_sub 0 _)
  have HR3 := Lib.hid (show Rr w0 b tb pb qa w3 m { T0 with nm := nm } (hd2 s0) from hs3.1)
  have HK3 := Lib.hid (HK2.out.trans hs3.2)
  have Hn := Lib.hid (want_any defaultW b (TV.c { T0 with nm := nm } pb) (hd2 s0) _ HR3.out.rb HR3.out.inn.len)
  clear hr3 hg3 hs3
  go_wp2_with fail
  refine Hn.out.mono ?_
  clear Hn
  rintro e w4 ⟨rfl, hr4, hg4⟩
  have hs4 := HR3.out.small hr4 hg4 (wn_sub defaultW _)
  have HR4 := Lib.hid hs4.1
  have HK4 := Lib.hid (HK3.out.trans hs4.2)
  have Ha := Lib.hid (action_any b (TV.c { T0 with nm := nm } pb) (wnS defaultW (hd2 s0)) _ hs4.1.rb hs4.1.inn)
  clear hr4 hg4 hs4
  go_wp2_with fail
  refine Ha.out.mono ?_
  clear Ha
  rintro e w5 ⟨rfl, hr5, hg5⟩
  have hs5 := HR4.out.small hr5 hg5 (act_sub _)
  obtain ⟨d, hd⟩ : ∃ d, d = actV (wnS defaultW (hd2 s0)) := ⟨_, rfl⟩
  have HDd := Lib.hid hd
  have hdl : d < 4294967296 := by rw [hd]; exact actV_lt _
  rw [← hd]
  obtain ⟨_, _, hbk, _⟩ := hr5.blk
  have z3 := hbk.cell 3 rfl
  have zf := hbk.fz 3
  have zl := hbk.lt
  have hp := hs5.1.put (j := 3) (v := .int .u32 d) (T' := { T0 with nm := nm, d := d }) (fun _ _ => rfl) rfl rfl rfl rfl rfl rfl (sz_dflt hs5.1.sz hdl)
  have HR5 := Lib.hid hp.1
  have HK5 := Lib.hid ((HK4.out.trans hs5.2).trans hp.2)
  have Hn := Lib.hid (take_any 0 b (TV.c { T0 with nm := nm, d := d } pb) (actS (wnS defaultW (hd2 s0))) _ hp.1.rb hp.1.inn.len)
  clear hr5 hg5 hs5 hbk hp hd
  go_wp2_with fail
  refine Hn.out.mono ?_
  clear Hn z3 zf zl
  rintro e w6 ⟨rfl, hr6, hg6⟩
  have hs6 := HR5.out.small hr6 hg6 (tk_sub 0 _)
  have HR6 := Lib.hid (show Rr w0 b tb pb qa w6 m { T0 with nm := nm, d := d } (hdE s0) from hs6.1)
  have HK6 := Lib.hid (HK5.out.trans hs6.2)
  have HD0 := Lib.hid (show readP L = linesF (L.length + 1) (TV.m { T0 with nm := nm, d := d }) (hdE s0) by unfold readP; rw [← HS0.out]; unfold hdV; rw [← HNm.out, ← HDd.out]; rfl)
  have HF0 := Lib.hid (show (hdE s0).left.length < L.length + 1 by have := (hdE_sub s0).len; rw [HS0.out] at this ⊢; exact Nat.lt_succ_of_le this)
  clear hr6 hg6 hs6
  go_wp2_with fail
  go_loopg [] (L.length + 1) (fun g wx => ∃ (T : TV) (s' : RS), Hid (readP L = linesF g T.m s') ∧ Hid (s'.left.length < g) ∧ Hid (g ≤ L.length + 1) ∧ Hid ((T.rs.length ≤ 64 ∧ T.pt.length ≤ 32 ∧ T.po.length ≤ 32) ∨ s'.left = []) ∧ Hid (Rr w0 b tb pb qa wx (m + (L.length + 1 - g)) T s') ∧ Hid (KT w wx))
  case atStart => exact ⟨_, _, HD0.out, HF0.out, Nat.le_refl _, .inl ⟨Nat.zero_le _, Nat.zero_le _, Nat.zero_le _⟩, by rw [Nat.sub_self]; exact HR6.out, HK6.out⟩
  case round =>
    clear HD0 HF0 HR6 HK6
    obtain ⟨T, s', HD, HF, HGl, H6, HR, HK⟩ := hrel
    cases gk with
    | zero => exact absurd HF.out (by omega)
    | succ g =>
      obtain ⟨A, cap, hbk, hcap, _⟩ := HR.out.rb.blk
      have q1 := hbk.cell 1 rfl
      have hbl := hbk.lt
      obtain ⟨n, hn⟩ : ∃ n, n = s'.left.length := ⟨_, rfl⟩
      rw [← hn] at q1
      clear hbk hcap
      by_cases h0 : s'.left = []
      · have hn0 : n = 0 := by rw [hn, h0]; rfl
        have HDD := Lib.hid (show readP L = (T.m, s') by rw [HD.out, linesF, if_pos h0])
        subst hn0
        clear hn h0
        go_wp2_with fail
        go_end0
        exact body_of (p' := T.m) (s' := s') (by rw [HDD.out]) (by rw [HDD.out]) rfl rfl (HR.out.mono (by omega)) HK.out
      · have hn0 : (0 : Int) < (n : Int) := by have := List.length_pos_iff.2 h0; omega
        have hf := H6.out.resolve_right h0
        have HDD := Lib.hid (show readP L = linesF g (lineV T.m s') (lineS T.m s') by rw [HD.out, linesF, if_neg h0])
        have HFF := Lib.hid (show (lineS T.m s').left.length < g by have := line_lt T.m h0; have := HF.out; omega)
        have Hl := Lib.hid (line_any w0 b tb pb _ qa wr T s' HR.out (by omega) (by omega) (by omega) (by omega))
        have HOk := Lib.hid HR.out.inn.bad
        clear hn h0
        go_wp2_with fail
        refine Hl.out.mono ?_
        clear Hl
        rintro e w7 ⟨T1, rfl, hm1, hr7, hk7⟩
        have HR7 := Lib.hid hr7
        have HK7 := Lib.hid (HK.out.trans hk7)
        have HM7 := Lib.hid hm1
        clear hr7 hk7 hm1
        go_wp2_with fail
        go_roundg g
        case rel => exact ⟨T1, _, Lib.hid (by rw [HDD.out, HM7.out]), HFF, by have := HGl.out; show g ≤ _; omega, by
            cases hmy : many T1.m with
            | false => exact .inl (many_few hmy)
            | true =>
              right
              unfold lineS
              rw [← HM7.out, hmy, if_pos rfl]
              exact fl_left (((tk_sub 0 _).trans ((body_sub _ _ _).trans (nm_sub s'))).bad HOk.out) _ _, by have := HR7.out; rwa [show m + (L.length + 1 - (g + 1)) + 1 = m + (L.length + 1 - g) by have := HGl.out; omega] at this, HK7.out⟩
        case measure => omega
end Go.Proofs.YtinofjbnfmalkaaGreatDoor.Pa
