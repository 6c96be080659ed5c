/- The line of what is handled behind its first word; whether there are too many things: the walks. -/
import Derived.Test.YtinofjbnfmalkaaGreatDoorParI
namespace Go.Proofs.YtinofjbnfmalkaaGreatDoor.Pa
open Go.RowKit Go.WideElems Go.Maps
theorem sz_hand {p : PolM} (h : Sz p) (s : RS) : Sz { p with handled := rtV s } := ⟨h.name, h.dflt, h.each, rtV_lt s, h.path, h.port⟩
set_option maxHeartbeats 4000000 in
set_option maxRecDepth 100000 in
theorem handle_any (w0 : World) (b tb pb m : Nat) (qa : Addr) (w : World) (T : TV) (s : RS) (t : Tok) (h : Rr w0 b tb pb qa w m T s) :
    Calls Tryz.prog 103 #[.pointer (some ⟨b, 0, none⟩), .agg #[.int .u8 t.k, .string ⟨t.t.toArray⟩, .int .u64 t.n, .int .i64 t.line, .int .i64 t.col]] w (BodyR { T.m with handled := rtV (hdS T.hd t s) } w0 b tb pb qa m (rtS 51199 (hdS T.hd t s)) w) := by
  have hlt := h.rb.lt
  have HR1 := Lib.hid (h.alloc (.cells #[.int .u8 t.k, .string ⟨t.t.toArray⟩, .int .u64 t.n, .int .i64 t.line, .int .i64 t.col] 182))
  have HK1 := Lib.hid (KT.below (oneb w (.cells #[.int .u8 t.k, .string ⟨t.t.toArray⟩, .int .u64 t.n, .int .i64 t.line, .int .i64 t.col] 182)))
  have q5 : w.cell? ⟨b, 5, none⟩ = some (.int .u16 T.hd) := by obtain ⟨_, _, hq, _⟩ := h.rb.blk; exact hq.cell 5 rfl
  clear h
  by_cases h0 : T.hd = 0
  · have HS := Lib.hid (show hdS T.hd t s = s by unfold hdS; rw [if_pos h0])
    have g0 : ((T.hd : Int) != 0) = false := by rw [bne_eq_false_iff_eq]; omega
    have Hr := Lib.hid (rights_any 51199 pb tb qa b (T.c pb) s _ HR1.out.rb HR1.out.inn HR1.out.ev HR1.out.pz rfl (by decide))
    clear h0
    go_enter Tryz.func103, Tryz.ntmps103
    go_wp2_with fail
    refine Hr.out.mono ?_
    clear Hr
    rintro e w2 ⟨rfl, hr2, hg2⟩
    have hs2 := HR1.out.small hr2 hg2 (rt_sub _ _)
    obtain ⟨_, _, hbk, _⟩ := hr2.blk
    have z5 := hbk.cell 5 rfl
    have zf := hbk.fz 5
    have zl := hbk.lt
    have hp := hs2.1.put (j := 5) (v := .int .u16 (rtV s : Nat)) (T' := { T with hd := rtV s }) (fun _ _ => rfl) rfl rfl rfl rfl rfl rfl (sz_hand hs2.1.sz s)
    have HP := Lib.hid hp
    have HK2 := Lib.hid ((HK1.out.trans hs2.2).trans hp.2)
    clear hr2 hg2 hs2 hbk hp
    go_wp2_with fail
    go_end0
    exact body_of (T := { T with hd := rtV s }) (p' := { T.m with handled := rtV s }) (s' := rtS 51199 s) (by rw [HS.out]) (by rw [HS.out]) rfl rfl HP.out.1 HK2.out
  · have HS := Lib.hid (show hdS T.hd t s = fl s t 206 by unfold hdS; rw [if_neg h0])
    have g0 : ((T.hd : Int) != 0) = true := by rw [bne_iff_ne]; omega
    have Hf := Lib.hid (fail_any' b (T.c pb) s t 206 _ HR1.out.rb)
    clear h0
    go_enter Tryz.func103, Tryz.ntmps103
    go_wp2_with fail
    refine Hf.out.mono ?_
    clear Hf
    rintro e w2 ⟨rfl, hr2, hg2⟩
    have hs2 := HR1.out.small hr2 hg2 (fl_sub (Sub.refl _) _ _)
    have HR2 := Lib.hid hs2.1
    have HK2 := Lib.hid (HK1.out.trans hs2.2)
    have Hr := Lib.hid (rights_any 51199 pb tb qa b (T.c pb) (fl s t 206) _ HR2.out.rb HR2.out.inn HR2.out.ev HR2.out.pz rfl (by decide))
    clear hr2 hg2 hs2
    go_wp2_with fail
    refine Hr.out.mono ?_
    clear Hr
    rintro e w3 ⟨rfl, hr3, hg3⟩
    have hs3 := HR2.out.small hr3 hg3 (rt_sub _ _)
    obtain ⟨_, _, hbk, _⟩ := hr3.blk
    have z5 := hbk.cell 5 rfl
    have zf := hbk.fz 5
    have zl := hbk.lt
    have hp := hs3.1.put (j := 5) (v := .int .u16 (rtV (fl s t 206) : Nat)) (T' := { T with hd := rtV (fl s t 206) }) (fun _ _ => rfl) rfl rfl rfl rfl rfl rfl (sz_hand hs3.1.sz _)
    have HP := Lib.hid hp
    have HK3 := Lib.hid ((HK2.out.trans hs3.2).trans hp.2)
    clear hr3 hg3 hs3 hbk hp
    go_wp2_with fail
    go_end0
    exact body_of (T := { T with hd := rtV (fl s t 206) }) (p' := { T.m with handled := rtV (fl s t 206) }) (s' := rtS 51199 (fl s t 206)) (by rw [HS.out]) (by rw [HS.out]) rfl rfl HP.out.1 HK3.out
set_option maxHeartbeats 4000000 in
set_option maxRecDepth 100000 in
theorem tooMany_any (w0 : World) (b tb pb m : Nat) (qa : Addr) (w : World) (T : TV) (s : RS) (h : Rr w0 b tb pb qa w m T s) : Calls Tryz.prog 106 #[.pointer (some ⟨b, 0, none⟩)] w fun e w' => e = .returned (.bool (many T.m)) ∧ w = w' := by
  have hlt := h.rb.lt
  obtain ⟨_, _, hq, _⟩ := h.rb.blk
  have q4 := hq.cell 4 rfl
  have q6 := hq.cell 6 rfl
  have q7 := hq.cell 7 rfl
  obtain ⟨A1, c1, e1, _⟩ := own_typed h.r
  obtain ⟨A2, c2, e2, _⟩ := own_typed h.p
  obtain ⟨A3, c3, e3, _⟩ := own_typed h.q
  have hM : many T.m = (decide (64 < T.rs.length) || (decide (32 < T.pt.length) || decide (32 < T.po.length))) := by unfold many TV.m; simp
  obtain ⟨n1, hn1⟩ : ∃ n, n = T.rs.length := ⟨_, rfl⟩
  obtain ⟨n2, hn2⟩ : ∃ n, n = T.pt.length := ⟨_, rfl⟩
  obtain ⟨n3, hn3⟩ : ∃ n, n = T.po.length := ⟨_, rfl⟩
  rw [show (T.c pb).rv = T.rv from rfl, e1, ← hn1] at q4
  rw [show (T.c pb).bv = T.bv from rfl, e2, ← hn2] at q6
  rw [show (T.c pb).qv = T.qv from rfl, e3, ← hn3] at q7
  rw [← hn1, ← hn2, ← hn3] at hM
  have HM := Lib.hid hM
  clear h hq e1 e2 e3 hn1 hn2 hn3 hM
  by_cases h1 : 64 < n1
  · have HV := Lib.hid (show many T.m = true by rw [HM.out, decide_eq_true h1]; rfl)
    have g1 : (64 : Int) < (n1 : Int) := by omega
    have g2 : decide ((64 : Int) < (n1 : Int)) = true := decide_eq_true g1
    clear h1
    go_enter Tryz.func106, Tryz.ntmps106
    go_wp2_with fail
    go_ret
    exact ⟨by rw [HV.out]; rfl, rfl⟩
  have g1 : ¬ (64 : Int) < (n1 : Int) := by omega
  have g2 : decide ((64 : Int) < (n1 : Int)) = false := decide_eq_false g1
  by_cases h2 : 32 < n2
  · have HV := Lib.hid (show many T.m = true by rw [HM.out, decide_eq_false h1, decide_eq_true h2]; rfl)
    have g3 : (32 : Int) < (n2 : Int) := by omega
    have g4 : decide ((32 : Int) < (n2 : Int)) = true := decide_eq_true g3
    clear h1 h2
    go_enter Tryz.func106, Tryz.ntmps106
    go_wp2_with fail
    go_ret
    exact ⟨by rw [HV.out]; rfl, rfl⟩
  have g3 : ¬ (32 : Int) < (n2 : Int) := by omega
  have g4 : decide ((32 : Int) < (n2 : Int)) = false := decide_eq_false g3
  by_cases h3 : 32 < n3
  · have HV := Lib.hid (show many T.m = true by rw [HM.out, decide_eq_false h1, decide_eq_false h2, decide_eq_true h3]; rfl)
    have g5 : (32 : Int) < (n3 : Int) := by omega
    have g6 : decide ((32 : Int) < (n3 : Int)) = true := decide_eq_true g5
    clear h1 h2 h3
    go_enter Tryz.func106, Tryz.ntmps106
    go_wp2_with fail
    go_ret
    exact ⟨by rw [HV.out]; first | rfl | (rw [g6]; rfl), rfl⟩
  · have HV := Lib.hid (show many T.m = false by rw [HM.out, decide_eq_false h1, decide_eq_false h2, decide_eq_false h3]; rfl)
    have g5 : ¬ (32 : Int) < (n3 : Int) := by omega
    have g6 : decide ((32 : Int) < (n3 : Int)) = false := decide_eq_false g5
    clear h1 h2 h3
    go_enter Tryz.func106, Tryz.ntmps106
    go_wp2_with fail
    go_ret
    exact ⟨by rw [HV.out]; first | rfl | (rw [g6]; rfl), rfl⟩
end Go.Proofs.YtinofjbnfmalkaaGreatDoor.Pa
