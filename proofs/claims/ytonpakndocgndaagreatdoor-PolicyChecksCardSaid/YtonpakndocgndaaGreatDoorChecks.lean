/- Any policy, whether it may be: the walk. -/
import Derived.Test.YtonpakndocgndaaGreatDoorBent
import Derived.Deep.CutBlock
import Derived.Deep.CutRange
namespace Go.Proofs.YtonpakndocgndaaGreatDoor
open Go.RowKit Go.WideElems Go.Maps Go.WideMaps Go.ChangeMaps
theorem six_cells {w : World} {g t k : Nat} {l : List PolV} {x : PolV} (h : Bk w g t (l.flatMap polL)) (hx : l[k]? = some x) :
    w.cell? ⟨g, k * 6, none⟩ = some (.string ⟨x.name.toArray⟩) ∧ w.cell? ⟨g, k * 6 + 1, none⟩ = some (.int .u32 x.dflt) ∧ w.cell? ⟨g, k * 6 + 2, none⟩ = some (.slice x.RA x.rules.length x.Rc) ∧ w.cell? ⟨g, k * 6 + 3, none⟩ = some (.int .u16 x.handled) ∧ w.cell? ⟨g, k * 6 + 4, none⟩ = some (.slice x.PA x.paths.length x.Pc) ∧ w.cell? ⟨g, k * 6 + 5, none⟩ = some (.slice x.QA x.ports.length x.Qc) := by
  have hh : ∀ j, j < 6 → ∀ v, (polL x)[j]? = some v → w.cell? ⟨g, k * 6 + j, none⟩ = some v := fun j hj v hv => h.cell _ (by rw [flatz polL 6 (fun _ => rfl) (by omega) l k j hj, hx]; exact hv)
  exact ⟨hh 0 (by omega) _ rfl, hh 1 (by omega) _ rfl, hh 2 (by omega) _ rfl, hh 3 (by omega) _ rfl, hh 4 (by omega) _ rfl, hh 5 (by omega) _ rfl⟩
/-- A policy of small numbers: it may be. -/
theorem sm_polE {nm : Bs} {act : Nat} {rs : List RuleV} {hd : Nat} {pt : List (Bs × Nat)} {po : List (Nat × Nat)} (h : SmOk nm act rs hd pt po) : polE ⟨nm, act, rs.map RuleV.m, hd, pt, po⟩ = 0 := by
  have h1 := h.path.len
  have h2 := h.port.len
  have h3 := h.many
  have e1 : firstE (fun _ r => ruleE r) 0 (rs.map RuleV.m) = 0 := firstE_zero _ _ _ (fun i x hx => by
    rw [List.getElem?_map] at hx
    obtain ⟨y, hy, rfl⟩ := Option.map_eq_some_iff.1 hx
    exact (h.rule y (List.mem_of_getElem? hy)).1)
  have nodup_take : ∀ {α : Type} (l : List (α × Nat)) (i : Nat) (x : α × Nat), [DecidableEq α] → (l.map Prod.fst).Nodup → l[i]? = some x → ((l.take i).any fun y => decide (y.1 = x.1)) = false := by
    intro α l i x _ hn hx
    rw [List.any_eq_false]
    intro y hy
    obtain ⟨j, hj⟩ := List.getElem?_of_mem hy
    rw [List.getElem?_take] at hj
    split at hj
    · rename_i hji
      intro he
      have he : y.1 = x.1 := by simpa using he
      have hjl := (List.getElem?_eq_some_iff.1 hj).1
      have hil := (List.getElem?_eq_some_iff.1 hx).1
      have hp := List.pairwise_iff_getElem.1 hn j i (by simpa using hjl) (by simpa using hil) hji
      apply hp
      simp only [List.getElem_map]
      rw [(List.getElem?_eq_some_iff.1 hj).2, (List.getElem?_eq_some_iff.1 hx).2]
      exact he
    · cases hj
  have e2 : firstE (pathE pt hd) 0 pt = 0 := firstE_zero _ _ _ (fun i x hx => by
    have hx1 := h.path.each x (List.mem_of_getElem? hx)
    rw [Nat.zero_add]
    unfold pathE
    rw [if_neg (by rw [dirs6_path x.1 hx1.1]; simp), if_neg (by rw [hx1.2.1]; simp), if_neg (by rw [nodup_take pt i x h.path.once hx]; simp)])
  have e3 : firstE (portE po hd) 0 po = 0 := firstE_zero _ _ _ (fun i x hx => by
    have hx1 := h.port.each x (List.mem_of_getElem? hx)
    rw [Nat.zero_add]
    unfold portE
    rw [if_neg (by rw [hx1.2.1]; simp), if_neg (by rw [nodup_take po i x h.port.once hx]; simp)])
  unfold polE
  simp only
  rw [if_neg (by rw [h.name]; simp), if_neg (by rw [h.actOk]; simp), if_neg (by rw [List.length_map]; omega), if_neg (by rw [h.valid]; simp), e1, e2, e3]
  rfl
theorem sm_fine {nm : Bs} {act : Nat} {rs : List RuleV} {hd : Nat} {pt : List (Bs × Nat)} {po : List (Nat × Nat)} {RA PA QA : Option Addr} {Rc Pc Qc : Nat} (h : SmOk nm act rs hd pt po) (hP : pt.length ≤ Pc) (hQ : po.length ≤ Qc) : Fine ⟨nm, act, rs, RA, Rc, hd, pt, PA, Pc, po, QA, Qc⟩ := by
  have h1 := h.path.len
  have h2 := h.port.len
  have h3 := h.many
  have h4 := h.short
  exact ⟨show nm.length ≤ maxLen by unfold maxLen; omega, h.act32, show rs.length ≤ 80 by omega, fun r hr => ⟨(h.rule r hr).2.2, by have := (h.rule r hr).2.1; omega⟩, h.hd16, show pt.length ≤ 50 by omega,
    fun x hx => ⟨by have := dirs6_ok x.1 (h.path.each x hx).1; unfold maxLen; omega, (h.path.each x hx).2.2⟩, show po.length ≤ 50 by omega, fun x hx => ⟨by have := (h.port.each x hx).1; omega, (h.port.each x hx).2.2⟩, ⟨hP, hQ⟩⟩
theorem le_many {n : Nat} (h : n ≤ 80) : n ≤ maxLen := by unfold maxLen; omega
theorem same_len {rs rs' : List RuleV} {n : Nat} (h : rs'.map RuleV.m = rs.map RuleV.m) (hn : n = rs.length) : rs'.length = n := by
  have := congrArg List.length h
  simp only [List.length_map] at this
  omega
theorem same_ok {rs rs' : List RuleV} (h : rs'.map RuleV.m = rs.map RuleV.m) (hk : ∀ r ∈ rs, r.m.ok) : ∀ r ∈ rs', r.m.ok := by
  intro r hr
  have : r.m ∈ rs.map RuleV.m := by rw [← h]; exact List.mem_map.2 ⟨r, hr, rfl⟩
  obtain ⟨y, hy, he⟩ := List.mem_map.1 this
  rw [← he]; exact hk y hy
set_option maxHeartbeats 16000000 in
set_option maxRecDepth 100000 in
theorem checks_any (nm : Bs) (dflt : Nat) (rules : List RuleV) (RA : Option Addr) (nR Rc hd : Nat) (paths : List (Bs × Nat)) (PA : Option Addr) (nP Pc : Nat) (ports : List (Nat × Nat)) (QA : Option Addr) (nQ Qc : Nat)
    (ni df er hh : Nat) (SA : Option Addr) (sn sc : Nat) (DA : Option Addr) (dn dc : Nat) (GA : Option Addr) (gn gc : Nat) (KA : Option Addr) (kn kc : Nat) (c : CondM) (what n : Nat) (w : World)
    (hnR : rules.length = nR) (hnP : paths.length = nP) (hnQ : ports.length = nQ) (hnm : nm.length ≤ maxLen) (hdf : dflt < 4294967296) (hlR : nR ≤ maxLen) (hlP : nP ≤ maxLen) (hlQ : nQ ≤ maxLen) (hhd : hd < 65536) (hcP : nP ≤ Pc) (hcQ : nQ ≤ Qc)
    (hru : ∀ r ∈ rules, r.m.ok) (hpa : ∀ x ∈ paths, x.1.length ≤ maxLen ∧ x.2 < 65536) (hpo : ∀ x ∈ ports, x.1 < 65536 ∧ x.2 < 65536) (hR : Reads w ⟨nm, dflt, rules, RA, Rc, hd, paths, PA, Pc, ports, QA, Qc⟩)
    (hsm : ∀ W, Below w.heap.size w W → Calls Tryz.prog 7 #[.agg #[.int .u8 ni, .int .u8 df, .int .u8 er, .slice SA sn sc, .int .u16 hh, .slice DA dn dc, .slice GA gn gc, .slice KA kn kc]] W (SmPost W)) (hc : c.ok) (hwh : what < 256) (hn : n < 65536) (hE : Env w) :
    Calls Tryz.prog 3 #[.agg #[.string ⟨nm.toArray⟩, .int .u32 dflt, .slice RA nR Rc, .int .u16 hd, .slice PA nP Pc, .slice QA nQ Qc], .agg #[.int .u8 ni, .int .u8 df, .int .u8 er, .slice SA sn sc, .int .u16 hh, .slice DA dn dc, .slice GA gn gc, .slice KA kn kc], .agg #[.int .i64 c.arg, .int .u8 c.op, .int .u64 c.mask, .int .u64 c.val], .int .u8 what, .int .u16 n] w (BoolPost true w) := by
  have hb0 := oneb w (.cells #[.string ⟨nm.toArray⟩, .int .u32 dflt, .slice RA nR Rc, .int .u16 hd, .slice PA nP Pc, .slice QA nQ Qc] 30)
  have hk0 := Bk.new w 30 #[.string ⟨nm.toArray⟩, .int .u32 dflt, .slice RA nR Rc, .int .u16 hd, .slice PA nP Pc, .slice QA nQ Qc] (l := [.string ⟨nm.toArray⟩, .int .u32 dflt, .slice RA nR Rc, .int .u16 hd, .slice PA nP Pc, .slice QA nQ Qc]) rfl
  have HR := Lib.hid hR
  have HE := Lib.hid hE
  have Hsm := Lib.hid hsm
  have Hru := Lib.hid hru
  have Hpa := Lib.hid hpa
  have Hpo := Lib.hid hpo
  have HnR := Lib.hid hnR
  have HnP := Lib.hid hnP
  have HnQ := Lib.hid hnQ
  have HlR := Lib.hid hlR
  have HlP := Lib.hid hlP
  have HlQ := Lib.hid hlQ
  have Hnm := Lib.hid hnm
  have Hdf := Lib.hid hdf
  have HcP := Lib.hid hcP
  have HcQ := Lib.hid hcQ
  have Hc := Lib.hid hc
  clear hR hE hsm hru hpa hpo hnR hnP hnQ hlR hlP hlQ hnm hdf hcP hcQ hc
  go_enter Tryz.func3, Tryz.ntmps3
  go_wp2_with fail
  have hs1 : (w.alloc (.cells #[.string ⟨nm.toArray⟩, .int .u32 dflt, .slice RA nR Rc, .int .u16 hd, .slice PA nP Pc, .slice QA nQ Qc] 30)).heap.size = w.heap.size + 1 := by simp
  generalize w.alloc _ = w1 at hb0 hk0 hs1 ⊢
  have hb1 := hb0.trans ((oneb w1 (.cells #[.int .u8 ni, .int .u8 df, .int .u8 er, .slice SA sn sc, .int .u16 hh, .slice DA dn dc, .slice GA gn gc, .slice KA kn kc] 35)).mono hb0.size)
  have hk01 := hk0.kept (oneb w1 (.cells #[.int .u8 ni, .int .u8 df, .int .u8 er, .slice SA sn sc, .int .u16 hh, .slice DA dn dc, .slice GA gn gc, .slice KA kn kc] 35))
  have hk1 := Bk.new w1 35 #[.int .u8 ni, .int .u8 df, .int .u8 er, .slice SA sn sc, .int .u16 hh, .slice DA dn dc, .slice GA gn gc, .slice KA kn kc] (l := [.int .u8 ni, .int .u8 df, .int .u8 er, .slice SA sn sc, .int .u16 hh, .slice DA dn dc, .slice GA gn gc, .slice KA kn kc]) rfl
  have hs2 : (w1.alloc (.cells #[.int .u8 ni, .int .u8 df, .int .u8 er, .slice SA sn sc, .int .u16 hh, .slice DA dn dc, .slice GA gn gc, .slice KA kn kc] 35)).heap.size = w.heap.size + 1 + 1 := by simp [hs1]
  rw [hs1] at hk1
  generalize w1.alloc _ = w2 at hb1 hk01 hk1 hs2 ⊢
  have hb2 := hb1.trans ((oneb w2 (.cells #[.int .i64 c.arg, .int .u8 c.op, .int .u64 c.mask, .int .u64 c.val] 39)).mono hb1.size)
  have hk02 := hk01.kept (oneb w2 (.cells #[.int .i64 c.arg, .int .u8 c.op, .int .u64 c.mask, .int .u64 c.val] 39))
  have hk12 := hk1.kept (oneb w2 (.cells #[.int .i64 c.arg, .int .u8 c.op, .int .u64 c.mask, .int .u64 c.val] 39))
  have hk2 := Bk.new w2 39 #[.int .i64 c.arg, .int .u8 c.op, .int .u64 c.mask, .int .u64 c.val] (l := [.int .i64 c.arg, .int .u8 c.op, .int .u64 c.mask, .int .u64 c.val]) rfl
  have hs3 : (w2.alloc (.cells #[.int .i64 c.arg, .int .u8 c.op, .int .u64 c.mask, .int .u64 c.val] 39)).heap.size = w.heap.size + 1 + 1 + 1 := by simp [hs2]
  rw [hs2] at hk2
  generalize w2.alloc _ = w3 at hb2 hk02 hk12 hk2 hs3 ⊢
  refine (awake_any _ (HE.out.below hb2)).mono ?_
  rintro e w4 ⟨rfl, hb4⟩
  have HB4 := Lib.hid (hb2.trans (hb4.mono hb2.size))
  have HK0 := Lib.hid (hk02.kept hb4)
  have HK1 := Lib.hid (hk12.kept hb4)
  have HK2 := Lib.hid (hk2.kept hb4)
  have hs4 : w.heap.size + 1 + 1 + 1 ≤ w4.heap.size := by have := hb4.size; omega

  have p0 := HK0.out.cell 0 rfl
  have p1 := HK0.out.cell 1 rfl
  have p2 := HK0.out.cell 2 rfl
  have p3 := HK0.out.cell 3 rfl
  have p4 := HK0.out.cell 4 rfl
  have p5 := HK0.out.cell 5 rfl
  clear hb0 hk0 hb1 hk01 hk1 hs1 hb2 hk02 hk12 hk2 hs2 hb4 hs3
  have hfw := Lib.hid (few_any nm dflt rules RA nR Rc hd paths PA nP Pc ports QA nQ Qc w4 HnR.out HnP.out HnQ.out HlR.out HlP.out HlQ.out (fun r hr => (Hru.out r hr).2.2.1) (fun x hx => (Hpa.out x hx).1) (HR.out.below HB4.out))
  go_wp2_with fail
  refine hfw.out.mono ?_
  clear hfw p0 p1 p2 p3 p4 p5
  rintro e w5 ⟨⟨b, rfl, hfew⟩, hb5⟩
  have HB5 := Lib.hid (HB4.out.trans (hb5.mono HB4.out.size))
  have HK0a := Lib.hid (HK0.out.kept hb5)
  have HK1a := Lib.hid (HK1.out.kept hb5)
  have HK2a := Lib.hid (HK2.out.kept hb5)
  have hs5 : w.heap.size + 1 + 1 + 1 ≤ w5.heap.size := Nat.le_trans hs4 hb5.size
  have Hfew := Lib.hid hfew
  clear hb5 hfew
  cases b with
  | false =>
    go_wp2_with fail
    go_ret
    exact ⟨rfl, HB5.out⟩
  | true =>
  have HFew := Lib.hid (Hfew.out rfl)
  go_wp2_with fail
  refine (new_any _).mono ?_
  rintro e w6 ⟨rfl, hT, ob, hw6⟩
  have hb6 : Below w5.heap.size w5 w6 := by rw [hw6]; exact oneb w5 ob
  have HT6 := Lib.hid (show TS w6 w5.heap.size 0 from ⟨0, by omega, by omega, hT⟩)
  have HB6 := Lib.hid (HB5.out.trans (hb6.mono HB5.out.size))
  have HK06 := Lib.hid (HK0a.out.kept hb6)
  have HK16 := Lib.hid (HK1a.out.kept hb6)
  have HK26 := Lib.hid (HK2a.out.kept hb6)
  have hs6 : w5.heap.size < w6.heap.size := HT6.out.lt
  clear hT hw6 hb6 HK0 HK1 HK2 HK0a HK1a HK2a HB4
  have s0 := HK16.out.cell 0 rfl
  have s1 := HK16.out.cell 1 rfl
  have s2 := HK16.out.cell 2 rfl
  have s3 := HK16.out.cell 3 rfl
  have s4 := HK16.out.cell 4 rfl
  have s5 := HK16.out.cell 5 rfl
  have s6 := HK16.out.cell 6 rfl
  have s7 := HK16.out.cell 7 rfl
  have hsl := HK16.out.lt
  go_wp2_with fail
  refine (Hsm.out _ HB6.out).mono ?_
  clear s0 s1 s2 s3 s4 s5 s6 s7
  rintro e w7 ⟨qnm, qact, qrs, qRA, qRc, qhd, qpt, qPA, qPc, qpo, qQA, qQc, rfl, hq4, hqok, hb7⟩
  obtain ⟨qnR, hqnR⟩ : ∃ k, k = qrs.length := ⟨_, rfl⟩
  obtain ⟨qnP, hqnP⟩ : ∃ k, k = qpt.length := ⟨_, rfl⟩
  obtain ⟨qnQ, hqnQ⟩ : ∃ k, k = qpo.length := ⟨_, rfl⟩
  rw [← hqnR, ← hqnP, ← hqnQ]
  have HqN := Lib.hid (And.intro hqnR (And.intro hqnP hqnQ))
  have HQ4 := Lib.hid hq4
  have HQok := Lib.hid hqok
  have HB67 := Lib.hid hb7
  have HK17 := Lib.hid (HK16.out.kept hb7)
  have hs7 := hb7.size
  clear hq4 hqok hb7 hqnR hqnP hqnQ
  go_upto_region 7 with fail
  have hkq := Bk.new w7 30 #[.string ⟨qnm.toArray⟩, .int .u32 qact, .slice qRA qnR qRc, .int .u16 qhd, .slice qPA qnP qPc, .slice qQA qnQ qQc] (l := [.string ⟨qnm.toArray⟩, .int .u32 qact, .slice qRA qnR qRc, .int .u16 qhd, .slice qPA qnP qPc, .slice qQA qnQ qQc]) rfl
  have hbq := oneb w7 (.cells #[.string ⟨qnm.toArray⟩, .int .u32 qact, .slice qRA qnR qRc, .int .u16 qhd, .slice qPA qnP qPc, .slice qQA qnQ qQc] 30)
  have hs8 : (w7.alloc (.cells #[.string ⟨qnm.toArray⟩, .int .u32 qact, .slice qRA qnR qRc, .int .u16 qhd, .slice qPA qnP qPc, .slice qQA qnQ qQc] 30)).heap.size = w7.heap.size + 1 := by simp
  generalize w7.alloc _ = w8 at hkq hbq hs8 ⊢
  have HKq8 := Lib.hid hkq
  have HBq := Lib.hid hbq
  have HK18 := HK17.out.kept hbq
  have s0 := HK18.cell 0 rfl
  have s1 := HK18.cell 1 rfl
  have s2 := HK18.cell 2 rfl
  have s3 := HK18.cell 3 rfl
  have s4 := HK18.cell 4 rfl
  have s5 := HK18.cell 5 rfl
  have s6 := HK18.cell 6 rfl
  have s7 := HK18.cell 7 rfl
  have hsl8 := HK18.lt
  have hb8 := HB6.out.trans ((HB67.out.trans (hbq.mono HB67.out.size)).mono HB6.out.size)
  clear hkq hbq HK18
  go_wp2_with fail
  refine (Hsm.out _ hb8).mono ?_
  clear s0 s1 s2 s3 s4 s5 s6 s7 hb8
  rintro e w9 ⟨bnm, bact, brs, bRA, bRc, bhd, bpt, bPA, bPc, bpo, bQA, bQc, rfl, hb4, hbok, hb9⟩
  obtain ⟨bnR, hbnR⟩ : ∃ k, k = brs.length := ⟨_, rfl⟩
  obtain ⟨bnP, hbnP⟩ : ∃ k, k = bpt.length := ⟨_, rfl⟩
  obtain ⟨bnQ, hbnQ⟩ : ∃ k, k = bpo.length := ⟨_, rfl⟩
  rw [← hbnR, ← hbnP, ← hbnQ]
  have HbN := Lib.hid (And.intro hbnR (And.intro hbnP hbnQ))
  have HKq9 := Lib.hid (HKq8.out.kept hb9)
  have HBok := Lib.hid hbok
  have HBb4 := Lib.hid hb4
  have HB89 := Lib.hid hb9
  have hs9 := hb9.size
  clear hb4 hbok hb9 hbnR hbnP hbnQ
  go_upto_region 8 with fail
  have hkb := Bk.new w9 30 #[.string ⟨bnm.toArray⟩, .int .u32 bact, .slice bRA bnR bRc, .int .u16 bhd, .slice bPA bnP bPc, .slice bQA bnQ bQc] (l := [.string ⟨bnm.toArray⟩, .int .u32 bact, .slice bRA bnR bRc, .int .u16 bhd, .slice bPA bnP bPc, .slice bQA bnQ bQc]) rfl
  have hbb := oneb w9 (.cells #[.string ⟨bnm.toArray⟩, .int .u32 bact, .slice bRA bnR bRc, .int .u16 bhd, .slice bPA bnP bPc, .slice bQA bnQ bQc] 30)
  have hsb : (w9.alloc (.cells #[.string ⟨bnm.toArray⟩, .int .u32 bact, .slice bRA bnR bRc, .int .u16 bhd, .slice bPA bnP bPc, .slice bQA bnQ bQc] 30)).heap.size = w9.heap.size + 1 := by simp
  have hrb : RB kP w7 (w9.alloc (.cells #[.string ⟨bnm.toArray⟩, .int .u32 bact, .slice bRA bnR bRc, .int .u16 bhd, .slice bPA bnP bPc, .slice bQA bnQ bQc] 30)) w8.heap.size w7.heap.size w9.heap.size [.string ⟨qnm.toArray⟩, .int .u32 qact, .slice qRA qnR qRc, .int .u16 qhd, .slice qPA qnP qPc, .slice qQA qnQ qQc] (.string ⟨bnm.toArray⟩) (.int .u32 bact) (.slice bRA brs.length bRc) (.int .u16 bhd) (.slice bPA bpt.length bPc) (.slice bQA bpo.length bQc) brs bpt bpo :=
    ⟨by obtain ⟨e1, e2, e3⟩ := HbN.out; rw [← e1, ← e2, ← e3]; exact hkb, HKq9.out.kept hbb, own_below HBb4.out.r hbb, fun x hx => (HBb4.out.c x hx).below hbb, own_below HBb4.out.p hbb, own_below HBb4.out.q hbb, HBq.out.trans ((HB89.out.trans (hbb.mono HB89.out.size)).mono HBq.out.size), ⟨by omega, by omega⟩, by omega, ⟨Nat.le_refl _, by omega⟩⟩
  generalize w9.alloc _ = wa at hkb hbb hsb hrb ⊢
  have HRB := Lib.hid hrb
  have hsa : w9.heap.size < wa.heap.size := by omega
  clear hkb hbb hsb hrb

  obtain ⟨r, hr, hr8⟩ : ∃ r : Nat, (what : Int) % 8 = (r : Int) ∧ r < 8 := ⟨what % 8, by omega, by omega⟩
  go_upto_block 0 with fail
  simp only [hr]
  clear hr
  go_cut [] from 33 to 110 (fun wx => ∃ b : PolV, Hid (Fine b) ∧ Hid (Bk wx w9.heap.size 30 (polL b)) ∧ Hid (Bk wx w7.heap.size 30 [.string ⟨qnm.toArray⟩, .int .u32 qact, .slice qRA qnR qRc, .int .u16 qhd, .slice qPA qnP qPc, .slice qQA qnQ qQc]) ∧ Hid (Below w7.heap.size w7 wx) ∧ Hid (Reads wx b) ∧ Hid (OffP b w5.heap.size))
  case first =>
    have HTy7 := Lib.hid ((HT6.out.kept HB67.out).tyb)
    have HKc := Lib.hid ((HK26.out.kept HB67.out).kept HRB.out.bel)
    have hbm := HBok.out.many
    have HFB := Lib.hid HBok.out.bent
    have hbB : w8.heap.size ≤ wa.heap.size := by omega
    rcases (by omega : r = 0 ∨ r = 1 ∨ r = 2 ∨ r = 3 ∨ r = 4 ∨ r = 5 ∨ r = 6 ∨ r = 7) with hk | hk | hk | hk | hk | hk | hk | hk
    ·
      have g0 : ((r : Int) == 0) = true := by rw [beq_iff_eq]; omega
      clear hk
      have hn32 : n < 4294967296 := by omega
      have hR := HRB.out.out.cell 2 rfl
      have hlw := HRB.out.out.lt
      go_wp2_with (at_builtin; (refine append_one rfl (.tmp 54) (.tmp 58) 24 47 rfl _ 3 32 infoPR Tryz.underlying24 rfl (by decide) (by decide) w8.heap.size _ brs.length (brs.flatMap RuleV.cells) rfl (HRB.out.r.alloc _) wa.heap.size [.int .u32 n, .int .u32 2147483648, .slice none 0 0] rfl rfl (Bk.new wa _ _ rfl) (by intro u hu; simp at hu; rcases hu with rfl | rfl | rfl <;> rfl) (by omega) (by simp; omega) ?_); intro v1 wt hown1 hgrow hat; have hWa := HRB.out.kept (oneb wa (.cells #[.int .u32 n, .int .u32 2147483648, .slice none 0 0] 47)); obtain ⟨_, _, _, _, _, htyv, _⟩ := own_typed hWa.r; have hoa := hWa.out.appended hgrow htyv kP.n4; have z2 := hoa.cell 2 rfl; have zf := hoa.fz 2; have zl := hoa.lt; have HAd := Lib.hid (hWa.addRule ⟨⟨n, 2147483648, []⟩, none, 0⟩ (TRd.nil _ _ _) hown1 hgrow); obtain ⟨A7, c7, hv7, _⟩ := own_typed hown1; subst hv7; clear hown1 hgrow hat hWa htyv hoa)
      go_meet
      case rel => exact bent_of HAd.out (HFB.out.rule hbm ⟨⟨n, 2147483648, []⟩, none, 0⟩ ⟨by show n < _; omega, by show 2147483648 < 4294967296; omega, by simp, by simp⟩ (by simp)) HTy7.out
    ·
      have g0 : ((r : Int) == 0) = false := by rw [beq_eq_false_iff_ne]; omega
      have g1 : ((r : Int) == 1) = true := by rw [beq_iff_eq]; omega
      clear hk
      have hn32 : n < 4294967296 := by omega
      have hR := HRB.out.out.cell 2 rfl
      have hlw := HRB.out.out.lt
      go_wp2_with (at_builtin; (refine append_one rfl (.tmp 64) (.tmp 68) 24 47 rfl _ 3 32 infoPR Tryz.underlying24 rfl (by decide) (by decide) w8.heap.size _ brs.length (brs.flatMap RuleV.cells) rfl (HRB.out.r.alloc _) wa.heap.size [.int .u32 2, .int .u32 n, .slice none 0 0] rfl rfl (Bk.new wa _ _ rfl) (by intro u hu; simp at hu; rcases hu with rfl | rfl | rfl <;> rfl) (by omega) (by simp; omega) ?_); intro v1 wt hown1 hgrow hat; have hWa := HRB.out.kept (oneb wa (.cells #[.int .u32 2, .int .u32 n, .slice none 0 0] 47)); obtain ⟨_, _, _, _, _, htyv, _⟩ := own_typed hWa.r; have hoa := hWa.out.appended hgrow htyv kP.n4; have z2 := hoa.cell 2 rfl; have zf := hoa.fz 2; have zl := hoa.lt; have HAd := Lib.hid (hWa.addRule ⟨⟨2, n, []⟩, none, 0⟩ (TRd.nil _ _ _) hown1 hgrow); obtain ⟨A7, c7, hv7, _⟩ := own_typed hown1; subst hv7; clear hown1 hgrow hat hWa htyv hoa)
      go_meet
      case rel => exact bent_of HAd.out (HFB.out.rule hbm ⟨⟨2, n, []⟩, none, 0⟩ ⟨by show 2 < 4294967296; omega, by show n < _; omega, by simp, by simp⟩ (by simp)) HTy7.out
    ·
      have g0 : ((r : Int) == 0) = false := by rw [beq_eq_false_iff_ne]; omega
      have g1 : ((r : Int) == 1) = false := by rw [beq_eq_false_iff_ne]; omega
      have g2 : ((r : Int) == 2) = true := by rw [beq_iff_eq]; omega
      clear hk
      have hR := HRB.out.out.cell 2 rfl
      have hlw := HRB.out.out.lt
      have d0 := HKc.out.cell 0 rfl
      have d1 := HKc.out.cell 1 rfl
      have d2 := HKc.out.cell 2 rfl
      have d3 := HKc.out.cell 3 rfl
      have hlc := HKc.out.lt
      have HN2 := Lib.hid (show Bk ((wa.alloc (.cells #[.int .i64 c.arg, .int .u8 c.op, .int .u64 c.mask, .int .u64 c.val] 39)).alloc (.cells #[.int .u32 2, .int .u32 2147221504, .slice (some ⟨wa.heap.size, 0, none⟩) 1 1] 47)) (wa.heap.size + 1) 47 [.int .u32 2, .int .u32 2147221504, .slice (some ⟨wa.heap.size, 0, none⟩) 1 1] by
        have h := Bk.new (wa.alloc (.cells #[.int .i64 c.arg, .int .u8 c.op, .int .u64 c.mask, .int .u64 c.val] 39)) 47 #[.int .u32 2, .int .u32 2147221504, .slice (some ⟨wa.heap.size, 0, none⟩) 1 1] (l := [.int .u32 2, .int .u32 2147221504, .slice (some ⟨wa.heap.size, 0, none⟩) 1 1]) rfl
        rw [show (wa.alloc (.cells #[.int .i64 c.arg, .int .u8 c.op, .int .u64 c.mask, .int .u64 c.val] 39)).heap.size = wa.heap.size + 1 by simp] at h
        exact h)
      have HW1 := Lib.hid (HRB.out.kept (oneb wa (.cells #[.int .i64 c.arg, .int .u8 c.op, .int .u64 c.mask, .int .u64 c.val] 39)))
      have HC1 := Lib.hid (one_cond (c := c) ((Bk.new wa 39 #[.int .i64 c.arg, .int .u8 c.op, .int .u64 c.mask, .int .u64 c.val] (l := c.cells) rfl).kept (oneb (wa.alloc (.cells #[.int .i64 c.arg, .int .u8 c.op, .int .u64 c.mask, .int .u64 c.val] 39)) (.cells #[.int .u32 2, .int .u32 2147221504, .slice (some ⟨wa.heap.size, 0, none⟩) 1 1] 47))))
      go_wp2_with (at_builtin; (refine append_one rfl (.tmp 74) (.tmp 78) 24 47 rfl _ 3 32 infoPR Tryz.underlying24 rfl (by decide) (by decide) w8.heap.size _ brs.length (brs.flatMap RuleV.cells) rfl (HW1.out.r.alloc _) (wa.heap.size + 1) [.int .u32 2, .int .u32 2147221504, .slice (some ⟨wa.heap.size, 0, none⟩) 1 1] rfl rfl HN2.out (by intro u hu; simp at hu; rcases hu with rfl | rfl | rfl <;> rfl) (by omega) (by simp; omega) ?_); intro v1 wt hown1 hgrow hat; have hWa := HW1.out.kept (oneb (wa.alloc (.cells #[.int .i64 c.arg, .int .u8 c.op, .int .u64 c.mask, .int .u64 c.val] 39)) (.cells #[.int .u32 2, .int .u32 2147221504, .slice (some ⟨wa.heap.size, 0, none⟩) 1 1] 47)); obtain ⟨_, _, _, _, _, htyv, _⟩ := own_typed hWa.r; have hoa := hWa.out.appended hgrow htyv kP.n4; have z2 := hoa.cell 2 rfl; have zf := hoa.fz 2; have zl := hoa.lt; have HAd := Lib.hid (hWa.addRule ⟨⟨2, 2147221504, [c]⟩, some ⟨wa.heap.size, 0, none⟩, 1⟩ HC1.out hown1 hgrow); obtain ⟨A7, c7, hv7, _⟩ := own_typed hown1; subst hv7; clear hown1 hgrow hat hWa htyv hoa)
      go_meet
      case rel => exact bent_of HAd.out (HFB.out.rule hbm ⟨⟨2, 2147221504, [c]⟩, some ⟨wa.heap.size, 0, none⟩, 1⟩ ⟨by show 2 < 4294967296; omega, by show 2147221504 < 4294967296; omega, by show 1 ≤ maxLen; unfold maxLen; omega, fun x hx => by rw [List.mem_singleton.1 hx]; exact Hc.out⟩ (by simp)) HTy7.out
    ·
      have g0 : ((r : Int) == 0) = false := by rw [beq_eq_false_iff_ne]; omega
      have g1 : ((r : Int) == 1) = false := by rw [beq_eq_false_iff_ne]; omega
      have g2 : ((r : Int) == 2) = false := by rw [beq_eq_false_iff_ne]; omega
      have g3 : ((r : Int) == 3) = true := by rw [beq_iff_eq]; omega
      clear hk
      have z3 := HRB.out.out.cell 3 rfl
      have zf := HRB.out.out.fz 3
      have zl := HRB.out.out.lt
      go_wp2_with fail
      go_meet
      case rel => exact bent_of HRB.out.setHd (HFB.out.hand n (by omega)) HTy7.out
    ·
      have g0 : ((r : Int) == 0) = false := by rw [beq_eq_false_iff_ne]; omega
      have g1 : ((r : Int) == 1) = false := by rw [beq_eq_false_iff_ne]; omega
      have g2 : ((r : Int) == 2) = false := by rw [beq_eq_false_iff_ne]; omega
      have g3 : ((r : Int) == 3) = false := by rw [beq_eq_false_iff_ne]; omega
      have g4 : ((r : Int) == 4) = true := by rw [beq_iff_eq]; omega
      clear hk
      have hR := HRB.out.out.cell 4 rfl
      have hlw := HRB.out.out.lt
      have hbp := HBok.out.path.len
      go_wp2_with (at_builtin; (refine append_one rfl (.tmp 88) (.tmp 91) 27 49 rfl _ 2 24 infoPB Tryz.underlying27 rfl (by decide) (by decide) w8.heap.size _ bpt.length (bpt.flatMap pathC) rfl (HRB.out.p.alloc _) wa.heap.size [.string ⟨#[47, 113]⟩, .int .u16 n] rfl rfl (Bk.new wa _ _ rfl) (by intro u hu; simp at hu; rcases hu with rfl | rfl <;> rfl) (by omega) (by simp; omega) ?_); intro v1 wt hown1 hgrow hat; have hWa := HRB.out.kept (oneb wa (.cells #[.string ⟨#[47, 113]⟩, .int .u16 n] 49)); obtain ⟨_, _, _, _, _, htyv, _⟩ := own_typed hWa.p; have hoa := hWa.out.appended hgrow htyv kP.n8; have z2 := hoa.cell 4 rfl; have zf := hoa.fz 4; have zl := hoa.lt; have HAd := Lib.hid (hWa.addPath ([47, 113], n) hown1 hgrow); obtain ⟨A7, c7, hv7, _⟩ := own_typed hown1; subst hv7; clear hown1 hgrow hat hWa htyv hoa)
      go_meet
      case rel => exact bent_of HAd.out (HFB.out.path hbp ([47, 113], n) ⟨by show 2 ≤ maxLen; unfold maxLen; omega, hn⟩) HTy7.out
    ·
      have g0 : ((r : Int) == 0) = false := by rw [beq_eq_false_iff_ne]; omega
      have g1 : ((r : Int) == 1) = false := by rw [beq_eq_false_iff_ne]; omega
      have g2 : ((r : Int) == 2) = false := by rw [beq_eq_false_iff_ne]; omega
      have g3 : ((r : Int) == 3) = false := by rw [beq_eq_false_iff_ne]; omega
      have g4 : ((r : Int) == 4) = false := by rw [beq_eq_false_iff_ne]; omega
      have g5 : ((r : Int) == 5) = true := by rw [beq_iff_eq]; omega
      clear hk
      have hR := HRB.out.out.cell 5 rfl
      have hlw := HRB.out.out.lt
      have hbp := HBok.out.port.len
      go_wp2_with (at_builtin; (refine append_one rfl (.tmp 97) (.tmp 100) 28 51 rfl _ 2 4 infoPP Tryz.underlying28 rfl (by decide) (by decide) w8.heap.size _ bpo.length (bpo.flatMap portC) rfl (HRB.out.q.alloc _) wa.heap.size [.int .u16 80, .int .u16 n] rfl rfl (Bk.new wa _ _ rfl) (by intro u hu; simp at hu; rcases hu with rfl | rfl <;> rfl) (by omega) (by simp; omega) ?_); intro v1 wt hown1 hgrow hat; have hWa := HRB.out.kept (oneb wa (.cells #[.int .u16 80, .int .u16 n] 51)); obtain ⟨_, _, _, _, _, htyv, _⟩ := own_typed hWa.q; have hoa := hWa.out.appended hgrow htyv kP.n12; have z2 := hoa.cell 5 rfl; have zf := hoa.fz 5; have zl := hoa.lt; have HAd := Lib.hid (hWa.addPort (80, n) hown1 hgrow); obtain ⟨A7, c7, hv7, _⟩ := own_typed hown1; subst hv7; clear hown1 hgrow hat hWa htyv hoa)
      go_meet
      case rel => exact bent_of HAd.out (HFB.out.port hbp (80, n) ⟨by show 80 < 65536; omega, hn⟩) HTy7.out
    ·
      have g0 : ((r : Int) == 0) = false := by rw [beq_eq_false_iff_ne]; omega
      have g1 : ((r : Int) == 1) = false := by rw [beq_eq_false_iff_ne]; omega
      have g2 : ((r : Int) == 2) = false := by rw [beq_eq_false_iff_ne]; omega
      have g3 : ((r : Int) == 3) = false := by rw [beq_eq_false_iff_ne]; omega
      have g4 : ((r : Int) == 4) = false := by rw [beq_eq_false_iff_ne]; omega
      have g5 : ((r : Int) == 5) = false := by rw [beq_eq_false_iff_ne]; omega
      have g6 : ((r : Int) == 6) = true := by rw [beq_iff_eq]; omega
      clear hk
      have hbp := HBok.out.path.len
      have hlw := HRB.out.out.lt
      rcases HRB.out.p.2 with ⟨hv, hn0⟩ | ⟨gb, cap, cur, hv, -⟩
      · have hR := HRB.out.out.cell 4 rfl
        have zf := HRB.out.out.fz 4
        have HV := Lib.hid hv
        have hp0 : bpt = [] := List.eq_nil_of_length_eq_zero hn0
        have HS := Lib.hid HRB.out.same4
        rw [hv] at hR HS
        have HP := Lib.hid HRB.out.p
        rw [hv] at HP
        have HFt := Lib.hid HFB.out
        clear hv hn0 hp0
        go_wp2_with (at_builtin; (refine append_nothing rfl (.tmp 106) (.tmp 108) 27 49 rfl _ 2 24 infoPB Tryz.underlying27 w8.heap.size (.slice none 0 0) bpt.length (bpt.flatMap pathC) rfl HP.out rfl ?_))
        go_meet
        case rel => exact bent_of HS.out HFt.out HTy7.out
      · have hR := HRB.out.out.cell 4 rfl
        simp only [Value.slice.injEq, true_and] at hv
        obtain ⟨rfl, rfl⟩ := hv
        go_wp2_with (at_builtin; (refine append_row rfl (.tmp 106) (.tmp 108) 27 49 rfl _ 2 24 infoPB Tryz.underlying27 rfl (by decide) (by decide) w8.heap.size _ bpt.length (bpt.flatMap pathC) rfl HRB.out.p gb bpt.length bPc (bpt.flatMap pathC) rfl (flatz_len pathC 2 (fun _ => rfl) bpt) (HRB.out.p.cells rfl) (path_one bpt) (by omega) (by omega) ?_); intro v1 wt hown1 hgrow; obtain ⟨_, _, _, _, _, htyv, _⟩ := own_typed HRB.out.p; have hoa := HRB.out.out.appended hgrow htyv kP.n8; have z2 := hoa.cell 4 rfl; have zf := hoa.fz 4; have zl := hoa.lt; have HAd := Lib.hid (HRB.out.addPaths bpt hown1 hgrow); obtain ⟨A7, c7, hv7, _⟩ := own_typed hown1; subst hv7; clear hown1 hgrow htyv hoa)
        go_meet
        case rel => exact bent_of HAd.out (HFB.out.twice hbp) HTy7.out
    ·
      have g0 : ((r : Int) == 0) = false := by rw [beq_eq_false_iff_ne]; omega
      have g1 : ((r : Int) == 1) = false := by rw [beq_eq_false_iff_ne]; omega
      have g2 : ((r : Int) == 2) = false := by rw [beq_eq_false_iff_ne]; omega
      have g3 : ((r : Int) == 3) = false := by rw [beq_eq_false_iff_ne]; omega
      have g4 : ((r : Int) == 4) = false := by rw [beq_eq_false_iff_ne]; omega
      have g5 : ((r : Int) == 5) = false := by rw [beq_eq_false_iff_ne]; omega
      have g6 : ((r : Int) == 6) = false := by rw [beq_eq_false_iff_ne]; omega
      clear hk
      obtain ⟨q, hq, hq9⟩ : ∃ q : Nat, (n : Int) % 9 = (q : Int) ∧ q < 9 := ⟨n % 9, by omega, by omega⟩
      obtain ⟨m, hm⟩ : ∃ m : Nat, m = 60 + q := ⟨_, rfl⟩
      have hm1 : m ≤ 80 := by omega
      have hmi : (60 : Int) + (q : Int) = (m : Int) := by omega
      have HM := Lib.hid hm
      have z2 := HRB.out.out.cell 2 rfl
      have zf := HRB.out.out.fz 2
      have zl := HRB.out.out.lt
      clear hm
      go_wp2_with ((refine make_rules rfl (.tmp 36) rfl w8.heap.size m (m : Int) rfl rfl (by omega) (by omega) ?_); intro wt hown1 hgrow; have hbt : Below wa.heap.size wa wt := ⟨hgrow.os, hgrow.tape, hgrow.output, hgrow.size, fun i hi => hgrow.block i hi (by simp)⟩; have hoa := HRB.out.out.kept hbt; have y2 := hoa.cell 2 rfl; have yf := hoa.fz 2; have yl := hoa.lt; have HAd := Lib.hid (HRB.out.newRules (made 0 m) (made_nil 0 m) (by rw [made_len (Nat.zero_le m)]; exact hown1) hgrow); clear hown1 hgrow hoa hbt)
      clear hmi hq z2 zf y2 yf yl
      go_loopw [42] (fun iv wx => ∃ i : Nat, iv = .int .i64 i ∧ i ≤ m ∧ Hid (RB kP w7 wx w8.heap.size w7.heap.size w9.heap.size [.string ⟨qnm.toArray⟩, .int .u32 qact, .slice qRA qnR qRc, .int .u16 qhd, .slice qPA qnP qPc, .slice qQA qnQ qQc] (.string ⟨bnm.toArray⟩) (.int .u32 bact) (.slice (some ⟨wa.heap.size, 0, none⟩) m m) (.int .u16 bhd) (.slice bPA bpt.length bPc) (.slice bQA bpo.length bQc) (made i m) bpt bpo)) (fun iv _ => m - (intOf iv).toNat)
      case atStart => exact ⟨0, rfl, Nat.zero_le _, HAd⟩
      case round =>
        rename World => wx
        obtain ⟨i, rfl, hi, HRi⟩ := hrel
        by_cases hil : i < m
        · have z2 := HRi.out.out.cell 2 rfl
          have hri := HRi.out.r
          rw [made_len hi] at hri
          obtain ⟨u, hu⟩ : ∃ u, ((made i m).flatMap RuleV.cells)[i * 3 + 1]? = some u := ⟨_, List.getElem?_eq_getElem (by rw [flatz_len RuleV.cells 3 (fun _ => rfl), made_len hi]; omega)⟩
          have c1 := (hri.cellAt (i * 3 + 1) (by omega)).trans hu
          have f1 := hri.frozenAt (i * 3 + 1)
          have l1 : wa.heap.size < wx.heap.size := (hri.lt _ rfl).2
          have HN := Lib.hid (HRi.out.storedRule (rs' := made (i + 1) m) (made_len hi) (made_len hil) (made_nil _ _) (made_set hil))
          clear hri hu
          go_wp2_with fail
          go_roundw
          case rel => exact ⟨i + 1, by go_num, by omega, HN⟩
          case measure => simp [intOf]; omega
        · obtain rfl : i = m := by omega
          go_wp2_with fail
          go_meet
          case rel => exact bent_of HRi.out (made_fine HFB.out hm1) HTy7.out
  case rest =>
    obtain ⟨bp, HFb, HKb, HKq, HBc, HRb, HOb⟩ := hcut
    rename World => we
    have hb67 := HB67.out
    have HTe := Lib.hid ((HT6.out.kept hb67).kept HBc.out)
    have HB6e := Lib.hid (hb67.trans (HBc.out.mono hb67.size))
    have HBe := Lib.hid (HB6.out.trans (HB6e.out.mono HB6.out.size))
    have HKp := Lib.hid (HK06.out.kept HB6e.out)
    have HKc := Lib.hid (HK26.out.kept HB6e.out)
    have HEe := Lib.hid (HE.out.below HBe.out)
    have HFp := Lib.hid (show Fine ⟨nm, dflt, rules, RA, Rc, hd, paths, PA, Pc, ports, QA, Qc⟩ from
      ⟨Hnm.out, Hdf.out, HFew.out.fRules, fun r hr => ⟨Hru.out r hr, HFew.out.fConds r hr⟩, hhd, HFew.out.fPaths, Hpa.out, HFew.out.fPorts, Hpo.out, ⟨by rw [show paths.length = nP from HnP.out]; exact HcP.out, by rw [show ports.length = nQ from HnQ.out]; exact HcQ.out⟩⟩)
    have HRp := Lib.hid (HR.out.below HBe.out)
    have HOp := Lib.hid ((HR.out).off (show w.heap.size ≤ w5.heap.size by omega))
    have htb7 := (HT6.out.kept hb67).tyb
    obtain ⟨HQr, HQo, HFq⟩ : Hid (Reads we ⟨qnm, qact, qrs, qRA, qRc, qhd, qpt, qPA, qPc, qpo, qQA, qQc⟩) ∧ Hid (OffP ⟨qnm, qact, qrs, qRA, qRc, qhd, qpt, qPA, qPc, qpo, qQA, qQc⟩ w5.heap.size) ∧ Hid (Fine ⟨qnm, qact, qrs, qRA, qRc, qhd, qpt, qPA, qPc, qpo, qQA, qQc⟩) := by
      obtain ⟨A1, c1, e1, g1, h1, _⟩ := own_typed HQ4.out.r
      obtain ⟨A2, c2, e2, g2, h2, _⟩ := own_typed HQ4.out.p
      obtain ⟨A3, c3, e3, g3, h3, _⟩ := own_typed HQ4.out.q
      simp only [Value.slice.injEq, true_and] at e1 e2 e3
      obtain ⟨rfl, rfl⟩ := e1
      obtain ⟨rfl, rfl⟩ := e2
      obtain ⟨rfl, rfl⟩ := e3
      exact ⟨Lib.hid ⟨(h1.below HBc.out).rd, fun r hr => ((HQ4.out.c r hr).below HBc.out).rd, (h2.below HBc.out).rd, (h3.below HBc.out).rd⟩, Lib.hid ⟨h1.off htb7 (by decide), fun r hr => (HQ4.out.c r hr).off htb7 (by decide), h2.off htb7 (by decide), h3.off htb7 (by decide)⟩, Lib.hid (sm_fine HQok.out g2 g3)⟩
    obtain ⟨L3, hL3⟩ : ∃ L : List PolV, L = [⟨nm, dflt, rules, RA, Rc, hd, paths, PA, Pc, ports, QA, Qc⟩, ⟨qnm, qact, qrs, qRA, qRc, qhd, qpt, qPA, qPc, qpo, qQA, qQc⟩, bp] := ⟨_, rfl⟩
    have HL3 := Lib.hid (show ∀ x ∈ L3, Fine x ∧ Reads we x ∧ OffP x w5.heap.size by
      rw [hL3]
      intro x hx
      simp only [List.mem_cons, List.not_mem_nil, or_false] at hx
      rcases hx with rfl | rfl | rfl
      · exact ⟨HFp.out, HRp.out, HOp.out⟩
      · exact ⟨HFq.out, HQr.out, HQo.out⟩
      · exact ⟨HFb.out, HRb.out, HOb.out⟩)
    have HLn := Lib.hid (show L3.length = 3 by rw [hL3]; rfl)
    have HLc := Lib.hid (show L3.flatMap polL = [.string ⟨nm.toArray⟩, .int .u32 dflt, .slice RA nR Rc, .int .u16 hd, .slice PA nP Pc, .slice QA nQ Qc] ++ [.string ⟨qnm.toArray⟩, .int .u32 qact, .slice qRA qnR qRc, .int .u16 qhd, .slice qPA qnP qPc, .slice qQA qnQ qQc] ++ polL bp by
      obtain ⟨e1, e2, e3⟩ := HqN.out
      rw [hL3, ← HnR.out, ← HnP.out, ← HnQ.out, e1, e2, e3]
      simp [polL])
    clear htb7
    obtain ⟨xnm, xdf, xrs, xRA, xRc, xhd, xpt, xPA, xPc, xpo, xQA, xQc⟩ := bp
    simp only [polL] at HKb HLc
    obtain ⟨xnR, hxnR⟩ : ∃ k, k = xrs.length := ⟨_, rfl⟩
    obtain ⟨xnP, hxnP⟩ : ∃ k, k = xpt.length := ⟨_, rfl⟩
    obtain ⟨xnQ, hxnQ⟩ : ∃ k, k = xpo.length := ⟨_, rfl⟩
    rw [← hxnR, ← hxnP, ← hxnQ] at HKb HLc
    clear hxnR hxnP hxnQ
    have p0 := HKp.out.cell 0 rfl
    have p1 := HKp.out.cell 1 rfl
    have p2 := HKp.out.cell 2 rfl
    have p3 := HKp.out.cell 3 rfl
    have p4 := HKp.out.cell 4 rfl
    have p5 := HKp.out.cell 5 rfl
    have q0 := HKq.out.cell 0 rfl
    have q1 := HKq.out.cell 1 rfl
    have q2 := HKq.out.cell 2 rfl
    have q3 := HKq.out.cell 3 rfl
    have q4 := HKq.out.cell 4 rfl
    have q5 := HKq.out.cell 5 rfl
    have b0 := HKb.out.cell 0 rfl
    have b1 := HKb.out.cell 1 rfl
    have b2 := HKb.out.cell 2 rfl
    have b3 := HKb.out.cell 3 rfl
    have b4 := HKb.out.cell 4 rfl
    have b5 := HKb.out.cell 5 rfl
    have hlq := HKq.out.lt
    have hlb := HKb.out.lt
    have hlp := HKp.out.lt
    have hHL3 := Lib.hid hL3
    clear hL3
    go_wp2_with fail
    have hbs := Bk.new we 30 #[.string ⟨nm.toArray⟩, .int .u32 dflt, .slice RA nR Rc, .int .u16 hd, .slice PA nP Pc, .slice QA nQ Qc, .string ⟨qnm.toArray⟩, .int .u32 qact, .slice qRA qnR qRc, .int .u16 qhd, .slice qPA qnP qPc, .slice qQA qnQ qQc, .string ⟨xnm.toArray⟩, .int .u32 xdf, .slice xRA xnR xRc, .int .u16 xhd, .slice xPA xnP xPc, .slice xQA xnQ xQc] (l := L3.flatMap polL) (by rw [HLc.out]; rfl)
    have hbw := oneb we (.cells #[.string ⟨nm.toArray⟩, .int .u32 dflt, .slice RA nR Rc, .int .u16 hd, .slice PA nP Pc, .slice QA nQ Qc, .string ⟨qnm.toArray⟩, .int .u32 qact, .slice qRA qnR qRc, .int .u16 qhd, .slice qPA qnP qPc, .slice qQA qnQ qQc, .string ⟨xnm.toArray⟩, .int .u32 xdf, .slice xRA xnR xRc, .int .u16 xhd, .slice xPA xnP xPc, .slice xQA xnQ xQc] 30)
    generalize we.alloc _ = wf at hbs hbw ⊢
    have HBS := Lib.hid hbs
    have HBW := Lib.hid hbw
    have HTf := Lib.hid (HTe.out.kept hbw)
    have hsf := hbs.lt
    have htl := HTe.out.lt
    clear hbs hbw p0 p1 p2 p3 p4 p5 q0 q1 q2 q3 q4 q5 b0 b1 b2 b3 b4 b5
    go_loopw [116] (fun iv wr => ∃ k : Nat, iv = .int .i64 k ∧ k ≤ 3 ∧ Hid (TS wr w5.heap.size (k * 64)) ∧ Hid (wf.grownBy wr (some w5.heap.size))) (fun iv _ => 3 - (intOf iv).toNat)
    case atStart => exact ⟨0, rfl, by omega, HTf, only_refl _ _⟩
    case round =>
      obtain ⟨k, rfl, hk, HTr, HG⟩ := hrel
      have hlf : we.heap.size < wr.heap.size := Nat.lt_of_lt_of_le hsf HG.out.size
      by_cases hlt : k < 3
      · obtain ⟨x, hx⟩ : ∃ x, L3[k]? = some x := ⟨_, List.getElem?_eq_getElem (by have := HLn.out; omega)⟩
        obtain ⟨hfx, hrx, hox⟩ := HL3.out x (List.mem_of_getElem? hx)
        have hbsr := HBS.out.grown HG.out (fun e => by have := Option.some.inj e; omega)
        obtain ⟨c0, c1, c2, c3, c4, c5⟩ := six_cells hbsr hx
        have hrxr := (hrx.below HBW.out).grown hox HG.out
        obtain ⟨xn, xd, xr, xA, xAc, xh, xp, xB, xBc, xq, xC, xCc⟩ := x
        simp only at c0 c1 c2 c3 c4 c5
        obtain ⟨n1, hn1⟩ : ∃ q, q = xr.length := ⟨_, rfl⟩
        obtain ⟨n2, hn2⟩ : ∃ q, q = xp.length := ⟨_, rfl⟩
        obtain ⟨n3, hn3⟩ : ∃ q, q = xq.length := ⟨_, rfl⟩
        rw [← hn1] at c2
        rw [← hn2] at c4
        rw [← hn3] at c5
        have HN1 := Lib.hid hn1
        have HN2 := Lib.hid hn2
        have HN3 := Lib.hid hn3
        have HFx := Lib.hid hfx
        have HOx := Lib.hid hox
        have HRx := Lib.hid hrxr
        have HEr := Lib.hid ((HEe.out.below HBW.out).grown HTf.out HG.out)
        clear hx hfx hrx hox hbsr hrxr hn1 hn2 hn3
        have hdk : decide ((k : Int) < 3) = true := decide_eq_true (by omega)
        go_upto_region 32 with fail
        try simp only [hdk]
        clear hdk
        have hkx := Bk.new wr 30 #[.string ⟨xn.toArray⟩, .int .u32 xd, .slice xA n1 xAc, .int .u16 xh, .slice xB n2 xBc, .slice xC n3 xCc] (l := [.string ⟨xn.toArray⟩, .int .u32 xd, .slice xA n1 xAc, .int .u16 xh, .slice xB n2 xBc, .slice xC n3 xCc]) rfl
        have hbx := oneb wr (.cells #[.string ⟨xn.toArray⟩, .int .u32 xd, .slice xA n1 xAc, .int .u16 xh, .slice xB n2 xBc, .slice xC n3 xCc] 30)
        have hsx : (wr.alloc (.cells #[.string ⟨xn.toArray⟩, .int .u32 xd, .slice xA n1 xAc, .int .u16 xh, .slice xB n2 xBc, .slice xC n3 xCc] 30)).heap.size = wr.heap.size + 1 := by simp
        generalize wr.alloc _ = wx at hkx hbx hsx ⊢
        have HBX := Lib.hid hbx
        have HKX := Lib.hid hkx
        have HTx := Lib.hid (HTr.out.kept hbx)
        have HRX := Lib.hid (HRx.out.below hbx)
        have HEx := Lib.hid (HEr.out.below hbx)
        have HGx := Lib.hid (grow_below HG.out hbx)
        have c0 := hkx.cell 0 rfl
        have c1 := hkx.cell 1 rfl
        have c2 := hkx.cell 2 rfl
        have c3 := hkx.cell 3 rfl
        have c4 := hkx.cell 4 rfl
        have c5 := hkx.cell 5 rfl
        have hlx := hkx.lt
        have htw : w5.heap.size < wr.heap.size := HTr.out.lt
        clear hkx hbx hsx
        obtain ⟨E, hE⟩ : ∃ E, polE ⟨xn, xd, xr.map RuleV.m, xh, xp, xq⟩ = E := ⟨_, rfl⟩
        have HPE := Lib.hid hE
        clear hE
        go_cut [126] from 120 to 125 (fun v wy => v = .bool false ∧ Hid (TS wy w5.heap.size (k * 64 + 64)) ∧ Hid (wx.grownBy wy (some w5.heap.size)))
        case first =>
          refine wp_region_held_drew (S := fun w' => w'.cell? ⟨wr.heap.size, 0, none⟩ = some (.string ⟨xn.toArray⟩) ∧ w'.cell? ⟨wr.heap.size, 1, none⟩ = some (.int .u32 xd) ∧ w'.cell? ⟨wr.heap.size, 2, none⟩ = some (.slice xA n1 xAc) ∧ w'.cell? ⟨wr.heap.size, 3, none⟩ = some (.int .u16 xh) ∧ w'.cell? ⟨wr.heap.size, 4, none⟩ = some (.slice xB n2 xBc) ∧ w'.cell? ⟨wr.heap.size, 5, none⟩ = some (.slice xC n3 xCc) ∧ wr.heap.size < w'.heap.size) (by kernel_rfl) ?_ (fun hHeld0 => ?_)
          · exact ⟨c0, c1, c2, c3, c4, c5, hlx⟩
          have hbv0 : Below wx.heap.size wx wx.drew := below_drewN (Below.refl _ _) 1
          generalize wx.drew = v0 at hHeld0 hbv0 ⊢
          refine wpAnyH_take (i := 0) (v := ?_) (by first | (simp only [List.getElem?_toArray, List.getElem?_cons_zero] <;> rfl) | rfl) (by kernel_rfl) (by kernel_rfl) (by kernel_rfl) (by exact fun _ _ _ h => h) (Or.inl ⟨by rfl, ?_⟩) hHeld0 ?_
          rotate_left 1
          · intro w hSw
            try dsimp only at hSw
            (go_simp) <;> (with_reducible rfl)
          try simp only [Act.put, List.setIfInBounds_toArray, List.set_cons_zero, List.set_cons_succ]
          refine wpAnyH_take (i := 1) (v := ?_) (by first | (simp only [List.getElem?_toArray, List.getElem?_cons_succ, List.getElem?_cons_zero] <;> rfl) | rfl) (by kernel_rfl) (by kernel_rfl) (by kernel_rfl) (by exact fun _ _ _ h => h) (Or.inl ⟨by rfl, ?_⟩) hHeld0 ?_
          rotate_left 1
          · intro w hSw
            try dsimp only at hSw
            (go_simp) <;> (with_reducible rfl)
          try simp only [Act.put, List.setIfInBounds_toArray, List.set_cons_zero, List.set_cons_succ]
          refine wpAnyH_take (i := 3) (v := ?_) (by first | (simp only [List.getElem?_toArray, List.getElem?_cons_succ, List.getElem?_cons_zero] <;> rfl) | rfl) (by kernel_rfl) (by kernel_rfl) (by kernel_rfl) (by exact fun _ _ _ h => h) (Or.inl ⟨by rfl, ?_⟩) hHeld0 ?_
          rotate_left 1
          · intro w hSw
            try dsimp only at hSw
            (go_simp) <;> (with_reducible rfl)
          try simp only [Act.put, List.setIfInBounds_toArray, List.set_cons_zero, List.set_cons_succ]
          refine wpAnyH_ready (rs := [2]) (by kernel_rfl) (by simp) ?_
          refine AllReadyH.cons (by first | (simp only [List.getElem?_toArray, List.getElem?_cons_succ, List.getElem?_cons_zero] <;> rfl) | rfl) (fun K hK => ?_) ?_
          · go_simp
            refine (polCheck_any xn xd xr xA n1 xAc xh xp xB n2 xBc xq xC n3 xCc w5.heap.size (k * 64) v0 HFx.out.nameF HFx.out.dfltF HN1.out.symm HN2.out.symm HN3.out.symm (le_many (by rw [HN1.out]; exact HFx.out.rulesF)) (le_many (by rw [HN2.out]; exact Nat.le_trans HFx.out.pathsF (by omega))) (le_many (by rw [HN3.out]; exact Nat.le_trans HFx.out.portsF (by omega))) (fun r hr => (HFx.out.ruleF r hr).1) HFx.out.hdF HFx.out.pathF HFx.out.portF (by rw [HN2.out]; exact HFx.out.fitF.1) (by rw [HN3.out]; exact HFx.out.fitF.2) (HRX.out.below hbv0) HOx.out (HTx.out.kept hbv0) (by omega) (HEx.out.below hbv0)).mono ?_
            rintro e v1 ⟨rfl, ht1, hg1⟩
            rw [HPE.out]
            refine hK.out _ _ ?_ (fun hHeld1 => ?_)
            · exact ⟨cell_grown hHeld0.1 hg1 (by omega), cell_grown hHeld0.2.1 hg1 (by omega), cell_grown hHeld0.2.2.1 hg1 (by omega), cell_grown hHeld0.2.2.2.1 hg1 (by omega), cell_grown hHeld0.2.2.2.2.1 hg1 (by omega), cell_grown hHeld0.2.2.2.2.2.1 hg1 (by omega), Nat.lt_of_lt_of_le hHeld0.2.2.2.2.2.2 hg1.size⟩
            clear hK K
            have HR1 := Lib.hid ((HRX.out.below hbv0).grown HOx.out hg1)
            have HT1 := Lib.hid ht1
            have HG1 := Lib.hid (show wx.grownBy v1 (some w5.heap.size) from grown_trans (grow_below (grown_refl wx _) hbv0) hg1 (fun j hj => .inl hj))
            clear ht1 hg1 hbv0 hHeld0
            try simp only [Act.put, List.setIfInBounds_toArray, List.set_cons_zero, List.set_cons_succ]
            refine wpAnyH_ready (rs := [4]) (by kernel_rfl) (by simp) ?_
            refine AllReadyH.cons (by first | (simp only [List.getElem?_toArray, List.getElem?_cons_succ, List.getElem?_cons_zero] <;> rfl) | rfl) (fun K hK => ?_) ?_
            · go_simp
              refine (ref_any xn xd xr xA n1 xAc xh xp xB n2 xBc xq xC n3 xCc v1 HN1.out.symm HN2.out.symm HN3.out.symm (by rw [HN1.out]; exact HFx.out.rulesF) (by rw [HN2.out]; exact HFx.out.pathsF) (by rw [HN3.out]; exact HFx.out.portsF) (fun r hr => ⟨(HFx.out.ruleF r hr).2, (HFx.out.ruleF r hr).1.2.2.2⟩) HFx.out.hdF (fun x hx => (HFx.out.pathF x hx).2) HFx.out.portF HR1.out).mono ?_
              rintro e v2 ⟨⟨rs', RA', Rc', PA', Pc', QA', Qc', hmap, rfl, hRR⟩, hbb⟩
              refine hK.out _ _ ?_ (fun hHeld2 => ?_)
              · exact ⟨cell_below hHeld1.1 hbb, cell_below hHeld1.2.1 hbb, cell_below hHeld1.2.2.1 hbb, cell_below hHeld1.2.2.2.1 hbb, cell_below hHeld1.2.2.2.2.1 hbb, cell_below hHeld1.2.2.2.2.2.1 hbb, Nat.lt_of_lt_of_le hHeld1.2.2.2.2.2.2 hbb.size⟩
              clear hK K
              have HT2 := Lib.hid (HT1.out.kept hbb)
              have HG2 := Lib.hid (grow_below HG1.out hbb)
              have HRR := Lib.hid hRR
              have Hmap := Lib.hid hmap
              clear hbb hRR hmap hHeld1
              try simp only [Act.put, List.setIfInBounds_toArray, List.set_cons_zero, List.set_cons_succ]
              refine wpAnyH_ready (rs := [5]) (by kernel_rfl) (by simp) ?_
              refine AllReadyH.cons (by first | (simp only [List.getElem?_toArray, List.getElem?_cons_succ, List.getElem?_cons_zero] <;> rfl) | rfl) (fun K hK => ?_) ?_
              · go_simp
                refine (refCheck_any xn xd rs' RA' n1 Rc' xh xp PA' n2 Pc' xq QA' n3 Qc' v2 HFx.out.nameF HFx.out.dfltF (same_len Hmap.out HN1.out) HN2.out.symm HN3.out.symm (le_many (by rw [HN1.out]; exact HFx.out.rulesF)) (le_many (by rw [HN2.out]; exact Nat.le_trans HFx.out.pathsF (by omega))) (le_many (by rw [HN3.out]; exact Nat.le_trans HFx.out.portsF (by omega))) (same_ok Hmap.out (fun r hr => (HFx.out.ruleF r hr).1)) HFx.out.hdF HFx.out.pathF HFx.out.portF HRR.out).mono ?_
                rintro e v3 ⟨rfl, hbb⟩
                rw [Hmap.out, HPE.out]
                refine hK.out _ _ ?_ (fun hHeld3 => ?_)
                · exact ⟨cell_below hHeld2.1 hbb, cell_below hHeld2.2.1 hbb, cell_below hHeld2.2.2.1 hbb, cell_below hHeld2.2.2.2.1 hbb, cell_below hHeld2.2.2.2.2.1 hbb, cell_below hHeld2.2.2.2.2.2.1 hbb, Nat.lt_of_lt_of_le hHeld2.2.2.2.2.2.2 hbb.size⟩
                clear hK K
                have HT3 := Lib.hid (HT2.out.kept hbb)
                have HG3 := Lib.hid (grow_below HG2.out hbb)
                clear hbb hHeld2
                try simp only [Act.put, List.setIfInBounds_toArray, List.set_cons_zero, List.set_cons_succ]
                refine wpAnyH_take (i := 6) (v := ?_) (by first | (simp only [List.getElem?_toArray, List.getElem?_cons_succ, List.getElem?_cons_zero] <;> rfl) | rfl) (by kernel_rfl) (by kernel_rfl) (by kernel_rfl) (by exact fun _ _ _ h => h) (Or.inl ⟨by rfl, ?_⟩) hHeld3 ?_
                rotate_left 1
                · intro w hSw
                  try dsimp only at hSw
                  (go_simp) <;> (with_reducible rfl)
                try simp only [Act.put, List.setIfInBounds_toArray, List.set_cons_zero, List.set_cons_succ]
                refine wpAnyH_done (by kernel_rfl) ?_ _
                go_wp2_with fail
                go_meet
                case rel => exact ⟨rfl, HT3, HG3⟩
              exact AllReadyH.nil
            exact AllReadyH.nil
          exact AllReadyH.nil
        case rest =>
          rename World => wy
          obtain ⟨rfl, HTy, HGy⟩ := hcut
          have HKy := Lib.hid (HKX.out.grown HGy.out (fun e => by have := Option.some.inj e; omega))
          have HRy := Lib.hid (HRX.out.grown HOx.out HGy.out)
          have HWy := Lib.hid (grown_trans HGx.out HGy.out (fun j hj => .inl hj))
          have hly : wr.heap.size < wy.heap.size := HKy.out.lt
          have c2 := HKy.out.cell 2 rfl
          have hlr : xr.length ≤ 80 := HFx.out.rulesF
          rw [← HN1.out] at hlr
          have hlr' : n1 ≤ 9223372036854775807 := by omega
          go_wp2_with fail
          clear c2
          go_loopw [130] (fun jv wj => ∃ j : Nat, jv = .int .i64 j ∧ j ≤ n1 ∧ Hid (Below wy.heap.size wy wj)) (fun iv _ => n1 - (intOf iv).toNat)
          case atStart => exact ⟨0, rfl, Nat.zero_le _, Below.refl _ _⟩
          case round =>
            rename World => wj
            obtain ⟨j, rfl, hj, HBj⟩ := hrel
            have hlj : wr.heap.size < wj.heap.size := Nat.lt_of_lt_of_le hly HBj.out.size
            by_cases hjl : j < n1
            · obtain ⟨r, hr⟩ : ∃ r, xr[j]? = some r := ⟨_, List.getElem?_eq_getElem (by have := HN1.out; omega)⟩
              have hrd := (HRy.out.below HBj.out).rules
              simp only [← HN1.out] at hrd
              obtain ⟨bb, ob, hAe, hbl, hcell⟩ := hrd.one (fun _ => rfl) (by omega) (by omega)
              subst hAe
              obtain ⟨c0, c1, c2⟩ := rule_cells hcell hr
              have HRc := Lib.hid ((HRy.out.below HBj.out).conds r (List.mem_of_getElem? hr))
              have HCo := Lib.hid ((HFx.out.ruleF r (List.mem_of_getElem? hr)).1.2.2.2)
              have hlc := (HFx.out.ruleF r (List.mem_of_getElem? hr)).2
              obtain ⟨rm, rA, rcap⟩ := r
              simp only at c0 c1 c2 HRc HCo hlc
              obtain ⟨nc, hnc⟩ : ∃ nc, nc = rm.conds.length := ⟨_, rfl⟩
              rw [← hnc] at c2 hlc HRc
              have HNc := Lib.hid hnc
              have hlc' : nc ≤ 9223372036854775807 := by omega
              clear hcell hr hrd hnc
              go_wp2_with fail
              have hbj := oneb wj (.cells #[.int .u32 rm.num, .int .u32 rm.act, .slice rA nc rcap] 47)
              generalize wj.alloc _ = wl at hbj ⊢
              have HBl := Lib.hid (HBj.out.trans (hbj.mono HBj.out.size))
              have HRl := Lib.hid (HRc.out.below hbj)
              clear hbj c0 c1 c2
              go_loopw [137] (fun iv wi => ∃ i : Nat, iv = .int .i64 i ∧ i ≤ nc ∧ Hid (Below wl.heap.size wl wi)) (fun iv _ => nc - (intOf iv).toNat)
              case atStart => exact ⟨0, rfl, Nat.zero_le _, Below.refl _ _⟩
              case round =>
                rename World => wi
                obtain ⟨i, rfl, hi, HBi⟩ := hrel
                by_cases hil : i < nc
                · obtain ⟨cc, hcc⟩ : ∃ cc, rm.conds[i]? = some cc := ⟨_, List.getElem?_eq_getElem (by have := HNc.out; omega)⟩
                  have hrd := HRl.out.below HBi.out
                  obtain ⟨b2, o2, hA2, hbl2, hcell2⟩ := hrd.one (fun _ => rfl) (by omega) (by omega)
                  subst hA2
                  obtain ⟨d0, d1, d2, d3⟩ := cond_cells hcell2 hcc
                  have HCc := Lib.hid (HCo.out cc (List.mem_of_getElem? hcc))
                  obtain ⟨ca, cop, cm, cv⟩ := cc
                  simp only at d0 d1 d2 d3 HCc
                  have hdi : decide ((i : Int) < (nc : Int)) = true := decide_eq_true (by omega)
                  clear hcell2 hcc hrd
                  go_upto_region 40 with fail
                  try simp only [hdi]
                  clear hdi d0 d1 d2 d3
                  have hki := Bk.new wi 39 #[.int .i64 ca, .int .u8 cop, .int .u64 cm, .int .u64 cv] (l := [.int .i64 ca, .int .u8 cop, .int .u64 cm, .int .u64 cv]) rfl
                  have hbi := oneb wi (.cells #[.int .i64 ca, .int .u8 cop, .int .u64 cm, .int .u64 cv] 39)
                  generalize wi.alloc _ = wc at hki hbi ⊢
                  have d0 := hki.cell 0 rfl
                  have d1 := hki.cell 1 rfl
                  have d2 := hki.cell 2 rfl
                  have d3 := hki.cell 3 rfl
                  have hlc2 := hki.lt
                  have HBc2 := Lib.hid (HBi.out.trans (hbi.mono HBi.out.size))
                  clear hki hbi
                  refine wp_region_held_drew (S := fun w' => w'.cell? ⟨wi.heap.size, 0, none⟩ = some (.int .i64 ca) ∧ w'.cell? ⟨wi.heap.size, 1, none⟩ = some (.int .u8 cop) ∧ w'.cell? ⟨wi.heap.size, 2, none⟩ = some (.int .u64 cm) ∧ w'.cell? ⟨wi.heap.size, 3, none⟩ = some (.int .u64 cv) ∧ wi.heap.size < w'.heap.size) (by kernel_rfl) ?_ (fun hHeld0 => ?_)
                  · exact ⟨d0, d1, d2, d3, hlc2⟩
                  have hbv0 : Below wl.heap.size wl wc.drew := below_drewN HBc2.out 1
                  generalize wc.drew = v0 at hHeld0 hbv0 ⊢
                  have HV0 := Lib.hid hbv0
                  clear hbv0 d0 d1 d2 d3 hlc2
                  refine wpAnyH_take (i := 0) (v := ?_) (by first | (simp only [List.getElem?_toArray, List.getElem?_cons_zero] <;> rfl) | rfl) (by kernel_rfl) (by kernel_rfl) (by kernel_rfl) (by exact fun _ _ _ h => h) (Or.inl ⟨by rfl, ?_⟩) hHeld0 ?_
                  rotate_left 1
                  · intro w hSw
                    try dsimp only at hSw
                    (go_simp) <;> (with_reducible rfl)
                  try simp only [Act.put, List.setIfInBounds_toArray, List.set_cons_zero, List.set_cons_succ]
                  refine wpAnyH_take (i := 2) (v := ?_) (by first | (simp only [List.getElem?_toArray, List.getElem?_cons_succ, List.getElem?_cons_zero] <;> rfl) | rfl) (by kernel_rfl) (by kernel_rfl) (by kernel_rfl) (by exact fun _ _ _ h => h) (Or.inl ⟨by rfl, ?_⟩) hHeld0 ?_
                  rotate_left 1
                  · intro w hSw
                    try dsimp only at hSw
                    (go_simp) <;> (with_reducible rfl)
                  try simp only [Act.put, List.setIfInBounds_toArray, List.set_cons_zero, List.set_cons_succ]
                  refine wpAnyH_ready (rs := [1]) (by kernel_rfl) (by simp) ?_
                  refine AllReadyH.cons (by first | (simp only [List.getElem?_toArray, List.getElem?_cons_succ, List.getElem?_cons_zero] <;> rfl) | rfl) (fun K hK => ?_) ?_
                  · go_simp
                    refine (condCheck_any ca cop cm cv v0 HCc.out.2.2.2.1 HCc.out.2.2.2.2).mono ?_
                    rintro e v1 ⟨rfl, hbb⟩
                    refine hK.out _ _ ?_ (fun hHeld1 => ?_)
                    · exact ⟨cell_below hHeld0.1 hbb, cell_below hHeld0.2.1 hbb, cell_below hHeld0.2.2.1 hbb, cell_below hHeld0.2.2.2.1 hbb, Nat.lt_of_lt_of_le hHeld0.2.2.2.2 hbb.size⟩
                    clear hK K
                    have HV1 := Lib.hid (HV0.out.trans (hbb.mono HV0.out.size))
                    clear hbb hHeld0
                    try simp only [Act.put, List.setIfInBounds_toArray, List.set_cons_zero, List.set_cons_succ]
                    refine wpAnyH_ready (rs := [3]) (by kernel_rfl) (by simp) ?_
                    refine AllReadyH.cons (by first | (simp only [List.getElem?_toArray, List.getElem?_cons_succ, List.getElem?_cons_zero] <;> rfl) | rfl) (fun K hK => ?_) ?_
                    · go_simp
                      refine (refCond_any ca cop cm cv v1 HCc.out.2.2.1).mono ?_
                      rintro e v2 ⟨rfl, hbb⟩
                      refine hK.out _ _ ?_ (fun hHeld2 => ?_)
                      · exact ⟨cell_below hHeld1.1 hbb, cell_below hHeld1.2.1 hbb, cell_below hHeld1.2.2.1 hbb, cell_below hHeld1.2.2.2.1 hbb, Nat.lt_of_lt_of_le hHeld1.2.2.2.2 hbb.size⟩
                      clear hK K
                      have HV2 := Lib.hid (HV1.out.trans (hbb.mono HV1.out.size))
                      clear hbb hHeld1
                      try simp only [Act.put, List.setIfInBounds_toArray, List.set_cons_zero, List.set_cons_succ]
                      refine wpAnyH_ready (rs := [4]) (by kernel_rfl) (by simp) ?_
                      refine AllReadyH.cons (by first | (simp only [List.getElem?_toArray, List.getElem?_cons_succ, List.getElem?_cons_zero] <;> rfl) | rfl) (fun K hK => ?_) ?_
                      · go_simp
                        refine (refCondCheck_any ca cop cm cv v2 HCc.out.2.2.2.1 HCc.out.2.2.2.2).mono ?_
                        rintro e v3 ⟨rfl, hbb⟩
                        refine hK.out _ _ ?_ (fun hHeld3 => ?_)
                        · exact ⟨cell_below hHeld2.1 hbb, cell_below hHeld2.2.1 hbb, cell_below hHeld2.2.2.1 hbb, cell_below hHeld2.2.2.2.1 hbb, Nat.lt_of_lt_of_le hHeld2.2.2.2.2 hbb.size⟩
                        clear hK K
                        have HV3 := Lib.hid (HV2.out.trans (hbb.mono HV2.out.size))
                        clear hbb hHeld2
                        try simp only [Act.put, List.setIfInBounds_toArray, List.set_cons_zero, List.set_cons_succ]
                        refine wpAnyH_take (i := 5) (v := ?_) (by first | (simp only [List.getElem?_toArray, List.getElem?_cons_succ, List.getElem?_cons_zero] <;> rfl) | rfl) (by kernel_rfl) (by kernel_rfl) (by kernel_rfl) (by exact fun _ _ _ h => h) (Or.inl ⟨by rfl, ?_⟩) hHeld3 ?_
                        rotate_left 1
                        · intro w hSw
                          try dsimp only at hSw
                          (go_simp) <;> (with_reducible rfl)
                        try simp only [Act.put, List.setIfInBounds_toArray, List.set_cons_zero, List.set_cons_succ]
                        refine wpAnyH_done (by kernel_rfl) ?_ _
                        go_wp2_with fail
                        go_roundw
                        case rel => exact ⟨i + 1, by go_num, by omega, HV3⟩
                        case measure => simp [intOf]; omega
                      exact AllReadyH.nil
                    exact AllReadyH.nil
                  exact AllReadyH.nil
                · obtain rfl : i = nc := by omega
                  have HBj2 := Lib.hid (HBl.out.trans (HBi.out.mono HBl.out.size))
                  go_wp2_with fail
                  go_roundw
                  case rel => exact ⟨j + 1, by go_num, by omega, HBj2⟩
                  case measure => simp [intOf]; omega
            · obtain rfl : j = n1 := by omega
              have HT4 := Lib.hid (show TS wj w5.heap.size ((k + 1) * 64) by rw [Nat.succ_mul]; exact HTy.out.kept HBj.out)
              have HG4 := Lib.hid (grow_below HWy.out HBj.out)
              go_wp2_with fail
              go_roundw
              case rel => exact ⟨k + 1, by go_num, by omega, HT4, HG4⟩
              case measure => simp [intOf]; omega
      ·
        obtain rfl : k = 3 := by omega
        have hbwr : Below w.heap.size w wr := ((HBe.out.trans (HBW.out.mono HBe.out.size)).grown HG.out (Nat.le_trans HBe.out.size HBW.out.size) (fun g hg2 => by cases hg2; omega))
        have HBwr := Lib.hid hbwr
        have HQy := Lib.hid ((HQr.out.below HBW.out).grown HQo.out HG.out)
        have HEr := Lib.hid ((HEe.out.below HBW.out).grown HTf.out HG.out)
        have hlf2 : w7.heap.size < wr.heap.size := by omega
        have hkq := (HKq.out.kept HBW.out).grown HG.out (fun e => by have := Option.some.inj e; omega)
        have hkc := (HKc.out.kept HBW.out).grown HG.out (fun e => by have := Option.some.inj e; omega)
        have hkp := (HKp.out.kept HBW.out).grown HG.out (fun e => by have := Option.some.inj e; omega)
        have q0 := hkq.cell 0 rfl
        have q1 := hkq.cell 1 rfl
        have q2 := hkq.cell 2 rfl
        have q3 := hkq.cell 3 rfl
        have q4 := hkq.cell 4 rfl
        have q5 := hkq.cell 5 rfl
        have d0 := hkc.cell 0 rfl
        have d1 := hkc.cell 1 rfl
        have d2 := hkc.cell 2 rfl
        have d3 := hkc.cell 3 rfl
        have p0 := hkp.cell 0 rfl
        have p1 := hkp.cell 1 rfl
        have p2 := hkp.cell 2 rfl
        have p3 := hkp.cell 3 rfl
        have p4 := hkp.cell 4 rfl
        have p5 := hkp.cell 5 rfl
        clear hkq hkc hkp hbwr
        go_upto_region 45 with fail
        refine wp_region_held_drew (S := fun w' => w'.cell? ⟨w7.heap.size, 0, none⟩ = some (.string ⟨qnm.toArray⟩) ∧ w'.cell? ⟨w7.heap.size, 1, none⟩ = some (.int .u32 qact) ∧ w'.cell? ⟨w7.heap.size, 2, none⟩ = some (.slice qRA qnR qRc) ∧ w'.cell? ⟨w7.heap.size, 3, none⟩ = some (.int .u16 qhd) ∧ w'.cell? ⟨w7.heap.size, 4, none⟩ = some (.slice qPA qnP qPc) ∧ w'.cell? ⟨w7.heap.size, 5, none⟩ = some (.slice qQA qnQ qQc) ∧ w'.cell? ⟨w.heap.size + 1 + 1, 0, none⟩ = some (.int .i64 c.arg) ∧ w'.cell? ⟨w.heap.size + 1 + 1, 1, none⟩ = some (.int .u8 c.op) ∧ w'.cell? ⟨w.heap.size + 1 + 1, 2, none⟩ = some (.int .u64 c.mask) ∧ w'.cell? ⟨w.heap.size + 1 + 1, 3, none⟩ = some (.int .u64 c.val) ∧ w'.cell? ⟨w.heap.size, 0, none⟩ = some (.string ⟨nm.toArray⟩) ∧ w'.cell? ⟨w.heap.size, 1, none⟩ = some (.int .u32 dflt) ∧ w'.cell? ⟨w.heap.size, 2, none⟩ = some (.slice RA nR Rc) ∧ w'.cell? ⟨w.heap.size, 3, none⟩ = some (.int .u16 hd) ∧ w'.cell? ⟨w.heap.size, 4, none⟩ = some (.slice PA nP Pc) ∧ w'.cell? ⟨w.heap.size, 5, none⟩ = some (.slice QA nQ Qc) ∧ w7.heap.size < w'.heap.size) (by kernel_rfl) ?_ (fun hHeld0 => ?_)
        · exact ⟨q0, q1, q2, q3, q4, q5, d0, d1, d2, d3, p0, p1, p2, p3, p4, p5, hlf2⟩
        have hbv0 : Below wr.heap.size wr wr.drew := below_drewN (Below.refl _ _) 1
        generalize wr.drew = v0 at hHeld0 hbv0 ⊢
        have HTv := Lib.hid (HTr.out.kept hbv0)
        have HBv0 := Lib.hid (HBwr.out.trans (hbv0.mono HBwr.out.size))
        have HQv := Lib.hid (HQy.out.below hbv0)
        have HEv := Lib.hid (HEr.out.below hbv0)
        clear hbv0 q0 q1 q2 q3 q4 q5 d0 d1 d2 d3 p0 p1 p2 p3 p4 p5
        refine wpAnyH_take (i := 0) (v := ?_) (by first | (simp only [List.getElem?_toArray, List.getElem?_cons_zero] <;> rfl) | rfl) (by kernel_rfl) (by kernel_rfl) (by kernel_rfl) (by exact fun _ _ _ h => h) (Or.inl ⟨by rfl, ?_⟩) hHeld0 ?_
        rotate_left 1
        · intro w hSw
          try dsimp only at hSw
          (go_simp) <;> (with_reducible rfl)
        try simp only [Act.put, List.setIfInBounds_toArray, List.set_cons_zero, List.set_cons_succ]
        refine wpAnyH_take (i := 1) (v := ?_) (by first | (simp only [List.getElem?_toArray, List.getElem?_cons_succ, List.getElem?_cons_zero] <;> rfl) | rfl) (by kernel_rfl) (by kernel_rfl) (by kernel_rfl) (by exact fun _ _ _ h => h) (Or.inl ⟨by rfl, ?_⟩) hHeld0 ?_
        rotate_left 1
        · intro w hSw
          try dsimp only at hSw
          (go_simp) <;> (with_reducible rfl)
        try simp only [Act.put, List.setIfInBounds_toArray, List.set_cons_zero, List.set_cons_succ]
        refine wpAnyH_ready (rs := [2]) (by kernel_rfl) (by simp) ?_
        refine AllReadyH.cons (by first | (simp only [List.getElem?_toArray, List.getElem?_cons_succ, List.getElem?_cons_zero] <;> rfl) | rfl) (fun K hK => ?_) ?_
        · go_simp
          refine (polCheck_any qnm qact qrs qRA qnR qRc qhd qpt qPA qnP qPc qpo qQA qnQ qQc w5.heap.size (3 * 64) v0 HFq.out.nameF HFq.out.dfltF HqN.out.1.symm HqN.out.2.1.symm HqN.out.2.2.symm (le_many (by rw [HqN.out.1]; exact HFq.out.rulesF)) (le_many (by rw [HqN.out.2.1]; exact Nat.le_trans HFq.out.pathsF (by omega))) (le_many (by rw [HqN.out.2.2]; exact Nat.le_trans HFq.out.portsF (by omega))) (fun r hr => (HFq.out.ruleF r hr).1) HFq.out.hdF HFq.out.pathF HFq.out.portF (by rw [HqN.out.2.1]; exact HFq.out.fitF.1) (by rw [HqN.out.2.2]; exact HFq.out.fitF.2) HQv.out HQo.out HTv.out (by omega) HEv.out).mono ?_
          rintro e v1 ⟨rfl, ht1, hg1⟩
          rw [sm_polE HQok.out]
          refine hK.out _ _ ?_ (fun hHeld1 => ?_)
          · exact ⟨cell_grown hHeld0.1 hg1 (by omega), cell_grown hHeld0.2.1 hg1 (by omega), cell_grown hHeld0.2.2.1 hg1 (by omega), cell_grown hHeld0.2.2.2.1 hg1 (by omega), cell_grown hHeld0.2.2.2.2.1 hg1 (by omega), cell_grown hHeld0.2.2.2.2.2.1 hg1 (by omega), cell_grown hHeld0.2.2.2.2.2.2.1 hg1 (by omega), cell_grown hHeld0.2.2.2.2.2.2.2.1 hg1 (by omega), cell_grown hHeld0.2.2.2.2.2.2.2.2.1 hg1 (by omega), cell_grown hHeld0.2.2.2.2.2.2.2.2.2.1 hg1 (by omega), cell_grown hHeld0.2.2.2.2.2.2.2.2.2.2.1 hg1 (by omega), cell_grown hHeld0.2.2.2.2.2.2.2.2.2.2.2.1 hg1 (by omega), cell_grown hHeld0.2.2.2.2.2.2.2.2.2.2.2.2.1 hg1 (by omega), cell_grown hHeld0.2.2.2.2.2.2.2.2.2.2.2.2.2.1 hg1 (by omega), cell_grown hHeld0.2.2.2.2.2.2.2.2.2.2.2.2.2.2.1 hg1 (by omega), cell_grown hHeld0.2.2.2.2.2.2.2.2.2.2.2.2.2.2.2.1 hg1 (by omega), Nat.lt_of_lt_of_le hHeld0.2.2.2.2.2.2.2.2.2.2.2.2.2.2.2.2 hg1.size⟩
          clear hK K
          have HBv1 := Lib.hid (HBv0.out.grown hg1 HBv0.out.size (fun g hg2 => by cases hg2; omega))
          clear ht1 hg1 hHeld0
          try simp only [Act.put, List.setIfInBounds_toArray, List.set_cons_zero, List.set_cons_succ]
          refine wpAnyH_take (i := 3) (v := ?_) (by first | (simp only [List.getElem?_toArray, List.getElem?_cons_succ, List.getElem?_cons_zero] <;> rfl) | rfl) (by kernel_rfl) (by kernel_rfl) (by kernel_rfl) (by exact fun _ _ _ h => h) (Or.inl ⟨by rfl, ?_⟩) hHeld1 ?_
          rotate_left 1
          · intro w hSw
            try dsimp only at hSw
            (go_simp) <;> (with_reducible rfl)
          try simp only [Act.put, List.setIfInBounds_toArray, List.set_cons_zero, List.set_cons_succ]
          refine wpAnyH_take (i := 4) (v := ?_) (by first | (simp only [List.getElem?_toArray, List.getElem?_cons_succ, List.getElem?_cons_zero] <;> rfl) | rfl) (by kernel_rfl) (by kernel_rfl) (by kernel_rfl) (by exact fun _ _ _ h => h) (Or.inl ⟨by rfl, ?_⟩) hHeld1 ?_
          rotate_left 1
          · intro w hSw
            try dsimp only at hSw
            (go_simp) <;> (with_reducible rfl)
          try simp only [Act.put, List.setIfInBounds_toArray, List.set_cons_zero, List.set_cons_succ]
          refine wpAnyH_take (i := 5) (v := ?_) (by first | (simp only [List.getElem?_toArray, List.getElem?_cons_succ, List.getElem?_cons_zero] <;> rfl) | rfl) (by kernel_rfl) (by kernel_rfl) (by kernel_rfl) (by exact fun _ _ _ h => h) (Or.inl ⟨by rfl, ?_⟩) hHeld1 ?_
          rotate_left 1
          · intro w hSw
            try dsimp only at hSw
            (go_simp) <;> (with_reducible rfl)
          try simp only [Act.put, List.setIfInBounds_toArray, List.set_cons_zero, List.set_cons_succ]
          refine wpAnyH_take (i := 7) (v := ?_) (by first | (simp only [List.getElem?_toArray, List.getElem?_cons_succ, List.getElem?_cons_zero] <;> rfl) | rfl) (by kernel_rfl) (by kernel_rfl) (by kernel_rfl) (by exact fun _ _ _ h => h) (Or.inl ⟨by rfl, ?_⟩) hHeld1 ?_
          rotate_left 1
          · intro w hSw
            try dsimp only at hSw
            (go_simp) <;> (with_reducible rfl)
          try simp only [Act.put, List.setIfInBounds_toArray, List.set_cons_zero, List.set_cons_succ]
          refine wpAnyH_ready (rs := [6]) (by kernel_rfl) (by simp) ?_
          refine AllReadyH.cons (by first | (simp only [List.getElem?_toArray, List.getElem?_cons_succ, List.getElem?_cons_zero] <;> rfl) | rfl) (fun K hK => ?_) ?_
          · go_simp
            refine (condCheck_any c.arg c.op c.mask c.val v1 Hc.out.2.2.2.1 Hc.out.2.2.2.2).mono ?_
            rintro e v2 ⟨rfl, hbb⟩
            refine hK.out _ _ ?_ (fun hHeld2 => ?_)
            · exact ⟨cell_below hHeld1.1 hbb, cell_below hHeld1.2.1 hbb, cell_below hHeld1.2.2.1 hbb, cell_below hHeld1.2.2.2.1 hbb, cell_below hHeld1.2.2.2.2.1 hbb, cell_below hHeld1.2.2.2.2.2.1 hbb, cell_below hHeld1.2.2.2.2.2.2.1 hbb, cell_below hHeld1.2.2.2.2.2.2.2.1 hbb, cell_below hHeld1.2.2.2.2.2.2.2.2.1 hbb, cell_below hHeld1.2.2.2.2.2.2.2.2.2.1 hbb, cell_below hHeld1.2.2.2.2.2.2.2.2.2.2.1 hbb, cell_below hHeld1.2.2.2.2.2.2.2.2.2.2.2.1 hbb, cell_below hHeld1.2.2.2.2.2.2.2.2.2.2.2.2.1 hbb, cell_below hHeld1.2.2.2.2.2.2.2.2.2.2.2.2.2.1 hbb, cell_below hHeld1.2.2.2.2.2.2.2.2.2.2.2.2.2.2.1 hbb, cell_below hHeld1.2.2.2.2.2.2.2.2.2.2.2.2.2.2.2.1 hbb, Nat.lt_of_lt_of_le hHeld1.2.2.2.2.2.2.2.2.2.2.2.2.2.2.2.2 hbb.size⟩
            clear hK K
            have HBv2 := Lib.hid (HBv1.out.trans (hbb.mono HBv1.out.size))
            clear hbb hHeld1
            try simp only [Act.put, List.setIfInBounds_toArray, List.set_cons_zero, List.set_cons_succ]
            refine wpAnyH_ready (rs := [8]) (by kernel_rfl) (by simp) ?_
            refine AllReadyH.cons (by first | (simp only [List.getElem?_toArray, List.getElem?_cons_succ, List.getElem?_cons_zero] <;> rfl) | rfl) (fun K hK => ?_) ?_
            · go_simp
              refine (refCond_any c.arg c.op c.mask c.val v2 Hc.out.2.2.1).mono ?_
              rintro e v3 ⟨rfl, hbb⟩
              refine hK.out _ _ ?_ (fun hHeld3 => ?_)
              · exact ⟨cell_below hHeld2.1 hbb, cell_below hHeld2.2.1 hbb, cell_below hHeld2.2.2.1 hbb, cell_below hHeld2.2.2.2.1 hbb, cell_below hHeld2.2.2.2.2.1 hbb, cell_below hHeld2.2.2.2.2.2.1 hbb, cell_below hHeld2.2.2.2.2.2.2.1 hbb, cell_below hHeld2.2.2.2.2.2.2.2.1 hbb, cell_below hHeld2.2.2.2.2.2.2.2.2.1 hbb, cell_below hHeld2.2.2.2.2.2.2.2.2.2.1 hbb, cell_below hHeld2.2.2.2.2.2.2.2.2.2.2.1 hbb, cell_below hHeld2.2.2.2.2.2.2.2.2.2.2.2.1 hbb, cell_below hHeld2.2.2.2.2.2.2.2.2.2.2.2.2.1 hbb, cell_below hHeld2.2.2.2.2.2.2.2.2.2.2.2.2.2.1 hbb, cell_below hHeld2.2.2.2.2.2.2.2.2.2.2.2.2.2.2.1 hbb, cell_below hHeld2.2.2.2.2.2.2.2.2.2.2.2.2.2.2.2.1 hbb, Nat.lt_of_lt_of_le hHeld2.2.2.2.2.2.2.2.2.2.2.2.2.2.2.2.2 hbb.size⟩
              clear hK K
              have HBv3 := Lib.hid (HBv2.out.trans (hbb.mono HBv2.out.size))
              clear hbb hHeld2
              try simp only [Act.put, List.setIfInBounds_toArray, List.set_cons_zero, List.set_cons_succ]
              refine wpAnyH_ready (rs := [9]) (by kernel_rfl) (by simp) ?_
              refine AllReadyH.cons (by first | (simp only [List.getElem?_toArray, List.getElem?_cons_succ, List.getElem?_cons_zero] <;> rfl) | rfl) (fun K hK => ?_) ?_
              · go_simp
                refine (refCondCheck_any c.arg c.op c.mask c.val v3 Hc.out.2.2.2.1 Hc.out.2.2.2.2).mono ?_
                rintro e v4 ⟨rfl, hbb⟩
                refine hK.out _ _ ?_ (fun hHeld4 => ?_)
                · exact ⟨cell_below hHeld3.1 hbb, cell_below hHeld3.2.1 hbb, cell_below hHeld3.2.2.1 hbb, cell_below hHeld3.2.2.2.1 hbb, cell_below hHeld3.2.2.2.2.1 hbb, cell_below hHeld3.2.2.2.2.2.1 hbb, cell_below hHeld3.2.2.2.2.2.2.1 hbb, cell_below hHeld3.2.2.2.2.2.2.2.1 hbb, cell_below hHeld3.2.2.2.2.2.2.2.2.1 hbb, cell_below hHeld3.2.2.2.2.2.2.2.2.2.1 hbb, cell_below hHeld3.2.2.2.2.2.2.2.2.2.2.1 hbb, cell_below hHeld3.2.2.2.2.2.2.2.2.2.2.2.1 hbb, cell_below hHeld3.2.2.2.2.2.2.2.2.2.2.2.2.1 hbb, cell_below hHeld3.2.2.2.2.2.2.2.2.2.2.2.2.2.1 hbb, cell_below hHeld3.2.2.2.2.2.2.2.2.2.2.2.2.2.2.1 hbb, cell_below hHeld3.2.2.2.2.2.2.2.2.2.2.2.2.2.2.2.1 hbb, Nat.lt_of_lt_of_le hHeld3.2.2.2.2.2.2.2.2.2.2.2.2.2.2.2.2 hbb.size⟩
                clear hK K
                have HBv4 := Lib.hid (HBv3.out.trans (hbb.mono HBv3.out.size))
                clear hbb hHeld3
                try simp only [Act.put, List.setIfInBounds_toArray, List.set_cons_zero, List.set_cons_succ]
                refine wpAnyH_take (i := 10) (v := ?_) (by first | (simp only [List.getElem?_toArray, List.getElem?_cons_succ, List.getElem?_cons_zero] <;> rfl) | rfl) (by kernel_rfl) (by kernel_rfl) (by kernel_rfl) (by exact fun _ _ _ h => h) (Or.inl ⟨by rfl, ?_⟩) hHeld4 ?_
                rotate_left 1
                · intro w hSw
                  try dsimp only at hSw
                  (go_simp) <;> (with_reducible rfl)
                try simp only [Act.put, List.setIfInBounds_toArray, List.set_cons_zero, List.set_cons_succ]
                refine wpAnyH_take (i := 11) (v := ?_) (by first | (simp only [List.getElem?_toArray, List.getElem?_cons_succ, List.getElem?_cons_zero] <;> rfl) | rfl) (by kernel_rfl) (by kernel_rfl) (by kernel_rfl) (by exact fun _ _ _ h => h) (Or.inl ⟨by rfl, ?_⟩) hHeld4 ?_
                rotate_left 1
                · intro w hSw
                  try dsimp only at hSw
                  (go_simp) <;> (with_reducible rfl)
                try simp only [Act.put, List.setIfInBounds_toArray, List.set_cons_zero, List.set_cons_succ]
                refine wpAnyH_take (i := 12) (v := ?_) (by first | (simp only [List.getElem?_toArray, List.getElem?_cons_succ, List.getElem?_cons_zero] <;> rfl) | rfl) (by kernel_rfl) (by kernel_rfl) (by kernel_rfl) (by exact fun _ _ _ h => h) (Or.inl ⟨by rfl, ?_⟩) hHeld4 ?_
                rotate_left 1
                · intro w hSw
                  try dsimp only at hSw
                  (go_simp) <;> (with_reducible rfl)
                try simp only [Act.put, List.setIfInBounds_toArray, List.set_cons_zero, List.set_cons_succ]
                refine wpAnyH_take (i := 13) (v := ?_) (by first | (simp only [List.getElem?_toArray, List.getElem?_cons_succ, List.getElem?_cons_zero] <;> rfl) | rfl) (by kernel_rfl) (by kernel_rfl) (by kernel_rfl) (by exact fun _ _ _ h => h) (Or.inl ⟨by rfl, ?_⟩) hHeld4 ?_
                rotate_left 1
                · intro w hSw
                  try dsimp only at hSw
                  (go_simp) <;> (with_reducible rfl)
                try simp only [Act.put, List.setIfInBounds_toArray, List.set_cons_zero, List.set_cons_succ]
                refine wpAnyH_ready (rs := [14]) (by kernel_rfl) (by simp) ?_
                refine AllReadyH.cons (by first | (simp only [List.getElem?_toArray, List.getElem?_cons_succ, List.getElem?_cons_zero] <;> rfl) | rfl) (fun K hK => ?_) ?_
                · go_simp
                  refine (polCheck_nil _ _ _ _ _ _ v4).mono ?_
                  rintro e v5 ⟨rfl, hbb⟩
                  refine hK.out _ _ ?_ (fun hHeld5 => ?_)
                  · exact ⟨cell_below hHeld4.1 hbb, cell_below hHeld4.2.1 hbb, cell_below hHeld4.2.2.1 hbb, cell_below hHeld4.2.2.2.1 hbb, cell_below hHeld4.2.2.2.2.1 hbb, cell_below hHeld4.2.2.2.2.2.1 hbb, cell_below hHeld4.2.2.2.2.2.2.1 hbb, cell_below hHeld4.2.2.2.2.2.2.2.1 hbb, cell_below hHeld4.2.2.2.2.2.2.2.2.1 hbb, cell_below hHeld4.2.2.2.2.2.2.2.2.2.1 hbb, cell_below hHeld4.2.2.2.2.2.2.2.2.2.2.1 hbb, cell_below hHeld4.2.2.2.2.2.2.2.2.2.2.2.1 hbb, cell_below hHeld4.2.2.2.2.2.2.2.2.2.2.2.2.1 hbb, cell_below hHeld4.2.2.2.2.2.2.2.2.2.2.2.2.2.1 hbb, cell_below hHeld4.2.2.2.2.2.2.2.2.2.2.2.2.2.2.1 hbb, cell_below hHeld4.2.2.2.2.2.2.2.2.2.2.2.2.2.2.2.1 hbb, Nat.lt_of_lt_of_le hHeld4.2.2.2.2.2.2.2.2.2.2.2.2.2.2.2.2 hbb.size⟩
                  clear hK K
                  have HBv5 := Lib.hid (HBv4.out.trans (hbb.mono HBv4.out.size))
                  clear hbb hHeld4
                  try simp only [Act.put, List.setIfInBounds_toArray, List.set_cons_zero, List.set_cons_succ]
                  refine wpAnyH_take (i := 15) (v := ?_) (by first | (simp only [List.getElem?_toArray, List.getElem?_cons_succ, List.getElem?_cons_zero] <;> rfl) | rfl) (by kernel_rfl) (by kernel_rfl) (by kernel_rfl) (by exact fun _ _ _ h => h) (Or.inl ⟨by rfl, ?_⟩) hHeld5 ?_
                  rotate_left 1
                  · intro w hSw
                    try dsimp only at hSw
                    (go_simp) <;> (with_reducible rfl)
                  try simp only [Act.put, List.setIfInBounds_toArray, List.set_cons_zero, List.set_cons_succ]
                  refine wpAnyH_take (i := 16) (v := ?_) (by first | (simp only [List.getElem?_toArray, List.getElem?_cons_succ, List.getElem?_cons_zero] <;> rfl) | rfl) (by kernel_rfl) (by kernel_rfl) (by kernel_rfl) (by exact fun _ _ _ h => h) (Or.inl ⟨by rfl, ?_⟩) hHeld5 ?_
                  rotate_left 1
                  · intro w hSw
                    try dsimp only at hSw
                    (go_simp) <;> (with_reducible rfl)
                  try simp only [Act.put, List.setIfInBounds_toArray, List.set_cons_zero, List.set_cons_succ]
                  refine wpAnyH_take (i := 17) (v := ?_) (by first | (simp only [List.getElem?_toArray, List.getElem?_cons_succ, List.getElem?_cons_zero] <;> rfl) | rfl) (by kernel_rfl) (by kernel_rfl) (by kernel_rfl) (by exact fun _ _ _ h => h) (Or.inl ⟨by rfl, ?_⟩) hHeld5 ?_
                  rotate_left 1
                  · intro w hSw
                    try dsimp only at hSw
                    (go_simp) <;> (with_reducible rfl)
                  try simp only [Act.put, List.setIfInBounds_toArray, List.set_cons_zero, List.set_cons_succ]
                  refine wpAnyH_done (by kernel_rfl) ?_ _
                  go_wp2_with fail
                  go_ret
                  exact ⟨rfl, HBv5.out⟩
                exact AllReadyH.nil
              exact AllReadyH.nil
            exact AllReadyH.nil
          exact AllReadyH.nil
        exact AllReadyH.nil
end Go.Proofs.YtonpakndocgndaaGreatDoor
