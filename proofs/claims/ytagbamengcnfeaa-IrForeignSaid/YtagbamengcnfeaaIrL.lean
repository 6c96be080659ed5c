/- A foreign machine; numbers that have no case: the walk. -/
import Derived.Test.YtagbamengcnfeaaIrK
import Derived.Test.YtagbamengcnfeaaMeE
namespace Go.Proofs.Ytagbamengcnfeaa.Ir
open Go.RowKit Go.WideElems Go.Proofs.Ytagbamengcnfeaa.Me
theorem rrd_of {w : World} {B : Nat} {nm : Bs} {act : Nat} {rs : List RuleV} {RA : Option Addr} {Rc hd : Nat} {pt : List (Bs × Nat)} {PA : Option Addr} {Pc : Nat} {po : List (Nat × Nat)} {QA : Option Addr} {Qc : Nat} (h : Rows4 w B rs RA Rc pt PA Pc po QA Qc) (hs : SmOk nm act rs hd pt po) : RRd w rs RA := by
  obtain ⟨A1, c1, e, _, h1, _⟩ := own_typed h.r
  cases e
  exact ⟨h1.rd, fun x hx => (h.c x hx).rd, fun x hx => (hs.rule x hx).2.2⟩
set_option maxHeartbeats 16000000 in
set_option maxRecDepth 100000 in
theorem walk_irForeign (s : SmV) (r0 : RcM) (w : World) (hs : SmIn w s) (hr0 : r0.ok) :
    Calls Try.prog 7 #[.agg s.cells.toArray, .agg r0.cells.toArray] w (RetB true w) := by
  obtain ⟨ni, df, er, hh, srs, SA, sc, dl, DA, dc, gl, GA, gc, kl, KA, kc⟩ := s
  show Calls Try.prog _ #[.agg #[.int .u8 ni, .int .u8 df, .int .u8 er, .slice SA srs.length sc, .int .u16 hh, .slice DA dl.length dc, .slice GA gl.length gc, .slice KA kl.length kc], .agg #[.int .u32 r0.num, .int .u32 r0.arch, .int .u64 r0.at_, .int .u64 r0.a0, .int .u64 r0.a1, .int .u64 r0.a2, .int .u64 r0.a3, .int .u64 r0.a4, .int .u64 r0.a5]] w _
  obtain ⟨hk1, hk2, hb⟩ := two_new w #[.int .u8 ni, .int .u8 df, .int .u8 er, .slice SA srs.length sc, .int .u16 hh, .slice DA dl.length dc, .slice GA gl.length gc, .slice KA kl.length kc] #[.int .u32 r0.num, .int .u32 r0.arch, .int .u64 r0.at_, .int .u64 r0.a0, .int .u64 r0.a1, .int .u64 r0.a2, .int .u64 r0.a3, .int .u64 r0.a4, .int .u64 r0.a5] 28 33 (la := [.int .u8 ni, .int .u8 df, .int .u8 er, .slice SA srs.length sc, .int .u16 hh, .slice DA dl.length dc, .slice GA gl.length gc, .slice KA kl.length kc]) (lb := r0.cells) rfl rfl
  have HSm := Lib.hid (fun W (hb : Below w.heap.size w W) => smallPolicyF_any ni df er hh srs SA _ sc dl DA _ dc gl GA _ gc kl KA _ kc W hs.g1 hs.g2 hs.g3 hs.g4 rfl rfl rfl rfl hs.g5 hs.g6 hs.g7 hs.g8 hs.g9 hs.g10 hs.g11 hs.g12 (hs.g13.below hb) (fun r hr => (hs.g14 r hr).below hb) (hs.g15.below hb) (hs.g16.below hb) (hs.g17.below hb))
  have HR0 := Lib.hid hr0
  clear hs hr0
  go_enter Try.func7, Try.ntmps7
  go_upto_region 1 with fail
  generalize (w.alloc _).alloc _ = w2 at hk1 hk2 hb ⊢
  have HB2 := Lib.hid hb
  have HK1 := Lib.hid hk1
  have HK2 := Lib.hid hk2
  clear hk1 hk2 hb
  have haw := Lib.hid (fun W => awake_any W)
  go_wp2_with fail
  refine (haw.out _).mono ?_
  clear haw
  rintro e w3 ⟨rfl, hb3⟩
  have HB3 := Lib.hid (HB2.out.trans (hb3.mono HB2.out.size))
  have hk1 := HK1.out.kept hb3
  have q0 := hk1.cell 0 rfl
  have q1 := hk1.cell 1 rfl
  have q2 := hk1.cell 2 rfl
  have q3 := hk1.cell 3 rfl
  have q4 := hk1.cell 4 rfl
  have q5 := hk1.cell 5 rfl
  have q6 := hk1.cell 6 rfl
  have q7 := hk1.cell 7 rfl
  have ql := hk1.lt
  have HK1 := Lib.hid hk1
  have HK2 := Lib.hid (HK2.out.kept hb3)
  clear hb3 HB2 hk1
  go_wp2_with fail
  refine (HSm.out _ HB3.out).mono ?_
  clear q0 q1 q2 q3 q4 q5 q6 q7 ql
  rintro e w4 ⟨nm, act, rs, RA, Rc, hd, pt, PA, Pc, po, QA, Qc, rfl, hrows, hsok, hact, hrf, hb4⟩
  have HRR := Lib.hid (rrd_of hrows hsok)
  have HB4 := Lib.hid (HB3.out.trans (hb4.mono HB3.out.size))
  have HK1 := Lib.hid (HK1.out.kept hb4)
  have HK2 := Lib.hid (HK2.out.kept hb4)
  have HSO := Lib.hid hsok
  have HAC := Lib.hid hact
  have HRF := Lib.hid hrf
  have HOf := Lib.hid (of_any ⟨nm.toArray⟩ act rs RA rs.length Rc hd PA pt.length Pc QA po.length Qc w4 rfl (by have := hsok.many; omega) HRR.out (fun r hr => by have := (hsok.rule r hr).2.1; omega))
  clear hrows hsok hact hrf hb4 HB3
  go_wp2_with fail
  refine HOf.out.mono ?_
  clear HOf
  rintro e w5 ⟨hb5, l', hS, A, cap, cs, hcs, rfl, hP⟩
  have HB5 := Lib.hid (HB4.out.trans (hb5.mono HB4.out.size))
  have HK1 := Lib.hid (HK1.out.kept hb5)
  have HK2 := Lib.hid (HK2.out.kept hb5)
  have HS := Lib.hid hS
  have HCS := Lib.hid hcs
  have hlen : cs.length ≤ 100000 := by
    have h1 := plan_len hS
    rw [← hcs, List.length_map, List.length_map] at h1
    have := HSO.out.many; omega
  have HDec5 := Lib.hid (fun W (h : Below w5.heap.size w5 W) => decide_any cs cs.length A cap act r0 W rfl hlen (asc_of hS hcs) (hP.below h) (fun c hc => by
    have hm : c.m ∈ ofF l' := by rw [← hcs]; exact List.mem_map.2 ⟨c, hc, rfl⟩
    obtain ⟨g1, g2⟩ := plan_sub hS c.m hm
    have g3 : c.m.brs.length = c.brs.length := by show (c.brs.map BrV.m).length = _; rw [List.length_map]
    rw [List.length_map] at g1
    refine ⟨by have := HSO.out.many; omega, fun b hb => ?_⟩
    obtain ⟨r, hr, _, _, h4, h5⟩ := g2 b.m (List.mem_map.2 ⟨b, hb, rfl⟩)
    obtain ⟨rv, hrv, rfl⟩ := List.mem_map.1 hr
    have hk := HSO.out.rule rv hrv
    exact ⟨by have := hk.2.1; omega, fun q hq => hk.2.2.2.2.2 q (h5 q hq)⟩) HR0.out)
  have HROW := Lib.hid hP.row.rd
  have HEQ := Lib.hid (fun (r1 act2 : Nat) (rs2 : List RuleV) (h1 : DecR act cs r0 r1) (h2 : act2 = actF df er) (h3 : rs2.map RuleV.m = (srs.take 12).map ruF) => show true = ((r1 : Int) == ((saysR act2 (rs2.map RuleV.m) r0 : Nat) : Int)) by
    have h4 := dec_says HS.out HCS.out HR0.out h1
    rw [h4, h2, ← HAC.out, h3, ← HRF.out]; simp)
  clear hb5 hS hcs hP HRR
  have y1 := HK2.out.cell 1 rfl
  have yl := HK2.out.lt
  obtain ⟨n, hn⟩ : ∃ n, n = cs.length := ⟨_, rfl⟩
  rw [← hn] at HDec5 HROW ⊢
  have HN := Lib.hid hn
  have hn9 : n ≤ 100000 := by rw [hn]; exact hlen
  clear hlen hn
  go_upto_if 18 with fail
  clear y1 yl
  have hpk : Bk (w5.alloc (.cells #[.slice A n cap, .int .u32 act] 76)) w5.heap.size 76 [.slice A n cap, .int .u32 act] := Bk.new _ _ _ rfl
  have hb6 := oneb w5 (.cells #[.slice A n cap, .int .u32 act] 76)
  have HDec := Lib.hid (fun W (h : Below (w5.alloc (.cells #[.slice A n cap, .int .u32 act] 76)).heap.size (w5.alloc (.cells #[.slice A n cap, .int .u32 act] 76)) W) => HDec5.out W (hb6.trans (h.mono hb6.size)))
  have HROW := Lib.hid (HROW.out.below hb6)
  have HB6 := Lib.hid (HB5.out.trans (hb6.mono HB5.out.size))
  have HK1 := Lib.hid (HK1.out.kept hb6)
  have HK2 := Lib.hid (HK2.out.kept hb6)
  generalize w5.alloc _ = w6 at hpk HDec HROW HB6 HK1 HK2 ⊢
  generalize w5.heap.size = pb at hpk ⊢
  have HPk := Lib.hid hpk
  clear hpk hb6 HDec5
  obtain ⟨want, hwant⟩ : ∃ want, want = (if r0.arch = 3221225534 then act else 2147483648) := ⟨_, rfl⟩
  have HWa := Lib.hid hwant
  clear hwant
  go_cut [6] from 18 to 18 (fun s6 wx => s6 = .int .u32 want ∧ wx = w6)
  case first =>
    by_cases ha : r0.arch = 3221225534
    · have e1 : ((r0.arch : Int) != 3221225534) = false := by rw [ha]; decide
      have e2 : want = act := by rw [HWa.out, if_pos ha]
      subst e2
      clear ha
      go_wp2_with fail
      go_meet
      case rel => exact ⟨rfl, rfl⟩
    · have e1 : ((r0.arch : Int) != 3221225534) = true := by rw [bne_iff_ne]; omega
      have e2 : want = 2147483648 := by rw [HWa.out, if_neg ha]
      subst e2
      clear ha
      go_wp2_with fail
      go_meet
      case rel => exact ⟨rfl, rfl⟩
  case rest =>
    obtain ⟨rfl, hwc⟩ := hcut
    rw [hwc]
    clear hwc
    have k0 := HPk.out.cell 0 rfl
    have kl := HPk.out.lt
    go_wp2_with fail
    clear k0 kl
    go_loopw [22] (fun iv wr => ∃ i : Nat, iv = .int .i64 i ∧ i ≤ n ∧ Hid (∀ c ∈ cs.take i, c.num ≠ r0.num) ∧ Hid (Below w6.heap.size w6 wr)) (fun iv _ => n - (intOf iv).toNat)
    case atStart => exact ⟨0, rfl, Nat.zero_le _, Lib.hid (by simp), Below.refl _ _⟩
    case round =>
      obtain ⟨i, rfl, hi, HF, HB⟩ := hrel
      by_cases hlt : i < n
      · obtain ⟨c, hc⟩ : ∃ c, cs[i]? = some c := ⟨_, List.getElem?_eq_getElem (by have := HN.out; omega)⟩
        have hrw := HROW.out.below HB.out
        obtain ⟨rb, ro, hA, hrl, hcell⟩ := hrw.one (f := CaV.cells) (fun _ => rfl) (by omega) (by omega)
        obtain ⟨c0, c1⟩ := case_cells hcell hc
        subst hA
        have y0 := (HK2.out.kept HB.out).cell 0 rfl
        have yl := (HK2.out.kept HB.out).lt
        have HC := Lib.hid hc
        clear hcell hc hrw
        by_cases hq : c.num = r0.num
        · have e1 : ((c.num : Int) == (r0.num : Int)) = true := by rw [hq]; simp
          clear hq
          go_upto_region 11 with fail
          have hb7 := oneb wr (.cells #[.int .u32 c.num, .slice c.A c.brs.length c.cap] 83)
          have HB7 := Lib.hid (HB.out.trans (hb7.mono HB.out.size))
          clear hb7 y0 yl c0 c1 hrl
          generalize wr.alloc _ = w7 at HB7 ⊢
          have HBw7 := Lib.hid (HB6.out.trans (HB7.out.mono HB6.out.size))
          have HDec := Lib.hid (fun W (h : Below w7.heap.size w7 W) => HDec.out W (HB7.out.trans (h.mono HB7.out.size)))
          have HSm7 := Lib.hid (fun W (h : Below w7.heap.size w7 W) => HSm.out W (HBw7.out.trans (h.mono HBw7.out.size)))
          have hp7 := HPk.out.kept HB7.out
          have hs7 := HK1.out.kept HB7.out
          have hr7 := HK2.out.kept HB7.out
          have HmkS : Hid (∀ W, Below w7.heap.size w7 W → (fun W => W.cell? ⟨pb, 0, none⟩ = some (.slice (some ⟨rb, ro, none⟩) n cap) ∧ W.cell? ⟨pb, 1, none⟩ = some (.int .u32 act) ∧ pb < W.heap.size ∧ W.cell? ⟨w.heap.size + 1, 0, none⟩ = some (.int .u32 r0.num) ∧ W.cell? ⟨w.heap.size + 1, 1, none⟩ = some (.int .u32 r0.arch) ∧ W.cell? ⟨w.heap.size + 1, 2, none⟩ = some (.int .u64 r0.at_) ∧ W.cell? ⟨w.heap.size + 1, 3, none⟩ = some (.int .u64 r0.a0) ∧ W.cell? ⟨w.heap.size + 1, 4, none⟩ = some (.int .u64 r0.a1) ∧ W.cell? ⟨w.heap.size + 1, 5, none⟩ = some (.int .u64 r0.a2) ∧ W.cell? ⟨w.heap.size + 1, 6, none⟩ = some (.int .u64 r0.a3) ∧ W.cell? ⟨w.heap.size + 1, 7, none⟩ = some (.int .u64 r0.a4) ∧ W.cell? ⟨w.heap.size + 1, 8, none⟩ = some (.int .u64 r0.a5) ∧ w.heap.size + 1 < W.heap.size ∧ W.cell? ⟨w.heap.size, 0, none⟩ = some (.int .u8 ni) ∧ W.cell? ⟨w.heap.size, 1, none⟩ = some (.int .u8 df) ∧ W.cell? ⟨w.heap.size, 2, none⟩ = some (.int .u8 er) ∧ W.cell? ⟨w.heap.size, 3, none⟩ = some (.slice SA srs.length sc) ∧ W.cell? ⟨w.heap.size, 4, none⟩ = some (.int .u16 hh) ∧ W.cell? ⟨w.heap.size, 5, none⟩ = some (.slice DA dl.length dc) ∧ W.cell? ⟨w.heap.size, 6, none⟩ = some (.slice GA gl.length gc) ∧ W.cell? ⟨w.heap.size, 7, none⟩ = some (.slice KA kl.length kc) ∧ w.heap.size < W.heap.size) W) := Lib.hid (fun W h => by
            have p := hp7.kept h
            have s := hs7.kept h
            have r := hr7.kept h
            exact ⟨p.cell 0 rfl, p.cell 1 rfl, p.lt, r.cell 0 rfl, r.cell 1 rfl, r.cell 2 rfl, r.cell 3 rfl, r.cell 4 rfl, r.cell 5 rfl, r.cell 6 rfl, r.cell 7 rfl, r.cell 8 rfl, r.lt, s.cell 0 rfl, s.cell 1 rfl, s.cell 2 rfl, s.cell 3 rfl, s.cell 4 rfl, s.cell 5 rfl, s.cell 6 rfl, s.cell 7 rfl, s.lt⟩)
          have HBv := Lib.hid (show Below w7.heap.size w7 w7.drew from (Below.refl _ _).drew)
          clear hp7 hs7 hr7 e1
          refine wp_region_held_drew (S := (fun W => W.cell? ⟨pb, 0, none⟩ = some (.slice (some ⟨rb, ro, none⟩) n cap) ∧ W.cell? ⟨pb, 1, none⟩ = some (.int .u32 act) ∧ pb < W.heap.size ∧ W.cell? ⟨w.heap.size + 1, 0, none⟩ = some (.int .u32 r0.num) ∧ W.cell? ⟨w.heap.size + 1, 1, none⟩ = some (.int .u32 r0.arch) ∧ W.cell? ⟨w.heap.size + 1, 2, none⟩ = some (.int .u64 r0.at_) ∧ W.cell? ⟨w.heap.size + 1, 3, none⟩ = some (.int .u64 r0.a0) ∧ W.cell? ⟨w.heap.size + 1, 4, none⟩ = some (.int .u64 r0.a1) ∧ W.cell? ⟨w.heap.size + 1, 5, none⟩ = some (.int .u64 r0.a2) ∧ W.cell? ⟨w.heap.size + 1, 6, none⟩ = some (.int .u64 r0.a3) ∧ W.cell? ⟨w.heap.size + 1, 7, none⟩ = some (.int .u64 r0.a4) ∧ W.cell? ⟨w.heap.size + 1, 8, none⟩ = some (.int .u64 r0.a5) ∧ w.heap.size + 1 < W.heap.size ∧ W.cell? ⟨w.heap.size, 0, none⟩ = some (.int .u8 ni) ∧ W.cell? ⟨w.heap.size, 1, none⟩ = some (.int .u8 df) ∧ W.cell? ⟨w.heap.size, 2, none⟩ = some (.int .u8 er) ∧ W.cell? ⟨w.heap.size, 3, none⟩ = some (.slice SA srs.length sc) ∧ W.cell? ⟨w.heap.size, 4, none⟩ = some (.int .u16 hh) ∧ W.cell? ⟨w.heap.size, 5, none⟩ = some (.slice DA dl.length dc) ∧ W.cell? ⟨w.heap.size, 6, none⟩ = some (.slice GA gl.length gc) ∧ W.cell? ⟨w.heap.size, 7, none⟩ = some (.slice KA kl.length kc) ∧ w.heap.size < W.heap.size)) (by kernel_rfl) ?_ (fun hHeld0 => ?_)
          · exact HmkS.out _ HBv.out
          refine wpAnyH_take (i := 0) (v := ?_) (by first | (simp only [List.getElem?_toArray, List.getElem?_cons_zero] <;> rfl) | rfl) (by kernel_rfl) (by kernel_rfl) (by kernel_rfl) (by exact fun _ _ _ h => h) (Or.inl ⟨by rfl, ?_⟩) hHeld0 ?_
          rotate_left 1
          · intro w hSw
            try dsimp only at hSw
            (go_simp) <;> (with_reducible rfl)
          try simp only [Act.put, List.setIfInBounds_toArray, List.set_cons_zero, List.set_cons_succ]
          refine wpAnyH_take (i := 1) (v := ?_) (by first | (simp only [List.getElem?_toArray, List.getElem?_cons_succ, List.getElem?_cons_zero] <;> rfl) | rfl) (by kernel_rfl) (by kernel_rfl) (by kernel_rfl) (by exact fun _ _ _ h => h) (Or.inl ⟨by rfl, ?_⟩) hHeld0 ?_
          rotate_left 1
          · intro w hSw
            try dsimp only at hSw
            (go_simp) <;> (with_reducible rfl)
          try simp only [Act.put, List.setIfInBounds_toArray, List.set_cons_zero, List.set_cons_succ]
          refine wpAnyH_take (i := 3) (v := ?_) (by first | (simp only [List.getElem?_toArray, List.getElem?_cons_succ, List.getElem?_cons_zero] <;> rfl) | rfl) (by kernel_rfl) (by kernel_rfl) (by kernel_rfl) (by exact fun _ _ _ h => h) (Or.inl ⟨by rfl, ?_⟩) hHeld0 ?_
          rotate_left 1
          · intro w hSw
            try dsimp only at hSw
            (go_simp) <;> (with_reducible rfl)
          try simp only [Act.put, List.setIfInBounds_toArray, List.set_cons_zero, List.set_cons_succ]
          refine wpAnyH_take (i := 5) (v := ?_) (by first | (simp only [List.getElem?_toArray, List.getElem?_cons_succ, List.getElem?_cons_zero] <;> rfl) | rfl) (by kernel_rfl) (by kernel_rfl) (by kernel_rfl) (by exact fun _ _ _ h => h) (Or.inl ⟨by rfl, ?_⟩) hHeld0 ?_
          rotate_left 1
          · intro w hSw
            try dsimp only at hSw
            (go_simp) <;> (with_reducible rfl)
          try simp only [Act.put, List.setIfInBounds_toArray, List.set_cons_zero, List.set_cons_succ]
          refine wpAnyH_ready (rs := [2]) (by kernel_rfl) (by simp) ?_
          refine AllReadyH.cons (by first | (simp only [List.getElem?_toArray, List.getElem?_cons_succ, List.getElem?_cons_zero] <;> rfl) | rfl) (fun K hK => ?_) ?_
          · skip
            go_simp
            refine (HDec.out _ HBv.out).mono ?_
            rintro e vh1 ⟨r1, rfl, hbb, hdr⟩
            have HBn := Lib.hid (HBv.out.trans (hbb.mono HBv.out.size))
            have HR1 := Lib.hid hdr
            refine hK.out _ _ (HmkS.out _ HBn.out) (fun hHeld1 => ?_)
            clear hK K hbb hdr
            have HBv := HBn
            clear HBn hHeld0
            try simp only [Act.put, List.setIfInBounds_toArray, List.set_cons_zero, List.set_cons_succ]
            refine wpAnyH_ready (rs := [4]) (by kernel_rfl) (by simp) ?_
            refine AllReadyH.cons (by first | (simp only [List.getElem?_toArray, List.getElem?_cons_succ, List.getElem?_cons_zero] <;> rfl) | rfl) (fun K hK => ?_) ?_
            · skip
              go_simp
              refine (HSm7.out _ HBv.out).mono ?_
              rintro e vh2 ⟨nm2, act2, rs2, RA2, Rc2, hd2, pt2, PA2, Pc2, po2, QA2, Qc2, rfl, hrows2, hsok2, hact2, hrf2, hbb⟩
              have HBn := Lib.hid (HBv.out.trans (hbb.mono HBv.out.size))
              have HSa := Lib.hid (says_any ⟨nm2.toArray⟩ act2 rs2 RA2 rs2.length Rc2 hd2 PA2 pt2.length Pc2 QA2 po2.length Qc2 r0 vh2 rfl (by have := hsok2.many; omega) (rrd_of hrows2 hsok2) HR0.out)
              have HE2 := Lib.hid (And.intro hact2 hrf2)
              refine hK.out _ _ (HmkS.out _ HBn.out) (fun hHeld2 => ?_)
              clear hK K hbb hrows2 hsok2 hact2 hrf2
              have HBv := HBn
              clear HBn hHeld1
              try simp only [Act.put, List.setIfInBounds_toArray, List.set_cons_zero, List.set_cons_succ]
              refine wpAnyH_ready (rs := [6]) (by kernel_rfl) (by simp) ?_
              refine AllReadyH.cons (by first | (simp only [List.getElem?_toArray, List.getElem?_cons_succ, List.getElem?_cons_zero] <;> rfl) | rfl) (fun K hK => ?_) ?_
              · skip
                go_simp
                refine HSa.out.mono ?_
                rintro e vh3 ⟨rfl, hbb⟩
                have HBn := Lib.hid (HBv.out.trans (hbb.mono HBv.out.size))
                refine hK.out _ _ (HmkS.out _ HBn.out) (fun hHeld3 => ?_)
                clear hK K hbb
                have HBv := HBn
                clear HBn hHeld2
                try simp only [Act.put, List.setIfInBounds_toArray, List.set_cons_zero, List.set_cons_succ]
                refine wpAnyH_take (i := 7) (v := ?_) (by first | (simp only [List.getElem?_toArray, List.getElem?_cons_succ, List.getElem?_cons_zero] <;> rfl) | rfl) (by kernel_rfl) (by kernel_rfl) (by kernel_rfl) (by exact fun _ _ _ h => h) (Or.inl ⟨by rfl, ?_⟩) hHeld3 ?_
                rotate_left 1
                · intro w hSw
                  try dsimp only at hSw
                  (go_simp) <;> (with_reducible rfl)
                try simp only [Act.put, List.setIfInBounds_toArray, List.set_cons_zero, List.set_cons_succ]
                refine wpAnyH_take (i := 8) (v := ?_) (by first | (simp only [List.getElem?_toArray, List.getElem?_cons_succ, List.getElem?_cons_zero] <;> rfl) | rfl) (by kernel_rfl) (by kernel_rfl) (by kernel_rfl) (by exact fun _ _ _ h => h) (Or.inl ⟨by rfl, ?_⟩) hHeld3 ?_
                rotate_left 1
                · intro w hSw
                  try dsimp only at hSw
                  (go_simp) <;> (with_reducible rfl)
                try simp only [Act.put, List.setIfInBounds_toArray, List.set_cons_zero, List.set_cons_succ]
                refine wpAnyH_done (by kernel_rfl) ?_ _
                clear hHeld3
                go_wp2_with fail
                go_ret
                exact retb (HEQ.out _ _ _ HR1.out HE2.out.1 HE2.out.2) rfl (HBw7.out.trans (HBv.out.mono HBw7.out.size))
              exact AllReadyH.nil
            exact AllReadyH.nil
          exact AllReadyH.nil
        · have e1 : ((c.num : Int) == (r0.num : Int)) = false := by rw [beq_eq_false_iff_ne]; omega
          have HF2 := Lib.hid (show ∀ c ∈ cs.take (i + 1), c.num ≠ r0.num from fun d hd => by
            rw [List.take_add_one, HC.out] at hd
            rcases List.mem_append.1 hd with hd | hd
            · exact HF.out d hd
            · simp only [Option.toList_some, List.mem_singleton] at hd; subst hd; exact hq)
          have HB7 := Lib.hid (HB.out.trans ((oneb wr (.cells #[.int .u32 c.num, .slice c.A c.brs.length c.cap] 83)).mono HB.out.size))
          clear hq
          go_wp2_with fail
          go_roundw
          case rel => exact ⟨i + 1, by go_num, by omega, HF2, HB7⟩
          case measure => simp [intOf]; omega
      · have HNO := Lib.hid (show ∀ c ∈ cs, c.num ≠ r0.num by have := HF.out; rw [List.take_of_length_le (by have := HN.out; omega)] at this; exact this)
        have hk := HPk.out.kept HB.out
        have k0 := hk.cell 0 rfl
        have k1 := hk.cell 1 rfl
        have kl := hk.lt
        have hy := HK2.out.kept HB.out
        have y0 := hy.cell 0 rfl
        have y1 := hy.cell 1 rfl
        have y2 := hy.cell 2 rfl
        have y3 := hy.cell 3 rfl
        have y4 := hy.cell 4 rfl
        have y5 := hy.cell 5 rfl
        have y6 := hy.cell 6 rfl
        have y7 := hy.cell 7 rfl
        have y8 := hy.cell 8 rfl
        have yl := hy.lt
        clear hk hy
        go_wp2_with fail
        refine (HDec.out _ HB.out).mono ?_
        clear k0 k1 kl y0 y1 y2 y3 y4 y5 y6 y7 y8 yl
        rintro e w8 ⟨r1, rfl, hb8, hdr⟩
        have e1 : ((r1 : Int) == (want : Int)) = true := by
          have : r1 = want := by
            rw [HWa.out]
            rcases hdr with ⟨g1, g2⟩ | ⟨g1, ⟨c, hc, g2, _⟩ | ⟨_, g2⟩⟩
            · rw [if_neg g1]; exact g2
            · exact absurd g2 (HNO.out c hc)
            · rw [if_pos g1]; exact g2
          rw [this]; simp
        have HB8 := Lib.hid (HB.out.trans (hb8.mono HB.out.size))
        have HD2 := Lib.hid (decide_any [] 0 none 0 2147221504 ⟨0, 3221225534, 0, 0, 0, 0, 0, 0, 0⟩ w8 rfl (by omega) (fun _ _ _ _ _ h => by simp at h) ⟨TRd.nil _ _ _, by simp, by simp⟩ (by simp) ⟨by decide, by decide, by decide, by decide, by decide, by decide, by decide, by decide, by decide⟩)
        clear hdr hb8
        go_wp2_with fail
        refine HD2.out.mono ?_
        rintro e w9 ⟨r2, rfl, hb9, hdr⟩
        have e2 : r2 = 2147221504 := by
          rcases hdr with ⟨g1, _⟩ | ⟨_, ⟨c, hc, _⟩ | ⟨_, g2⟩⟩
          · exact absurd rfl g1
          · simp at hc
          · exact g2
        subst e2
        have HB9 := Lib.hid (HB8.out.trans (hb9.mono HB8.out.size))
        clear hdr hb9
        go_wp2_with fail
        go_ret
        exact ⟨rfl, HB6.out.trans (HB9.out.mono HB6.out.size)⟩
end Go.Proofs.Ytagbamengcnfeaa.Ir
