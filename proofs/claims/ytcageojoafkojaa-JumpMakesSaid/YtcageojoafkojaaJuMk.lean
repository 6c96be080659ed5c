/- JumpMakes: the law walked. -/
import Derived.Test.YtcageojoafkojaaJuRn
import Derived.Test.YtcageojoafkojaaJo
namespace Go.Proofs.Ytcageojoafkojaa.Ju
open Go.RowKit Go.Maps Go.WideMaps Go.WideElems Go.ChangeMaps
theorem skip_okI {n : Nat} (h : n < 4294967296) : (skipI n).ok := sml_i (by omega) (by omega) (by omega) h
theorem reach_ok {l : List Ins} {b : Nat} (hl : ∀ i ∈ l, i.ok) (hn : l.length ≤ 5000) : ∀ i ∈ (reachF l b).2, i.ok := by
  unfold reachF
  split
  · exact hl
  · intro i hi
    rcases List.mem_cons.1 hi with rfl | hi
    · exact skip_okI (by omega)
    · exact hl i hi
theorem lay_oks {p : PtM} {c : CdM} (hp : p.ok) (hc : ∀ i ∈ c.ins, i.ok) (hn : c.ins.length ≤ 4096) : ∀ i ∈ (layF p c).2.ins, i.ok := by
  unfold layF
  split
  · split <;> exact hc
  · split
    · split
      · exact hc
      · intro i hi
        rcases List.mem_cons.1 hi with rfl | hi
        · exact hp.i
        · exact hc i hi
    · split
      · split
        · exact hc
        · split
          · intro i hi
            rename_i bt bf _ _
            have h1 := reach_len c.ins bf
            have h2 := reach_len (reachF c.ins bf).2 bt
            rcases List.mem_cons.1 hi with rfl | hi
            · exact sml_i hp.i.1 (by omega) (by omega) hp.i.2.2.2
            · exact reach_ok (reach_ok hc (by omega)) (by omega) i hi
          · exact hc
      · split
        · split
          · intro i hi
            rcases List.mem_cons.1 hi with rfl | hi
            · exact skip_okI (by omega)
            · exact hc i hi
          · exact hc
        · exact hc
theorem make_oks : ∀ l : List PtM, (∀ q ∈ l, q.ok) → (makeF l).1 = 0 → ∀ i ∈ (makeF l).2.ins, i.ok
  | [], _, _ => fun i hi => by simp [makeF] at hi
  | p :: t, hl, h => by
    rw [makeF_cons] at h ⊢
    obtain ⟨h0, _, h2⟩ := step_zero h
    rw [h2]
    exact lay_oks (hl p List.mem_cons_self) (make_oks t (fun q hq => hl q (List.mem_cons_of_mem _ hq)) h0) (make_len t h0)
theorem nineJ (bs : List Nat) : ∃ v0 v1 v2 v3 v4 v5 v6 v7 v8 : Int, Rec.recL bs = [.int .u32 v0, .int .u32 v1, .int .u64 v2, .int .u64 v3, .int .u64 v4, .int .u64 v5, .int .u64 v6, .int .u64 v7, .int .u64 v8] := ⟨_, _, _, _, _, _, _, _, _, rfl⟩
theorem nineJ_at {w : World} {rs : List (List Nat)} {b o k : Nat} {bs : List Nat} (h : ∀ j u, (rs.flatMap Rec.recL)[j]? = some u → w.cell? ⟨b, o + j, none⟩ = some u) (hx : rs[k]? = some bs) {j : Nat} (hj : j < 9) {u : Value} (hu : (Rec.recL bs)[j]? = some u) : w.cell? ⟨b, o + k * 9 + j, none⟩ = some u := by
  rw [Nat.add_assoc]; exact h _ _ (by rw [rec_at rs k j hj, hx]; exact hu)
theorem smJ {n : Nat} (h : n ≤ 1000000) : Small40 n := by unfold Small40; omega
set_option maxHeartbeats 16000000 in
set_option maxRecDepth 100000 in
theorem makes_any (l : List SmP) (n : Nat) (A : Option Addr) (cap pd : Nat) (rs : List (List Nat)) (m : Nat) (A2 : Option Addr) (c2 : Nat) (w : World) (hl : l.length = n) (hn : n ≤ maxLen) (hpd : pd < 256) (hok : ∀ p ∈ l, p.ok) (hr : Rd w 6 n A (l.flatMap SmP.cells)) (hrl : rs.length = m) (hrec : ∀ b ∈ rs, Rec.IsRec b) (hrr : Rd w 9 m A2 (rs.flatMap Rec.recL)) :
    Calls Try.prog 5 #[.slice A n cap, .int .u8 pd, .slice A2 m c2] w (RetB true w) := by
  obtain ⟨p4, hp4⟩ : ∃ p4, p4 = pd % 4 := ⟨_, rfl⟩
  have ep : (pd : Int) % 4 = p4 := by omega
  have hp44 : p4 < 4 := by omega
  obtain ⟨pv, hpv⟩ : ∃ pv, pv = if p4 = 0 then 0 else if p4 = 1 then 1 else if p4 = 2 then 40 else 260 := ⟨_, rfl⟩
  have hpv2 : pv ≤ 260 := by rw [hpv]; repeat' split
                             all_goals omega
  have HPv := Lib.hid hpv
  have HPr := Lib.hid (fun (k : Nat) (hk : k = pv) W (h : Below w.heap.size w W) => parts_any l n A cap k W hl hn (by omega) hok (hr.below h))
  obtain ⟨x, hx⟩ : ∃ x, x = partsF l pv := ⟨_, rfl⟩
  have HXP := Lib.hid (fun (k : Nat) (hk : k = pv) => show partsF l k = x by rw [hk, hx])
  have HSm := Lib.hid (show ∀ q ∈ x, q.ok by rw [hx]; exact fun q hq => (parts_sml l pv q hq).ok)
  have HFn := Lib.hid (show ∀ q ∈ x, Fin1 q by rw [hx]; exact parts_fin l pv)
  have HFw := Lib.hid (show Fwd x by rw [hx]; exact fwd_parts l pv)
  have hxl : x.length ≤ 5000 := by rw [hx]; have := parts_len l pv; omega
  have HR2 := Lib.hid (show Runs x x ∧ Runs x (tidyF x) by rw [hx]; exact runs_parts l hpv2)
  obtain ⟨N, hN⟩ : ∃ N, N = x.length := ⟨_, rfl⟩
  have HN := Lib.hid hN.symm
  have hN5 : N ≤ 5000 := by omega
  have HRl := Lib.hid hrl
  have HRc := Lib.hid hrec
  have HRr := Lib.hid hrr
  clear hp4 hpv hx hxl hN hl hn hok hr hrl hrec hrr
  go_enter Try.func5, Try.ntmps5
  go_wp2_with fail
  refine (awake_any _).mono ?_
  rintro e w1 ⟨rfl, hb1⟩
  have HB := Lib.hid hb1
  clear hb1
  by_cases h6 : 6 < m
  · have j6 : (6 : Int) < (m : Int) := by omega
    go_wp2_with fail
    go_ret
    exact ⟨rfl, HB.out⟩
  have j6 : ¬ (6 : Int) < (m : Int) := by omega
  have hm6 : m ≤ 6 := by omega
  go_upto_region 5 with fail
  go_cut [7] from 24 to 30 (fun xv wx => ∃ A1 c1, xv = .slice A1 N c1 ∧ Hid (Rd wx 7 N A1 (x.flatMap PtM.cells)) ∧ Hid (Below w.heap.size w wx))
  case first =>
    rcases (by omega : p4 = 0 ∨ p4 = 1 ∨ p4 = 2 ∨ p4 = 3) with rfl | rfl | rfl | rfl
    · have HK := Lib.hid (show 0 = pv by rw [HPv.out]; rfl)
      go_wp2_with fail
      refine (HPr.out 0 HK.out _ (HB.out.trans ((oneb w1 _).mono HB.out.size))).mono ?_
      rintro e w2 ⟨A1, c1, rfl, ho, hb2⟩
      rw [HXP.out 0 HK.out, HN.out] at ho ⊢
      have HX := Lib.hid (own_rdP ho)
      have HBn := Lib.hid (HB.out.trans (((oneb w1 _).trans (hb2.mono (oneb w1 _).size)).mono HB.out.size))
      clear ho hb2
      go_wp2_with fail
      go_meet
      case rel => exact ⟨A1, c1, rfl, HX, HBn⟩
    · have HK := Lib.hid (show 1 = pv by rw [HPv.out]; rfl)
      go_wp2_with fail
      refine (HPr.out 1 HK.out _ (HB.out.trans ((oneb w1 _).mono HB.out.size))).mono ?_
      rintro e w2 ⟨A1, c1, rfl, ho, hb2⟩
      rw [HXP.out 1 HK.out, HN.out] at ho ⊢
      have HX := Lib.hid (own_rdP ho)
      have HBn := Lib.hid (HB.out.trans (((oneb w1 _).trans (hb2.mono (oneb w1 _).size)).mono HB.out.size))
      clear ho hb2
      go_wp2_with fail
      go_meet
      case rel => exact ⟨A1, c1, rfl, HX, HBn⟩
    · have HK := Lib.hid (show 40 = pv by rw [HPv.out]; rfl)
      go_wp2_with fail
      refine (HPr.out 40 HK.out _ (HB.out.trans ((oneb w1 _).mono HB.out.size))).mono ?_
      rintro e w2 ⟨A1, c1, rfl, ho, hb2⟩
      rw [HXP.out 40 HK.out, HN.out] at ho ⊢
      have HX := Lib.hid (own_rdP ho)
      have HBn := Lib.hid (HB.out.trans (((oneb w1 _).trans (hb2.mono (oneb w1 _).size)).mono HB.out.size))
      clear ho hb2
      go_wp2_with fail
      go_meet
      case rel => exact ⟨A1, c1, rfl, HX, HBn⟩
    · have HK := Lib.hid (show 260 = pv by rw [HPv.out]; rfl)
      go_wp2_with fail
      refine (HPr.out 260 HK.out _ (HB.out.trans ((oneb w1 _).mono HB.out.size))).mono ?_
      rintro e w2 ⟨A1, c1, rfl, ho, hb2⟩
      rw [HXP.out 260 HK.out, HN.out] at ho ⊢
      have HX := Lib.hid (own_rdP ho)
      have HBn := Lib.hid (HB.out.trans (((oneb w1 _).trans (hb2.mono (oneb w1 _).size)).mono HB.out.size))
      clear ho hb2
      go_wp2_with fail
      go_meet
      case rel => exact ⟨A1, c1, rfl, HX, HBn⟩
  case rest =>
    rename World => w2
    obtain ⟨A1, c1, rfl, HX, HBw⟩ := hcut
    clear HPr HPv HXP ep HB
    have HT := Lib.hid (tidy_any x N A1 c1 w2 HN.out (by omega) HSm.out HX.out)
    have hML : (tidyF x).length ≤ N := by rw [← HN.out]; exact tidyF_len x
    have HYo := Lib.hid (tidyF_oks HSm.out)
    obtain ⟨y, hy⟩ : ∃ y, y = tidyF x := ⟨_, rfl⟩
    rw [← hy] at HT hML HYo HR2
    unfold ClP2 at HT
    obtain ⟨M, hM⟩ : ∃ M, M = y.length := ⟨_, rfl⟩
    rw [← hM] at HT hML
    have HM := Lib.hid hM.symm
    have hMN : decide ((N : Int) < (M : Int)) = false := by simp; omega
    clear hy hM
    go_wp2_with fail
    refine HT.out.mono ?_
    rintro e w3 ⟨A3, c3, rfl, ho, hb3⟩
    have HX3 := Lib.hid (HX.out.below hb3)
    have HY3 := Lib.hid (own_rdP ho)
    have HB3 := Lib.hid (HBw.out.trans (hb3.mono HBw.out.size))
    have hbk := Bk.new w3 65 #[.slice A1 N c1, .slice A3 M c3] (l := [.slice A1 N c1, .slice A3 M c3]) rfl
    have h4 := oneb w3 (.cells #[.slice A1 N c1, .slice A3 M c3] 65)
    clear ho hb3 HT HX HBw
    go_wp2_with fail
    rw [show decide (N < M) = false by simp; omega]
    generalize World.alloc w3 _ = w4 at hbk h4 ⊢
    have HX4 := Lib.hid (HX3.out.below h4)
    have HY4 := Lib.hid (HY3.out.below h4)
    have HB4 := Lib.hid (HB3.out.trans (h4.mono HB3.out.size))
    obtain ⟨bb, hbb⟩ : ∃ b, b = w3.heap.size := ⟨_, rfl⟩
    rw [← hbb] at hbk ⊢
    have hbbl := hbk.lt
    have H2 := Lib.hid (show ∀ k, k < 2 → ∃ (z : List PtM) (Z : Nat) (Az : Option Addr) (cz : Nat), z.length = Z ∧ Z ≤ 5000 ∧ (∀ q ∈ z, q.ok) ∧ Rd w4 7 Z Az (z.flatMap PtM.cells) ∧ Runs x z ∧ w4.cell? ⟨bb, k, none⟩ = some (.slice Az Z cz) from fun k hk => by
      rcases (by omega : k = 0 ∨ k = 1) with rfl | rfl
      · exact ⟨x, N, A1, c1, HN.out, hN5, HSm.out, HX4.out, HR2.out.1, hbk.cell 0 rfl⟩
      · exact ⟨y, M, A3, c3, HM.out, by omega, HYo.out, HY4.out, HR2.out.2, hbk.cell 1 rfl⟩)
    clear hbb hbk h4 HX3 HY3 HB3 HR2 HYo HM HY4 hML hMN
    go_loopw [42] (fun kv wz => ∃ k : Nat, kv = .int .i64 k ∧ k ≤ 2 ∧ Hid (Below w4.heap.size w4 wz)) (fun kv _ => 2 - (intOf kv).toNat)
    case atStart => exact ⟨0, rfl, by omega, Lib.hid (Below.refl _ _)⟩
    case round =>
      rename World => wz
      obtain ⟨k, rfl, hk, HBz⟩ := hrel
      by_cases hlt : k < 2
      · obtain ⟨z, Z, Az, cz, hz, hZ5, hzok, hzr, hrun, hcell⟩ := H2.out k hlt
        have q0 : wz.cell? ⟨bb, k, none⟩ = some (.slice Az Z cz) := by rw [HBz.out.cell (p := ⟨bb, k, none⟩) hbbl]; exact hcell
        have ql : bb < wz.heap.size := Nat.lt_of_lt_of_le hbbl HBz.out.size
        have HRn := Lib.hid hrun
        have HMk := Lib.hid (make_any z Z Az cz wz hz (by omega) hzok (hzr.below HBz.out))
        have HIk := Lib.hid (make_oks z hzok hrun.cod.ok)
        have HIl := Lib.hid (make_len z hrun.cod.ok)
        have k0 : (0 : Int) ≤ (k : Int) := by omega
        have k1 : (k : Int) < 2 := by omega
        clear hz hzok hzr hrun hcell
        go_wp2_with fail
        refine HMk.out.mono ?_
        rintro e w5 ⟨hb5, hmk, _⟩
        obtain ⟨v, hr, rfl⟩ := hmk HRn.out.cod.ok
        have HGd := Lib.hid HRn.out.good
        have HSay := Lib.hid HRn.out.says
        obtain ⟨ins, hins⟩ : ∃ i, i = (makeF z).2.ins := ⟨_, rfl⟩
        rw [← hins] at hr HIk HIl HGd HSay
        obtain ⟨K, hK⟩ : ∃ K, K = ins.length := ⟨_, rfl⟩
        rw [← hK] at hr HIl
        have hK4 : K ≤ 4096 := HIl.out
        obtain ⟨Aa, ca, rfl, _⟩ := own_typed hr
        have HB5 := Lib.hid (HBz.out.trans (hb5.mono HBz.out.size))
        have HL1 := Lib.hid (load_any ins K Aa ca w5 hK.symm HIk.out (own_rdI hr) (by unfold maxLen; omega))
        have HKl := Lib.hid hK.symm
        clear hb5 hmk hr hins hK q0 ql HMk HRn HIl HBz
        go_wp2_with fail
        refine HL1.out.mono ?_
        rintro e w6 ⟨_, _, _, hb6, hgood | ⟨hbad, _⟩⟩
        rotate_left 1
        · exact absurd HGd.out hbad
        obtain ⟨_, rfl, rfl, p, fb, fo, fc, hp, hpb, rfl, hF⟩ := hgood
        have HPw := Lib.hid (show w4.heap.size ≤ p from Nat.le_trans HB5.out.size hp)
        have HB6 := Lib.hid (HB5.out.trans (hb6.mono HB5.out.size))
        go_upto_region 16 with fail
        have hx := Bk.new w6 76 #[.int .i64 0, .int .i64 0] (l := [.int .i64 0, .int .i64 0]) rfl
        have hb7 := oneb w6 (.cells #[.int .i64 0, .int .i64 0] 76)
        generalize World.alloc w6 _ = w7 at hx hb7 ⊢
        have hF7 := hF.below hb7
        obtain ⟨BB, hBB⟩ : ∃ b, b = w6.heap.size := ⟨_, rfl⟩
        have HB7 := Lib.hid (HB6.out.trans (hb7.mono HB6.out.size))
        rw [← hBB] at hF7 hx ⊢
        have HF7 := Lib.hid hF7
        have y0 := hx.cell 0 rfl
        have y1 := hx.cell 1 rfl
        have yl := hx.lt
        have hQ : ∀ W : World, (binOp .neq 76 (.agg #[.int .i64 0, .int .i64 0]) (.agg #[.int .i64 0, .int .i64 0])).run Try.prog W = .ok (.bool false) W := fun W => by kernel_rfl
        clear hb6 hp hpb hF hx hb7 hF7 hBB HL1 HB5 HB6
        go_wp2_with fail
        clear y0 y1 yl hQ
        go_loopw [63] (fun jv wy => ∃ j st : Nat, jv = .int .i64 j ∧ j ≤ m ∧ st ≤ 4096 * j ∧ Hid (Fil wy BB p fb fo fc ins j st) ∧ Hid (Below w4.heap.size w4 wy)) (fun jv _ => m - (intOf jv).toNat)
        case atStart => exact ⟨0, 0, rfl, Nat.zero_le _, by omega, HF7, HB7⟩
        case round =>
          clear HF7 HB7
          rename World => wy
          obtain ⟨j, st, rfl, hj, hst, HFy, HBy⟩ := hrel
          by_cases hjt : j < m
          · obtain ⟨bs, hbs⟩ : ∃ bs, rs[j]? = some bs := ⟨_, List.getElem?_eq_getElem (by have := HRl.out; omega)⟩
            have hrec := HRc.out bs (List.mem_of_getElem? hbs)
            obtain ⟨bR, oR, hAR, hbl, hcells⟩ := (HRr.out.below (HB4.out.trans (HBy.out.mono HB4.out.size))).pos (by omega)
            subst hAR
            obtain ⟨v0, v1, v2, v3, v4, v5, v6, v7, v8, hv⟩ := nineJ bs
            have nn := fun (j' : Nat) (hj : j' < 9) (u : Value) (hu : (Rec.recL bs)[j']? = some u) => nineJ_at hcells hbs hj hu
            rw [hv] at nn
            have q0 := nn 0 (by omega) _ rfl
            have q1 := nn 1 (by omega) _ rfl
            have q2 := nn 2 (by omega) _ rfl
            have q3 := nn 3 (by omega) _ rfl
            have q4 := nn 4 (by omega) _ rfl
            have q5 := nn 5 (by omega) _ rfl
            have q6 := nn 6 (by omega) _ rfl
            have q7 := nn 7 (by omega) _ rfl
            have q8 := nn 8 (by omega) _ rfl
            rw [Nat.add_zero] at q0
            have hnl := run_len (recW bs) ins
            rw [HKl.out] at hnl
            have R1 := Lib.hid (fun W h => run_any bs ins BB p fb fo fc j st W h HGd.out HIk.out hrec (smJ (by omega)) (smJ (by omega)))
            have R2 := Lib.hid (fun W (h : Below w4.heap.size w4 W) => run_parts x N A1 c1 bs W HN.out hN5 HSm.out HFn.out HFw.out hrec (HX4.out.below h))
            unfold RunTo at R1
            have hsy := HSay.out (recW bs)
            rw [hsy] at R1
            obtain ⟨V, hV⟩ : ∃ V, V = valL (recW bs) x 0 := ⟨_, rfl⟩
            rw [← hV] at R1 R2
            obtain ⟨n9, hn9⟩ : ∃ n, n = (runN (recW bs) ins).1.length := ⟨_, rfl⟩
            rw [← hn9] at R1 hnl
            rw [hv] at R1 R2
            have hBk := Bk.new (l := [.int .u32 v0, .int .u32 v1, .int .u64 v2, .int .u64 v3, .int .u64 v4, .int .u64 v5, .int .u64 v6, .int .u64 v7, .int .u64 v8]) wy 81 _ rfl
            have hal := oneb wy (.cells #[.int .u32 v0, .int .u32 v1, .int .u64 v2, .int .u64 v3, .int .u64 v4, .int .u64 v5, .int .u64 v6, .int .u64 v7, .int .u64 v8] 81)
            have HFq := Lib.hid (HFy.out.below (hal.mono HFy.out.le))
            have HBq := Lib.hid (HBy.out.trans (hal.mono HBy.out.size))
            have hge := HFy.out.le
            have hge1 := HFy.out.lp
            have HBk := Lib.hid hBk
            have eVV : ((V : Int) != (V : Int)) = false := by simp
            clear nn hcells hbs hrec hsy hV hn9 hal hv hBk HFy HBy
            go_wp2_with fail
            refine (R1.out _ HFq.out).mono ?_
            rintro e wx ⟨rfl, hf, hg⟩
            have hBk2 := HBk.out.grown hg (fun e => by cases e; omega)
            have HBx := Lib.hid (only_below HBq.out hg HBq.out.size HPw.out)
            have HFx := Lib.hid hf
            generalize wy.heap.size = gR at hBk2 ⊢
            have y0 := hBk2.cell 0 rfl
            have y1 := hBk2.cell 1 rfl
            have y2 := hBk2.cell 2 rfl
            have y3 := hBk2.cell 3 rfl
            have y4 := hBk2.cell 4 rfl
            have y5 := hBk2.cell 5 rfl
            have y6 := hBk2.cell 6 rfl
            have y7 := hBk2.cell 7 rfl
            have y8 := hBk2.cell 8 rfl
            have yl := hBk2.lt
            clear hf hg hBk2 HBk HFq HBq R1 q0 q1 q2 q3 q4 q5 q6 q7 q8 hbl hge
            go_wp2_with fail
            refine (R2.out _ HBx.out).mono ?_
            rintro e wq ⟨rfl, hbq⟩
            have HBn := Lib.hid (HBx.out.trans (hbq.mono HBx.out.size))
            have HFn9 := Lib.hid (HFx.out.below (hbq.mono HFx.out.le))
            clear hbq y0 y1 y2 y3 y4 y5 y6 y7 y8 yl R2
            go_wp2_with fail
            go_roundw
            case rel => exact ⟨j + 1, st + n9, by go_num, by omega, by omega, HFn9, HBn⟩
            case measure => simp [intOf]; omega
          · go_wp2_with fail
            go_roundw
            case rel => first | exact ⟨k + 1, by go_num, by omega, HBy⟩ | ((repeat apply Exists.intro); exact ⟨⟨k + 1, by go_num, by omega, HBy⟩, rfl⟩)
            case measure => simp [intOf]; omega
      · go_wp2_with fail
        go_ret
        exact ⟨rfl, HB4.out.trans (HBz.out.mono HB4.out.size)⟩
end Go.Proofs.Ytcageojoafkojaa.Ju
