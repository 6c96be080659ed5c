/- JumpTidies: tidied parts have nothing to tidy, walked. -/
import Derived.Test.YtjgackejkkglcaaJuTk
import Derived.Test.YtjgackejkkglcaaJuNa
namespace Go.Proofs.Ytjgackejkkglcaa.Ju
open Go.RowKit Go.Maps Go.WideMaps Go.WideElems Go.ChangeMaps
def mB (U : List Int) : DataW Unit := U.foldr (fun n d => d.put (.int .i64 n) (.lit (.bool true))) (.map [])
theorem mB_map : ∀ U : List Int, IsMap (mB U)
  | [] => ⟨[], rfl⟩
  | _ :: U => (mB_map U).put _ _
theorem mB_at : ∀ (U : List Int) (n : Int) (z : DataW Unit), n ∈ U → (mB U).atKey (.int .i64 n) z = .lit (.bool true)
  | [], _, _, h => by cases h
  | m :: U, n, z, h => by
    show ((mB U).put (.int .i64 m) (.lit (.bool true))).atKey (.int .i64 n) z = _
    by_cases e : m = n
    · subst e; rw [atKey_put_same (mB_map _) (show WideAt.IsKeyLit (Lit.int .i64 m) from trivial)]
    · rw [atKey_put_other (key_ne e)]
      exact mB_at U n z (by rcases List.mem_cons.1 h with h | h; exact absurd h.symm e; exact h)
/-- A map of the names that are used, in block m. -/
def UMap (w : World) (m : Nat) (U : List Int) : Prop := w.ownsMap Try.prog 51 (plainElem Try.prog 4) m U.length (mB U)
theorem UMap.lt {w : World} {m : Nat} {U : List Int} (h : UMap w m U) : m < w.heap.size := om_lt h
theorem UMap.below {w w' : World} {m : Nat} {U : List Int} (h : UMap w m U) (hb : Below w.heap.size w w') : UMap w' m U := om_block h (hb.block _ h.lt)
theorem UMap.made (w : World) : UMap (w.alloc (.map #[] 0)) w.heap.size [] := World.ownsMap_made (H := Unit) w Try.prog 51 (plainElem Try.prog 4)
theorem UMap.put {w : World} {m : Nat} {U : List Int} {n : Int} (h : w.ownsMap Try.prog 51 (plainElem Try.prog 4) m (U.length + 1) ((mB U).put (.int .i64 n) (.lit (.bool true)))) : UMap w m (n :: U) := h
set_option maxRecDepth 100000 in
theorem UMap.look {w : World} {m : Nat} {U : List Int} (h : UMap w m U) {n : Int} (hn : n ∈ U) (hr : InR n) : (Instr.lookup 60 (.map (some m)) (.int .i64 n) false).run Try.prog w = .ok (.bool true) w := by
  obtain ⟨v, ps, hrun, hv⟩ := World.ownsMap.lookup (t := 60) (e := 4) h nameKeyed Try.underlying60 (z := .bool false) (by kernel_rfl) (plainElem_bool Try.underlying4 false) (key := .int .i64 n) (kl := .int .i64 n) (keyOf_int_mk Try.underlying51 (wfI hr.1 hr.2))
  rw [mB_at U n _ hn] at hv
  unfold plainElem at hv
  rw [Try.underlying4] at hv
  cases v <;> simp at hv
  rw [hrun, hv.1]
theorem neq_part (a b c d e f g : Int) (w : World) : (binOp .neq 57 (.agg #[.int .u8 a, .int .i64 b, .int .i64 c, .int .u16 d, .int .u8 e, .int .u8 f, .int .u32 g]) (.agg #[.int .u8 a, .int .i64 b, .int .i64 c, .int .u16 d, .int .u8 e, .int .u8 f, .int .u32 g])).run Try.prog w = .ok (.bool false) w := by
  rw [run_neq_struct, run_equalIn_agg w 9999 _ _ _ (by simp [Program.fieldsOf, Try.underlying57]) (by kernel_rfl)]
  simp [Op.eqFields, Program.fieldsOf, Try.underlying57, Try.underlying53, go_sem]
set_option maxHeartbeats 16000000 in
set_option maxRecDepth 100000 in
theorem tidies_any (l : List SmP) (n : Nat) (A : Option Addr) (cap pd : Nat) (w : World) (hl : l.length = n) (hn : n ≤ maxLen) (hpd : pd < 256) (hok : ∀ p ∈ l, p.ok) (hr : Rd w 6 n A (l.flatMap SmP.cells)) :
    Calls Try.prog 5 #[.slice A n cap, .int .u8 pd] w (RetB true w) := by
  obtain ⟨p2, hp2⟩ : ∃ p2, p2 = pd % 2 := ⟨_, rfl⟩
  have ep2 : (pd : Int) % 2 = p2 := by omega
  have hp22 : p2 < 2 := by omega
  have HPr := Lib.hid (fun W (h : Below w.heap.size w W) => parts_any l n A cap p2 W hl hn (by omega) hok (hr.below h))
  obtain ⟨whole, hwh⟩ : ∃ x, x = partsF l p2 := ⟨_, rfl⟩
  rw [← hwh] at HPr
  have HSm := Lib.hid (show ∀ q ∈ whole, q.ok by rw [hwh]; exact fun q hq => (parts_sml l p2 q hq).ok)
  have hwl : whole.length ≤ 100 := by rw [hwh]; have := parts_len l p2; omega
  obtain ⟨ys, hys⟩ : ∃ ys, ys = tidyF whole := ⟨_, rfl⟩
  have HTd := Lib.hid (show Tidied ys by rw [hys, hwh]; exact parts_tidied l p2)
  have HFx := Lib.hid (tidied_fix HTd.out)
  have HYo := Lib.hid (show ∀ q ∈ ys, q.ok by rw [hys]; exact tidyF_oks HSm.out)
  have hyl : ys.length ≤ 100 := by rw [hys]; exact Nat.le_trans (tidyF_len whole) hwl
  have HYs := Lib.hid hys
  clear hwh hys hp2 hl hn hok hr
  obtain ⟨N, hN⟩ : ∃ N, N = whole.length := ⟨_, rfl⟩
  have HN := Lib.hid hN
  obtain ⟨M, hM⟩ : ∃ M, M = ys.length := ⟨_, rfl⟩
  have HL := Lib.hid hM
  have hN100 : N ≤ 100 := by omega
  have hM100 : M ≤ 100 := by omega
  clear hwl hyl
  have hmm := @run_makeMap Try.prog
  go_enter Try.func5, Try.ntmps5
  go_wp2_with fail
  refine (awake_any _).mono ?_
  rintro e w1 ⟨rfl, hb1⟩
  have HB := Lib.hid hb1
  clear hb1
  go_wp2_with fail
  refine (HPr.out _ HB.out).mono ?_
  rintro e w2 ⟨A1, c1, rfl, hr2, hb2⟩
  rw [← hN] at hr2 ⊢
  have HT1 := Lib.hid (tidy_any whole N A1 c1 w2 hN.symm (by omega) HSm.out (own_rdP hr2))
  rw [← HYs.out] at HT1
  have HB := Lib.hid (HB.out.trans (hb2.mono HB.out.size))
  clear hb2 hr2 hN
  go_wp2_with fail
  refine HT1.out.mono ?_
  rintro e w3 ⟨A2, c2, rfl, hr3, hb3⟩
  rw [← hM] at hr3 ⊢
  have HY := Lib.hid (own_rdP hr3)
  have HB := Lib.hid (HB.out.trans (hb3.mono HB.out.size))
  clear hb3 hr3 hM HT1
  go_upto_region 5 with fail
  clear hmm
  have hm4 := UMap.made w3
  have hb4 := oneb w3 (.map #[] 0)
  generalize World.alloc w3 _ = w4 at hm4 hb4 ⊢
  have HMB := Lib.hid (Nat.le_refl w3.heap.size)
  obtain ⟨mb, hmb⟩ : ∃ mb, mb = w3.heap.size := ⟨_, rfl⟩
  rw [← hmb] at hm4 ⊢
  have HMB := Lib.hid (show w3.heap.size ≤ mb by rw [hmb]; exact Nat.le_refl _)
  have HM4 := Lib.hid hm4
  have HB4 := Lib.hid hb4
  clear hm4 hb4 hmb
  go_wp2_with fail
  go_loopw [27] (fun iv wz => ∃ (i : Nat) (U : List Int), iv = .int .i64 i ∧ i ≤ M ∧ U.length ≤ 2 * i ∧ Hid (U = (ys.take i).foldl usedS []) ∧ Hid (UMap wz mb U) ∧ Hid (Below w3.heap.size w3 wz)) (fun iv _ => M - (intOf iv).toNat)
  case atStart => exact ⟨0, [], rfl, by omega, by simp, Lib.hid rfl, HM4, HB4⟩
  case round =>
    clear HM4 HB4
    rename World => wz
    obtain ⟨i, U, rfl, hi, hU, HU, HM, HB3⟩ := hrel
    by_cases hlt : i < M
    · obtain ⟨p, hp⟩ : ∃ p, ys[i]? = some p := ⟨_, List.getElem?_eq_getElem (by have := HL.out; omega)⟩
      obtain ⟨b, o, hA, hbl, hcell⟩ := (HY.out.below HB3.out).one (fun _ => rfl) (by omega) (by omega)
      obtain ⟨d0, d1, d2, d3, d4, d5, d6⟩ := seven_cells hcell hp
      subst hA
      have HP := Lib.hid hp
      have hpo := HYo.out p (List.mem_of_getElem? hp)
      have t1 := hpo.to1
      have t2 := hpo.to2
      have l1 := hpo.el1
      have l2 := hpo.el2
      have i0 : (0 : Int) ≤ (i : Int) := by omega
      have i1 : (i : Int) < (M : Int) := by omega
      clear hcell hp hpo
      go_upto_region 8 with fail
      have hb5 := oneb wz (.cells #[.int .u8 p.kd, .int .i64 p.to, .int .i64 p.el, .int .u16 p.i.c, .int .u8 p.i.t, .int .u8 p.i.f, .int .u32 p.i.k] 57)
      have hk := Bk.new wz 57 #[.int .u8 p.kd, .int .i64 p.to, .int .i64 p.el, .int .u16 p.i.c, .int .u8 p.i.t, .int .u8 p.i.f, .int .u32 p.i.k] (l := [.int .u8 p.kd, .int .i64 p.to, .int .i64 p.el, .int .u16 p.i.c, .int .u8 p.i.t, .int .u8 p.i.f, .int .u32 p.i.k]) rfl
      have hne : wz.heap.size ≠ mb := by have := HM.out.lt; omega
      generalize World.alloc wz _ = w5 at hb5 hk ⊢
      have HM := Lib.hid (HM.out.below hb5)
      have HB3 := Lib.hid (HB3.out.trans (hb5.mono HB3.out.size))
      generalize wz.heap.size = xb at hk hne ⊢
      have HNE := Lib.hid hne
      have HX := Lib.hid hk
      clear d0 d1 d2 d3 d4 d5 d6 hbl hb5 hk hne
      have y0 := HX.out.cell 0 rfl
      have y1 := HX.out.cell 1 rfl
      have y2 := HX.out.cell 2 rfl
      have y3 := HX.out.cell 3 rfl
      have y4 := HX.out.cell 4 rfl
      have y5 := HX.out.cell 5 rfl
      have y6 := HX.out.cell 6 rfl
      have yl := HX.out.lt
      by_cases h3 : p.kd = 3
      · have e4 : ((p.kd : Int) == 4) = false := by rw [h3]; rfl
        have e3 : ((p.kd : Int) == 3) = true := by rw [h3]; rfl
        have HUn := Lib.hid (show p.el :: p.to :: U = (ys.take (i + 1)).foldl usedS [] by rw [List.take_add_one, HP.out, List.foldl_append, ← HU.out]; show _ = usedS U p; unfold usedS; rw [if_pos h3])
        clear h3 HU
        go_wp2_with (first | (at_mapUpdate; refine wpList_mapUpdate_own _ rfl _ _ _ 60 rfl 51 4 nameKeyed Try.underlying60 (plainElem Try.prog 4) mb _ _ rfl HM.out (by first | (unfold maxLen; omega) | (simp only [List.length_cons]; unfold maxLen; omega)) _ _ (.int .i64 p.to) rfl rfl (keyOf_int_mk Try.underlying51 (wfI t1 t2)) (.lit (.bool true)) [] (plainElem_bool Try.underlying4 true) ?_; intro w6 hm6 hg6; have HM := Lib.hid (UMap.put hm6); have HB3 := Lib.hid (HB3.out.grown hg6 HB3.out.size (fun r e => by injection e with e; rw [← e]; exact HMB.out)); have hx6 := HX.out.grown hg6 (fun e => by injection e with e; exact HNE.out e); have y0 := hx6.cell 0 rfl; have y1 := hx6.cell 1 rfl; have y2 := hx6.cell 2 rfl; have y3 := hx6.cell 3 rfl; have y4 := hx6.cell 4 rfl; have y5 := hx6.cell 5 rfl; have y6 := hx6.cell 6 rfl; have yl := hx6.lt; have HX := Lib.hid hx6; clear hm6 hg6 hx6) | (at_mapUpdate; refine wpList_mapUpdate_own _ rfl _ _ _ 60 rfl 51 4 nameKeyed Try.underlying60 (plainElem Try.prog 4) mb _ _ rfl HM.out (by first | (unfold maxLen; omega) | (simp only [List.length_cons]; unfold maxLen; omega)) _ _ (.int .i64 p.el) rfl rfl (keyOf_int_mk Try.underlying51 (wfI l1 l2)) (.lit (.bool true)) [] (plainElem_bool Try.underlying4 true) ?_; intro w6 hm6 hg6; have HM := Lib.hid (UMap.put hm6); have HB3 := Lib.hid (HB3.out.grown hg6 HB3.out.size (fun r e => by injection e with e; rw [← e]; exact HMB.out)); have hx6 := HX.out.grown hg6 (fun e => by injection e with e; exact HNE.out e); have y0 := hx6.cell 0 rfl; have y1 := hx6.cell 1 rfl; have y2 := hx6.cell 2 rfl; have y3 := hx6.cell 3 rfl; have y4 := hx6.cell 4 rfl; have y5 := hx6.cell 5 rfl; have y6 := hx6.cell 6 rfl; have yl := hx6.lt; have HX := Lib.hid hx6; clear hm6 hg6 hx6))
        go_roundw
        case rel => exact ⟨i + 1, p.el :: p.to :: U, by go_num, by omega, by first | omega | (simp only [List.length_cons]; omega), HUn, HM, HB3⟩
        case measure => simp [intOf]; omega
      by_cases h4 : p.kd = 4
      · have e4 : ((p.kd : Int) == 4) = true := by rw [h4]; rfl
        have e3 : ((p.kd : Int) == 3) = false := by rw [h4]; rfl
        have HUn := Lib.hid (show p.to :: U = (ys.take (i + 1)).foldl usedS [] by rw [List.take_add_one, HP.out, List.foldl_append, ← HU.out]; show _ = usedS U p; unfold usedS; rw [if_neg h3, if_pos h4])
        clear h3 h4 HU
        go_wp2_with (at_mapUpdate; refine wpList_mapUpdate_own _ rfl _ _ _ 60 rfl 51 4 nameKeyed Try.underlying60 (plainElem Try.prog 4) mb _ _ rfl HM.out (by first | (unfold maxLen; omega) | (simp only [List.length_cons]; unfold maxLen; omega)) _ _ (.int .i64 p.to) rfl rfl (keyOf_int_mk Try.underlying51 (wfI t1 t2)) (.lit (.bool true)) [] (plainElem_bool Try.underlying4 true) ?_; intro w6 hm6 hg6; have HM := Lib.hid (UMap.put hm6); have HB3 := Lib.hid (HB3.out.grown hg6 HB3.out.size (fun r e => by injection e with e; rw [← e]; exact HMB.out)); have hx6 := HX.out.grown hg6 (fun e => by injection e with e; exact HNE.out e); have y0 := hx6.cell 0 rfl; have y1 := hx6.cell 1 rfl; have y2 := hx6.cell 2 rfl; have y3 := hx6.cell 3 rfl; have y4 := hx6.cell 4 rfl; have y5 := hx6.cell 5 rfl; have y6 := hx6.cell 6 rfl; have yl := hx6.lt; have HX := Lib.hid hx6; clear hm6 hg6 hx6)
        go_roundw
        case rel => exact ⟨i + 1, p.to :: U, by go_num, by omega, by first | omega | (simp only [List.length_cons]; omega), HUn, HM, HB3⟩
        case measure => simp [intOf]; omega
      have e4 : ((p.kd : Int) == 4) = false := by rw [beq_eq_false_iff_ne]; omega
      have e3 : ((p.kd : Int) == 3) = false := by rw [beq_eq_false_iff_ne]; omega
      have HUn := Lib.hid (show U = (ys.take (i + 1)).foldl usedS [] by rw [List.take_add_one, HP.out, List.foldl_append, ← HU.out]; show _ = usedS U p; unfold usedS; rw [if_neg h3, if_neg h4])
      clear h3 h4 HU
      go_wp2_with fail
      go_roundw
      case rel => exact ⟨i + 1, U, by go_num, by omega, by first | omega | (simp only [List.length_cons]; omega), HUn, HM, HB3⟩
      case measure => simp [intOf]; omega
    · have HUE := Lib.hid (show U = usedF ys by rw [HU.out, show i = M from by omega, HL.out, List.take_length]; rfl)
      clear HU hi hU
      go_wp2_with fail
      go_loopw [51] (fun iv wx => ∃ i : Nat, iv = .int .i64 i ∧ i ≤ M ∧ Hid (Below wz.heap.size wz wx)) (fun iv _ => M - (intOf iv).toNat)
      case atStart => exact ⟨0, rfl, by omega, Lib.hid (Below.refl _ _)⟩
      case round =>
        rename World => wx
        obtain ⟨j, rfl, hj, HB5⟩ := hrel
        by_cases hjt : j < M
        · obtain ⟨p, hp⟩ : ∃ p, ys[j]? = some p := ⟨_, List.getElem?_eq_getElem (by have := HL.out; omega)⟩
          obtain ⟨b, o, hA, hbl, hcell⟩ := (HY.out.below (HB3.out.trans (HB5.out.mono HB3.out.size))).one (fun _ => rfl) (by omega) (by omega)
          obtain ⟨d0, d1, d2, d3, d4, d5, d6⟩ := seven_cells hcell hp
          subst hA
          have HP := Lib.hid hp
          have HPo := Lib.hid (HYo.out p (List.mem_of_getElem? hp))
          have HKa := Lib.hid (kept_at HTd.out.kept hp)
          have HLe := Lib.hid (left_at HTd.out.left hp)
          have j0 : (0 : Int) ≤ (j : Int) := by omega
          have j1 : (j : Int) < (M : Int) := by omega
          clear hcell hp
          go_upto_region 16 with fail
          have hb6 := oneb wx (.cells #[.int .u8 p.kd, .int .i64 p.to, .int .i64 p.el, .int .u16 p.i.c, .int .u8 p.i.t, .int .u8 p.i.f, .int .u32 p.i.k] 57)
          have hk := Bk.new wx 57 #[.int .u8 p.kd, .int .i64 p.to, .int .i64 p.el, .int .u16 p.i.c, .int .u8 p.i.t, .int .u8 p.i.f, .int .u32 p.i.k] (l := [.int .u8 p.kd, .int .i64 p.to, .int .i64 p.el, .int .u16 p.i.c, .int .u8 p.i.t, .int .u8 p.i.f, .int .u32 p.i.k]) rfl
          generalize World.alloc wx _ = w7 at hb6 hk ⊢
          have HM7 := Lib.hid ((HM.out.below HB5.out).below hb6)
          have HB7 := Lib.hid (HB5.out.trans (hb6.mono HB5.out.size))
          generalize wx.heap.size = xb at hk ⊢
          have HX := Lib.hid hk
          clear d0 d1 d2 d3 d4 d5 d6 hbl hb6 hk
          have HRow := Lib.hid (show ∀ W, Below w7.heap.size w7 W → b < W.heap.size ∧ ∀ k q, ys[k]? = some q → ∀ j v, (PtM.cells q)[j]? = some v → W.cell? ⟨b, o + (k * 7 + j), none⟩ = some v from fun W h => by
            obtain ⟨b', o', e, hb', hc'⟩ := (HY.out.below ((HB3.out.trans (HB7.out.mono HB3.out.size)).trans (h.mono (Nat.le_trans HB3.out.size HB7.out.size)))).one (fun _ => rfl) (by omega) (by omega)
            cases e
            exact ⟨hb', hc'⟩)
          have HKey := Lib.hid (show p.kd = 1 → ∀ W, Below w7.heap.size w7 W → (Instr.lookup 60 (.map (some mb)) (.int .i64 p.to) false).run Try.prog W = .ok (.bool true) W from fun h1 W h => (HM7.out.below h).look (by
            obtain ⟨q, hq, hw⟩ := HKa.out.1 h1
            rw [HUE.out]; exact usedF_way hq hw) ⟨HPo.out.to1, HPo.out.to2⟩)
          go_upto_block 4 with fail
          go_cut [11, 12] from 58 to 87 (fun nv hv wc => ∃ x : Nat, nv = .int .i64 x ∧ hv = .bool false ∧ j + 1 ≤ x ∧ x ≤ M ∧ Hid (Run ys j x) ∧ Hid (x = M ∨ ∃ q, ys[x]? = some q ∧ q.kd ≠ 1) ∧ Hid (Below w7.heap.size w7 wc))
          case first =>
            go_wp2_with fail
            go_loopw [11, 12] (fun nv hv wy => ∃ x : Nat, nv = .int .i64 x ∧ hv = .bool false ∧ j + 1 ≤ x ∧ x ≤ M ∧ Hid (Run ys j x) ∧ Hid (Below w7.heap.size w7 wy)) (fun nv _ _ => M - (intOf nv).toNat)
            case atStart => exact ⟨j + 1, by go_num, rfl, Nat.le_refl _, hjt, Lib.hid (fun k q a b => by omega), Lib.hid (Below.refl _ _)⟩
            case round =>
              rename World => wy
              obtain ⟨x, rfl, rfl, hjx, hxM, HRn, HBn⟩ := hrel
              by_cases hxt : x < M
              · obtain ⟨q, hq⟩ : ∃ q, ys[x]? = some q := ⟨_, List.getElem?_eq_getElem (by have := HL.out; omega)⟩
                obtain ⟨hbl, hcell⟩ := HRow.out wy HBn.out
                obtain ⟨d0, d1, d2, d3, d4, d5, d6⟩ := seven_cells hcell hq
                have x0 : (0 : Int) ≤ (x : Int) := by omega
                have x1 : (x : Int) < (M : Int) := by omega
                by_cases hq1 : q.kd = 1
                · have eq1 : ((q.kd : Int) == 1) = true := by rw [hq1]; rfl
                  have hx := HX.out.kept HBn.out
                  have y0 := hx.cell 0 rfl
                  have y1 := hx.cell 1 rfl
                  have yl := hx.lt
                  have HmkS : Hid ((fun W => W.cell? ⟨xb, 0, none⟩ = some (.int .u8 p.kd) ∧ W.cell? ⟨xb, 1, none⟩ = some (.int .i64 p.to) ∧ W.cell? ⟨b, o + x * 7 + 1, none⟩ = some (.int .i64 q.to) ∧ xb < W.heap.size ∧ b < W.heap.size) wy.drew) := Lib.hid ⟨y0, y1, d1, yl, hbl⟩
                  have HRn2 := Lib.hid (show Run ys j (x + 1) from fun k u a c hu => by
                    by_cases e : k = x
                    · subst e; rw [hu] at hq; cases hq; exact hq1
                    · exact HRn.out k u a (by omega) hu)
                  have HNo := Lib.hid (show p.kd = 4 → q.to ≠ p.to from fun h4 e => by
                    have h5 := HLe.out h4
                    obtain ⟨d, rfl⟩ : ∃ d, x = j + 1 + d := ⟨x - (j + 1), by omega⟩
                    rw [run_cn d j HRn.out hq hq1 e] at h5
                    cases h5)
                  have HRn := HRn2
                  clear HRn2
                  have HBn := Lib.hid (HBn.out.trans (show Below w7.heap.size wy wy.drew from (Below.refl _ _).drew))
                  clear hcell hq hq1
                  go_upto_region 19 with fail
                  clear d0 d1 d2 d3 d4 d5 d6 hbl hx y0 y1 yl
                  by_cases h4 : p.kd = 4
                  · have e4 : ((p.kd : Int) == 4) = true := by rw [h4]; rfl
                    have en : (q.to == p.to) = false := by rw [beq_eq_false_iff_ne]; exact HNo.out h4
                    clear h4
                    refine wp_region_held_drew (S := (fun W => W.cell? ⟨xb, 0, none⟩ = some (.int .u8 p.kd) ∧ W.cell? ⟨xb, 1, none⟩ = some (.int .i64 p.to) ∧ W.cell? ⟨b, o + x * 7 + 1, none⟩ = some (.int .i64 q.to) ∧ xb < W.heap.size ∧ b < W.heap.size)) (by kernel_rfl) ?_ (fun hHeld0 => ?_)
                    · exact HmkS.out
                    refine wpAnyH_take (i := 0) (v := ?_) (by first | (simp only [List.getElem?_toArray, List.getElem?_cons_zero] <;> rfl) | rfl) (by kernel_rfl) (by kernel_rfl) (by kernel_rfl) (by exact fun _ _ _ h => h) (Or.inl ⟨by rfl, ?_⟩) hHeld0 ?_
                    rotate_left 1
                    · intro w hSw
                      try dsimp only at hSw
                      (go_simp) <;> (with_reducible rfl)
                    try simp only [Act.put, List.setIfInBounds_toArray, List.set_cons_zero, List.set_cons_succ]
                    refine wpAnyH_take (i := 1) (v := ?_) (by first | (simp only [List.getElem?_toArray, List.getElem?_cons_succ, List.getElem?_cons_zero] <;> rfl) | rfl) (by kernel_rfl) (by kernel_rfl) (by kernel_rfl) (by exact fun _ _ _ h => h) (Or.inl ⟨by rfl, ?_⟩) hHeld0 ?_
                    rotate_left 1
                    · intro w hSw
                      try dsimp only at hSw
                      (go_simp) <;> (with_reducible rfl)
                    try simp only [Act.put, List.setIfInBounds_toArray, List.set_cons_zero, List.set_cons_succ]
                    refine wpAnyH_take (i := 2) (v := ?_) (by first | (simp only [List.getElem?_toArray, List.getElem?_cons_succ, List.getElem?_cons_zero] <;> rfl) | rfl) (by kernel_rfl) (by kernel_rfl) (by kernel_rfl) (by exact fun _ _ _ h => h) (Or.inl ⟨by rfl, ?_⟩) hHeld0 ?_
                    rotate_left 1
                    · intro w hSw
                      try dsimp only at hSw
                      (go_simp) <;> (with_reducible rfl)
                    try simp only [Act.put, List.setIfInBounds_toArray, List.set_cons_zero, List.set_cons_succ]
                    refine wpAnyH_take (i := 3) (v := ?_) (by first | (simp only [List.getElem?_toArray, List.getElem?_cons_succ, List.getElem?_cons_zero] <;> rfl) | rfl) (by kernel_rfl) (by kernel_rfl) (by kernel_rfl) (by exact fun _ _ _ h => h) (Or.inl ⟨by rfl, ?_⟩) hHeld0 ?_
                    rotate_left 1
                    · intro w hSw
                      try dsimp only at hSw
                      (go_simp) <;> (with_reducible rfl)
                    try simp only [Act.put, List.setIfInBounds_toArray, List.set_cons_zero, List.set_cons_succ]
                    refine wpAnyH_take (i := 4) (v := ?_) (by first | (simp only [List.getElem?_toArray, List.getElem?_cons_succ, List.getElem?_cons_zero] <;> rfl) | rfl) (by kernel_rfl) (by kernel_rfl) (by kernel_rfl) (by exact fun _ _ _ h => h) (Or.inl ⟨by rfl, ?_⟩) hHeld0 ?_
                    rotate_left 1
                    · intro w hSw
                      try dsimp only at hSw
                      (go_simp) <;> (with_reducible rfl)
                    try simp only [Act.put, List.setIfInBounds_toArray, List.set_cons_zero, List.set_cons_succ]
                    refine wpAnyH_take (i := 5) (v := ?_) (by first | (simp only [List.getElem?_toArray, List.getElem?_cons_succ, List.getElem?_cons_zero] <;> rfl) | rfl) (by kernel_rfl) (by kernel_rfl) (by kernel_rfl) (by exact fun _ _ _ h => h) (Or.inl ⟨by rfl, ?_⟩) hHeld0 ?_
                    rotate_left 1
                    · intro w hSw
                      try dsimp only at hSw
                      (go_simp) <;> (with_reducible rfl)
                    try simp only [Act.put, List.setIfInBounds_toArray, List.set_cons_zero, List.set_cons_succ]
                    refine wpAnyH_take (i := 6) (v := ?_) (by first | (simp only [List.getElem?_toArray, List.getElem?_cons_succ, List.getElem?_cons_zero] <;> rfl) | rfl) (by kernel_rfl) (by kernel_rfl) (by kernel_rfl) (by exact fun _ _ _ h => h) (Or.inl ⟨by rfl, ?_⟩) hHeld0 ?_
                    rotate_left 1
                    · intro w hSw
                      try dsimp only at hSw
                      (go_simp) <;> (with_reducible rfl)
                    try simp only [Act.put, List.setIfInBounds_toArray, List.set_cons_zero, List.set_cons_succ]
                    refine wpAnyH_take (i := 7) (v := ?_) (by first | (simp only [List.getElem?_toArray, List.getElem?_cons_succ, List.getElem?_cons_zero] <;> rfl) | rfl) (by kernel_rfl) (by kernel_rfl) (by kernel_rfl) (by exact fun _ _ _ h => h) (Or.inl ⟨by rfl, ?_⟩) hHeld0 ?_
                    rotate_left 1
                    · intro w hSw
                      try dsimp only at hSw
                      (go_simp) <;> (with_reducible rfl)
                    try simp only [Act.put, List.setIfInBounds_toArray, List.set_cons_zero, List.set_cons_succ]
                    refine wpAnyH_take (i := 8) (v := ?_) (by first | (simp only [List.getElem?_toArray, List.getElem?_cons_succ, List.getElem?_cons_zero] <;> rfl) | rfl) (by kernel_rfl) (by kernel_rfl) (by kernel_rfl) (by exact fun _ _ _ h => h) (Or.inl ⟨by rfl, ?_⟩) hHeld0 ?_
                    rotate_left 1
                    · intro w hSw
                      try dsimp only at hSw
                      (go_simp) <;> (with_reducible rfl)
                    try simp only [Act.put, List.setIfInBounds_toArray, List.set_cons_zero, List.set_cons_succ]
                    refine wpAnyH_take (i := 9) (v := ?_) (by first | (simp only [List.getElem?_toArray, List.getElem?_cons_succ, List.getElem?_cons_zero] <;> rfl) | rfl) (by kernel_rfl) (by kernel_rfl) (by kernel_rfl) (by exact fun _ _ _ h => h) (Or.inl ⟨by rfl, ?_⟩) hHeld0 ?_
                    rotate_left 1
                    · intro w hSw
                      try dsimp only at hSw
                      (go_simp) <;> (with_reducible rfl)
                    try simp only [Act.put, List.setIfInBounds_toArray, List.set_cons_zero, List.set_cons_succ]
                    refine wpAnyH_take (i := 10) (v := ?_) (by first | (simp only [List.getElem?_toArray, List.getElem?_cons_succ, List.getElem?_cons_zero] <;> rfl) | rfl) (by kernel_rfl) (by kernel_rfl) (by kernel_rfl) (by exact fun _ _ _ h => h) (Or.inl ⟨by rfl, ?_⟩) hHeld0 ?_
                    rotate_left 1
                    · intro w hSw
                      try dsimp only at hSw
                      (go_simp) <;> (with_reducible rfl)
                    try simp only [Act.put, List.setIfInBounds_toArray, List.set_cons_zero, List.set_cons_succ]
                    refine wpAnyH_take (i := 11) (v := ?_) (by first | (simp only [List.getElem?_toArray, List.getElem?_cons_succ, List.getElem?_cons_zero] <;> rfl) | rfl) (by kernel_rfl) (by kernel_rfl) (by kernel_rfl) (by exact fun _ _ _ h => h) (Or.inl ⟨by rfl, ?_⟩) hHeld0 ?_
                    rotate_left 1
                    · intro w hSw
                      try dsimp only at hSw
                      (go_simp) <;> (with_reducible rfl)
                    try simp only [Act.put, List.setIfInBounds_toArray, List.set_cons_zero, List.set_cons_succ]
                    refine wpAnyH_take (i := 12) (v := ?_) (by first | (simp only [List.getElem?_toArray, List.getElem?_cons_succ, List.getElem?_cons_zero] <;> rfl) | rfl) (by kernel_rfl) (by kernel_rfl) (by kernel_rfl) (by exact fun _ _ _ h => h) (Or.inl ⟨by rfl, ?_⟩) hHeld0 ?_
                    rotate_left 1
                    · intro w hSw
                      try dsimp only at hSw
                      (go_simp) <;> (with_reducible rfl)
                    try simp only [Act.put, List.setIfInBounds_toArray, List.set_cons_zero, List.set_cons_succ]
                    refine wpAnyH_take (i := 13) (v := ?_) (by first | (simp only [List.getElem?_toArray, List.getElem?_cons_succ, List.getElem?_cons_zero] <;> rfl) | rfl) (by kernel_rfl) (by kernel_rfl) (by kernel_rfl) (by exact fun _ _ _ h => h) (Or.inl ⟨by rfl, ?_⟩) hHeld0 ?_
                    rotate_left 1
                    · intro w hSw
                      try dsimp only at hSw
                      (go_simp) <;> (with_reducible rfl)
                    try simp only [Act.put, List.setIfInBounds_toArray, List.set_cons_zero, List.set_cons_succ]
                    refine wpAnyH_take (i := 14) (v := ?_) (by first | (simp only [List.getElem?_toArray, List.getElem?_cons_succ, List.getElem?_cons_zero] <;> rfl) | rfl) (by kernel_rfl) (by kernel_rfl) (by kernel_rfl) (by exact fun _ _ _ h => h) (Or.inl ⟨by rfl, ?_⟩) hHeld0 ?_
                    rotate_left 1
                    · intro w hSw
                      try dsimp only at hSw
                      (go_simp) <;> (with_reducible rfl)
                    try simp only [Act.put, List.setIfInBounds_toArray, List.set_cons_zero, List.set_cons_succ]
                    refine wpAnyH_take (i := 15) (v := ?_) (by first | (simp only [List.getElem?_toArray, List.getElem?_cons_succ, List.getElem?_cons_zero] <;> rfl) | rfl) (by kernel_rfl) (by kernel_rfl) (by kernel_rfl) (by exact fun _ _ _ h => h) (Or.inl ⟨by rfl, ?_⟩) hHeld0 ?_
                    rotate_left 1
                    · intro w hSw
                      try dsimp only at hSw
                      (go_simp) <;> (with_reducible rfl)
                    try simp only [Act.put, List.setIfInBounds_toArray, List.set_cons_zero, List.set_cons_succ]
                    refine wpAnyH_take (i := 16) (v := ?_) (by first | (simp only [List.getElem?_toArray, List.getElem?_cons_succ, List.getElem?_cons_zero] <;> rfl) | rfl) (by kernel_rfl) (by kernel_rfl) (by kernel_rfl) (by exact fun _ _ _ h => h) (Or.inl ⟨by rfl, ?_⟩) hHeld0 ?_
                    rotate_left 1
                    · intro w hSw
                      try dsimp only at hSw
                      (go_simp) <;> (with_reducible rfl)
                    try simp only [Act.put, List.setIfInBounds_toArray, List.set_cons_zero, List.set_cons_succ]
                    refine wpAnyH_done (by kernel_rfl) ?_ _
                    clear hHeld0
                    go_wp2_with fail
                    go_roundw
                    case rel => exact ⟨x + 1, by go_num, rfl, by omega, by omega, HRn, HBn⟩
                    case measure => simp [intOf]; omega
                  · have e4 : ((p.kd : Int) == 4) = false := by rw [beq_eq_false_iff_ne]; omega
                    clear h4
                    refine wp_region_held_drew (S := (fun W => W.cell? ⟨xb, 0, none⟩ = some (.int .u8 p.kd) ∧ W.cell? ⟨xb, 1, none⟩ = some (.int .i64 p.to) ∧ W.cell? ⟨b, o + x * 7 + 1, none⟩ = some (.int .i64 q.to) ∧ xb < W.heap.size ∧ b < W.heap.size)) (by kernel_rfl) ?_ (fun hHeld0 => ?_)
                    · exact HmkS.out
                    refine wpAnyH_take (i := 0) (v := ?_) (by first | (simp only [List.getElem?_toArray, List.getElem?_cons_zero] <;> rfl) | rfl) (by kernel_rfl) (by kernel_rfl) (by kernel_rfl) (by exact fun _ _ _ h => h) (Or.inl ⟨by rfl, ?_⟩) hHeld0 ?_
                    rotate_left 1
                    · intro w hSw
                      try dsimp only at hSw
                      (go_simp) <;> (with_reducible rfl)
                    try simp only [Act.put, List.setIfInBounds_toArray, List.set_cons_zero, List.set_cons_succ]
                    refine wpAnyH_take (i := 1) (v := ?_) (by first | (simp only [List.getElem?_toArray, List.getElem?_cons_succ, List.getElem?_cons_zero] <;> rfl) | rfl) (by kernel_rfl) (by kernel_rfl) (by kernel_rfl) (by exact fun _ _ _ h => h) (Or.inl ⟨by rfl, ?_⟩) hHeld0 ?_
                    rotate_left 1
                    · intro w hSw
                      try dsimp only at hSw
                      (go_simp) <;> (with_reducible rfl)
                    try simp only [Act.put, List.setIfInBounds_toArray, List.set_cons_zero, List.set_cons_succ]
                    refine wpAnyH_take (i := 2) (v := ?_) (by first | (simp only [List.getElem?_toArray, List.getElem?_cons_succ, List.getElem?_cons_zero] <;> rfl) | rfl) (by kernel_rfl) (by kernel_rfl) (by kernel_rfl) (by exact fun _ _ _ h => h) (Or.inl ⟨by rfl, ?_⟩) hHeld0 ?_
                    rotate_left 1
                    · intro w hSw
                      try dsimp only at hSw
                      (go_simp) <;> (with_reducible rfl)
                    try simp only [Act.put, List.setIfInBounds_toArray, List.set_cons_zero, List.set_cons_succ]
                    refine wpAnyH_take (i := 3) (v := ?_) (by first | (simp only [List.getElem?_toArray, List.getElem?_cons_succ, List.getElem?_cons_zero] <;> rfl) | rfl) (by kernel_rfl) (by kernel_rfl) (by kernel_rfl) (by exact fun _ _ _ h => h) (Or.inl ⟨by rfl, ?_⟩) hHeld0 ?_
                    rotate_left 1
                    · intro w hSw
                      try dsimp only at hSw
                      (go_simp) <;> (with_reducible rfl)
                    try simp only [Act.put, List.setIfInBounds_toArray, List.set_cons_zero, List.set_cons_succ]
                    refine wpAnyH_take (i := 4) (v := ?_) (by first | (simp only [List.getElem?_toArray, List.getElem?_cons_succ, List.getElem?_cons_zero] <;> rfl) | rfl) (by kernel_rfl) (by kernel_rfl) (by kernel_rfl) (by exact fun _ _ _ h => h) (Or.inl ⟨by rfl, ?_⟩) hHeld0 ?_
                    rotate_left 1
                    · intro w hSw
                      try dsimp only at hSw
                      (go_simp) <;> (with_reducible rfl)
                    try simp only [Act.put, List.setIfInBounds_toArray, List.set_cons_zero, List.set_cons_succ]
                    refine wpAnyH_take (i := 5) (v := ?_) (by first | (simp only [List.getElem?_toArray, List.getElem?_cons_succ, List.getElem?_cons_zero] <;> rfl) | rfl) (by kernel_rfl) (by kernel_rfl) (by kernel_rfl) (by exact fun _ _ _ h => h) (Or.inl ⟨by rfl, ?_⟩) hHeld0 ?_
                    rotate_left 1
                    · intro w hSw
                      try dsimp only at hSw
                      (go_simp) <;> (with_reducible rfl)
                    try simp only [Act.put, List.setIfInBounds_toArray, List.set_cons_zero, List.set_cons_succ]
                    refine wpAnyH_take (i := 6) (v := undef) (by first | (simp only [List.getElem?_toArray, List.getElem?_cons_succ, List.getElem?_cons_zero] <;> rfl) | rfl) (by kernel_rfl) (by kernel_rfl) (by kernel_rfl) (by exact fun _ _ _ h => h) (Or.inr ⟨by rfl, rfl⟩) hHeld0 ?_
                    try simp only [Act.put, List.setIfInBounds_toArray, List.set_cons_zero, List.set_cons_succ]
                    refine wpAnyH_take (i := 7) (v := undef) (by first | (simp only [List.getElem?_toArray, List.getElem?_cons_succ, List.getElem?_cons_zero] <;> rfl) | rfl) (by kernel_rfl) (by kernel_rfl) (by kernel_rfl) (by exact fun _ _ _ h => h) (Or.inr ⟨by rfl, rfl⟩) hHeld0 ?_
                    try simp only [Act.put, List.setIfInBounds_toArray, List.set_cons_zero, List.set_cons_succ]
                    refine wpAnyH_take (i := 8) (v := undef) (by first | (simp only [List.getElem?_toArray, List.getElem?_cons_succ, List.getElem?_cons_zero] <;> rfl) | rfl) (by kernel_rfl) (by kernel_rfl) (by kernel_rfl) (by exact fun _ _ _ h => h) (Or.inr ⟨by rfl, rfl⟩) hHeld0 ?_
                    try simp only [Act.put, List.setIfInBounds_toArray, List.set_cons_zero, List.set_cons_succ]
                    refine wpAnyH_take (i := 9) (v := undef) (by first | (simp only [List.getElem?_toArray, List.getElem?_cons_succ, List.getElem?_cons_zero] <;> rfl) | rfl) (by kernel_rfl) (by kernel_rfl) (by kernel_rfl) (by exact fun _ _ _ h => h) (Or.inr ⟨by rfl, rfl⟩) hHeld0 ?_
                    try simp only [Act.put, List.setIfInBounds_toArray, List.set_cons_zero, List.set_cons_succ]
                    refine wpAnyH_take (i := 10) (v := undef) (by first | (simp only [List.getElem?_toArray, List.getElem?_cons_succ, List.getElem?_cons_zero] <;> rfl) | rfl) (by kernel_rfl) (by kernel_rfl) (by kernel_rfl) (by exact fun _ _ _ h => h) (Or.inr ⟨by rfl, rfl⟩) hHeld0 ?_
                    try simp only [Act.put, List.setIfInBounds_toArray, List.set_cons_zero, List.set_cons_succ]
                    refine wpAnyH_take (i := 11) (v := undef) (by first | (simp only [List.getElem?_toArray, List.getElem?_cons_succ, List.getElem?_cons_zero] <;> rfl) | rfl) (by kernel_rfl) (by kernel_rfl) (by kernel_rfl) (by exact fun _ _ _ h => h) (Or.inr ⟨by rfl, rfl⟩) hHeld0 ?_
                    try simp only [Act.put, List.setIfInBounds_toArray, List.set_cons_zero, List.set_cons_succ]
                    refine wpAnyH_take (i := 12) (v := undef) (by first | (simp only [List.getElem?_toArray, List.getElem?_cons_succ, List.getElem?_cons_zero] <;> rfl) | rfl) (by kernel_rfl) (by kernel_rfl) (by kernel_rfl) (by exact fun _ _ _ h => h) (Or.inr ⟨by rfl, rfl⟩) hHeld0 ?_
                    try simp only [Act.put, List.setIfInBounds_toArray, List.set_cons_zero, List.set_cons_succ]
                    refine wpAnyH_take (i := 13) (v := undef) (by first | (simp only [List.getElem?_toArray, List.getElem?_cons_succ, List.getElem?_cons_zero] <;> rfl) | rfl) (by kernel_rfl) (by kernel_rfl) (by kernel_rfl) (by exact fun _ _ _ h => h) (Or.inr ⟨by rfl, rfl⟩) hHeld0 ?_
                    try simp only [Act.put, List.setIfInBounds_toArray, List.set_cons_zero, List.set_cons_succ]
                    refine wpAnyH_take (i := 14) (v := ?_) (by first | (simp only [List.getElem?_toArray, List.getElem?_cons_succ, List.getElem?_cons_zero] <;> rfl) | rfl) (by kernel_rfl) (by kernel_rfl) (by kernel_rfl) (by exact fun _ _ _ h => h) (Or.inl ⟨by rfl, ?_⟩) hHeld0 ?_
                    rotate_left 1
                    · intro w hSw
                      try dsimp only at hSw
                      (go_simp) <;> (with_reducible rfl)
                    try simp only [Act.put, List.setIfInBounds_toArray, List.set_cons_zero, List.set_cons_succ]
                    refine wpAnyH_take (i := 15) (v := ?_) (by first | (simp only [List.getElem?_toArray, List.getElem?_cons_succ, List.getElem?_cons_zero] <;> rfl) | rfl) (by kernel_rfl) (by kernel_rfl) (by kernel_rfl) (by exact fun _ _ _ h => h) (Or.inl ⟨by rfl, ?_⟩) hHeld0 ?_
                    rotate_left 1
                    · intro w hSw
                      try dsimp only at hSw
                      (go_simp) <;> (with_reducible rfl)
                    try simp only [Act.put, List.setIfInBounds_toArray, List.set_cons_zero, List.set_cons_succ]
                    refine wpAnyH_take (i := 16) (v := ?_) (by first | (simp only [List.getElem?_toArray, List.getElem?_cons_succ, List.getElem?_cons_zero] <;> rfl) | rfl) (by kernel_rfl) (by kernel_rfl) (by kernel_rfl) (by exact fun _ _ _ h => h) (Or.inl ⟨by rfl, ?_⟩) hHeld0 ?_
                    rotate_left 1
                    · intro w hSw
                      try dsimp only at hSw
                      (go_simp) <;> (with_reducible rfl)
                    try simp only [Act.put, List.setIfInBounds_toArray, List.set_cons_zero, List.set_cons_succ]
                    refine wpAnyH_done (by kernel_rfl) ?_ _
                    clear hHeld0
                    go_wp2_with fail
                    go_roundw
                    case rel => exact ⟨x + 1, by go_num, rfl, by omega, by omega, HRn, HBn⟩
                    case measure => simp [intOf]; omega
                · have eq1 : ((q.kd : Int) == 1) = false := by rw [beq_eq_false_iff_ne]; omega
                  have HEx := Lib.hid (show x = M ∨ ∃ q, ys[x]? = some q ∧ q.kd ≠ 1 from Or.inr ⟨q, hq, hq1⟩)
                  clear hcell hq hq1
                  go_wp2_with fail
                  go_meet
                  case rel => exact ⟨x, rfl, rfl, hjx, hxM, HRn, HEx, HBn⟩
              · have HEx := Lib.hid (show x = M ∨ ∃ q, ys[x]? = some q ∧ q.kd ≠ 1 from Or.inl (by omega))
                go_wp2_with fail
                go_meet
                case rel => exact ⟨x, rfl, rfl, hjx, hxM, HRn, HEx, HBn⟩
          case rest =>
            rename World => w8
            obtain ⟨x, rfl, rfl, hjx, hxM, HRn, HEx, HB8⟩ := hcut
            have HBe := Lib.hid (HB7.out.trans (HB8.out.mono HB7.out.size))
            have hx := HX.out.kept HB8.out
            have y0 := hx.cell 0 rfl
            have y1 := hx.cell 1 rfl
            have y3 := hx.cell 3 rfl
            have yl := hx.lt
            have HCl := Lib.hid (class_any p.i.c w8 HPo.out.i.1)
            have HEn := Lib.hid (show endsB p = true → x = j + 1 → x = M from fun he e => by
              rcases HEx.out with h | ⟨q, hq, h1⟩
              · exact h
              · exact absurd (HKa.out.2 he q (by rw [← e]; exact hq)) h1)
            have HBd := Lib.hid (show p.kd = 1 → x < M → ∃ q, ys[x]? = some q ∧ q.kd ≠ 4 from fun h1 hx => by
              rcases HEx.out with h | ⟨q, hq, h2⟩
              · omega
              · obtain ⟨d, rfl⟩ : ∃ d, x = j + 1 + d := ⟨x - (j + 1), by omega⟩
                exact ⟨q, hq, bad_at HTd.out.bad HP.out h1 HRn.out hq h2⟩)
            obtain ⟨eb, heb⟩ : ∃ eb, eb = endsB p := ⟨_, rfl⟩
            obtain ⟨z8, hz8⟩ : ∃ z8, z8 = p.i.c % 8 := ⟨_, rfl⟩
            rw [← hz8] at HCl
            rw [← heb] at HEn
            have HEB := Lib.hid (show eb = decide (p.kd = 4 ∨ p.kd = 2 ∧ z8 = 6) by rw [heb, hz8]; rfl)
            clear hx heb hz8
            go_upto_region 21 with fail
            go_cut [13] from 88 to 102 (fun ev wd => ev = .bool eb ∧ wd = w8)
            case first =>
              by_cases h4 : p.kd = 4
              · have e4 : ((p.kd : Int) == 4) = true := by rw [h4]; rfl
                have HV := Lib.hid (show eb = true by rw [HEB.out]; exact decide_eq_true (Or.inl h4))
                clear h4
                go_wp2_with fail
                go_meet
                case rel => exact ⟨by rw [HV.out], rfl⟩
              have e4 : ((p.kd : Int) == 4) = false := by rw [beq_eq_false_iff_ne]; omega
              by_cases h2 : p.kd = 2
              · have e2 : ((p.kd : Int) == 2) = true := by rw [h2]; rfl
                have HV := Lib.hid (show ((z8 : Int) == 6) = eb by
                  rw [HEB.out, Bool.eq_iff_iff, decide_eq_true_eq, beq_iff_eq]
                  exact ⟨fun h => Or.inr ⟨h2, by omega⟩, fun h => by rcases h with h | h <;> omega⟩)
                clear h2 h4
                go_wp2_with fail
                refine HCl.out.mono ?_
                rintro e w9 ⟨rfl, rfl⟩
                go_wp2_with fail
                go_meet
                case rel => exact ⟨by rw [HV.out], rfl⟩
              have e2 : ((p.kd : Int) == 2) = false := by rw [beq_eq_false_iff_ne]; omega
              have HV := Lib.hid (show eb = false by rw [HEB.out]; exact decide_eq_false (fun h => by rcases h with h | h; exact h4 h; exact h2 h.1))
              clear h2 h4
              go_wp2_with fail
              go_meet
              case rel => exact ⟨by rw [HV.out], rfl⟩
            case rest =>
              obtain ⟨rfl, hwd⟩ := hcut
              rw [hwd]
              clear hwd
              have x0 : (0 : Int) ≤ (x : Int) := by omega
              by_cases h1 : p.kd = 1
              · have e1 : ((p.kd : Int) == 1) = true := by rw [h1]; rfl
                have heb : eb = false := by rw [HEB.out]; exact decide_eq_false (fun h => by rcases h with h | h <;> omega)
                subst heb
                have hlk := HKey.out h1 w8 HB8.out
                by_cases hxt : x < M
                · obtain ⟨q, hq, hq4⟩ := HBd.out h1 hxt
                  obtain ⟨hbl, hcell⟩ := HRow.out w8 HB8.out
                  obtain ⟨d0, d1, d2, d3, d4, d5, d6⟩ := seven_cells hcell hq
                  have eq4 : ((q.kd : Int) == 4) = false := by rw [beq_eq_false_iff_ne]; omega
                  have x1 : (x : Int) < (M : Int) := by omega
                  clear h1 hcell hq hq4
                  go_wp2_with fail
                  go_roundw
                  case rel => exact ⟨j + 1, by go_num, by omega, HBe⟩
                  case measure => simp [intOf]; omega
                · have x1 : ¬ (x : Int) < (M : Int) := by omega
                  clear h1
                  go_wp2_with fail
                  go_roundw
                  case rel => exact ⟨j + 1, by go_num, by omega, HBe⟩
                  case measure => simp [intOf]; omega
              have e1 : ((p.kd : Int) == 1) = false := by rw [beq_eq_false_iff_ne]; omega
              clear h1
              cases eb with
              | false =>
                go_wp2_with fail
                go_roundw
                case rel => exact ⟨j + 1, by go_num, by omega, HBe⟩
                case measure => simp [intOf]; omega
              | true =>
                by_cases hx1 : x = j + 1
                · have hxm := HEn.out rfl hx1
                  have e5 : ((x : Int) == (j : Int) + 1) = true := by rw [beq_iff_eq]; omega
                  have x1 : ¬ (x : Int) < (M : Int) := by omega
                  clear hx1 hxm
                  go_wp2_with fail
                  go_roundw
                  case rel => exact ⟨j + 1, by go_num, by omega, HBe⟩
                  case measure => simp [intOf]; omega
                · have e5 : ((x : Int) == (j : Int) + 1) = false := by rw [beq_eq_false_iff_ne]; omega
                  clear hx1
                  go_wp2_with fail
                  go_roundw
                  case rel => exact ⟨j + 1, by go_num, by omega, HBe⟩
                  case measure => simp [intOf]; omega
        · have hb9 := HY.out.below (HB3.out.trans (HB5.out.mono HB3.out.size))
          have HT2 := Lib.hid (tidy_any ys M A2 c2 wx HL.out.symm (by omega) HYo.out hb9)
          rw [HFx.out] at HT2
          have HYx := Lib.hid hb9
          have HB := Lib.hid (HB.out.trans ((HB3.out.trans (HB5.out.mono HB3.out.size)).mono HB.out.size))
          have emm : ((M : Int) != (M : Int)) = false := by simp
          clear hb9
          go_wp2_with fail
          refine HT2.out.mono ?_
          rintro e w9 ⟨A3, c3, rfl, hr9, hb9⟩
          rw [← HL.out] at hr9 ⊢
          have HRa := Lib.hid (own_rdP hr9)
          have HRb := Lib.hid (HYx.out.below hb9)
          have HB := Lib.hid (HB.out.trans (hb9.mono HB.out.size))
          clear hr9 hb9 HT2
          go_wp2_with fail
          go_loopw [160] (fun iv wz => ∃ i : Nat, i ≤ M ∧ iv = .int .i64 i ∧ Hid (Below w9.heap.size w9 wz)) (fun iv _ => M - (intOf iv).toNat)
          case atStart => exact ⟨0, by omega, rfl, Lib.hid (Below.refl _ _)⟩
          case round =>
            rename World => wz
            obtain ⟨i, hi, rfl, HB9⟩ := hrel
            by_cases hlt : i < M
            · obtain ⟨q, hq⟩ : ∃ q, ys[i]? = some q := ⟨_, List.getElem?_eq_getElem (by have := HL.out; omega)⟩
              obtain ⟨ba, oa, hA, hba, hca⟩ := (HRa.out.below HB9.out).one (fun _ => rfl) (by omega) (by omega)
              obtain ⟨bb, ob, hA2, hbb2, hcb⟩ := (HRb.out.below HB9.out).one (fun _ => rfl) (by omega) (by omega)
              obtain ⟨a0, a1, a2, a3, a4, a5, a6⟩ := seven_cells hca hq
              obtain ⟨d0, d1, d2, d3, d4, d5, d6⟩ := seven_cells hcb hq
              subst hA
              subst hA2
              have HmkS : Hid ((fun W => W.cell? ⟨ba, oa + i * 7, none⟩ = some (.int .u8 q.kd) ∧ W.cell? ⟨ba, oa + i * 7 + 1, none⟩ = some (.int .i64 q.to) ∧ W.cell? ⟨ba, oa + i * 7 + 2, none⟩ = some (.int .i64 q.el) ∧ W.cell? ⟨ba, oa + i * 7 + 3, none⟩ = some (.int .u16 q.i.c) ∧ W.cell? ⟨ba, oa + i * 7 + 4, none⟩ = some (.int .u8 q.i.t) ∧ W.cell? ⟨ba, oa + i * 7 + 5, none⟩ = some (.int .u8 q.i.f) ∧ W.cell? ⟨ba, oa + i * 7 + 6, none⟩ = some (.int .u32 q.i.k) ∧ W.cell? ⟨bb, ob + i * 7, none⟩ = some (.int .u8 q.kd) ∧ W.cell? ⟨bb, ob + i * 7 + 1, none⟩ = some (.int .i64 q.to) ∧ W.cell? ⟨bb, ob + i * 7 + 2, none⟩ = some (.int .i64 q.el) ∧ W.cell? ⟨bb, ob + i * 7 + 3, none⟩ = some (.int .u16 q.i.c) ∧ W.cell? ⟨bb, ob + i * 7 + 4, none⟩ = some (.int .u8 q.i.t) ∧ W.cell? ⟨bb, ob + i * 7 + 5, none⟩ = some (.int .u8 q.i.f) ∧ W.cell? ⟨bb, ob + i * 7 + 6, none⟩ = some (.int .u32 q.i.k) ∧ ba < W.heap.size ∧ bb < W.heap.size) wz.drew) := Lib.hid ⟨a0, a1, a2, a3, a4, a5, a6, d0, d1, d2, d3, d4, d5, d6, hba, hbb2⟩
              have i0 : (0 : Int) ≤ (i : Int) := by omega
              have i1 : (i : Int) < (M : Int) := by omega
              have hQ : ∀ W : World, (binOp .neq 57 (.agg #[.int .u8 q.kd, .int .i64 q.to, .int .i64 q.el, .int .u16 q.i.c, .int .u8 q.i.t, .int .u8 q.i.f, .int .u32 q.i.k]) (.agg #[.int .u8 q.kd, .int .i64 q.to, .int .i64 q.el, .int .u16 q.i.c, .int .u8 q.i.t, .int .u8 q.i.f, .int .u32 q.i.k])).run Try.prog W = .ok (.bool false) W := fun W => neq_part _ _ _ _ _ _ _ W
              clear hca hcb hq a0 a1 a2 a3 a4 a5 a6 d0 d1 d2 d3 d4 d5 d6 hba hbb2
              go_upto_region 31 with fail
              refine wp_region_held_drew (S := (fun W => W.cell? ⟨ba, oa + i * 7, none⟩ = some (.int .u8 q.kd) ∧ W.cell? ⟨ba, oa + i * 7 + 1, none⟩ = some (.int .i64 q.to) ∧ W.cell? ⟨ba, oa + i * 7 + 2, none⟩ = some (.int .i64 q.el) ∧ W.cell? ⟨ba, oa + i * 7 + 3, none⟩ = some (.int .u16 q.i.c) ∧ W.cell? ⟨ba, oa + i * 7 + 4, none⟩ = some (.int .u8 q.i.t) ∧ W.cell? ⟨ba, oa + i * 7 + 5, none⟩ = some (.int .u8 q.i.f) ∧ W.cell? ⟨ba, oa + i * 7 + 6, none⟩ = some (.int .u32 q.i.k) ∧ W.cell? ⟨bb, ob + i * 7, none⟩ = some (.int .u8 q.kd) ∧ W.cell? ⟨bb, ob + i * 7 + 1, none⟩ = some (.int .i64 q.to) ∧ W.cell? ⟨bb, ob + i * 7 + 2, none⟩ = some (.int .i64 q.el) ∧ W.cell? ⟨bb, ob + i * 7 + 3, none⟩ = some (.int .u16 q.i.c) ∧ W.cell? ⟨bb, ob + i * 7 + 4, none⟩ = some (.int .u8 q.i.t) ∧ W.cell? ⟨bb, ob + i * 7 + 5, none⟩ = some (.int .u8 q.i.f) ∧ W.cell? ⟨bb, ob + i * 7 + 6, none⟩ = some (.int .u32 q.i.k) ∧ ba < W.heap.size ∧ bb < W.heap.size)) (by kernel_rfl) ?_ (fun hHeld0 => ?_)
              · exact HmkS.out
              refine wpAnyH_take (i := 0) (v := ?_) (by first | (simp only [List.getElem?_toArray, List.getElem?_cons_zero] <;> rfl) | rfl) (by kernel_rfl) (by kernel_rfl) (by kernel_rfl) (by exact fun _ _ _ h => h) (Or.inl ⟨by rfl, ?_⟩) hHeld0 ?_
              rotate_left 1
              · intro w hSw
                try dsimp only at hSw
                (go_simp) <;> (with_reducible rfl)
              try simp only [Act.put, List.setIfInBounds_toArray, List.set_cons_zero, List.set_cons_succ]
              refine wpAnyH_take (i := 1) (v := ?_) (by first | (simp only [List.getElem?_toArray, List.getElem?_cons_succ, List.getElem?_cons_zero] <;> rfl) | rfl) (by kernel_rfl) (by kernel_rfl) (by kernel_rfl) (by exact fun _ _ _ h => h) (Or.inl ⟨by rfl, ?_⟩) hHeld0 ?_
              rotate_left 1
              · intro w hSw
                try dsimp only at hSw
                (go_simp) <;> (with_reducible rfl)
              try simp only [Act.put, List.setIfInBounds_toArray, List.set_cons_zero, List.set_cons_succ]
              refine wpAnyH_take (i := 2) (v := ?_) (by first | (simp only [List.getElem?_toArray, List.getElem?_cons_succ, List.getElem?_cons_zero] <;> rfl) | rfl) (by kernel_rfl) (by kernel_rfl) (by kernel_rfl) (by exact fun _ _ _ h => h) (Or.inl ⟨by rfl, ?_⟩) hHeld0 ?_
              rotate_left 1
              · intro w hSw
                try dsimp only at hSw
                (go_simp) <;> (with_reducible rfl)
              try simp only [Act.put, List.setIfInBounds_toArray, List.set_cons_zero, List.set_cons_succ]
              refine wpAnyH_take (i := 3) (v := ?_) (by first | (simp only [List.getElem?_toArray, List.getElem?_cons_succ, List.getElem?_cons_zero] <;> rfl) | rfl) (by kernel_rfl) (by kernel_rfl) (by kernel_rfl) (by exact fun _ _ _ h => h) (Or.inl ⟨by rfl, ?_⟩) hHeld0 ?_
              rotate_left 1
              · intro w hSw
                try dsimp only at hSw
                (go_simp) <;> (with_reducible rfl)
              try simp only [Act.put, List.setIfInBounds_toArray, List.set_cons_zero, List.set_cons_succ]
              refine wpAnyH_take (i := 4) (v := ?_) (by first | (simp only [List.getElem?_toArray, List.getElem?_cons_succ, List.getElem?_cons_zero] <;> rfl) | rfl) (by kernel_rfl) (by kernel_rfl) (by kernel_rfl) (by exact fun _ _ _ h => h) (Or.inl ⟨by rfl, ?_⟩) hHeld0 ?_
              rotate_left 1
              · intro w hSw
                try dsimp only at hSw
                (go_simp) <;> (with_reducible rfl)
              try simp only [Act.put, List.setIfInBounds_toArray, List.set_cons_zero, List.set_cons_succ]
              refine wpAnyH_take (i := 5) (v := ?_) (by first | (simp only [List.getElem?_toArray, List.getElem?_cons_succ, List.getElem?_cons_zero] <;> rfl) | rfl) (by kernel_rfl) (by kernel_rfl) (by kernel_rfl) (by exact fun _ _ _ h => h) (Or.inl ⟨by rfl, ?_⟩) hHeld0 ?_
              rotate_left 1
              · intro w hSw
                try dsimp only at hSw
                (go_simp) <;> (with_reducible rfl)
              try simp only [Act.put, List.setIfInBounds_toArray, List.set_cons_zero, List.set_cons_succ]
              refine wpAnyH_take (i := 6) (v := ?_) (by first | (simp only [List.getElem?_toArray, List.getElem?_cons_succ, List.getElem?_cons_zero] <;> rfl) | rfl) (by kernel_rfl) (by kernel_rfl) (by kernel_rfl) (by exact fun _ _ _ h => h) (Or.inl ⟨by rfl, ?_⟩) hHeld0 ?_
              rotate_left 1
              · intro w hSw
                try dsimp only at hSw
                (go_simp) <;> (with_reducible rfl)
              try simp only [Act.put, List.setIfInBounds_toArray, List.set_cons_zero, List.set_cons_succ]
              refine wpAnyH_take (i := 7) (v := ?_) (by first | (simp only [List.getElem?_toArray, List.getElem?_cons_succ, List.getElem?_cons_zero] <;> rfl) | rfl) (by kernel_rfl) (by kernel_rfl) (by kernel_rfl) (by exact fun _ _ _ h => h) (Or.inl ⟨by rfl, ?_⟩) hHeld0 ?_
              rotate_left 1
              · intro w hSw
                try dsimp only at hSw
                (go_simp) <;> (with_reducible rfl)
              try simp only [Act.put, List.setIfInBounds_toArray, List.set_cons_zero, List.set_cons_succ]
              refine wpAnyH_take (i := 8) (v := ?_) (by first | (simp only [List.getElem?_toArray, List.getElem?_cons_succ, List.getElem?_cons_zero] <;> rfl) | rfl) (by kernel_rfl) (by kernel_rfl) (by kernel_rfl) (by exact fun _ _ _ h => h) (Or.inl ⟨by rfl, ?_⟩) hHeld0 ?_
              rotate_left 1
              · intro w hSw
                try dsimp only at hSw
                (go_simp) <;> (with_reducible rfl)
              try simp only [Act.put, List.setIfInBounds_toArray, List.set_cons_zero, List.set_cons_succ]
              refine wpAnyH_done (by kernel_rfl) ?_ _
              clear hHeld0
              have HBn := Lib.hid (HB9.out.trans (show Below w9.heap.size wz wz.drew from (Below.refl _ _).drew))
              go_wp2_with fail
              go_roundw
              case rel => exact ⟨i + 1, by omega, by go_num, HBn⟩
              case measure => simp [intOf]; omega
            · have i1 : ¬ (i : Int) < (M : Int) := by omega
              go_wp2_with fail
              go_ret
              exact ⟨rfl, HB.out.trans (HB9.out.mono HB.out.size)⟩
end Go.Proofs.Ytjgackejkkglcaa.Ju
