/- Words in any order, blanks and lines between: each one's kind and place; then one that can't stand. -/
import Derived.Test.YthjbenjnhdgalaaDoorPieces
import Derived.Deep.CutBlock
import Derived.Deep.CutRange
namespace Go.Proofs.YthjbenjnhdgalaaDoor
open Go.RowKit
def NumP (p : Pc) (w : World) (e : Ending) (w' : World) : Prop := ∃ (nv : Nat) (ok : Bool), e = .returned (.tuple #[.int .u64 nv, .bool ok]) ∧ (p.k = 2 → nv = (valB p.k p.t).1) ∧ Below w.heap.size w w'
theorem num_piece {p : Pc} (hp : p ∈ goodP) (w : World) (hE : Env w) : Calls Tryd.prog 10 #[.string ⟨p.t.toArray⟩] w (NumP p w) := by
  have hl := (good_ok p hp).2.2.2.2.1
  refine (number_any ⟨p.t.toArray⟩ w (by rw [Lib.size_eq]; show p.t.length ≤ 100000; omega) hE).mono ?_
  rintro e w' ⟨hm, hb⟩
  rw [show (⟨p.t.toArray⟩ : ByteArray).data.toList = p.t from rfl] at hm
  cases hn : number p.t with
  | some u => rw [hn] at hm; exact ⟨u, true, hm, fun hk => by simp [valB, hk, hn], hb⟩
  | none => rw [hn] at hm; exact ⟨0, false, hm, fun hk => by simp [valB, hk, hn], hb⟩
theorem val_other {p : Pc} (hk : p.k ≠ 2) : (valB p.k p.t).1 = 0 := by
  unfold valB
  rw [if_neg hk]
  split
  · rfl
  · split <;> rfl
theorem tok3_new (w : World) (T : TypeId) (p : Pc) : Bk (w.alloc (.cells #[.string ⟨p.t.toArray⟩, .int .u8 p.k, .int .i64 p.e] T)) w.heap.size T p.cells := Bk.new w T _ rfl
theorem neq_tok (x : Tok) (w : World) : (binOp .neq 35 (.agg #[.int .u8 x.k, .string ⟨x.t.toArray⟩, .int .u64 x.n, .int .i64 x.line, .int .i64 x.col]) (.agg #[.int .u8 x.k, .string ⟨x.t.toArray⟩, .int .u64 x.n, .int .i64 x.line, .int .i64 x.col])).run Tryd.prog w = .ok (.bool false) w := by
  rw [run_neq_struct, run_equalIn_agg w 9999 _ _ _ (by simp [Program.fieldsOf, Tryd.underlying35]) (by kernel_rfl)]
  simp [Op.eqFields, Program.fieldsOf, Tryd.underlying35, go_sem]
structure WLoop (w3 : World) (st : WS) (v : Value) (wr : World) : Prop where
  inv : ∃ T1 T2 W1 W2, WInv st T1 T2 W1 W2
  own : wr.ownsRow w3.heap.size 35 5 v st.want.length (flatT st.want)
  bel : Below w3.heap.size w3 wr
theorem WLoop.kept {w3 : World} {st : WS} {v : Value} {wr w' : World} (h : WLoop w3 st v wr) (hb : Below wr.heap.size wr w') : WLoop w3 st v w' :=
  ⟨h.inv, own_below h.own hb, h.bel.trans (hb.mono h.bel.size)⟩
set_option maxHeartbeats 8000000 in
set_option maxRecDepth 100000 in
theorem words_any (l gs : List Nat) (n m : Nat) (A G : Option Addr) (ca cg : Nat) (what : Nat) (w : World) (hl : l.length = n) (hok : ∀ x ∈ l, x < 256) (hr : Rd w 1 n A (u8s l)) (hlg : gs.length = m) (hokg : ∀ x ∈ gs, x < 256) (hrg : Rd w 1 m G (u8s gs)) (hwh : what < 256) (hm63 : n ≤ maxLen) (hE : Env w) :
    Calls Tryd.prog 3 #[.slice A n ca, .slice G m cg, .int .u8 what] w (Yes w) := by
  have HE := Lib.hid hE
  obtain ⟨i0, hi0, hz0, hz1, hz2⟩ := info_parts infoTok
  have Hr := Lib.hid hr
  have Hrg := Lib.hid hrg
  have Hok := Lib.hid hok
  have Hokg := Lib.hid hokg
  clear hE hr hrg hok hokg
  go_enter Tryd.func3, Tryd.ntmps3
  go_wp2_with fail
  refine (awake_any _ HE.out).mono ?_
  rintro e w1 ⟨rfl, hb1⟩
  have HB1 := Lib.hid hb1
  clear hb1
  go_wp2_with fail
  refine (pieces_any _).mono ?_
  rintro e w2 ⟨bg, hbg, rfl, hkg, hb2⟩
  have HB2 := Lib.hid (HB1.out.trans (hb2.mono HB1.out.size))
  have HG2 := Lib.hid hkg
  clear hbg hkg hb2
  go_wp2_with fail
  refine (wrong_any _).mono ?_
  rintro e w3 ⟨bb, hbb, rfl, hkb, hb3⟩
  have HB3 := Lib.hid (HB2.out.trans (hb3.mono HB2.out.size))
  have HG := Lib.hid (HG2.out.kept hb3)
  have HBd := Lib.hid hkb
  clear hbb hkb hb3 HG2
  go_upto_block 0 with fail
  go_cut [9, 10, 11, 12, 13, 14, 15, 16, 17, 18, 19] from 33 to 114 (fun tx li co wa so _ _ _ _ _ _ wx => ∃ st : WS, tx = .string ⟨st.text.toArray⟩ ∧ li = .int .i64 st.line ∧ co = .int .i64 st.col ∧ so = .bool st.some_ ∧ st.text.length ≤ 880 ∧ st.want.length ≤ 80 ∧ st.line ≤ 41 ∧ st.col ≤ 881 ∧ Hid (WLoop w3 st wa wx))
  case first =>
    go_wp2_with fail
    go_loopw [9, 10, 11, 12, 13, 14, 15, 16, 17, 18, 19, 33] (fun tx li co wa so _ _ _ _ _ _ iv wr => ∃ (k : Nat) (st : WS), iv = .int .i64 k ∧ k ≤ n ∧ k ≤ 40 ∧ tx = .string ⟨st.text.toArray⟩ ∧ li = .int .i64 st.line ∧ co = .int .i64 st.col ∧ so = .bool st.some_ ∧ st.text.length ≤ 22 * k ∧ st.want.length ≤ 2 * k ∧ st.line ≤ 1 + k ∧ st.col ≤ 1 + 22 * k ∧ Hid (WLoop w3 st wa wr)) (fun _ _ _ _ _ _ _ _ _ _ _ iv _ => n - (intOf iv).toNat)
    case atStart => exact ⟨0, ws0, rfl, Nat.zero_le _, by omega, rfl, rfl, rfl, rfl, by simp [ws0], by simp [ws0], by simp [ws0], by simp [ws0], ⟨⟨[], [], [], [], winv0⟩, World.ownsRow_nil _ _ _ _, Below.refl _ _⟩⟩
    case round =>
      obtain ⟨k, st, rfl, hk, hk40, rfl, rfl, rfl, rfl, b1, b2, b3, b4, HW⟩ := hrel
      obtain ⟨Av, cv, rfl, hcv, _⟩ := own_slice HW.out.own
      by_cases hlt : k < n
      · obtain ⟨bl, ol, hbo, hbll, hcl⟩ := ((Hr.out.below HB3.out).below HW.out.bel).pos (by omega)
        subst hbo
        obtain ⟨x, hx⟩ : ∃ x, l[k]? = some x := ⟨_, List.getElem?_eq_getElem (by omega)⟩
        have l0 := hcl k _ (u8s_at hx)
        have hx256 := Hok.out x (List.mem_of_getElem? hx)
        clear hcl hx
        by_cases h40 : k = 40
        · have g40 : (40 : Int) ≤ (k : Int) := by omega
          clear h40
          go_wp2_with fail
          go_meet
          case rel => exact ⟨st, rfl, rfl, rfl, rfl, by omega, by omega, by omega, by omega, HW.out⟩
        · have g40 : ¬ (40 : Int) ≤ (k : Int) := by omega
          obtain ⟨j, hj⟩ : ∃ j, j = x % 14 := ⟨_, rfl⟩
          have hj14 : j < 14 := by omega
          have hji : (x : Int) % 14 = (j : Int) := by omega
          have hjt : Int.tmod (x : Int) 14 = (j : Int) := by rw [Int.tmod_eq_emod_of_nonneg (by omega)]; exact hji
          obtain ⟨p, hp⟩ : ∃ p, goodP[j]? = some p := ⟨_, List.getElem?_eq_getElem (by exact hj14)⟩
          have Hp := Lib.hid (List.mem_of_getElem? hp)
          obtain ⟨q0, q1, q2⟩ := three_cells (HG.out.kept HW.out.bel) hp
          have hgl : bg < wr.heap.size := (HG.out.kept HW.out.bel).lt
          obtain ⟨o1, -, -, -, o5, o6, o7, -⟩ := good_ok p Hp.out
          have hst : (⟨p.t.toArray⟩ : ByteArray).size = p.t.length := by rw [Lib.size_eq]
          have hsT : (⟨st.text.toArray⟩ : ByteArray).size = st.text.length := by rw [Lib.size_eq]
          have HP := Lib.hid (tok3_new wr 30 p)
          have Hnum := Lib.hid (fun W E => num_piece Hp.out W E)
          clear hj hp h40
          have HBx := Lib.hid (HB3.out.trans ((HW.out.bel.alloc HW.out.bel.size (.cells #[.string ⟨p.t.toArray⟩, .int .u8 p.k, .int .i64 p.e] 30)).mono HB3.out.size))
          go_wp2_with fail
          refine (Hnum.out _ (HE.out.below HBx.out)).mono ?_
          rintro e w4 ⟨nv, okn, rfl, hnv, hb4⟩
          have Hnv := Lib.hid hnv
          have HW4 := Lib.hid (show WLoop w3 st (.slice Av st.want.length cv) w4 from HW.out.kept (((Below.refl wr.heap.size wr).alloc (Nat.le_refl _) (.cells #[.string ⟨p.t.toArray⟩, .int .u8 p.k, .int .i64 p.e] 30)).trans (hb4.mono (by simp))))
          have HP4 := Lib.hid (HP.out.kept hb4)
          obtain ⟨b, hb⟩ : ∃ b, b = wr.heap.size := ⟨_, rfl⟩
          have HPo := Lib.hid (show (Value.slice Av st.want.length cv).ownBlock ≠ some b from fun e => by have := (HW.out.own.lt _ e).2; omega)
          rw [← hb] at HP4 ⊢
          clear hnv hb4 HP HBx Hnum HW hb q0 q1 q2 hgl
          have z0 := HP4.out.cell 0 rfl
          have z1 := HP4.out.cell 1 rfl
          have z2 := HP4.out.cell 2 rfl
          have zl := HP4.out.lt
          have Hbw := Lib.hid (show w3.heap.size ≤ w4.heap.size + 1 by have := HW4.out.bel.size; omega)
          have hwl : st.want.length ≤ 80 := by omega
          obtain ⟨c2, hc2⟩ : ∃ c2, c2 = st.col + p.t.length := ⟨_, rfl⟩
          have hc2i : ((st.col : Int) + (p.t.length : Int)) = (c2 : Int) := by omega
          have hc2b : c2 ≤ 1000 := by omega
          have Hc2 := Lib.hid hc2
          clear hc2
          by_cases hkm : k < m
          · obtain ⟨q, hq⟩ : ∃ q, gs[k]? = some q := ⟨_, List.getElem?_eq_getElem (by omega)⟩
            have hq256 := Hokg.out q (List.mem_of_getElem? hq)
            obtain ⟨bg2, og, hbo2, hgl2, hcg⟩ := (Hrg.out.below HB3.out).pos (by omega)
            subst hbo2
            have Hgl2 := Lib.hid hgl2
            have HcG := Lib.hid (show ∀ W : World, Below w3.heap.size w3 W → W.cell? ⟨bg2, og + k, none⟩ = some (.int .u8 q) from fun W hW => (hW.cell (p := ⟨bg2, og + k, none⟩) hgl2).trans (hcg k _ (u8s_at hq)))
            have gk : (k : Int) < (m : Int) := by omega
            clear hq hcg hgl2
            have hq5 : q % 5 < 5 := Nat.mod_lt _ (by omega)
            rcases (by omega : q % 5 = 0 ∨ q % 5 = 1 ∨ q % 5 = 2 ∨ q % 5 = 3 ∨ q % 5 = 4) with hg | hg | hg | hg | hg
            · have m1 : (q : Int) % 5 = 0 := by omega
              have m2 : Int.tmod (q : Int) 5 = 0 := by rw [Int.tmod_eq_emod_of_nonneg (by omega)]; exact m1
              clear hg hq5
              by_cases hk2 : p.k = 2
              · have k1 : ((p.k : Int) != 2) = false := by rw [hk2]; rfl
                have Htok := Lib.hid (show wtok p st.line st.col = (⟨p.k, p.t, nv, st.line, st.col⟩ : Tok) from by unfold wtok; rw [← Hnv.out hk2])
                have Hnews := Lib.hid (show ∀ (j : Nat) (u : Value), (Tok.cells (⟨p.k, p.t, nv, st.line, st.col⟩ : Tok))[j]? = some u → (w4.alloc (.cells #[.int .u8 p.k, .string ⟨p.t.toArray⟩, .int .u64 nv, .int .i64 st.line, .int .i64 st.col] 35)).cell? ((⟨w4.heap.size, 0, none⟩ : Addr).add j) = some u from bk_news (bk_new_at (l := Tok.cells (⟨p.k, p.t, nv, st.line, st.col⟩ : Tok)) _ 35 #[.int .u8 p.k, .string ⟨p.t.toArray⟩, .int .u64 nv, .int .i64 st.line, .int .i64 st.col] rfl rfl))
                have Hsum := Lib.hid (show ((⟨st.text.toArray⟩ : ByteArray) ++ ⟨p.t.toArray⟩) ++ ⟨#[32]⟩ = ⟨(stepW st p 0).text.toArray⟩ by
                  rw [show (⟨#[32]⟩ : ByteArray) = ⟨([32] : Bs).toArray⟩ from rfl, txt_app, txt_app]; rfl)
                clear hk2
                go_wp2_with (at_builtin; refine wpList_append_own_at _ rfl (.tmp 57) (.tmp 66) 26 rfl w3.heap.size 35 i0 _ 5 48 Tryd.underlying26 hi0 hz0 hz1 hz2 rfl (by decide) _ st.want.length (flatT st.want) rfl (HW4.out.own.alloc _) ⟨w4.heap.size, 0, none⟩ 1 1 (Tok.cells (⟨p.k, p.t, nv, st.line, st.col⟩ : Tok)) rfl rfl Hnews.out (cells_oneT _) (by unfold maxLen; omega) (by omega) (by simp; exact Hbw.out) ?_; intro v5 w5 hown' hgrow _ hat; have HO5 := Lib.hid hown'; have HB5 := Lib.hid ((HW4.out.bel.alloc HW4.out.bel.size (.cells #[.int .u8 p.k, .string ⟨p.t.toArray⟩, .int .u64 nv, .int .i64 st.line, .int .i64 st.col] 35)).grown hgrow (by simp; exact Hbw.out) (fun g hg => (HW4.out.own.lt g hg).1)); have HP5 := Lib.hid ((HP4.out.kept ((Below.refl w4.heap.size w4).alloc (Nat.le_refl _) (.cells #[.int .u8 p.k, .string ⟨p.t.toArray⟩, .int .u64 nv, .int .i64 st.line, .int .i64 st.col] 35))).grown hgrow (fun e => HPo.out e.symm)); clear hown' hgrow hat z0 z1 z2 zl Hbw; have z0 := HP5.out.cell 0 rfl; have zl := HP5.out.lt; have Hbw := Lib.hid (show w3.heap.size ≤ w5.heap.size + 1 by have := HB5.out.size; omega); have y0 := HcG.out w5 HB5.out; have yl : bg2 < w5.heap.size := Nat.lt_of_lt_of_le Hgl2.out HB5.out.size)
                have HWn := Lib.hid (show WLoop w3 (stepW st p 0) v5 ((w5.alloc (.cells #[.string ⟨#[32]⟩, .string ⟨#[32, 32]⟩, .string ⟨#[9]⟩, .string ⟨#[32, 13]⟩] 9)).alloc (.cells #[.int .i64 1, .int .i64 2, .int .i64 1, .int .i64 2] 3)) from ⟨by obtain ⟨a1, a2, a3, a4, a5⟩ := HW4.out.inv; exact step_inv a5 Hp.out 0, by
                  have h5 := own_below HO5.out (below_more (below_more (Below.refl w5.heap.size w5) (.cells #[.string ⟨#[32]⟩, .string ⟨#[32, 32]⟩, .string ⟨#[9]⟩, .string ⟨#[32, 13]⟩] 9)) (.cells #[.int .i64 1, .int .i64 2, .int .i64 1, .int .i64 2] 3))
                  show World.ownsRow _ _ _ _ v5 (st.want ++ [wtok p st.line st.col]).length (flatT (st.want ++ [wtok p st.line st.col]))
                  rw [flatT_app, flatT_one, Htok.out]
                  simp only [List.length_append, List.length_cons, List.length_nil]
                  exact h5, below_more (below_more HB5.out _) _⟩)
                go_roundw
                case rel => exact ⟨k + 1, stepW st p 0, by go_num, by omega, by omega, by rw [Hsum.out], rfl, by show _ = Value.int .i64 ((st.col + p.t.length + 1 : Nat) : Int); rw [← Hc2.out]; go_num, rfl, by have := (step_len st Hp.out 0).1; omega, by have := (step_len st Hp.out 0).2.1; omega, by have := (step_len st Hp.out 0).2.2.1; omega, by have := (step_len st Hp.out 0).2.2.2; omega, HWn.out⟩
                case measure => simp [intOf]; omega
              · have k1 : ((p.k : Int) != 2) = true := by simp; omega
                have Htok := Lib.hid (show wtok p st.line st.col = (⟨p.k, p.t, 0, st.line, st.col⟩ : Tok) from by unfold wtok; rw [val_other hk2])
                have Hnews := Lib.hid (show ∀ (j : Nat) (u : Value), (Tok.cells (⟨p.k, p.t, 0, st.line, st.col⟩ : Tok))[j]? = some u → (w4.alloc (.cells #[.int .u8 p.k, .string ⟨p.t.toArray⟩, .int .u64 0, .int .i64 st.line, .int .i64 st.col] 35)).cell? ((⟨w4.heap.size, 0, none⟩ : Addr).add j) = some u from bk_news (bk_new_at (l := Tok.cells (⟨p.k, p.t, 0, st.line, st.col⟩ : Tok)) _ 35 #[.int .u8 p.k, .string ⟨p.t.toArray⟩, .int .u64 0, .int .i64 st.line, .int .i64 st.col] rfl rfl))
                have Hsum := Lib.hid (show ((⟨st.text.toArray⟩ : ByteArray) ++ ⟨p.t.toArray⟩) ++ ⟨#[32]⟩ = ⟨(stepW st p 0).text.toArray⟩ by
                  rw [show (⟨#[32]⟩ : ByteArray) = ⟨([32] : Bs).toArray⟩ from rfl, txt_app, txt_app]; rfl)
                clear hk2
                go_wp2_with (at_builtin; refine wpList_append_own_at _ rfl (.tmp 57) (.tmp 66) 26 rfl w3.heap.size 35 i0 _ 5 48 Tryd.underlying26 hi0 hz0 hz1 hz2 rfl (by decide) _ st.want.length (flatT st.want) rfl (HW4.out.own.alloc _) ⟨w4.heap.size, 0, none⟩ 1 1 (Tok.cells (⟨p.k, p.t, 0, st.line, st.col⟩ : Tok)) rfl rfl Hnews.out (cells_oneT _) (by unfold maxLen; omega) (by omega) (by simp; exact Hbw.out) ?_; intro v5 w5 hown' hgrow _ hat; have HO5 := Lib.hid hown'; have HB5 := Lib.hid ((HW4.out.bel.alloc HW4.out.bel.size (.cells #[.int .u8 p.k, .string ⟨p.t.toArray⟩, .int .u64 0, .int .i64 st.line, .int .i64 st.col] 35)).grown hgrow (by simp; exact Hbw.out) (fun g hg => (HW4.out.own.lt g hg).1)); have HP5 := Lib.hid ((HP4.out.kept ((Below.refl w4.heap.size w4).alloc (Nat.le_refl _) (.cells #[.int .u8 p.k, .string ⟨p.t.toArray⟩, .int .u64 0, .int .i64 st.line, .int .i64 st.col] 35))).grown hgrow (fun e => HPo.out e.symm)); clear hown' hgrow hat z0 z1 z2 zl Hbw; have z0 := HP5.out.cell 0 rfl; have zl := HP5.out.lt; have Hbw := Lib.hid (show w3.heap.size ≤ w5.heap.size + 1 by have := HB5.out.size; omega); have y0 := HcG.out w5 HB5.out; have yl : bg2 < w5.heap.size := Nat.lt_of_lt_of_le Hgl2.out HB5.out.size)
                have HWn := Lib.hid (show WLoop w3 (stepW st p 0) v5 ((w5.alloc (.cells #[.string ⟨#[32]⟩, .string ⟨#[32, 32]⟩, .string ⟨#[9]⟩, .string ⟨#[32, 13]⟩] 9)).alloc (.cells #[.int .i64 1, .int .i64 2, .int .i64 1, .int .i64 2] 3)) from ⟨by obtain ⟨a1, a2, a3, a4, a5⟩ := HW4.out.inv; exact step_inv a5 Hp.out 0, by
                  have h5 := own_below HO5.out (below_more (below_more (Below.refl w5.heap.size w5) (.cells #[.string ⟨#[32]⟩, .string ⟨#[32, 32]⟩, .string ⟨#[9]⟩, .string ⟨#[32, 13]⟩] 9)) (.cells #[.int .i64 1, .int .i64 2, .int .i64 1, .int .i64 2] 3))
                  show World.ownsRow _ _ _ _ v5 (st.want ++ [wtok p st.line st.col]).length (flatT (st.want ++ [wtok p st.line st.col]))
                  rw [flatT_app, flatT_one, Htok.out]
                  simp only [List.length_append, List.length_cons, List.length_nil]
                  exact h5, below_more (below_more HB5.out _) _⟩)
                go_roundw
                case rel => exact ⟨k + 1, stepW st p 0, by go_num, by omega, by omega, by rw [Hsum.out], rfl, by show _ = Value.int .i64 ((st.col + p.t.length + 1 : Nat) : Int); rw [← Hc2.out]; go_num, rfl, by have := (step_len st Hp.out 0).1; omega, by have := (step_len st Hp.out 0).2.1; omega, by have := (step_len st Hp.out 0).2.2.1; omega, by have := (step_len st Hp.out 0).2.2.2; omega, HWn.out⟩
                case measure => simp [intOf]; omega
            · have m1 : (q : Int) % 5 = 1 := by omega
              have m2 : Int.tmod (q : Int) 5 = 1 := by rw [Int.tmod_eq_emod_of_nonneg (by omega)]; exact m1
              clear hg hq5
              by_cases hk2 : p.k = 2
              · have k1 : ((p.k : Int) != 2) = false := by rw [hk2]; rfl
                have Htok := Lib.hid (show wtok p st.line st.col = (⟨p.k, p.t, nv, st.line, st.col⟩ : Tok) from by unfold wtok; rw [← Hnv.out hk2])
                have Hnews := Lib.hid (show ∀ (j : Nat) (u : Value), (Tok.cells (⟨p.k, p.t, nv, st.line, st.col⟩ : Tok))[j]? = some u → (w4.alloc (.cells #[.int .u8 p.k, .string ⟨p.t.toArray⟩, .int .u64 nv, .int .i64 st.line, .int .i64 st.col] 35)).cell? ((⟨w4.heap.size, 0, none⟩ : Addr).add j) = some u from bk_news (bk_new_at (l := Tok.cells (⟨p.k, p.t, nv, st.line, st.col⟩ : Tok)) _ 35 #[.int .u8 p.k, .string ⟨p.t.toArray⟩, .int .u64 nv, .int .i64 st.line, .int .i64 st.col] rfl rfl))
                have Hsum := Lib.hid (show ((⟨st.text.toArray⟩ : ByteArray) ++ ⟨p.t.toArray⟩) ++ ⟨#[32, 32]⟩ = ⟨(stepW st p 1).text.toArray⟩ by
                  rw [show (⟨#[32, 32]⟩ : ByteArray) = ⟨([32, 32] : Bs).toArray⟩ from rfl, txt_app, txt_app]; rfl)
                clear hk2
                go_wp2_with (at_builtin; refine wpList_append_own_at _ rfl (.tmp 57) (.tmp 66) 26 rfl w3.heap.size 35 i0 _ 5 48 Tryd.underlying26 hi0 hz0 hz1 hz2 rfl (by decide) _ st.want.length (flatT st.want) rfl (HW4.out.own.alloc _) ⟨w4.heap.size, 0, none⟩ 1 1 (Tok.cells (⟨p.k, p.t, nv, st.line, st.col⟩ : Tok)) rfl rfl Hnews.out (cells_oneT _) (by unfold maxLen; omega) (by omega) (by simp; exact Hbw.out) ?_; intro v5 w5 hown' hgrow _ hat; have HO5 := Lib.hid hown'; have HB5 := Lib.hid ((HW4.out.bel.alloc HW4.out.bel.size (.cells #[.int .u8 p.k, .string ⟨p.t.toArray⟩, .int .u64 nv, .int .i64 st.line, .int .i64 st.col] 35)).grown hgrow (by simp; exact Hbw.out) (fun g hg => (HW4.out.own.lt g hg).1)); have HP5 := Lib.hid ((HP4.out.kept ((Below.refl w4.heap.size w4).alloc (Nat.le_refl _) (.cells #[.int .u8 p.k, .string ⟨p.t.toArray⟩, .int .u64 nv, .int .i64 st.line, .int .i64 st.col] 35))).grown hgrow (fun e => HPo.out e.symm)); clear hown' hgrow hat z0 z1 z2 zl Hbw; have z0 := HP5.out.cell 0 rfl; have zl := HP5.out.lt; have Hbw := Lib.hid (show w3.heap.size ≤ w5.heap.size + 1 by have := HB5.out.size; omega); have y0 := HcG.out w5 HB5.out; have yl : bg2 < w5.heap.size := Nat.lt_of_lt_of_le Hgl2.out HB5.out.size)
                have HWn := Lib.hid (show WLoop w3 (stepW st p 1) v5 ((w5.alloc (.cells #[.string ⟨#[32]⟩, .string ⟨#[32, 32]⟩, .string ⟨#[9]⟩, .string ⟨#[32, 13]⟩] 9)).alloc (.cells #[.int .i64 1, .int .i64 2, .int .i64 1, .int .i64 2] 3)) from ⟨by obtain ⟨a1, a2, a3, a4, a5⟩ := HW4.out.inv; exact step_inv a5 Hp.out 1, by
                  have h5 := own_below HO5.out (below_more (below_more (Below.refl w5.heap.size w5) (.cells #[.string ⟨#[32]⟩, .string ⟨#[32, 32]⟩, .string ⟨#[9]⟩, .string ⟨#[32, 13]⟩] 9)) (.cells #[.int .i64 1, .int .i64 2, .int .i64 1, .int .i64 2] 3))
                  show World.ownsRow _ _ _ _ v5 (st.want ++ [wtok p st.line st.col]).length (flatT (st.want ++ [wtok p st.line st.col]))
                  rw [flatT_app, flatT_one, Htok.out]
                  simp only [List.length_append, List.length_cons, List.length_nil]
                  exact h5, below_more (below_more HB5.out _) _⟩)
                go_roundw
                case rel => exact ⟨k + 1, stepW st p 1, by go_num, by omega, by omega, by rw [Hsum.out], rfl, by show _ = Value.int .i64 ((st.col + p.t.length + 2 : Nat) : Int); rw [← Hc2.out]; go_num, rfl, by have := (step_len st Hp.out 1).1; omega, by have := (step_len st Hp.out 1).2.1; omega, by have := (step_len st Hp.out 1).2.2.1; omega, by have := (step_len st Hp.out 1).2.2.2; omega, HWn.out⟩
                case measure => simp [intOf]; omega
              · have k1 : ((p.k : Int) != 2) = true := by simp; omega
                have Htok := Lib.hid (show wtok p st.line st.col = (⟨p.k, p.t, 0, st.line, st.col⟩ : Tok) from by unfold wtok; rw [val_other hk2])
                have Hnews := Lib.hid (show ∀ (j : Nat) (u : Value), (Tok.cells (⟨p.k, p.t, 0, st.line, st.col⟩ : Tok))[j]? = some u → (w4.alloc (.cells #[.int .u8 p.k, .string ⟨p.t.toArray⟩, .int .u64 0, .int .i64 st.line, .int .i64 st.col] 35)).cell? ((⟨w4.heap.size, 0, none⟩ : Addr).add j) = some u from bk_news (bk_new_at (l := Tok.cells (⟨p.k, p.t, 0, st.line, st.col⟩ : Tok)) _ 35 #[.int .u8 p.k, .string ⟨p.t.toArray⟩, .int .u64 0, .int .i64 st.line, .int .i64 st.col] rfl rfl))
                have Hsum := Lib.hid (show ((⟨st.text.toArray⟩ : ByteArray) ++ ⟨p.t.toArray⟩) ++ ⟨#[32, 32]⟩ = ⟨(stepW st p 1).text.toArray⟩ by
                  rw [show (⟨#[32, 32]⟩ : ByteArray) = ⟨([32, 32] : Bs).toArray⟩ from rfl, txt_app, txt_app]; rfl)
                clear hk2
                go_wp2_with (at_builtin; refine wpList_append_own_at _ rfl (.tmp 57) (.tmp 66) 26 rfl w3.heap.size 35 i0 _ 5 48 Tryd.underlying26 hi0 hz0 hz1 hz2 rfl (by decide) _ st.want.length (flatT st.want) rfl (HW4.out.own.alloc _) ⟨w4.heap.size, 0, none⟩ 1 1 (Tok.cells (⟨p.k, p.t, 0, st.line, st.col⟩ : Tok)) rfl rfl Hnews.out (cells_oneT _) (by unfold maxLen; omega) (by omega) (by simp; exact Hbw.out) ?_; intro v5 w5 hown' hgrow _ hat; have HO5 := Lib.hid hown'; have HB5 := Lib.hid ((HW4.out.bel.alloc HW4.out.bel.size (.cells #[.int .u8 p.k, .string ⟨p.t.toArray⟩, .int .u64 0, .int .i64 st.line, .int .i64 st.col] 35)).grown hgrow (by simp; exact Hbw.out) (fun g hg => (HW4.out.own.lt g hg).1)); have HP5 := Lib.hid ((HP4.out.kept ((Below.refl w4.heap.size w4).alloc (Nat.le_refl _) (.cells #[.int .u8 p.k, .string ⟨p.t.toArray⟩, .int .u64 0, .int .i64 st.line, .int .i64 st.col] 35))).grown hgrow (fun e => HPo.out e.symm)); clear hown' hgrow hat z0 z1 z2 zl Hbw; have z0 := HP5.out.cell 0 rfl; have zl := HP5.out.lt; have Hbw := Lib.hid (show w3.heap.size ≤ w5.heap.size + 1 by have := HB5.out.size; omega); have y0 := HcG.out w5 HB5.out; have yl : bg2 < w5.heap.size := Nat.lt_of_lt_of_le Hgl2.out HB5.out.size)
                have HWn := Lib.hid (show WLoop w3 (stepW st p 1) v5 ((w5.alloc (.cells #[.string ⟨#[32]⟩, .string ⟨#[32, 32]⟩, .string ⟨#[9]⟩, .string ⟨#[32, 13]⟩] 9)).alloc (.cells #[.int .i64 1, .int .i64 2, .int .i64 1, .int .i64 2] 3)) from ⟨by obtain ⟨a1, a2, a3, a4, a5⟩ := HW4.out.inv; exact step_inv a5 Hp.out 1, by
                  have h5 := own_below HO5.out (below_more (below_more (Below.refl w5.heap.size w5) (.cells #[.string ⟨#[32]⟩, .string ⟨#[32, 32]⟩, .string ⟨#[9]⟩, .string ⟨#[32, 13]⟩] 9)) (.cells #[.int .i64 1, .int .i64 2, .int .i64 1, .int .i64 2] 3))
                  show World.ownsRow _ _ _ _ v5 (st.want ++ [wtok p st.line st.col]).length (flatT (st.want ++ [wtok p st.line st.col]))
                  rw [flatT_app, flatT_one, Htok.out]
                  simp only [List.length_append, List.length_cons, List.length_nil]
                  exact h5, below_more (below_more HB5.out _) _⟩)
                go_roundw
                case rel => exact ⟨k + 1, stepW st p 1, by go_num, by omega, by omega, by rw [Hsum.out], rfl, by show _ = Value.int .i64 ((st.col + p.t.length + 2 : Nat) : Int); rw [← Hc2.out]; go_num, rfl, by have := (step_len st Hp.out 1).1; omega, by have := (step_len st Hp.out 1).2.1; omega, by have := (step_len st Hp.out 1).2.2.1; omega, by have := (step_len st Hp.out 1).2.2.2; omega, HWn.out⟩
                case measure => simp [intOf]; omega
            · have m1 : (q : Int) % 5 = 2 := by omega
              have m2 : Int.tmod (q : Int) 5 = 2 := by rw [Int.tmod_eq_emod_of_nonneg (by omega)]; exact m1
              clear hg hq5
              by_cases hk2 : p.k = 2
              · have k1 : ((p.k : Int) != 2) = false := by rw [hk2]; rfl
                have Htok := Lib.hid (show wtok p st.line st.col = (⟨p.k, p.t, nv, st.line, st.col⟩ : Tok) from by unfold wtok; rw [← Hnv.out hk2])
                have Hnews := Lib.hid (show ∀ (j : Nat) (u : Value), (Tok.cells (⟨p.k, p.t, nv, st.line, st.col⟩ : Tok))[j]? = some u → (w4.alloc (.cells #[.int .u8 p.k, .string ⟨p.t.toArray⟩, .int .u64 nv, .int .i64 st.line, .int .i64 st.col] 35)).cell? ((⟨w4.heap.size, 0, none⟩ : Addr).add j) = some u from bk_news (bk_new_at (l := Tok.cells (⟨p.k, p.t, nv, st.line, st.col⟩ : Tok)) _ 35 #[.int .u8 p.k, .string ⟨p.t.toArray⟩, .int .u64 nv, .int .i64 st.line, .int .i64 st.col] rfl rfl))
                have Hsum := Lib.hid (show ((⟨st.text.toArray⟩ : ByteArray) ++ ⟨p.t.toArray⟩) ++ ⟨#[9]⟩ = ⟨(stepW st p 2).text.toArray⟩ by
                  rw [show (⟨#[9]⟩ : ByteArray) = ⟨([9] : Bs).toArray⟩ from rfl, txt_app, txt_app]; rfl)
                clear hk2
                go_wp2_with (at_builtin; refine wpList_append_own_at _ rfl (.tmp 57) (.tmp 66) 26 rfl w3.heap.size 35 i0 _ 5 48 Tryd.underlying26 hi0 hz0 hz1 hz2 rfl (by decide) _ st.want.length (flatT st.want) rfl (HW4.out.own.alloc _) ⟨w4.heap.size, 0, none⟩ 1 1 (Tok.cells (⟨p.k, p.t, nv, st.line, st.col⟩ : Tok)) rfl rfl Hnews.out (cells_oneT _) (by unfold maxLen; omega) (by omega) (by simp; exact Hbw.out) ?_; intro v5 w5 hown' hgrow _ hat; have HO5 := Lib.hid hown'; have HB5 := Lib.hid ((HW4.out.bel.alloc HW4.out.bel.size (.cells #[.int .u8 p.k, .string ⟨p.t.toArray⟩, .int .u64 nv, .int .i64 st.line, .int .i64 st.col] 35)).grown hgrow (by simp; exact Hbw.out) (fun g hg => (HW4.out.own.lt g hg).1)); have HP5 := Lib.hid ((HP4.out.kept ((Below.refl w4.heap.size w4).alloc (Nat.le_refl _) (.cells #[.int .u8 p.k, .string ⟨p.t.toArray⟩, .int .u64 nv, .int .i64 st.line, .int .i64 st.col] 35))).grown hgrow (fun e => HPo.out e.symm)); clear hown' hgrow hat z0 z1 z2 zl Hbw; have z0 := HP5.out.cell 0 rfl; have zl := HP5.out.lt; have Hbw := Lib.hid (show w3.heap.size ≤ w5.heap.size + 1 by have := HB5.out.size; omega); have y0 := HcG.out w5 HB5.out; have yl : bg2 < w5.heap.size := Nat.lt_of_lt_of_le Hgl2.out HB5.out.size)
                have HWn := Lib.hid (show WLoop w3 (stepW st p 2) v5 ((w5.alloc (.cells #[.string ⟨#[32]⟩, .string ⟨#[32, 32]⟩, .string ⟨#[9]⟩, .string ⟨#[32, 13]⟩] 9)).alloc (.cells #[.int .i64 1, .int .i64 2, .int .i64 1, .int .i64 2] 3)) from ⟨by obtain ⟨a1, a2, a3, a4, a5⟩ := HW4.out.inv; exact step_inv a5 Hp.out 2, by
                  have h5 := own_below HO5.out (below_more (below_more (Below.refl w5.heap.size w5) (.cells #[.string ⟨#[32]⟩, .string ⟨#[32, 32]⟩, .string ⟨#[9]⟩, .string ⟨#[32, 13]⟩] 9)) (.cells #[.int .i64 1, .int .i64 2, .int .i64 1, .int .i64 2] 3))
                  show World.ownsRow _ _ _ _ v5 (st.want ++ [wtok p st.line st.col]).length (flatT (st.want ++ [wtok p st.line st.col]))
                  rw [flatT_app, flatT_one, Htok.out]
                  simp only [List.length_append, List.length_cons, List.length_nil]
                  exact h5, below_more (below_more HB5.out _) _⟩)
                go_roundw
                case rel => exact ⟨k + 1, stepW st p 2, by go_num, by omega, by omega, by rw [Hsum.out], rfl, by show _ = Value.int .i64 ((st.col + p.t.length + 1 : Nat) : Int); rw [← Hc2.out]; go_num, rfl, by have := (step_len st Hp.out 2).1; omega, by have := (step_len st Hp.out 2).2.1; omega, by have := (step_len st Hp.out 2).2.2.1; omega, by have := (step_len st Hp.out 2).2.2.2; omega, HWn.out⟩
                case measure => simp [intOf]; omega
              · have k1 : ((p.k : Int) != 2) = true := by simp; omega
                have Htok := Lib.hid (show wtok p st.line st.col = (⟨p.k, p.t, 0, st.line, st.col⟩ : Tok) from by unfold wtok; rw [val_other hk2])
                have Hnews := Lib.hid (show ∀ (j : Nat) (u : Value), (Tok.cells (⟨p.k, p.t, 0, st.line, st.col⟩ : Tok))[j]? = some u → (w4.alloc (.cells #[.int .u8 p.k, .string ⟨p.t.toArray⟩, .int .u64 0, .int .i64 st.line, .int .i64 st.col] 35)).cell? ((⟨w4.heap.size, 0, none⟩ : Addr).add j) = some u from bk_news (bk_new_at (l := Tok.cells (⟨p.k, p.t, 0, st.line, st.col⟩ : Tok)) _ 35 #[.int .u8 p.k, .string ⟨p.t.toArray⟩, .int .u64 0, .int .i64 st.line, .int .i64 st.col] rfl rfl))
                have Hsum := Lib.hid (show ((⟨st.text.toArray⟩ : ByteArray) ++ ⟨p.t.toArray⟩) ++ ⟨#[9]⟩ = ⟨(stepW st p 2).text.toArray⟩ by
                  rw [show (⟨#[9]⟩ : ByteArray) = ⟨([9] : Bs).toArray⟩ from rfl, txt_app, txt_app]; rfl)
                clear hk2
                go_wp2_with (at_builtin; refine wpList_append_own_at _ rfl (.tmp 57) (.tmp 66) 26 rfl w3.heap.size 35 i0 _ 5 48 Tryd.underlying26 hi0 hz0 hz1 hz2 rfl (by decide) _ st.want.length (flatT st.want) rfl (HW4.out.own.alloc _) ⟨w4.heap.size, 0, none⟩ 1 1 (Tok.cells (⟨p.k, p.t, 0, st.line, st.col⟩ : Tok)) rfl rfl Hnews.out (cells_oneT _) (by unfold maxLen; omega) (by omega) (by simp; exact Hbw.out) ?_; intro v5 w5 hown' hgrow _ hat; have HO5 := Lib.hid hown'; have HB5 := Lib.hid ((HW4.out.bel.alloc HW4.out.bel.size (.cells #[.int .u8 p.k, .string ⟨p.t.toArray⟩, .int .u64 0, .int .i64 st.line, .int .i64 st.col] 35)).grown hgrow (by simp; exact Hbw.out) (fun g hg => (HW4.out.own.lt g hg).1)); have HP5 := Lib.hid ((HP4.out.kept ((Below.refl w4.heap.size w4).alloc (Nat.le_refl _) (.cells #[.int .u8 p.k, .string ⟨p.t.toArray⟩, .int .u64 0, .int .i64 st.line, .int .i64 st.col] 35))).grown hgrow (fun e => HPo.out e.symm)); clear hown' hgrow hat z0 z1 z2 zl Hbw; have z0 := HP5.out.cell 0 rfl; have zl := HP5.out.lt; have Hbw := Lib.hid (show w3.heap.size ≤ w5.heap.size + 1 by have := HB5.out.size; omega); have y0 := HcG.out w5 HB5.out; have yl : bg2 < w5.heap.size := Nat.lt_of_lt_of_le Hgl2.out HB5.out.size)
                have HWn := Lib.hid (show WLoop w3 (stepW st p 2) v5 ((w5.alloc (.cells #[.string ⟨#[32]⟩, .string ⟨#[32, 32]⟩, .string ⟨#[9]⟩, .string ⟨#[32, 13]⟩] 9)).alloc (.cells #[.int .i64 1, .int .i64 2, .int .i64 1, .int .i64 2] 3)) from ⟨by obtain ⟨a1, a2, a3, a4, a5⟩ := HW4.out.inv; exact step_inv a5 Hp.out 2, by
                  have h5 := own_below HO5.out (below_more (below_more (Below.refl w5.heap.size w5) (.cells #[.string ⟨#[32]⟩, .string ⟨#[32, 32]⟩, .string ⟨#[9]⟩, .string ⟨#[32, 13]⟩] 9)) (.cells #[.int .i64 1, .int .i64 2, .int .i64 1, .int .i64 2] 3))
                  show World.ownsRow _ _ _ _ v5 (st.want ++ [wtok p st.line st.col]).length (flatT (st.want ++ [wtok p st.line st.col]))
                  rw [flatT_app, flatT_one, Htok.out]
                  simp only [List.length_append, List.length_cons, List.length_nil]
                  exact h5, below_more (below_more HB5.out _) _⟩)
                go_roundw
                case rel => exact ⟨k + 1, stepW st p 2, by go_num, by omega, by omega, by rw [Hsum.out], rfl, by show _ = Value.int .i64 ((st.col + p.t.length + 1 : Nat) : Int); rw [← Hc2.out]; go_num, rfl, by have := (step_len st Hp.out 2).1; omega, by have := (step_len st Hp.out 2).2.1; omega, by have := (step_len st Hp.out 2).2.2.1; omega, by have := (step_len st Hp.out 2).2.2.2; omega, HWn.out⟩
                case measure => simp [intOf]; omega
            · have m1 : (q : Int) % 5 = 3 := by omega
              have m2 : Int.tmod (q : Int) 5 = 3 := by rw [Int.tmod_eq_emod_of_nonneg (by omega)]; exact m1
              clear hg hq5
              by_cases hk2 : p.k = 2
              · have k1 : ((p.k : Int) != 2) = false := by rw [hk2]; rfl
                have Htok := Lib.hid (show wtok p st.line st.col = (⟨p.k, p.t, nv, st.line, st.col⟩ : Tok) from by unfold wtok; rw [← Hnv.out hk2])
                have Hnews := Lib.hid (show ∀ (j : Nat) (u : Value), (Tok.cells (⟨p.k, p.t, nv, st.line, st.col⟩ : Tok))[j]? = some u → (w4.alloc (.cells #[.int .u8 p.k, .string ⟨p.t.toArray⟩, .int .u64 nv, .int .i64 st.line, .int .i64 st.col] 35)).cell? ((⟨w4.heap.size, 0, none⟩ : Addr).add j) = some u from bk_news (bk_new_at (l := Tok.cells (⟨p.k, p.t, nv, st.line, st.col⟩ : Tok)) _ 35 #[.int .u8 p.k, .string ⟨p.t.toArray⟩, .int .u64 nv, .int .i64 st.line, .int .i64 st.col] rfl rfl))
                have Hsum := Lib.hid (show ((⟨st.text.toArray⟩ : ByteArray) ++ ⟨p.t.toArray⟩) ++ ⟨#[32, 13]⟩ = ⟨(stepW st p 3).text.toArray⟩ by
                  rw [show (⟨#[32, 13]⟩ : ByteArray) = ⟨([32, 13] : Bs).toArray⟩ from rfl, txt_app, txt_app]; rfl)
                clear hk2
                go_wp2_with (at_builtin; refine wpList_append_own_at _ rfl (.tmp 57) (.tmp 66) 26 rfl w3.heap.size 35 i0 _ 5 48 Tryd.underlying26 hi0 hz0 hz1 hz2 rfl (by decide) _ st.want.length (flatT st.want) rfl (HW4.out.own.alloc _) ⟨w4.heap.size, 0, none⟩ 1 1 (Tok.cells (⟨p.k, p.t, nv, st.line, st.col⟩ : Tok)) rfl rfl Hnews.out (cells_oneT _) (by unfold maxLen; omega) (by omega) (by simp; exact Hbw.out) ?_; intro v5 w5 hown' hgrow _ hat; have HO5 := Lib.hid hown'; have HB5 := Lib.hid ((HW4.out.bel.alloc HW4.out.bel.size (.cells #[.int .u8 p.k, .string ⟨p.t.toArray⟩, .int .u64 nv, .int .i64 st.line, .int .i64 st.col] 35)).grown hgrow (by simp; exact Hbw.out) (fun g hg => (HW4.out.own.lt g hg).1)); have HP5 := Lib.hid ((HP4.out.kept ((Below.refl w4.heap.size w4).alloc (Nat.le_refl _) (.cells #[.int .u8 p.k, .string ⟨p.t.toArray⟩, .int .u64 nv, .int .i64 st.line, .int .i64 st.col] 35))).grown hgrow (fun e => HPo.out e.symm)); clear hown' hgrow hat z0 z1 z2 zl Hbw; have z0 := HP5.out.cell 0 rfl; have zl := HP5.out.lt; have Hbw := Lib.hid (show w3.heap.size ≤ w5.heap.size + 1 by have := HB5.out.size; omega); have y0 := HcG.out w5 HB5.out; have yl : bg2 < w5.heap.size := Nat.lt_of_lt_of_le Hgl2.out HB5.out.size)
                have HWn := Lib.hid (show WLoop w3 (stepW st p 3) v5 ((w5.alloc (.cells #[.string ⟨#[32]⟩, .string ⟨#[32, 32]⟩, .string ⟨#[9]⟩, .string ⟨#[32, 13]⟩] 9)).alloc (.cells #[.int .i64 1, .int .i64 2, .int .i64 1, .int .i64 2] 3)) from ⟨by obtain ⟨a1, a2, a3, a4, a5⟩ := HW4.out.inv; exact step_inv a5 Hp.out 3, by
                  have h5 := own_below HO5.out (below_more (below_more (Below.refl w5.heap.size w5) (.cells #[.string ⟨#[32]⟩, .string ⟨#[32, 32]⟩, .string ⟨#[9]⟩, .string ⟨#[32, 13]⟩] 9)) (.cells #[.int .i64 1, .int .i64 2, .int .i64 1, .int .i64 2] 3))
                  show World.ownsRow _ _ _ _ v5 (st.want ++ [wtok p st.line st.col]).length (flatT (st.want ++ [wtok p st.line st.col]))
                  rw [flatT_app, flatT_one, Htok.out]
                  simp only [List.length_append, List.length_cons, List.length_nil]
                  exact h5, below_more (below_more HB5.out _) _⟩)
                go_roundw
                case rel => exact ⟨k + 1, stepW st p 3, by go_num, by omega, by omega, by rw [Hsum.out], rfl, by show _ = Value.int .i64 ((st.col + p.t.length + 2 : Nat) : Int); rw [← Hc2.out]; go_num, rfl, by have := (step_len st Hp.out 3).1; omega, by have := (step_len st Hp.out 3).2.1; omega, by have := (step_len st Hp.out 3).2.2.1; omega, by have := (step_len st Hp.out 3).2.2.2; omega, HWn.out⟩
                case measure => simp [intOf]; omega
              · have k1 : ((p.k : Int) != 2) = true := by simp; omega
                have Htok := Lib.hid (show wtok p st.line st.col = (⟨p.k, p.t, 0, st.line, st.col⟩ : Tok) from by unfold wtok; rw [val_other hk2])
                have Hnews := Lib.hid (show ∀ (j : Nat) (u : Value), (Tok.cells (⟨p.k, p.t, 0, st.line, st.col⟩ : Tok))[j]? = some u → (w4.alloc (.cells #[.int .u8 p.k, .string ⟨p.t.toArray⟩, .int .u64 0, .int .i64 st.line, .int .i64 st.col] 35)).cell? ((⟨w4.heap.size, 0, none⟩ : Addr).add j) = some u from bk_news (bk_new_at (l := Tok.cells (⟨p.k, p.t, 0, st.line, st.col⟩ : Tok)) _ 35 #[.int .u8 p.k, .string ⟨p.t.toArray⟩, .int .u64 0, .int .i64 st.line, .int .i64 st.col] rfl rfl))
                have Hsum := Lib.hid (show ((⟨st.text.toArray⟩ : ByteArray) ++ ⟨p.t.toArray⟩) ++ ⟨#[32, 13]⟩ = ⟨(stepW st p 3).text.toArray⟩ by
                  rw [show (⟨#[32, 13]⟩ : ByteArray) = ⟨([32, 13] : Bs).toArray⟩ from rfl, txt_app, txt_app]; rfl)
                clear hk2
                go_wp2_with (at_builtin; refine wpList_append_own_at _ rfl (.tmp 57) (.tmp 66) 26 rfl w3.heap.size 35 i0 _ 5 48 Tryd.underlying26 hi0 hz0 hz1 hz2 rfl (by decide) _ st.want.length (flatT st.want) rfl (HW4.out.own.alloc _) ⟨w4.heap.size, 0, none⟩ 1 1 (Tok.cells (⟨p.k, p.t, 0, st.line, st.col⟩ : Tok)) rfl rfl Hnews.out (cells_oneT _) (by unfold maxLen; omega) (by omega) (by simp; exact Hbw.out) ?_; intro v5 w5 hown' hgrow _ hat; have HO5 := Lib.hid hown'; have HB5 := Lib.hid ((HW4.out.bel.alloc HW4.out.bel.size (.cells #[.int .u8 p.k, .string ⟨p.t.toArray⟩, .int .u64 0, .int .i64 st.line, .int .i64 st.col] 35)).grown hgrow (by simp; exact Hbw.out) (fun g hg => (HW4.out.own.lt g hg).1)); have HP5 := Lib.hid ((HP4.out.kept ((Below.refl w4.heap.size w4).alloc (Nat.le_refl _) (.cells #[.int .u8 p.k, .string ⟨p.t.toArray⟩, .int .u64 0, .int .i64 st.line, .int .i64 st.col] 35))).grown hgrow (fun e => HPo.out e.symm)); clear hown' hgrow hat z0 z1 z2 zl Hbw; have z0 := HP5.out.cell 0 rfl; have zl := HP5.out.lt; have Hbw := Lib.hid (show w3.heap.size ≤ w5.heap.size + 1 by have := HB5.out.size; omega); have y0 := HcG.out w5 HB5.out; have yl : bg2 < w5.heap.size := Nat.lt_of_lt_of_le Hgl2.out HB5.out.size)
                have HWn := Lib.hid (show WLoop w3 (stepW st p 3) v5 ((w5.alloc (.cells #[.string ⟨#[32]⟩, .string ⟨#[32, 32]⟩, .string ⟨#[9]⟩, .string ⟨#[32, 13]⟩] 9)).alloc (.cells #[.int .i64 1, .int .i64 2, .int .i64 1, .int .i64 2] 3)) from ⟨by obtain ⟨a1, a2, a3, a4, a5⟩ := HW4.out.inv; exact step_inv a5 Hp.out 3, by
                  have h5 := own_below HO5.out (below_more (below_more (Below.refl w5.heap.size w5) (.cells #[.string ⟨#[32]⟩, .string ⟨#[32, 32]⟩, .string ⟨#[9]⟩, .string ⟨#[32, 13]⟩] 9)) (.cells #[.int .i64 1, .int .i64 2, .int .i64 1, .int .i64 2] 3))
                  show World.ownsRow _ _ _ _ v5 (st.want ++ [wtok p st.line st.col]).length (flatT (st.want ++ [wtok p st.line st.col]))
                  rw [flatT_app, flatT_one, Htok.out]
                  simp only [List.length_append, List.length_cons, List.length_nil]
                  exact h5, below_more (below_more HB5.out _) _⟩)
                go_roundw
                case rel => exact ⟨k + 1, stepW st p 3, by go_num, by omega, by omega, by rw [Hsum.out], rfl, by show _ = Value.int .i64 ((st.col + p.t.length + 2 : Nat) : Int); rw [← Hc2.out]; go_num, rfl, by have := (step_len st Hp.out 3).1; omega, by have := (step_len st Hp.out 3).2.1; omega, by have := (step_len st Hp.out 3).2.2.1; omega, by have := (step_len st Hp.out 3).2.2.2; omega, HWn.out⟩
                case measure => simp [intOf]; omega
            · have m1 : (q : Int) % 5 = 4 := by omega
              have m2 : Int.tmod (q : Int) 5 = 4 := by rw [Int.tmod_eq_emod_of_nonneg (by omega)]; exact m1
              clear hg hq5
              by_cases hk2 : p.k = 2
              · have k1 : ((p.k : Int) != 2) = false := by rw [hk2]; rfl
                have Htok := Lib.hid (show wtok p st.line st.col = (⟨p.k, p.t, nv, st.line, st.col⟩ : Tok) from by unfold wtok; rw [← Hnv.out hk2])
                have Hnews := Lib.hid (show ∀ (j : Nat) (u : Value), (Tok.cells (⟨p.k, p.t, nv, st.line, st.col⟩ : Tok))[j]? = some u → (w4.alloc (.cells #[.int .u8 p.k, .string ⟨p.t.toArray⟩, .int .u64 nv, .int .i64 st.line, .int .i64 st.col] 35)).cell? ((⟨w4.heap.size, 0, none⟩ : Addr).add j) = some u from bk_news (bk_new_at (l := Tok.cells (⟨p.k, p.t, nv, st.line, st.col⟩ : Tok)) _ 35 #[.int .u8 p.k, .string ⟨p.t.toArray⟩, .int .u64 nv, .int .i64 st.line, .int .i64 st.col] rfl rfl))
                have Hsum := Lib.hid (show ((⟨st.text.toArray⟩ : ByteArray) ++ ⟨p.t.toArray⟩) ++ ⟨#[10]⟩ = ⟨(stepW st p 4).text.toArray⟩ by
                  rw [show (⟨#[10]⟩ : ByteArray) = ⟨([10] : Bs).toArray⟩ from rfl, txt_app, txt_app]; rfl)
                clear hk2
                go_wp2_with (first | (at_builtin; refine wpList_append_own_at _ rfl (.tmp 57) (.tmp 66) 26 rfl w3.heap.size 35 i0 _ 5 48 Tryd.underlying26 hi0 hz0 hz1 hz2 rfl (by decide) _ st.want.length (flatT st.want) rfl (HW4.out.own.alloc _) ⟨w4.heap.size, 0, none⟩ 1 1 (Tok.cells (⟨p.k, p.t, nv, st.line, st.col⟩ : Tok)) rfl rfl Hnews.out (cells_oneT _) (by unfold maxLen; omega) (by omega) (by simp; exact Hbw.out) ?_; intro v5 w5 hown' hgrow _ hat; have HO5 := Lib.hid hown'; have HB5 := Lib.hid ((HW4.out.bel.alloc HW4.out.bel.size (.cells #[.int .u8 p.k, .string ⟨p.t.toArray⟩, .int .u64 nv, .int .i64 st.line, .int .i64 st.col] 35)).grown hgrow (by simp; exact Hbw.out) (fun g hg => (HW4.out.own.lt g hg).1)); have HP5 := Lib.hid ((HP4.out.kept ((Below.refl w4.heap.size w4).alloc (Nat.le_refl _) (.cells #[.int .u8 p.k, .string ⟨p.t.toArray⟩, .int .u64 nv, .int .i64 st.line, .int .i64 st.col] 35))).grown hgrow (fun e => HPo.out e.symm)); clear hown' hgrow hat z0 z1 z2 zl Hbw; have z0 := HP5.out.cell 0 rfl; have zl := HP5.out.lt; have Hbw := Lib.hid (show w3.heap.size ≤ w5.heap.size + 1 by have := HB5.out.size; omega); have y0 := HcG.out w5 HB5.out; have yl : bg2 < w5.heap.size := Nat.lt_of_lt_of_le Hgl2.out HB5.out.size; have Hnews2 := Lib.hid (show ∀ (j : Nat) (u : Value), (Tok.cells (⟨0, [], 0, st.line, c2⟩ : Tok))[j]? = some u → (w5.alloc (.cells #[.int .u8 0, .string ⟨#[]⟩, .int .u64 0, .int .i64 st.line, .int .i64 c2] 35)).cell? ((⟨w5.heap.size, 0, none⟩ : Addr).add j) = some u from bk_news (bk_new_at (l := Tok.cells (⟨0, [], 0, st.line, c2⟩ : Tok)) _ 35 #[.int .u8 0, .string ⟨#[]⟩, .int .u64 0, .int .i64 st.line, .int .i64 c2] rfl rfl))) | (at_builtin; refine wpList_append_own_at _ rfl (.tmp 88) (.tmp 92) 26 rfl w3.heap.size 35 i0 _ 5 48 Tryd.underlying26 hi0 hz0 hz1 hz2 rfl (by decide) _ (st.want.length + 1) (flatT st.want ++ Tok.cells (⟨p.k, p.t, nv, st.line, st.col⟩ : Tok)) rfl (HO5.out.alloc _) ⟨w5.heap.size, 0, none⟩ 1 1 (Tok.cells (⟨0, [], 0, st.line, c2⟩ : Tok)) rfl rfl Hnews2.out (cells_oneT _) (by unfold maxLen; omega) (by omega) (by simp; exact Hbw.out) ?_; intro v6 w6 hown' hgrow _ hat; have HO6 := Lib.hid hown'; have HB6 := Lib.hid ((HB5.out.alloc HB5.out.size (.cells #[.int .u8 0, .string ⟨#[]⟩, .int .u64 0, .int .i64 st.line, .int .i64 c2] 35)).grown hgrow (by simp; exact Hbw.out) (fun g hg => (HO5.out.lt g hg).1)); clear hown' hgrow hat z0 zl))
                have HWn := Lib.hid (show WLoop w3 (stepW st p 4) v6 w6 from ⟨by obtain ⟨a1, a2, a3, a4, a5⟩ := HW4.out.inv; exact step_inv a5 Hp.out 4, by
                  have h5 := HO6.out
                  show w6.ownsRow _ _ _ v6 ((st.want ++ [wtok p st.line st.col]) ++ [(⟨0, [], 0, st.line, st.col + p.t.length⟩ : Tok)]).length (flatT ((st.want ++ [wtok p st.line st.col]) ++ [(⟨0, [], 0, st.line, st.col + p.t.length⟩ : Tok)]))
                  rw [flatT_app, flatT_app, flatT_one, flatT_one, Htok.out, ← Hc2.out]
                  simp only [List.length_append, List.length_cons, List.length_nil]
                  exact h5, HB6.out⟩)
                go_roundw
                case rel => exact ⟨k + 1, stepW st p 4, by go_num, by omega, by omega, by rw [Hsum.out], by show _ = Value.int .i64 ((st.line + 1 : Nat) : Int); go_num, rfl, rfl, by have := (step_len st Hp.out 4).1; omega, by have := (step_len st Hp.out 4).2.1; omega, by have := (step_len st Hp.out 4).2.2.1; omega, by have := (step_len st Hp.out 4).2.2.2; omega, HWn.out⟩
                case measure => simp [intOf]; omega
              · have k1 : ((p.k : Int) != 2) = true := by simp; omega
                have Htok := Lib.hid (show wtok p st.line st.col = (⟨p.k, p.t, 0, st.line, st.col⟩ : Tok) from by unfold wtok; rw [val_other hk2])
                have Hnews := Lib.hid (show ∀ (j : Nat) (u : Value), (Tok.cells (⟨p.k, p.t, 0, st.line, st.col⟩ : Tok))[j]? = some u → (w4.alloc (.cells #[.int .u8 p.k, .string ⟨p.t.toArray⟩, .int .u64 0, .int .i64 st.line, .int .i64 st.col] 35)).cell? ((⟨w4.heap.size, 0, none⟩ : Addr).add j) = some u from bk_news (bk_new_at (l := Tok.cells (⟨p.k, p.t, 0, st.line, st.col⟩ : Tok)) _ 35 #[.int .u8 p.k, .string ⟨p.t.toArray⟩, .int .u64 0, .int .i64 st.line, .int .i64 st.col] rfl rfl))
                have Hsum := Lib.hid (show ((⟨st.text.toArray⟩ : ByteArray) ++ ⟨p.t.toArray⟩) ++ ⟨#[10]⟩ = ⟨(stepW st p 4).text.toArray⟩ by
                  rw [show (⟨#[10]⟩ : ByteArray) = ⟨([10] : Bs).toArray⟩ from rfl, txt_app, txt_app]; rfl)
                clear hk2
                go_wp2_with (first | (at_builtin; refine wpList_append_own_at _ rfl (.tmp 57) (.tmp 66) 26 rfl w3.heap.size 35 i0 _ 5 48 Tryd.underlying26 hi0 hz0 hz1 hz2 rfl (by decide) _ st.want.length (flatT st.want) rfl (HW4.out.own.alloc _) ⟨w4.heap.size, 0, none⟩ 1 1 (Tok.cells (⟨p.k, p.t, 0, st.line, st.col⟩ : Tok)) rfl rfl Hnews.out (cells_oneT _) (by unfold maxLen; omega) (by omega) (by simp; exact Hbw.out) ?_; intro v5 w5 hown' hgrow _ hat; have HO5 := Lib.hid hown'; have HB5 := Lib.hid ((HW4.out.bel.alloc HW4.out.bel.size (.cells #[.int .u8 p.k, .string ⟨p.t.toArray⟩, .int .u64 0, .int .i64 st.line, .int .i64 st.col] 35)).grown hgrow (by simp; exact Hbw.out) (fun g hg => (HW4.out.own.lt g hg).1)); have HP5 := Lib.hid ((HP4.out.kept ((Below.refl w4.heap.size w4).alloc (Nat.le_refl _) (.cells #[.int .u8 p.k, .string ⟨p.t.toArray⟩, .int .u64 0, .int .i64 st.line, .int .i64 st.col] 35))).grown hgrow (fun e => HPo.out e.symm)); clear hown' hgrow hat z0 z1 z2 zl Hbw; have z0 := HP5.out.cell 0 rfl; have zl := HP5.out.lt; have Hbw := Lib.hid (show w3.heap.size ≤ w5.heap.size + 1 by have := HB5.out.size; omega); have y0 := HcG.out w5 HB5.out; have yl : bg2 < w5.heap.size := Nat.lt_of_lt_of_le Hgl2.out HB5.out.size; have Hnews2 := Lib.hid (show ∀ (j : Nat) (u : Value), (Tok.cells (⟨0, [], 0, st.line, c2⟩ : Tok))[j]? = some u → (w5.alloc (.cells #[.int .u8 0, .string ⟨#[]⟩, .int .u64 0, .int .i64 st.line, .int .i64 c2] 35)).cell? ((⟨w5.heap.size, 0, none⟩ : Addr).add j) = some u from bk_news (bk_new_at (l := Tok.cells (⟨0, [], 0, st.line, c2⟩ : Tok)) _ 35 #[.int .u8 0, .string ⟨#[]⟩, .int .u64 0, .int .i64 st.line, .int .i64 c2] rfl rfl))) | (at_builtin; refine wpList_append_own_at _ rfl (.tmp 88) (.tmp 92) 26 rfl w3.heap.size 35 i0 _ 5 48 Tryd.underlying26 hi0 hz0 hz1 hz2 rfl (by decide) _ (st.want.length + 1) (flatT st.want ++ Tok.cells (⟨p.k, p.t, 0, st.line, st.col⟩ : Tok)) rfl (HO5.out.alloc _) ⟨w5.heap.size, 0, none⟩ 1 1 (Tok.cells (⟨0, [], 0, st.line, c2⟩ : Tok)) rfl rfl Hnews2.out (cells_oneT _) (by unfold maxLen; omega) (by omega) (by simp; exact Hbw.out) ?_; intro v6 w6 hown' hgrow _ hat; have HO6 := Lib.hid hown'; have HB6 := Lib.hid ((HB5.out.alloc HB5.out.size (.cells #[.int .u8 0, .string ⟨#[]⟩, .int .u64 0, .int .i64 st.line, .int .i64 c2] 35)).grown hgrow (by simp; exact Hbw.out) (fun g hg => (HO5.out.lt g hg).1)); clear hown' hgrow hat z0 zl))
                have HWn := Lib.hid (show WLoop w3 (stepW st p 4) v6 w6 from ⟨by obtain ⟨a1, a2, a3, a4, a5⟩ := HW4.out.inv; exact step_inv a5 Hp.out 4, by
                  have h5 := HO6.out
                  show w6.ownsRow _ _ _ v6 ((st.want ++ [wtok p st.line st.col]) ++ [(⟨0, [], 0, st.line, st.col + p.t.length⟩ : Tok)]).length (flatT ((st.want ++ [wtok p st.line st.col]) ++ [(⟨0, [], 0, st.line, st.col + p.t.length⟩ : Tok)]))
                  rw [flatT_app, flatT_app, flatT_one, flatT_one, Htok.out, ← Hc2.out]
                  simp only [List.length_append, List.length_cons, List.length_nil]
                  exact h5, HB6.out⟩)
                go_roundw
                case rel => exact ⟨k + 1, stepW st p 4, by go_num, by omega, by omega, by rw [Hsum.out], by show _ = Value.int .i64 ((st.line + 1 : Nat) : Int); go_num, rfl, rfl, by have := (step_len st Hp.out 4).1; omega, by have := (step_len st Hp.out 4).2.1; omega, by have := (step_len st Hp.out 4).2.2.1; omega, by have := (step_len st Hp.out 4).2.2.2; omega, HWn.out⟩
                case measure => simp [intOf]; omega
          · have gk : ¬ (k : Int) < (m : Int) := by omega
            by_cases hk2 : p.k = 2
            · have k1 : ((p.k : Int) != 2) = false := by rw [hk2]; rfl
              have Htok := Lib.hid (show wtok p st.line st.col = (⟨p.k, p.t, nv, st.line, st.col⟩ : Tok) from by unfold wtok; rw [← Hnv.out hk2])
              have Hnews := Lib.hid (show ∀ (j : Nat) (u : Value), (Tok.cells (⟨p.k, p.t, nv, st.line, st.col⟩ : Tok))[j]? = some u → (w4.alloc (.cells #[.int .u8 p.k, .string ⟨p.t.toArray⟩, .int .u64 nv, .int .i64 st.line, .int .i64 st.col] 35)).cell? ((⟨w4.heap.size, 0, none⟩ : Addr).add j) = some u from bk_news (bk_new_at (l := Tok.cells (⟨p.k, p.t, nv, st.line, st.col⟩ : Tok)) _ 35 #[.int .u8 p.k, .string ⟨p.t.toArray⟩, .int .u64 nv, .int .i64 st.line, .int .i64 st.col] rfl rfl))
              have Hsum := Lib.hid (show ((⟨st.text.toArray⟩ : ByteArray) ++ ⟨p.t.toArray⟩) ++ ⟨#[32]⟩ = ⟨(stepW st p 0).text.toArray⟩ by
                rw [show (⟨#[32]⟩ : ByteArray) = ⟨([32] : Bs).toArray⟩ from rfl, txt_app, txt_app]; rfl)
              clear hk2
              go_wp2_with (at_builtin; refine wpList_append_own_at _ rfl (.tmp 57) (.tmp 66) 26 rfl w3.heap.size 35 i0 _ 5 48 Tryd.underlying26 hi0 hz0 hz1 hz2 rfl (by decide) _ st.want.length (flatT st.want) rfl (HW4.out.own.alloc _) ⟨w4.heap.size, 0, none⟩ 1 1 (Tok.cells (⟨p.k, p.t, nv, st.line, st.col⟩ : Tok)) rfl rfl Hnews.out (cells_oneT _) (by unfold maxLen; omega) (by omega) (by simp; exact Hbw.out) ?_; intro v5 w5 hown' hgrow _ hat; have HO5 := Lib.hid hown'; have HB5 := Lib.hid ((HW4.out.bel.alloc HW4.out.bel.size (.cells #[.int .u8 p.k, .string ⟨p.t.toArray⟩, .int .u64 nv, .int .i64 st.line, .int .i64 st.col] 35)).grown hgrow (by simp; exact Hbw.out) (fun g hg => (HW4.out.own.lt g hg).1)); have HP5 := Lib.hid ((HP4.out.kept ((Below.refl w4.heap.size w4).alloc (Nat.le_refl _) (.cells #[.int .u8 p.k, .string ⟨p.t.toArray⟩, .int .u64 nv, .int .i64 st.line, .int .i64 st.col] 35))).grown hgrow (fun e => HPo.out e.symm)); clear hown' hgrow hat z0 z1 z2 zl Hbw; have z0 := HP5.out.cell 0 rfl; have zl := HP5.out.lt; have Hbw := Lib.hid (show w3.heap.size ≤ w5.heap.size + 1 by have := HB5.out.size; omega))
              have HWn := Lib.hid (show WLoop w3 (stepW st p 0) v5 ((w5.alloc (.cells #[.string ⟨#[32]⟩, .string ⟨#[32, 32]⟩, .string ⟨#[9]⟩, .string ⟨#[32, 13]⟩] 9)).alloc (.cells #[.int .i64 1, .int .i64 2, .int .i64 1, .int .i64 2] 3)) from ⟨by obtain ⟨a1, a2, a3, a4, a5⟩ := HW4.out.inv; exact step_inv a5 Hp.out 0, by
                have h5 := own_below HO5.out (below_more (below_more (Below.refl w5.heap.size w5) (.cells #[.string ⟨#[32]⟩, .string ⟨#[32, 32]⟩, .string ⟨#[9]⟩, .string ⟨#[32, 13]⟩] 9)) (.cells #[.int .i64 1, .int .i64 2, .int .i64 1, .int .i64 2] 3))
                show World.ownsRow _ _ _ _ v5 (st.want ++ [wtok p st.line st.col]).length (flatT (st.want ++ [wtok p st.line st.col]))
                rw [flatT_app, flatT_one, Htok.out]
                simp only [List.length_append, List.length_cons, List.length_nil]
                exact h5, below_more (below_more HB5.out _) _⟩)
              go_roundw
              case rel => exact ⟨k + 1, stepW st p 0, by go_num, by omega, by omega, by rw [Hsum.out], rfl, by show _ = Value.int .i64 ((st.col + p.t.length + 1 : Nat) : Int); rw [← Hc2.out]; go_num, rfl, by have := (step_len st Hp.out 0).1; omega, by have := (step_len st Hp.out 0).2.1; omega, by have := (step_len st Hp.out 0).2.2.1; omega, by have := (step_len st Hp.out 0).2.2.2; omega, HWn.out⟩
              case measure => simp [intOf]; omega
            · have k1 : ((p.k : Int) != 2) = true := by simp; omega
              have Htok := Lib.hid (show wtok p st.line st.col = (⟨p.k, p.t, 0, st.line, st.col⟩ : Tok) from by unfold wtok; rw [val_other hk2])
              have Hnews := Lib.hid (show ∀ (j : Nat) (u : Value), (Tok.cells (⟨p.k, p.t, 0, st.line, st.col⟩ : Tok))[j]? = some u → (w4.alloc (.cells #[.int .u8 p.k, .string ⟨p.t.toArray⟩, .int .u64 0, .int .i64 st.line, .int .i64 st.col] 35)).cell? ((⟨w4.heap.size, 0, none⟩ : Addr).add j) = some u from bk_news (bk_new_at (l := Tok.cells (⟨p.k, p.t, 0, st.line, st.col⟩ : Tok)) _ 35 #[.int .u8 p.k, .string ⟨p.t.toArray⟩, .int .u64 0, .int .i64 st.line, .int .i64 st.col] rfl rfl))
              have Hsum := Lib.hid (show ((⟨st.text.toArray⟩ : ByteArray) ++ ⟨p.t.toArray⟩) ++ ⟨#[32]⟩ = ⟨(stepW st p 0).text.toArray⟩ by
                rw [show (⟨#[32]⟩ : ByteArray) = ⟨([32] : Bs).toArray⟩ from rfl, txt_app, txt_app]; rfl)
              clear hk2
              go_wp2_with (at_builtin; refine wpList_append_own_at _ rfl (.tmp 57) (.tmp 66) 26 rfl w3.heap.size 35 i0 _ 5 48 Tryd.underlying26 hi0 hz0 hz1 hz2 rfl (by decide) _ st.want.length (flatT st.want) rfl (HW4.out.own.alloc _) ⟨w4.heap.size, 0, none⟩ 1 1 (Tok.cells (⟨p.k, p.t, 0, st.line, st.col⟩ : Tok)) rfl rfl Hnews.out (cells_oneT _) (by unfold maxLen; omega) (by omega) (by simp; exact Hbw.out) ?_; intro v5 w5 hown' hgrow _ hat; have HO5 := Lib.hid hown'; have HB5 := Lib.hid ((HW4.out.bel.alloc HW4.out.bel.size (.cells #[.int .u8 p.k, .string ⟨p.t.toArray⟩, .int .u64 0, .int .i64 st.line, .int .i64 st.col] 35)).grown hgrow (by simp; exact Hbw.out) (fun g hg => (HW4.out.own.lt g hg).1)); have HP5 := Lib.hid ((HP4.out.kept ((Below.refl w4.heap.size w4).alloc (Nat.le_refl _) (.cells #[.int .u8 p.k, .string ⟨p.t.toArray⟩, .int .u64 0, .int .i64 st.line, .int .i64 st.col] 35))).grown hgrow (fun e => HPo.out e.symm)); clear hown' hgrow hat z0 z1 z2 zl Hbw; have z0 := HP5.out.cell 0 rfl; have zl := HP5.out.lt; have Hbw := Lib.hid (show w3.heap.size ≤ w5.heap.size + 1 by have := HB5.out.size; omega))
              have HWn := Lib.hid (show WLoop w3 (stepW st p 0) v5 ((w5.alloc (.cells #[.string ⟨#[32]⟩, .string ⟨#[32, 32]⟩, .string ⟨#[9]⟩, .string ⟨#[32, 13]⟩] 9)).alloc (.cells #[.int .i64 1, .int .i64 2, .int .i64 1, .int .i64 2] 3)) from ⟨by obtain ⟨a1, a2, a3, a4, a5⟩ := HW4.out.inv; exact step_inv a5 Hp.out 0, by
                have h5 := own_below HO5.out (below_more (below_more (Below.refl w5.heap.size w5) (.cells #[.string ⟨#[32]⟩, .string ⟨#[32, 32]⟩, .string ⟨#[9]⟩, .string ⟨#[32, 13]⟩] 9)) (.cells #[.int .i64 1, .int .i64 2, .int .i64 1, .int .i64 2] 3))
                show World.ownsRow _ _ _ _ v5 (st.want ++ [wtok p st.line st.col]).length (flatT (st.want ++ [wtok p st.line st.col]))
                rw [flatT_app, flatT_one, Htok.out]
                simp only [List.length_append, List.length_cons, List.length_nil]
                exact h5, below_more (below_more HB5.out _) _⟩)
              go_roundw
              case rel => exact ⟨k + 1, stepW st p 0, by go_num, by omega, by omega, by rw [Hsum.out], rfl, by show _ = Value.int .i64 ((st.col + p.t.length + 1 : Nat) : Int); rw [← Hc2.out]; go_num, rfl, by have := (step_len st Hp.out 0).1; omega, by have := (step_len st Hp.out 0).2.1; omega, by have := (step_len st Hp.out 0).2.2.1; omega, by have := (step_len st Hp.out 0).2.2.2; omega, HWn.out⟩
              case measure => simp [intOf]; omega
      · obtain rfl : k = n := by omega
        go_wp2_with fail
        go_meet
        case rel => exact ⟨st, rfl, rfl, rfl, rfl, by omega, by omega, by omega, by omega, HW.out⟩
  case rest =>
    obtain ⟨st, rfl, rfl, rfl, rfl, b1, b2, b3, b4, HW⟩ := hcut
    obtain ⟨T1, T2, W1, W2, hI⟩ := HW.out.inv
    have HI := Lib.hid hI
    clear hI
    have Hlex1 := Lib.hid (fun W E => lex_any ⟨st.text.toArray⟩ W E)
    unfold LinePost at Hlex1
    rw [show (⟨st.text.toArray⟩ : ByteArray).data.toList = st.text from rfl, winv_lex HI.out (by omega)] at Hlex1
    have Henv := Lib.hid (HE.out.below (HB3.out.trans (HW.out.bel.mono HB3.out.size)))
    obtain ⟨Av, cv, rfl, hcv, hRw, hnw⟩ := own_slice HW.out.own
    have HRw := Lib.hid hRw
    have Hnw := Lib.hid hnw
    clear hRw hnw
    obtain ⟨E, hE⟩ : ∃ E, E = (if st.some_ = true then st.want ++ [(⟨0, [], 0, st.line, st.col⟩ : Tok)] else st.want) := ⟨_, rfl⟩
    rw [← hE] at Hlex1
    have hEl : E.length ≤ 81 := by
      rw [hE]
      split
      · simp; omega
      · omega
    have HEq := Lib.hid hE
    clear hE
    go_upto_if 116 with fail
    go_cut [13, 20] from 116 to 124 (fun _ en wx => ∃ (A : Option Addr) (c : Nat), en = .slice A E.length c ∧ Hid (Rd wx 5 E.length A (flatT E)) ∧ Hid (Below wc.heap.size wc wx))
    case first =>
      cases hs : st.some_ with
      | false =>
        have hEw : E = st.want := by rw [HEq.out, hs]; rfl
        go_wp2_with fail
        go_meet
        case rel => exact ⟨Av, cv, by rw [hEw], by rw [hEw]; exact HRw.out, Below.refl _ _⟩
      | true =>
        have hEw : E = st.want ++ [(⟨0, [], 0, st.line, st.col⟩ : Tok)] := by rw [HEq.out, hs]; rfl
        have HO0 := Lib.hid (show (wc.alloc (.cells #[] 35)).ownsRow wc.heap.size 35 5 (.slice (some ⟨wc.heap.size, 0, none⟩) 0 0) 0 (flatT []) from bk_own (Bk.new wc 35 _ rfl) rfl (by unfold maxLen; omega) (Nat.le_refl _))
        have HRw2 := Lib.hid (HRw.out.below ((Below.refl wc.heap.size wc).alloc (Nat.le_refl _) (.cells #[] 35)))
        clear hs
        go_wp2_with (first | (at_builtin; refine append_toks rfl (.tmp 117) (.tmp 118) rfl wc.heap.size _ 0 (flatT []) rfl HO0.out st.want Av st.want.length cv rfl rfl HRw2.out Hnw.out (by omega) (by simp) ?_; intro v5 w5 hown' hgrow _; have HO5 := Lib.hid hown'; have HB5 := Lib.hid (((Below.refl wc.heap.size wc).alloc (Nat.le_refl _) (.cells #[] 35)).grown hgrow (by simp) (fun g hg => (HO0.out.lt g hg).1)); clear hown' hgrow; have Hbw := Lib.hid (show wc.heap.size ≤ w5.heap.size + 1 by have := HB5.out.size; omega); have Hnews2 := Lib.hid (show ∀ (j : Nat) (u : Value), (Tok.cells ⟨0, [], 0, st.line, st.col⟩)[j]? = some u → (w5.alloc (.cells #[.int .u8 0, .string ⟨#[]⟩, .int .u64 0, .int .i64 st.line, .int .i64 st.col] 35)).cell? ((⟨w5.heap.size, 0, none⟩ : Addr).add j) = some u from bk_news (bk_new_at (l := Tok.cells ⟨0, [], 0, st.line, st.col⟩) _ 35 #[.int .u8 0, .string ⟨#[]⟩, .int .u64 0, .int .i64 st.line, .int .i64 st.col] rfl rfl))) | (at_builtin; refine wpList_append_own_at _ rfl (.tmp 119) (.tmp 123) 26 rfl wc.heap.size 35 i0 _ 5 48 Tryd.underlying26 hi0 hz0 hz1 hz2 rfl (by decide) _ (0 + st.want.length) (flatT [] ++ flatT st.want) rfl (HO5.out.alloc _) ⟨w5.heap.size, 0, none⟩ 1 1 (Tok.cells ⟨0, [], 0, st.line, st.col⟩) rfl rfl Hnews2.out (cells_oneT _) (by unfold maxLen; omega) (by omega) (by simp; exact Hbw.out) ?_; intro v6 w6 hown' hgrow _ hat; have HO6 := Lib.hid hown'; have HB6 := Lib.hid ((HB5.out.alloc HB5.out.size (.cells #[.int .u8 0, .string ⟨#[]⟩, .int .u64 0, .int .i64 st.line, .int .i64 st.col] 35)).grown hgrow (by simp; exact Hbw.out) (fun g hg => (HO5.out.lt g hg).1)); clear hown' hgrow hat))
        go_meet
        case rel =>
          have h5 := HO6.out
          rw [Nat.zero_add, show flatT [] ++ flatT st.want ++ Tok.cells ⟨0, [], 0, st.line, st.col⟩ = flatT E by rw [hEw, flatT_app, flatT_one]; rfl, show st.want.length + 1 = E.length by rw [hEw]; simp] at h5
          obtain ⟨A6, c6, e6, _, hR6, _⟩ := own_slice h5
          exact ⟨A6, c6, e6, hR6, HB6.out⟩
    case rest =>
      obtain ⟨A5, c5, rfl, HR5, HB5⟩ := hcut
      have HBB := Lib.hid ((HB3.out.trans (HW.out.bel.mono HB3.out.size)).trans (HB5.out.mono (Nat.le_trans HB3.out.size HW.out.bel.size)))
      have HKb := Lib.hid ((HBd.out.kept HW.out.bel).kept HB5.out)
      have HR6 := Lib.hid HR5.out
      clear HB5 HR5 HRw HW HBd HG Henv Hr Hrg Hnw
      go_wp2_with fail
      refine (Hlex1.out _ (HE.out.below HBB.out)).mono ?_
      rintro e w5 ⟨v5, rfl, hown5, hb5⟩
      obtain ⟨A7, c7, rfl, hc7, hR7, hn7⟩ := own_slice hown5
      have hbz := (Below.refl w5.heap.size w5).alloc (Nat.le_refl _) (.cells #[.int .i64 0, .int .i64 0, .int .i64 0] 39)
      have HR7 := Lib.hid (hR7.below hbz)
      have HR8 := Lib.hid ((HR6.out.below hb5).below hbz)
      have HB8 := Lib.hid ((HBB.out.trans (hb5.mono HBB.out.size)).trans (hbz.mono (Nat.le_trans HBB.out.size hb5.size)))
      have HK8 := Lib.hid ((HKb.out.kept hb5).kept hbz)
      simp only [val_noW]
      clear hbz hR7 hown5 hb5 HR6 HBB HKb Hlex1
      go_wp2_with fail
      revert HR7 HR8 HB8 HK8
      generalize World.alloc _ _ = w6
      intro HR7 HR8 HB8 HK8
      go_loopw [23, 142] (fun _ iv wr => ∃ k : Nat, iv = .int .i64 k ∧ k ≤ E.length ∧ Hid (Below w6.heap.size w6 wr)) (fun _ iv _ => E.length - (intOf iv).toNat)
      case atStart => exact ⟨0, rfl, Nat.zero_le _, Below.refl _ _⟩
      case round =>
        obtain ⟨k, rfl, hk, HBw⟩ := hrel
        by_cases hlt : k < E.length
        · obtain ⟨x, hx⟩ : ∃ x, E[k]? = some x := ⟨_, List.getElem?_eq_getElem hlt⟩
          obtain ⟨b, o, hbo, hbl, hcell⟩ := (HR7.out.below HBw.out).pos (by omega)
          subst hbo
          obtain ⟨c0, c1, c2', c3, c4⟩ := five_cells hcell hx
          obtain ⟨b2, o2, hbo2, hbl2, hcell2⟩ := (HR8.out.below HBw.out).pos (by omega)
          subst hbo2
          obtain ⟨e0, e1, e2', e3, e4⟩ := five_cells hcell2 hx
          have hQ := fun W => neq_tok x W
          clear hx hcell hcell2
          go_wp2_with fail
          go_quiet (fail)
          go_wp2_with fail
          go_roundw
          case rel => exact ⟨k + 1, by go_num, by omega, below_drewN HBw.out _⟩
          case measure => simp [intOf]; omega
        · obtain rfl : k = E.length := by omega
          obtain ⟨j, hj⟩ : ∃ j, j = what % 11 := ⟨_, rfl⟩
          have hj11 : j < 11 := by omega
          have hji : (what : Int) % 11 = (j : Int) := by omega
          have hjt : Int.tmod (what : Int) 11 = (j : Int) := by rw [Int.tmod_eq_emod_of_nonneg (by omega)]; exact hji
          obtain ⟨p, hp⟩ : ∃ p, badP[j]? = some p := ⟨_, List.getElem?_eq_getElem (by exact hj11)⟩
          have Hp := Lib.hid (List.mem_of_getElem? hp)
          obtain ⟨q0, q1, q2⟩ := three_cells (HK8.out.kept HBw.out) hp
          have hgl : bb < wr.heap.size := (HK8.out.kept HBw.out).lt
          have o5 := (bad_plain p Hp.out).2.1
          have hst : (⟨p.t.toArray⟩ : ByteArray).size = p.t.length := by rw [Lib.size_eq]
          have hsT : (⟨st.text.toArray⟩ : ByteArray).size = st.text.length := by rw [Lib.size_eq]
          have HP := Lib.hid (tok3_new wr 30 p)
          obtain ⟨X, hX⟩ : ∃ X : Bs, X = (st.text ++ p.t) ++ [32, 122, 10] := ⟨_, rfl⟩
          have Hlex2 := Lib.hid (fun W E => lex_any ⟨X.toArray⟩ W E)
          unfold LinePost at Hlex2
          rw [show (⟨X.toArray⟩ : ByteArray).data.toList = X from rfl, show lexB X = ([], ⟨st.line, st.col, p.e⟩) by rw [hX]; exact winv_bad HI.out Hp.out (by omega)] at Hlex2
          have hsum : ((⟨st.text.toArray⟩ : ByteArray) ++ ⟨p.t.toArray⟩) ++ ⟨#[32, 122, 10]⟩ = ⟨X.toArray⟩ := by
            rw [show (⟨#[32, 122, 10]⟩ : ByteArray) = ⟨([32, 122, 10] : Bs).toArray⟩ from rfl, txt_app, txt_app, hX]
          rw [← hsum] at Hlex2
          have HB9 := Lib.hid ((HB8.out.trans (HBw.out.mono HB8.out.size)).alloc (Nat.le_trans HB8.out.size HBw.out.size) (.cells #[.string ⟨p.t.toArray⟩, .int .u8 p.k, .int .i64 p.e] 30))
          clear hj hp hsum hX HBw HR7 HR8 HB8 HK8 hlt hk
          go_wp2_with fail
          refine (Hlex2.out _ (HE.out.below HB9.out)).mono ?_
          rintro e w7 ⟨v7, rfl, hown7, hb7⟩
          obtain ⟨A9, c9, rfl, hc9, -, -⟩ := own_slice hown7
          have HB10 := Lib.hid ((HB9.out.trans (hb7.mono HB9.out.size)).alloc (Nat.le_trans HB9.out.size hb7.size) (.cells #[.int .i64 st.line, .int .i64 st.col, .int .i64 p.e] 39))
          have HP7 := Lib.hid (HP.out.kept hb7)
          have HX := Lib.hid (bk_new_at w7 39 (l := [.int .i64 st.line, .int .i64 st.col, .int .i64 p.e]) #[.int .i64 st.line, .int .i64 st.col, .int .i64 p.e] rfl rfl)
          have z2 := (HP7.out.alloc (.cells #[.int .i64 st.line, .int .i64 st.col, .int .i64 p.e] 39)).cell 2 rfl
          have zl := (HP7.out.alloc (.cells #[.int .i64 st.line, .int .i64 st.col, .int .i64 p.e] 39)).lt
          have d0 := HX.out.cell 0 rfl
          have d1 := HX.out.cell 1 rfl
          have d2 := HX.out.cell 2 rfl
          have hQ : ∀ W : World, (binOp .eql 39 (.agg #[.int .i64 st.line, .int .i64 st.col, .int .i64 p.e]) (.agg #[.int .i64 st.line, .int .i64 st.col, .int .i64 p.e])).run Tryd.prog W = .ok (.bool true) W := fun W => by have h := eql_wr ⟨st.line, st.col, p.e⟩ ⟨st.line, st.col, p.e⟩ W; rw [decide_eq_true rfl] at h; exact h
          simp only [Wr.val]
          clear hown7 hb7 HP HP7 HX Hlex2 q0 q1 q2 hgl HB9 HI
          go_wp2_with fail
          go_ret
          exact ⟨rfl, HB10.out⟩
theorem walk_lexWords (A0 : Option Addr) (len0 cap0 : Nat) (z0 : List Int) (A1 : Option Addr) (len1 cap1 : Nat) (z1 : List Int) (a2 : Int) (w : World) (h0 : IsRow .u8 w A0 len0 cap0 z0) (h1 : IsRow .u8 w A1 len1 cap1 z1) (h2 : (Lit.int .u8 a2).wf = true) (hE : Env w) :
    Calls Tryd.prog 3 #[.slice A0 len0 cap0, .slice A1 len1 cap1, .int .u8 a2] w (Yes w) := by
  obtain ⟨l, hl, hok, hr, hm⟩ := row_u8 h0
  obtain ⟨g, hg, hokg, hrg, _⟩ := row_u8 h1
  obtain ⟨l0, u0⟩ := bounds_u8 h2
  obtain ⟨a0, rfl⟩ := Int.eq_ofNat_of_zero_le l0
  exact words_any l g len0 len1 A0 A1 cap0 cap1 a0 w hl hok hr hg hokg hrg (by omega) hm hE
end Go.Proofs.YthjbenjnhdgalaaDoor
