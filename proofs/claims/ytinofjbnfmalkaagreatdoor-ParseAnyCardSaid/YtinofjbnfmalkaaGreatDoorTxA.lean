/- ParseAny: the walk. -/
import Derived.Test.YtinofjbnfmalkaaGreatDoorTxG
import Derived.Test.YtinofjbnfmalkaaGreatDoorTxWrap
namespace Go.Proofs.YtinofjbnfmalkaaGreatDoor.Tx
open Go.RowKit Go.WideElems Go.Maps Pa
def wordL : List Value := [.string ⟨#[112, 111, 108, 105, 99, 121]⟩, .string ⟨#[100, 101, 102, 97, 117, 108, 116]⟩, .string ⟨#[99, 97, 108, 108]⟩, .string ⟨#[104, 97, 110, 100, 108, 101]⟩, .string ⟨#[98, 101, 110, 101, 97, 116, 104]⟩, .string ⟨#[112, 111, 114, 116]⟩, .string ⟨#[105, 102]⟩, .string ⟨#[97, 110, 100]⟩, .string ⟨#[97, 114, 103, 48]⟩, .string ⟨#[97, 114, 103, 54]⟩, .string ⟨#[61, 61]⟩, .string ⟨#[38]⟩, .string ⟨#[49]⟩, .string ⟨#[55, 48, 48, 48, 48]⟩, .string ⟨#[47, 97]⟩, .string ⟨#[114, 101, 97, 100]⟩, .string ⟨#[114, 101, 97, 100, 44, 119, 114, 105, 116, 101]⟩, .string ⟨#[111, 112, 101, 110]⟩, .string ⟨#[97, 108, 108, 111, 119]⟩, .string ⟨#[107, 105, 108, 108]⟩, .string ⟨#[101, 114, 114, 110, 111]⟩, .string ⟨#[10]⟩, .string ⟨#[10]⟩, .string ⟨#[112]⟩]
theorem word_row : ∀ r, r < 24 → ∃ tx : ByteArray, wordL[r]? = some (.string tx) ∧ tx.size ≤ 12
  | 0, _ => ⟨⟨#[112, 111, 108, 105, 99, 121]⟩, rfl, by decide⟩
  | 1, _ => ⟨⟨#[100, 101, 102, 97, 117, 108, 116]⟩, rfl, by decide⟩
  | 2, _ => ⟨⟨#[99, 97, 108, 108]⟩, rfl, by decide⟩
  | 3, _ => ⟨⟨#[104, 97, 110, 100, 108, 101]⟩, rfl, by decide⟩
  | 4, _ => ⟨⟨#[98, 101, 110, 101, 97, 116, 104]⟩, rfl, by decide⟩
  | 5, _ => ⟨⟨#[112, 111, 114, 116]⟩, rfl, by decide⟩
  | 6, _ => ⟨⟨#[105, 102]⟩, rfl, by decide⟩
  | 7, _ => ⟨⟨#[97, 110, 100]⟩, rfl, by decide⟩
  | 8, _ => ⟨⟨#[97, 114, 103, 48]⟩, rfl, by decide⟩
  | 9, _ => ⟨⟨#[97, 114, 103, 54]⟩, rfl, by decide⟩
  | 10, _ => ⟨⟨#[61, 61]⟩, rfl, by decide⟩
  | 11, _ => ⟨⟨#[38]⟩, rfl, by decide⟩
  | 12, _ => ⟨⟨#[49]⟩, rfl, by decide⟩
  | 13, _ => ⟨⟨#[55, 48, 48, 48, 48]⟩, rfl, by decide⟩
  | 14, _ => ⟨⟨#[47, 97]⟩, rfl, by decide⟩
  | 15, _ => ⟨⟨#[114, 101, 97, 100]⟩, rfl, by decide⟩
  | 16, _ => ⟨⟨#[114, 101, 97, 100, 44, 119, 114, 105, 116, 101]⟩, rfl, by decide⟩
  | 17, _ => ⟨⟨#[111, 112, 101, 110]⟩, rfl, by decide⟩
  | 18, _ => ⟨⟨#[97, 108, 108, 111, 119]⟩, rfl, by decide⟩
  | 19, _ => ⟨⟨#[107, 105, 108, 108]⟩, rfl, by decide⟩
  | 20, _ => ⟨⟨#[101, 114, 114, 110, 111]⟩, rfl, by decide⟩
  | 21, _ => ⟨⟨#[10]⟩, rfl, by decide⟩
  | 22, _ => ⟨⟨#[10]⟩, rfl, by decide⟩
  | 23, _ => ⟨⟨#[112]⟩, rfl, by decide⟩
  | r + 24, h => absurd h (by omega)
def OneR (w : World) (pb tb m : Nat) (qa : Addr) (g : Nat) (xs : List Value) (t : Bs) (v12 v13 : Value) (W : World) : Prop :=
  ∃ (g12 g13 B : Nat) (nm : Bs) (d hd : Nat) (v : PV) (rs : List RuleV) (pt : List (Bs × Nat)) (po : List (Nat × Nat)) (l c e : Nat), v12 = .pointer (some ⟨g12, 0, none⟩) ∧ v13 = .pointer (some ⟨g13, 0, none⟩) ∧ parsB t = (⟨nm, d, rs.map RuleV.m, hd, pt, po⟩, ⟨l, c, e⟩) ∧
    Hid (Inv w W pb tb m qa g xs) ∧ Hid (Laid W w.heap.size B g12 nm d hd v rs pt po) ∧ Hid (Bk W g13 48 [.int .i64 l, .int .i64 c, .int .i64 e])
theorem one_laid {w W : World} {pb tb m g B : Nat} {qa : Addr} {xs : List Value} {t : Bs} {nm : Bs} {d hd l c e : Nat} {v : PV} {rs : List RuleV} {pt : List (Bs × Nat)} {po : List (Nat × Nat)}
    (h : Inv w W pb tb m qa g xs) (hp : PT W B (tv nm d hd v rs pt po)) (hj : rs.length = v.n1 ∧ pt.length = v.n2 ∧ po.length = v.n3 ∧ v.n2 ≤ v.c2 ∧ v.n3 ≤ v.c3) (hs : Sz ⟨nm, d, rs.map RuleV.m, hd, pt, po⟩) (hpar : parsB t = (⟨nm, d, rs.map RuleV.m, hd, pt, po⟩, ⟨l, c, e⟩)) :
    OneR w pb tb m qa g xs t (.pointer (some ⟨W.heap.size, 0, none⟩)) (.pointer (some ⟨W.heap.size + 1, 0, none⟩)) ((W.alloc (.cells #[.string ⟨nm.toArray⟩, .int .u32 d, .slice v.A1 v.n1 v.c1, .int .u16 hd, .slice v.A2 v.n2 v.c2, .slice v.A3 v.n3 v.c3] 35)).alloc (.cells #[.int .i64 l, .int .i64 c, .int .i64 e] 48)) := by
  obtain ⟨h7, h8, hb⟩ := two_newS W #[.string ⟨nm.toArray⟩, .int .u32 d, .slice v.A1 v.n1 v.c1, .int .u16 hd, .slice v.A2 v.n2 v.c2, .slice v.A3 v.n3 v.c3] #[.int .i64 l, .int .i64 c, .int .i64 e] 35 48 (la := cellsP nm d hd v) (lb := [.int .i64 l, .int .i64 c, .int .i64 e]) rfl rfl
  exact ⟨_, _, B, nm, d, hd, v, rs, pt, po, l, c, e, rfl, rfl, hpar, h.below hb, ⟨h7, PT.below hp hb, h.b.size, hj.1, hj.2.1, hj.2.2.1, hj.2.2.2.1, hj.2.2.2.2, hs⟩, h8⟩
def TwoR (w : World) (pb tb m : Nat) (qa : Addr) (g : Nat) (xs : List Value) (g12 B : Nat) (nm : Bs) (d hd : Nat) (v : PV) (rs : List RuleV) (pt : List (Bs × Nat)) (po : List (Nat × Nat)) (v14 v15 : Value) (W : World) : Prop :=
  ∃ (g14 g15 B2 : Nat) (nm2 : Bs) (d2 hd2 : Nat) (v2 : PV) (rs2 : List RuleV) (pt2 : List (Bs × Nat)) (po2 : List (Nat × Nat)), v14 = .pointer (some ⟨g14, 0, none⟩) ∧ v15 = .pointer (some ⟨g15, 0, none⟩) ∧ (⟨nm2, d2, rs2.map RuleV.m, hd2, pt2, po2⟩ : PolM) = ⟨nm, d, rs.map RuleV.m, hd, pt, po⟩ ∧
    Hid (Inv w W pb tb m qa g xs) ∧ Hid (Laid W w.heap.size B g12 nm d hd v rs pt po) ∧ Hid (Laid W w.heap.size B2 g14 nm2 d2 hd2 v2 rs2 pt2 po2) ∧ Hid (Bk W g15 48 [.int .i64 0, .int .i64 0, .int .i64 0])
theorem any_two {w W V : World} {pb tb m g B B2 k7 k8 g12 : Nat} {qa : Addr} {xs : List Value} {nm nm2 : Bs} {d hd d2 hd2 : Nat} {v v2 : PV} {rs rs2 : List RuleV} {pt pt2 : List (Bs × Nat)} {po po2 : List (Nat × Nat)} {a0 a1 a2 a3 a4 a5 b0 b1 b2 : Value}
    (h : Inv w W pb tb m qa g xs) (hp : PT W B2 (tv nm2 d2 hd2 v2 rs2 pt2 po2)) (hj : rs2.length = v2.n1 ∧ pt2.length = v2.n2 ∧ po2.length = v2.n3 ∧ v2.n2 ≤ v2.c2 ∧ v2.n3 ≤ v2.c3) (hs : Sz ⟨nm2, d2, rs2.map RuleV.m, hd2, pt2, po2⟩) (hm : (⟨nm2, d2, rs2.map RuleV.m, hd2, pt2, po2⟩ : PolM) = ⟨nm, d, rs.map RuleV.m, hd, pt, po⟩)
    (h7 : Bk W k7 35 [a0, a1, a2, a3, a4, a5]) (h8 : Bk W k8 48 [b0, b1, b2]) (g7 : w.heap.size ≤ k7) (g8 : w.heap.size ≤ k8) (hl : Laid W w.heap.size B g12 nm d hd v rs pt po) (hne : g12 ≠ k7)
    (hV : V = (((((((((W.setCell ⟨k7, 0, none⟩ (.string ⟨nm2.toArray⟩)).setCell ⟨k7, 1, none⟩ (.int .u32 d2)).setCell ⟨k7, 2, none⟩ (.slice v2.A1 v2.n1 v2.c1)).setCell ⟨k7, 3, none⟩ (.int .u16 hd2)).setCell ⟨k7, 4, none⟩ (.slice v2.A2 v2.n2 v2.c2)).setCell ⟨k7, 5, none⟩ (.slice v2.A3 v2.n3 v2.c3)).setCell ⟨k8, 0, none⟩ (.int .i64 0)).setCell ⟨k8, 1, none⟩ (.int .i64 0)).setCell ⟨k8, 2, none⟩ (.int .i64 0))) :
    TwoR w pb tb m qa g xs g12 B nm d hd v rs pt po (.pointer (some ⟨k7, 0, none⟩)) (.pointer (some ⟨k8, 0, none⟩)) V := by
  obtain ⟨i1, i2, i3, i4⟩ := laid_two h hp hj.1 hj.2.1 hj.2.2.1 hj.2.2.2.1 hj.2.2.2.2 hs h7 h8 g7 g8 hV
  exact ⟨k7, k8, B2, nm2, d2, hd2, v2, rs2, pt2, po2, rfl, rfl, hm, i1, i4 _ _ _ _ _ _ _ _ _ hl hne, i2, i3⟩
theorem six_below {W W' : World} {g : Nat} {v0 v1 v2 v3 v4 v5 : Value} (h : W.cell? ⟨g, 0, none⟩ = some v0 ∧ W.cell? ⟨g, 1, none⟩ = some v1 ∧ W.cell? ⟨g, 2, none⟩ = some v2 ∧ W.cell? ⟨g, 3, none⟩ = some v3 ∧ W.cell? ⟨g, 4, none⟩ = some v4 ∧ W.cell? ⟨g, 5, none⟩ = some v5) (hb : Below W.heap.size W W') : W'.cell? ⟨g, 0, none⟩ = some v0 ∧ W'.cell? ⟨g, 1, none⟩ = some v1 ∧ W'.cell? ⟨g, 2, none⟩ = some v2 ∧ W'.cell? ⟨g, 3, none⟩ = some v3 ∧ W'.cell? ⟨g, 4, none⟩ = some v4 ∧ W'.cell? ⟨g, 5, none⟩ = some v5 := by
  obtain ⟨s0, s1, s2, s3, s4, s5⟩ := h
  exact ⟨cell_below s0 hb, cell_below s1 hb, cell_below s2 hb, cell_below s3 hb, cell_below s4 hb, cell_below s5 hb⟩
theorem six_grow {W W' : World} {g k : Nat} {v0 v1 v2 v3 v4 v5 : Value} (h : W.cell? ⟨g, 0, none⟩ = some v0 ∧ W.cell? ⟨g, 1, none⟩ = some v1 ∧ W.cell? ⟨g, 2, none⟩ = some v2 ∧ W.cell? ⟨g, 3, none⟩ = some v3 ∧ W.cell? ⟨g, 4, none⟩ = some v4 ∧ W.cell? ⟨g, 5, none⟩ = some v5) (hg : W.grownBy W' (some k)) (hn : g ≠ k) : W'.cell? ⟨g, 0, none⟩ = some v0 ∧ W'.cell? ⟨g, 1, none⟩ = some v1 ∧ W'.cell? ⟨g, 2, none⟩ = some v2 ∧ W'.cell? ⟨g, 3, none⟩ = some v3 ∧ W'.cell? ⟨g, 4, none⟩ = some v4 ∧ W'.cell? ⟨g, 5, none⟩ = some v5 := by
  obtain ⟨s0, s1, s2, s3, s4, s5⟩ := h
  exact ⟨cell_grow s0 hg hn, cell_grow s1 hg hn, cell_grow s2 hg hn, cell_grow s3 hg hn, cell_grow s4 hg hn, cell_grow s5 hg hn⟩
theorem ok_zero : PolM.ok ⟨[], 0, ([] : List RuleV).map RuleV.m, 0, [], []⟩ := ⟨by decide, by decide, by decide, (fun r hr => by cases hr), by decide, by decide, (fun x hx => by cases hx), by decide, (fun x hx => by cases hx)⟩
theorem reads_zero (W : World) : Reads W ⟨[], 0, [], none, 0, 0, [], none, 0, [], none, 0⟩ := ⟨Rd.nil _ _ _, (fun r hr => by cases hr), Rd.nil _ _ _, Rd.nil _ _ _⟩
set_option maxHeartbeats 32000000 in
set_option maxRecDepth 100000 in
theorem walk_parseAny (s : ByteArray) (PB : Option Addr) (pn pc : Nat) (zs : List Int) (w : World) (_ : s.size ≤ maxLen) (hk : IsRow .u8 w PB pn pc zs) (hE0 : E2 w) :
    Calls Tryz.prog 4 #[.string s, .slice PB pn pc] w fun e w' => e = .returned (.bool true) ∧ Below w.heap.size w w' := by
  obtain ⟨ks, hks, hksb, hkR, hkm⟩ := row_u8 hk
  have hkm' : pn ≤ 9223372036854775807 := hkm
  have HE := Lib.hid hE0
  have HKs := Lib.hid hks
  have HKb := Lib.hid hksb
  have HKR := Lib.hid hkR
  have Ha := Lib.hid (awake_any w hE0.g)
  clear hk hks hksb hkR hkm hE0
  go_enter Tryz.func4, Tryz.ntmps4
  go_wp2_with fail
  refine Ha.out.mono ?_
  clear Ha
  rintro e w1 ⟨rfl, hb⟩
  have HB := Lib.hid hb
  clear hb
  by_cases hl : 300 < s.size
  · go_wp2_with fail
    go_ret
    exact ⟨rfl, HB.out⟩
  · go_upto_region 6 with fail
    generalize hw2 : w1.alloc _ = w2
    have hk2 : Bk w2 w1.heap.size 9 wordL := by subst hw2; exact Bk.new w1 _ _ rfl
    have hb2 : Below w1.heap.size w1 w2 := by subst hw2; exact oneb w1 _
    clear hw2
    have HB2 := Lib.hid (HB.out.trans (hb2.mono HB.out.size))
    have HW := Lib.hid hk2
    have hwl := hk2.lt
    clear hb2 hk2 HB
    generalize w1.heap.size = g5 at HW hwl ⊢
    go_wp2_with fail
    go_loopw [6, 24] (fun sv iv wr => ∃ (k : Nat) (tx : ByteArray), iv = .int .i64 k ∧ sv = .string tx ∧ k ≤ pn ∧ tx.size ≤ 780 ∧ tx.size ≤ 13 * k ∧ Hid (Below w2.heap.size w2 wr)) (fun _ iv _ => pn - (intOf iv).toNat)
    case atStart => exact ⟨0, ⟨#[]⟩, rfl, rfl, Nat.zero_le _, by decide, by decide, Below.refl _ _⟩
    case round =>
      obtain ⟨k, tx, rfl, rfl, hk, hx1, hx2, HBr⟩ := hrel
      by_cases hlt : k < pn
      · obtain ⟨x, hx⟩ : ∃ x, ks[k]? = some x := ⟨_, List.getElem?_eq_getElem (by have := HKs.out; omega)⟩
        have hx256 := HKb.out x (List.mem_of_getElem? hx)
        obtain ⟨b1, o1, rfl, hbl, hc⟩ := ((HKR.out.below HB2.out).below HBr.out).pos (by omega)
        have c0 := hc k (.int .u8 x) (u8s_at hx)
        obtain ⟨wt, hwt, hws⟩ := word_row (x % 24) (by omega)
        have d0 := (HW.out.kept HBr.out).cell _ hwt
        have hwl2 := Nat.lt_of_lt_of_le hwl HBr.out.size
        clear hc hx hwt
        by_cases h60 : k < 60
        · go_wp2_with fail
          go_roundw
          case rel => exact ⟨k + 1, _, by go_num, rfl, by omega, by simp only [ByteArray.size_append]; have e1 : (⟨#[32]⟩ : ByteArray).size = 1 := rfl; omega, by simp only [ByteArray.size_append]; have e1 : (⟨#[32]⟩ : ByteArray).size = 1 := rfl; omega, HBr⟩
          case measure => simp [intOf]; omega
        · go_wp2_with fail
          go_roundw
          case rel => exact ⟨k + 1, tx, by go_num, rfl, by omega, hx1, by omega, HBr⟩
          case measure => simp [intOf]; omega
      · have HB3 := Lib.hid (HB2.out.trans (HBr.out.mono HB2.out.size))
        have hs1 : s.size ≤ 300 := by omega
        clear hwl HW HB2 HBr hx2 HKR HKs HKb
        go_wp2_with fail
        refine (parseNew_any _).mono ?_
        rintro e w4 ⟨pb, tb, qa, rfl, hP, hbb, hpb, htb⟩
        have HPr := Lib.hid hP
        have HTl := Lib.hid (show w.heap.size ≤ tb from Nat.le_trans HB3.out.size htb)
        have HB4 := Lib.hid (HB3.out.trans (hbb.mono HB3.out.size))
        clear hP hbb hpb htb HB3
        go_upto_region 15 with fail
        generalize hw5 : w4.alloc _ = w5
        obtain ⟨xs, hxs⟩ : ∃ xs : List Value, xs = [.string s, .string tx, .string ((⟨#[112, 111, 108, 105, 99, 121, 32, 112, 10, 100, 101, 102, 97, 117, 108, 116, 32, 97, 108, 108, 111, 119, 10]⟩ : ByteArray) ++ tx), .string ((⟨#[112, 111, 108, 105, 99, 121, 32, 112, 10, 100, 101, 102, 97, 117, 108, 116, 32, 108, 111, 103, 10, 104, 97, 110, 100, 108, 101, 32, 114, 101, 97, 100, 44, 119, 114, 105, 116, 101, 44, 98, 105, 110, 100, 10]⟩ : ByteArray) ++ tx)] := ⟨_, rfl⟩
        have hk5 : Bk w5 w4.heap.size 9 xs := by subst hw5 hxs; exact Bk.new w4 _ _ rfl
        have hb5 : Below w4.heap.size w4 w5 := by subst hw5; exact oneb w4 _
        clear hw5
        have Hxs := Lib.hid (show ∀ k, k < 4 → ∃ t : ByteArray, xs[k]? = some (.string t) by
          subst hxs
          intro k hk
          rcases (by omega : k = 0 ∨ k = 1 ∨ k = 2 ∨ k = 3) with rfl | rfl | rfl | rfl <;> exact ⟨_, rfl⟩)
        have HI5 := Lib.hid (show Inv w w5 pb tb 0 qa w4.heap.size xs from ⟨HPr.out.kept hb5, HB4.out.trans (hb5.mono HB4.out.size), hk5, HTl.out⟩)
        clear hk5 hb5 hxs HB4 HPr
        generalize w4.heap.size = g50 at HI5 ⊢
        go_loopw [52] (fun iv wr => ∃ k m : Nat, iv = .int .i64 k ∧ k ≤ 4 ∧ m ≤ k * 5000000 ∧ Hid (Inv w wr pb tb m qa g50 xs)) (fun iv _ => 4 - (intOf iv).toNat)
        case atStart => exact ⟨0, 0, rfl, by omega, by omega, HI5⟩
        case round =>
          obtain ⟨k, m, rfl, hk, hm, HI⟩ := hrel
          by_cases hlt : k < 4
          · obtain ⟨t, ht⟩ := Hxs.out k hlt
            have t0 := HI.out.row.cell _ ht
            have tl := HI.out.row.lt
            have Hcall := Lib.hid (parse_any t pb tb m qa _ HI.out.pr (HE.out.kept HI.out.b).g (by omega))
            clear ht
            go_upto_region 17 with fail
            clear t0 tl
            go_cut [12, 13] from 53 to 99 (fun v12 v13 wx => OneR w pb tb (m + 2000001) qa g50 xs t.data.toList v12 v13 wx)
            case first =>
              go_wp2_with fail
              refine Hcall.out.mono ?_
              clear Hcall
              rintro e w6 ⟨T, rfl, hTm, hPT, hTS, hgr, hSz⟩
              obtain ⟨v2, hT2, j1, j2, j3, j4, j5⟩ := pt_open hPT
              obtain ⟨mnm, md, mhd, mrv, mbv, mqv, mrs, mpt, mpo⟩ := T
              obtain ⟨B1, k1, e1, B2, k2, e2, B3, k3, e3⟩ := v2
              simp only [tv, TV.mk.injEq] at hT2
              obtain ⟨-, -, -, rfl, rfl, rfl, -, -, -⟩ := hT2
              simp only [TV.m] at hTm hSz
              simp only at j1 j2 j3 j4 j5
              obtain ⟨⟨l, c, er⟩, hwr⟩ : ∃ x : Wr, x = (parsB t.data.toList).2 := ⟨_, rfl⟩
              have HPar := Lib.hid (show parsB t.data.toList = (⟨mnm, md, mrs.map RuleV.m, mhd, mpt, mpo⟩, ⟨l, c, er⟩) from Prod.ext hTm.symm hwr.symm)
              rw [← hwr]
              have HI6 := Lib.hid (HI.out.tab hTS hgr)
              have HJ := Lib.hid (And.intro j1 (And.intro j2 (And.intro j3 (And.intro j4 j5))))
              have HPT := Lib.hid hPT
              have HSz := Lib.hid hSz
              clear hTm hSz hPT hTS hgr j1 j2 j3 j4 j5 hwr HI
              simp only [TV.l, wrl]
              go_wp2_with fail
              go_meet
              case rel =>
                exact one_laid (v := ⟨B1, k1, e1, B2, k2, e2, B3, k3, e3⟩) HI6.out HPT.out HJ.out HSz.out HPar.out
            case rest =>
              obtain ⟨g12, g13, B, nm, d, hd, v, rs, pt, po, l, c, er, rfl, rfl, hpar, HI, HL1, HW1⟩ := hcut
              rename World => w7
              obtain ⟨A1, n1, c1, A2, n2, c2, A3, n3, c3⟩ := v
              have q0 := HW1.out.cell 0 rfl
              have q1 := HW1.out.cell 1 rfl
              have q2 := HW1.out.cell 2 rfl
              have ql := HW1.out.lt
              have p0 := HL1.out.bk.cell 0 rfl
              have p1 := HL1.out.bk.cell 1 rfl
              have p2 := HL1.out.bk.cell 2 rfl
              have p3 := HL1.out.bk.cell 3 rfl
              have p4 := HL1.out.bk.cell 4 rfl
              have p5 := HL1.out.bk.cell 5 rfl
              have pl := HL1.out.bk.lt
              simp only at p0 p1 p2 p3 p4 p5
              have hm7 : m + 2000001 ≤ 18000000 := by omega
              obtain ⟨m7, hm7e⟩ : ∃ z, z = m + 2000001 := ⟨_, rfl⟩
              rw [← hm7e] at HI hm7
              have hQ : ∀ W : World, (binOp .neq 48 (.agg #[.int .i64 l, .int .i64 c, .int .i64 er]) (.agg #[.int .i64 (0 : Nat), .int .i64 (0 : Nat), .int .i64 (0 : Nat)])).run Tryz.prog W = .ok (.bool (decide ((⟨l, c, er⟩ : Wr) ≠ noW))) W := fun W => by have h := neq_wr ⟨l, c, er⟩ noW W; simpa [noW] using h
              by_cases hbad : (⟨l, c, er⟩ : Wr) = noW
              · have hw0 : (parsB t.data.toList).2 = noW := by rw [hpar]; exact hbad
                have hgd := pars_good hw0
                rw [hpar] at hgd
                simp only at hgd
                have hok := sz_ok HL1.out.sz hgd
                have hback := pars_back hgd hok
                have hQ2 : ∀ W : World, (binOp .neq 48 (.agg #[.int .i64 l, .int .i64 c, .int .i64 er]) (.agg #[.int .i64 0, .int .i64 0, .int .i64 0])).run Tryz.prog W = .ok (.bool false) W := fun W => by have h := hQ W; rw [decide_eq_false (fun hn => hn hbad)] at h; exact h
                have hn1 : n1 ≤ 64 := by have h1 := hgd.lim.r; have h2 := HL1.out.l1; simp only [List.length_map] at h1; simp only at h2; omega
                have HGd := Lib.hid hgd
                have HOk := Lib.hid hok
                have HBack := Lib.hid hback
                have Hn1 := Lib.hid hn1
                clear hw0 hgd hok hback hQ hbad hpar
                go_upto_region 21 with fail
                clear q0 q1 q2 ql hQ2
                go_cut [14, 15] from 53 to 99 (fun v14 v15 wx => TwoR w pb tb (m7 + n1 + 2000001) qa g50 xs g12 B nm d hd ⟨A1, n1, c1, A2, n2, c2, A3, n3, c3⟩ rs pt po v14 v15 wx)
                case first =>
                  refine wp_region_held_drew (S := (fun w' => w'.cell? ⟨g12, 0, none⟩ = some (.string ⟨nm.toArray⟩) ∧ w'.cell? ⟨g12, 1, none⟩ = some (.int .u32 d) ∧ w'.cell? ⟨g12, 2, none⟩ = some (.slice A1 n1 c1) ∧ w'.cell? ⟨g12, 3, none⟩ = some (.int .u16 hd) ∧ w'.cell? ⟨g12, 4, none⟩ = some (.slice A2 n2 c2) ∧ w'.cell? ⟨g12, 5, none⟩ = some (.slice A3 n3 c3))) (by kernel_rfl) ?_ (fun hHeld0 => ?_)
                  · have hk0 := HL1.out.bk.drew
                    exact ⟨hk0.cell 0 rfl, hk0.cell 1 rfl, hk0.cell 2 rfl, hk0.cell 3 rfl, hk0.cell 4 rfl, hk0.cell 5 rfl⟩
                  have HI := Lib.hid (HI.out.below (Below.refl _ _).drew)
                  have HL1 := Lib.hid (HL1.out.below (Below.refl _ _).drew)
                  clear p0 p1 p2 p3 p4 p5 HW1
                  generalize w7.drew = vh0 at hHeld0 HI HL1 ⊢
                  refine wpAnyH_take (i := 0) (v := ?_) (by first | (simp only [List.getElem?_toArray, List.getElem?_cons_zero] <;> rfl) | rfl) (by kernel_rfl) (by kernel_rfl) (by kernel_rfl) (by exact fun _ _ _ h => h) (Or.inl ⟨by rfl, ?_⟩) hHeld0 ?_
                  rotate_left 1
                  · intro w hSw
                    try dsimp only at hSw
                    (go_simp) <;> (with_reducible rfl)
                  try simp only [Act.put, List.setIfInBounds_toArray, List.set_cons_zero, List.set_cons_succ]
                  refine wpAnyH_take (i := 1) (v := ?_) (by first | (simp only [List.getElem?_toArray, List.getElem?_cons_succ, List.getElem?_cons_zero] <;> rfl) | rfl) (by kernel_rfl) (by kernel_rfl) (by kernel_rfl) (by exact fun _ _ _ h => h) (Or.inl ⟨by rfl, ?_⟩) hHeld0 ?_
                  rotate_left 1
                  · intro w hSw
                    try dsimp only at hSw
                    (go_simp) <;> (with_reducible rfl)
                  try simp only [Act.put, List.setIfInBounds_toArray, List.set_cons_zero, List.set_cons_succ]
                  refine wpAnyH_take (i := 2) (v := ?_) (by first | (simp only [List.getElem?_toArray, List.getElem?_cons_succ, List.getElem?_cons_zero] <;> rfl) | rfl) (by kernel_rfl) (by kernel_rfl) (by kernel_rfl) (by exact fun _ _ _ h => h) (Or.inl ⟨by rfl, ?_⟩) hHeld0 ?_
                  rotate_left 1
                  · intro w hSw
                    try dsimp only at hSw
                    (go_simp) <;> (with_reducible rfl)
                  try simp only [Act.put, List.setIfInBounds_toArray, List.set_cons_zero, List.set_cons_succ]
                  refine wpAnyH_ready (rs := [3, 9, 10]) (by kernel_rfl) (by simp) ?_
                  refine AllReadyH.cons (by first | (simp only [List.getElem?_toArray, List.getElem?_cons_succ, List.getElem?_cons_zero] <;> rfl) | rfl) (fun K hK => ?_) ?_
                  · go_simp
                    refine (parserCalls_any pb tb m7 qa _ HI.out.pr).mono ?_
                    rintro e vh1 ⟨rfl, rfl⟩
                    refine hK.out _ _ ?_ (fun hHeld1 => ?_)
                    · exact hHeld0
                    clear hK K
                    try simp only [Act.put, List.setIfInBounds_toArray, List.set_cons_zero, List.set_cons_succ]
                    refine wpAnyH_ready (rs := [4, 9, 10]) (by kernel_rfl) (by simp) ?_
                    refine AllReadyH.cons (by first | (simp only [List.getElem?_toArray, List.getElem?_cons_succ, List.getElem?_cons_zero] <;> rfl) | rfl) (fun K hK => ?_) ?_
                    · go_simp
                      have hR := pt_reads HL1.out.ptt HL1.out.l1 HL1.out.l2 HL1.out.l3
                      refine (polText_any nm d rs A1 n1 c1 hd pt A2 n2 c2 po A3 n3 c3 tb m7 _ HL1.out.l1 HL1.out.l2 HL1.out.l3 HGd.out HOk.out hR.1 (hR.2 tb m7 HI.out.pr.ts) HI.out.pr.ts (by omega) (HE.out.kept HI.out.b)).mono ?_
                      clear hR
                      rintro e vh2 ⟨rfl, hTS, hgr⟩
                      refine hK.out _ _ ?_ (fun hHeld2 => ?_)
                      · exact six_grow hHeld1 hgr (HL1.out.bk.tyb.ne (TS.tyb HI.out.pr.ts) (by decide))
                      clear hK K
                      first | (clear y0 yz0 y1 yz1 y2 yz2 y3 yz3 y4 yz4 y5 yz5 yl) | skip
                      first | (clear z0 zz0 z1 zz1 z2 zz2 zl) | skip
                      first | (clear hne2) | skip
                      first | (clear hne) | skip
                      first | (have HN7 := Lib.hid (HN7.out.grown hgr (by intro e; exact (HN7.out.tyb.ne (TS.tyb HI.out.pr.ts) (by decide)) (Option.some.inj e)))) | skip
                      first | (have HN8 := Lib.hid (HN8.out.grown hgr (by intro e; exact (HN8.out.tyb.ne (TS.tyb HI.out.pr.ts) (by decide)) (Option.some.inj e)))) | skip
                      have HL1 := Lib.hid (HL1.out.tab HI.out.pr.ts hgr)
                      have HI := Lib.hid (HI.out.tab hTS hgr)
                      clear hTS hgr hHeld1
                      first | (have y0 := HN7.out.cell 0 rfl; have yz0 := HN7.out.fz 0; have y1 := HN7.out.cell 1 rfl; have yz1 := HN7.out.fz 1; have y2 := HN7.out.cell 2 rfl; have yz2 := HN7.out.fz 2; have y3 := HN7.out.cell 3 rfl; have yz3 := HN7.out.fz 3; have y4 := HN7.out.cell 4 rfl; have yz4 := HN7.out.fz 4; have y5 := HN7.out.cell 5 rfl; have yz5 := HN7.out.fz 5; have yl := HN7.out.lt) | skip
                      first | (have z0 := HN8.out.cell 0 rfl; have zz0 := HN8.out.fz 0; have z1 := HN8.out.cell 1 rfl; have zz1 := HN8.out.fz 1; have z2 := HN8.out.cell 2 rfl; have zz2 := HN8.out.fz 2; have zl := HN8.out.lt) | skip
                      first | (have hne := HN7.out.tyb.ne HN8.out.tyb (by decide); have hne2 : g8 ≠ g7 := Ne.symm hne) | skip
                      try simp only [Act.put, List.setIfInBounds_toArray, List.set_cons_zero, List.set_cons_succ]
                      refine wpAnyH_ready (rs := [5, 9, 10]) (by kernel_rfl) (by simp) ?_
                      refine AllReadyH.cons (by first | (simp only [List.getElem?_toArray, List.getElem?_cons_succ, List.getElem?_cons_zero] <;> rfl) | rfl) (fun K hK => ?_) ?_
                      · go_simp
                        have hp := parse_any ⟨(textP ⟨nm, d, rs.map RuleV.m, hd, pt, po⟩).toArray⟩ pb tb (m7 + n1) qa _ HI.out.pr (HE.out.kept HI.out.b).g (by have := Hn1.out; omega)
                        rw [show (⟨(textP ⟨nm, d, rs.map RuleV.m, hd, pt, po⟩).toArray⟩ : ByteArray).data.toList = textP ⟨nm, d, rs.map RuleV.m, hd, pt, po⟩ from rfl, HBack.out] at hp
                        refine hp.mono ?_
                        clear hp
                        rintro e vh3 ⟨T2, rfl, hTm, hPT, hTS, hgr, hSz⟩
                        obtain ⟨v2, hT2, j1, j2, j3, j4, j5⟩ := pt_open hPT
                        obtain ⟨mnm, md, mhd, mrv, mbv, mqv, mrs, mpt, mpo⟩ := T2
                        obtain ⟨B1, k1, e1, B2, k2, e2, B3, k3, e3⟩ := v2
                        simp only [tv, TV.mk.injEq] at hT2
                        obtain ⟨-, -, -, rfl, rfl, rfl, -, -, -⟩ := hT2
                        simp only [TV.m] at hTm hSz
                        simp only at j1 j2 j3 j4 j5
                        have HTm := Lib.hid hTm
                        have HSz2 := Lib.hid hSz
                        have HJ := Lib.hid (And.intro j1 (And.intro j2 (And.intro j3 (And.intro j4 j5))))
                        simp only [TV.l, wrl, noW]
                        refine hK.out _ _ ?_ (fun hHeld3 => ?_)
                        · exact six_grow hHeld2 hgr (HL1.out.bk.tyb.ne (TS.tyb HI.out.pr.ts) (by decide))
                        clear hK K
                        first | (clear y0 yz0 y1 yz1 y2 yz2 y3 yz3 y4 yz4 y5 yz5 yl) | skip
                        first | (clear z0 zz0 z1 zz1 z2 zz2 zl) | skip
                        first | (clear hne2) | skip
                        first | (clear hne) | skip
                        first | (have HN7 := Lib.hid (HN7.out.grown hgr (by intro e; exact (HN7.out.tyb.ne (TS.tyb HI.out.pr.ts) (by decide)) (Option.some.inj e)))) | skip
                        first | (have HN8 := Lib.hid (HN8.out.grown hgr (by intro e; exact (HN8.out.tyb.ne (TS.tyb HI.out.pr.ts) (by decide)) (Option.some.inj e)))) | skip
                        have HL1 := Lib.hid (HL1.out.tab HI.out.pr.ts hgr)
                        have HI := Lib.hid (HI.out.tab hTS hgr)
                        have HP2 := Lib.hid hPT
                        clear hPT hTS hgr hHeld2 hTm hSz j1 j2 j3 j4 j5
                        first | (have y0 := HN7.out.cell 0 rfl; have yz0 := HN7.out.fz 0; have y1 := HN7.out.cell 1 rfl; have yz1 := HN7.out.fz 1; have y2 := HN7.out.cell 2 rfl; have yz2 := HN7.out.fz 2; have y3 := HN7.out.cell 3 rfl; have yz3 := HN7.out.fz 3; have y4 := HN7.out.cell 4 rfl; have yz4 := HN7.out.fz 4; have y5 := HN7.out.cell 5 rfl; have yz5 := HN7.out.fz 5; have yl := HN7.out.lt) | skip
                        first | (have z0 := HN8.out.cell 0 rfl; have zz0 := HN8.out.fz 0; have z1 := HN8.out.cell 1 rfl; have zz1 := HN8.out.fz 1; have z2 := HN8.out.cell 2 rfl; have zz2 := HN8.out.fz 2; have zl := HN8.out.lt) | skip
                        first | (have hne := HN7.out.tyb.ne HN8.out.tyb (by decide); have hne2 : g8 ≠ g7 := Ne.symm hne) | skip
                        try simp only [Act.put, List.setIfInBounds_toArray, List.set_cons_zero, List.set_cons_succ]
                        refine wpAnyH_take (i := 6) (v := ?_) (by first | (simp only [List.getElem?_toArray, List.getElem?_cons_succ, List.getElem?_cons_zero] <;> rfl) | rfl) (by kernel_rfl) (by kernel_rfl) (by kernel_rfl) (by exact fun _ _ _ h => h) (Or.inl ⟨by rfl, ?_⟩) hHeld3 ?_
                        rotate_left 1
                        · intro w hSw
                          try dsimp only at hSw
                          (go_simp) <;> (with_reducible rfl)
                        try simp only [Act.put, List.setIfInBounds_toArray, List.set_cons_zero, List.set_cons_succ]
                        refine wpAnyH_take (i := 7) (v := ?_) (by first | (simp only [List.getElem?_toArray, List.getElem?_cons_succ, List.getElem?_cons_zero] <;> rfl) | rfl) (by kernel_rfl) (by kernel_rfl) (by kernel_rfl) (by exact fun _ _ _ h => h) (Or.inl ⟨by rfl, ?_⟩) hHeld3 ?_
                        rotate_left 1
                        · intro w hSw
                          try dsimp only at hSw
                          (go_simp) <;> (with_reducible rfl)
                        try simp only [Act.put, List.setIfInBounds_toArray, List.set_cons_zero, List.set_cons_succ]
                        refine wpAnyH_take (i := 8) (v := ?_) (by first | (simp only [List.getElem?_toArray, List.getElem?_cons_succ, List.getElem?_cons_zero] <;> rfl) | rfl) (by kernel_rfl) (by kernel_rfl) (by kernel_rfl) (by exact fun _ _ _ h => h) (Or.inl ⟨by rfl, ?_⟩) hHeld3 ?_
                        rotate_left 1
                        · intro w hSw
                          try dsimp only at hSw
                          (go_simp) <;> (with_reducible rfl)
                        try simp only [Act.put, List.setIfInBounds_toArray, List.set_cons_zero, List.set_cons_succ]
                        refine wpAnyH_ready (rs := [9, 10]) (by kernel_rfl) (by simp) ?_
                        refine AllReadyH.cons (by first | (simp only [List.getElem?_toArray, List.getElem?_cons_succ, List.getElem?_cons_zero] <;> rfl) | rfl) (fun K hK => ?_) ?_
                        · go_simp
                          refine hK.out _ _ ?_ (fun hHeld4 => ?_)
                          · exact six_below hHeld3 (oneb _ _)
                          clear hK K
                          first | (clear y0 yz0 y1 yz1 y2 yz2 y3 yz3 y4 yz4 y5 yz5 yl) | skip
                          first | (clear z0 zz0 z1 zz1 z2 zz2 zl) | skip
                          first | (clear hne2) | skip
                          first | (clear hne) | skip
                          have hbb := oneb vh3 (.cells #[.string ⟨#[]⟩, .int .u32 0, .slice none 0 0, .int .u16 0, .slice none 0 0, .slice none 0 0] 35)
                          have hN := Bk.new vh3 35 #[.string ⟨#[]⟩, .int .u32 0, .slice none 0 0, .int .u16 0, .slice none 0 0, .slice none 0 0] (l := [.string ⟨#[]⟩, .int .u32 0, .slice none 0 0, .int .u16 0, .slice none 0 0, .slice none 0 0]) rfl
                          have hge := HI.out.b.size
                          have hg1 : g12 ≠ vh3.heap.size := Nat.ne_of_lt HL1.out.bk.lt
                          generalize World.alloc vh3 _ = vh4 at hbb hN hHeld4 ⊢
                          have HI := Lib.hid (HI.out.below hbb)
                          have HL1 := Lib.hid (HL1.out.below hbb)
                          first | (have HP2 := Lib.hid (PT.below HP2.out hbb)) | skip
                          first | (have HN7 := Lib.hid (HN7.out.kept hbb)) | skip
                          first | (have HN8 := Lib.hid (HN8.out.kept hbb)) | skip
                          generalize vh3.heap.size = g7 at hN hge hg1 ⊢
                          have HN7 := Lib.hid hN
                          have HG7 := Lib.hid hge
                          have HD7 := Lib.hid hg1
                          clear hbb hN hge hg1 hHeld3
                          first | (have y0 := HN7.out.cell 0 rfl; have yz0 := HN7.out.fz 0; have y1 := HN7.out.cell 1 rfl; have yz1 := HN7.out.fz 1; have y2 := HN7.out.cell 2 rfl; have yz2 := HN7.out.fz 2; have y3 := HN7.out.cell 3 rfl; have yz3 := HN7.out.fz 3; have y4 := HN7.out.cell 4 rfl; have yz4 := HN7.out.fz 4; have y5 := HN7.out.cell 5 rfl; have yz5 := HN7.out.fz 5; have yl := HN7.out.lt) | skip
                          first | (have z0 := HN8.out.cell 0 rfl; have zz0 := HN8.out.fz 0; have z1 := HN8.out.cell 1 rfl; have zz1 := HN8.out.fz 1; have z2 := HN8.out.cell 2 rfl; have zz2 := HN8.out.fz 2; have zl := HN8.out.lt) | skip
                          first | (have hne := HN7.out.tyb.ne HN8.out.tyb (by decide); have hne2 : g8 ≠ g7 := Ne.symm hne) | skip
                          try simp only [Act.put, List.setIfInBounds_toArray, List.set_cons_zero, List.set_cons_succ]
                          refine wpAnyH_ready (rs := [10]) (by kernel_rfl) (by simp) ?_
                          refine AllReadyH.cons (by first | (simp only [List.getElem?_toArray, List.getElem?_cons_succ, List.getElem?_cons_zero] <;> rfl) | rfl) (fun K hK => ?_) ?_
                          · go_simp
                            refine hK.out _ _ ?_ (fun hHeld5 => ?_)
                            · exact six_below hHeld4 (oneb _ _)
                            clear hK K
                            first | (clear y0 yz0 y1 yz1 y2 yz2 y3 yz3 y4 yz4 y5 yz5 yl) | skip
                            first | (clear z0 zz0 z1 zz1 z2 zz2 zl) | skip
                            first | (clear hne2) | skip
                            first | (clear hne) | skip
                            have hbb := oneb vh4 (.cells #[.int .i64 0, .int .i64 0, .int .i64 0] 48)
                            have hN := Bk.new vh4 48 #[.int .i64 0, .int .i64 0, .int .i64 0] (l := [.int .i64 0, .int .i64 0, .int .i64 0]) rfl
                            have hge := HI.out.b.size
                            have hg1 : g12 ≠ vh4.heap.size := Nat.ne_of_lt HL1.out.bk.lt
                            generalize World.alloc vh4 _ = vh5 at hbb hN hHeld5 ⊢
                            have HI := Lib.hid (HI.out.below hbb)
                            have HL1 := Lib.hid (HL1.out.below hbb)
                            first | (have HP2 := Lib.hid (PT.below HP2.out hbb)) | skip
                            first | (have HN7 := Lib.hid (HN7.out.kept hbb)) | skip
                            first | (have HN8 := Lib.hid (HN8.out.kept hbb)) | skip
                            generalize vh4.heap.size = g8 at hN hge hg1 ⊢
                            have HN8 := Lib.hid hN
                            have HG8 := Lib.hid hge
                            have HD8 := Lib.hid hg1
                            clear hbb hN hge hg1 hHeld4
                            first | (have y0 := HN7.out.cell 0 rfl; have yz0 := HN7.out.fz 0; have y1 := HN7.out.cell 1 rfl; have yz1 := HN7.out.fz 1; have y2 := HN7.out.cell 2 rfl; have yz2 := HN7.out.fz 2; have y3 := HN7.out.cell 3 rfl; have yz3 := HN7.out.fz 3; have y4 := HN7.out.cell 4 rfl; have yz4 := HN7.out.fz 4; have y5 := HN7.out.cell 5 rfl; have yz5 := HN7.out.fz 5; have yl := HN7.out.lt) | skip
                            first | (have z0 := HN8.out.cell 0 rfl; have zz0 := HN8.out.fz 0; have z1 := HN8.out.cell 1 rfl; have zz1 := HN8.out.fz 1; have z2 := HN8.out.cell 2 rfl; have zz2 := HN8.out.fz 2; have zl := HN8.out.lt) | skip
                            first | (have hne := HN7.out.tyb.ne HN8.out.tyb (by decide); have hne2 : g8 ≠ g7 := Ne.symm hne) | skip
                            try simp only [Act.put, List.setIfInBounds_toArray, List.set_cons_zero, List.set_cons_succ]
                            refine wpAnyH_ready (rs := [11]) (by kernel_rfl) (by simp) ?_
                            refine AllReadyH.cons (by first | (simp only [List.getElem?_toArray, List.getElem?_cons_succ, List.getElem?_cons_zero] <;> rfl) | rfl) (fun K hK => ?_) ?_
                            · go_simp
                              refine hK.out _ _ ?_ (fun hHeld6 => ?_)
                              · exact six_grow hHeld5 (set6_grown _ _ _ _ _ _ _ _) HD7.out
                              clear hK K
                              try simp only [Act.put, List.setIfInBounds_toArray, List.set_cons_zero, List.set_cons_succ]
                              refine wpAnyH_ready (rs := [12]) (by kernel_rfl) (by simp) ?_
                              refine AllReadyH.cons (by first | (simp only [List.getElem?_toArray, List.getElem?_cons_succ, List.getElem?_cons_zero] <;> rfl) | rfl) (fun K hK => ?_) ?_
                              · go_simp
                                refine hK.out _ _ ?_ (fun hHeld7 => ?_)
                                · exact six_grow (six_grow hHeld5 (set6_grown _ _ _ _ _ _ _ _) HD7.out) (set3_grown _ _ _ _ _) HD8.out
                                clear hK K
                                try simp only [Act.put, List.setIfInBounds_toArray, List.set_cons_zero, List.set_cons_succ]
                                refine wpAnyH_done (by kernel_rfl) ?_ _
                                clear y0 yz0 y1 yz1 y2 yz2 y3 yz3 y4 yz4 y5 yz5 yl z0 zz0 z1 zz1 z2 zz2 zl
                                go_wp2_with fail
                                go_meet
                                case rel =>
                                  exact any_two (v2 := ⟨B1, k1, e1, B2, k2, e2, B3, k3, e3⟩) (nm2 := mnm) (d2 := md) (hd2 := mhd) (rs2 := mrs) (pt2 := mpt) (po2 := mpo) HI.out HP2.out HJ.out HSz2.out HTm.out HN7.out HN8.out HG7.out HG8.out HL1.out HD7.out rfl
                              exact AllReadyH.nil
                            exact AllReadyH.nil
                          exact AllReadyH.nil
                        refine AllReadyH.cons (by first | (simp only [List.getElem?_toArray, List.getElem?_cons_succ, List.getElem?_cons_zero] <;> rfl) | rfl) (fun K hK => ?_) ?_
                        · go_simp
                          refine hK.out _ _ ?_ (fun hHeld4 => ?_)
                          · exact six_below hHeld3 (oneb _ _)
                          clear hK K
                          first | (clear y0 yz0 y1 yz1 y2 yz2 y3 yz3 y4 yz4 y5 yz5 yl) | skip
                          first | (clear z0 zz0 z1 zz1 z2 zz2 zl) | skip
                          first | (clear hne2) | skip
                          first | (clear hne) | skip
                          have hbb := oneb vh3 (.cells #[.int .i64 0, .int .i64 0, .int .i64 0] 48)
                          have hN := Bk.new vh3 48 #[.int .i64 0, .int .i64 0, .int .i64 0] (l := [.int .i64 0, .int .i64 0, .int .i64 0]) rfl
                          have hge := HI.out.b.size
                          have hg1 : g12 ≠ vh3.heap.size := Nat.ne_of_lt HL1.out.bk.lt
                          generalize World.alloc vh3 _ = vh4 at hbb hN hHeld4 ⊢
                          have HI := Lib.hid (HI.out.below hbb)
                          have HL1 := Lib.hid (HL1.out.below hbb)
                          first | (have HP2 := Lib.hid (PT.below HP2.out hbb)) | skip
                          first | (have HN7 := Lib.hid (HN7.out.kept hbb)) | skip
                          first | (have HN8 := Lib.hid (HN8.out.kept hbb)) | skip
                          generalize vh3.heap.size = g8 at hN hge hg1 ⊢
                          have HN8 := Lib.hid hN
                          have HG8 := Lib.hid hge
                          have HD8 := Lib.hid hg1
                          clear hbb hN hge hg1 hHeld3
                          first | (have y0 := HN7.out.cell 0 rfl; have yz0 := HN7.out.fz 0; have y1 := HN7.out.cell 1 rfl; have yz1 := HN7.out.fz 1; have y2 := HN7.out.cell 2 rfl; have yz2 := HN7.out.fz 2; have y3 := HN7.out.cell 3 rfl; have yz3 := HN7.out.fz 3; have y4 := HN7.out.cell 4 rfl; have yz4 := HN7.out.fz 4; have y5 := HN7.out.cell 5 rfl; have yz5 := HN7.out.fz 5; have yl := HN7.out.lt) | skip
                          first | (have z0 := HN8.out.cell 0 rfl; have zz0 := HN8.out.fz 0; have z1 := HN8.out.cell 1 rfl; have zz1 := HN8.out.fz 1; have z2 := HN8.out.cell 2 rfl; have zz2 := HN8.out.fz 2; have zl := HN8.out.lt) | skip
                          first | (have hne := HN7.out.tyb.ne HN8.out.tyb (by decide); have hne2 : g8 ≠ g7 := Ne.symm hne) | skip
                          try simp only [Act.put, List.setIfInBounds_toArray, List.set_cons_zero, List.set_cons_succ]
                          refine wpAnyH_ready (rs := [9]) (by kernel_rfl) (by simp) ?_
                          refine AllReadyH.cons (by first | (simp only [List.getElem?_toArray, List.getElem?_cons_succ, List.getElem?_cons_zero] <;> rfl) | rfl) (fun K hK => ?_) ?_
                          · go_simp
                            refine hK.out _ _ ?_ (fun hHeld5 => ?_)
                            · exact six_below hHeld4 (oneb _ _)
                            clear hK K
                            first | (clear y0 yz0 y1 yz1 y2 yz2 y3 yz3 y4 yz4 y5 yz5 yl) | skip
                            first | (clear z0 zz0 z1 zz1 z2 zz2 zl) | skip
                            first | (clear hne2) | skip
                            first | (clear hne) | skip
                            have hbb := oneb vh4 (.cells #[.string ⟨#[]⟩, .int .u32 0, .slice none 0 0, .int .u16 0, .slice none 0 0, .slice none 0 0] 35)
                            have hN := Bk.new vh4 35 #[.string ⟨#[]⟩, .int .u32 0, .slice none 0 0, .int .u16 0, .slice none 0 0, .slice none 0 0] (l := [.string ⟨#[]⟩, .int .u32 0, .slice none 0 0, .int .u16 0, .slice none 0 0, .slice none 0 0]) rfl
                            have hge := HI.out.b.size
                            have hg1 : g12 ≠ vh4.heap.size := Nat.ne_of_lt HL1.out.bk.lt
                            generalize World.alloc vh4 _ = vh5 at hbb hN hHeld5 ⊢
                            have HI := Lib.hid (HI.out.below hbb)
                            have HL1 := Lib.hid (HL1.out.below hbb)
                            first | (have HP2 := Lib.hid (PT.below HP2.out hbb)) | skip
                            first | (have HN7 := Lib.hid (HN7.out.kept hbb)) | skip
                            first | (have HN8 := Lib.hid (HN8.out.kept hbb)) | skip
                            generalize vh4.heap.size = g7 at hN hge hg1 ⊢
                            have HN7 := Lib.hid hN
                            have HG7 := Lib.hid hge
                            have HD7 := Lib.hid hg1
                            clear hbb hN hge hg1 hHeld4
                            first | (have y0 := HN7.out.cell 0 rfl; have yz0 := HN7.out.fz 0; have y1 := HN7.out.cell 1 rfl; have yz1 := HN7.out.fz 1; have y2 := HN7.out.cell 2 rfl; have yz2 := HN7.out.fz 2; have y3 := HN7.out.cell 3 rfl; have yz3 := HN7.out.fz 3; have y4 := HN7.out.cell 4 rfl; have yz4 := HN7.out.fz 4; have y5 := HN7.out.cell 5 rfl; have yz5 := HN7.out.fz 5; have yl := HN7.out.lt) | skip
                            first | (have z0 := HN8.out.cell 0 rfl; have zz0 := HN8.out.fz 0; have z1 := HN8.out.cell 1 rfl; have zz1 := HN8.out.fz 1; have z2 := HN8.out.cell 2 rfl; have zz2 := HN8.out.fz 2; have zl := HN8.out.lt) | skip
                            first | (have hne := HN7.out.tyb.ne HN8.out.tyb (by decide); have hne2 : g8 ≠ g7 := Ne.symm hne) | skip
                            try simp only [Act.put, List.setIfInBounds_toArray, List.set_cons_zero, List.set_cons_succ]
                            refine wpAnyH_ready (rs := [11]) (by kernel_rfl) (by simp) ?_
                            refine AllReadyH.cons (by first | (simp only [List.getElem?_toArray, List.getElem?_cons_succ, List.getElem?_cons_zero] <;> rfl) | rfl) (fun K hK => ?_) ?_
                            · go_simp
                              refine hK.out _ _ ?_ (fun hHeld6 => ?_)
                              · exact six_grow hHeld5 (set6_grown _ _ _ _ _ _ _ _) HD7.out
                              clear hK K
                              try simp only [Act.put, List.setIfInBounds_toArray, List.set_cons_zero, List.set_cons_succ]
                              refine wpAnyH_ready (rs := [12]) (by kernel_rfl) (by simp) ?_
                              refine AllReadyH.cons (by first | (simp only [List.getElem?_toArray, List.getElem?_cons_succ, List.getElem?_cons_zero] <;> rfl) | rfl) (fun K hK => ?_) ?_
                              · go_simp
                                refine hK.out _ _ ?_ (fun hHeld7 => ?_)
                                · exact six_grow (six_grow hHeld5 (set6_grown _ _ _ _ _ _ _ _) HD7.out) (set3_grown _ _ _ _ _) HD8.out
                                clear hK K
                                try simp only [Act.put, List.setIfInBounds_toArray, List.set_cons_zero, List.set_cons_succ]
                                refine wpAnyH_done (by kernel_rfl) ?_ _
                                clear y0 yz0 y1 yz1 y2 yz2 y3 yz3 y4 yz4 y5 yz5 yl z0 zz0 z1 zz1 z2 zz2 zl
                                go_wp2_with fail
                                go_meet
                                case rel =>
                                  exact any_two (v2 := ⟨B1, k1, e1, B2, k2, e2, B3, k3, e3⟩) (nm2 := mnm) (d2 := md) (hd2 := mhd) (rs2 := mrs) (pt2 := mpt) (po2 := mpo) HI.out HP2.out HJ.out HSz2.out HTm.out HN7.out HN8.out HG7.out HG8.out HL1.out HD7.out rfl
                              exact AllReadyH.nil
                            exact AllReadyH.nil
                          exact AllReadyH.nil
                        exact AllReadyH.nil
                      refine AllReadyH.cons (by first | (simp only [List.getElem?_toArray, List.getElem?_cons_succ, List.getElem?_cons_zero] <;> rfl) | rfl) (fun K hK => ?_) ?_
                      · go_simp
                        refine hK.out _ _ ?_ (fun hHeld3 => ?_)
                        · exact six_below hHeld2 (oneb _ _)
                        clear hK K
                        first | (clear y0 yz0 y1 yz1 y2 yz2 y3 yz3 y4 yz4 y5 yz5 yl) | skip
                        first | (clear z0 zz0 z1 zz1 z2 zz2 zl) | skip
                        first | (clear hne2) | skip
                        first | (clear hne) | skip
                        have hbb := oneb vh2 (.cells #[.string ⟨#[]⟩, .int .u32 0, .slice none 0 0, .int .u16 0, .slice none 0 0, .slice none 0 0] 35)
                        have hN := Bk.new vh2 35 #[.string ⟨#[]⟩, .int .u32 0, .slice none 0 0, .int .u16 0, .slice none 0 0, .slice none 0 0] (l := [.string ⟨#[]⟩, .int .u32 0, .slice none 0 0, .int .u16 0, .slice none 0 0, .slice none 0 0]) rfl
                        have hge := HI.out.b.size
                        have hg1 : g12 ≠ vh2.heap.size := Nat.ne_of_lt HL1.out.bk.lt
                        generalize World.alloc vh2 _ = vh3 at hbb hN hHeld3 ⊢
                        have HI := Lib.hid (HI.out.below hbb)
                        have HL1 := Lib.hid (HL1.out.below hbb)
                        first | (have HP2 := Lib.hid (PT.below HP2.out hbb)) | skip
                        first | (have HN7 := Lib.hid (HN7.out.kept hbb)) | skip
                        first | (have HN8 := Lib.hid (HN8.out.kept hbb)) | skip
                        generalize vh2.heap.size = g7 at hN hge hg1 ⊢
                        have HN7 := Lib.hid hN
                        have HG7 := Lib.hid hge
                        have HD7 := Lib.hid hg1
                        clear hbb hN hge hg1 hHeld2
                        first | (have y0 := HN7.out.cell 0 rfl; have yz0 := HN7.out.fz 0; have y1 := HN7.out.cell 1 rfl; have yz1 := HN7.out.fz 1; have y2 := HN7.out.cell 2 rfl; have yz2 := HN7.out.fz 2; have y3 := HN7.out.cell 3 rfl; have yz3 := HN7.out.fz 3; have y4 := HN7.out.cell 4 rfl; have yz4 := HN7.out.fz 4; have y5 := HN7.out.cell 5 rfl; have yz5 := HN7.out.fz 5; have yl := HN7.out.lt) | skip
                        first | (have z0 := HN8.out.cell 0 rfl; have zz0 := HN8.out.fz 0; have z1 := HN8.out.cell 1 rfl; have zz1 := HN8.out.fz 1; have z2 := HN8.out.cell 2 rfl; have zz2 := HN8.out.fz 2; have zl := HN8.out.lt) | skip
                        first | (have hne := HN7.out.tyb.ne HN8.out.tyb (by decide); have hne2 : g8 ≠ g7 := Ne.symm hne) | skip
                        try simp only [Act.put, List.setIfInBounds_toArray, List.set_cons_zero, List.set_cons_succ]
                        refine wpAnyH_ready (rs := [5, 10]) (by kernel_rfl) (by simp) ?_
                        refine AllReadyH.cons (by first | (simp only [List.getElem?_toArray, List.getElem?_cons_succ, List.getElem?_cons_zero] <;> rfl) | rfl) (fun K hK => ?_) ?_
                        · go_simp
                          have hp := parse_any ⟨(textP ⟨nm, d, rs.map RuleV.m, hd, pt, po⟩).toArray⟩ pb tb (m7 + n1) qa _ HI.out.pr (HE.out.kept HI.out.b).g (by have := Hn1.out; omega)
                          rw [show (⟨(textP ⟨nm, d, rs.map RuleV.m, hd, pt, po⟩).toArray⟩ : ByteArray).data.toList = textP ⟨nm, d, rs.map RuleV.m, hd, pt, po⟩ from rfl, HBack.out] at hp
                          refine hp.mono ?_
                          clear hp
                          rintro e vh4 ⟨T2, rfl, hTm, hPT, hTS, hgr, hSz⟩
                          obtain ⟨v2, hT2, j1, j2, j3, j4, j5⟩ := pt_open hPT
                          obtain ⟨mnm, md, mhd, mrv, mbv, mqv, mrs, mpt, mpo⟩ := T2
                          obtain ⟨B1, k1, e1, B2, k2, e2, B3, k3, e3⟩ := v2
                          simp only [tv, TV.mk.injEq] at hT2
                          obtain ⟨-, -, -, rfl, rfl, rfl, -, -, -⟩ := hT2
                          simp only [TV.m] at hTm hSz
                          simp only at j1 j2 j3 j4 j5
                          have HTm := Lib.hid hTm
                          have HSz2 := Lib.hid hSz
                          have HJ := Lib.hid (And.intro j1 (And.intro j2 (And.intro j3 (And.intro j4 j5))))
                          simp only [TV.l, wrl, noW]
                          refine hK.out _ _ ?_ (fun hHeld4 => ?_)
                          · exact six_grow hHeld3 hgr (HL1.out.bk.tyb.ne (TS.tyb HI.out.pr.ts) (by decide))
                          clear hK K
                          first | (clear y0 yz0 y1 yz1 y2 yz2 y3 yz3 y4 yz4 y5 yz5 yl) | skip
                          first | (clear z0 zz0 z1 zz1 z2 zz2 zl) | skip
                          first | (clear hne2) | skip
                          first | (clear hne) | skip
                          first | (have HN7 := Lib.hid (HN7.out.grown hgr (by intro e; exact (HN7.out.tyb.ne (TS.tyb HI.out.pr.ts) (by decide)) (Option.some.inj e)))) | skip
                          first | (have HN8 := Lib.hid (HN8.out.grown hgr (by intro e; exact (HN8.out.tyb.ne (TS.tyb HI.out.pr.ts) (by decide)) (Option.some.inj e)))) | skip
                          have HL1 := Lib.hid (HL1.out.tab HI.out.pr.ts hgr)
                          have HI := Lib.hid (HI.out.tab hTS hgr)
                          have HP2 := Lib.hid hPT
                          clear hPT hTS hgr hHeld3 hTm hSz j1 j2 j3 j4 j5
                          first | (have y0 := HN7.out.cell 0 rfl; have yz0 := HN7.out.fz 0; have y1 := HN7.out.cell 1 rfl; have yz1 := HN7.out.fz 1; have y2 := HN7.out.cell 2 rfl; have yz2 := HN7.out.fz 2; have y3 := HN7.out.cell 3 rfl; have yz3 := HN7.out.fz 3; have y4 := HN7.out.cell 4 rfl; have yz4 := HN7.out.fz 4; have y5 := HN7.out.cell 5 rfl; have yz5 := HN7.out.fz 5; have yl := HN7.out.lt) | skip
                          first | (have z0 := HN8.out.cell 0 rfl; have zz0 := HN8.out.fz 0; have z1 := HN8.out.cell 1 rfl; have zz1 := HN8.out.fz 1; have z2 := HN8.out.cell 2 rfl; have zz2 := HN8.out.fz 2; have zl := HN8.out.lt) | skip
                          first | (have hne := HN7.out.tyb.ne HN8.out.tyb (by decide); have hne2 : g8 ≠ g7 := Ne.symm hne) | skip
                          try simp only [Act.put, List.setIfInBounds_toArray, List.set_cons_zero, List.set_cons_succ]
                          refine wpAnyH_take (i := 6) (v := ?_) (by first | (simp only [List.getElem?_toArray, List.getElem?_cons_succ, List.getElem?_cons_zero] <;> rfl) | rfl) (by kernel_rfl) (by kernel_rfl) (by kernel_rfl) (by exact fun _ _ _ h => h) (Or.inl ⟨by rfl, ?_⟩) hHeld4 ?_
                          rotate_left 1
                          · intro w hSw
                            try dsimp only at hSw
                            (go_simp) <;> (with_reducible rfl)
                          try simp only [Act.put, List.setIfInBounds_toArray, List.set_cons_zero, List.set_cons_succ]
                          refine wpAnyH_take (i := 7) (v := ?_) (by first | (simp only [List.getElem?_toArray, List.getElem?_cons_succ, List.getElem?_cons_zero] <;> rfl) | rfl) (by kernel_rfl) (by kernel_rfl) (by kernel_rfl) (by exact fun _ _ _ h => h) (Or.inl ⟨by rfl, ?_⟩) hHeld4 ?_
                          rotate_left 1
                          · intro w hSw
                            try dsimp only at hSw
                            (go_simp) <;> (with_reducible rfl)
                          try simp only [Act.put, List.setIfInBounds_toArray, List.set_cons_zero, List.set_cons_succ]
                          refine wpAnyH_take (i := 8) (v := ?_) (by first | (simp only [List.getElem?_toArray, List.getElem?_cons_succ, List.getElem?_cons_zero] <;> rfl) | rfl) (by kernel_rfl) (by kernel_rfl) (by kernel_rfl) (by exact fun _ _ _ h => h) (Or.inl ⟨by rfl, ?_⟩) hHeld4 ?_
                          rotate_left 1
                          · intro w hSw
                            try dsimp only at hSw
                            (go_simp) <;> (with_reducible rfl)
                          try simp only [Act.put, List.setIfInBounds_toArray, List.set_cons_zero, List.set_cons_succ]
                          refine wpAnyH_ready (rs := [10]) (by kernel_rfl) (by simp) ?_
                          refine AllReadyH.cons (by first | (simp only [List.getElem?_toArray, List.getElem?_cons_succ, List.getElem?_cons_zero] <;> rfl) | rfl) (fun K hK => ?_) ?_
                          · go_simp
                            refine hK.out _ _ ?_ (fun hHeld5 => ?_)
                            · exact six_below hHeld4 (oneb _ _)
                            clear hK K
                            first | (clear y0 yz0 y1 yz1 y2 yz2 y3 yz3 y4 yz4 y5 yz5 yl) | skip
                            first | (clear z0 zz0 z1 zz1 z2 zz2 zl) | skip
                            first | (clear hne2) | skip
                            first | (clear hne) | skip
                            have hbb := oneb vh4 (.cells #[.int .i64 0, .int .i64 0, .int .i64 0] 48)
                            have hN := Bk.new vh4 48 #[.int .i64 0, .int .i64 0, .int .i64 0] (l := [.int .i64 0, .int .i64 0, .int .i64 0]) rfl
                            have hge := HI.out.b.size
                            have hg1 : g12 ≠ vh4.heap.size := Nat.ne_of_lt HL1.out.bk.lt
                            generalize World.alloc vh4 _ = vh5 at hbb hN hHeld5 ⊢
                            have HI := Lib.hid (HI.out.below hbb)
                            have HL1 := Lib.hid (HL1.out.below hbb)
                            first | (have HP2 := Lib.hid (PT.below HP2.out hbb)) | skip
                            first | (have HN7 := Lib.hid (HN7.out.kept hbb)) | skip
                            first | (have HN8 := Lib.hid (HN8.out.kept hbb)) | skip
                            generalize vh4.heap.size = g8 at hN hge hg1 ⊢
                            have HN8 := Lib.hid hN
                            have HG8 := Lib.hid hge
                            have HD8 := Lib.hid hg1
                            clear hbb hN hge hg1 hHeld4
                            first | (have y0 := HN7.out.cell 0 rfl; have yz0 := HN7.out.fz 0; have y1 := HN7.out.cell 1 rfl; have yz1 := HN7.out.fz 1; have y2 := HN7.out.cell 2 rfl; have yz2 := HN7.out.fz 2; have y3 := HN7.out.cell 3 rfl; have yz3 := HN7.out.fz 3; have y4 := HN7.out.cell 4 rfl; have yz4 := HN7.out.fz 4; have y5 := HN7.out.cell 5 rfl; have yz5 := HN7.out.fz 5; have yl := HN7.out.lt) | skip
                            first | (have z0 := HN8.out.cell 0 rfl; have zz0 := HN8.out.fz 0; have z1 := HN8.out.cell 1 rfl; have zz1 := HN8.out.fz 1; have z2 := HN8.out.cell 2 rfl; have zz2 := HN8.out.fz 2; have zl := HN8.out.lt) | skip
                            first | (have hne := HN7.out.tyb.ne HN8.out.tyb (by decide); have hne2 : g8 ≠ g7 := Ne.symm hne) | skip
                            try simp only [Act.put, List.setIfInBounds_toArray, List.set_cons_zero, List.set_cons_succ]
                            refine wpAnyH_ready (rs := [11]) (by kernel_rfl) (by simp) ?_
                            refine AllReadyH.cons (by first | (simp only [List.getElem?_toArray, List.getElem?_cons_succ, List.getElem?_cons_zero] <;> rfl) | rfl) (fun K hK => ?_) ?_
                            · go_simp
                              refine hK.out _ _ ?_ (fun hHeld6 => ?_)
                              · exact six_grow hHeld5 (set6_grown _ _ _ _ _ _ _ _) HD7.out
                              clear hK K
                              try simp only [Act.put, List.setIfInBounds_toArray, List.set_cons_zero, List.set_cons_succ]
                              refine wpAnyH_ready (rs := [12]) (by kernel_rfl) (by simp) ?_
                              refine AllReadyH.cons (by first | (simp only [List.getElem?_toArray, List.getElem?_cons_succ, List.getElem?_cons_zero] <;> rfl) | rfl) (fun K hK => ?_) ?_
                              · go_simp
                                refine hK.out _ _ ?_ (fun hHeld7 => ?_)
                                · exact six_grow (six_grow hHeld5 (set6_grown _ _ _ _ _ _ _ _) HD7.out) (set3_grown _ _ _ _ _) HD8.out
                                clear hK K
                                try simp only [Act.put, List.setIfInBounds_toArray, List.set_cons_zero, List.set_cons_succ]
                                refine wpAnyH_done (by kernel_rfl) ?_ _
                                clear y0 yz0 y1 yz1 y2 yz2 y3 yz3 y4 yz4 y5 yz5 yl z0 zz0 z1 zz1 z2 zz2 zl
                                go_wp2_with fail
                                go_meet
                                case rel =>
                                  exact any_two (v2 := ⟨B1, k1, e1, B2, k2, e2, B3, k3, e3⟩) (nm2 := mnm) (d2 := md) (hd2 := mhd) (rs2 := mrs) (pt2 := mpt) (po2 := mpo) HI.out HP2.out HJ.out HSz2.out HTm.out HN7.out HN8.out HG7.out HG8.out HL1.out HD7.out rfl
                              exact AllReadyH.nil
                            exact AllReadyH.nil
                          exact AllReadyH.nil
                        refine AllReadyH.cons (by first | (simp only [List.getElem?_toArray, List.getElem?_cons_succ, List.getElem?_cons_zero] <;> rfl) | rfl) (fun K hK => ?_) ?_
                        · go_simp
                          refine hK.out _ _ ?_ (fun hHeld4 => ?_)
                          · exact six_below hHeld3 (oneb _ _)
                          clear hK K
                          first | (clear y0 yz0 y1 yz1 y2 yz2 y3 yz3 y4 yz4 y5 yz5 yl) | skip
                          first | (clear z0 zz0 z1 zz1 z2 zz2 zl) | skip
                          first | (clear hne2) | skip
                          first | (clear hne) | skip
                          have hbb := oneb vh3 (.cells #[.int .i64 0, .int .i64 0, .int .i64 0] 48)
                          have hN := Bk.new vh3 48 #[.int .i64 0, .int .i64 0, .int .i64 0] (l := [.int .i64 0, .int .i64 0, .int .i64 0]) rfl
                          have hge := HI.out.b.size
                          have hg1 : g12 ≠ vh3.heap.size := Nat.ne_of_lt HL1.out.bk.lt
                          generalize World.alloc vh3 _ = vh4 at hbb hN hHeld4 ⊢
                          have HI := Lib.hid (HI.out.below hbb)
                          have HL1 := Lib.hid (HL1.out.below hbb)
                          first | (have HP2 := Lib.hid (PT.below HP2.out hbb)) | skip
                          first | (have HN7 := Lib.hid (HN7.out.kept hbb)) | skip
                          first | (have HN8 := Lib.hid (HN8.out.kept hbb)) | skip
                          generalize vh3.heap.size = g8 at hN hge hg1 ⊢
                          have HN8 := Lib.hid hN
                          have HG8 := Lib.hid hge
                          have HD8 := Lib.hid hg1
                          clear hbb hN hge hg1 hHeld3
                          first | (have y0 := HN7.out.cell 0 rfl; have yz0 := HN7.out.fz 0; have y1 := HN7.out.cell 1 rfl; have yz1 := HN7.out.fz 1; have y2 := HN7.out.cell 2 rfl; have yz2 := HN7.out.fz 2; have y3 := HN7.out.cell 3 rfl; have yz3 := HN7.out.fz 3; have y4 := HN7.out.cell 4 rfl; have yz4 := HN7.out.fz 4; have y5 := HN7.out.cell 5 rfl; have yz5 := HN7.out.fz 5; have yl := HN7.out.lt) | skip
                          first | (have z0 := HN8.out.cell 0 rfl; have zz0 := HN8.out.fz 0; have z1 := HN8.out.cell 1 rfl; have zz1 := HN8.out.fz 1; have z2 := HN8.out.cell 2 rfl; have zz2 := HN8.out.fz 2; have zl := HN8.out.lt) | skip
                          first | (have hne := HN7.out.tyb.ne HN8.out.tyb (by decide); have hne2 : g8 ≠ g7 := Ne.symm hne) | skip
                          try simp only [Act.put, List.setIfInBounds_toArray, List.set_cons_zero, List.set_cons_succ]
                          refine wpAnyH_ready (rs := [5]) (by kernel_rfl) (by simp) ?_
                          refine AllReadyH.cons (by first | (simp only [List.getElem?_toArray, List.getElem?_cons_succ, List.getElem?_cons_zero] <;> rfl) | rfl) (fun K hK => ?_) ?_
                          · go_simp
                            have hp := parse_any ⟨(textP ⟨nm, d, rs.map RuleV.m, hd, pt, po⟩).toArray⟩ pb tb (m7 + n1) qa _ HI.out.pr (HE.out.kept HI.out.b).g (by have := Hn1.out; omega)
                            rw [show (⟨(textP ⟨nm, d, rs.map RuleV.m, hd, pt, po⟩).toArray⟩ : ByteArray).data.toList = textP ⟨nm, d, rs.map RuleV.m, hd, pt, po⟩ from rfl, HBack.out] at hp
                            refine hp.mono ?_
                            clear hp
                            rintro e vh5 ⟨T2, rfl, hTm, hPT, hTS, hgr, hSz⟩
                            obtain ⟨v2, hT2, j1, j2, j3, j4, j5⟩ := pt_open hPT
                            obtain ⟨mnm, md, mhd, mrv, mbv, mqv, mrs, mpt, mpo⟩ := T2
                            obtain ⟨B1, k1, e1, B2, k2, e2, B3, k3, e3⟩ := v2
                            simp only [tv, TV.mk.injEq] at hT2
                            obtain ⟨-, -, -, rfl, rfl, rfl, -, -, -⟩ := hT2
                            simp only [TV.m] at hTm hSz
                            simp only at j1 j2 j3 j4 j5
                            have HTm := Lib.hid hTm
                            have HSz2 := Lib.hid hSz
                            have HJ := Lib.hid (And.intro j1 (And.intro j2 (And.intro j3 (And.intro j4 j5))))
                            simp only [TV.l, wrl, noW]
                            refine hK.out _ _ ?_ (fun hHeld5 => ?_)
                            · exact six_grow hHeld4 hgr (HL1.out.bk.tyb.ne (TS.tyb HI.out.pr.ts) (by decide))
                            clear hK K
                            first | (clear y0 yz0 y1 yz1 y2 yz2 y3 yz3 y4 yz4 y5 yz5 yl) | skip
                            first | (clear z0 zz0 z1 zz1 z2 zz2 zl) | skip
                            first | (clear hne2) | skip
                            first | (clear hne) | skip
                            first | (have HN7 := Lib.hid (HN7.out.grown hgr (by intro e; exact (HN7.out.tyb.ne (TS.tyb HI.out.pr.ts) (by decide)) (Option.some.inj e)))) | skip
                            first | (have HN8 := Lib.hid (HN8.out.grown hgr (by intro e; exact (HN8.out.tyb.ne (TS.tyb HI.out.pr.ts) (by decide)) (Option.some.inj e)))) | skip
                            have HL1 := Lib.hid (HL1.out.tab HI.out.pr.ts hgr)
                            have HI := Lib.hid (HI.out.tab hTS hgr)
                            have HP2 := Lib.hid hPT
                            clear hPT hTS hgr hHeld4 hTm hSz j1 j2 j3 j4 j5
                            first | (have y0 := HN7.out.cell 0 rfl; have yz0 := HN7.out.fz 0; have y1 := HN7.out.cell 1 rfl; have yz1 := HN7.out.fz 1; have y2 := HN7.out.cell 2 rfl; have yz2 := HN7.out.fz 2; have y3 := HN7.out.cell 3 rfl; have yz3 := HN7.out.fz 3; have y4 := HN7.out.cell 4 rfl; have yz4 := HN7.out.fz 4; have y5 := HN7.out.cell 5 rfl; have yz5 := HN7.out.fz 5; have yl := HN7.out.lt) | skip
                            first | (have z0 := HN8.out.cell 0 rfl; have zz0 := HN8.out.fz 0; have z1 := HN8.out.cell 1 rfl; have zz1 := HN8.out.fz 1; have z2 := HN8.out.cell 2 rfl; have zz2 := HN8.out.fz 2; have zl := HN8.out.lt) | skip
                            first | (have hne := HN7.out.tyb.ne HN8.out.tyb (by decide); have hne2 : g8 ≠ g7 := Ne.symm hne) | skip
                            try simp only [Act.put, List.setIfInBounds_toArray, List.set_cons_zero, List.set_cons_succ]
                            refine wpAnyH_take (i := 6) (v := ?_) (by first | (simp only [List.getElem?_toArray, List.getElem?_cons_succ, List.getElem?_cons_zero] <;> rfl) | rfl) (by kernel_rfl) (by kernel_rfl) (by kernel_rfl) (by exact fun _ _ _ h => h) (Or.inl ⟨by rfl, ?_⟩) hHeld5 ?_
                            rotate_left 1
                            · intro w hSw
                              try dsimp only at hSw
                              (go_simp) <;> (with_reducible rfl)
                            try simp only [Act.put, List.setIfInBounds_toArray, List.set_cons_zero, List.set_cons_succ]
                            refine wpAnyH_take (i := 7) (v := ?_) (by first | (simp only [List.getElem?_toArray, List.getElem?_cons_succ, List.getElem?_cons_zero] <;> rfl) | rfl) (by kernel_rfl) (by kernel_rfl) (by kernel_rfl) (by exact fun _ _ _ h => h) (Or.inl ⟨by rfl, ?_⟩) hHeld5 ?_
                            rotate_left 1
                            · intro w hSw
                              try dsimp only at hSw
                              (go_simp) <;> (with_reducible rfl)
                            try simp only [Act.put, List.setIfInBounds_toArray, List.set_cons_zero, List.set_cons_succ]
                            refine wpAnyH_take (i := 8) (v := ?_) (by first | (simp only [List.getElem?_toArray, List.getElem?_cons_succ, List.getElem?_cons_zero] <;> rfl) | rfl) (by kernel_rfl) (by kernel_rfl) (by kernel_rfl) (by exact fun _ _ _ h => h) (Or.inl ⟨by rfl, ?_⟩) hHeld5 ?_
                            rotate_left 1
                            · intro w hSw
                              try dsimp only at hSw
                              (go_simp) <;> (with_reducible rfl)
                            try simp only [Act.put, List.setIfInBounds_toArray, List.set_cons_zero, List.set_cons_succ]
                            refine wpAnyH_ready (rs := [11]) (by kernel_rfl) (by simp) ?_
                            refine AllReadyH.cons (by first | (simp only [List.getElem?_toArray, List.getElem?_cons_succ, List.getElem?_cons_zero] <;> rfl) | rfl) (fun K hK => ?_) ?_
                            · go_simp
                              refine hK.out _ _ ?_ (fun hHeld6 => ?_)
                              · exact six_grow hHeld5 (set6_grown _ _ _ _ _ _ _ _) HD7.out
                              clear hK K
                              try simp only [Act.put, List.setIfInBounds_toArray, List.set_cons_zero, List.set_cons_succ]
                              refine wpAnyH_ready (rs := [12]) (by kernel_rfl) (by simp) ?_
                              refine AllReadyH.cons (by first | (simp only [List.getElem?_toArray, List.getElem?_cons_succ, List.getElem?_cons_zero] <;> rfl) | rfl) (fun K hK => ?_) ?_
                              · go_simp
                                refine hK.out _ _ ?_ (fun hHeld7 => ?_)
                                · exact six_grow (six_grow hHeld5 (set6_grown _ _ _ _ _ _ _ _) HD7.out) (set3_grown _ _ _ _ _) HD8.out
                                clear hK K
                                try simp only [Act.put, List.setIfInBounds_toArray, List.set_cons_zero, List.set_cons_succ]
                                refine wpAnyH_done (by kernel_rfl) ?_ _
                                clear y0 yz0 y1 yz1 y2 yz2 y3 yz3 y4 yz4 y5 yz5 yl z0 zz0 z1 zz1 z2 zz2 zl
                                go_wp2_with fail
                                go_meet
                                case rel =>
                                  exact any_two (v2 := ⟨B1, k1, e1, B2, k2, e2, B3, k3, e3⟩) (nm2 := mnm) (d2 := md) (hd2 := mhd) (rs2 := mrs) (pt2 := mpt) (po2 := mpo) HI.out HP2.out HJ.out HSz2.out HTm.out HN7.out HN8.out HG7.out HG8.out HL1.out HD7.out rfl
                              exact AllReadyH.nil
                            exact AllReadyH.nil
                          exact AllReadyH.nil
                        exact AllReadyH.nil
                      refine AllReadyH.cons (by first | (simp only [List.getElem?_toArray, List.getElem?_cons_succ, List.getElem?_cons_zero] <;> rfl) | rfl) (fun K hK => ?_) ?_
                      · go_simp
                        refine hK.out _ _ ?_ (fun hHeld3 => ?_)
                        · exact six_below hHeld2 (oneb _ _)
                        clear hK K
                        first | (clear y0 yz0 y1 yz1 y2 yz2 y3 yz3 y4 yz4 y5 yz5 yl) | skip
                        first | (clear z0 zz0 z1 zz1 z2 zz2 zl) | skip
                        first | (clear hne2) | skip
                        first | (clear hne) | skip
                        have hbb := oneb vh2 (.cells #[.int .i64 0, .int .i64 0, .int .i64 0] 48)
                        have hN := Bk.new vh2 48 #[.int .i64 0, .int .i64 0, .int .i64 0] (l := [.int .i64 0, .int .i64 0, .int .i64 0]) rfl
                        have hge := HI.out.b.size
                        have hg1 : g12 ≠ vh2.heap.size := Nat.ne_of_lt HL1.out.bk.lt
                        generalize World.alloc vh2 _ = vh3 at hbb hN hHeld3 ⊢
                        have HI := Lib.hid (HI.out.below hbb)
                        have HL1 := Lib.hid (HL1.out.below hbb)
                        first | (have HP2 := Lib.hid (PT.below HP2.out hbb)) | skip
                        first | (have HN7 := Lib.hid (HN7.out.kept hbb)) | skip
                        first | (have HN8 := Lib.hid (HN8.out.kept hbb)) | skip
                        generalize vh2.heap.size = g8 at hN hge hg1 ⊢
                        have HN8 := Lib.hid hN
                        have HG8 := Lib.hid hge
                        have HD8 := Lib.hid hg1
                        clear hbb hN hge hg1 hHeld2
                        first | (have y0 := HN7.out.cell 0 rfl; have yz0 := HN7.out.fz 0; have y1 := HN7.out.cell 1 rfl; have yz1 := HN7.out.fz 1; have y2 := HN7.out.cell 2 rfl; have yz2 := HN7.out.fz 2; have y3 := HN7.out.cell 3 rfl; have yz3 := HN7.out.fz 3; have y4 := HN7.out.cell 4 rfl; have yz4 := HN7.out.fz 4; have y5 := HN7.out.cell 5 rfl; have yz5 := HN7.out.fz 5; have yl := HN7.out.lt) | skip
                        first | (have z0 := HN8.out.cell 0 rfl; have zz0 := HN8.out.fz 0; have z1 := HN8.out.cell 1 rfl; have zz1 := HN8.out.fz 1; have z2 := HN8.out.cell 2 rfl; have zz2 := HN8.out.fz 2; have zl := HN8.out.lt) | skip
                        first | (have hne := HN7.out.tyb.ne HN8.out.tyb (by decide); have hne2 : g8 ≠ g7 := Ne.symm hne) | skip
                        try simp only [Act.put, List.setIfInBounds_toArray, List.set_cons_zero, List.set_cons_succ]
                        refine wpAnyH_ready (rs := [5, 9]) (by kernel_rfl) (by simp) ?_
                        refine AllReadyH.cons (by first | (simp only [List.getElem?_toArray, List.getElem?_cons_succ, List.getElem?_cons_zero] <;> rfl) | rfl) (fun K hK => ?_) ?_
                        · go_simp
                          have hp := parse_any ⟨(textP ⟨nm, d, rs.map RuleV.m, hd, pt, po⟩).toArray⟩ pb tb (m7 + n1) qa _ HI.out.pr (HE.out.kept HI.out.b).g (by have := Hn1.out; omega)
                          rw [show (⟨(textP ⟨nm, d, rs.map RuleV.m, hd, pt, po⟩).toArray⟩ : ByteArray).data.toList = textP ⟨nm, d, rs.map RuleV.m, hd, pt, po⟩ from rfl, HBack.out] at hp
                          refine hp.mono ?_
                          clear hp
                          rintro e vh4 ⟨T2, rfl, hTm, hPT, hTS, hgr, hSz⟩
                          obtain ⟨v2, hT2, j1, j2, j3, j4, j5⟩ := pt_open hPT
                          obtain ⟨mnm, md, mhd, mrv, mbv, mqv, mrs, mpt, mpo⟩ := T2
                          obtain ⟨B1, k1, e1, B2, k2, e2, B3, k3, e3⟩ := v2
                          simp only [tv, TV.mk.injEq] at hT2
                          obtain ⟨-, -, -, rfl, rfl, rfl, -, -, -⟩ := hT2
                          simp only [TV.m] at hTm hSz
                          simp only at j1 j2 j3 j4 j5
                          have HTm := Lib.hid hTm
                          have HSz2 := Lib.hid hSz
                          have HJ := Lib.hid (And.intro j1 (And.intro j2 (And.intro j3 (And.intro j4 j5))))
                          simp only [TV.l, wrl, noW]
                          refine hK.out _ _ ?_ (fun hHeld4 => ?_)
                          · exact six_grow hHeld3 hgr (HL1.out.bk.tyb.ne (TS.tyb HI.out.pr.ts) (by decide))
                          clear hK K
                          first | (clear y0 yz0 y1 yz1 y2 yz2 y3 yz3 y4 yz4 y5 yz5 yl) | skip
                          first | (clear z0 zz0 z1 zz1 z2 zz2 zl) | skip
                          first | (clear hne2) | skip
                          first | (clear hne) | skip
                          first | (have HN7 := Lib.hid (HN7.out.grown hgr (by intro e; exact (HN7.out.tyb.ne (TS.tyb HI.out.pr.ts) (by decide)) (Option.some.inj e)))) | skip
                          first | (have HN8 := Lib.hid (HN8.out.grown hgr (by intro e; exact (HN8.out.tyb.ne (TS.tyb HI.out.pr.ts) (by decide)) (Option.some.inj e)))) | skip
                          have HL1 := Lib.hid (HL1.out.tab HI.out.pr.ts hgr)
                          have HI := Lib.hid (HI.out.tab hTS hgr)
                          have HP2 := Lib.hid hPT
                          clear hPT hTS hgr hHeld3 hTm hSz j1 j2 j3 j4 j5
                          first | (have y0 := HN7.out.cell 0 rfl; have yz0 := HN7.out.fz 0; have y1 := HN7.out.cell 1 rfl; have yz1 := HN7.out.fz 1; have y2 := HN7.out.cell 2 rfl; have yz2 := HN7.out.fz 2; have y3 := HN7.out.cell 3 rfl; have yz3 := HN7.out.fz 3; have y4 := HN7.out.cell 4 rfl; have yz4 := HN7.out.fz 4; have y5 := HN7.out.cell 5 rfl; have yz5 := HN7.out.fz 5; have yl := HN7.out.lt) | skip
                          first | (have z0 := HN8.out.cell 0 rfl; have zz0 := HN8.out.fz 0; have z1 := HN8.out.cell 1 rfl; have zz1 := HN8.out.fz 1; have z2 := HN8.out.cell 2 rfl; have zz2 := HN8.out.fz 2; have zl := HN8.out.lt) | skip
                          first | (have hne := HN7.out.tyb.ne HN8.out.tyb (by decide); have hne2 : g8 ≠ g7 := Ne.symm hne) | skip
                          try simp only [Act.put, List.setIfInBounds_toArray, List.set_cons_zero, List.set_cons_succ]
                          refine wpAnyH_take (i := 6) (v := ?_) (by first | (simp only [List.getElem?_toArray, List.getElem?_cons_succ, List.getElem?_cons_zero] <;> rfl) | rfl) (by kernel_rfl) (by kernel_rfl) (by kernel_rfl) (by exact fun _ _ _ h => h) (Or.inl ⟨by rfl, ?_⟩) hHeld4 ?_
                          rotate_left 1
                          · intro w hSw
                            try dsimp only at hSw
                            (go_simp) <;> (with_reducible rfl)
                          try simp only [Act.put, List.setIfInBounds_toArray, List.set_cons_zero, List.set_cons_succ]
                          refine wpAnyH_take (i := 7) (v := ?_) (by first | (simp only [List.getElem?_toArray, List.getElem?_cons_succ, List.getElem?_cons_zero] <;> rfl) | rfl) (by kernel_rfl) (by kernel_rfl) (by kernel_rfl) (by exact fun _ _ _ h => h) (Or.inl ⟨by rfl, ?_⟩) hHeld4 ?_
                          rotate_left 1
                          · intro w hSw
                            try dsimp only at hSw
                            (go_simp) <;> (with_reducible rfl)
                          try simp only [Act.put, List.setIfInBounds_toArray, List.set_cons_zero, List.set_cons_succ]
                          refine wpAnyH_take (i := 8) (v := ?_) (by first | (simp only [List.getElem?_toArray, List.getElem?_cons_succ, List.getElem?_cons_zero] <;> rfl) | rfl) (by kernel_rfl) (by kernel_rfl) (by kernel_rfl) (by exact fun _ _ _ h => h) (Or.inl ⟨by rfl, ?_⟩) hHeld4 ?_
                          rotate_left 1
                          · intro w hSw
                            try dsimp only at hSw
                            (go_simp) <;> (with_reducible rfl)
                          try simp only [Act.put, List.setIfInBounds_toArray, List.set_cons_zero, List.set_cons_succ]
                          refine wpAnyH_ready (rs := [9]) (by kernel_rfl) (by simp) ?_
                          refine AllReadyH.cons (by first | (simp only [List.getElem?_toArray, List.getElem?_cons_succ, List.getElem?_cons_zero] <;> rfl) | rfl) (fun K hK => ?_) ?_
                          · go_simp
                            refine hK.out _ _ ?_ (fun hHeld5 => ?_)
                            · exact six_below hHeld4 (oneb _ _)
                            clear hK K
                            first | (clear y0 yz0 y1 yz1 y2 yz2 y3 yz3 y4 yz4 y5 yz5 yl) | skip
                            first | (clear z0 zz0 z1 zz1 z2 zz2 zl) | skip
                            first | (clear hne2) | skip
                            first | (clear hne) | skip
                            have hbb := oneb vh4 (.cells #[.string ⟨#[]⟩, .int .u32 0, .slice none 0 0, .int .u16 0, .slice none 0 0, .slice none 0 0] 35)
                            have hN := Bk.new vh4 35 #[.string ⟨#[]⟩, .int .u32 0, .slice none 0 0, .int .u16 0, .slice none 0 0, .slice none 0 0] (l := [.string ⟨#[]⟩, .int .u32 0, .slice none 0 0, .int .u16 0, .slice none 0 0, .slice none 0 0]) rfl
                            have hge := HI.out.b.size
                            have hg1 : g12 ≠ vh4.heap.size := Nat.ne_of_lt HL1.out.bk.lt
                            generalize World.alloc vh4 _ = vh5 at hbb hN hHeld5 ⊢
                            have HI := Lib.hid (HI.out.below hbb)
                            have HL1 := Lib.hid (HL1.out.below hbb)
                            first | (have HP2 := Lib.hid (PT.below HP2.out hbb)) | skip
                            first | (have HN7 := Lib.hid (HN7.out.kept hbb)) | skip
                            first | (have HN8 := Lib.hid (HN8.out.kept hbb)) | skip
                            generalize vh4.heap.size = g7 at hN hge hg1 ⊢
                            have HN7 := Lib.hid hN
                            have HG7 := Lib.hid hge
                            have HD7 := Lib.hid hg1
                            clear hbb hN hge hg1 hHeld4
                            first | (have y0 := HN7.out.cell 0 rfl; have yz0 := HN7.out.fz 0; have y1 := HN7.out.cell 1 rfl; have yz1 := HN7.out.fz 1; have y2 := HN7.out.cell 2 rfl; have yz2 := HN7.out.fz 2; have y3 := HN7.out.cell 3 rfl; have yz3 := HN7.out.fz 3; have y4 := HN7.out.cell 4 rfl; have yz4 := HN7.out.fz 4; have y5 := HN7.out.cell 5 rfl; have yz5 := HN7.out.fz 5; have yl := HN7.out.lt) | skip
                            first | (have z0 := HN8.out.cell 0 rfl; have zz0 := HN8.out.fz 0; have z1 := HN8.out.cell 1 rfl; have zz1 := HN8.out.fz 1; have z2 := HN8.out.cell 2 rfl; have zz2 := HN8.out.fz 2; have zl := HN8.out.lt) | skip
                            first | (have hne := HN7.out.tyb.ne HN8.out.tyb (by decide); have hne2 : g8 ≠ g7 := Ne.symm hne) | skip
                            try simp only [Act.put, List.setIfInBounds_toArray, List.set_cons_zero, List.set_cons_succ]
                            refine wpAnyH_ready (rs := [11]) (by kernel_rfl) (by simp) ?_
                            refine AllReadyH.cons (by first | (simp only [List.getElem?_toArray, List.getElem?_cons_succ, List.getElem?_cons_zero] <;> rfl) | rfl) (fun K hK => ?_) ?_
                            · go_simp
                              refine hK.out _ _ ?_ (fun hHeld6 => ?_)
                              · exact six_grow hHeld5 (set6_grown _ _ _ _ _ _ _ _) HD7.out
                              clear hK K
                              try simp only [Act.put, List.setIfInBounds_toArray, List.set_cons_zero, List.set_cons_succ]
                              refine wpAnyH_ready (rs := [12]) (by kernel_rfl) (by simp) ?_
                              refine AllReadyH.cons (by first | (simp only [List.getElem?_toArray, List.getElem?_cons_succ, List.getElem?_cons_zero] <;> rfl) | rfl) (fun K hK => ?_) ?_
                              · go_simp
                                refine hK.out _ _ ?_ (fun hHeld7 => ?_)
                                · exact six_grow (six_grow hHeld5 (set6_grown _ _ _ _ _ _ _ _) HD7.out) (set3_grown _ _ _ _ _) HD8.out
                                clear hK K
                                try simp only [Act.put, List.setIfInBounds_toArray, List.set_cons_zero, List.set_cons_succ]
                                refine wpAnyH_done (by kernel_rfl) ?_ _
                                clear y0 yz0 y1 yz1 y2 yz2 y3 yz3 y4 yz4 y5 yz5 yl z0 zz0 z1 zz1 z2 zz2 zl
                                go_wp2_with fail
                                go_meet
                                case rel =>
                                  exact any_two (v2 := ⟨B1, k1, e1, B2, k2, e2, B3, k3, e3⟩) (nm2 := mnm) (d2 := md) (hd2 := mhd) (rs2 := mrs) (pt2 := mpt) (po2 := mpo) HI.out HP2.out HJ.out HSz2.out HTm.out HN7.out HN8.out HG7.out HG8.out HL1.out HD7.out rfl
                              exact AllReadyH.nil
                            exact AllReadyH.nil
                          exact AllReadyH.nil
                        refine AllReadyH.cons (by first | (simp only [List.getElem?_toArray, List.getElem?_cons_succ, List.getElem?_cons_zero] <;> rfl) | rfl) (fun K hK => ?_) ?_
                        · go_simp
                          refine hK.out _ _ ?_ (fun hHeld4 => ?_)
                          · exact six_below hHeld3 (oneb _ _)
                          clear hK K
                          first | (clear y0 yz0 y1 yz1 y2 yz2 y3 yz3 y4 yz4 y5 yz5 yl) | skip
                          first | (clear z0 zz0 z1 zz1 z2 zz2 zl) | skip
                          first | (clear hne2) | skip
                          first | (clear hne) | skip
                          have hbb := oneb vh3 (.cells #[.string ⟨#[]⟩, .int .u32 0, .slice none 0 0, .int .u16 0, .slice none 0 0, .slice none 0 0] 35)
                          have hN := Bk.new vh3 35 #[.string ⟨#[]⟩, .int .u32 0, .slice none 0 0, .int .u16 0, .slice none 0 0, .slice none 0 0] (l := [.string ⟨#[]⟩, .int .u32 0, .slice none 0 0, .int .u16 0, .slice none 0 0, .slice none 0 0]) rfl
                          have hge := HI.out.b.size
                          have hg1 : g12 ≠ vh3.heap.size := Nat.ne_of_lt HL1.out.bk.lt
                          generalize World.alloc vh3 _ = vh4 at hbb hN hHeld4 ⊢
                          have HI := Lib.hid (HI.out.below hbb)
                          have HL1 := Lib.hid (HL1.out.below hbb)
                          first | (have HP2 := Lib.hid (PT.below HP2.out hbb)) | skip
                          first | (have HN7 := Lib.hid (HN7.out.kept hbb)) | skip
                          first | (have HN8 := Lib.hid (HN8.out.kept hbb)) | skip
                          generalize vh3.heap.size = g7 at hN hge hg1 ⊢
                          have HN7 := Lib.hid hN
                          have HG7 := Lib.hid hge
                          have HD7 := Lib.hid hg1
                          clear hbb hN hge hg1 hHeld3
                          first | (have y0 := HN7.out.cell 0 rfl; have yz0 := HN7.out.fz 0; have y1 := HN7.out.cell 1 rfl; have yz1 := HN7.out.fz 1; have y2 := HN7.out.cell 2 rfl; have yz2 := HN7.out.fz 2; have y3 := HN7.out.cell 3 rfl; have yz3 := HN7.out.fz 3; have y4 := HN7.out.cell 4 rfl; have yz4 := HN7.out.fz 4; have y5 := HN7.out.cell 5 rfl; have yz5 := HN7.out.fz 5; have yl := HN7.out.lt) | skip
                          first | (have z0 := HN8.out.cell 0 rfl; have zz0 := HN8.out.fz 0; have z1 := HN8.out.cell 1 rfl; have zz1 := HN8.out.fz 1; have z2 := HN8.out.cell 2 rfl; have zz2 := HN8.out.fz 2; have zl := HN8.out.lt) | skip
                          first | (have hne := HN7.out.tyb.ne HN8.out.tyb (by decide); have hne2 : g8 ≠ g7 := Ne.symm hne) | skip
                          try simp only [Act.put, List.setIfInBounds_toArray, List.set_cons_zero, List.set_cons_succ]
                          refine wpAnyH_ready (rs := [5]) (by kernel_rfl) (by simp) ?_
                          refine AllReadyH.cons (by first | (simp only [List.getElem?_toArray, List.getElem?_cons_succ, List.getElem?_cons_zero] <;> rfl) | rfl) (fun K hK => ?_) ?_
                          · go_simp
                            have hp := parse_any ⟨(textP ⟨nm, d, rs.map RuleV.m, hd, pt, po⟩).toArray⟩ pb tb (m7 + n1) qa _ HI.out.pr (HE.out.kept HI.out.b).g (by have := Hn1.out; omega)
                            rw [show (⟨(textP ⟨nm, d, rs.map RuleV.m, hd, pt, po⟩).toArray⟩ : ByteArray).data.toList = textP ⟨nm, d, rs.map RuleV.m, hd, pt, po⟩ from rfl, HBack.out] at hp
                            refine hp.mono ?_
                            clear hp
                            rintro e vh5 ⟨T2, rfl, hTm, hPT, hTS, hgr, hSz⟩
                            obtain ⟨v2, hT2, j1, j2, j3, j4, j5⟩ := pt_open hPT
                            obtain ⟨mnm, md, mhd, mrv, mbv, mqv, mrs, mpt, mpo⟩ := T2
                            obtain ⟨B1, k1, e1, B2, k2, e2, B3, k3, e3⟩ := v2
                            simp only [tv, TV.mk.injEq] at hT2
                            obtain ⟨-, -, -, rfl, rfl, rfl, -, -, -⟩ := hT2
                            simp only [TV.m] at hTm hSz
                            simp only at j1 j2 j3 j4 j5
                            have HTm := Lib.hid hTm
                            have HSz2 := Lib.hid hSz
                            have HJ := Lib.hid (And.intro j1 (And.intro j2 (And.intro j3 (And.intro j4 j5))))
                            simp only [TV.l, wrl, noW]
                            refine hK.out _ _ ?_ (fun hHeld5 => ?_)
                            · exact six_grow hHeld4 hgr (HL1.out.bk.tyb.ne (TS.tyb HI.out.pr.ts) (by decide))
                            clear hK K
                            first | (clear y0 yz0 y1 yz1 y2 yz2 y3 yz3 y4 yz4 y5 yz5 yl) | skip
                            first | (clear z0 zz0 z1 zz1 z2 zz2 zl) | skip
                            first | (clear hne2) | skip
                            first | (clear hne) | skip
                            first | (have HN7 := Lib.hid (HN7.out.grown hgr (by intro e; exact (HN7.out.tyb.ne (TS.tyb HI.out.pr.ts) (by decide)) (Option.some.inj e)))) | skip
                            first | (have HN8 := Lib.hid (HN8.out.grown hgr (by intro e; exact (HN8.out.tyb.ne (TS.tyb HI.out.pr.ts) (by decide)) (Option.some.inj e)))) | skip
                            have HL1 := Lib.hid (HL1.out.tab HI.out.pr.ts hgr)
                            have HI := Lib.hid (HI.out.tab hTS hgr)
                            have HP2 := Lib.hid hPT
                            clear hPT hTS hgr hHeld4 hTm hSz j1 j2 j3 j4 j5
                            first | (have y0 := HN7.out.cell 0 rfl; have yz0 := HN7.out.fz 0; have y1 := HN7.out.cell 1 rfl; have yz1 := HN7.out.fz 1; have y2 := HN7.out.cell 2 rfl; have yz2 := HN7.out.fz 2; have y3 := HN7.out.cell 3 rfl; have yz3 := HN7.out.fz 3; have y4 := HN7.out.cell 4 rfl; have yz4 := HN7.out.fz 4; have y5 := HN7.out.cell 5 rfl; have yz5 := HN7.out.fz 5; have yl := HN7.out.lt) | skip
                            first | (have z0 := HN8.out.cell 0 rfl; have zz0 := HN8.out.fz 0; have z1 := HN8.out.cell 1 rfl; have zz1 := HN8.out.fz 1; have z2 := HN8.out.cell 2 rfl; have zz2 := HN8.out.fz 2; have zl := HN8.out.lt) | skip
                            first | (have hne := HN7.out.tyb.ne HN8.out.tyb (by decide); have hne2 : g8 ≠ g7 := Ne.symm hne) | skip
                            try simp only [Act.put, List.setIfInBounds_toArray, List.set_cons_zero, List.set_cons_succ]
                            refine wpAnyH_take (i := 6) (v := ?_) (by first | (simp only [List.getElem?_toArray, List.getElem?_cons_succ, List.getElem?_cons_zero] <;> rfl) | rfl) (by kernel_rfl) (by kernel_rfl) (by kernel_rfl) (by exact fun _ _ _ h => h) (Or.inl ⟨by rfl, ?_⟩) hHeld5 ?_
                            rotate_left 1
                            · intro w hSw
                              try dsimp only at hSw
                              (go_simp) <;> (with_reducible rfl)
                            try simp only [Act.put, List.setIfInBounds_toArray, List.set_cons_zero, List.set_cons_succ]
                            refine wpAnyH_take (i := 7) (v := ?_) (by first | (simp only [List.getElem?_toArray, List.getElem?_cons_succ, List.getElem?_cons_zero] <;> rfl) | rfl) (by kernel_rfl) (by kernel_rfl) (by kernel_rfl) (by exact fun _ _ _ h => h) (Or.inl ⟨by rfl, ?_⟩) hHeld5 ?_
                            rotate_left 1
                            · intro w hSw
                              try dsimp only at hSw
                              (go_simp) <;> (with_reducible rfl)
                            try simp only [Act.put, List.setIfInBounds_toArray, List.set_cons_zero, List.set_cons_succ]
                            refine wpAnyH_take (i := 8) (v := ?_) (by first | (simp only [List.getElem?_toArray, List.getElem?_cons_succ, List.getElem?_cons_zero] <;> rfl) | rfl) (by kernel_rfl) (by kernel_rfl) (by kernel_rfl) (by exact fun _ _ _ h => h) (Or.inl ⟨by rfl, ?_⟩) hHeld5 ?_
                            rotate_left 1
                            · intro w hSw
                              try dsimp only at hSw
                              (go_simp) <;> (with_reducible rfl)
                            try simp only [Act.put, List.setIfInBounds_toArray, List.set_cons_zero, List.set_cons_succ]
                            refine wpAnyH_ready (rs := [11]) (by kernel_rfl) (by simp) ?_
                            refine AllReadyH.cons (by first | (simp only [List.getElem?_toArray, List.getElem?_cons_succ, List.getElem?_cons_zero] <;> rfl) | rfl) (fun K hK => ?_) ?_
                            · go_simp
                              refine hK.out _ _ ?_ (fun hHeld6 => ?_)
                              · exact six_grow hHeld5 (set6_grown _ _ _ _ _ _ _ _) HD7.out
                              clear hK K
                              try simp only [Act.put, List.setIfInBounds_toArray, List.set_cons_zero, List.set_cons_succ]
                              refine wpAnyH_ready (rs := [12]) (by kernel_rfl) (by simp) ?_
                              refine AllReadyH.cons (by first | (simp only [List.getElem?_toArray, List.getElem?_cons_succ, List.getElem?_cons_zero] <;> rfl) | rfl) (fun K hK => ?_) ?_
                              · go_simp
                                refine hK.out _ _ ?_ (fun hHeld7 => ?_)
                                · exact six_grow (six_grow hHeld5 (set6_grown _ _ _ _ _ _ _ _) HD7.out) (set3_grown _ _ _ _ _) HD8.out
                                clear hK K
                                try simp only [Act.put, List.setIfInBounds_toArray, List.set_cons_zero, List.set_cons_succ]
                                refine wpAnyH_done (by kernel_rfl) ?_ _
                                clear y0 yz0 y1 yz1 y2 yz2 y3 yz3 y4 yz4 y5 yz5 yl z0 zz0 z1 zz1 z2 zz2 zl
                                go_wp2_with fail
                                go_meet
                                case rel =>
                                  exact any_two (v2 := ⟨B1, k1, e1, B2, k2, e2, B3, k3, e3⟩) (nm2 := mnm) (d2 := md) (hd2 := mhd) (rs2 := mrs) (pt2 := mpt) (po2 := mpo) HI.out HP2.out HJ.out HSz2.out HTm.out HN7.out HN8.out HG7.out HG8.out HL1.out HD7.out rfl
                              exact AllReadyH.nil
                            exact AllReadyH.nil
                          exact AllReadyH.nil
                        exact AllReadyH.nil
                      exact AllReadyH.nil
                    refine AllReadyH.cons (by first | (simp only [List.getElem?_toArray, List.getElem?_cons_succ, List.getElem?_cons_zero] <;> rfl) | rfl) (fun K hK => ?_) ?_
                    · go_simp
                      refine hK.out _ _ ?_ (fun hHeld2 => ?_)
                      · exact six_below hHeld1 (oneb _ _)
                      clear hK K
                      first | (clear y0 yz0 y1 yz1 y2 yz2 y3 yz3 y4 yz4 y5 yz5 yl) | skip
                      first | (clear z0 zz0 z1 zz1 z2 zz2 zl) | skip
                      first | (clear hne2) | skip
                      first | (clear hne) | skip
                      have hbb := oneb vh1 (.cells #[.string ⟨#[]⟩, .int .u32 0, .slice none 0 0, .int .u16 0, .slice none 0 0, .slice none 0 0] 35)
                      have hN := Bk.new vh1 35 #[.string ⟨#[]⟩, .int .u32 0, .slice none 0 0, .int .u16 0, .slice none 0 0, .slice none 0 0] (l := [.string ⟨#[]⟩, .int .u32 0, .slice none 0 0, .int .u16 0, .slice none 0 0, .slice none 0 0]) rfl
                      have hge := HI.out.b.size
                      have hg1 : g12 ≠ vh1.heap.size := Nat.ne_of_lt HL1.out.bk.lt
                      generalize World.alloc vh1 _ = vh2 at hbb hN hHeld2 ⊢
                      have HI := Lib.hid (HI.out.below hbb)
                      have HL1 := Lib.hid (HL1.out.below hbb)
                      first | (have HP2 := Lib.hid (PT.below HP2.out hbb)) | skip
                      first | (have HN7 := Lib.hid (HN7.out.kept hbb)) | skip
                      first | (have HN8 := Lib.hid (HN8.out.kept hbb)) | skip
                      generalize vh1.heap.size = g7 at hN hge hg1 ⊢
                      have HN7 := Lib.hid hN
                      have HG7 := Lib.hid hge
                      have HD7 := Lib.hid hg1
                      clear hbb hN hge hg1 hHeld1
                      first | (have y0 := HN7.out.cell 0 rfl; have yz0 := HN7.out.fz 0; have y1 := HN7.out.cell 1 rfl; have yz1 := HN7.out.fz 1; have y2 := HN7.out.cell 2 rfl; have yz2 := HN7.out.fz 2; have y3 := HN7.out.cell 3 rfl; have yz3 := HN7.out.fz 3; have y4 := HN7.out.cell 4 rfl; have yz4 := HN7.out.fz 4; have y5 := HN7.out.cell 5 rfl; have yz5 := HN7.out.fz 5; have yl := HN7.out.lt) | skip
                      first | (have z0 := HN8.out.cell 0 rfl; have zz0 := HN8.out.fz 0; have z1 := HN8.out.cell 1 rfl; have zz1 := HN8.out.fz 1; have z2 := HN8.out.cell 2 rfl; have zz2 := HN8.out.fz 2; have zl := HN8.out.lt) | skip
                      first | (have hne := HN7.out.tyb.ne HN8.out.tyb (by decide); have hne2 : g8 ≠ g7 := Ne.symm hne) | skip
                      try simp only [Act.put, List.setIfInBounds_toArray, List.set_cons_zero, List.set_cons_succ]
                      refine wpAnyH_ready (rs := [4, 10]) (by kernel_rfl) (by simp) ?_
                      refine AllReadyH.cons (by first | (simp only [List.getElem?_toArray, List.getElem?_cons_succ, List.getElem?_cons_zero] <;> rfl) | rfl) (fun K hK => ?_) ?_
                      · go_simp
                        have hR := pt_reads HL1.out.ptt HL1.out.l1 HL1.out.l2 HL1.out.l3
                        refine (polText_any nm d rs A1 n1 c1 hd pt A2 n2 c2 po A3 n3 c3 tb m7 _ HL1.out.l1 HL1.out.l2 HL1.out.l3 HGd.out HOk.out hR.1 (hR.2 tb m7 HI.out.pr.ts) HI.out.pr.ts (by omega) (HE.out.kept HI.out.b)).mono ?_
                        clear hR
                        rintro e vh3 ⟨rfl, hTS, hgr⟩
                        refine hK.out _ _ ?_ (fun hHeld3 => ?_)
                        · exact six_grow hHeld2 hgr (HL1.out.bk.tyb.ne (TS.tyb HI.out.pr.ts) (by decide))
                        clear hK K
                        first | (clear y0 yz0 y1 yz1 y2 yz2 y3 yz3 y4 yz4 y5 yz5 yl) | skip
                        first | (clear z0 zz0 z1 zz1 z2 zz2 zl) | skip
                        first | (clear hne2) | skip
                        first | (clear hne) | skip
                        first | (have HN7 := Lib.hid (HN7.out.grown hgr (by intro e; exact (HN7.out.tyb.ne (TS.tyb HI.out.pr.ts) (by decide)) (Option.some.inj e)))) | skip
                        first | (have HN8 := Lib.hid (HN8.out.grown hgr (by intro e; exact (HN8.out.tyb.ne (TS.tyb HI.out.pr.ts) (by decide)) (Option.some.inj e)))) | skip
                        have HL1 := Lib.hid (HL1.out.tab HI.out.pr.ts hgr)
                        have HI := Lib.hid (HI.out.tab hTS hgr)
                        clear hTS hgr hHeld2
                        first | (have y0 := HN7.out.cell 0 rfl; have yz0 := HN7.out.fz 0; have y1 := HN7.out.cell 1 rfl; have yz1 := HN7.out.fz 1; have y2 := HN7.out.cell 2 rfl; have yz2 := HN7.out.fz 2; have y3 := HN7.out.cell 3 rfl; have yz3 := HN7.out.fz 3; have y4 := HN7.out.cell 4 rfl; have yz4 := HN7.out.fz 4; have y5 := HN7.out.cell 5 rfl; have yz5 := HN7.out.fz 5; have yl := HN7.out.lt) | skip
                        first | (have z0 := HN8.out.cell 0 rfl; have zz0 := HN8.out.fz 0; have z1 := HN8.out.cell 1 rfl; have zz1 := HN8.out.fz 1; have z2 := HN8.out.cell 2 rfl; have zz2 := HN8.out.fz 2; have zl := HN8.out.lt) | skip
                        first | (have hne := HN7.out.tyb.ne HN8.out.tyb (by decide); have hne2 : g8 ≠ g7 := Ne.symm hne) | skip
                        try simp only [Act.put, List.setIfInBounds_toArray, List.set_cons_zero, List.set_cons_succ]
                        refine wpAnyH_ready (rs := [5, 10]) (by kernel_rfl) (by simp) ?_
                        refine AllReadyH.cons (by first | (simp only [List.getElem?_toArray, List.getElem?_cons_succ, List.getElem?_cons_zero] <;> rfl) | rfl) (fun K hK => ?_) ?_
                        · go_simp
                          have hp := parse_any ⟨(textP ⟨nm, d, rs.map RuleV.m, hd, pt, po⟩).toArray⟩ pb tb (m7 + n1) qa _ HI.out.pr (HE.out.kept HI.out.b).g (by have := Hn1.out; omega)
                          rw [show (⟨(textP ⟨nm, d, rs.map RuleV.m, hd, pt, po⟩).toArray⟩ : ByteArray).data.toList = textP ⟨nm, d, rs.map RuleV.m, hd, pt, po⟩ from rfl, HBack.out] at hp
                          refine hp.mono ?_
                          clear hp
                          rintro e vh4 ⟨T2, rfl, hTm, hPT, hTS, hgr, hSz⟩
                          obtain ⟨v2, hT2, j1, j2, j3, j4, j5⟩ := pt_open hPT
                          obtain ⟨mnm, md, mhd, mrv, mbv, mqv, mrs, mpt, mpo⟩ := T2
                          obtain ⟨B1, k1, e1, B2, k2, e2, B3, k3, e3⟩ := v2
                          simp only [tv, TV.mk.injEq] at hT2
                          obtain ⟨-, -, -, rfl, rfl, rfl, -, -, -⟩ := hT2
                          simp only [TV.m] at hTm hSz
                          simp only at j1 j2 j3 j4 j5
                          have HTm := Lib.hid hTm
                          have HSz2 := Lib.hid hSz
                          have HJ := Lib.hid (And.intro j1 (And.intro j2 (And.intro j3 (And.intro j4 j5))))
                          simp only [TV.l, wrl, noW]
                          refine hK.out _ _ ?_ (fun hHeld4 => ?_)
                          · exact six_grow hHeld3 hgr (HL1.out.bk.tyb.ne (TS.tyb HI.out.pr.ts) (by decide))
                          clear hK K
                          first | (clear y0 yz0 y1 yz1 y2 yz2 y3 yz3 y4 yz4 y5 yz5 yl) | skip
                          first | (clear z0 zz0 z1 zz1 z2 zz2 zl) | skip
                          first | (clear hne2) | skip
                          first | (clear hne) | skip
                          first | (have HN7 := Lib.hid (HN7.out.grown hgr (by intro e; exact (HN7.out.tyb.ne (TS.tyb HI.out.pr.ts) (by decide)) (Option.some.inj e)))) | skip
                          first | (have HN8 := Lib.hid (HN8.out.grown hgr (by intro e; exact (HN8.out.tyb.ne (TS.tyb HI.out.pr.ts) (by decide)) (Option.some.inj e)))) | skip
                          have HL1 := Lib.hid (HL1.out.tab HI.out.pr.ts hgr)
                          have HI := Lib.hid (HI.out.tab hTS hgr)
                          have HP2 := Lib.hid hPT
                          clear hPT hTS hgr hHeld3 hTm hSz j1 j2 j3 j4 j5
                          first | (have y0 := HN7.out.cell 0 rfl; have yz0 := HN7.out.fz 0; have y1 := HN7.out.cell 1 rfl; have yz1 := HN7.out.fz 1; have y2 := HN7.out.cell 2 rfl; have yz2 := HN7.out.fz 2; have y3 := HN7.out.cell 3 rfl; have yz3 := HN7.out.fz 3; have y4 := HN7.out.cell 4 rfl; have yz4 := HN7.out.fz 4; have y5 := HN7.out.cell 5 rfl; have yz5 := HN7.out.fz 5; have yl := HN7.out.lt) | skip
                          first | (have z0 := HN8.out.cell 0 rfl; have zz0 := HN8.out.fz 0; have z1 := HN8.out.cell 1 rfl; have zz1 := HN8.out.fz 1; have z2 := HN8.out.cell 2 rfl; have zz2 := HN8.out.fz 2; have zl := HN8.out.lt) | skip
                          first | (have hne := HN7.out.tyb.ne HN8.out.tyb (by decide); have hne2 : g8 ≠ g7 := Ne.symm hne) | skip
                          try simp only [Act.put, List.setIfInBounds_toArray, List.set_cons_zero, List.set_cons_succ]
                          refine wpAnyH_take (i := 6) (v := ?_) (by first | (simp only [List.getElem?_toArray, List.getElem?_cons_succ, List.getElem?_cons_zero] <;> rfl) | rfl) (by kernel_rfl) (by kernel_rfl) (by kernel_rfl) (by exact fun _ _ _ h => h) (Or.inl ⟨by rfl, ?_⟩) hHeld4 ?_
                          rotate_left 1
                          · intro w hSw
                            try dsimp only at hSw
                            (go_simp) <;> (with_reducible rfl)
                          try simp only [Act.put, List.setIfInBounds_toArray, List.set_cons_zero, List.set_cons_succ]
                          refine wpAnyH_take (i := 7) (v := ?_) (by first | (simp only [List.getElem?_toArray, List.getElem?_cons_succ, List.getElem?_cons_zero] <;> rfl) | rfl) (by kernel_rfl) (by kernel_rfl) (by kernel_rfl) (by exact fun _ _ _ h => h) (Or.inl ⟨by rfl, ?_⟩) hHeld4 ?_
                          rotate_left 1
                          · intro w hSw
                            try dsimp only at hSw
                            (go_simp) <;> (with_reducible rfl)
                          try simp only [Act.put, List.setIfInBounds_toArray, List.set_cons_zero, List.set_cons_succ]
                          refine wpAnyH_take (i := 8) (v := ?_) (by first | (simp only [List.getElem?_toArray, List.getElem?_cons_succ, List.getElem?_cons_zero] <;> rfl) | rfl) (by kernel_rfl) (by kernel_rfl) (by kernel_rfl) (by exact fun _ _ _ h => h) (Or.inl ⟨by rfl, ?_⟩) hHeld4 ?_
                          rotate_left 1
                          · intro w hSw
                            try dsimp only at hSw
                            (go_simp) <;> (with_reducible rfl)
                          try simp only [Act.put, List.setIfInBounds_toArray, List.set_cons_zero, List.set_cons_succ]
                          refine wpAnyH_ready (rs := [10]) (by kernel_rfl) (by simp) ?_
                          refine AllReadyH.cons (by first | (simp only [List.getElem?_toArray, List.getElem?_cons_succ, List.getElem?_cons_zero] <;> rfl) | rfl) (fun K hK => ?_) ?_
                          · go_simp
                            refine hK.out _ _ ?_ (fun hHeld5 => ?_)
                            · exact six_below hHeld4 (oneb _ _)
                            clear hK K
                            first | (clear y0 yz0 y1 yz1 y2 yz2 y3 yz3 y4 yz4 y5 yz5 yl) | skip
                            first | (clear z0 zz0 z1 zz1 z2 zz2 zl) | skip
                            first | (clear hne2) | skip
                            first | (clear hne) | skip
                            have hbb := oneb vh4 (.cells #[.int .i64 0, .int .i64 0, .int .i64 0] 48)
                            have hN := Bk.new vh4 48 #[.int .i64 0, .int .i64 0, .int .i64 0] (l := [.int .i64 0, .int .i64 0, .int .i64 0]) rfl
                            have hge := HI.out.b.size
                            have hg1 : g12 ≠ vh4.heap.size := Nat.ne_of_lt HL1.out.bk.lt
                            generalize World.alloc vh4 _ = vh5 at hbb hN hHeld5 ⊢
                            have HI := Lib.hid (HI.out.below hbb)
                            have HL1 := Lib.hid (HL1.out.below hbb)
                            first | (have HP2 := Lib.hid (PT.below HP2.out hbb)) | skip
                            first | (have HN7 := Lib.hid (HN7.out.kept hbb)) | skip
                            first | (have HN8 := Lib.hid (HN8.out.kept hbb)) | skip
                            generalize vh4.heap.size = g8 at hN hge hg1 ⊢
                            have HN8 := Lib.hid hN
                            have HG8 := Lib.hid hge
                            have HD8 := Lib.hid hg1
                            clear hbb hN hge hg1 hHeld4
                            first | (have y0 := HN7.out.cell 0 rfl; have yz0 := HN7.out.fz 0; have y1 := HN7.out.cell 1 rfl; have yz1 := HN7.out.fz 1; have y2 := HN7.out.cell 2 rfl; have yz2 := HN7.out.fz 2; have y3 := HN7.out.cell 3 rfl; have yz3 := HN7.out.fz 3; have y4 := HN7.out.cell 4 rfl; have yz4 := HN7.out.fz 4; have y5 := HN7.out.cell 5 rfl; have yz5 := HN7.out.fz 5; have yl := HN7.out.lt) | skip
                            first | (have z0 := HN8.out.cell 0 rfl; have zz0 := HN8.out.fz 0; have z1 := HN8.out.cell 1 rfl; have zz1 := HN8.out.fz 1; have z2 := HN8.out.cell 2 rfl; have zz2 := HN8.out.fz 2; have zl := HN8.out.lt) | skip
                            first | (have hne := HN7.out.tyb.ne HN8.out.tyb (by decide); have hne2 : g8 ≠ g7 := Ne.symm hne) | skip
                            try simp only [Act.put, List.setIfInBounds_toArray, List.set_cons_zero, List.set_cons_succ]
                            refine wpAnyH_ready (rs := [11]) (by kernel_rfl) (by simp) ?_
                            refine AllReadyH.cons (by first | (simp only [List.getElem?_toArray, List.getElem?_cons_succ, List.getElem?_cons_zero] <;> rfl) | rfl) (fun K hK => ?_) ?_
                            · go_simp
                              refine hK.out _ _ ?_ (fun hHeld6 => ?_)
                              · exact six_grow hHeld5 (set6_grown _ _ _ _ _ _ _ _) HD7.out
                              clear hK K
                              try simp only [Act.put, List.setIfInBounds_toArray, List.set_cons_zero, List.set_cons_succ]
                              refine wpAnyH_ready (rs := [12]) (by kernel_rfl) (by simp) ?_
                              refine AllReadyH.cons (by first | (simp only [List.getElem?_toArray, List.getElem?_cons_succ, List.getElem?_cons_zero] <;> rfl) | rfl) (fun K hK => ?_) ?_
                              · go_simp
                                refine hK.out _ _ ?_ (fun hHeld7 => ?_)
                                · exact six_grow (six_grow hHeld5 (set6_grown _ _ _ _ _ _ _ _) HD7.out) (set3_grown _ _ _ _ _) HD8.out
                                clear hK K
                                try simp only [Act.put, List.setIfInBounds_toArray, List.set_cons_zero, List.set_cons_succ]
                                refine wpAnyH_done (by kernel_rfl) ?_ _
                                clear y0 yz0 y1 yz1 y2 yz2 y3 yz3 y4 yz4 y5 yz5 yl z0 zz0 z1 zz1 z2 zz2 zl
                                go_wp2_with fail
                                go_meet
                                case rel =>
                                  exact any_two (v2 := ⟨B1, k1, e1, B2, k2, e2, B3, k3, e3⟩) (nm2 := mnm) (d2 := md) (hd2 := mhd) (rs2 := mrs) (pt2 := mpt) (po2 := mpo) HI.out HP2.out HJ.out HSz2.out HTm.out HN7.out HN8.out HG7.out HG8.out HL1.out HD7.out rfl
                              exact AllReadyH.nil
                            exact AllReadyH.nil
                          exact AllReadyH.nil
                        refine AllReadyH.cons (by first | (simp only [List.getElem?_toArray, List.getElem?_cons_succ, List.getElem?_cons_zero] <;> rfl) | rfl) (fun K hK => ?_) ?_
                        · go_simp
                          refine hK.out _ _ ?_ (fun hHeld4 => ?_)
                          · exact six_below hHeld3 (oneb _ _)
                          clear hK K
                          first | (clear y0 yz0 y1 yz1 y2 yz2 y3 yz3 y4 yz4 y5 yz5 yl) | skip
                          first | (clear z0 zz0 z1 zz1 z2 zz2 zl) | skip
                          first | (clear hne2) | skip
                          first | (clear hne) | skip
                          have hbb := oneb vh3 (.cells #[.int .i64 0, .int .i64 0, .int .i64 0] 48)
                          have hN := Bk.new vh3 48 #[.int .i64 0, .int .i64 0, .int .i64 0] (l := [.int .i64 0, .int .i64 0, .int .i64 0]) rfl
                          have hge := HI.out.b.size
                          have hg1 : g12 ≠ vh3.heap.size := Nat.ne_of_lt HL1.out.bk.lt
                          generalize World.alloc vh3 _ = vh4 at hbb hN hHeld4 ⊢
                          have HI := Lib.hid (HI.out.below hbb)
                          have HL1 := Lib.hid (HL1.out.below hbb)
                          first | (have HP2 := Lib.hid (PT.below HP2.out hbb)) | skip
                          first | (have HN7 := Lib.hid (HN7.out.kept hbb)) | skip
                          first | (have HN8 := Lib.hid (HN8.out.kept hbb)) | skip
                          generalize vh3.heap.size = g8 at hN hge hg1 ⊢
                          have HN8 := Lib.hid hN
                          have HG8 := Lib.hid hge
                          have HD8 := Lib.hid hg1
                          clear hbb hN hge hg1 hHeld3
                          first | (have y0 := HN7.out.cell 0 rfl; have yz0 := HN7.out.fz 0; have y1 := HN7.out.cell 1 rfl; have yz1 := HN7.out.fz 1; have y2 := HN7.out.cell 2 rfl; have yz2 := HN7.out.fz 2; have y3 := HN7.out.cell 3 rfl; have yz3 := HN7.out.fz 3; have y4 := HN7.out.cell 4 rfl; have yz4 := HN7.out.fz 4; have y5 := HN7.out.cell 5 rfl; have yz5 := HN7.out.fz 5; have yl := HN7.out.lt) | skip
                          first | (have z0 := HN8.out.cell 0 rfl; have zz0 := HN8.out.fz 0; have z1 := HN8.out.cell 1 rfl; have zz1 := HN8.out.fz 1; have z2 := HN8.out.cell 2 rfl; have zz2 := HN8.out.fz 2; have zl := HN8.out.lt) | skip
                          first | (have hne := HN7.out.tyb.ne HN8.out.tyb (by decide); have hne2 : g8 ≠ g7 := Ne.symm hne) | skip
                          try simp only [Act.put, List.setIfInBounds_toArray, List.set_cons_zero, List.set_cons_succ]
                          refine wpAnyH_ready (rs := [5]) (by kernel_rfl) (by simp) ?_
                          refine AllReadyH.cons (by first | (simp only [List.getElem?_toArray, List.getElem?_cons_succ, List.getElem?_cons_zero] <;> rfl) | rfl) (fun K hK => ?_) ?_
                          · go_simp
                            have hp := parse_any ⟨(textP ⟨nm, d, rs.map RuleV.m, hd, pt, po⟩).toArray⟩ pb tb (m7 + n1) qa _ HI.out.pr (HE.out.kept HI.out.b).g (by have := Hn1.out; omega)
                            rw [show (⟨(textP ⟨nm, d, rs.map RuleV.m, hd, pt, po⟩).toArray⟩ : ByteArray).data.toList = textP ⟨nm, d, rs.map RuleV.m, hd, pt, po⟩ from rfl, HBack.out] at hp
                            refine hp.mono ?_
                            clear hp
                            rintro e vh5 ⟨T2, rfl, hTm, hPT, hTS, hgr, hSz⟩
                            obtain ⟨v2, hT2, j1, j2, j3, j4, j5⟩ := pt_open hPT
                            obtain ⟨mnm, md, mhd, mrv, mbv, mqv, mrs, mpt, mpo⟩ := T2
                            obtain ⟨B1, k1, e1, B2, k2, e2, B3, k3, e3⟩ := v2
                            simp only [tv, TV.mk.injEq] at hT2
                            obtain ⟨-, -, -, rfl, rfl, rfl, -, -, -⟩ := hT2
                            simp only [TV.m] at hTm hSz
                            simp only at j1 j2 j3 j4 j5
                            have HTm := Lib.hid hTm
                            have HSz2 := Lib.hid hSz
                            have HJ := Lib.hid (And.intro j1 (And.intro j2 (And.intro j3 (And.intro j4 j5))))
                            simp only [TV.l, wrl, noW]
                            refine hK.out _ _ ?_ (fun hHeld5 => ?_)
                            · exact six_grow hHeld4 hgr (HL1.out.bk.tyb.ne (TS.tyb HI.out.pr.ts) (by decide))
                            clear hK K
                            first | (clear y0 yz0 y1 yz1 y2 yz2 y3 yz3 y4 yz4 y5 yz5 yl) | skip
                            first | (clear z0 zz0 z1 zz1 z2 zz2 zl) | skip
                            first | (clear hne2) | skip
                            first | (clear hne) | skip
                            first | (have HN7 := Lib.hid (HN7.out.grown hgr (by intro e; exact (HN7.out.tyb.ne (TS.tyb HI.out.pr.ts) (by decide)) (Option.some.inj e)))) | skip
                            first | (have HN8 := Lib.hid (HN8.out.grown hgr (by intro e; exact (HN8.out.tyb.ne (TS.tyb HI.out.pr.ts) (by decide)) (Option.some.inj e)))) | skip
                            have HL1 := Lib.hid (HL1.out.tab HI.out.pr.ts hgr)
                            have HI := Lib.hid (HI.out.tab hTS hgr)
                            have HP2 := Lib.hid hPT
                            clear hPT hTS hgr hHeld4 hTm hSz j1 j2 j3 j4 j5
                            first | (have y0 := HN7.out.cell 0 rfl; have yz0 := HN7.out.fz 0; have y1 := HN7.out.cell 1 rfl; have yz1 := HN7.out.fz 1; have y2 := HN7.out.cell 2 rfl; have yz2 := HN7.out.fz 2; have y3 := HN7.out.cell 3 rfl; have yz3 := HN7.out.fz 3; have y4 := HN7.out.cell 4 rfl; have yz4 := HN7.out.fz 4; have y5 := HN7.out.cell 5 rfl; have yz5 := HN7.out.fz 5; have yl := HN7.out.lt) | skip
                            first | (have z0 := HN8.out.cell 0 rfl; have zz0 := HN8.out.fz 0; have z1 := HN8.out.cell 1 rfl; have zz1 := HN8.out.fz 1; have z2 := HN8.out.cell 2 rfl; have zz2 := HN8.out.fz 2; have zl := HN8.out.lt) | skip
                            first | (have hne := HN7.out.tyb.ne HN8.out.tyb (by decide); have hne2 : g8 ≠ g7 := Ne.symm hne) | skip
                            try simp only [Act.put, List.setIfInBounds_toArray, List.set_cons_zero, List.set_cons_succ]
                            refine wpAnyH_take (i := 6) (v := ?_) (by first | (simp only [List.getElem?_toArray, List.getElem?_cons_succ, List.getElem?_cons_zero] <;> rfl) | rfl) (by kernel_rfl) (by kernel_rfl) (by kernel_rfl) (by exact fun _ _ _ h => h) (Or.inl ⟨by rfl, ?_⟩) hHeld5 ?_
                            rotate_left 1
                            · intro w hSw
                              try dsimp only at hSw
                              (go_simp) <;> (with_reducible rfl)
                            try simp only [Act.put, List.setIfInBounds_toArray, List.set_cons_zero, List.set_cons_succ]
                            refine wpAnyH_take (i := 7) (v := ?_) (by first | (simp only [List.getElem?_toArray, List.getElem?_cons_succ, List.getElem?_cons_zero] <;> rfl) | rfl) (by kernel_rfl) (by kernel_rfl) (by kernel_rfl) (by exact fun _ _ _ h => h) (Or.inl ⟨by rfl, ?_⟩) hHeld5 ?_
                            rotate_left 1
                            · intro w hSw
                              try dsimp only at hSw
                              (go_simp) <;> (with_reducible rfl)
                            try simp only [Act.put, List.setIfInBounds_toArray, List.set_cons_zero, List.set_cons_succ]
                            refine wpAnyH_take (i := 8) (v := ?_) (by first | (simp only [List.getElem?_toArray, List.getElem?_cons_succ, List.getElem?_cons_zero] <;> rfl) | rfl) (by kernel_rfl) (by kernel_rfl) (by kernel_rfl) (by exact fun _ _ _ h => h) (Or.inl ⟨by rfl, ?_⟩) hHeld5 ?_
                            rotate_left 1
                            · intro w hSw
                              try dsimp only at hSw
                              (go_simp) <;> (with_reducible rfl)
                            try simp only [Act.put, List.setIfInBounds_toArray, List.set_cons_zero, List.set_cons_succ]
                            refine wpAnyH_ready (rs := [11]) (by kernel_rfl) (by simp) ?_
                            refine AllReadyH.cons (by first | (simp only [List.getElem?_toArray, List.getElem?_cons_succ, List.getElem?_cons_zero] <;> rfl) | rfl) (fun K hK => ?_) ?_
                            · go_simp
                              refine hK.out _ _ ?_ (fun hHeld6 => ?_)
                              · exact six_grow hHeld5 (set6_grown _ _ _ _ _ _ _ _) HD7.out
                              clear hK K
                              try simp only [Act.put, List.setIfInBounds_toArray, List.set_cons_zero, List.set_cons_succ]
                              refine wpAnyH_ready (rs := [12]) (by kernel_rfl) (by simp) ?_
                              refine AllReadyH.cons (by first | (simp only [List.getElem?_toArray, List.getElem?_cons_succ, List.getElem?_cons_zero] <;> rfl) | rfl) (fun K hK => ?_) ?_
                              · go_simp
                                refine hK.out _ _ ?_ (fun hHeld7 => ?_)
                                · exact six_grow (six_grow hHeld5 (set6_grown _ _ _ _ _ _ _ _) HD7.out) (set3_grown _ _ _ _ _) HD8.out
                                clear hK K
                                try simp only [Act.put, List.setIfInBounds_toArray, List.set_cons_zero, List.set_cons_succ]
                                refine wpAnyH_done (by kernel_rfl) ?_ _
                                clear y0 yz0 y1 yz1 y2 yz2 y3 yz3 y4 yz4 y5 yz5 yl z0 zz0 z1 zz1 z2 zz2 zl
                                go_wp2_with fail
                                go_meet
                                case rel =>
                                  exact any_two (v2 := ⟨B1, k1, e1, B2, k2, e2, B3, k3, e3⟩) (nm2 := mnm) (d2 := md) (hd2 := mhd) (rs2 := mrs) (pt2 := mpt) (po2 := mpo) HI.out HP2.out HJ.out HSz2.out HTm.out HN7.out HN8.out HG7.out HG8.out HL1.out HD7.out rfl
                              exact AllReadyH.nil
                            exact AllReadyH.nil
                          exact AllReadyH.nil
                        exact AllReadyH.nil
                      refine AllReadyH.cons (by first | (simp only [List.getElem?_toArray, List.getElem?_cons_succ, List.getElem?_cons_zero] <;> rfl) | rfl) (fun K hK => ?_) ?_
                      · go_simp
                        refine hK.out _ _ ?_ (fun hHeld3 => ?_)
                        · exact six_below hHeld2 (oneb _ _)
                        clear hK K
                        first | (clear y0 yz0 y1 yz1 y2 yz2 y3 yz3 y4 yz4 y5 yz5 yl) | skip
                        first | (clear z0 zz0 z1 zz1 z2 zz2 zl) | skip
                        first | (clear hne2) | skip
                        first | (clear hne) | skip
                        have hbb := oneb vh2 (.cells #[.int .i64 0, .int .i64 0, .int .i64 0] 48)
                        have hN := Bk.new vh2 48 #[.int .i64 0, .int .i64 0, .int .i64 0] (l := [.int .i64 0, .int .i64 0, .int .i64 0]) rfl
                        have hge := HI.out.b.size
                        have hg1 : g12 ≠ vh2.heap.size := Nat.ne_of_lt HL1.out.bk.lt
                        generalize World.alloc vh2 _ = vh3 at hbb hN hHeld3 ⊢
                        have HI := Lib.hid (HI.out.below hbb)
                        have HL1 := Lib.hid (HL1.out.below hbb)
                        first | (have HP2 := Lib.hid (PT.below HP2.out hbb)) | skip
                        first | (have HN7 := Lib.hid (HN7.out.kept hbb)) | skip
                        first | (have HN8 := Lib.hid (HN8.out.kept hbb)) | skip
                        generalize vh2.heap.size = g8 at hN hge hg1 ⊢
                        have HN8 := Lib.hid hN
                        have HG8 := Lib.hid hge
                        have HD8 := Lib.hid hg1
                        clear hbb hN hge hg1 hHeld2
                        first | (have y0 := HN7.out.cell 0 rfl; have yz0 := HN7.out.fz 0; have y1 := HN7.out.cell 1 rfl; have yz1 := HN7.out.fz 1; have y2 := HN7.out.cell 2 rfl; have yz2 := HN7.out.fz 2; have y3 := HN7.out.cell 3 rfl; have yz3 := HN7.out.fz 3; have y4 := HN7.out.cell 4 rfl; have yz4 := HN7.out.fz 4; have y5 := HN7.out.cell 5 rfl; have yz5 := HN7.out.fz 5; have yl := HN7.out.lt) | skip
                        first | (have z0 := HN8.out.cell 0 rfl; have zz0 := HN8.out.fz 0; have z1 := HN8.out.cell 1 rfl; have zz1 := HN8.out.fz 1; have z2 := HN8.out.cell 2 rfl; have zz2 := HN8.out.fz 2; have zl := HN8.out.lt) | skip
                        first | (have hne := HN7.out.tyb.ne HN8.out.tyb (by decide); have hne2 : g8 ≠ g7 := Ne.symm hne) | skip
                        try simp only [Act.put, List.setIfInBounds_toArray, List.set_cons_zero, List.set_cons_succ]
                        refine wpAnyH_ready (rs := [4]) (by kernel_rfl) (by simp) ?_
                        refine AllReadyH.cons (by first | (simp only [List.getElem?_toArray, List.getElem?_cons_succ, List.getElem?_cons_zero] <;> rfl) | rfl) (fun K hK => ?_) ?_
                        · go_simp
                          have hR := pt_reads HL1.out.ptt HL1.out.l1 HL1.out.l2 HL1.out.l3
                          refine (polText_any nm d rs A1 n1 c1 hd pt A2 n2 c2 po A3 n3 c3 tb m7 _ HL1.out.l1 HL1.out.l2 HL1.out.l3 HGd.out HOk.out hR.1 (hR.2 tb m7 HI.out.pr.ts) HI.out.pr.ts (by omega) (HE.out.kept HI.out.b)).mono ?_
                          clear hR
                          rintro e vh4 ⟨rfl, hTS, hgr⟩
                          refine hK.out _ _ ?_ (fun hHeld4 => ?_)
                          · exact six_grow hHeld3 hgr (HL1.out.bk.tyb.ne (TS.tyb HI.out.pr.ts) (by decide))
                          clear hK K
                          first | (clear y0 yz0 y1 yz1 y2 yz2 y3 yz3 y4 yz4 y5 yz5 yl) | skip
                          first | (clear z0 zz0 z1 zz1 z2 zz2 zl) | skip
                          first | (clear hne2) | skip
                          first | (clear hne) | skip
                          first | (have HN7 := Lib.hid (HN7.out.grown hgr (by intro e; exact (HN7.out.tyb.ne (TS.tyb HI.out.pr.ts) (by decide)) (Option.some.inj e)))) | skip
                          first | (have HN8 := Lib.hid (HN8.out.grown hgr (by intro e; exact (HN8.out.tyb.ne (TS.tyb HI.out.pr.ts) (by decide)) (Option.some.inj e)))) | skip
                          have HL1 := Lib.hid (HL1.out.tab HI.out.pr.ts hgr)
                          have HI := Lib.hid (HI.out.tab hTS hgr)
                          clear hTS hgr hHeld3
                          first | (have y0 := HN7.out.cell 0 rfl; have yz0 := HN7.out.fz 0; have y1 := HN7.out.cell 1 rfl; have yz1 := HN7.out.fz 1; have y2 := HN7.out.cell 2 rfl; have yz2 := HN7.out.fz 2; have y3 := HN7.out.cell 3 rfl; have yz3 := HN7.out.fz 3; have y4 := HN7.out.cell 4 rfl; have yz4 := HN7.out.fz 4; have y5 := HN7.out.cell 5 rfl; have yz5 := HN7.out.fz 5; have yl := HN7.out.lt) | skip
                          first | (have z0 := HN8.out.cell 0 rfl; have zz0 := HN8.out.fz 0; have z1 := HN8.out.cell 1 rfl; have zz1 := HN8.out.fz 1; have z2 := HN8.out.cell 2 rfl; have zz2 := HN8.out.fz 2; have zl := HN8.out.lt) | skip
                          first | (have hne := HN7.out.tyb.ne HN8.out.tyb (by decide); have hne2 : g8 ≠ g7 := Ne.symm hne) | skip
                          try simp only [Act.put, List.setIfInBounds_toArray, List.set_cons_zero, List.set_cons_succ]
                          refine wpAnyH_ready (rs := [5]) (by kernel_rfl) (by simp) ?_
                          refine AllReadyH.cons (by first | (simp only [List.getElem?_toArray, List.getElem?_cons_succ, List.getElem?_cons_zero] <;> rfl) | rfl) (fun K hK => ?_) ?_
                          · go_simp
                            have hp := parse_any ⟨(textP ⟨nm, d, rs.map RuleV.m, hd, pt, po⟩).toArray⟩ pb tb (m7 + n1) qa _ HI.out.pr (HE.out.kept HI.out.b).g (by have := Hn1.out; omega)
                            rw [show (⟨(textP ⟨nm, d, rs.map RuleV.m, hd, pt, po⟩).toArray⟩ : ByteArray).data.toList = textP ⟨nm, d, rs.map RuleV.m, hd, pt, po⟩ from rfl, HBack.out] at hp
                            refine hp.mono ?_
                            clear hp
                            rintro e vh5 ⟨T2, rfl, hTm, hPT, hTS, hgr, hSz⟩
                            obtain ⟨v2, hT2, j1, j2, j3, j4, j5⟩ := pt_open hPT
                            obtain ⟨mnm, md, mhd, mrv, mbv, mqv, mrs, mpt, mpo⟩ := T2
                            obtain ⟨B1, k1, e1, B2, k2, e2, B3, k3, e3⟩ := v2
                            simp only [tv, TV.mk.injEq] at hT2
                            obtain ⟨-, -, -, rfl, rfl, rfl, -, -, -⟩ := hT2
                            simp only [TV.m] at hTm hSz
                            simp only at j1 j2 j3 j4 j5
                            have HTm := Lib.hid hTm
                            have HSz2 := Lib.hid hSz
                            have HJ := Lib.hid (And.intro j1 (And.intro j2 (And.intro j3 (And.intro j4 j5))))
                            simp only [TV.l, wrl, noW]
                            refine hK.out _ _ ?_ (fun hHeld5 => ?_)
                            · exact six_grow hHeld4 hgr (HL1.out.bk.tyb.ne (TS.tyb HI.out.pr.ts) (by decide))
                            clear hK K
                            first | (clear y0 yz0 y1 yz1 y2 yz2 y3 yz3 y4 yz4 y5 yz5 yl) | skip
                            first | (clear z0 zz0 z1 zz1 z2 zz2 zl) | skip
                            first | (clear hne2) | skip
                            first | (clear hne) | skip
                            first | (have HN7 := Lib.hid (HN7.out.grown hgr (by intro e; exact (HN7.out.tyb.ne (TS.tyb HI.out.pr.ts) (by decide)) (Option.some.inj e)))) | skip
                            first | (have HN8 := Lib.hid (HN8.out.grown hgr (by intro e; exact (HN8.out.tyb.ne (TS.tyb HI.out.pr.ts) (by decide)) (Option.some.inj e)))) | skip
                            have HL1 := Lib.hid (HL1.out.tab HI.out.pr.ts hgr)
                            have HI := Lib.hid (HI.out.tab hTS hgr)
                            have HP2 := Lib.hid hPT
                            clear hPT hTS hgr hHeld4 hTm hSz j1 j2 j3 j4 j5
                            first | (have y0 := HN7.out.cell 0 rfl; have yz0 := HN7.out.fz 0; have y1 := HN7.out.cell 1 rfl; have yz1 := HN7.out.fz 1; have y2 := HN7.out.cell 2 rfl; have yz2 := HN7.out.fz 2; have y3 := HN7.out.cell 3 rfl; have yz3 := HN7.out.fz 3; have y4 := HN7.out.cell 4 rfl; have yz4 := HN7.out.fz 4; have y5 := HN7.out.cell 5 rfl; have yz5 := HN7.out.fz 5; have yl := HN7.out.lt) | skip
                            first | (have z0 := HN8.out.cell 0 rfl; have zz0 := HN8.out.fz 0; have z1 := HN8.out.cell 1 rfl; have zz1 := HN8.out.fz 1; have z2 := HN8.out.cell 2 rfl; have zz2 := HN8.out.fz 2; have zl := HN8.out.lt) | skip
                            first | (have hne := HN7.out.tyb.ne HN8.out.tyb (by decide); have hne2 : g8 ≠ g7 := Ne.symm hne) | skip
                            try simp only [Act.put, List.setIfInBounds_toArray, List.set_cons_zero, List.set_cons_succ]
                            refine wpAnyH_take (i := 6) (v := ?_) (by first | (simp only [List.getElem?_toArray, List.getElem?_cons_succ, List.getElem?_cons_zero] <;> rfl) | rfl) (by kernel_rfl) (by kernel_rfl) (by kernel_rfl) (by exact fun _ _ _ h => h) (Or.inl ⟨by rfl, ?_⟩) hHeld5 ?_
                            rotate_left 1
                            · intro w hSw
                              try dsimp only at hSw
                              (go_simp) <;> (with_reducible rfl)
                            try simp only [Act.put, List.setIfInBounds_toArray, List.set_cons_zero, List.set_cons_succ]
                            refine wpAnyH_take (i := 7) (v := ?_) (by first | (simp only [List.getElem?_toArray, List.getElem?_cons_succ, List.getElem?_cons_zero] <;> rfl) | rfl) (by kernel_rfl) (by kernel_rfl) (by kernel_rfl) (by exact fun _ _ _ h => h) (Or.inl ⟨by rfl, ?_⟩) hHeld5 ?_
                            rotate_left 1
                            · intro w hSw
                              try dsimp only at hSw
                              (go_simp) <;> (with_reducible rfl)
                            try simp only [Act.put, List.setIfInBounds_toArray, List.set_cons_zero, List.set_cons_succ]
                            refine wpAnyH_take (i := 8) (v := ?_) (by first | (simp only [List.getElem?_toArray, List.getElem?_cons_succ, List.getElem?_cons_zero] <;> rfl) | rfl) (by kernel_rfl) (by kernel_rfl) (by kernel_rfl) (by exact fun _ _ _ h => h) (Or.inl ⟨by rfl, ?_⟩) hHeld5 ?_
                            rotate_left 1
                            · intro w hSw
                              try dsimp only at hSw
                              (go_simp) <;> (with_reducible rfl)
                            try simp only [Act.put, List.setIfInBounds_toArray, List.set_cons_zero, List.set_cons_succ]
                            refine wpAnyH_ready (rs := [11]) (by kernel_rfl) (by simp) ?_
                            refine AllReadyH.cons (by first | (simp only [List.getElem?_toArray, List.getElem?_cons_succ, List.getElem?_cons_zero] <;> rfl) | rfl) (fun K hK => ?_) ?_
                            · go_simp
                              refine hK.out _ _ ?_ (fun hHeld6 => ?_)
                              · exact six_grow hHeld5 (set6_grown _ _ _ _ _ _ _ _) HD7.out
                              clear hK K
                              try simp only [Act.put, List.setIfInBounds_toArray, List.set_cons_zero, List.set_cons_succ]
                              refine wpAnyH_ready (rs := [12]) (by kernel_rfl) (by simp) ?_
                              refine AllReadyH.cons (by first | (simp only [List.getElem?_toArray, List.getElem?_cons_succ, List.getElem?_cons_zero] <;> rfl) | rfl) (fun K hK => ?_) ?_
                              · go_simp
                                refine hK.out _ _ ?_ (fun hHeld7 => ?_)
                                · exact six_grow (six_grow hHeld5 (set6_grown _ _ _ _ _ _ _ _) HD7.out) (set3_grown _ _ _ _ _) HD8.out
                                clear hK K
                                try simp only [Act.put, List.setIfInBounds_toArray, List.set_cons_zero, List.set_cons_succ]
                                refine wpAnyH_done (by kernel_rfl) ?_ _
                                clear y0 yz0 y1 yz1 y2 yz2 y3 yz3 y4 yz4 y5 yz5 yl z0 zz0 z1 zz1 z2 zz2 zl
                                go_wp2_with fail
                                go_meet
                                case rel =>
                                  exact any_two (v2 := ⟨B1, k1, e1, B2, k2, e2, B3, k3, e3⟩) (nm2 := mnm) (d2 := md) (hd2 := mhd) (rs2 := mrs) (pt2 := mpt) (po2 := mpo) HI.out HP2.out HJ.out HSz2.out HTm.out HN7.out HN8.out HG7.out HG8.out HL1.out HD7.out rfl
                              exact AllReadyH.nil
                            exact AllReadyH.nil
                          exact AllReadyH.nil
                        exact AllReadyH.nil
                      exact AllReadyH.nil
                    refine AllReadyH.cons (by first | (simp only [List.getElem?_toArray, List.getElem?_cons_succ, List.getElem?_cons_zero] <;> rfl) | rfl) (fun K hK => ?_) ?_
                    · go_simp
                      refine hK.out _ _ ?_ (fun hHeld2 => ?_)
                      · exact six_below hHeld1 (oneb _ _)
                      clear hK K
                      first | (clear y0 yz0 y1 yz1 y2 yz2 y3 yz3 y4 yz4 y5 yz5 yl) | skip
                      first | (clear z0 zz0 z1 zz1 z2 zz2 zl) | skip
                      first | (clear hne2) | skip
                      first | (clear hne) | skip
                      have hbb := oneb vh1 (.cells #[.int .i64 0, .int .i64 0, .int .i64 0] 48)
                      have hN := Bk.new vh1 48 #[.int .i64 0, .int .i64 0, .int .i64 0] (l := [.int .i64 0, .int .i64 0, .int .i64 0]) rfl
                      have hge := HI.out.b.size
                      have hg1 : g12 ≠ vh1.heap.size := Nat.ne_of_lt HL1.out.bk.lt
                      generalize World.alloc vh1 _ = vh2 at hbb hN hHeld2 ⊢
                      have HI := Lib.hid (HI.out.below hbb)
                      have HL1 := Lib.hid (HL1.out.below hbb)
                      first | (have HP2 := Lib.hid (PT.below HP2.out hbb)) | skip
                      first | (have HN7 := Lib.hid (HN7.out.kept hbb)) | skip
                      first | (have HN8 := Lib.hid (HN8.out.kept hbb)) | skip
                      generalize vh1.heap.size = g8 at hN hge hg1 ⊢
                      have HN8 := Lib.hid hN
                      have HG8 := Lib.hid hge
                      have HD8 := Lib.hid hg1
                      clear hbb hN hge hg1 hHeld1
                      first | (have y0 := HN7.out.cell 0 rfl; have yz0 := HN7.out.fz 0; have y1 := HN7.out.cell 1 rfl; have yz1 := HN7.out.fz 1; have y2 := HN7.out.cell 2 rfl; have yz2 := HN7.out.fz 2; have y3 := HN7.out.cell 3 rfl; have yz3 := HN7.out.fz 3; have y4 := HN7.out.cell 4 rfl; have yz4 := HN7.out.fz 4; have y5 := HN7.out.cell 5 rfl; have yz5 := HN7.out.fz 5; have yl := HN7.out.lt) | skip
                      first | (have z0 := HN8.out.cell 0 rfl; have zz0 := HN8.out.fz 0; have z1 := HN8.out.cell 1 rfl; have zz1 := HN8.out.fz 1; have z2 := HN8.out.cell 2 rfl; have zz2 := HN8.out.fz 2; have zl := HN8.out.lt) | skip
                      first | (have hne := HN7.out.tyb.ne HN8.out.tyb (by decide); have hne2 : g8 ≠ g7 := Ne.symm hne) | skip
                      try simp only [Act.put, List.setIfInBounds_toArray, List.set_cons_zero, List.set_cons_succ]
                      refine wpAnyH_ready (rs := [4, 9]) (by kernel_rfl) (by simp) ?_
                      refine AllReadyH.cons (by first | (simp only [List.getElem?_toArray, List.getElem?_cons_succ, List.getElem?_cons_zero] <;> rfl) | rfl) (fun K hK => ?_) ?_
                      · go_simp
                        have hR := pt_reads HL1.out.ptt HL1.out.l1 HL1.out.l2 HL1.out.l3
                        refine (polText_any nm d rs A1 n1 c1 hd pt A2 n2 c2 po A3 n3 c3 tb m7 _ HL1.out.l1 HL1.out.l2 HL1.out.l3 HGd.out HOk.out hR.1 (hR.2 tb m7 HI.out.pr.ts) HI.out.pr.ts (by omega) (HE.out.kept HI.out.b)).mono ?_
                        clear hR
                        rintro e vh3 ⟨rfl, hTS, hgr⟩
                        refine hK.out _ _ ?_ (fun hHeld3 => ?_)
                        · exact six_grow hHeld2 hgr (HL1.out.bk.tyb.ne (TS.tyb HI.out.pr.ts) (by decide))
                        clear hK K
                        first | (clear y0 yz0 y1 yz1 y2 yz2 y3 yz3 y4 yz4 y5 yz5 yl) | skip
                        first | (clear z0 zz0 z1 zz1 z2 zz2 zl) | skip
                        first | (clear hne2) | skip
                        first | (clear hne) | skip
                        first | (have HN7 := Lib.hid (HN7.out.grown hgr (by intro e; exact (HN7.out.tyb.ne (TS.tyb HI.out.pr.ts) (by decide)) (Option.some.inj e)))) | skip
                        first | (have HN8 := Lib.hid (HN8.out.grown hgr (by intro e; exact (HN8.out.tyb.ne (TS.tyb HI.out.pr.ts) (by decide)) (Option.some.inj e)))) | skip
                        have HL1 := Lib.hid (HL1.out.tab HI.out.pr.ts hgr)
                        have HI := Lib.hid (HI.out.tab hTS hgr)
                        clear hTS hgr hHeld2
                        first | (have y0 := HN7.out.cell 0 rfl; have yz0 := HN7.out.fz 0; have y1 := HN7.out.cell 1 rfl; have yz1 := HN7.out.fz 1; have y2 := HN7.out.cell 2 rfl; have yz2 := HN7.out.fz 2; have y3 := HN7.out.cell 3 rfl; have yz3 := HN7.out.fz 3; have y4 := HN7.out.cell 4 rfl; have yz4 := HN7.out.fz 4; have y5 := HN7.out.cell 5 rfl; have yz5 := HN7.out.fz 5; have yl := HN7.out.lt) | skip
                        first | (have z0 := HN8.out.cell 0 rfl; have zz0 := HN8.out.fz 0; have z1 := HN8.out.cell 1 rfl; have zz1 := HN8.out.fz 1; have z2 := HN8.out.cell 2 rfl; have zz2 := HN8.out.fz 2; have zl := HN8.out.lt) | skip
                        first | (have hne := HN7.out.tyb.ne HN8.out.tyb (by decide); have hne2 : g8 ≠ g7 := Ne.symm hne) | skip
                        try simp only [Act.put, List.setIfInBounds_toArray, List.set_cons_zero, List.set_cons_succ]
                        refine wpAnyH_ready (rs := [5, 9]) (by kernel_rfl) (by simp) ?_
                        refine AllReadyH.cons (by first | (simp only [List.getElem?_toArray, List.getElem?_cons_succ, List.getElem?_cons_zero] <;> rfl) | rfl) (fun K hK => ?_) ?_
                        · go_simp
                          have hp := parse_any ⟨(textP ⟨nm, d, rs.map RuleV.m, hd, pt, po⟩).toArray⟩ pb tb (m7 + n1) qa _ HI.out.pr (HE.out.kept HI.out.b).g (by have := Hn1.out; omega)
                          rw [show (⟨(textP ⟨nm, d, rs.map RuleV.m, hd, pt, po⟩).toArray⟩ : ByteArray).data.toList = textP ⟨nm, d, rs.map RuleV.m, hd, pt, po⟩ from rfl, HBack.out] at hp
                          refine hp.mono ?_
                          clear hp
                          rintro e vh4 ⟨T2, rfl, hTm, hPT, hTS, hgr, hSz⟩
                          obtain ⟨v2, hT2, j1, j2, j3, j4, j5⟩ := pt_open hPT
                          obtain ⟨mnm, md, mhd, mrv, mbv, mqv, mrs, mpt, mpo⟩ := T2
                          obtain ⟨B1, k1, e1, B2, k2, e2, B3, k3, e3⟩ := v2
                          simp only [tv, TV.mk.injEq] at hT2
                          obtain ⟨-, -, -, rfl, rfl, rfl, -, -, -⟩ := hT2
                          simp only [TV.m] at hTm hSz
                          simp only at j1 j2 j3 j4 j5
                          have HTm := Lib.hid hTm
                          have HSz2 := Lib.hid hSz
                          have HJ := Lib.hid (And.intro j1 (And.intro j2 (And.intro j3 (And.intro j4 j5))))
                          simp only [TV.l, wrl, noW]
                          refine hK.out _ _ ?_ (fun hHeld4 => ?_)
                          · exact six_grow hHeld3 hgr (HL1.out.bk.tyb.ne (TS.tyb HI.out.pr.ts) (by decide))
                          clear hK K
                          first | (clear y0 yz0 y1 yz1 y2 yz2 y3 yz3 y4 yz4 y5 yz5 yl) | skip
                          first | (clear z0 zz0 z1 zz1 z2 zz2 zl) | skip
                          first | (clear hne2) | skip
                          first | (clear hne) | skip
                          first | (have HN7 := Lib.hid (HN7.out.grown hgr (by intro e; exact (HN7.out.tyb.ne (TS.tyb HI.out.pr.ts) (by decide)) (Option.some.inj e)))) | skip
                          first | (have HN8 := Lib.hid (HN8.out.grown hgr (by intro e; exact (HN8.out.tyb.ne (TS.tyb HI.out.pr.ts) (by decide)) (Option.some.inj e)))) | skip
                          have HL1 := Lib.hid (HL1.out.tab HI.out.pr.ts hgr)
                          have HI := Lib.hid (HI.out.tab hTS hgr)
                          have HP2 := Lib.hid hPT
                          clear hPT hTS hgr hHeld3 hTm hSz j1 j2 j3 j4 j5
                          first | (have y0 := HN7.out.cell 0 rfl; have yz0 := HN7.out.fz 0; have y1 := HN7.out.cell 1 rfl; have yz1 := HN7.out.fz 1; have y2 := HN7.out.cell 2 rfl; have yz2 := HN7.out.fz 2; have y3 := HN7.out.cell 3 rfl; have yz3 := HN7.out.fz 3; have y4 := HN7.out.cell 4 rfl; have yz4 := HN7.out.fz 4; have y5 := HN7.out.cell 5 rfl; have yz5 := HN7.out.fz 5; have yl := HN7.out.lt) | skip
                          first | (have z0 := HN8.out.cell 0 rfl; have zz0 := HN8.out.fz 0; have z1 := HN8.out.cell 1 rfl; have zz1 := HN8.out.fz 1; have z2 := HN8.out.cell 2 rfl; have zz2 := HN8.out.fz 2; have zl := HN8.out.lt) | skip
                          first | (have hne := HN7.out.tyb.ne HN8.out.tyb (by decide); have hne2 : g8 ≠ g7 := Ne.symm hne) | skip
                          try simp only [Act.put, List.setIfInBounds_toArray, List.set_cons_zero, List.set_cons_succ]
                          refine wpAnyH_take (i := 6) (v := ?_) (by first | (simp only [List.getElem?_toArray, List.getElem?_cons_succ, List.getElem?_cons_zero] <;> rfl) | rfl) (by kernel_rfl) (by kernel_rfl) (by kernel_rfl) (by exact fun _ _ _ h => h) (Or.inl ⟨by rfl, ?_⟩) hHeld4 ?_
                          rotate_left 1
                          · intro w hSw
                            try dsimp only at hSw
                            (go_simp) <;> (with_reducible rfl)
                          try simp only [Act.put, List.setIfInBounds_toArray, List.set_cons_zero, List.set_cons_succ]
                          refine wpAnyH_take (i := 7) (v := ?_) (by first | (simp only [List.getElem?_toArray, List.getElem?_cons_succ, List.getElem?_cons_zero] <;> rfl) | rfl) (by kernel_rfl) (by kernel_rfl) (by kernel_rfl) (by exact fun _ _ _ h => h) (Or.inl ⟨by rfl, ?_⟩) hHeld4 ?_
                          rotate_left 1
                          · intro w hSw
                            try dsimp only at hSw
                            (go_simp) <;> (with_reducible rfl)
                          try simp only [Act.put, List.setIfInBounds_toArray, List.set_cons_zero, List.set_cons_succ]
                          refine wpAnyH_take (i := 8) (v := ?_) (by first | (simp only [List.getElem?_toArray, List.getElem?_cons_succ, List.getElem?_cons_zero] <;> rfl) | rfl) (by kernel_rfl) (by kernel_rfl) (by kernel_rfl) (by exact fun _ _ _ h => h) (Or.inl ⟨by rfl, ?_⟩) hHeld4 ?_
                          rotate_left 1
                          · intro w hSw
                            try dsimp only at hSw
                            (go_simp) <;> (with_reducible rfl)
                          try simp only [Act.put, List.setIfInBounds_toArray, List.set_cons_zero, List.set_cons_succ]
                          refine wpAnyH_ready (rs := [9]) (by kernel_rfl) (by simp) ?_
                          refine AllReadyH.cons (by first | (simp only [List.getElem?_toArray, List.getElem?_cons_succ, List.getElem?_cons_zero] <;> rfl) | rfl) (fun K hK => ?_) ?_
                          · go_simp
                            refine hK.out _ _ ?_ (fun hHeld5 => ?_)
                            · exact six_below hHeld4 (oneb _ _)
                            clear hK K
                            first | (clear y0 yz0 y1 yz1 y2 yz2 y3 yz3 y4 yz4 y5 yz5 yl) | skip
                            first | (clear z0 zz0 z1 zz1 z2 zz2 zl) | skip
                            first | (clear hne2) | skip
                            first | (clear hne) | skip
                            have hbb := oneb vh4 (.cells #[.string ⟨#[]⟩, .int .u32 0, .slice none 0 0, .int .u16 0, .slice none 0 0, .slice none 0 0] 35)
                            have hN := Bk.new vh4 35 #[.string ⟨#[]⟩, .int .u32 0, .slice none 0 0, .int .u16 0, .slice none 0 0, .slice none 0 0] (l := [.string ⟨#[]⟩, .int .u32 0, .slice none 0 0, .int .u16 0, .slice none 0 0, .slice none 0 0]) rfl
                            have hge := HI.out.b.size
                            have hg1 : g12 ≠ vh4.heap.size := Nat.ne_of_lt HL1.out.bk.lt
                            generalize World.alloc vh4 _ = vh5 at hbb hN hHeld5 ⊢
                            have HI := Lib.hid (HI.out.below hbb)
                            have HL1 := Lib.hid (HL1.out.below hbb)
                            first | (have HP2 := Lib.hid (PT.below HP2.out hbb)) | skip
                            first | (have HN7 := Lib.hid (HN7.out.kept hbb)) | skip
                            first | (have HN8 := Lib.hid (HN8.out.kept hbb)) | skip
                            generalize vh4.heap.size = g7 at hN hge hg1 ⊢
                            have HN7 := Lib.hid hN
                            have HG7 := Lib.hid hge
                            have HD7 := Lib.hid hg1
                            clear hbb hN hge hg1 hHeld4
                            first | (have y0 := HN7.out.cell 0 rfl; have yz0 := HN7.out.fz 0; have y1 := HN7.out.cell 1 rfl; have yz1 := HN7.out.fz 1; have y2 := HN7.out.cell 2 rfl; have yz2 := HN7.out.fz 2; have y3 := HN7.out.cell 3 rfl; have yz3 := HN7.out.fz 3; have y4 := HN7.out.cell 4 rfl; have yz4 := HN7.out.fz 4; have y5 := HN7.out.cell 5 rfl; have yz5 := HN7.out.fz 5; have yl := HN7.out.lt) | skip
                            first | (have z0 := HN8.out.cell 0 rfl; have zz0 := HN8.out.fz 0; have z1 := HN8.out.cell 1 rfl; have zz1 := HN8.out.fz 1; have z2 := HN8.out.cell 2 rfl; have zz2 := HN8.out.fz 2; have zl := HN8.out.lt) | skip
                            first | (have hne := HN7.out.tyb.ne HN8.out.tyb (by decide); have hne2 : g8 ≠ g7 := Ne.symm hne) | skip
                            try simp only [Act.put, List.setIfInBounds_toArray, List.set_cons_zero, List.set_cons_succ]
                            refine wpAnyH_ready (rs := [11]) (by kernel_rfl) (by simp) ?_
                            refine AllReadyH.cons (by first | (simp only [List.getElem?_toArray, List.getElem?_cons_succ, List.getElem?_cons_zero] <;> rfl) | rfl) (fun K hK => ?_) ?_
                            · go_simp
                              refine hK.out _ _ ?_ (fun hHeld6 => ?_)
                              · exact six_grow hHeld5 (set6_grown _ _ _ _ _ _ _ _) HD7.out
                              clear hK K
                              try simp only [Act.put, List.setIfInBounds_toArray, List.set_cons_zero, List.set_cons_succ]
                              refine wpAnyH_ready (rs := [12]) (by kernel_rfl) (by simp) ?_
                              refine AllReadyH.cons (by first | (simp only [List.getElem?_toArray, List.getElem?_cons_succ, List.getElem?_cons_zero] <;> rfl) | rfl) (fun K hK => ?_) ?_
                              · go_simp
                                refine hK.out _ _ ?_ (fun hHeld7 => ?_)
                                · exact six_grow (six_grow hHeld5 (set6_grown _ _ _ _ _ _ _ _) HD7.out) (set3_grown _ _ _ _ _) HD8.out
                                clear hK K
                                try simp only [Act.put, List.setIfInBounds_toArray, List.set_cons_zero, List.set_cons_succ]
                                refine wpAnyH_done (by kernel_rfl) ?_ _
                                clear y0 yz0 y1 yz1 y2 yz2 y3 yz3 y4 yz4 y5 yz5 yl z0 zz0 z1 zz1 z2 zz2 zl
                                go_wp2_with fail
                                go_meet
                                case rel =>
                                  exact any_two (v2 := ⟨B1, k1, e1, B2, k2, e2, B3, k3, e3⟩) (nm2 := mnm) (d2 := md) (hd2 := mhd) (rs2 := mrs) (pt2 := mpt) (po2 := mpo) HI.out HP2.out HJ.out HSz2.out HTm.out HN7.out HN8.out HG7.out HG8.out HL1.out HD7.out rfl
                              exact AllReadyH.nil
                            exact AllReadyH.nil
                          exact AllReadyH.nil
                        refine AllReadyH.cons (by first | (simp only [List.getElem?_toArray, List.getElem?_cons_succ, List.getElem?_cons_zero] <;> rfl) | rfl) (fun K hK => ?_) ?_
                        · go_simp
                          refine hK.out _ _ ?_ (fun hHeld4 => ?_)
                          · exact six_below hHeld3 (oneb _ _)
                          clear hK K
                          first | (clear y0 yz0 y1 yz1 y2 yz2 y3 yz3 y4 yz4 y5 yz5 yl) | skip
                          first | (clear z0 zz0 z1 zz1 z2 zz2 zl) | skip
                          first | (clear hne2) | skip
                          first | (clear hne) | skip
                          have hbb := oneb vh3 (.cells #[.string ⟨#[]⟩, .int .u32 0, .slice none 0 0, .int .u16 0, .slice none 0 0, .slice none 0 0] 35)
                          have hN := Bk.new vh3 35 #[.string ⟨#[]⟩, .int .u32 0, .slice none 0 0, .int .u16 0, .slice none 0 0, .slice none 0 0] (l := [.string ⟨#[]⟩, .int .u32 0, .slice none 0 0, .int .u16 0, .slice none 0 0, .slice none 0 0]) rfl
                          have hge := HI.out.b.size
                          have hg1 : g12 ≠ vh3.heap.size := Nat.ne_of_lt HL1.out.bk.lt
                          generalize World.alloc vh3 _ = vh4 at hbb hN hHeld4 ⊢
                          have HI := Lib.hid (HI.out.below hbb)
                          have HL1 := Lib.hid (HL1.out.below hbb)
                          first | (have HP2 := Lib.hid (PT.below HP2.out hbb)) | skip
                          first | (have HN7 := Lib.hid (HN7.out.kept hbb)) | skip
                          first | (have HN8 := Lib.hid (HN8.out.kept hbb)) | skip
                          generalize vh3.heap.size = g7 at hN hge hg1 ⊢
                          have HN7 := Lib.hid hN
                          have HG7 := Lib.hid hge
                          have HD7 := Lib.hid hg1
                          clear hbb hN hge hg1 hHeld3
                          first | (have y0 := HN7.out.cell 0 rfl; have yz0 := HN7.out.fz 0; have y1 := HN7.out.cell 1 rfl; have yz1 := HN7.out.fz 1; have y2 := HN7.out.cell 2 rfl; have yz2 := HN7.out.fz 2; have y3 := HN7.out.cell 3 rfl; have yz3 := HN7.out.fz 3; have y4 := HN7.out.cell 4 rfl; have yz4 := HN7.out.fz 4; have y5 := HN7.out.cell 5 rfl; have yz5 := HN7.out.fz 5; have yl := HN7.out.lt) | skip
                          first | (have z0 := HN8.out.cell 0 rfl; have zz0 := HN8.out.fz 0; have z1 := HN8.out.cell 1 rfl; have zz1 := HN8.out.fz 1; have z2 := HN8.out.cell 2 rfl; have zz2 := HN8.out.fz 2; have zl := HN8.out.lt) | skip
                          first | (have hne := HN7.out.tyb.ne HN8.out.tyb (by decide); have hne2 : g8 ≠ g7 := Ne.symm hne) | skip
                          try simp only [Act.put, List.setIfInBounds_toArray, List.set_cons_zero, List.set_cons_succ]
                          refine wpAnyH_ready (rs := [5]) (by kernel_rfl) (by simp) ?_
                          refine AllReadyH.cons (by first | (simp only [List.getElem?_toArray, List.getElem?_cons_succ, List.getElem?_cons_zero] <;> rfl) | rfl) (fun K hK => ?_) ?_
                          · go_simp
                            have hp := parse_any ⟨(textP ⟨nm, d, rs.map RuleV.m, hd, pt, po⟩).toArray⟩ pb tb (m7 + n1) qa _ HI.out.pr (HE.out.kept HI.out.b).g (by have := Hn1.out; omega)
                            rw [show (⟨(textP ⟨nm, d, rs.map RuleV.m, hd, pt, po⟩).toArray⟩ : ByteArray).data.toList = textP ⟨nm, d, rs.map RuleV.m, hd, pt, po⟩ from rfl, HBack.out] at hp
                            refine hp.mono ?_
                            clear hp
                            rintro e vh5 ⟨T2, rfl, hTm, hPT, hTS, hgr, hSz⟩
                            obtain ⟨v2, hT2, j1, j2, j3, j4, j5⟩ := pt_open hPT
                            obtain ⟨mnm, md, mhd, mrv, mbv, mqv, mrs, mpt, mpo⟩ := T2
                            obtain ⟨B1, k1, e1, B2, k2, e2, B3, k3, e3⟩ := v2
                            simp only [tv, TV.mk.injEq] at hT2
                            obtain ⟨-, -, -, rfl, rfl, rfl, -, -, -⟩ := hT2
                            simp only [TV.m] at hTm hSz
                            simp only at j1 j2 j3 j4 j5
                            have HTm := Lib.hid hTm
                            have HSz2 := Lib.hid hSz
                            have HJ := Lib.hid (And.intro j1 (And.intro j2 (And.intro j3 (And.intro j4 j5))))
                            simp only [TV.l, wrl, noW]
                            refine hK.out _ _ ?_ (fun hHeld5 => ?_)
                            · exact six_grow hHeld4 hgr (HL1.out.bk.tyb.ne (TS.tyb HI.out.pr.ts) (by decide))
                            clear hK K
                            first | (clear y0 yz0 y1 yz1 y2 yz2 y3 yz3 y4 yz4 y5 yz5 yl) | skip
                            first | (clear z0 zz0 z1 zz1 z2 zz2 zl) | skip
                            first | (clear hne2) | skip
                            first | (clear hne) | skip
                            first | (have HN7 := Lib.hid (HN7.out.grown hgr (by intro e; exact (HN7.out.tyb.ne (TS.tyb HI.out.pr.ts) (by decide)) (Option.some.inj e)))) | skip
                            first | (have HN8 := Lib.hid (HN8.out.grown hgr (by intro e; exact (HN8.out.tyb.ne (TS.tyb HI.out.pr.ts) (by decide)) (Option.some.inj e)))) | skip
                            have HL1 := Lib.hid (HL1.out.tab HI.out.pr.ts hgr)
                            have HI := Lib.hid (HI.out.tab hTS hgr)
                            have HP2 := Lib.hid hPT
                            clear hPT hTS hgr hHeld4 hTm hSz j1 j2 j3 j4 j5
                            first | (have y0 := HN7.out.cell 0 rfl; have yz0 := HN7.out.fz 0; have y1 := HN7.out.cell 1 rfl; have yz1 := HN7.out.fz 1; have y2 := HN7.out.cell 2 rfl; have yz2 := HN7.out.fz 2; have y3 := HN7.out.cell 3 rfl; have yz3 := HN7.out.fz 3; have y4 := HN7.out.cell 4 rfl; have yz4 := HN7.out.fz 4; have y5 := HN7.out.cell 5 rfl; have yz5 := HN7.out.fz 5; have yl := HN7.out.lt) | skip
                            first | (have z0 := HN8.out.cell 0 rfl; have zz0 := HN8.out.fz 0; have z1 := HN8.out.cell 1 rfl; have zz1 := HN8.out.fz 1; have z2 := HN8.out.cell 2 rfl; have zz2 := HN8.out.fz 2; have zl := HN8.out.lt) | skip
                            first | (have hne := HN7.out.tyb.ne HN8.out.tyb (by decide); have hne2 : g8 ≠ g7 := Ne.symm hne) | skip
                            try simp only [Act.put, List.setIfInBounds_toArray, List.set_cons_zero, List.set_cons_succ]
                            refine wpAnyH_take (i := 6) (v := ?_) (by first | (simp only [List.getElem?_toArray, List.getElem?_cons_succ, List.getElem?_cons_zero] <;> rfl) | rfl) (by kernel_rfl) (by kernel_rfl) (by kernel_rfl) (by exact fun _ _ _ h => h) (Or.inl ⟨by rfl, ?_⟩) hHeld5 ?_
                            rotate_left 1
                            · intro w hSw
                              try dsimp only at hSw
                              (go_simp) <;> (with_reducible rfl)
                            try simp only [Act.put, List.setIfInBounds_toArray, List.set_cons_zero, List.set_cons_succ]
                            refine wpAnyH_take (i := 7) (v := ?_) (by first | (simp only [List.getElem?_toArray, List.getElem?_cons_succ, List.getElem?_cons_zero] <;> rfl) | rfl) (by kernel_rfl) (by kernel_rfl) (by kernel_rfl) (by exact fun _ _ _ h => h) (Or.inl ⟨by rfl, ?_⟩) hHeld5 ?_
                            rotate_left 1
                            · intro w hSw
                              try dsimp only at hSw
                              (go_simp) <;> (with_reducible rfl)
                            try simp only [Act.put, List.setIfInBounds_toArray, List.set_cons_zero, List.set_cons_succ]
                            refine wpAnyH_take (i := 8) (v := ?_) (by first | (simp only [List.getElem?_toArray, List.getElem?_cons_succ, List.getElem?_cons_zero] <;> rfl) | rfl) (by kernel_rfl) (by kernel_rfl) (by kernel_rfl) (by exact fun _ _ _ h => h) (Or.inl ⟨by rfl, ?_⟩) hHeld5 ?_
                            rotate_left 1
                            · intro w hSw
                              try dsimp only at hSw
                              (go_simp) <;> (with_reducible rfl)
                            try simp only [Act.put, List.setIfInBounds_toArray, List.set_cons_zero, List.set_cons_succ]
                            refine wpAnyH_ready (rs := [11]) (by kernel_rfl) (by simp) ?_
                            refine AllReadyH.cons (by first | (simp only [List.getElem?_toArray, List.getElem?_cons_succ, List.getElem?_cons_zero] <;> rfl) | rfl) (fun K hK => ?_) ?_
                            · go_simp
                              refine hK.out _ _ ?_ (fun hHeld6 => ?_)
                              · exact six_grow hHeld5 (set6_grown _ _ _ _ _ _ _ _) HD7.out
                              clear hK K
                              try simp only [Act.put, List.setIfInBounds_toArray, List.set_cons_zero, List.set_cons_succ]
                              refine wpAnyH_ready (rs := [12]) (by kernel_rfl) (by simp) ?_
                              refine AllReadyH.cons (by first | (simp only [List.getElem?_toArray, List.getElem?_cons_succ, List.getElem?_cons_zero] <;> rfl) | rfl) (fun K hK => ?_) ?_
                              · go_simp
                                refine hK.out _ _ ?_ (fun hHeld7 => ?_)
                                · exact six_grow (six_grow hHeld5 (set6_grown _ _ _ _ _ _ _ _) HD7.out) (set3_grown _ _ _ _ _) HD8.out
                                clear hK K
                                try simp only [Act.put, List.setIfInBounds_toArray, List.set_cons_zero, List.set_cons_succ]
                                refine wpAnyH_done (by kernel_rfl) ?_ _
                                clear y0 yz0 y1 yz1 y2 yz2 y3 yz3 y4 yz4 y5 yz5 yl z0 zz0 z1 zz1 z2 zz2 zl
                                go_wp2_with fail
                                go_meet
                                case rel =>
                                  exact any_two (v2 := ⟨B1, k1, e1, B2, k2, e2, B3, k3, e3⟩) (nm2 := mnm) (d2 := md) (hd2 := mhd) (rs2 := mrs) (pt2 := mpt) (po2 := mpo) HI.out HP2.out HJ.out HSz2.out HTm.out HN7.out HN8.out HG7.out HG8.out HL1.out HD7.out rfl
                              exact AllReadyH.nil
                            exact AllReadyH.nil
                          exact AllReadyH.nil
                        exact AllReadyH.nil
                      refine AllReadyH.cons (by first | (simp only [List.getElem?_toArray, List.getElem?_cons_succ, List.getElem?_cons_zero] <;> rfl) | rfl) (fun K hK => ?_) ?_
                      · go_simp
                        refine hK.out _ _ ?_ (fun hHeld3 => ?_)
                        · exact six_below hHeld2 (oneb _ _)
                        clear hK K
                        first | (clear y0 yz0 y1 yz1 y2 yz2 y3 yz3 y4 yz4 y5 yz5 yl) | skip
                        first | (clear z0 zz0 z1 zz1 z2 zz2 zl) | skip
                        first | (clear hne2) | skip
                        first | (clear hne) | skip
                        have hbb := oneb vh2 (.cells #[.string ⟨#[]⟩, .int .u32 0, .slice none 0 0, .int .u16 0, .slice none 0 0, .slice none 0 0] 35)
                        have hN := Bk.new vh2 35 #[.string ⟨#[]⟩, .int .u32 0, .slice none 0 0, .int .u16 0, .slice none 0 0, .slice none 0 0] (l := [.string ⟨#[]⟩, .int .u32 0, .slice none 0 0, .int .u16 0, .slice none 0 0, .slice none 0 0]) rfl
                        have hge := HI.out.b.size
                        have hg1 : g12 ≠ vh2.heap.size := Nat.ne_of_lt HL1.out.bk.lt
                        generalize World.alloc vh2 _ = vh3 at hbb hN hHeld3 ⊢
                        have HI := Lib.hid (HI.out.below hbb)
                        have HL1 := Lib.hid (HL1.out.below hbb)
                        first | (have HP2 := Lib.hid (PT.below HP2.out hbb)) | skip
                        first | (have HN7 := Lib.hid (HN7.out.kept hbb)) | skip
                        first | (have HN8 := Lib.hid (HN8.out.kept hbb)) | skip
                        generalize vh2.heap.size = g7 at hN hge hg1 ⊢
                        have HN7 := Lib.hid hN
                        have HG7 := Lib.hid hge
                        have HD7 := Lib.hid hg1
                        clear hbb hN hge hg1 hHeld2
                        first | (have y0 := HN7.out.cell 0 rfl; have yz0 := HN7.out.fz 0; have y1 := HN7.out.cell 1 rfl; have yz1 := HN7.out.fz 1; have y2 := HN7.out.cell 2 rfl; have yz2 := HN7.out.fz 2; have y3 := HN7.out.cell 3 rfl; have yz3 := HN7.out.fz 3; have y4 := HN7.out.cell 4 rfl; have yz4 := HN7.out.fz 4; have y5 := HN7.out.cell 5 rfl; have yz5 := HN7.out.fz 5; have yl := HN7.out.lt) | skip
                        first | (have z0 := HN8.out.cell 0 rfl; have zz0 := HN8.out.fz 0; have z1 := HN8.out.cell 1 rfl; have zz1 := HN8.out.fz 1; have z2 := HN8.out.cell 2 rfl; have zz2 := HN8.out.fz 2; have zl := HN8.out.lt) | skip
                        first | (have hne := HN7.out.tyb.ne HN8.out.tyb (by decide); have hne2 : g8 ≠ g7 := Ne.symm hne) | skip
                        try simp only [Act.put, List.setIfInBounds_toArray, List.set_cons_zero, List.set_cons_succ]
                        refine wpAnyH_ready (rs := [4]) (by kernel_rfl) (by simp) ?_
                        refine AllReadyH.cons (by first | (simp only [List.getElem?_toArray, List.getElem?_cons_succ, List.getElem?_cons_zero] <;> rfl) | rfl) (fun K hK => ?_) ?_
                        · go_simp
                          have hR := pt_reads HL1.out.ptt HL1.out.l1 HL1.out.l2 HL1.out.l3
                          refine (polText_any nm d rs A1 n1 c1 hd pt A2 n2 c2 po A3 n3 c3 tb m7 _ HL1.out.l1 HL1.out.l2 HL1.out.l3 HGd.out HOk.out hR.1 (hR.2 tb m7 HI.out.pr.ts) HI.out.pr.ts (by omega) (HE.out.kept HI.out.b)).mono ?_
                          clear hR
                          rintro e vh4 ⟨rfl, hTS, hgr⟩
                          refine hK.out _ _ ?_ (fun hHeld4 => ?_)
                          · exact six_grow hHeld3 hgr (HL1.out.bk.tyb.ne (TS.tyb HI.out.pr.ts) (by decide))
                          clear hK K
                          first | (clear y0 yz0 y1 yz1 y2 yz2 y3 yz3 y4 yz4 y5 yz5 yl) | skip
                          first | (clear z0 zz0 z1 zz1 z2 zz2 zl) | skip
                          first | (clear hne2) | skip
                          first | (clear hne) | skip
                          first | (have HN7 := Lib.hid (HN7.out.grown hgr (by intro e; exact (HN7.out.tyb.ne (TS.tyb HI.out.pr.ts) (by decide)) (Option.some.inj e)))) | skip
                          first | (have HN8 := Lib.hid (HN8.out.grown hgr (by intro e; exact (HN8.out.tyb.ne (TS.tyb HI.out.pr.ts) (by decide)) (Option.some.inj e)))) | skip
                          have HL1 := Lib.hid (HL1.out.tab HI.out.pr.ts hgr)
                          have HI := Lib.hid (HI.out.tab hTS hgr)
                          clear hTS hgr hHeld3
                          first | (have y0 := HN7.out.cell 0 rfl; have yz0 := HN7.out.fz 0; have y1 := HN7.out.cell 1 rfl; have yz1 := HN7.out.fz 1; have y2 := HN7.out.cell 2 rfl; have yz2 := HN7.out.fz 2; have y3 := HN7.out.cell 3 rfl; have yz3 := HN7.out.fz 3; have y4 := HN7.out.cell 4 rfl; have yz4 := HN7.out.fz 4; have y5 := HN7.out.cell 5 rfl; have yz5 := HN7.out.fz 5; have yl := HN7.out.lt) | skip
                          first | (have z0 := HN8.out.cell 0 rfl; have zz0 := HN8.out.fz 0; have z1 := HN8.out.cell 1 rfl; have zz1 := HN8.out.fz 1; have z2 := HN8.out.cell 2 rfl; have zz2 := HN8.out.fz 2; have zl := HN8.out.lt) | skip
                          first | (have hne := HN7.out.tyb.ne HN8.out.tyb (by decide); have hne2 : g8 ≠ g7 := Ne.symm hne) | skip
                          try simp only [Act.put, List.setIfInBounds_toArray, List.set_cons_zero, List.set_cons_succ]
                          refine wpAnyH_ready (rs := [5]) (by kernel_rfl) (by simp) ?_
                          refine AllReadyH.cons (by first | (simp only [List.getElem?_toArray, List.getElem?_cons_succ, List.getElem?_cons_zero] <;> rfl) | rfl) (fun K hK => ?_) ?_
                          · go_simp
                            have hp := parse_any ⟨(textP ⟨nm, d, rs.map RuleV.m, hd, pt, po⟩).toArray⟩ pb tb (m7 + n1) qa _ HI.out.pr (HE.out.kept HI.out.b).g (by have := Hn1.out; omega)
                            rw [show (⟨(textP ⟨nm, d, rs.map RuleV.m, hd, pt, po⟩).toArray⟩ : ByteArray).data.toList = textP ⟨nm, d, rs.map RuleV.m, hd, pt, po⟩ from rfl, HBack.out] at hp
                            refine hp.mono ?_
                            clear hp
                            rintro e vh5 ⟨T2, rfl, hTm, hPT, hTS, hgr, hSz⟩
                            obtain ⟨v2, hT2, j1, j2, j3, j4, j5⟩ := pt_open hPT
                            obtain ⟨mnm, md, mhd, mrv, mbv, mqv, mrs, mpt, mpo⟩ := T2
                            obtain ⟨B1, k1, e1, B2, k2, e2, B3, k3, e3⟩ := v2
                            simp only [tv, TV.mk.injEq] at hT2
                            obtain ⟨-, -, -, rfl, rfl, rfl, -, -, -⟩ := hT2
                            simp only [TV.m] at hTm hSz
                            simp only at j1 j2 j3 j4 j5
                            have HTm := Lib.hid hTm
                            have HSz2 := Lib.hid hSz
                            have HJ := Lib.hid (And.intro j1 (And.intro j2 (And.intro j3 (And.intro j4 j5))))
                            simp only [TV.l, wrl, noW]
                            refine hK.out _ _ ?_ (fun hHeld5 => ?_)
                            · exact six_grow hHeld4 hgr (HL1.out.bk.tyb.ne (TS.tyb HI.out.pr.ts) (by decide))
                            clear hK K
                            first | (clear y0 yz0 y1 yz1 y2 yz2 y3 yz3 y4 yz4 y5 yz5 yl) | skip
                            first | (clear z0 zz0 z1 zz1 z2 zz2 zl) | skip
                            first | (clear hne2) | skip
                            first | (clear hne) | skip
                            first | (have HN7 := Lib.hid (HN7.out.grown hgr (by intro e; exact (HN7.out.tyb.ne (TS.tyb HI.out.pr.ts) (by decide)) (Option.some.inj e)))) | skip
                            first | (have HN8 := Lib.hid (HN8.out.grown hgr (by intro e; exact (HN8.out.tyb.ne (TS.tyb HI.out.pr.ts) (by decide)) (Option.some.inj e)))) | skip
                            have HL1 := Lib.hid (HL1.out.tab HI.out.pr.ts hgr)
                            have HI := Lib.hid (HI.out.tab hTS hgr)
                            have HP2 := Lib.hid hPT
                            clear hPT hTS hgr hHeld4 hTm hSz j1 j2 j3 j4 j5
                            first | (have y0 := HN7.out.cell 0 rfl; have yz0 := HN7.out.fz 0; have y1 := HN7.out.cell 1 rfl; have yz1 := HN7.out.fz 1; have y2 := HN7.out.cell 2 rfl; have yz2 := HN7.out.fz 2; have y3 := HN7.out.cell 3 rfl; have yz3 := HN7.out.fz 3; have y4 := HN7.out.cell 4 rfl; have yz4 := HN7.out.fz 4; have y5 := HN7.out.cell 5 rfl; have yz5 := HN7.out.fz 5; have yl := HN7.out.lt) | skip
                            first | (have z0 := HN8.out.cell 0 rfl; have zz0 := HN8.out.fz 0; have z1 := HN8.out.cell 1 rfl; have zz1 := HN8.out.fz 1; have z2 := HN8.out.cell 2 rfl; have zz2 := HN8.out.fz 2; have zl := HN8.out.lt) | skip
                            first | (have hne := HN7.out.tyb.ne HN8.out.tyb (by decide); have hne2 : g8 ≠ g7 := Ne.symm hne) | skip
                            try simp only [Act.put, List.setIfInBounds_toArray, List.set_cons_zero, List.set_cons_succ]
                            refine wpAnyH_take (i := 6) (v := ?_) (by first | (simp only [List.getElem?_toArray, List.getElem?_cons_succ, List.getElem?_cons_zero] <;> rfl) | rfl) (by kernel_rfl) (by kernel_rfl) (by kernel_rfl) (by exact fun _ _ _ h => h) (Or.inl ⟨by rfl, ?_⟩) hHeld5 ?_
                            rotate_left 1
                            · intro w hSw
                              try dsimp only at hSw
                              (go_simp) <;> (with_reducible rfl)
                            try simp only [Act.put, List.setIfInBounds_toArray, List.set_cons_zero, List.set_cons_succ]
                            refine wpAnyH_take (i := 7) (v := ?_) (by first | (simp only [List.getElem?_toArray, List.getElem?_cons_succ, List.getElem?_cons_zero] <;> rfl) | rfl) (by kernel_rfl) (by kernel_rfl) (by kernel_rfl) (by exact fun _ _ _ h => h) (Or.inl ⟨by rfl, ?_⟩) hHeld5 ?_
                            rotate_left 1
                            · intro w hSw
                              try dsimp only at hSw
                              (go_simp) <;> (with_reducible rfl)
                            try simp only [Act.put, List.setIfInBounds_toArray, List.set_cons_zero, List.set_cons_succ]
                            refine wpAnyH_take (i := 8) (v := ?_) (by first | (simp only [List.getElem?_toArray, List.getElem?_cons_succ, List.getElem?_cons_zero] <;> rfl) | rfl) (by kernel_rfl) (by kernel_rfl) (by kernel_rfl) (by exact fun _ _ _ h => h) (Or.inl ⟨by rfl, ?_⟩) hHeld5 ?_
                            rotate_left 1
                            · intro w hSw
                              try dsimp only at hSw
                              (go_simp) <;> (with_reducible rfl)
                            try simp only [Act.put, List.setIfInBounds_toArray, List.set_cons_zero, List.set_cons_succ]
                            refine wpAnyH_ready (rs := [11]) (by kernel_rfl) (by simp) ?_
                            refine AllReadyH.cons (by first | (simp only [List.getElem?_toArray, List.getElem?_cons_succ, List.getElem?_cons_zero] <;> rfl) | rfl) (fun K hK => ?_) ?_
                            · go_simp
                              refine hK.out _ _ ?_ (fun hHeld6 => ?_)
                              · exact six_grow hHeld5 (set6_grown _ _ _ _ _ _ _ _) HD7.out
                              clear hK K
                              try simp only [Act.put, List.setIfInBounds_toArray, List.set_cons_zero, List.set_cons_succ]
                              refine wpAnyH_ready (rs := [12]) (by kernel_rfl) (by simp) ?_
                              refine AllReadyH.cons (by first | (simp only [List.getElem?_toArray, List.getElem?_cons_succ, List.getElem?_cons_zero] <;> rfl) | rfl) (fun K hK => ?_) ?_
                              · go_simp
                                refine hK.out _ _ ?_ (fun hHeld7 => ?_)
                                · exact six_grow (six_grow hHeld5 (set6_grown _ _ _ _ _ _ _ _) HD7.out) (set3_grown _ _ _ _ _) HD8.out
                                clear hK K
                                try simp only [Act.put, List.setIfInBounds_toArray, List.set_cons_zero, List.set_cons_succ]
                                refine wpAnyH_done (by kernel_rfl) ?_ _
                                clear y0 yz0 y1 yz1 y2 yz2 y3 yz3 y4 yz4 y5 yz5 yl z0 zz0 z1 zz1 z2 zz2 zl
                                go_wp2_with fail
                                go_meet
                                case rel =>
                                  exact any_two (v2 := ⟨B1, k1, e1, B2, k2, e2, B3, k3, e3⟩) (nm2 := mnm) (d2 := md) (hd2 := mhd) (rs2 := mrs) (pt2 := mpt) (po2 := mpo) HI.out HP2.out HJ.out HSz2.out HTm.out HN7.out HN8.out HG7.out HG8.out HL1.out HD7.out rfl
                              exact AllReadyH.nil
                            exact AllReadyH.nil
                          exact AllReadyH.nil
                        exact AllReadyH.nil
                      exact AllReadyH.nil
                    exact AllReadyH.nil
                  refine AllReadyH.cons (by first | (simp only [List.getElem?_toArray, List.getElem?_cons_succ, List.getElem?_cons_zero] <;> rfl) | rfl) (fun K hK => ?_) ?_
                  · go_simp
                    refine hK.out _ _ ?_ (fun hHeld1 => ?_)
                    · exact six_below hHeld0 (oneb _ _)
                    clear hK K
                    first | (clear y0 yz0 y1 yz1 y2 yz2 y3 yz3 y4 yz4 y5 yz5 yl) | skip
                    first | (clear z0 zz0 z1 zz1 z2 zz2 zl) | skip
                    first | (clear hne2) | skip
                    first | (clear hne) | skip
                    have hbb := oneb vh0 (.cells #[.string ⟨#[]⟩, .int .u32 0, .slice none 0 0, .int .u16 0, .slice none 0 0, .slice none 0 0] 35)
                    have hN := Bk.new vh0 35 #[.string ⟨#[]⟩, .int .u32 0, .slice none 0 0, .int .u16 0, .slice none 0 0, .slice none 0 0] (l := [.string ⟨#[]⟩, .int .u32 0, .slice none 0 0, .int .u16 0, .slice none 0 0, .slice none 0 0]) rfl
                    have hge := HI.out.b.size
                    have hg1 : g12 ≠ vh0.heap.size := Nat.ne_of_lt HL1.out.bk.lt
                    generalize World.alloc vh0 _ = vh1 at hbb hN hHeld1 ⊢
                    have HI := Lib.hid (HI.out.below hbb)
                    have HL1 := Lib.hid (HL1.out.below hbb)
                    first | (have HP2 := Lib.hid (PT.below HP2.out hbb)) | skip
                    first | (have HN7 := Lib.hid (HN7.out.kept hbb)) | skip
                    first | (have HN8 := Lib.hid (HN8.out.kept hbb)) | skip
                    generalize vh0.heap.size = g7 at hN hge hg1 ⊢
                    have HN7 := Lib.hid hN
                    have HG7 := Lib.hid hge
                    have HD7 := Lib.hid hg1
                    clear hbb hN hge hg1 hHeld0
                    first | (have y0 := HN7.out.cell 0 rfl; have yz0 := HN7.out.fz 0; have y1 := HN7.out.cell 1 rfl; have yz1 := HN7.out.fz 1; have y2 := HN7.out.cell 2 rfl; have yz2 := HN7.out.fz 2; have y3 := HN7.out.cell 3 rfl; have yz3 := HN7.out.fz 3; have y4 := HN7.out.cell 4 rfl; have yz4 := HN7.out.fz 4; have y5 := HN7.out.cell 5 rfl; have yz5 := HN7.out.fz 5; have yl := HN7.out.lt) | skip
                    first | (have z0 := HN8.out.cell 0 rfl; have zz0 := HN8.out.fz 0; have z1 := HN8.out.cell 1 rfl; have zz1 := HN8.out.fz 1; have z2 := HN8.out.cell 2 rfl; have zz2 := HN8.out.fz 2; have zl := HN8.out.lt) | skip
                    first | (have hne := HN7.out.tyb.ne HN8.out.tyb (by decide); have hne2 : g8 ≠ g7 := Ne.symm hne) | skip
                    try simp only [Act.put, List.setIfInBounds_toArray, List.set_cons_zero, List.set_cons_succ]
                    refine wpAnyH_ready (rs := [3, 10]) (by kernel_rfl) (by simp) ?_
                    refine AllReadyH.cons (by first | (simp only [List.getElem?_toArray, List.getElem?_cons_succ, List.getElem?_cons_zero] <;> rfl) | rfl) (fun K hK => ?_) ?_
                    · go_simp
                      refine (parserCalls_any pb tb m7 qa _ HI.out.pr).mono ?_
                      rintro e vh2 ⟨rfl, rfl⟩
                      refine hK.out _ _ ?_ (fun hHeld2 => ?_)
                      · exact hHeld1
                      clear hK K
                      try simp only [Act.put, List.setIfInBounds_toArray, List.set_cons_zero, List.set_cons_succ]
                      refine wpAnyH_ready (rs := [4, 10]) (by kernel_rfl) (by simp) ?_
                      refine AllReadyH.cons (by first | (simp only [List.getElem?_toArray, List.getElem?_cons_succ, List.getElem?_cons_zero] <;> rfl) | rfl) (fun K hK => ?_) ?_
                      · go_simp
                        have hR := pt_reads HL1.out.ptt HL1.out.l1 HL1.out.l2 HL1.out.l3
                        refine (polText_any nm d rs A1 n1 c1 hd pt A2 n2 c2 po A3 n3 c3 tb m7 _ HL1.out.l1 HL1.out.l2 HL1.out.l3 HGd.out HOk.out hR.1 (hR.2 tb m7 HI.out.pr.ts) HI.out.pr.ts (by omega) (HE.out.kept HI.out.b)).mono ?_
                        clear hR
                        rintro e vh3 ⟨rfl, hTS, hgr⟩
                        refine hK.out _ _ ?_ (fun hHeld3 => ?_)
                        · exact six_grow hHeld2 hgr (HL1.out.bk.tyb.ne (TS.tyb HI.out.pr.ts) (by decide))
                        clear hK K
                        first | (clear y0 yz0 y1 yz1 y2 yz2 y3 yz3 y4 yz4 y5 yz5 yl) | skip
                        first | (clear z0 zz0 z1 zz1 z2 zz2 zl) | skip
                        first | (clear hne2) | skip
                        first | (clear hne) | skip
                        first | (have HN7 := Lib.hid (HN7.out.grown hgr (by intro e; exact (HN7.out.tyb.ne (TS.tyb HI.out.pr.ts) (by decide)) (Option.some.inj e)))) | skip
                        first | (have HN8 := Lib.hid (HN8.out.grown hgr (by intro e; exact (HN8.out.tyb.ne (TS.tyb HI.out.pr.ts) (by decide)) (Option.some.inj e)))) | skip
                        have HL1 := Lib.hid (HL1.out.tab HI.out.pr.ts hgr)
                        have HI := Lib.hid (HI.out.tab hTS hgr)
                        clear hTS hgr hHeld2
                        first | (have y0 := HN7.out.cell 0 rfl; have yz0 := HN7.out.fz 0; have y1 := HN7.out.cell 1 rfl; have yz1 := HN7.out.fz 1; have y2 := HN7.out.cell 2 rfl; have yz2 := HN7.out.fz 2; have y3 := HN7.out.cell 3 rfl; have yz3 := HN7.out.fz 3; have y4 := HN7.out.cell 4 rfl; have yz4 := HN7.out.fz 4; have y5 := HN7.out.cell 5 rfl; have yz5 := HN7.out.fz 5; have yl := HN7.out.lt) | skip
                        first | (have z0 := HN8.out.cell 0 rfl; have zz0 := HN8.out.fz 0; have z1 := HN8.out.cell 1 rfl; have zz1 := HN8.out.fz 1; have z2 := HN8.out.cell 2 rfl; have zz2 := HN8.out.fz 2; have zl := HN8.out.lt) | skip
                        first | (have hne := HN7.out.tyb.ne HN8.out.tyb (by decide); have hne2 : g8 ≠ g7 := Ne.symm hne) | skip
                        try simp only [Act.put, List.setIfInBounds_toArray, List.set_cons_zero, List.set_cons_succ]
                        refine wpAnyH_ready (rs := [5, 10]) (by kernel_rfl) (by simp) ?_
                        refine AllReadyH.cons (by first | (simp only [List.getElem?_toArray, List.getElem?_cons_succ, List.getElem?_cons_zero] <;> rfl) | rfl) (fun K hK => ?_) ?_
                        · go_simp
                          have hp := parse_any ⟨(textP ⟨nm, d, rs.map RuleV.m, hd, pt, po⟩).toArray⟩ pb tb (m7 + n1) qa _ HI.out.pr (HE.out.kept HI.out.b).g (by have := Hn1.out; omega)
                          rw [show (⟨(textP ⟨nm, d, rs.map RuleV.m, hd, pt, po⟩).toArray⟩ : ByteArray).data.toList = textP ⟨nm, d, rs.map RuleV.m, hd, pt, po⟩ from rfl, HBack.out] at hp
                          refine hp.mono ?_
                          clear hp
                          rintro e vh4 ⟨T2, rfl, hTm, hPT, hTS, hgr, hSz⟩
                          obtain ⟨v2, hT2, j1, j2, j3, j4, j5⟩ := pt_open hPT
                          obtain ⟨mnm, md, mhd, mrv, mbv, mqv, mrs, mpt, mpo⟩ := T2
                          obtain ⟨B1, k1, e1, B2, k2, e2, B3, k3, e3⟩ := v2
                          simp only [tv, TV.mk.injEq] at hT2
                          obtain ⟨-, -, -, rfl, rfl, rfl, -, -, -⟩ := hT2
                          simp only [TV.m] at hTm hSz
                          simp only at j1 j2 j3 j4 j5
                          have HTm := Lib.hid hTm
                          have HSz2 := Lib.hid hSz
                          have HJ := Lib.hid (And.intro j1 (And.intro j2 (And.intro j3 (And.intro j4 j5))))
                          simp only [TV.l, wrl, noW]
                          refine hK.out _ _ ?_ (fun hHeld4 => ?_)
                          · exact six_grow hHeld3 hgr (HL1.out.bk.tyb.ne (TS.tyb HI.out.pr.ts) (by decide))
                          clear hK K
                          first | (clear y0 yz0 y1 yz1 y2 yz2 y3 yz3 y4 yz4 y5 yz5 yl) | skip
                          first | (clear z0 zz0 z1 zz1 z2 zz2 zl) | skip
                          first | (clear hne2) | skip
                          first | (clear hne) | skip
                          first | (have HN7 := Lib.hid (HN7.out.grown hgr (by intro e; exact (HN7.out.tyb.ne (TS.tyb HI.out.pr.ts) (by decide)) (Option.some.inj e)))) | skip
                          first | (have HN8 := Lib.hid (HN8.out.grown hgr (by intro e; exact (HN8.out.tyb.ne (TS.tyb HI.out.pr.ts) (by decide)) (Option.some.inj e)))) | skip
                          have HL1 := Lib.hid (HL1.out.tab HI.out.pr.ts hgr)
                          have HI := Lib.hid (HI.out.tab hTS hgr)
                          have HP2 := Lib.hid hPT
                          clear hPT hTS hgr hHeld3 hTm hSz j1 j2 j3 j4 j5
                          first | (have y0 := HN7.out.cell 0 rfl; have yz0 := HN7.out.fz 0; have y1 := HN7.out.cell 1 rfl; have yz1 := HN7.out.fz 1; have y2 := HN7.out.cell 2 rfl; have yz2 := HN7.out.fz 2; have y3 := HN7.out.cell 3 rfl; have yz3 := HN7.out.fz 3; have y4 := HN7.out.cell 4 rfl; have yz4 := HN7.out.fz 4; have y5 := HN7.out.cell 5 rfl; have yz5 := HN7.out.fz 5; have yl := HN7.out.lt) | skip
                          first | (have z0 := HN8.out.cell 0 rfl; have zz0 := HN8.out.fz 0; have z1 := HN8.out.cell 1 rfl; have zz1 := HN8.out.fz 1; have z2 := HN8.out.cell 2 rfl; have zz2 := HN8.out.fz 2; have zl := HN8.out.lt) | skip
                          first | (have hne := HN7.out.tyb.ne HN8.out.tyb (by decide); have hne2 : g8 ≠ g7 := Ne.symm hne) | skip
                          try simp only [Act.put, List.setIfInBounds_toArray, List.set_cons_zero, List.set_cons_succ]
                          refine wpAnyH_take (i := 6) (v := ?_) (by first | (simp only [List.getElem?_toArray, List.getElem?_cons_succ, List.getElem?_cons_zero] <;> rfl) | rfl) (by kernel_rfl) (by kernel_rfl) (by kernel_rfl) (by exact fun _ _ _ h => h) (Or.inl ⟨by rfl, ?_⟩) hHeld4 ?_
                          rotate_left 1
                          · intro w hSw
                            try dsimp only at hSw
                            (go_simp) <;> (with_reducible rfl)
                          try simp only [Act.put, List.setIfInBounds_toArray, List.set_cons_zero, List.set_cons_succ]
                          refine wpAnyH_take (i := 7) (v := ?_) (by first | (simp only [List.getElem?_toArray, List.getElem?_cons_succ, List.getElem?_cons_zero] <;> rfl) | rfl) (by kernel_rfl) (by kernel_rfl) (by kernel_rfl) (by exact fun _ _ _ h => h) (Or.inl ⟨by rfl, ?_⟩) hHeld4 ?_
                          rotate_left 1
                          · intro w hSw
                            try dsimp only at hSw
                            (go_simp) <;> (with_reducible rfl)
                          try simp only [Act.put, List.setIfInBounds_toArray, List.set_cons_zero, List.set_cons_succ]
                          refine wpAnyH_take (i := 8) (v := ?_) (by first | (simp only [List.getElem?_toArray, List.getElem?_cons_succ, List.getElem?_cons_zero] <;> rfl) | rfl) (by kernel_rfl) (by kernel_rfl) (by kernel_rfl) (by exact fun _ _ _ h => h) (Or.inl ⟨by rfl, ?_⟩) hHeld4 ?_
                          rotate_left 1
                          · intro w hSw
                            try dsimp only at hSw
                            (go_simp) <;> (with_reducible rfl)
                          try simp only [Act.put, List.setIfInBounds_toArray, List.set_cons_zero, List.set_cons_succ]
                          refine wpAnyH_ready (rs := [10]) (by kernel_rfl) (by simp) ?_
                          refine AllReadyH.cons (by first | (simp only [List.getElem?_toArray, List.getElem?_cons_succ, List.getElem?_cons_zero] <;> rfl) | rfl) (fun K hK => ?_) ?_
                          · go_simp
                            refine hK.out _ _ ?_ (fun hHeld5 => ?_)
                            · exact six_below hHeld4 (oneb _ _)
                            clear hK K
                            first | (clear y0 yz0 y1 yz1 y2 yz2 y3 yz3 y4 yz4 y5 yz5 yl) | skip
                            first | (clear z0 zz0 z1 zz1 z2 zz2 zl) | skip
                            first | (clear hne2) | skip
                            first | (clear hne) | skip
                            have hbb := oneb vh4 (.cells #[.int .i64 0, .int .i64 0, .int .i64 0] 48)
                            have hN := Bk.new vh4 48 #[.int .i64 0, .int .i64 0, .int .i64 0] (l := [.int .i64 0, .int .i64 0, .int .i64 0]) rfl
                            have hge := HI.out.b.size
                            have hg1 : g12 ≠ vh4.heap.size := Nat.ne_of_lt HL1.out.bk.lt
                            generalize World.alloc vh4 _ = vh5 at hbb hN hHeld5 ⊢
                            have HI := Lib.hid (HI.out.below hbb)
                            have HL1 := Lib.hid (HL1.out.below hbb)
                            first | (have HP2 := Lib.hid (PT.below HP2.out hbb)) | skip
                            first | (have HN7 := Lib.hid (HN7.out.kept hbb)) | skip
                            first | (have HN8 := Lib.hid (HN8.out.kept hbb)) | skip
                            generalize vh4.heap.size = g8 at hN hge hg1 ⊢
                            have HN8 := Lib.hid hN
                            have HG8 := Lib.hid hge
                            have HD8 := Lib.hid hg1
                            clear hbb hN hge hg1 hHeld4
                            first | (have y0 := HN7.out.cell 0 rfl; have yz0 := HN7.out.fz 0; have y1 := HN7.out.cell 1 rfl; have yz1 := HN7.out.fz 1; have y2 := HN7.out.cell 2 rfl; have yz2 := HN7.out.fz 2; have y3 := HN7.out.cell 3 rfl; have yz3 := HN7.out.fz 3; have y4 := HN7.out.cell 4 rfl; have yz4 := HN7.out.fz 4; have y5 := HN7.out.cell 5 rfl; have yz5 := HN7.out.fz 5; have yl := HN7.out.lt) | skip
                            first | (have z0 := HN8.out.cell 0 rfl; have zz0 := HN8.out.fz 0; have z1 := HN8.out.cell 1 rfl; have zz1 := HN8.out.fz 1; have z2 := HN8.out.cell 2 rfl; have zz2 := HN8.out.fz 2; have zl := HN8.out.lt) | skip
                            first | (have hne := HN7.out.tyb.ne HN8.out.tyb (by decide); have hne2 : g8 ≠ g7 := Ne.symm hne) | skip
                            try simp only [Act.put, List.setIfInBounds_toArray, List.set_cons_zero, List.set_cons_succ]
                            refine wpAnyH_ready (rs := [11]) (by kernel_rfl) (by simp) ?_
                            refine AllReadyH.cons (by first | (simp only [List.getElem?_toArray, List.getElem?_cons_succ, List.getElem?_cons_zero] <;> rfl) | rfl) (fun K hK => ?_) ?_
                            · go_simp
                              refine hK.out _ _ ?_ (fun hHeld6 => ?_)
                              · exact six_grow hHeld5 (set6_grown _ _ _ _ _ _ _ _) HD7.out
                              clear hK K
                              try simp only [Act.put, List.setIfInBounds_toArray, List.set_cons_zero, List.set_cons_succ]
                              refine wpAnyH_ready (rs := [12]) (by kernel_rfl) (by simp) ?_
                              refine AllReadyH.cons (by first | (simp only [List.getElem?_toArray, List.getElem?_cons_succ, List.getElem?_cons_zero] <;> rfl) | rfl) (fun K hK => ?_) ?_
                              · go_simp
                                refine hK.out _ _ ?_ (fun hHeld7 => ?_)
                                · exact six_grow (six_grow hHeld5 (set6_grown _ _ _ _ _ _ _ _) HD7.out) (set3_grown _ _ _ _ _) HD8.out
                                clear hK K
                                try simp only [Act.put, List.setIfInBounds_toArray, List.set_cons_zero, List.set_cons_succ]
                                refine wpAnyH_done (by kernel_rfl) ?_ _
                                clear y0 yz0 y1 yz1 y2 yz2 y3 yz3 y4 yz4 y5 yz5 yl z0 zz0 z1 zz1 z2 zz2 zl
                                go_wp2_with fail
                                go_meet
                                case rel =>
                                  exact any_two (v2 := ⟨B1, k1, e1, B2, k2, e2, B3, k3, e3⟩) (nm2 := mnm) (d2 := md) (hd2 := mhd) (rs2 := mrs) (pt2 := mpt) (po2 := mpo) HI.out HP2.out HJ.out HSz2.out HTm.out HN7.out HN8.out HG7.out HG8.out HL1.out HD7.out rfl
                              exact AllReadyH.nil
                            exact AllReadyH.nil
                          exact AllReadyH.nil
                        refine AllReadyH.cons (by first | (simp only [List.getElem?_toArray, List.getElem?_cons_succ, List.getElem?_cons_zero] <;> rfl) | rfl) (fun K hK => ?_) ?_
                        · go_simp
                          refine hK.out _ _ ?_ (fun hHeld4 => ?_)
                          · exact six_below hHeld3 (oneb _ _)
                          clear hK K
                          first | (clear y0 yz0 y1 yz1 y2 yz2 y3 yz3 y4 yz4 y5 yz5 yl) | skip
                          first | (clear z0 zz0 z1 zz1 z2 zz2 zl) | skip
                          first | (clear hne2) | skip
                          first | (clear hne) | skip
                          have hbb := oneb vh3 (.cells #[.int .i64 0, .int .i64 0, .int .i64 0] 48)
                          have hN := Bk.new vh3 48 #[.int .i64 0, .int .i64 0, .int .i64 0] (l := [.int .i64 0, .int .i64 0, .int .i64 0]) rfl
                          have hge := HI.out.b.size
                          have hg1 : g12 ≠ vh3.heap.size := Nat.ne_of_lt HL1.out.bk.lt
                          generalize World.alloc vh3 _ = vh4 at hbb hN hHeld4 ⊢
                          have HI := Lib.hid (HI.out.below hbb)
                          have HL1 := Lib.hid (HL1.out.below hbb)
                          first | (have HP2 := Lib.hid (PT.below HP2.out hbb)) | skip
                          first | (have HN7 := Lib.hid (HN7.out.kept hbb)) | skip
                          first | (have HN8 := Lib.hid (HN8.out.kept hbb)) | skip
                          generalize vh3.heap.size = g8 at hN hge hg1 ⊢
                          have HN8 := Lib.hid hN
                          have HG8 := Lib.hid hge
                          have HD8 := Lib.hid hg1
                          clear hbb hN hge hg1 hHeld3
                          first | (have y0 := HN7.out.cell 0 rfl; have yz0 := HN7.out.fz 0; have y1 := HN7.out.cell 1 rfl; have yz1 := HN7.out.fz 1; have y2 := HN7.out.cell 2 rfl; have yz2 := HN7.out.fz 2; have y3 := HN7.out.cell 3 rfl; have yz3 := HN7.out.fz 3; have y4 := HN7.out.cell 4 rfl; have yz4 := HN7.out.fz 4; have y5 := HN7.out.cell 5 rfl; have yz5 := HN7.out.fz 5; have yl := HN7.out.lt) | skip
                          first | (have z0 := HN8.out.cell 0 rfl; have zz0 := HN8.out.fz 0; have z1 := HN8.out.cell 1 rfl; have zz1 := HN8.out.fz 1; have z2 := HN8.out.cell 2 rfl; have zz2 := HN8.out.fz 2; have zl := HN8.out.lt) | skip
                          first | (have hne := HN7.out.tyb.ne HN8.out.tyb (by decide); have hne2 : g8 ≠ g7 := Ne.symm hne) | skip
                          try simp only [Act.put, List.setIfInBounds_toArray, List.set_cons_zero, List.set_cons_succ]
                          refine wpAnyH_ready (rs := [5]) (by kernel_rfl) (by simp) ?_
                          refine AllReadyH.cons (by first | (simp only [List.getElem?_toArray, List.getElem?_cons_succ, List.getElem?_cons_zero] <;> rfl) | rfl) (fun K hK => ?_) ?_
                          · go_simp
                            have hp := parse_any ⟨(textP ⟨nm, d, rs.map RuleV.m, hd, pt, po⟩).toArray⟩ pb tb (m7 + n1) qa _ HI.out.pr (HE.out.kept HI.out.b).g (by have := Hn1.out; omega)
                            rw [show (⟨(textP ⟨nm, d, rs.map RuleV.m, hd, pt, po⟩).toArray⟩ : ByteArray).data.toList = textP ⟨nm, d, rs.map RuleV.m, hd, pt, po⟩ from rfl, HBack.out] at hp
                            refine hp.mono ?_
                            clear hp
                            rintro e vh5 ⟨T2, rfl, hTm, hPT, hTS, hgr, hSz⟩
                            obtain ⟨v2, hT2, j1, j2, j3, j4, j5⟩ := pt_open hPT
                            obtain ⟨mnm, md, mhd, mrv, mbv, mqv, mrs, mpt, mpo⟩ := T2
                            obtain ⟨B1, k1, e1, B2, k2, e2, B3, k3, e3⟩ := v2
                            simp only [tv, TV.mk.injEq] at hT2
                            obtain ⟨-, -, -, rfl, rfl, rfl, -, -, -⟩ := hT2
                            simp only [TV.m] at hTm hSz
                            simp only at j1 j2 j3 j4 j5
                            have HTm := Lib.hid hTm
                            have HSz2 := Lib.hid hSz
                            have HJ := Lib.hid (And.intro j1 (And.intro j2 (And.intro j3 (And.intro j4 j5))))
                            simp only [TV.l, wrl, noW]
                            refine hK.out _ _ ?_ (fun hHeld5 => ?_)
                            · exact six_grow hHeld4 hgr (HL1.out.bk.tyb.ne (TS.tyb HI.out.pr.ts) (by decide))
                            clear hK K
                            first | (clear y0 yz0 y1 yz1 y2 yz2 y3 yz3 y4 yz4 y5 yz5 yl) | skip
                            first | (clear z0 zz0 z1 zz1 z2 zz2 zl) | skip
                            first | (clear hne2) | skip
                            first | (clear hne) | skip
                            first | (have HN7 := Lib.hid (HN7.out.grown hgr (by intro e; exact (HN7.out.tyb.ne (TS.tyb HI.out.pr.ts) (by decide)) (Option.some.inj e)))) | skip
                            first | (have HN8 := Lib.hid (HN8.out.grown hgr (by intro e; exact (HN8.out.tyb.ne (TS.tyb HI.out.pr.ts) (by decide)) (Option.some.inj e)))) | skip
                            have HL1 := Lib.hid (HL1.out.tab HI.out.pr.ts hgr)
                            have HI := Lib.hid (HI.out.tab hTS hgr)
                            have HP2 := Lib.hid hPT
                            clear hPT hTS hgr hHeld4 hTm hSz j1 j2 j3 j4 j5
                            first | (have y0 := HN7.out.cell 0 rfl; have yz0 := HN7.out.fz 0; have y1 := HN7.out.cell 1 rfl; have yz1 := HN7.out.fz 1; have y2 := HN7.out.cell 2 rfl; have yz2 := HN7.out.fz 2; have y3 := HN7.out.cell 3 rfl; have yz3 := HN7.out.fz 3; have y4 := HN7.out.cell 4 rfl; have yz4 := HN7.out.fz 4; have y5 := HN7.out.cell 5 rfl; have yz5 := HN7.out.fz 5; have yl := HN7.out.lt) | skip
                            first | (have z0 := HN8.out.cell 0 rfl; have zz0 := HN8.out.fz 0; have z1 := HN8.out.cell 1 rfl; have zz1 := HN8.out.fz 1; have z2 := HN8.out.cell 2 rfl; have zz2 := HN8.out.fz 2; have zl := HN8.out.lt) | skip
                            first | (have hne := HN7.out.tyb.ne HN8.out.tyb (by decide); have hne2 : g8 ≠ g7 := Ne.symm hne) | skip
                            try simp only [Act.put, List.setIfInBounds_toArray, List.set_cons_zero, List.set_cons_succ]
                            refine wpAnyH_take (i := 6) (v := ?_) (by first | (simp only [List.getElem?_toArray, List.getElem?_cons_succ, List.getElem?_cons_zero] <;> rfl) | rfl) (by kernel_rfl) (by kernel_rfl) (by kernel_rfl) (by exact fun _ _ _ h => h) (Or.inl ⟨by rfl, ?_⟩) hHeld5 ?_
                            rotate_left 1
                            · intro w hSw
                              try dsimp only at hSw
                              (go_simp) <;> (with_reducible rfl)
                            try simp only [Act.put, List.setIfInBounds_toArray, List.set_cons_zero, List.set_cons_succ]
                            refine wpAnyH_take (i := 7) (v := ?_) (by first | (simp only [List.getElem?_toArray, List.getElem?_cons_succ, List.getElem?_cons_zero] <;> rfl) | rfl) (by kernel_rfl) (by kernel_rfl) (by kernel_rfl) (by exact fun _ _ _ h => h) (Or.inl ⟨by rfl, ?_⟩) hHeld5 ?_
                            rotate_left 1
                            · intro w hSw
                              try dsimp only at hSw
                              (go_simp) <;> (with_reducible rfl)
                            try simp only [Act.put, List.setIfInBounds_toArray, List.set_cons_zero, List.set_cons_succ]
                            refine wpAnyH_take (i := 8) (v := ?_) (by first | (simp only [List.getElem?_toArray, List.getElem?_cons_succ, List.getElem?_cons_zero] <;> rfl) | rfl) (by kernel_rfl) (by kernel_rfl) (by kernel_rfl) (by exact fun _ _ _ h => h) (Or.inl ⟨by rfl, ?_⟩) hHeld5 ?_
                            rotate_left 1
                            · intro w hSw
                              try dsimp only at hSw
                              (go_simp) <;> (with_reducible rfl)
                            try simp only [Act.put, List.setIfInBounds_toArray, List.set_cons_zero, List.set_cons_succ]
                            refine wpAnyH_ready (rs := [11]) (by kernel_rfl) (by simp) ?_
                            refine AllReadyH.cons (by first | (simp only [List.getElem?_toArray, List.getElem?_cons_succ, List.getElem?_cons_zero] <;> rfl) | rfl) (fun K hK => ?_) ?_
                            · go_simp
                              refine hK.out _ _ ?_ (fun hHeld6 => ?_)
                              · exact six_grow hHeld5 (set6_grown _ _ _ _ _ _ _ _) HD7.out
                              clear hK K
                              try simp only [Act.put, List.setIfInBounds_toArray, List.set_cons_zero, List.set_cons_succ]
                              refine wpAnyH_ready (rs := [12]) (by kernel_rfl) (by simp) ?_
                              refine AllReadyH.cons (by first | (simp only [List.getElem?_toArray, List.getElem?_cons_succ, List.getElem?_cons_zero] <;> rfl) | rfl) (fun K hK => ?_) ?_
                              · go_simp
                                refine hK.out _ _ ?_ (fun hHeld7 => ?_)
                                · exact six_grow (six_grow hHeld5 (set6_grown _ _ _ _ _ _ _ _) HD7.out) (set3_grown _ _ _ _ _) HD8.out
                                clear hK K
                                try simp only [Act.put, List.setIfInBounds_toArray, List.set_cons_zero, List.set_cons_succ]
                                refine wpAnyH_done (by kernel_rfl) ?_ _
                                clear y0 yz0 y1 yz1 y2 yz2 y3 yz3 y4 yz4 y5 yz5 yl z0 zz0 z1 zz1 z2 zz2 zl
                                go_wp2_with fail
                                go_meet
                                case rel =>
                                  exact any_two (v2 := ⟨B1, k1, e1, B2, k2, e2, B3, k3, e3⟩) (nm2 := mnm) (d2 := md) (hd2 := mhd) (rs2 := mrs) (pt2 := mpt) (po2 := mpo) HI.out HP2.out HJ.out HSz2.out HTm.out HN7.out HN8.out HG7.out HG8.out HL1.out HD7.out rfl
                              exact AllReadyH.nil
                            exact AllReadyH.nil
                          exact AllReadyH.nil
                        exact AllReadyH.nil
                      refine AllReadyH.cons (by first | (simp only [List.getElem?_toArray, List.getElem?_cons_succ, List.getElem?_cons_zero] <;> rfl) | rfl) (fun K hK => ?_) ?_
                      · go_simp
                        refine hK.out _ _ ?_ (fun hHeld3 => ?_)
                        · exact six_below hHeld2 (oneb _ _)
                        clear hK K
                        first | (clear y0 yz0 y1 yz1 y2 yz2 y3 yz3 y4 yz4 y5 yz5 yl) | skip
                        first | (clear z0 zz0 z1 zz1 z2 zz2 zl) | skip
                        first | (clear hne2) | skip
                        first | (clear hne) | skip
                        have hbb := oneb vh2 (.cells #[.int .i64 0, .int .i64 0, .int .i64 0] 48)
                        have hN := Bk.new vh2 48 #[.int .i64 0, .int .i64 0, .int .i64 0] (l := [.int .i64 0, .int .i64 0, .int .i64 0]) rfl
                        have hge := HI.out.b.size
                        have hg1 : g12 ≠ vh2.heap.size := Nat.ne_of_lt HL1.out.bk.lt
                        generalize World.alloc vh2 _ = vh3 at hbb hN hHeld3 ⊢
                        have HI := Lib.hid (HI.out.below hbb)
                        have HL1 := Lib.hid (HL1.out.below hbb)
                        first | (have HP2 := Lib.hid (PT.below HP2.out hbb)) | skip
                        first | (have HN7 := Lib.hid (HN7.out.kept hbb)) | skip
                        first | (have HN8 := Lib.hid (HN8.out.kept hbb)) | skip
                        generalize vh2.heap.size = g8 at hN hge hg1 ⊢
                        have HN8 := Lib.hid hN
                        have HG8 := Lib.hid hge
                        have HD8 := Lib.hid hg1
                        clear hbb hN hge hg1 hHeld2
                        first | (have y0 := HN7.out.cell 0 rfl; have yz0 := HN7.out.fz 0; have y1 := HN7.out.cell 1 rfl; have yz1 := HN7.out.fz 1; have y2 := HN7.out.cell 2 rfl; have yz2 := HN7.out.fz 2; have y3 := HN7.out.cell 3 rfl; have yz3 := HN7.out.fz 3; have y4 := HN7.out.cell 4 rfl; have yz4 := HN7.out.fz 4; have y5 := HN7.out.cell 5 rfl; have yz5 := HN7.out.fz 5; have yl := HN7.out.lt) | skip
                        first | (have z0 := HN8.out.cell 0 rfl; have zz0 := HN8.out.fz 0; have z1 := HN8.out.cell 1 rfl; have zz1 := HN8.out.fz 1; have z2 := HN8.out.cell 2 rfl; have zz2 := HN8.out.fz 2; have zl := HN8.out.lt) | skip
                        first | (have hne := HN7.out.tyb.ne HN8.out.tyb (by decide); have hne2 : g8 ≠ g7 := Ne.symm hne) | skip
                        try simp only [Act.put, List.setIfInBounds_toArray, List.set_cons_zero, List.set_cons_succ]
                        refine wpAnyH_ready (rs := [4]) (by kernel_rfl) (by simp) ?_
                        refine AllReadyH.cons (by first | (simp only [List.getElem?_toArray, List.getElem?_cons_succ, List.getElem?_cons_zero] <;> rfl) | rfl) (fun K hK => ?_) ?_
                        · go_simp
                          have hR := pt_reads HL1.out.ptt HL1.out.l1 HL1.out.l2 HL1.out.l3
                          refine (polText_any nm d rs A1 n1 c1 hd pt A2 n2 c2 po A3 n3 c3 tb m7 _ HL1.out.l1 HL1.out.l2 HL1.out.l3 HGd.out HOk.out hR.1 (hR.2 tb m7 HI.out.pr.ts) HI.out.pr.ts (by omega) (HE.out.kept HI.out.b)).mono ?_
                          clear hR
                          rintro e vh4 ⟨rfl, hTS, hgr⟩
                          refine hK.out _ _ ?_ (fun hHeld4 => ?_)
                          · exact six_grow hHeld3 hgr (HL1.out.bk.tyb.ne (TS.tyb HI.out.pr.ts) (by decide))
                          clear hK K
                          first | (clear y0 yz0 y1 yz1 y2 yz2 y3 yz3 y4 yz4 y5 yz5 yl) | skip
                          first | (clear z0 zz0 z1 zz1 z2 zz2 zl) | skip
                          first | (clear hne2) | skip
                          first | (clear hne) | skip
                          first | (have HN7 := Lib.hid (HN7.out.grown hgr (by intro e; exact (HN7.out.tyb.ne (TS.tyb HI.out.pr.ts) (by decide)) (Option.some.inj e)))) | skip
                          first | (have HN8 := Lib.hid (HN8.out.grown hgr (by intro e; exact (HN8.out.tyb.ne (TS.tyb HI.out.pr.ts) (by decide)) (Option.some.inj e)))) | skip
                          have HL1 := Lib.hid (HL1.out.tab HI.out.pr.ts hgr)
                          have HI := Lib.hid (HI.out.tab hTS hgr)
                          clear hTS hgr hHeld3
                          first | (have y0 := HN7.out.cell 0 rfl; have yz0 := HN7.out.fz 0; have y1 := HN7.out.cell 1 rfl; have yz1 := HN7.out.fz 1; have y2 := HN7.out.cell 2 rfl; have yz2 := HN7.out.fz 2; have y3 := HN7.out.cell 3 rfl; have yz3 := HN7.out.fz 3; have y4 := HN7.out.cell 4 rfl; have yz4 := HN7.out.fz 4; have y5 := HN7.out.cell 5 rfl; have yz5 := HN7.out.fz 5; have yl := HN7.out.lt) | skip
                          first | (have z0 := HN8.out.cell 0 rfl; have zz0 := HN8.out.fz 0; have z1 := HN8.out.cell 1 rfl; have zz1 := HN8.out.fz 1; have z2 := HN8.out.cell 2 rfl; have zz2 := HN8.out.fz 2; have zl := HN8.out.lt) | skip
                          first | (have hne := HN7.out.tyb.ne HN8.out.tyb (by decide); have hne2 : g8 ≠ g7 := Ne.symm hne) | skip
                          try simp only [Act.put, List.setIfInBounds_toArray, List.set_cons_zero, List.set_cons_succ]
                          refine wpAnyH_ready (rs := [5]) (by kernel_rfl) (by simp) ?_
                          refine AllReadyH.cons (by first | (simp only [List.getElem?_toArray, List.getElem?_cons_succ, List.getElem?_cons_zero] <;> rfl) | rfl) (fun K hK => ?_) ?_
                          · go_simp
                            have hp := parse_any ⟨(textP ⟨nm, d, rs.map RuleV.m, hd, pt, po⟩).toArray⟩ pb tb (m7 + n1) qa _ HI.out.pr (HE.out.kept HI.out.b).g (by have := Hn1.out; omega)
                            rw [show (⟨(textP ⟨nm, d, rs.map RuleV.m, hd, pt, po⟩).toArray⟩ : ByteArray).data.toList = textP ⟨nm, d, rs.map RuleV.m, hd, pt, po⟩ from rfl, HBack.out] at hp
                            refine hp.mono ?_
                            clear hp
                            rintro e vh5 ⟨T2, rfl, hTm, hPT, hTS, hgr, hSz⟩
                            obtain ⟨v2, hT2, j1, j2, j3, j4, j5⟩ := pt_open hPT
                            obtain ⟨mnm, md, mhd, mrv, mbv, mqv, mrs, mpt, mpo⟩ := T2
                            obtain ⟨B1, k1, e1, B2, k2, e2, B3, k3, e3⟩ := v2
                            simp only [tv, TV.mk.injEq] at hT2
                            obtain ⟨-, -, -, rfl, rfl, rfl, -, -, -⟩ := hT2
                            simp only [TV.m] at hTm hSz
                            simp only at j1 j2 j3 j4 j5
                            have HTm := Lib.hid hTm
                            have HSz2 := Lib.hid hSz
                            have HJ := Lib.hid (And.intro j1 (And.intro j2 (And.intro j3 (And.intro j4 j5))))
                            simp only [TV.l, wrl, noW]
                            refine hK.out _ _ ?_ (fun hHeld5 => ?_)
                            · exact six_grow hHeld4 hgr (HL1.out.bk.tyb.ne (TS.tyb HI.out.pr.ts) (by decide))
                            clear hK K
                            first | (clear y0 yz0 y1 yz1 y2 yz2 y3 yz3 y4 yz4 y5 yz5 yl) | skip
                            first | (clear z0 zz0 z1 zz1 z2 zz2 zl) | skip
                            first | (clear hne2) | skip
                            first | (clear hne) | skip
                            first | (have HN7 := Lib.hid (HN7.out.grown hgr (by intro e; exact (HN7.out.tyb.ne (TS.tyb HI.out.pr.ts) (by decide)) (Option.some.inj e)))) | skip
                            first | (have HN8 := Lib.hid (HN8.out.grown hgr (by intro e; exact (HN8.out.tyb.ne (TS.tyb HI.out.pr.ts) (by decide)) (Option.some.inj e)))) | skip
                            have HL1 := Lib.hid (HL1.out.tab HI.out.pr.ts hgr)
                            have HI := Lib.hid (HI.out.tab hTS hgr)
                            have HP2 := Lib.hid hPT
                            clear hPT hTS hgr hHeld4 hTm hSz j1 j2 j3 j4 j5
                            first | (have y0 := HN7.out.cell 0 rfl; have yz0 := HN7.out.fz 0; have y1 := HN7.out.cell 1 rfl; have yz1 := HN7.out.fz 1; have y2 := HN7.out.cell 2 rfl; have yz2 := HN7.out.fz 2; have y3 := HN7.out.cell 3 rfl; have yz3 := HN7.out.fz 3; have y4 := HN7.out.cell 4 rfl; have yz4 := HN7.out.fz 4; have y5 := HN7.out.cell 5 rfl; have yz5 := HN7.out.fz 5; have yl := HN7.out.lt) | skip
                            first | (have z0 := HN8.out.cell 0 rfl; have zz0 := HN8.out.fz 0; have z1 := HN8.out.cell 1 rfl; have zz1 := HN8.out.fz 1; have z2 := HN8.out.cell 2 rfl; have zz2 := HN8.out.fz 2; have zl := HN8.out.lt) | skip
                            first | (have hne := HN7.out.tyb.ne HN8.out.tyb (by decide); have hne2 : g8 ≠ g7 := Ne.symm hne) | skip
                            try simp only [Act.put, List.setIfInBounds_toArray, List.set_cons_zero, List.set_cons_succ]
                            refine wpAnyH_take (i := 6) (v := ?_) (by first | (simp only [List.getElem?_toArray, List.getElem?_cons_succ, List.getElem?_cons_zero] <;> rfl) | rfl) (by kernel_rfl) (by kernel_rfl) (by kernel_rfl) (by exact fun _ _ _ h => h) (Or.inl ⟨by rfl, ?_⟩) hHeld5 ?_
                            rotate_left 1
                            · intro w hSw
                              try dsimp only at hSw
                              (go_simp) <;> (with_reducible rfl)
                            try simp only [Act.put, List.setIfInBounds_toArray, List.set_cons_zero, List.set_cons_succ]
                            refine wpAnyH_take (i := 7) (v := ?_) (by first | (simp only [List.getElem?_toArray, List.getElem?_cons_succ, List.getElem?_cons_zero] <;> rfl) | rfl) (by kernel_rfl) (by kernel_rfl) (by kernel_rfl) (by exact fun _ _ _ h => h) (Or.inl ⟨by rfl, ?_⟩) hHeld5 ?_
                            rotate_left 1
                            · intro w hSw
                              try dsimp only at hSw
                              (go_simp) <;> (with_reducible rfl)
                            try simp only [Act.put, List.setIfInBounds_toArray, List.set_cons_zero, List.set_cons_succ]
                            refine wpAnyH_take (i := 8) (v := ?_) (by first | (simp only [List.getElem?_toArray, List.getElem?_cons_succ, List.getElem?_cons_zero] <;> rfl) | rfl) (by kernel_rfl) (by kernel_rfl) (by kernel_rfl) (by exact fun _ _ _ h => h) (Or.inl ⟨by rfl, ?_⟩) hHeld5 ?_
                            rotate_left 1
                            · intro w hSw
                              try dsimp only at hSw
                              (go_simp) <;> (with_reducible rfl)
                            try simp only [Act.put, List.setIfInBounds_toArray, List.set_cons_zero, List.set_cons_succ]
                            refine wpAnyH_ready (rs := [11]) (by kernel_rfl) (by simp) ?_
                            refine AllReadyH.cons (by first | (simp only [List.getElem?_toArray, List.getElem?_cons_succ, List.getElem?_cons_zero] <;> rfl) | rfl) (fun K hK => ?_) ?_
                            · go_simp
                              refine hK.out _ _ ?_ (fun hHeld6 => ?_)
                              · exact six_grow hHeld5 (set6_grown _ _ _ _ _ _ _ _) HD7.out
                              clear hK K
                              try simp only [Act.put, List.setIfInBounds_toArray, List.set_cons_zero, List.set_cons_succ]
                              refine wpAnyH_ready (rs := [12]) (by kernel_rfl) (by simp) ?_
                              refine AllReadyH.cons (by first | (simp only [List.getElem?_toArray, List.getElem?_cons_succ, List.getElem?_cons_zero] <;> rfl) | rfl) (fun K hK => ?_) ?_
                              · go_simp
                                refine hK.out _ _ ?_ (fun hHeld7 => ?_)
                                · exact six_grow (six_grow hHeld5 (set6_grown _ _ _ _ _ _ _ _) HD7.out) (set3_grown _ _ _ _ _) HD8.out
                                clear hK K
                                try simp only [Act.put, List.setIfInBounds_toArray, List.set_cons_zero, List.set_cons_succ]
                                refine wpAnyH_done (by kernel_rfl) ?_ _
                                clear y0 yz0 y1 yz1 y2 yz2 y3 yz3 y4 yz4 y5 yz5 yl z0 zz0 z1 zz1 z2 zz2 zl
                                go_wp2_with fail
                                go_meet
                                case rel =>
                                  exact any_two (v2 := ⟨B1, k1, e1, B2, k2, e2, B3, k3, e3⟩) (nm2 := mnm) (d2 := md) (hd2 := mhd) (rs2 := mrs) (pt2 := mpt) (po2 := mpo) HI.out HP2.out HJ.out HSz2.out HTm.out HN7.out HN8.out HG7.out HG8.out HL1.out HD7.out rfl
                              exact AllReadyH.nil
                            exact AllReadyH.nil
                          exact AllReadyH.nil
                        exact AllReadyH.nil
                      exact AllReadyH.nil
                    refine AllReadyH.cons (by first | (simp only [List.getElem?_toArray, List.getElem?_cons_succ, List.getElem?_cons_zero] <;> rfl) | rfl) (fun K hK => ?_) ?_
                    · go_simp
                      refine hK.out _ _ ?_ (fun hHeld2 => ?_)
                      · exact six_below hHeld1 (oneb _ _)
                      clear hK K
                      first | (clear y0 yz0 y1 yz1 y2 yz2 y3 yz3 y4 yz4 y5 yz5 yl) | skip
                      first | (clear z0 zz0 z1 zz1 z2 zz2 zl) | skip
                      first | (clear hne2) | skip
                      first | (clear hne) | skip
                      have hbb := oneb vh1 (.cells #[.int .i64 0, .int .i64 0, .int .i64 0] 48)
                      have hN := Bk.new vh1 48 #[.int .i64 0, .int .i64 0, .int .i64 0] (l := [.int .i64 0, .int .i64 0, .int .i64 0]) rfl
                      have hge := HI.out.b.size
                      have hg1 : g12 ≠ vh1.heap.size := Nat.ne_of_lt HL1.out.bk.lt
                      generalize World.alloc vh1 _ = vh2 at hbb hN hHeld2 ⊢
                      have HI := Lib.hid (HI.out.below hbb)
                      have HL1 := Lib.hid (HL1.out.below hbb)
                      first | (have HP2 := Lib.hid (PT.below HP2.out hbb)) | skip
                      first | (have HN7 := Lib.hid (HN7.out.kept hbb)) | skip
                      first | (have HN8 := Lib.hid (HN8.out.kept hbb)) | skip
                      generalize vh1.heap.size = g8 at hN hge hg1 ⊢
                      have HN8 := Lib.hid hN
                      have HG8 := Lib.hid hge
                      have HD8 := Lib.hid hg1
                      clear hbb hN hge hg1 hHeld1
                      first | (have y0 := HN7.out.cell 0 rfl; have yz0 := HN7.out.fz 0; have y1 := HN7.out.cell 1 rfl; have yz1 := HN7.out.fz 1; have y2 := HN7.out.cell 2 rfl; have yz2 := HN7.out.fz 2; have y3 := HN7.out.cell 3 rfl; have yz3 := HN7.out.fz 3; have y4 := HN7.out.cell 4 rfl; have yz4 := HN7.out.fz 4; have y5 := HN7.out.cell 5 rfl; have yz5 := HN7.out.fz 5; have yl := HN7.out.lt) | skip
                      first | (have z0 := HN8.out.cell 0 rfl; have zz0 := HN8.out.fz 0; have z1 := HN8.out.cell 1 rfl; have zz1 := HN8.out.fz 1; have z2 := HN8.out.cell 2 rfl; have zz2 := HN8.out.fz 2; have zl := HN8.out.lt) | skip
                      first | (have hne := HN7.out.tyb.ne HN8.out.tyb (by decide); have hne2 : g8 ≠ g7 := Ne.symm hne) | skip
                      try simp only [Act.put, List.setIfInBounds_toArray, List.set_cons_zero, List.set_cons_succ]
                      refine wpAnyH_ready (rs := [3]) (by kernel_rfl) (by simp) ?_
                      refine AllReadyH.cons (by first | (simp only [List.getElem?_toArray, List.getElem?_cons_succ, List.getElem?_cons_zero] <;> rfl) | rfl) (fun K hK => ?_) ?_
                      · go_simp
                        refine (parserCalls_any pb tb m7 qa _ HI.out.pr).mono ?_
                        rintro e vh3 ⟨rfl, rfl⟩
                        refine hK.out _ _ ?_ (fun hHeld3 => ?_)
                        · exact hHeld2
                        clear hK K
                        try simp only [Act.put, List.setIfInBounds_toArray, List.set_cons_zero, List.set_cons_succ]
                        refine wpAnyH_ready (rs := [4]) (by kernel_rfl) (by simp) ?_
                        refine AllReadyH.cons (by first | (simp only [List.getElem?_toArray, List.getElem?_cons_succ, List.getElem?_cons_zero] <;> rfl) | rfl) (fun K hK => ?_) ?_
                        · go_simp
                          have hR := pt_reads HL1.out.ptt HL1.out.l1 HL1.out.l2 HL1.out.l3
                          refine (polText_any nm d rs A1 n1 c1 hd pt A2 n2 c2 po A3 n3 c3 tb m7 _ HL1.out.l1 HL1.out.l2 HL1.out.l3 HGd.out HOk.out hR.1 (hR.2 tb m7 HI.out.pr.ts) HI.out.pr.ts (by omega) (HE.out.kept HI.out.b)).mono ?_
                          clear hR
                          rintro e vh4 ⟨rfl, hTS, hgr⟩
                          refine hK.out _ _ ?_ (fun hHeld4 => ?_)
                          · exact six_grow hHeld3 hgr (HL1.out.bk.tyb.ne (TS.tyb HI.out.pr.ts) (by decide))
                          clear hK K
                          first | (clear y0 yz0 y1 yz1 y2 yz2 y3 yz3 y4 yz4 y5 yz5 yl) | skip
                          first | (clear z0 zz0 z1 zz1 z2 zz2 zl) | skip
                          first | (clear hne2) | skip
                          first | (clear hne) | skip
                          first | (have HN7 := Lib.hid (HN7.out.grown hgr (by intro e; exact (HN7.out.tyb.ne (TS.tyb HI.out.pr.ts) (by decide)) (Option.some.inj e)))) | skip
                          first | (have HN8 := Lib.hid (HN8.out.grown hgr (by intro e; exact (HN8.out.tyb.ne (TS.tyb HI.out.pr.ts) (by decide)) (Option.some.inj e)))) | skip
                          have HL1 := Lib.hid (HL1.out.tab HI.out.pr.ts hgr)
                          have HI := Lib.hid (HI.out.tab hTS hgr)
                          clear hTS hgr hHeld3
                          first | (have y0 := HN7.out.cell 0 rfl; have yz0 := HN7.out.fz 0; have y1 := HN7.out.cell 1 rfl; have yz1 := HN7.out.fz 1; have y2 := HN7.out.cell 2 rfl; have yz2 := HN7.out.fz 2; have y3 := HN7.out.cell 3 rfl; have yz3 := HN7.out.fz 3; have y4 := HN7.out.cell 4 rfl; have yz4 := HN7.out.fz 4; have y5 := HN7.out.cell 5 rfl; have yz5 := HN7.out.fz 5; have yl := HN7.out.lt) | skip
                          first | (have z0 := HN8.out.cell 0 rfl; have zz0 := HN8.out.fz 0; have z1 := HN8.out.cell 1 rfl; have zz1 := HN8.out.fz 1; have z2 := HN8.out.cell 2 rfl; have zz2 := HN8.out.fz 2; have zl := HN8.out.lt) | skip
                          first | (have hne := HN7.out.tyb.ne HN8.out.tyb (by decide); have hne2 : g8 ≠ g7 := Ne.symm hne) | skip
                          try simp only [Act.put, List.setIfInBounds_toArray, List.set_cons_zero, List.set_cons_succ]
                          refine wpAnyH_ready (rs := [5]) (by kernel_rfl) (by simp) ?_
                          refine AllReadyH.cons (by first | (simp only [List.getElem?_toArray, List.getElem?_cons_succ, List.getElem?_cons_zero] <;> rfl) | rfl) (fun K hK => ?_) ?_
                          · go_simp
                            have hp := parse_any ⟨(textP ⟨nm, d, rs.map RuleV.m, hd, pt, po⟩).toArray⟩ pb tb (m7 + n1) qa _ HI.out.pr (HE.out.kept HI.out.b).g (by have := Hn1.out; omega)
                            rw [show (⟨(textP ⟨nm, d, rs.map RuleV.m, hd, pt, po⟩).toArray⟩ : ByteArray).data.toList = textP ⟨nm, d, rs.map RuleV.m, hd, pt, po⟩ from rfl, HBack.out] at hp
                            refine hp.mono ?_
                            clear hp
                            rintro e vh5 ⟨T2, rfl, hTm, hPT, hTS, hgr, hSz⟩
                            obtain ⟨v2, hT2, j1, j2, j3, j4, j5⟩ := pt_open hPT
                            obtain ⟨mnm, md, mhd, mrv, mbv, mqv, mrs, mpt, mpo⟩ := T2
                            obtain ⟨B1, k1, e1, B2, k2, e2, B3, k3, e3⟩ := v2
                            simp only [tv, TV.mk.injEq] at hT2
                            obtain ⟨-, -, -, rfl, rfl, rfl, -, -, -⟩ := hT2
                            simp only [TV.m] at hTm hSz
                            simp only at j1 j2 j3 j4 j5
                            have HTm := Lib.hid hTm
                            have HSz2 := Lib.hid hSz
                            have HJ := Lib.hid (And.intro j1 (And.intro j2 (And.intro j3 (And.intro j4 j5))))
                            simp only [TV.l, wrl, noW]
                            refine hK.out _ _ ?_ (fun hHeld5 => ?_)
                            · exact six_grow hHeld4 hgr (HL1.out.bk.tyb.ne (TS.tyb HI.out.pr.ts) (by decide))
                            clear hK K
                            first | (clear y0 yz0 y1 yz1 y2 yz2 y3 yz3 y4 yz4 y5 yz5 yl) | skip
                            first | (clear z0 zz0 z1 zz1 z2 zz2 zl) | skip
                            first | (clear hne2) | skip
                            first | (clear hne) | skip
                            first | (have HN7 := Lib.hid (HN7.out.grown hgr (by intro e; exact (HN7.out.tyb.ne (TS.tyb HI.out.pr.ts) (by decide)) (Option.some.inj e)))) | skip
                            first | (have HN8 := Lib.hid (HN8.out.grown hgr (by intro e; exact (HN8.out.tyb.ne (TS.tyb HI.out.pr.ts) (by decide)) (Option.some.inj e)))) | skip
                            have HL1 := Lib.hid (HL1.out.tab HI.out.pr.ts hgr)
                            have HI := Lib.hid (HI.out.tab hTS hgr)
                            have HP2 := Lib.hid hPT
                            clear hPT hTS hgr hHeld4 hTm hSz j1 j2 j3 j4 j5
                            first | (have y0 := HN7.out.cell 0 rfl; have yz0 := HN7.out.fz 0; have y1 := HN7.out.cell 1 rfl; have yz1 := HN7.out.fz 1; have y2 := HN7.out.cell 2 rfl; have yz2 := HN7.out.fz 2; have y3 := HN7.out.cell 3 rfl; have yz3 := HN7.out.fz 3; have y4 := HN7.out.cell 4 rfl; have yz4 := HN7.out.fz 4; have y5 := HN7.out.cell 5 rfl; have yz5 := HN7.out.fz 5; have yl := HN7.out.lt) | skip
                            first | (have z0 := HN8.out.cell 0 rfl; have zz0 := HN8.out.fz 0; have z1 := HN8.out.cell 1 rfl; have zz1 := HN8.out.fz 1; have z2 := HN8.out.cell 2 rfl; have zz2 := HN8.out.fz 2; have zl := HN8.out.lt) | skip
                            first | (have hne := HN7.out.tyb.ne HN8.out.tyb (by decide); have hne2 : g8 ≠ g7 := Ne.symm hne) | skip
                            try simp only [Act.put, List.setIfInBounds_toArray, List.set_cons_zero, List.set_cons_succ]
                            refine wpAnyH_take (i := 6) (v := ?_) (by first | (simp only [List.getElem?_toArray, List.getElem?_cons_succ, List.getElem?_cons_zero] <;> rfl) | rfl) (by kernel_rfl) (by kernel_rfl) (by kernel_rfl) (by exact fun _ _ _ h => h) (Or.inl ⟨by rfl, ?_⟩) hHeld5 ?_
                            rotate_left 1
                            · intro w hSw
                              try dsimp only at hSw
                              (go_simp) <;> (with_reducible rfl)
                            try simp only [Act.put, List.setIfInBounds_toArray, List.set_cons_zero, List.set_cons_succ]
                            refine wpAnyH_take (i := 7) (v := ?_) (by first | (simp only [List.getElem?_toArray, List.getElem?_cons_succ, List.getElem?_cons_zero] <;> rfl) | rfl) (by kernel_rfl) (by kernel_rfl) (by kernel_rfl) (by exact fun _ _ _ h => h) (Or.inl ⟨by rfl, ?_⟩) hHeld5 ?_
                            rotate_left 1
                            · intro w hSw
                              try dsimp only at hSw
                              (go_simp) <;> (with_reducible rfl)
                            try simp only [Act.put, List.setIfInBounds_toArray, List.set_cons_zero, List.set_cons_succ]
                            refine wpAnyH_take (i := 8) (v := ?_) (by first | (simp only [List.getElem?_toArray, List.getElem?_cons_succ, List.getElem?_cons_zero] <;> rfl) | rfl) (by kernel_rfl) (by kernel_rfl) (by kernel_rfl) (by exact fun _ _ _ h => h) (Or.inl ⟨by rfl, ?_⟩) hHeld5 ?_
                            rotate_left 1
                            · intro w hSw
                              try dsimp only at hSw
                              (go_simp) <;> (with_reducible rfl)
                            try simp only [Act.put, List.setIfInBounds_toArray, List.set_cons_zero, List.set_cons_succ]
                            refine wpAnyH_ready (rs := [11]) (by kernel_rfl) (by simp) ?_
                            refine AllReadyH.cons (by first | (simp only [List.getElem?_toArray, List.getElem?_cons_succ, List.getElem?_cons_zero] <;> rfl) | rfl) (fun K hK => ?_) ?_
                            · go_simp
                              refine hK.out _ _ ?_ (fun hHeld6 => ?_)
                              · exact six_grow hHeld5 (set6_grown _ _ _ _ _ _ _ _) HD7.out
                              clear hK K
                              try simp only [Act.put, List.setIfInBounds_toArray, List.set_cons_zero, List.set_cons_succ]
                              refine wpAnyH_ready (rs := [12]) (by kernel_rfl) (by simp) ?_
                              refine AllReadyH.cons (by first | (simp only [List.getElem?_toArray, List.getElem?_cons_succ, List.getElem?_cons_zero] <;> rfl) | rfl) (fun K hK => ?_) ?_
                              · go_simp
                                refine hK.out _ _ ?_ (fun hHeld7 => ?_)
                                · exact six_grow (six_grow hHeld5 (set6_grown _ _ _ _ _ _ _ _) HD7.out) (set3_grown _ _ _ _ _) HD8.out
                                clear hK K
                                try simp only [Act.put, List.setIfInBounds_toArray, List.set_cons_zero, List.set_cons_succ]
                                refine wpAnyH_done (by kernel_rfl) ?_ _
                                clear y0 yz0 y1 yz1 y2 yz2 y3 yz3 y4 yz4 y5 yz5 yl z0 zz0 z1 zz1 z2 zz2 zl
                                go_wp2_with fail
                                go_meet
                                case rel =>
                                  exact any_two (v2 := ⟨B1, k1, e1, B2, k2, e2, B3, k3, e3⟩) (nm2 := mnm) (d2 := md) (hd2 := mhd) (rs2 := mrs) (pt2 := mpt) (po2 := mpo) HI.out HP2.out HJ.out HSz2.out HTm.out HN7.out HN8.out HG7.out HG8.out HL1.out HD7.out rfl
                              exact AllReadyH.nil
                            exact AllReadyH.nil
                          exact AllReadyH.nil
                        exact AllReadyH.nil
                      exact AllReadyH.nil
                    exact AllReadyH.nil
                  refine AllReadyH.cons (by first | (simp only [List.getElem?_toArray, List.getElem?_cons_succ, List.getElem?_cons_zero] <;> rfl) | rfl) (fun K hK => ?_) ?_
                  · go_simp
                    refine hK.out _ _ ?_ (fun hHeld1 => ?_)
                    · exact six_below hHeld0 (oneb _ _)
                    clear hK K
                    first | (clear y0 yz0 y1 yz1 y2 yz2 y3 yz3 y4 yz4 y5 yz5 yl) | skip
                    first | (clear z0 zz0 z1 zz1 z2 zz2 zl) | skip
                    first | (clear hne2) | skip
                    first | (clear hne) | skip
                    have hbb := oneb vh0 (.cells #[.int .i64 0, .int .i64 0, .int .i64 0] 48)
                    have hN := Bk.new vh0 48 #[.int .i64 0, .int .i64 0, .int .i64 0] (l := [.int .i64 0, .int .i64 0, .int .i64 0]) rfl
                    have hge := HI.out.b.size
                    have hg1 : g12 ≠ vh0.heap.size := Nat.ne_of_lt HL1.out.bk.lt
                    generalize World.alloc vh0 _ = vh1 at hbb hN hHeld1 ⊢
                    have HI := Lib.hid (HI.out.below hbb)
                    have HL1 := Lib.hid (HL1.out.below hbb)
                    first | (have HP2 := Lib.hid (PT.below HP2.out hbb)) | skip
                    first | (have HN7 := Lib.hid (HN7.out.kept hbb)) | skip
                    first | (have HN8 := Lib.hid (HN8.out.kept hbb)) | skip
                    generalize vh0.heap.size = g8 at hN hge hg1 ⊢
                    have HN8 := Lib.hid hN
                    have HG8 := Lib.hid hge
                    have HD8 := Lib.hid hg1
                    clear hbb hN hge hg1 hHeld0
                    first | (have y0 := HN7.out.cell 0 rfl; have yz0 := HN7.out.fz 0; have y1 := HN7.out.cell 1 rfl; have yz1 := HN7.out.fz 1; have y2 := HN7.out.cell 2 rfl; have yz2 := HN7.out.fz 2; have y3 := HN7.out.cell 3 rfl; have yz3 := HN7.out.fz 3; have y4 := HN7.out.cell 4 rfl; have yz4 := HN7.out.fz 4; have y5 := HN7.out.cell 5 rfl; have yz5 := HN7.out.fz 5; have yl := HN7.out.lt) | skip
                    first | (have z0 := HN8.out.cell 0 rfl; have zz0 := HN8.out.fz 0; have z1 := HN8.out.cell 1 rfl; have zz1 := HN8.out.fz 1; have z2 := HN8.out.cell 2 rfl; have zz2 := HN8.out.fz 2; have zl := HN8.out.lt) | skip
                    first | (have hne := HN7.out.tyb.ne HN8.out.tyb (by decide); have hne2 : g8 ≠ g7 := Ne.symm hne) | skip
                    try simp only [Act.put, List.setIfInBounds_toArray, List.set_cons_zero, List.set_cons_succ]
                    refine wpAnyH_ready (rs := [3, 9]) (by kernel_rfl) (by simp) ?_
                    refine AllReadyH.cons (by first | (simp only [List.getElem?_toArray, List.getElem?_cons_succ, List.getElem?_cons_zero] <;> rfl) | rfl) (fun K hK => ?_) ?_
                    · go_simp
                      refine (parserCalls_any pb tb m7 qa _ HI.out.pr).mono ?_
                      rintro e vh2 ⟨rfl, rfl⟩
                      refine hK.out _ _ ?_ (fun hHeld2 => ?_)
                      · exact hHeld1
                      clear hK K
                      try simp only [Act.put, List.setIfInBounds_toArray, List.set_cons_zero, List.set_cons_succ]
                      refine wpAnyH_ready (rs := [4, 9]) (by kernel_rfl) (by simp) ?_
                      refine AllReadyH.cons (by first | (simp only [List.getElem?_toArray, List.getElem?_cons_succ, List.getElem?_cons_zero] <;> rfl) | rfl) (fun K hK => ?_) ?_
                      · go_simp
                        have hR := pt_reads HL1.out.ptt HL1.out.l1 HL1.out.l2 HL1.out.l3
                        refine (polText_any nm d rs A1 n1 c1 hd pt A2 n2 c2 po A3 n3 c3 tb m7 _ HL1.out.l1 HL1.out.l2 HL1.out.l3 HGd.out HOk.out hR.1 (hR.2 tb m7 HI.out.pr.ts) HI.out.pr.ts (by omega) (HE.out.kept HI.out.b)).mono ?_
                        clear hR
                        rintro e vh3 ⟨rfl, hTS, hgr⟩
                        refine hK.out _ _ ?_ (fun hHeld3 => ?_)
                        · exact six_grow hHeld2 hgr (HL1.out.bk.tyb.ne (TS.tyb HI.out.pr.ts) (by decide))
                        clear hK K
                        first | (clear y0 yz0 y1 yz1 y2 yz2 y3 yz3 y4 yz4 y5 yz5 yl) | skip
                        first | (clear z0 zz0 z1 zz1 z2 zz2 zl) | skip
                        first | (clear hne2) | skip
                        first | (clear hne) | skip
                        first | (have HN7 := Lib.hid (HN7.out.grown hgr (by intro e; exact (HN7.out.tyb.ne (TS.tyb HI.out.pr.ts) (by decide)) (Option.some.inj e)))) | skip
                        first | (have HN8 := Lib.hid (HN8.out.grown hgr (by intro e; exact (HN8.out.tyb.ne (TS.tyb HI.out.pr.ts) (by decide)) (Option.some.inj e)))) | skip
                        have HL1 := Lib.hid (HL1.out.tab HI.out.pr.ts hgr)
                        have HI := Lib.hid (HI.out.tab hTS hgr)
                        clear hTS hgr hHeld2
                        first | (have y0 := HN7.out.cell 0 rfl; have yz0 := HN7.out.fz 0; have y1 := HN7.out.cell 1 rfl; have yz1 := HN7.out.fz 1; have y2 := HN7.out.cell 2 rfl; have yz2 := HN7.out.fz 2; have y3 := HN7.out.cell 3 rfl; have yz3 := HN7.out.fz 3; have y4 := HN7.out.cell 4 rfl; have yz4 := HN7.out.fz 4; have y5 := HN7.out.cell 5 rfl; have yz5 := HN7.out.fz 5; have yl := HN7.out.lt) | skip
                        first | (have z0 := HN8.out.cell 0 rfl; have zz0 := HN8.out.fz 0; have z1 := HN8.out.cell 1 rfl; have zz1 := HN8.out.fz 1; have z2 := HN8.out.cell 2 rfl; have zz2 := HN8.out.fz 2; have zl := HN8.out.lt) | skip
                        first | (have hne := HN7.out.tyb.ne HN8.out.tyb (by decide); have hne2 : g8 ≠ g7 := Ne.symm hne) | skip
                        try simp only [Act.put, List.setIfInBounds_toArray, List.set_cons_zero, List.set_cons_succ]
                        refine wpAnyH_ready (rs := [5, 9]) (by kernel_rfl) (by simp) ?_
                        refine AllReadyH.cons (by first | (simp only [List.getElem?_toArray, List.getElem?_cons_succ, List.getElem?_cons_zero] <;> rfl) | rfl) (fun K hK => ?_) ?_
                        · go_simp
                          have hp := parse_any ⟨(textP ⟨nm, d, rs.map RuleV.m, hd, pt, po⟩).toArray⟩ pb tb (m7 + n1) qa _ HI.out.pr (HE.out.kept HI.out.b).g (by have := Hn1.out; omega)
                          rw [show (⟨(textP ⟨nm, d, rs.map RuleV.m, hd, pt, po⟩).toArray⟩ : ByteArray).data.toList = textP ⟨nm, d, rs.map RuleV.m, hd, pt, po⟩ from rfl, HBack.out] at hp
                          refine hp.mono ?_
                          clear hp
                          rintro e vh4 ⟨T2, rfl, hTm, hPT, hTS, hgr, hSz⟩
                          obtain ⟨v2, hT2, j1, j2, j3, j4, j5⟩ := pt_open hPT
                          obtain ⟨mnm, md, mhd, mrv, mbv, mqv, mrs, mpt, mpo⟩ := T2
                          obtain ⟨B1, k1, e1, B2, k2, e2, B3, k3, e3⟩ := v2
                          simp only [tv, TV.mk.injEq] at hT2
                          obtain ⟨-, -, -, rfl, rfl, rfl, -, -, -⟩ := hT2
                          simp only [TV.m] at hTm hSz
                          simp only at j1 j2 j3 j4 j5
                          have HTm := Lib.hid hTm
                          have HSz2 := Lib.hid hSz
                          have HJ := Lib.hid (And.intro j1 (And.intro j2 (And.intro j3 (And.intro j4 j5))))
                          simp only [TV.l, wrl, noW]
                          refine hK.out _ _ ?_ (fun hHeld4 => ?_)
                          · exact six_grow hHeld3 hgr (HL1.out.bk.tyb.ne (TS.tyb HI.out.pr.ts) (by decide))
                          clear hK K
                          first | (clear y0 yz0 y1 yz1 y2 yz2 y3 yz3 y4 yz4 y5 yz5 yl) | skip
                          first | (clear z0 zz0 z1 zz1 z2 zz2 zl) | skip
                          first | (clear hne2) | skip
                          first | (clear hne) | skip
                          first | (have HN7 := Lib.hid (HN7.out.grown hgr (by intro e; exact (HN7.out.tyb.ne (TS.tyb HI.out.pr.ts) (by decide)) (Option.some.inj e)))) | skip
                          first | (have HN8 := Lib.hid (HN8.out.grown hgr (by intro e; exact (HN8.out.tyb.ne (TS.tyb HI.out.pr.ts) (by decide)) (Option.some.inj e)))) | skip
                          have HL1 := Lib.hid (HL1.out.tab HI.out.pr.ts hgr)
                          have HI := Lib.hid (HI.out.tab hTS hgr)
                          have HP2 := Lib.hid hPT
                          clear hPT hTS hgr hHeld3 hTm hSz j1 j2 j3 j4 j5
                          first | (have y0 := HN7.out.cell 0 rfl; have yz0 := HN7.out.fz 0; have y1 := HN7.out.cell 1 rfl; have yz1 := HN7.out.fz 1; have y2 := HN7.out.cell 2 rfl; have yz2 := HN7.out.fz 2; have y3 := HN7.out.cell 3 rfl; have yz3 := HN7.out.fz 3; have y4 := HN7.out.cell 4 rfl; have yz4 := HN7.out.fz 4; have y5 := HN7.out.cell 5 rfl; have yz5 := HN7.out.fz 5; have yl := HN7.out.lt) | skip
                          first | (have z0 := HN8.out.cell 0 rfl; have zz0 := HN8.out.fz 0; have z1 := HN8.out.cell 1 rfl; have zz1 := HN8.out.fz 1; have z2 := HN8.out.cell 2 rfl; have zz2 := HN8.out.fz 2; have zl := HN8.out.lt) | skip
                          first | (have hne := HN7.out.tyb.ne HN8.out.tyb (by decide); have hne2 : g8 ≠ g7 := Ne.symm hne) | skip
                          try simp only [Act.put, List.setIfInBounds_toArray, List.set_cons_zero, List.set_cons_succ]
                          refine wpAnyH_take (i := 6) (v := ?_) (by first | (simp only [List.getElem?_toArray, List.getElem?_cons_succ, List.getElem?_cons_zero] <;> rfl) | rfl) (by kernel_rfl) (by kernel_rfl) (by kernel_rfl) (by exact fun _ _ _ h => h) (Or.inl ⟨by rfl, ?_⟩) hHeld4 ?_
                          rotate_left 1
                          · intro w hSw
                            try dsimp only at hSw
                            (go_simp) <;> (with_reducible rfl)
                          try simp only [Act.put, List.setIfInBounds_toArray, List.set_cons_zero, List.set_cons_succ]
                          refine wpAnyH_take (i := 7) (v := ?_) (by first | (simp only [List.getElem?_toArray, List.getElem?_cons_succ, List.getElem?_cons_zero] <;> rfl) | rfl) (by kernel_rfl) (by kernel_rfl) (by kernel_rfl) (by exact fun _ _ _ h => h) (Or.inl ⟨by rfl, ?_⟩) hHeld4 ?_
                          rotate_left 1
                          · intro w hSw
                            try dsimp only at hSw
                            (go_simp) <;> (with_reducible rfl)
                          try simp only [Act.put, List.setIfInBounds_toArray, List.set_cons_zero, List.set_cons_succ]
                          refine wpAnyH_take (i := 8) (v := ?_) (by first | (simp only [List.getElem?_toArray, List.getElem?_cons_succ, List.getElem?_cons_zero] <;> rfl) | rfl) (by kernel_rfl) (by kernel_rfl) (by kernel_rfl) (by exact fun _ _ _ h => h) (Or.inl ⟨by rfl, ?_⟩) hHeld4 ?_
                          rotate_left 1
                          · intro w hSw
                            try dsimp only at hSw
                            (go_simp) <;> (with_reducible rfl)
                          try simp only [Act.put, List.setIfInBounds_toArray, List.set_cons_zero, List.set_cons_succ]
                          refine wpAnyH_ready (rs := [9]) (by kernel_rfl) (by simp) ?_
                          refine AllReadyH.cons (by first | (simp only [List.getElem?_toArray, List.getElem?_cons_succ, List.getElem?_cons_zero] <;> rfl) | rfl) (fun K hK => ?_) ?_
                          · go_simp
                            refine hK.out _ _ ?_ (fun hHeld5 => ?_)
                            · exact six_below hHeld4 (oneb _ _)
                            clear hK K
                            first | (clear y0 yz0 y1 yz1 y2 yz2 y3 yz3 y4 yz4 y5 yz5 yl) | skip
                            first | (clear z0 zz0 z1 zz1 z2 zz2 zl) | skip
                            first | (clear hne2) | skip
                            first | (clear hne) | skip
                            have hbb := oneb vh4 (.cells #[.string ⟨#[]⟩, .int .u32 0, .slice none 0 0, .int .u16 0, .slice none 0 0, .slice none 0 0] 35)
                            have hN := Bk.new vh4 35 #[.string ⟨#[]⟩, .int .u32 0, .slice none 0 0, .int .u16 0, .slice none 0 0, .slice none 0 0] (l := [.string ⟨#[]⟩, .int .u32 0, .slice none 0 0, .int .u16 0, .slice none 0 0, .slice none 0 0]) rfl
                            have hge := HI.out.b.size
                            have hg1 : g12 ≠ vh4.heap.size := Nat.ne_of_lt HL1.out.bk.lt
                            generalize World.alloc vh4 _ = vh5 at hbb hN hHeld5 ⊢
                            have HI := Lib.hid (HI.out.below hbb)
                            have HL1 := Lib.hid (HL1.out.below hbb)
                            first | (have HP2 := Lib.hid (PT.below HP2.out hbb)) | skip
                            first | (have HN7 := Lib.hid (HN7.out.kept hbb)) | skip
                            first | (have HN8 := Lib.hid (HN8.out.kept hbb)) | skip
                            generalize vh4.heap.size = g7 at hN hge hg1 ⊢
                            have HN7 := Lib.hid hN
                            have HG7 := Lib.hid hge
                            have HD7 := Lib.hid hg1
                            clear hbb hN hge hg1 hHeld4
                            first | (have y0 := HN7.out.cell 0 rfl; have yz0 := HN7.out.fz 0; have y1 := HN7.out.cell 1 rfl; have yz1 := HN7.out.fz 1; have y2 := HN7.out.cell 2 rfl; have yz2 := HN7.out.fz 2; have y3 := HN7.out.cell 3 rfl; have yz3 := HN7.out.fz 3; have y4 := HN7.out.cell 4 rfl; have yz4 := HN7.out.fz 4; have y5 := HN7.out.cell 5 rfl; have yz5 := HN7.out.fz 5; have yl := HN7.out.lt) | skip
                            first | (have z0 := HN8.out.cell 0 rfl; have zz0 := HN8.out.fz 0; have z1 := HN8.out.cell 1 rfl; have zz1 := HN8.out.fz 1; have z2 := HN8.out.cell 2 rfl; have zz2 := HN8.out.fz 2; have zl := HN8.out.lt) | skip
                            first | (have hne := HN7.out.tyb.ne HN8.out.tyb (by decide); have hne2 : g8 ≠ g7 := Ne.symm hne) | skip
                            try simp only [Act.put, List.setIfInBounds_toArray, List.set_cons_zero, List.set_cons_succ]
                            refine wpAnyH_ready (rs := [11]) (by kernel_rfl) (by simp) ?_
                            refine AllReadyH.cons (by first | (simp only [List.getElem?_toArray, List.getElem?_cons_succ, List.getElem?_cons_zero] <;> rfl) | rfl) (fun K hK => ?_) ?_
                            · go_simp
                              refine hK.out _ _ ?_ (fun hHeld6 => ?_)
                              · exact six_grow hHeld5 (set6_grown _ _ _ _ _ _ _ _) HD7.out
                              clear hK K
                              try simp only [Act.put, List.setIfInBounds_toArray, List.set_cons_zero, List.set_cons_succ]
                              refine wpAnyH_ready (rs := [12]) (by kernel_rfl) (by simp) ?_
                              refine AllReadyH.cons (by first | (simp only [List.getElem?_toArray, List.getElem?_cons_succ, List.getElem?_cons_zero] <;> rfl) | rfl) (fun K hK => ?_) ?_
                              · go_simp
                                refine hK.out _ _ ?_ (fun hHeld7 => ?_)
                                · exact six_grow (six_grow hHeld5 (set6_grown _ _ _ _ _ _ _ _) HD7.out) (set3_grown _ _ _ _ _) HD8.out
                                clear hK K
                                try simp only [Act.put, List.setIfInBounds_toArray, List.set_cons_zero, List.set_cons_succ]
                                refine wpAnyH_done (by kernel_rfl) ?_ _
                                clear y0 yz0 y1 yz1 y2 yz2 y3 yz3 y4 yz4 y5 yz5 yl z0 zz0 z1 zz1 z2 zz2 zl
                                go_wp2_with fail
                                go_meet
                                case rel =>
                                  exact any_two (v2 := ⟨B1, k1, e1, B2, k2, e2, B3, k3, e3⟩) (nm2 := mnm) (d2 := md) (hd2 := mhd) (rs2 := mrs) (pt2 := mpt) (po2 := mpo) HI.out HP2.out HJ.out HSz2.out HTm.out HN7.out HN8.out HG7.out HG8.out HL1.out HD7.out rfl
                              exact AllReadyH.nil
                            exact AllReadyH.nil
                          exact AllReadyH.nil
                        refine AllReadyH.cons (by first | (simp only [List.getElem?_toArray, List.getElem?_cons_succ, List.getElem?_cons_zero] <;> rfl) | rfl) (fun K hK => ?_) ?_
                        · go_simp
                          refine hK.out _ _ ?_ (fun hHeld4 => ?_)
                          · exact six_below hHeld3 (oneb _ _)
                          clear hK K
                          first | (clear y0 yz0 y1 yz1 y2 yz2 y3 yz3 y4 yz4 y5 yz5 yl) | skip
                          first | (clear z0 zz0 z1 zz1 z2 zz2 zl) | skip
                          first | (clear hne2) | skip
                          first | (clear hne) | skip
                          have hbb := oneb vh3 (.cells #[.string ⟨#[]⟩, .int .u32 0, .slice none 0 0, .int .u16 0, .slice none 0 0, .slice none 0 0] 35)
                          have hN := Bk.new vh3 35 #[.string ⟨#[]⟩, .int .u32 0, .slice none 0 0, .int .u16 0, .slice none 0 0, .slice none 0 0] (l := [.string ⟨#[]⟩, .int .u32 0, .slice none 0 0, .int .u16 0, .slice none 0 0, .slice none 0 0]) rfl
                          have hge := HI.out.b.size
                          have hg1 : g12 ≠ vh3.heap.size := Nat.ne_of_lt HL1.out.bk.lt
                          generalize World.alloc vh3 _ = vh4 at hbb hN hHeld4 ⊢
                          have HI := Lib.hid (HI.out.below hbb)
                          have HL1 := Lib.hid (HL1.out.below hbb)
                          first | (have HP2 := Lib.hid (PT.below HP2.out hbb)) | skip
                          first | (have HN7 := Lib.hid (HN7.out.kept hbb)) | skip
                          first | (have HN8 := Lib.hid (HN8.out.kept hbb)) | skip
                          generalize vh3.heap.size = g7 at hN hge hg1 ⊢
                          have HN7 := Lib.hid hN
                          have HG7 := Lib.hid hge
                          have HD7 := Lib.hid hg1
                          clear hbb hN hge hg1 hHeld3
                          first | (have y0 := HN7.out.cell 0 rfl; have yz0 := HN7.out.fz 0; have y1 := HN7.out.cell 1 rfl; have yz1 := HN7.out.fz 1; have y2 := HN7.out.cell 2 rfl; have yz2 := HN7.out.fz 2; have y3 := HN7.out.cell 3 rfl; have yz3 := HN7.out.fz 3; have y4 := HN7.out.cell 4 rfl; have yz4 := HN7.out.fz 4; have y5 := HN7.out.cell 5 rfl; have yz5 := HN7.out.fz 5; have yl := HN7.out.lt) | skip
                          first | (have z0 := HN8.out.cell 0 rfl; have zz0 := HN8.out.fz 0; have z1 := HN8.out.cell 1 rfl; have zz1 := HN8.out.fz 1; have z2 := HN8.out.cell 2 rfl; have zz2 := HN8.out.fz 2; have zl := HN8.out.lt) | skip
                          first | (have hne := HN7.out.tyb.ne HN8.out.tyb (by decide); have hne2 : g8 ≠ g7 := Ne.symm hne) | skip
                          try simp only [Act.put, List.setIfInBounds_toArray, List.set_cons_zero, List.set_cons_succ]
                          refine wpAnyH_ready (rs := [5]) (by kernel_rfl) (by simp) ?_
                          refine AllReadyH.cons (by first | (simp only [List.getElem?_toArray, List.getElem?_cons_succ, List.getElem?_cons_zero] <;> rfl) | rfl) (fun K hK => ?_) ?_
                          · go_simp
                            have hp := parse_any ⟨(textP ⟨nm, d, rs.map RuleV.m, hd, pt, po⟩).toArray⟩ pb tb (m7 + n1) qa _ HI.out.pr (HE.out.kept HI.out.b).g (by have := Hn1.out; omega)
                            rw [show (⟨(textP ⟨nm, d, rs.map RuleV.m, hd, pt, po⟩).toArray⟩ : ByteArray).data.toList = textP ⟨nm, d, rs.map RuleV.m, hd, pt, po⟩ from rfl, HBack.out] at hp
                            refine hp.mono ?_
                            clear hp
                            rintro e vh5 ⟨T2, rfl, hTm, hPT, hTS, hgr, hSz⟩
                            obtain ⟨v2, hT2, j1, j2, j3, j4, j5⟩ := pt_open hPT
                            obtain ⟨mnm, md, mhd, mrv, mbv, mqv, mrs, mpt, mpo⟩ := T2
                            obtain ⟨B1, k1, e1, B2, k2, e2, B3, k3, e3⟩ := v2
                            simp only [tv, TV.mk.injEq] at hT2
                            obtain ⟨-, -, -, rfl, rfl, rfl, -, -, -⟩ := hT2
                            simp only [TV.m] at hTm hSz
                            simp only at j1 j2 j3 j4 j5
                            have HTm := Lib.hid hTm
                            have HSz2 := Lib.hid hSz
                            have HJ := Lib.hid (And.intro j1 (And.intro j2 (And.intro j3 (And.intro j4 j5))))
                            simp only [TV.l, wrl, noW]
                            refine hK.out _ _ ?_ (fun hHeld5 => ?_)
                            · exact six_grow hHeld4 hgr (HL1.out.bk.tyb.ne (TS.tyb HI.out.pr.ts) (by decide))
                            clear hK K
                            first | (clear y0 yz0 y1 yz1 y2 yz2 y3 yz3 y4 yz4 y5 yz5 yl) | skip
                            first | (clear z0 zz0 z1 zz1 z2 zz2 zl) | skip
                            first | (clear hne2) | skip
                            first | (clear hne) | skip
                            first | (have HN7 := Lib.hid (HN7.out.grown hgr (by intro e; exact (HN7.out.tyb.ne (TS.tyb HI.out.pr.ts) (by decide)) (Option.some.inj e)))) | skip
                            first | (have HN8 := Lib.hid (HN8.out.grown hgr (by intro e; exact (HN8.out.tyb.ne (TS.tyb HI.out.pr.ts) (by decide)) (Option.some.inj e)))) | skip
                            have HL1 := Lib.hid (HL1.out.tab HI.out.pr.ts hgr)
                            have HI := Lib.hid (HI.out.tab hTS hgr)
                            have HP2 := Lib.hid hPT
                            clear hPT hTS hgr hHeld4 hTm hSz j1 j2 j3 j4 j5
                            first | (have y0 := HN7.out.cell 0 rfl; have yz0 := HN7.out.fz 0; have y1 := HN7.out.cell 1 rfl; have yz1 := HN7.out.fz 1; have y2 := HN7.out.cell 2 rfl; have yz2 := HN7.out.fz 2; have y3 := HN7.out.cell 3 rfl; have yz3 := HN7.out.fz 3; have y4 := HN7.out.cell 4 rfl; have yz4 := HN7.out.fz 4; have y5 := HN7.out.cell 5 rfl; have yz5 := HN7.out.fz 5; have yl := HN7.out.lt) | skip
                            first | (have z0 := HN8.out.cell 0 rfl; have zz0 := HN8.out.fz 0; have z1 := HN8.out.cell 1 rfl; have zz1 := HN8.out.fz 1; have z2 := HN8.out.cell 2 rfl; have zz2 := HN8.out.fz 2; have zl := HN8.out.lt) | skip
                            first | (have hne := HN7.out.tyb.ne HN8.out.tyb (by decide); have hne2 : g8 ≠ g7 := Ne.symm hne) | skip
                            try simp only [Act.put, List.setIfInBounds_toArray, List.set_cons_zero, List.set_cons_succ]
                            refine wpAnyH_take (i := 6) (v := ?_) (by first | (simp only [List.getElem?_toArray, List.getElem?_cons_succ, List.getElem?_cons_zero] <;> rfl) | rfl) (by kernel_rfl) (by kernel_rfl) (by kernel_rfl) (by exact fun _ _ _ h => h) (Or.inl ⟨by rfl, ?_⟩) hHeld5 ?_
                            rotate_left 1
                            · intro w hSw
                              try dsimp only at hSw
                              (go_simp) <;> (with_reducible rfl)
                            try simp only [Act.put, List.setIfInBounds_toArray, List.set_cons_zero, List.set_cons_succ]
                            refine wpAnyH_take (i := 7) (v := ?_) (by first | (simp only [List.getElem?_toArray, List.getElem?_cons_succ, List.getElem?_cons_zero] <;> rfl) | rfl) (by kernel_rfl) (by kernel_rfl) (by kernel_rfl) (by exact fun _ _ _ h => h) (Or.inl ⟨by rfl, ?_⟩) hHeld5 ?_
                            rotate_left 1
                            · intro w hSw
                              try dsimp only at hSw
                              (go_simp) <;> (with_reducible rfl)
                            try simp only [Act.put, List.setIfInBounds_toArray, List.set_cons_zero, List.set_cons_succ]
                            refine wpAnyH_take (i := 8) (v := ?_) (by first | (simp only [List.getElem?_toArray, List.getElem?_cons_succ, List.getElem?_cons_zero] <;> rfl) | rfl) (by kernel_rfl) (by kernel_rfl) (by kernel_rfl) (by exact fun _ _ _ h => h) (Or.inl ⟨by rfl, ?_⟩) hHeld5 ?_
                            rotate_left 1
                            · intro w hSw
                              try dsimp only at hSw
                              (go_simp) <;> (with_reducible rfl)
                            try simp only [Act.put, List.setIfInBounds_toArray, List.set_cons_zero, List.set_cons_succ]
                            refine wpAnyH_ready (rs := [11]) (by kernel_rfl) (by simp) ?_
                            refine AllReadyH.cons (by first | (simp only [List.getElem?_toArray, List.getElem?_cons_succ, List.getElem?_cons_zero] <;> rfl) | rfl) (fun K hK => ?_) ?_
                            · go_simp
                              refine hK.out _ _ ?_ (fun hHeld6 => ?_)
                              · exact six_grow hHeld5 (set6_grown _ _ _ _ _ _ _ _) HD7.out
                              clear hK K
                              try simp only [Act.put, List.setIfInBounds_toArray, List.set_cons_zero, List.set_cons_succ]
                              refine wpAnyH_ready (rs := [12]) (by kernel_rfl) (by simp) ?_
                              refine AllReadyH.cons (by first | (simp only [List.getElem?_toArray, List.getElem?_cons_succ, List.getElem?_cons_zero] <;> rfl) | rfl) (fun K hK => ?_) ?_
                              · go_simp
                                refine hK.out _ _ ?_ (fun hHeld7 => ?_)
                                · exact six_grow (six_grow hHeld5 (set6_grown _ _ _ _ _ _ _ _) HD7.out) (set3_grown _ _ _ _ _) HD8.out
                                clear hK K
                                try simp only [Act.put, List.setIfInBounds_toArray, List.set_cons_zero, List.set_cons_succ]
                                refine wpAnyH_done (by kernel_rfl) ?_ _
                                clear y0 yz0 y1 yz1 y2 yz2 y3 yz3 y4 yz4 y5 yz5 yl z0 zz0 z1 zz1 z2 zz2 zl
                                go_wp2_with fail
                                go_meet
                                case rel =>
                                  exact any_two (v2 := ⟨B1, k1, e1, B2, k2, e2, B3, k3, e3⟩) (nm2 := mnm) (d2 := md) (hd2 := mhd) (rs2 := mrs) (pt2 := mpt) (po2 := mpo) HI.out HP2.out HJ.out HSz2.out HTm.out HN7.out HN8.out HG7.out HG8.out HL1.out HD7.out rfl
                              exact AllReadyH.nil
                            exact AllReadyH.nil
                          exact AllReadyH.nil
                        exact AllReadyH.nil
                      refine AllReadyH.cons (by first | (simp only [List.getElem?_toArray, List.getElem?_cons_succ, List.getElem?_cons_zero] <;> rfl) | rfl) (fun K hK => ?_) ?_
                      · go_simp
                        refine hK.out _ _ ?_ (fun hHeld3 => ?_)
                        · exact six_below hHeld2 (oneb _ _)
                        clear hK K
                        first | (clear y0 yz0 y1 yz1 y2 yz2 y3 yz3 y4 yz4 y5 yz5 yl) | skip
                        first | (clear z0 zz0 z1 zz1 z2 zz2 zl) | skip
                        first | (clear hne2) | skip
                        first | (clear hne) | skip
                        have hbb := oneb vh2 (.cells #[.string ⟨#[]⟩, .int .u32 0, .slice none 0 0, .int .u16 0, .slice none 0 0, .slice none 0 0] 35)
                        have hN := Bk.new vh2 35 #[.string ⟨#[]⟩, .int .u32 0, .slice none 0 0, .int .u16 0, .slice none 0 0, .slice none 0 0] (l := [.string ⟨#[]⟩, .int .u32 0, .slice none 0 0, .int .u16 0, .slice none 0 0, .slice none 0 0]) rfl
                        have hge := HI.out.b.size
                        have hg1 : g12 ≠ vh2.heap.size := Nat.ne_of_lt HL1.out.bk.lt
                        generalize World.alloc vh2 _ = vh3 at hbb hN hHeld3 ⊢
                        have HI := Lib.hid (HI.out.below hbb)
                        have HL1 := Lib.hid (HL1.out.below hbb)
                        first | (have HP2 := Lib.hid (PT.below HP2.out hbb)) | skip
                        first | (have HN7 := Lib.hid (HN7.out.kept hbb)) | skip
                        first | (have HN8 := Lib.hid (HN8.out.kept hbb)) | skip
                        generalize vh2.heap.size = g7 at hN hge hg1 ⊢
                        have HN7 := Lib.hid hN
                        have HG7 := Lib.hid hge
                        have HD7 := Lib.hid hg1
                        clear hbb hN hge hg1 hHeld2
                        first | (have y0 := HN7.out.cell 0 rfl; have yz0 := HN7.out.fz 0; have y1 := HN7.out.cell 1 rfl; have yz1 := HN7.out.fz 1; have y2 := HN7.out.cell 2 rfl; have yz2 := HN7.out.fz 2; have y3 := HN7.out.cell 3 rfl; have yz3 := HN7.out.fz 3; have y4 := HN7.out.cell 4 rfl; have yz4 := HN7.out.fz 4; have y5 := HN7.out.cell 5 rfl; have yz5 := HN7.out.fz 5; have yl := HN7.out.lt) | skip
                        first | (have z0 := HN8.out.cell 0 rfl; have zz0 := HN8.out.fz 0; have z1 := HN8.out.cell 1 rfl; have zz1 := HN8.out.fz 1; have z2 := HN8.out.cell 2 rfl; have zz2 := HN8.out.fz 2; have zl := HN8.out.lt) | skip
                        first | (have hne := HN7.out.tyb.ne HN8.out.tyb (by decide); have hne2 : g8 ≠ g7 := Ne.symm hne) | skip
                        try simp only [Act.put, List.setIfInBounds_toArray, List.set_cons_zero, List.set_cons_succ]
                        refine wpAnyH_ready (rs := [4]) (by kernel_rfl) (by simp) ?_
                        refine AllReadyH.cons (by first | (simp only [List.getElem?_toArray, List.getElem?_cons_succ, List.getElem?_cons_zero] <;> rfl) | rfl) (fun K hK => ?_) ?_
                        · go_simp
                          have hR := pt_reads HL1.out.ptt HL1.out.l1 HL1.out.l2 HL1.out.l3
                          refine (polText_any nm d rs A1 n1 c1 hd pt A2 n2 c2 po A3 n3 c3 tb m7 _ HL1.out.l1 HL1.out.l2 HL1.out.l3 HGd.out HOk.out hR.1 (hR.2 tb m7 HI.out.pr.ts) HI.out.pr.ts (by omega) (HE.out.kept HI.out.b)).mono ?_
                          clear hR
                          rintro e vh4 ⟨rfl, hTS, hgr⟩
                          refine hK.out _ _ ?_ (fun hHeld4 => ?_)
                          · exact six_grow hHeld3 hgr (HL1.out.bk.tyb.ne (TS.tyb HI.out.pr.ts) (by decide))
                          clear hK K
                          first | (clear y0 yz0 y1 yz1 y2 yz2 y3 yz3 y4 yz4 y5 yz5 yl) | skip
                          first | (clear z0 zz0 z1 zz1 z2 zz2 zl) | skip
                          first | (clear hne2) | skip
                          first | (clear hne) | skip
                          first | (have HN7 := Lib.hid (HN7.out.grown hgr (by intro e; exact (HN7.out.tyb.ne (TS.tyb HI.out.pr.ts) (by decide)) (Option.some.inj e)))) | skip
                          first | (have HN8 := Lib.hid (HN8.out.grown hgr (by intro e; exact (HN8.out.tyb.ne (TS.tyb HI.out.pr.ts) (by decide)) (Option.some.inj e)))) | skip
                          have HL1 := Lib.hid (HL1.out.tab HI.out.pr.ts hgr)
                          have HI := Lib.hid (HI.out.tab hTS hgr)
                          clear hTS hgr hHeld3
                          first | (have y0 := HN7.out.cell 0 rfl; have yz0 := HN7.out.fz 0; have y1 := HN7.out.cell 1 rfl; have yz1 := HN7.out.fz 1; have y2 := HN7.out.cell 2 rfl; have yz2 := HN7.out.fz 2; have y3 := HN7.out.cell 3 rfl; have yz3 := HN7.out.fz 3; have y4 := HN7.out.cell 4 rfl; have yz4 := HN7.out.fz 4; have y5 := HN7.out.cell 5 rfl; have yz5 := HN7.out.fz 5; have yl := HN7.out.lt) | skip
                          first | (have z0 := HN8.out.cell 0 rfl; have zz0 := HN8.out.fz 0; have z1 := HN8.out.cell 1 rfl; have zz1 := HN8.out.fz 1; have z2 := HN8.out.cell 2 rfl; have zz2 := HN8.out.fz 2; have zl := HN8.out.lt) | skip
                          first | (have hne := HN7.out.tyb.ne HN8.out.tyb (by decide); have hne2 : g8 ≠ g7 := Ne.symm hne) | skip
                          try simp only [Act.put, List.setIfInBounds_toArray, List.set_cons_zero, List.set_cons_succ]
                          refine wpAnyH_ready (rs := [5]) (by kernel_rfl) (by simp) ?_
                          refine AllReadyH.cons (by first | (simp only [List.getElem?_toArray, List.getElem?_cons_succ, List.getElem?_cons_zero] <;> rfl) | rfl) (fun K hK => ?_) ?_
                          · go_simp
                            have hp := parse_any ⟨(textP ⟨nm, d, rs.map RuleV.m, hd, pt, po⟩).toArray⟩ pb tb (m7 + n1) qa _ HI.out.pr (HE.out.kept HI.out.b).g (by have := Hn1.out; omega)
                            rw [show (⟨(textP ⟨nm, d, rs.map RuleV.m, hd, pt, po⟩).toArray⟩ : ByteArray).data.toList = textP ⟨nm, d, rs.map RuleV.m, hd, pt, po⟩ from rfl, HBack.out] at hp
                            refine hp.mono ?_
                            clear hp
                            rintro e vh5 ⟨T2, rfl, hTm, hPT, hTS, hgr, hSz⟩
                            obtain ⟨v2, hT2, j1, j2, j3, j4, j5⟩ := pt_open hPT
                            obtain ⟨mnm, md, mhd, mrv, mbv, mqv, mrs, mpt, mpo⟩ := T2
                            obtain ⟨B1, k1, e1, B2, k2, e2, B3, k3, e3⟩ := v2
                            simp only [tv, TV.mk.injEq] at hT2
                            obtain ⟨-, -, -, rfl, rfl, rfl, -, -, -⟩ := hT2
                            simp only [TV.m] at hTm hSz
                            simp only at j1 j2 j3 j4 j5
                            have HTm := Lib.hid hTm
                            have HSz2 := Lib.hid hSz
                            have HJ := Lib.hid (And.intro j1 (And.intro j2 (And.intro j3 (And.intro j4 j5))))
                            simp only [TV.l, wrl, noW]
                            refine hK.out _ _ ?_ (fun hHeld5 => ?_)
                            · exact six_grow hHeld4 hgr (HL1.out.bk.tyb.ne (TS.tyb HI.out.pr.ts) (by decide))
                            clear hK K
                            first | (clear y0 yz0 y1 yz1 y2 yz2 y3 yz3 y4 yz4 y5 yz5 yl) | skip
                            first | (clear z0 zz0 z1 zz1 z2 zz2 zl) | skip
                            first | (clear hne2) | skip
                            first | (clear hne) | skip
                            first | (have HN7 := Lib.hid (HN7.out.grown hgr (by intro e; exact (HN7.out.tyb.ne (TS.tyb HI.out.pr.ts) (by decide)) (Option.some.inj e)))) | skip
                            first | (have HN8 := Lib.hid (HN8.out.grown hgr (by intro e; exact (HN8.out.tyb.ne (TS.tyb HI.out.pr.ts) (by decide)) (Option.some.inj e)))) | skip
                            have HL1 := Lib.hid (HL1.out.tab HI.out.pr.ts hgr)
                            have HI := Lib.hid (HI.out.tab hTS hgr)
                            have HP2 := Lib.hid hPT
                            clear hPT hTS hgr hHeld4 hTm hSz j1 j2 j3 j4 j5
                            first | (have y0 := HN7.out.cell 0 rfl; have yz0 := HN7.out.fz 0; have y1 := HN7.out.cell 1 rfl; have yz1 := HN7.out.fz 1; have y2 := HN7.out.cell 2 rfl; have yz2 := HN7.out.fz 2; have y3 := HN7.out.cell 3 rfl; have yz3 := HN7.out.fz 3; have y4 := HN7.out.cell 4 rfl; have yz4 := HN7.out.fz 4; have y5 := HN7.out.cell 5 rfl; have yz5 := HN7.out.fz 5; have yl := HN7.out.lt) | skip
                            first | (have z0 := HN8.out.cell 0 rfl; have zz0 := HN8.out.fz 0; have z1 := HN8.out.cell 1 rfl; have zz1 := HN8.out.fz 1; have z2 := HN8.out.cell 2 rfl; have zz2 := HN8.out.fz 2; have zl := HN8.out.lt) | skip
                            first | (have hne := HN7.out.tyb.ne HN8.out.tyb (by decide); have hne2 : g8 ≠ g7 := Ne.symm hne) | skip
                            try simp only [Act.put, List.setIfInBounds_toArray, List.set_cons_zero, List.set_cons_succ]
                            refine wpAnyH_take (i := 6) (v := ?_) (by first | (simp only [List.getElem?_toArray, List.getElem?_cons_succ, List.getElem?_cons_zero] <;> rfl) | rfl) (by kernel_rfl) (by kernel_rfl) (by kernel_rfl) (by exact fun _ _ _ h => h) (Or.inl ⟨by rfl, ?_⟩) hHeld5 ?_
                            rotate_left 1
                            · intro w hSw
                              try dsimp only at hSw
                              (go_simp) <;> (with_reducible rfl)
                            try simp only [Act.put, List.setIfInBounds_toArray, List.set_cons_zero, List.set_cons_succ]
                            refine wpAnyH_take (i := 7) (v := ?_) (by first | (simp only [List.getElem?_toArray, List.getElem?_cons_succ, List.getElem?_cons_zero] <;> rfl) | rfl) (by kernel_rfl) (by kernel_rfl) (by kernel_rfl) (by exact fun _ _ _ h => h) (Or.inl ⟨by rfl, ?_⟩) hHeld5 ?_
                            rotate_left 1
                            · intro w hSw
                              try dsimp only at hSw
                              (go_simp) <;> (with_reducible rfl)
                            try simp only [Act.put, List.setIfInBounds_toArray, List.set_cons_zero, List.set_cons_succ]
                            refine wpAnyH_take (i := 8) (v := ?_) (by first | (simp only [List.getElem?_toArray, List.getElem?_cons_succ, List.getElem?_cons_zero] <;> rfl) | rfl) (by kernel_rfl) (by kernel_rfl) (by kernel_rfl) (by exact fun _ _ _ h => h) (Or.inl ⟨by rfl, ?_⟩) hHeld5 ?_
                            rotate_left 1
                            · intro w hSw
                              try dsimp only at hSw
                              (go_simp) <;> (with_reducible rfl)
                            try simp only [Act.put, List.setIfInBounds_toArray, List.set_cons_zero, List.set_cons_succ]
                            refine wpAnyH_ready (rs := [11]) (by kernel_rfl) (by simp) ?_
                            refine AllReadyH.cons (by first | (simp only [List.getElem?_toArray, List.getElem?_cons_succ, List.getElem?_cons_zero] <;> rfl) | rfl) (fun K hK => ?_) ?_
                            · go_simp
                              refine hK.out _ _ ?_ (fun hHeld6 => ?_)
                              · exact six_grow hHeld5 (set6_grown _ _ _ _ _ _ _ _) HD7.out
                              clear hK K
                              try simp only [Act.put, List.setIfInBounds_toArray, List.set_cons_zero, List.set_cons_succ]
                              refine wpAnyH_ready (rs := [12]) (by kernel_rfl) (by simp) ?_
                              refine AllReadyH.cons (by first | (simp only [List.getElem?_toArray, List.getElem?_cons_succ, List.getElem?_cons_zero] <;> rfl) | rfl) (fun K hK => ?_) ?_
                              · go_simp
                                refine hK.out _ _ ?_ (fun hHeld7 => ?_)
                                · exact six_grow (six_grow hHeld5 (set6_grown _ _ _ _ _ _ _ _) HD7.out) (set3_grown _ _ _ _ _) HD8.out
                                clear hK K
                                try simp only [Act.put, List.setIfInBounds_toArray, List.set_cons_zero, List.set_cons_succ]
                                refine wpAnyH_done (by kernel_rfl) ?_ _
                                clear y0 yz0 y1 yz1 y2 yz2 y3 yz3 y4 yz4 y5 yz5 yl z0 zz0 z1 zz1 z2 zz2 zl
                                go_wp2_with fail
                                go_meet
                                case rel =>
                                  exact any_two (v2 := ⟨B1, k1, e1, B2, k2, e2, B3, k3, e3⟩) (nm2 := mnm) (d2 := md) (hd2 := mhd) (rs2 := mrs) (pt2 := mpt) (po2 := mpo) HI.out HP2.out HJ.out HSz2.out HTm.out HN7.out HN8.out HG7.out HG8.out HL1.out HD7.out rfl
                              exact AllReadyH.nil
                            exact AllReadyH.nil
                          exact AllReadyH.nil
                        exact AllReadyH.nil
                      exact AllReadyH.nil
                    refine AllReadyH.cons (by first | (simp only [List.getElem?_toArray, List.getElem?_cons_succ, List.getElem?_cons_zero] <;> rfl) | rfl) (fun K hK => ?_) ?_
                    · go_simp
                      refine hK.out _ _ ?_ (fun hHeld2 => ?_)
                      · exact six_below hHeld1 (oneb _ _)
                      clear hK K
                      first | (clear y0 yz0 y1 yz1 y2 yz2 y3 yz3 y4 yz4 y5 yz5 yl) | skip
                      first | (clear z0 zz0 z1 zz1 z2 zz2 zl) | skip
                      first | (clear hne2) | skip
                      first | (clear hne) | skip
                      have hbb := oneb vh1 (.cells #[.string ⟨#[]⟩, .int .u32 0, .slice none 0 0, .int .u16 0, .slice none 0 0, .slice none 0 0] 35)
                      have hN := Bk.new vh1 35 #[.string ⟨#[]⟩, .int .u32 0, .slice none 0 0, .int .u16 0, .slice none 0 0, .slice none 0 0] (l := [.string ⟨#[]⟩, .int .u32 0, .slice none 0 0, .int .u16 0, .slice none 0 0, .slice none 0 0]) rfl
                      have hge := HI.out.b.size
                      have hg1 : g12 ≠ vh1.heap.size := Nat.ne_of_lt HL1.out.bk.lt
                      generalize World.alloc vh1 _ = vh2 at hbb hN hHeld2 ⊢
                      have HI := Lib.hid (HI.out.below hbb)
                      have HL1 := Lib.hid (HL1.out.below hbb)
                      first | (have HP2 := Lib.hid (PT.below HP2.out hbb)) | skip
                      first | (have HN7 := Lib.hid (HN7.out.kept hbb)) | skip
                      first | (have HN8 := Lib.hid (HN8.out.kept hbb)) | skip
                      generalize vh1.heap.size = g7 at hN hge hg1 ⊢
                      have HN7 := Lib.hid hN
                      have HG7 := Lib.hid hge
                      have HD7 := Lib.hid hg1
                      clear hbb hN hge hg1 hHeld1
                      first | (have y0 := HN7.out.cell 0 rfl; have yz0 := HN7.out.fz 0; have y1 := HN7.out.cell 1 rfl; have yz1 := HN7.out.fz 1; have y2 := HN7.out.cell 2 rfl; have yz2 := HN7.out.fz 2; have y3 := HN7.out.cell 3 rfl; have yz3 := HN7.out.fz 3; have y4 := HN7.out.cell 4 rfl; have yz4 := HN7.out.fz 4; have y5 := HN7.out.cell 5 rfl; have yz5 := HN7.out.fz 5; have yl := HN7.out.lt) | skip
                      first | (have z0 := HN8.out.cell 0 rfl; have zz0 := HN8.out.fz 0; have z1 := HN8.out.cell 1 rfl; have zz1 := HN8.out.fz 1; have z2 := HN8.out.cell 2 rfl; have zz2 := HN8.out.fz 2; have zl := HN8.out.lt) | skip
                      first | (have hne := HN7.out.tyb.ne HN8.out.tyb (by decide); have hne2 : g8 ≠ g7 := Ne.symm hne) | skip
                      try simp only [Act.put, List.setIfInBounds_toArray, List.set_cons_zero, List.set_cons_succ]
                      refine wpAnyH_ready (rs := [3]) (by kernel_rfl) (by simp) ?_
                      refine AllReadyH.cons (by first | (simp only [List.getElem?_toArray, List.getElem?_cons_succ, List.getElem?_cons_zero] <;> rfl) | rfl) (fun K hK => ?_) ?_
                      · go_simp
                        refine (parserCalls_any pb tb m7 qa _ HI.out.pr).mono ?_
                        rintro e vh3 ⟨rfl, rfl⟩
                        refine hK.out _ _ ?_ (fun hHeld3 => ?_)
                        · exact hHeld2
                        clear hK K
                        try simp only [Act.put, List.setIfInBounds_toArray, List.set_cons_zero, List.set_cons_succ]
                        refine wpAnyH_ready (rs := [4]) (by kernel_rfl) (by simp) ?_
                        refine AllReadyH.cons (by first | (simp only [List.getElem?_toArray, List.getElem?_cons_succ, List.getElem?_cons_zero] <;> rfl) | rfl) (fun K hK => ?_) ?_
                        · go_simp
                          have hR := pt_reads HL1.out.ptt HL1.out.l1 HL1.out.l2 HL1.out.l3
                          refine (polText_any nm d rs A1 n1 c1 hd pt A2 n2 c2 po A3 n3 c3 tb m7 _ HL1.out.l1 HL1.out.l2 HL1.out.l3 HGd.out HOk.out hR.1 (hR.2 tb m7 HI.out.pr.ts) HI.out.pr.ts (by omega) (HE.out.kept HI.out.b)).mono ?_
                          clear hR
                          rintro e vh4 ⟨rfl, hTS, hgr⟩
                          refine hK.out _ _ ?_ (fun hHeld4 => ?_)
                          · exact six_grow hHeld3 hgr (HL1.out.bk.tyb.ne (TS.tyb HI.out.pr.ts) (by decide))
                          clear hK K
                          first | (clear y0 yz0 y1 yz1 y2 yz2 y3 yz3 y4 yz4 y5 yz5 yl) | skip
                          first | (clear z0 zz0 z1 zz1 z2 zz2 zl) | skip
                          first | (clear hne2) | skip
                          first | (clear hne) | skip
                          first | (have HN7 := Lib.hid (HN7.out.grown hgr (by intro e; exact (HN7.out.tyb.ne (TS.tyb HI.out.pr.ts) (by decide)) (Option.some.inj e)))) | skip
                          first | (have HN8 := Lib.hid (HN8.out.grown hgr (by intro e; exact (HN8.out.tyb.ne (TS.tyb HI.out.pr.ts) (by decide)) (Option.some.inj e)))) | skip
                          have HL1 := Lib.hid (HL1.out.tab HI.out.pr.ts hgr)
                          have HI := Lib.hid (HI.out.tab hTS hgr)
                          clear hTS hgr hHeld3
                          first | (have y0 := HN7.out.cell 0 rfl; have yz0 := HN7.out.fz 0; have y1 := HN7.out.cell 1 rfl; have yz1 := HN7.out.fz 1; have y2 := HN7.out.cell 2 rfl; have yz2 := HN7.out.fz 2; have y3 := HN7.out.cell 3 rfl; have yz3 := HN7.out.fz 3; have y4 := HN7.out.cell 4 rfl; have yz4 := HN7.out.fz 4; have y5 := HN7.out.cell 5 rfl; have yz5 := HN7.out.fz 5; have yl := HN7.out.lt) | skip
                          first | (have z0 := HN8.out.cell 0 rfl; have zz0 := HN8.out.fz 0; have z1 := HN8.out.cell 1 rfl; have zz1 := HN8.out.fz 1; have z2 := HN8.out.cell 2 rfl; have zz2 := HN8.out.fz 2; have zl := HN8.out.lt) | skip
                          first | (have hne := HN7.out.tyb.ne HN8.out.tyb (by decide); have hne2 : g8 ≠ g7 := Ne.symm hne) | skip
                          try simp only [Act.put, List.setIfInBounds_toArray, List.set_cons_zero, List.set_cons_succ]
                          refine wpAnyH_ready (rs := [5]) (by kernel_rfl) (by simp) ?_
                          refine AllReadyH.cons (by first | (simp only [List.getElem?_toArray, List.getElem?_cons_succ, List.getElem?_cons_zero] <;> rfl) | rfl) (fun K hK => ?_) ?_
                          · go_simp
                            have hp := parse_any ⟨(textP ⟨nm, d, rs.map RuleV.m, hd, pt, po⟩).toArray⟩ pb tb (m7 + n1) qa _ HI.out.pr (HE.out.kept HI.out.b).g (by have := Hn1.out; omega)
                            rw [show (⟨(textP ⟨nm, d, rs.map RuleV.m, hd, pt, po⟩).toArray⟩ : ByteArray).data.toList = textP ⟨nm, d, rs.map RuleV.m, hd, pt, po⟩ from rfl, HBack.out] at hp
                            refine hp.mono ?_
                            clear hp
                            rintro e vh5 ⟨T2, rfl, hTm, hPT, hTS, hgr, hSz⟩
                            obtain ⟨v2, hT2, j1, j2, j3, j4, j5⟩ := pt_open hPT
                            obtain ⟨mnm, md, mhd, mrv, mbv, mqv, mrs, mpt, mpo⟩ := T2
                            obtain ⟨B1, k1, e1, B2, k2, e2, B3, k3, e3⟩ := v2
                            simp only [tv, TV.mk.injEq] at hT2
                            obtain ⟨-, -, -, rfl, rfl, rfl, -, -, -⟩ := hT2
                            simp only [TV.m] at hTm hSz
                            simp only at j1 j2 j3 j4 j5
                            have HTm := Lib.hid hTm
                            have HSz2 := Lib.hid hSz
                            have HJ := Lib.hid (And.intro j1 (And.intro j2 (And.intro j3 (And.intro j4 j5))))
                            simp only [TV.l, wrl, noW]
                            refine hK.out _ _ ?_ (fun hHeld5 => ?_)
                            · exact six_grow hHeld4 hgr (HL1.out.bk.tyb.ne (TS.tyb HI.out.pr.ts) (by decide))
                            clear hK K
                            first | (clear y0 yz0 y1 yz1 y2 yz2 y3 yz3 y4 yz4 y5 yz5 yl) | skip
                            first | (clear z0 zz0 z1 zz1 z2 zz2 zl) | skip
                            first | (clear hne2) | skip
                            first | (clear hne) | skip
                            first | (have HN7 := Lib.hid (HN7.out.grown hgr (by intro e; exact (HN7.out.tyb.ne (TS.tyb HI.out.pr.ts) (by decide)) (Option.some.inj e)))) | skip
                            first | (have HN8 := Lib.hid (HN8.out.grown hgr (by intro e; exact (HN8.out.tyb.ne (TS.tyb HI.out.pr.ts) (by decide)) (Option.some.inj e)))) | skip
                            have HL1 := Lib.hid (HL1.out.tab HI.out.pr.ts hgr)
                            have HI := Lib.hid (HI.out.tab hTS hgr)
                            have HP2 := Lib.hid hPT
                            clear hPT hTS hgr hHeld4 hTm hSz j1 j2 j3 j4 j5
                            first | (have y0 := HN7.out.cell 0 rfl; have yz0 := HN7.out.fz 0; have y1 := HN7.out.cell 1 rfl; have yz1 := HN7.out.fz 1; have y2 := HN7.out.cell 2 rfl; have yz2 := HN7.out.fz 2; have y3 := HN7.out.cell 3 rfl; have yz3 := HN7.out.fz 3; have y4 := HN7.out.cell 4 rfl; have yz4 := HN7.out.fz 4; have y5 := HN7.out.cell 5 rfl; have yz5 := HN7.out.fz 5; have yl := HN7.out.lt) | skip
                            first | (have z0 := HN8.out.cell 0 rfl; have zz0 := HN8.out.fz 0; have z1 := HN8.out.cell 1 rfl; have zz1 := HN8.out.fz 1; have z2 := HN8.out.cell 2 rfl; have zz2 := HN8.out.fz 2; have zl := HN8.out.lt) | skip
                            first | (have hne := HN7.out.tyb.ne HN8.out.tyb (by decide); have hne2 : g8 ≠ g7 := Ne.symm hne) | skip
                            try simp only [Act.put, List.setIfInBounds_toArray, List.set_cons_zero, List.set_cons_succ]
                            refine wpAnyH_take (i := 6) (v := ?_) (by first | (simp only [List.getElem?_toArray, List.getElem?_cons_succ, List.getElem?_cons_zero] <;> rfl) | rfl) (by kernel_rfl) (by kernel_rfl) (by kernel_rfl) (by exact fun _ _ _ h => h) (Or.inl ⟨by rfl, ?_⟩) hHeld5 ?_
                            rotate_left 1
                            · intro w hSw
                              try dsimp only at hSw
                              (go_simp) <;> (with_reducible rfl)
                            try simp only [Act.put, List.setIfInBounds_toArray, List.set_cons_zero, List.set_cons_succ]
                            refine wpAnyH_take (i := 7) (v := ?_) (by first | (simp only [List.getElem?_toArray, List.getElem?_cons_succ, List.getElem?_cons_zero] <;> rfl) | rfl) (by kernel_rfl) (by kernel_rfl) (by kernel_rfl) (by exact fun _ _ _ h => h) (Or.inl ⟨by rfl, ?_⟩) hHeld5 ?_
                            rotate_left 1
                            · intro w hSw
                              try dsimp only at hSw
                              (go_simp) <;> (with_reducible rfl)
                            try simp only [Act.put, List.setIfInBounds_toArray, List.set_cons_zero, List.set_cons_succ]
                            refine wpAnyH_take (i := 8) (v := ?_) (by first | (simp only [List.getElem?_toArray, List.getElem?_cons_succ, List.getElem?_cons_zero] <;> rfl) | rfl) (by kernel_rfl) (by kernel_rfl) (by kernel_rfl) (by exact fun _ _ _ h => h) (Or.inl ⟨by rfl, ?_⟩) hHeld5 ?_
                            rotate_left 1
                            · intro w hSw
                              try dsimp only at hSw
                              (go_simp) <;> (with_reducible rfl)
                            try simp only [Act.put, List.setIfInBounds_toArray, List.set_cons_zero, List.set_cons_succ]
                            refine wpAnyH_ready (rs := [11]) (by kernel_rfl) (by simp) ?_
                            refine AllReadyH.cons (by first | (simp only [List.getElem?_toArray, List.getElem?_cons_succ, List.getElem?_cons_zero] <;> rfl) | rfl) (fun K hK => ?_) ?_
                            · go_simp
                              refine hK.out _ _ ?_ (fun hHeld6 => ?_)
                              · exact six_grow hHeld5 (set6_grown _ _ _ _ _ _ _ _) HD7.out
                              clear hK K
                              try simp only [Act.put, List.setIfInBounds_toArray, List.set_cons_zero, List.set_cons_succ]
                              refine wpAnyH_ready (rs := [12]) (by kernel_rfl) (by simp) ?_
                              refine AllReadyH.cons (by first | (simp only [List.getElem?_toArray, List.getElem?_cons_succ, List.getElem?_cons_zero] <;> rfl) | rfl) (fun K hK => ?_) ?_
                              · go_simp
                                refine hK.out _ _ ?_ (fun hHeld7 => ?_)
                                · exact six_grow (six_grow hHeld5 (set6_grown _ _ _ _ _ _ _ _) HD7.out) (set3_grown _ _ _ _ _) HD8.out
                                clear hK K
                                try simp only [Act.put, List.setIfInBounds_toArray, List.set_cons_zero, List.set_cons_succ]
                                refine wpAnyH_done (by kernel_rfl) ?_ _
                                clear y0 yz0 y1 yz1 y2 yz2 y3 yz3 y4 yz4 y5 yz5 yl z0 zz0 z1 zz1 z2 zz2 zl
                                go_wp2_with fail
                                go_meet
                                case rel =>
                                  exact any_two (v2 := ⟨B1, k1, e1, B2, k2, e2, B3, k3, e3⟩) (nm2 := mnm) (d2 := md) (hd2 := mhd) (rs2 := mrs) (pt2 := mpt) (po2 := mpo) HI.out HP2.out HJ.out HSz2.out HTm.out HN7.out HN8.out HG7.out HG8.out HL1.out HD7.out rfl
                              exact AllReadyH.nil
                            exact AllReadyH.nil
                          exact AllReadyH.nil
                        exact AllReadyH.nil
                      exact AllReadyH.nil
                    exact AllReadyH.nil
                  exact AllReadyH.nil
                case rest =>
                  obtain ⟨g14, g15, B9, mnm, md, mhd, v2, mrs, mpt, mpo, rfl, rfl, hTm, HI, HL1, HL2, HW2⟩ := hcut
                  rename World => w9
                  obtain ⟨B1, k1, e1, B2, k2, e2, B3, k3, e3⟩ := v2
                  have HTm := Lib.hid hTm
                  clear hTm pl
                  have hQz : ∀ W : World, (binOp .neq 48 (.agg #[.int .i64 0, .int .i64 0, .int .i64 0]) (.agg #[.int .i64 0, .int .i64 0, .int .i64 0])).run Tryz.prog W = .ok (.bool false) W := fun W => by have h := neq_wr noW noW W; simpa [noW] using h
                  obtain ⟨m9, hm9e⟩ : ∃ z, z = m7 + n1 + 2000001 := ⟨_, rfl⟩
                  have hm9 : m9 + 64 ≤ (k + 1) * 5000000 := by have := Hn1.out; omega
                  have hm9b : m9 ≤ 800000000 := by omega
                  rw [← hm9e] at HI
                  clear hm9e
                  go_upto_region 22 with fail
                  refine wp_region_held_drew (S := (fun w' => w'.cell? ⟨g12, 0, none⟩ = some (.string ⟨nm.toArray⟩) ∧ w'.cell? ⟨g12, 1, none⟩ = some (.int .u32 d) ∧ w'.cell? ⟨g12, 2, none⟩ = some (.slice A1 n1 c1) ∧ w'.cell? ⟨g12, 3, none⟩ = some (.int .u16 hd) ∧ w'.cell? ⟨g12, 4, none⟩ = some (.slice A2 n2 c2) ∧ w'.cell? ⟨g12, 5, none⟩ = some (.slice A3 n3 c3) ∧ w'.cell? ⟨g14, 0, none⟩ = some (.string ⟨mnm.toArray⟩) ∧ w'.cell? ⟨g14, 1, none⟩ = some (.int .u32 md) ∧ w'.cell? ⟨g14, 2, none⟩ = some (.slice B1 k1 e1) ∧ w'.cell? ⟨g14, 3, none⟩ = some (.int .u16 mhd) ∧ w'.cell? ⟨g14, 4, none⟩ = some (.slice B2 k2 e2) ∧ w'.cell? ⟨g14, 5, none⟩ = some (.slice B3 k3 e3) ∧ w'.cell? ⟨g15, 0, none⟩ = some (.int .i64 0) ∧ w'.cell? ⟨g15, 1, none⟩ = some (.int .i64 0) ∧ w'.cell? ⟨g15, 2, none⟩ = some (.int .i64 0))) (by kernel_rfl) ?_ (fun hHeld0 => ?_)
                  · have hk0 := HL1.out.bk.drew
                    have hk1 := HL2.out.bk.drew
                    have hk2 := HW2.out.drew
                    exact ⟨hk0.cell 0 rfl, hk0.cell 1 rfl, hk0.cell 2 rfl, hk0.cell 3 rfl, hk0.cell 4 rfl, hk0.cell 5 rfl, hk1.cell 0 rfl, hk1.cell 1 rfl, hk1.cell 2 rfl, hk1.cell 3 rfl, hk1.cell 4 rfl, hk1.cell 5 rfl, hk2.cell 0 rfl, hk2.cell 1 rfl, hk2.cell 2 rfl⟩
                  have HI := Lib.hid (HI.out.below (Below.refl _ _).drew)
                  have HL1 := Lib.hid (HL1.out.below (Below.refl _ _).drew)
                  have HL2 := Lib.hid (HL2.out.below (Below.refl _ _).drew)
                  have HW2 := Lib.hid (HW2.out.kept (Below.refl _ _).drew)
                  generalize w9.drew = vh0 at hHeld0 HI HL1 HL2 HW2 ⊢
                  refine wpAnyH_take (i := 0) (v := ?_) (by first | (simp only [List.getElem?_toArray, List.getElem?_cons_zero] <;> rfl) | rfl) (by kernel_rfl) (by kernel_rfl) (by kernel_rfl) (by exact fun _ _ _ h => h) (Or.inl ⟨by rfl, ?_⟩) hHeld0 ?_
                  rotate_left 1
                  · intro w hSw
                    try dsimp only at hSw
                    (go_simp) <;> (with_reducible rfl)
                  try simp only [Act.put, List.setIfInBounds_toArray, List.set_cons_zero, List.set_cons_succ]
                  refine wpAnyH_take (i := 1) (v := ?_) (by first | (simp only [List.getElem?_toArray, List.getElem?_cons_succ, List.getElem?_cons_zero] <;> rfl) | rfl) (by kernel_rfl) (by kernel_rfl) (by kernel_rfl) (by exact fun _ _ _ h => h) (Or.inl ⟨by rfl, ?_⟩) hHeld0 ?_
                  rotate_left 1
                  · intro w hSw
                    try dsimp only at hSw
                    (go_simp) <;> (with_reducible rfl)
                  try simp only [Act.put, List.setIfInBounds_toArray, List.set_cons_zero, List.set_cons_succ]
                  refine wpAnyH_ready (rs := [2]) (by kernel_rfl) (by simp) ?_
                  refine AllReadyH.cons (by first | (simp only [List.getElem?_toArray, List.getElem?_cons_succ, List.getElem?_cons_zero] <;> rfl) | rfl) (fun K hK => ?_) ?_
                  · go_simp
                    refine (parserCalls_any pb tb m9 qa _ HI.out.pr).mono ?_
                    rintro e vh1 ⟨rfl, rfl⟩
                    refine hK.out _ _ ?_ (fun hHeld1 => ?_)
                    · exact hHeld0
                    clear hK K
                    try simp only [Act.put, List.setIfInBounds_toArray, List.set_cons_zero, List.set_cons_succ]
                    refine wpAnyH_ready (rs := [3]) (by kernel_rfl) (by simp) ?_
                    refine AllReadyH.cons (by first | (simp only [List.getElem?_toArray, List.getElem?_cons_succ, List.getElem?_cons_zero] <;> rfl) | rfl) (fun K hK => ?_) ?_
                    · go_simp
                      have hR := pt_reads HL1.out.ptt HL1.out.l1 HL1.out.l2 HL1.out.l3
                      have hEw := (HE.out.kept HI.out.b).g
                      have hl := HGd.out.lim
                      have ho := HOk.out
                      have hcm := HL1.out
                      have L1 : rs.length = n1 := hcm.l1
                      have L2 : pt.length = n2 := hcm.l2
                      have L3 : po.length = n3 := hcm.l3
                      have hp := polCheckB_any nm d rs A1 n1 c1 hd pt A2 n2 c2 po A3 n3 c3 tb m9 _ ho.name ho.dflt L1 L2 L3 (by have := ho.rules; simp only [List.length_map] at this; omega) (by have := ho.paths; simp only at this; omega) (by have := ho.ports; simp only at this; omega) (fun r hr => ho.each r.m (List.mem_map_of_mem hr)) ho.handled ho.path ho.port hcm.m2 hcm.m3 hR.1 (hR.2 tb m9 HI.out.pr.ts) HI.out.pr.ts hm9b ⟨hEw.lx.ml, hEw.sg 7 (by omega)⟩
                      rw [gd_polE HGd.out ho.handled] at hp
                      refine hp.mono ?_
                      clear hp hR hEw hl ho hcm L1 L2 L3
                      rintro e vh2 ⟨rfl, hTS, hgr⟩
                      refine hK.out _ _ ?_ (fun hHeld2 => ?_)
                      · exact by obtain ⟨s0, s1, s2, s3, s4, s5, s6, s7, s8, s9, s10, s11, s12, s13, s14⟩ := hHeld1; exact ⟨cell_grow s0 hgr (HL1.out.bk.tyb.ne (TS.tyb HI.out.pr.ts) (by decide)), cell_grow s1 hgr (HL1.out.bk.tyb.ne (TS.tyb HI.out.pr.ts) (by decide)), cell_grow s2 hgr (HL1.out.bk.tyb.ne (TS.tyb HI.out.pr.ts) (by decide)), cell_grow s3 hgr (HL1.out.bk.tyb.ne (TS.tyb HI.out.pr.ts) (by decide)), cell_grow s4 hgr (HL1.out.bk.tyb.ne (TS.tyb HI.out.pr.ts) (by decide)), cell_grow s5 hgr (HL1.out.bk.tyb.ne (TS.tyb HI.out.pr.ts) (by decide)), cell_grow s6 hgr (HL2.out.bk.tyb.ne (TS.tyb HI.out.pr.ts) (by decide)), cell_grow s7 hgr (HL2.out.bk.tyb.ne (TS.tyb HI.out.pr.ts) (by decide)), cell_grow s8 hgr (HL2.out.bk.tyb.ne (TS.tyb HI.out.pr.ts) (by decide)), cell_grow s9 hgr (HL2.out.bk.tyb.ne (TS.tyb HI.out.pr.ts) (by decide)), cell_grow s10 hgr (HL2.out.bk.tyb.ne (TS.tyb HI.out.pr.ts) (by decide)), cell_grow s11 hgr (HL2.out.bk.tyb.ne (TS.tyb HI.out.pr.ts) (by decide)), cell_grow s12 hgr (HW2.out.tyb.ne (TS.tyb HI.out.pr.ts) (by decide)), cell_grow s13 hgr (HW2.out.tyb.ne (TS.tyb HI.out.pr.ts) (by decide)), cell_grow s14 hgr (HW2.out.tyb.ne (TS.tyb HI.out.pr.ts) (by decide))⟩
                      clear hK K
                      have HL1 := Lib.hid (HL1.out.tab HI.out.pr.ts hgr)
                      have HL2 := Lib.hid (HL2.out.tab HI.out.pr.ts hgr)
                      have HW2 := Lib.hid (HW2.out.grown hgr (by intro e; exact (HW2.out.tyb.ne (TS.tyb HI.out.pr.ts) (by decide)) (Option.some.inj e)))
                      have HI := Lib.hid (HI.out.tab hTS hgr)
                      clear hTS hgr hHeld1
                      try simp only [Act.put, List.setIfInBounds_toArray, List.set_cons_zero, List.set_cons_succ]
                      refine wpAnyH_take (i := 4) (v := ?_) (by first | (simp only [List.getElem?_toArray, List.getElem?_cons_succ, List.getElem?_cons_zero] <;> rfl) | rfl) (by kernel_rfl) (by kernel_rfl) (by kernel_rfl) (by exact fun _ _ _ h => h) (Or.inl ⟨by rfl, ?_⟩) hHeld2 ?_
                      rotate_left 1
                      · intro w hSw
                        try dsimp only at hSw
                        (go_simp) <;> (with_reducible rfl)
                      try simp only [Act.put, List.setIfInBounds_toArray, List.set_cons_zero, List.set_cons_succ]
                      refine wpAnyH_take (i := 5) (v := ?_) (by first | (simp only [List.getElem?_toArray, List.getElem?_cons_succ, List.getElem?_cons_zero] <;> rfl) | rfl) (by kernel_rfl) (by kernel_rfl) (by kernel_rfl) (by exact fun _ _ _ h => h) (Or.inl ⟨by rfl, ?_⟩) hHeld2 ?_
                      rotate_left 1
                      · intro w hSw
                        try dsimp only at hSw
                        (go_simp) <;> (with_reducible rfl)
                      try simp only [Act.put, List.setIfInBounds_toArray, List.set_cons_zero, List.set_cons_succ]
                      refine wpAnyH_take (i := 6) (v := ?_) (by first | (simp only [List.getElem?_toArray, List.getElem?_cons_succ, List.getElem?_cons_zero] <;> rfl) | rfl) (by kernel_rfl) (by kernel_rfl) (by kernel_rfl) (by exact fun _ _ _ h => h) (Or.inl ⟨by rfl, ?_⟩) hHeld2 ?_
                      rotate_left 1
                      · intro w hSw
                        try dsimp only at hSw
                        (go_simp) <;> (with_reducible rfl)
                      try simp only [Act.put, List.setIfInBounds_toArray, List.set_cons_zero, List.set_cons_succ]
                      refine wpAnyH_take (i := 7) (v := ?_) (by first | (simp only [List.getElem?_toArray, List.getElem?_cons_succ, List.getElem?_cons_zero] <;> rfl) | rfl) (by kernel_rfl) (by kernel_rfl) (by kernel_rfl) (by exact fun _ _ _ h => h) (Or.inl ⟨by rfl, ?_⟩) hHeld2 ?_
                      rotate_left 1
                      · intro w hSw
                        try dsimp only at hSw
                        (go_simp) <;> (with_reducible rfl)
                      try simp only [Act.put, List.setIfInBounds_toArray, List.set_cons_zero, List.set_cons_succ]
                      refine wpAnyH_take (i := 8) (v := ?_) (by first | (simp only [List.getElem?_toArray, List.getElem?_cons_succ, List.getElem?_cons_zero] <;> rfl) | rfl) (by kernel_rfl) (by kernel_rfl) (by kernel_rfl) (by exact fun _ _ _ h => h) (Or.inl ⟨by rfl, ?_⟩) hHeld2 ?_
                      rotate_left 1
                      · intro w hSw
                        try dsimp only at hSw
                        (go_simp) <;> (with_reducible rfl)
                      try simp only [Act.put, List.setIfInBounds_toArray, List.set_cons_zero, List.set_cons_succ]
                      refine wpAnyH_take (i := 9) (v := ?_) (by first | (simp only [List.getElem?_toArray, List.getElem?_cons_succ, List.getElem?_cons_zero] <;> rfl) | rfl) (by kernel_rfl) (by kernel_rfl) (by kernel_rfl) (by exact fun _ _ _ h => h) (Or.inl ⟨by rfl, ?_⟩) hHeld2 ?_
                      rotate_left 1
                      · intro w hSw
                        try dsimp only at hSw
                        (go_simp) <;> (with_reducible rfl)
                      try simp only [Act.put, List.setIfInBounds_toArray, List.set_cons_zero, List.set_cons_succ]
                      refine wpAnyH_take (i := 10) (v := ?_) (by first | (simp only [List.getElem?_toArray, List.getElem?_cons_succ, List.getElem?_cons_zero] <;> rfl) | rfl) (by kernel_rfl) (by kernel_rfl) (by kernel_rfl) (by exact fun _ _ _ h => h) (Or.inl ⟨by rfl, ?_⟩) hHeld2 ?_
                      rotate_left 1
                      · intro w hSw
                        try dsimp only at hSw
                        (go_simp) <;> (with_reducible rfl)
                      try simp only [Act.put, List.setIfInBounds_toArray, List.set_cons_zero, List.set_cons_succ]
                      refine wpAnyH_take (i := 11) (v := ?_) (by first | (simp only [List.getElem?_toArray, List.getElem?_cons_succ, List.getElem?_cons_zero] <;> rfl) | rfl) (by kernel_rfl) (by kernel_rfl) (by kernel_rfl) (by exact fun _ _ _ h => h) (Or.inl ⟨by rfl, ?_⟩) hHeld2 ?_
                      rotate_left 1
                      · intro w hSw
                        try dsimp only at hSw
                        (go_simp) <;> (with_reducible rfl)
                      try simp only [Act.put, List.setIfInBounds_toArray, List.set_cons_zero, List.set_cons_succ]
                      refine wpAnyH_take (i := 12) (v := ?_) (by first | (simp only [List.getElem?_toArray, List.getElem?_cons_succ, List.getElem?_cons_zero] <;> rfl) | rfl) (by kernel_rfl) (by kernel_rfl) (by kernel_rfl) (by exact fun _ _ _ h => h) (Or.inl ⟨by rfl, ?_⟩) hHeld2 ?_
                      rotate_left 1
                      · intro w hSw
                        try dsimp only at hSw
                        (go_simp) <;> (with_reducible rfl)
                      try simp only [Act.put, List.setIfInBounds_toArray, List.set_cons_zero, List.set_cons_succ]
                      refine wpAnyH_ready (rs := [13]) (by kernel_rfl) (by simp) ?_
                      refine AllReadyH.cons (by first | (simp only [List.getElem?_toArray, List.getElem?_cons_succ, List.getElem?_cons_zero] <;> rfl) | rfl) (fun K hK => ?_) ?_
                      · go_simp
                        have hR := pt_reads HL1.out.ptt HL1.out.l1 HL1.out.l2 HL1.out.l3
                        have hR2 := pt_reads HL2.out.ptt HL2.out.l1 HL2.out.l2 HL2.out.l3
                        have hp := same_any nm d hd n1 n2 n3 c1 c2 c3 A1 A2 A3 rs pt po mnm md mhd k1 k2 k3 e1 e2 e3 B1 B2 B3 mrs mpt mpo _ HL1.out.l1 HL1.out.l2 HL1.out.l3 HOk.out hR.1 HL2.out.l1 HL2.out.l2 HL2.out.l3 (by rw [HTm.out]; exact HOk.out) hR2.1
                        rw [(sameB_iff _ _).2 HTm.out.symm] at hp
                        refine hp.mono ?_
                        clear hp hR hR2
                        rintro e vh3 ⟨rfl, hbb⟩
                        refine hK.out _ _ ?_ (fun hHeld3 => ?_)
                        · exact by obtain ⟨s0, s1, s2, s3, s4, s5, s6, s7, s8, s9, s10, s11, s12, s13, s14⟩ := hHeld2; exact ⟨cell_below s0 hbb, cell_below s1 hbb, cell_below s2 hbb, cell_below s3 hbb, cell_below s4 hbb, cell_below s5 hbb, cell_below s6 hbb, cell_below s7 hbb, cell_below s8 hbb, cell_below s9 hbb, cell_below s10 hbb, cell_below s11 hbb, cell_below s12 hbb, cell_below s13 hbb, cell_below s14 hbb⟩
                        clear hK K
                        have HI := Lib.hid (HI.out.below hbb)
                        clear hbb hHeld2
                        try simp only [Act.put, List.setIfInBounds_toArray, List.set_cons_zero, List.set_cons_succ]
                        refine wpAnyH_take (i := 14) (v := ?_) (by first | (simp only [List.getElem?_toArray, List.getElem?_cons_succ, List.getElem?_cons_zero] <;> rfl) | rfl) (by kernel_rfl) (by kernel_rfl) (by kernel_rfl) (by exact fun _ _ _ h => h) (Or.inl ⟨by rfl, ?_⟩) hHeld3 ?_
                        rotate_left 1
                        · intro w hSw
                          try dsimp only at hSw
                          (go_simp) <;> (with_reducible rfl)
                        try simp only [Act.put, List.setIfInBounds_toArray, List.set_cons_zero, List.set_cons_succ]
                        refine wpAnyH_take (i := 15) (v := ?_) (by first | (simp only [List.getElem?_toArray, List.getElem?_cons_succ, List.getElem?_cons_zero] <;> rfl) | rfl) (by kernel_rfl) (by kernel_rfl) (by kernel_rfl) (by exact fun _ _ _ h => h) (Or.inl ⟨by rfl, ?_⟩) hHeld3 ?_
                        rotate_left 1
                        · intro w hSw
                          try dsimp only at hSw
                          (go_simp) <;> (with_reducible rfl)
                        try simp only [Act.put, List.setIfInBounds_toArray, List.set_cons_zero, List.set_cons_succ]
                        refine wpAnyH_done (by kernel_rfl) ?_ _
                        clear hHeld3
                        go_wp2_with fail
                        go_roundw
                        case rel => exact ⟨k + 1, m9 + 64, by go_num, by omega, hm9, HI⟩
                        case measure => simp [intOf]; omega
                      exact AllReadyH.nil
                    exact AllReadyH.nil
                  exact AllReadyH.nil
              · have hpb := pars_bad (s := t.data.toList) (by rw [hpar]; exact hbad)
                rw [hpar] at hpb
                obtain ⟨hz, hez⟩ := hpb
                simp only at hz hez
                have hQ2 : ∀ W : World, (binOp .neq 48 (.agg #[.int .i64 l, .int .i64 c, .int .i64 er]) (.agg #[.int .i64 0, .int .i64 0, .int .i64 0])).run Tryz.prog W = .ok (.bool true) W := fun W => by have h := hQ W; rw [decide_eq_true hbad] at h; exact h
                clear hQ
                have hR := pt_reads HL1.out.ptt HL1.out.l1 HL1.out.l2 HL1.out.l3
                have hz0 : (⟨nm, d, rs.map RuleV.m, hd, pt, po⟩ : PolM) = ⟨[], 0, ([] : List RuleV).map RuleV.m, 0, [], []⟩ := hz
                have Hs := Lib.hid (fun W (hW : Below w7.heap.size w7 W) => same_any nm d hd n1 n2 n3 c1 c2 c3 A1 A2 A3 rs pt po [] 0 0 0 0 0 0 0 0 none none none [] [] [] W HL1.out.l1 HL1.out.l2 HL1.out.l3 (by rw [hz0]; exact ok_zero) (hR.1.below hW) rfl rfl rfl ok_zero (reads_zero W))
                have HV := Lib.hid ((sameB_iff _ _).2 hz0)
                have ez : ((er : Int) == 0) = false := by rw [beq_eq_false_iff_ne]; omega
                clear hR hz hz0 hbad hez hpar
                go_wp2_with fail
                refine (Hs.out _ (Below.refl _ _)).mono ?_
                clear Hs p0 p1 p2 p3 p4 p5 q0 q1 q2
                rintro e w8 ⟨rfl, hb8⟩
                rw [HV.out]
                have q2 := (HW1.out.kept hb8).cell 2 rfl
                have ql := (HW1.out.kept hb8).lt
                have HI8 := Lib.hid (HI.out.below hb8)
                clear hb8
                go_wp2_with fail
                go_roundw
                case rel => exact ⟨k + 1, m7, by go_num, by omega, by omega, HI8⟩
                case measure => simp [intOf]; omega
          · have HBe := Lib.hid HI.out.b
            go_wp2_with fail
            go_ret
            exact ⟨rfl, HBe.out⟩
end Go.Proofs.YtinofjbnfmalkaaGreatDoor.Tx
