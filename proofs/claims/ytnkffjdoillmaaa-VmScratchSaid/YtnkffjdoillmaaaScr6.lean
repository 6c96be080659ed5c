/- VmScratch: each scratch number is one of its own. -/
import Derived.Test.YtnkffjdoillmaaaAwake6
import Derived.Test.YtnkffjdoillmaaaScrM
import Derived.Test.YtnkffjdoillmaaaScratch
import Derived.OpenShut
namespace Go.Proofs.Ytnkffjdoillmaaa
open Go.RowKit
theorem lit_cells (w : World) (T : TypeId) (cs : Array Value) (xs : List Value) (h : cs.toList = xs) (j : Nat) (u : Value) (hu : xs[j]? = some u) : (w.alloc (.cells cs T)).cell? ((⟨w.heap.size, 0, none⟩ : Addr).add j) = some u := by
  have hb := Bk.new (l := xs) w T cs (by rw [← h])
  rw [add_at', Nat.zero_add]
  exact hb.cell j hu
theorem u32s_rd {w : World} {b o k x : Nat} {l : List Nat} (h : ∀ j u, (u32s l)[j]? = some u → w.cell? ⟨b, o + j, none⟩ = some u) (hx : l[k]? = some x) : w.cell? ⟨b, o + k, none⟩ = some (.int .u32 x) := h k _ (u32s_at hx)
set_option maxRecDepth 100000 in
set_option maxHeartbeats 8000000 in
theorem walk_scratch6 (l : List Nat) (n cp at_ : Nat) (A : Option Addr) (w : World) (hl : l.length = n) (hok : ∀ x ∈ l, x < 4294967296) (hr : Rd w 1 n A (u32s l)) (hat : at_ < 256) :
    Calls Try.prog 8 #[.slice A n cp, .int .u8 at_] w (Yes w) := by
  obtain ⟨i0, hi, hz0, hz1, hz2⟩ := info_parts infoIns
  have HL := Lib.hid (And.intro hl (And.intro hok hr))
  clear hl hok hr
  go_enter Try.func8, Try.ntmps8
  go_wp2_with fail
  refine (awake6 _).mono ?_
  rintro e w1 ⟨rfl, hb1⟩
  have HB1 := Lib.hid hb1
  clear hb1
  by_cases h16 : 16 < n
  · have e1 : decide ((16 : Int) < n) = true := by simp; omega
    go_wp2_with fail
    go_ret
    exact ⟨rfl, HB1.out⟩
  have e1 : decide ((16 : Int) < n) = false := by simp; omega
  by_cases h0 : n = 0
  · have e2 : ((n : Int) == 0) = true := by simp; omega
    go_wp2_with fail
    go_ret
    exact ⟨rfl, HB1.out⟩
  have e2 : ((n : Int) == 0) = false := by simp; omega
  obtain ⟨b, o, hA, hbl, hcells⟩ := HL.out.2.2.pos (by omega)
  subst hA
  have HC := Lib.hid hcells
  go_wp2_with fail
  clear hcells e1 e2
  go_loopw [5, 31] (fun v i wr => ∃ k : Nat, k ≤ n ∧ i = .int .i64 k ∧ Hid (wr.ownsRow w1.heap.size 60 4 v (2 * k) ((stL l k).flatMap Ins.cells)) ∧ Hid (Below w1.heap.size w1 wr)) (fun _ i _ => n - (intOf i).toNat)
  case atStart => exact ⟨0, by omega, rfl, World.ownsRow_nil _ _ _ _, Below.refl _ _⟩
  case round =>
    obtain ⟨k, hk, rfl, Hown, Hb⟩ := hrel
    by_cases hlt : k < n
    · obtain ⟨x, hx⟩ : ∃ x, l[k]? = some x := ⟨_, List.getElem?_eq_getElem (by have := HL.out.1; omega)⟩
      have hxd : l.getD k 0 = x := by rw [List.getD_eq_getElem?_getD, hx]; rfl
      have q0 : wr.cell? ⟨b, o + k, none⟩ = some (.int .u32 x) := by
        rw [Hb.out.cell (p := ⟨b, o + k, none⟩) (Nat.lt_of_lt_of_le hbl HB1.out.size), HB1.out.cell (p := ⟨b, o + k, none⟩) hbl]
        exact u32s_rd HC.out hx
      have hsz := Hb.out.size
      by_cases hp : k % 2 = 0
      · have e3 : (k : Int) % 2 = 0 := by omega
        have Hs : Hid (stL l (k + 1) = stL l k ++ [⟨0, 0, 0, x⟩, ⟨2, 0, 0, k⟩]) := Lib.hid (by rw [stL, hxd, stP, if_pos hp])
        have Hn := Lib.hid (lit_cells wr 60 #[.int .u16 0, .int .u8 0, .int .u8 0, .int .u32 x, .int .u16 2, .int .u8 0, .int .u8 0, .int .u32 k] (([⟨0, 0, 0, x⟩, ⟨2, 0, 0, k⟩] : List Ins).flatMap Ins.cells) rfl)
        have Ho1 := Lib.hid (flat_one ([⟨0, 0, 0, x⟩, ⟨2, 0, 0, k⟩] : List Ins))
        have HB2 := Lib.hid (Hb.out.alloc hsz (.cells #[.int .u16 0, .int .u8 0, .int .u8 0, .int .u32 x, .int .u16 2, .int .u8 0, .int .u8 0, .int .u32 k] 60))
        have hs2 : w1.heap.size ≤ (wr.alloc (.cells #[.int .u16 0, .int .u8 0, .int .u8 0, .int .u32 x, .int .u16 2, .int .u8 0, .int .u8 0, .int .u32 k] 60)).heap.size := by simp; omega
        clear hx hxd hp
        go_wp2_with (at_builtin; refine wpList_append_own _ rfl (.tmp 39) (.tmp 45) 22 rfl w1.heap.size 60 i0 _ 4 8 Try.underlying22 hi hz0 hz1 hz2 rfl (by decide) _ (2 * k) _ rfl (Hown.out.alloc _) ⟨wr.heap.size, 0, none⟩ 2 2 (([⟨0, 0, 0, x⟩, ⟨2, 0, 0, k⟩] : List Ins).flatMap Ins.cells) rfl rfl Hn.out Ho1.out (by unfold maxLen; omega) (by omega) hs2 ?_; intro v' w4 hown' hgrow _)
        have Hown4 := Lib.hid (show w4.ownsRow w1.heap.size 60 4 v' (2 * (k + 1)) ((stL l (k + 1)).flatMap Ins.cells) from by rw [Hs.out, List.flatMap_append, show 2 * (k + 1) = 2 * k + 2 by omega]; exact hown')
        have Hb4 := Lib.hid (HB2.out.grown hgrow hs2 (fun k hk => (Hown.out.lt k hk).1))
        clear hown' hgrow q0 e3
        go_wp2_with fail
        go_roundw
        case rel => exact ⟨k + 1, by omega, by go_num, Hown4, Hb4⟩
        case measure => simp [intOf]; omega
      · have e3 : (k : Int) % 2 = 1 := by omega
        have Hs : Hid (stL l (k + 1) = stL l k ++ [⟨1, 0, 0, x⟩, ⟨3, 0, 0, k⟩]) := Lib.hid (by rw [stL, hxd, stP, if_neg hp])
        have Hn := Lib.hid (lit_cells wr 60 #[.int .u16 1, .int .u8 0, .int .u8 0, .int .u32 x, .int .u16 3, .int .u8 0, .int .u8 0, .int .u32 k] (([⟨1, 0, 0, x⟩, ⟨3, 0, 0, k⟩] : List Ins).flatMap Ins.cells) rfl)
        have Ho1 := Lib.hid (flat_one ([⟨1, 0, 0, x⟩, ⟨3, 0, 0, k⟩] : List Ins))
        have HB2 := Lib.hid (Hb.out.alloc hsz (.cells #[.int .u16 1, .int .u8 0, .int .u8 0, .int .u32 x, .int .u16 3, .int .u8 0, .int .u8 0, .int .u32 k] 60))
        have hs2 : w1.heap.size ≤ (wr.alloc (.cells #[.int .u16 1, .int .u8 0, .int .u8 0, .int .u32 x, .int .u16 3, .int .u8 0, .int .u8 0, .int .u32 k] 60)).heap.size := by simp; omega
        clear hx hxd hp
        go_wp2_with (at_builtin; refine wpList_append_own _ rfl (.tmp 47) (.tmp 53) 22 rfl w1.heap.size 60 i0 _ 4 8 Try.underlying22 hi hz0 hz1 hz2 rfl (by decide) _ (2 * k) _ rfl (Hown.out.alloc _) ⟨wr.heap.size, 0, none⟩ 2 2 (([⟨1, 0, 0, x⟩, ⟨3, 0, 0, k⟩] : List Ins).flatMap Ins.cells) rfl rfl Hn.out Ho1.out (by unfold maxLen; omega) (by omega) hs2 ?_; intro v' w4 hown' hgrow _)
        have Hown4 := Lib.hid (show w4.ownsRow w1.heap.size 60 4 v' (2 * (k + 1)) ((stL l (k + 1)).flatMap Ins.cells) from by rw [Hs.out, List.flatMap_append, show 2 * (k + 1) = 2 * k + 2 by omega]; exact hown')
        have Hb4 := Lib.hid (HB2.out.grown hgrow hs2 (fun k hk => (Hown.out.lt k hk).1))
        clear hown' hgrow q0 e3
        go_wp2_with fail
        go_roundw
        case rel => exact ⟨k + 1, by omega, by go_num, Hown4, Hb4⟩
        case measure => simp [intOf]; omega
    · obtain rfl : k = n := by omega
      obtain ⟨Ac, cc, rfl, _, hsg⟩ := own_seg Hown.out
      have hlk : l.length = k := HL.out.1
      have hclen : ((stL l k).flatMap Ins.cells).length = 2 * k * 4 := by rw [flat_len, stL_len]
      obtain ⟨bc, oc, rfl, _, hbc, hcc⟩ := hsg.pos (by omega)
      obtain ⟨q, hq, hq2⟩ : ∃ q : Nat, (at_ : Int) % (k : Int) = q ∧ q < k := ⟨at_ % k, by simp, Nat.mod_lt _ (by omega)⟩
      have hk0 : 0 < k := by omega
      have hkn : ((k : Int) == 0) = false := by simp; omega
      have HCode := Lib.hid hcc
      have HLen := Lib.hid hclen
      have HOne := Lib.hid (flat_one (stL l k))
      have hq16 : q < 16 := by omega
      clear hsg hcc hclen Hown
      have ownA := World.ownsRow_lit (base := wr.heap.size) (e := 60) (size := 4) wr #[] 0 (Nat.le_refl _) (by unfold maxLen; omega) rfl
      have HownA := Lib.hid ownA
      have HwA := Lib.hid (one_below wr (.cells #[] 60))
      have HcA := Lib.hid (show ∀ j u, ((stL l k).flatMap Ins.cells)[j]? = some u → (wr.alloc (.cells #[] 60)).cell? ((⟨bc, oc, none⟩ : Addr).add j) = some u from (fun j u hu => (by rw [add_at', ← HCode.out j u hu]; exact HwA.out.cell (p := ⟨bc, oc + j, none⟩) hbc)))
      clear ownA
      go_wp2_with (first | (at_builtin; refine wpList_append_own _ rfl (.tmp 61) (.tmp 62) 22 rfl wr.heap.size 60 i0 _ 4 8 Try.underlying22 hi hz0 hz1 hz2 rfl (by decide) _ 0 [] rfl HownA.out ⟨bc, oc, none⟩ (2 * k) cc ((stL l k).flatMap Ins.cells) rfl HLen.out HcA.out HOne.out (by unfold maxLen; omega) (by omega) HwA.out.size ?_; intro vA waA hownA hgA _; have HownaA := Lib.hid (show waA.ownsRow wr.heap.size 60 4 vA (2 * k) ((stL l k).flatMap Ins.cells) from (by simpa using hownA)); have HbaA := Lib.hid (HwA.out.grown hgA HwA.out.size (fun k hk => (by cases hk; exact Nat.le_refl _))); have HsaA := Lib.hid (show wr.heap.size ≤ (waA.alloc (.cells #[.int .u16 96, .int .u8 0, .int .u8 0, .int .u32 q, .int .u16 22, .int .u8 0, .int .u8 0, .int .u32 0] 60)).heap.size from (by have := HbaA.out.size; simp; omega)); have HnA := Lib.hid (lit_cells waA 60 #[.int .u16 96, .int .u8 0, .int .u8 0, .int .u32 q, .int .u16 22, .int .u8 0, .int .u8 0, .int .u32 0] ((tA q).flatMap Ins.cells) rfl); have HoA := Lib.hid (flat_one (tA q)); clear hownA hgA) | (at_builtin; refine wpList_append_own _ rfl (.tmp 63) (.tmp 68) 22 rfl wr.heap.size 60 i0 _ 4 8 Try.underlying22 hi hz0 hz1 hz2 rfl (by decide) _ (2 * k) _ rfl (HownaA.out.alloc _) ⟨waA.heap.size, 0, none⟩ 2 2 ((tA q).flatMap Ins.cells) rfl rfl HnA.out HoA.out (by unfold maxLen; omega) (by omega) HsaA.out ?_; intro vbA wx hownbA hgbA _; obtain ⟨AA, cA, rfl, _, hsA⟩ := own_seg hownbA; have HBA := Lib.hid ((HbaA.out.alloc HbaA.out.size (.cells #[.int .u16 96, .int .u8 0, .int .u8 0, .int .u32 q, .int .u16 22, .int .u8 0, .int .u8 0, .int .u32 0] 60)).grown hgbA HsaA.out (fun k hk => (HownaA.out.lt k hk).1)); have HRA := Lib.hid (show Rd wx 4 (2 * k + 2) AA ((scP l (tA q)).flatMap Ins.cells) from (by have := hsA.rd; unfold scP; rw [List.flatMap_append, HL.out.1]; exact this)); clear hownbA hgbA hsA; have HCode2 := Lib.hid (show ∀ j u, ((stL l k).flatMap Ins.cells)[j]? = some u → wx.cell? ⟨bc, oc + j, none⟩ = some u from (fun j u hu => (by rw [HBA.out.cell (p := ⟨bc, oc + j, none⟩) hbc]; exact HCode.out j u hu))); have hbc2 : bc < wx.heap.size := Nat.lt_of_lt_of_le hbc HBA.out.size; have ownB := World.ownsRow_lit (base := wx.heap.size) (e := 60) (size := 4) wx #[] 0 (Nat.le_refl _) (by unfold maxLen; omega) rfl; have HownB := Lib.hid ownB; have HwB := Lib.hid (one_below wx (.cells #[] 60)); have HcB := Lib.hid (show ∀ j u, ((stL l k).flatMap Ins.cells)[j]? = some u → (wx.alloc (.cells #[] 60)).cell? ((⟨bc, oc, none⟩ : Addr).add j) = some u from (fun j u hu => (by rw [add_at', ← HCode2.out j u hu]; exact HwB.out.cell (p := ⟨bc, oc + j, none⟩) hbc2))); clear ownB) | (at_builtin; refine wpList_append_own _ rfl (.tmp 70) (.tmp 71) 22 rfl wx.heap.size 60 i0 _ 4 8 Try.underlying22 hi hz0 hz1 hz2 rfl (by decide) _ 0 [] rfl HownB.out ⟨bc, oc, none⟩ (2 * k) cc ((stL l k).flatMap Ins.cells) rfl HLen.out HcB.out HOne.out (by unfold maxLen; omega) (by omega) HwB.out.size ?_; intro vB waB hownB hgB _; have HownaB := Lib.hid (show waB.ownsRow wx.heap.size 60 4 vB (2 * k) ((stL l k).flatMap Ins.cells) from (by simpa using hownB)); have HbaB := Lib.hid (HwB.out.grown hgB HwB.out.size (fun k hk => (by cases hk; exact Nat.le_refl _))); have HsaB := Lib.hid (show wx.heap.size ≤ (waB.alloc (.cells #[.int .u16 97, .int .u8 0, .int .u8 0, .int .u32 q, .int .u16 135, .int .u8 0, .int .u8 0, .int .u32 0, .int .u16 22, .int .u8 0, .int .u8 0, .int .u32 0] 60)).heap.size from (by have := HbaB.out.size; simp; omega)); have HnB := Lib.hid (lit_cells waB 60 #[.int .u16 97, .int .u8 0, .int .u8 0, .int .u32 q, .int .u16 135, .int .u8 0, .int .u8 0, .int .u32 0, .int .u16 22, .int .u8 0, .int .u8 0, .int .u32 0] ((tB q).flatMap Ins.cells) rfl); have HoB := Lib.hid (flat_one (tB q)); clear hownB hgB) | (at_builtin; refine wpList_append_own _ rfl (.tmp 72) (.tmp 78) 22 rfl wx.heap.size 60 i0 _ 4 8 Try.underlying22 hi hz0 hz1 hz2 rfl (by decide) _ (2 * k) _ rfl (HownaB.out.alloc _) ⟨waB.heap.size, 0, none⟩ 3 3 ((tB q).flatMap Ins.cells) rfl rfl HnB.out HoB.out (by unfold maxLen; omega) (by omega) HsaB.out ?_; intro vbB wy hownbB hgbB _; obtain ⟨AB, cB, rfl, _, hsB⟩ := own_seg hownbB; have HBB := Lib.hid ((HbaB.out.alloc HbaB.out.size (.cells #[.int .u16 97, .int .u8 0, .int .u8 0, .int .u32 q, .int .u16 135, .int .u8 0, .int .u8 0, .int .u32 0, .int .u16 22, .int .u8 0, .int .u8 0, .int .u32 0] 60)).grown hgbB HsaB.out (fun k hk => (HownaB.out.lt k hk).1)); have HRB := Lib.hid (show Rd wy 4 (2 * k + 3) AB ((scP l (tB q)).flatMap Ins.cells) from (by have := hsB.rd; unfold scP; rw [List.flatMap_append, HL.out.1]; exact this)); clear hownbB hgbB hsB))
      obtain ⟨bs, hbs, hRc, _⟩ := rec_of 0 (by decide)
      obtain ⟨x, hx⟩ : ∃ x, l[q]? = some x := ⟨_, List.getElem?_eq_getElem (by have := HL.out.1; omega)⟩
      have hxd : l.getD q 0 = x := by rw [List.getD_eq_getElem?_getD, hx]; rfl
      have hlk' : l.length ≤ 16 := by have := HL.out.1; omega
      have hql : q < l.length := by have := HL.out.1; omega
      have GA := Lib.hid (scA_good hlk' hql)
      have GB := Lib.hid (scB_good hlk' hql)
      have hrA := scA_run (recW bs) l q hlk' hql
      have hrB := scB_run (recW bs) l q hlk' hql
      have hlA : (scP l (tA q)).length = 2 * k + 2 := by rw [scP_len, HL.out.1]; rfl
      have hlB : (scP l (tB q)).length = 2 * k + 3 := by rw [scP_len, HL.out.1]; rfl
      rw [hxd, hlA] at hrA
      rw [hxd, hlB] at hrB
      have okA : ∀ i ∈ scP l (tA q), i.ok := sc_ok hlk' HL.out.2.1 (by intro i hi; simp only [tA, List.mem_cons, List.not_mem_nil, or_false] at hi; rcases hi with rfl | rfl <;> simp [Ins.ok]; omega)
      have okB : ∀ i ∈ scP l (tB q), i.ok := sc_ok hlk' HL.out.2.1 (by intro i hi; simp only [tB, List.mem_cons, List.not_mem_nil, or_false] at hi; rcases hi with rfl | rfl | rfl <;> simp [Ins.ok]; omega)
      have LA := Lib.hid (fun A cp w h => load_any (scP l (tA q)) (2 * k + 2) A cp w hlA okA h (by unfold maxLen; omega))
      have LB := Lib.hid (fun A cp w h => load_any (scP l (tB q)) (2 * k + 3) A cp w hlB okB h (by unfold maxLen; omega))
      have RA := Lib.hid (fun B p b o c w h => run_any bs (scP l (tA q)) B p b o c 0 0 w h GA.out okA hbs (sm40 (by decide)) (sm40 (by decide)))
      have RB := Lib.hid (fun B p b o c w h => run_any bs (scP l (tB q)) B p b o c 0 0 w h GB.out okB hbs (sm40 (by decide)) (sm40 (by decide)))
      unfold RunTo at RA RB
      rw [hrA.1, hrA.2, hRc] at RA
      rw [hrB.1, hrB.2, hRc] at RB
      have HX := Lib.hid hx
      have HBy := Lib.hid (show Below w.heap.size w wx from (HB1.out.trans (Hb.out.mono HB1.out.size)).trans (HBA.out.mono (Nat.le_trans HB1.out.size Hb.out.size)))
      have HByy := Lib.hid (HBy.out.trans (HBB.out.mono HBy.out.size))
      have HRA2 := Lib.hid (HRA.out.below HBB.out)
      clear hx hxd hlk' hql hrA hrB hlA hlB okA okB hbs hRc
      refine (LA.out _ _ _ HRA2.out).mono ?_
      rintro e w5 ⟨a5, er5, _, hb5, ⟨_, rfl, rfl, p1, b1, o1, c1, hp1, hb1, rfl, hF1⟩ | ⟨hbad, _⟩⟩
      · have HF1 := Lib.hid hF1
        have HB5 := Lib.hid (HByy.out.trans (hb5.mono HByy.out.size))
        have HX1 := Lib.hid (show w.heap.size ≤ p1 ∧ p1 < w5.heap.size ∧ b1 < w5.heap.size from ⟨Nat.le_trans HByy.out.size hp1, hF1.lp, hF1.lb⟩)
        have HR5 := Lib.hid ((HRB.out.below hb5).below (one_below w5 (.cells #[.int .i64 0, .int .i64 0] 31)))
        clear hF1 hb5 hp1 hb1
        go_wp2_with fail
        refine (LB.out _ _ _ HR5.out).mono ?_
        rintro e w6 ⟨a6, er6, _, hb6, ⟨_, rfl, rfl, p2, b2, o2, c2, hp2, hb2, rfl, hF2⟩ | ⟨hbad, _⟩⟩
        · have HF2 := Lib.hid (hF2.below (one_below w6 (.cells #[.int .i64 0, .int .i64 0] 31)))
          have HW6 := Lib.hid ((Bk.new (l := [.int .i64 0, .int .i64 0]) w5 31 _ rfl).kept hb6)
          have h56 := (one_below w5 (.cells #[.int .i64 0, .int .i64 0] 31)).trans (hb6.mono (by simp))
          have HF16 := Lib.hid ((HF1.out.below h56).below ((one_below w6 (.cells #[.int .i64 0, .int .i64 0] 31)).mono h56.size))
          have HB6 := Lib.hid ((HB5.out.trans (h56.mono HB5.out.size)).alloc (Nat.le_trans HB5.out.size h56.size) (.cells #[.int .i64 0, .int .i64 0] 31))
          have HX2 := Lib.hid (show w5.heap.size ≤ p2 ∧ w5.heap.size ≤ b2 from ⟨by simp at hp2; omega, by simp at hb2; omega⟩)
          have d0 := HW6.out.cell 0 rfl
          have d1 := HW6.out.cell 1 rfl
          have hlt6 := HW6.out.lt
          clear hF2 hb6 hp2 hb2 h56 HF1
          go_wp2_with fail
          refine (RA.out _ _ _ _ _ _ HF16.out).mono ?_
          rintro e w7 ⟨rfl, hf7, hg7⟩
          have HF7 := Lib.hid (HF2.out.other hg7 (by have := HX1.out; have := HX2.out; omega) (by have := HX1.out; have := HX2.out; omega))
          have HB7 := Lib.hid (only_below HB6.out hg7 HB6.out.size HX1.out.1)
          clear hf7 hg7 d0 d1 hlt6
          go_wp2_with fail
          refine (RB.out _ _ _ _ _ _ HF7.out).mono ?_
          rintro e w8 ⟨rfl, hf8, hg8⟩
          have HB8 := Lib.hid (only_below HB7.out hg8 HB7.out.size (by have := HX1.out; have := HX2.out; omega))
          have z0 : w8.cell? ⟨b, o + q, none⟩ = some (.int .u32 x) := by
            rw [HB8.out.cell (p := ⟨b, o + q, none⟩) hbl]
            exact u32s_rd HC.out HX.out
          clear hf8 hg8
          go_wp2_with fail
          go_ret
          exact ⟨rfl, HB8.out⟩
        · exact absurd GB.out hbad
      · exact absurd GA.out hbad
theorem walk_vmScratch (A : Option Addr) (n cp : Nat) (at_ : Int) (w : World) (h0 : ∃ l : List Nat, l.length = n ∧ (∀ x ∈ l, x < 4294967296) ∧ Rd w 1 n A (u32s l) ∧ n ≤ maxLen) (h1 : (Lit.int .u8 at_).wf = true) :
    Calls Try.prog 8 #[.slice A n cp, .int .u8 at_] w (Yes w) := by
  obtain ⟨l, hl, hok, hr, _⟩ := h0
  obtain ⟨l1, u1⟩ := bounds_u8 h1
  obtain ⟨n1, rfl⟩ := Int.eq_ofNat_of_zero_le l1
  exact walk_scratch6 l n cp n1 A w hl hok hr (by omega)
end Go.Proofs.Ytnkffjdoillmaaa
