/- AsmBack: the walk. -/
import Derived.Test.YthiohihbcfahhaaDoorApp
import Derived.Test.YthiohihbcfahhaaDoorEqI
import Derived.Deep.QuietTactic
import Derived.BigQuiet
namespace Go.Proofs.YthiohihbcfahhaaDoor
open Go.RowKit Go.ChangeShapes Go.WideShapes Go.ChangeAt Go.WideElems
theorem string_same (s : Bs) : ((⟨s.toArray⟩ : ByteArray).toList == (⟨s.toArray⟩ : ByteArray).toList) = true := by simp
set_option maxRecDepth 100000 in
set_option maxHeartbeats 4000000 in
theorem walk_back (l : List Ins) (S : List Sml) (n sn : Nat) (lA sA : Option Addr) (lc sc : Nat) (w : World) (hl : l.length = n) (hok : ∀ i ∈ l, i.ok) (hr : Rd w 4 n lA (l.flatMap Ins.cells)) (hnil : lA = none → lc = 0)
    (hS : S.length = sn) (hSok : ∀ i ∈ S, i.ok) (hSr : Rd w 9 sn sA (S.flatMap Sml.cells)) (hm : sn ≤ maxLen) (hE : Env w) :
    Calls Tryd.prog 4 #[.slice lA n lc, .slice sA sn sc] w (Yes w) := by
  have HE := Lib.hid hE
  have HR := Lib.hid hr
  have Hl := Lib.hid hl
  have Hok := Lib.hid hok
  have Hnil := Lib.hid hnil
  have HPr := Lib.hid (fun W (hb : Below w.heap.size w W) => program_any S sn sA sc 3 W hS hSok (hSr.below hb) hm (by omega))
  clear hE hr hl hok hnil hS hSok hSr hm
  by_cases hn : 100 < n
  · have t1 : (100 : Int) < (n : Int) := by omega
    go_enter Tryd.func4, Tryd.ntmps4
    go_wp2_with fail
    refine (awake_any _ HE.out).mono ?_
    rintro e w1 ⟨rfl, hb1⟩
    have HB1 := Lib.hid hb1
    clear hb1
    go_wp2_with fail
    go_ret
    exact ⟨rfl, HB1.out⟩
  · have t1 : ¬ (100 : Int) < (n : Int) := by omega
    go_enter Tryd.func4, Tryd.ntmps4
    go_wp2_with fail
    refine (awake_any _ HE.out).mono ?_
    rintro e w1 ⟨rfl, hb1⟩
    have HB1 := Lib.hid hb1
    clear hb1
    have hbs1 : w.heap.size ≤ w1.heap.size := HB1.out.size
    have Hown := Lib.hid (World.ownsRow_lit (base := w.heap.size) (e := 38) (size := 4) w1 #[] 0 hbs1 (by unfold maxLen; omega) rfl)
    have HR1 := Lib.hid ((HR.out.below HB1.out).below (one_below w1 (.cells #[] 38)))
    have Hs1 := Lib.hid (show w.heap.size ≤ (w1.alloc (.cells #[] 38)).heap.size by simp; omega)
    go_wp2_with (at_builtin; refine append_any rfl (.tmp 16) (.tmp 17) rfl w.heap.size _ 0 [] rfl Hown.out l lA n lc Hl.out rfl HR1.out Hnil.out (by omega) Hs1.out ?_; intro v2 w2 hown2 hg2; have HB2 := Lib.hid ((HB1.out.alloc HB1.out.size _).grown hg2 Hs1.out (fun k hk => (Hown.out.lt k hk).1)); have Hown2 := Lib.hid (show w2.ownsRow w.heap.size 38 4 v2 n (l.flatMap Ins.cells) from by simpa using hown2); clear hown2 hg2)
    clear Hown HR1 Hs1
    refine (HPr.out _ HB2.out).mono ?_
    rintro e w3 ⟨L2, A2, c2, rfl, hc2, hseg2, hok2, hlen2, hmin2, hb3⟩
    have HB3 := Lib.hid (HB2.out.trans (hb3.mono HB2.out.size))
    have Hown3 := Lib.hid (own_below Hown2.out hb3)
    have Hs3 := Lib.hid HB3.out.size
    obtain ⟨n2, hn2⟩ : ∃ n2, L2.length = n2 := ⟨_, rfl⟩
    rw [hn2] at hseg2 hlen2 hc2 hmin2 ⊢
    have Hn2 := Lib.hid hn2
    have HR3 := Lib.hid hseg2.rd
    have Hnil2 := Lib.hid (show A2 = none → c2 = 0 from fun e => by
      obtain ⟨b, o, e', _⟩ := hseg2.pos (by omega)
      rw [e] at e'; cases e')
    have Hok2 := Lib.hid hok2
    clear hb3 hseg2 hok2 hn2 hc2 HB2 Hown2
    go_wp2_with (at_builtin; refine append_any rfl (.tmp 18) (.tmp 20) rfl w.heap.size _ n _ rfl Hown3.out L2 A2 n2 c2 Hn2.out rfl HR3.out Hnil2.out (by omega) Hs3.out ?_; intro v4 w4 hown4 hg4; have HB4 := Lib.hid (HB3.out.grown hg4 Hs3.out (fun k hk => (Hown3.out.lt k hk).1)); have Hown4 := Lib.hid hown4; clear hown4 hg4)
    obtain ⟨X, hX⟩ : ∃ X, X = l ++ L2 := ⟨_, rfl⟩
    obtain ⟨N, hN⟩ : ∃ N, N = n + n2 := ⟨_, rfl⟩
    have hXl : X.length = N := by rw [hX, List.length_append, Hl.out, Hn2.out, hN]
    have hXok : ∀ i ∈ X, i.ok := by
      intro i hi
      rw [hX] at hi
      rcases List.mem_append.1 hi with h | h
      · exact Hok.out i h
      · exact Hok2.out i h
    have hN200 : N ≤ 200 := by omega
    have hown := Hown4.out
    rw [← List.flatMap_append, ← hX, ← hN] at hown
    obtain ⟨A4, c4, rfl, _, hseg4⟩ := own_seg hown
    have HX4 := Lib.hid hseg4.rd
    have htx := text_any X A4 c4 w4 hXok (by omega) (by rw [hXl]; exact hseg4.rd) (HE.out.below HB4.out)
    rw [hXl] at htx
    have htl := text_len X hXok
    have Hpp : Hid (∀ W, Env W → Calls Tryd.prog 14 #[.string ⟨(text X).toArray⟩] W (ParsePost (text X) W)) := Lib.hid (fun W E => parse_any ⟨(text X).toArray⟩ W (by rw [Lib.size_eq]; show (text X).toArray.toList.length ≤ _; rw [List.toList_toArray]; omega) (text_ascii X) E)
    have Hpb := Lib.hid (parseB_text X hXok (by omega))
    have HXl := Lib.hid hXl
    have HXok := Lib.hid hXok
    have hSame := string_same (text X)
    clear hX hN hXl hXok hown hseg4 htl Hown4 Hown3 HB3 HR3
    refine htx.mono ?_
    rintro e w5 ⟨rfl, hb5⟩
    have HB5 := Lib.hid (HB4.out.trans (hb5.mono HB4.out.size))
    have HX5 := Lib.hid (HX4.out.below hb5)
    clear hb5 htx HB4 HX4
    go_wp2_with fail
    refine (Hpp.out _ (HE.out.below HB5.out)).mono ?_
    unfold ParsePost
    rw [Hpb.out]
    rintro e w6 ⟨A6, c6, rfl, hc6, hseg6, hb6⟩
    have HB6 := Lib.hid (HB5.out.trans (hb6.mono HB5.out.size))
    have HX6 := Lib.hid (HX5.out.below hb6)
    simp only at hc6 hseg6 ⊢
    rw [HXl.out] at hc6 hseg6 ⊢
    have HG6 := Lib.hid hseg6.rd
    clear hb6 hseg6 hc6 HB5 HX5
    go_wp2_with fail
    go_loopw [45] (fun c wr => ∃ k : Nat, k ≤ N ∧ c = .int .i64 k ∧ Hid (Below w6.heap.size w6 wr)) (fun c _ => N - (intOf c).toNat)
    case atStart => exact ⟨0, by omega, rfl, Below.refl _ _⟩
    case round =>
      obtain ⟨k, hk, rfl, HW⟩ := hrel
      by_cases hlt : k < N
      · obtain ⟨x, hx⟩ : ∃ x, X[k]? = some x := ⟨_, List.getElem?_eq_getElem (by have := HXl.out; omega)⟩
        obtain ⟨b1, o1, rfl, _, hc1⟩ := (HG6.out.below HW.out).pos (by omega)
        obtain ⟨b2, o2, rfl, _, hc2⟩ := (HX6.out.below HW.out).pos (by omega)
        obtain ⟨p0, p1, p2, p3⟩ := four_cells hc1 hx
        obtain ⟨q0, q1, q2, q3⟩ := four_cells hc2 hx
        have hne := fun W => neq_ins x x W
        rw [show sameI x x = true from sameI_eq.2 rfl] at hne
        clear hc1 hc2 hx
        go_wp2_with fail
        go_quiet (fail)
        go_wp2_with fail
        go_roundw
        case rel => exact ⟨k + 1, by omega, by go_num, below_drewN HW.out _⟩
        case measure => simp [intOf]; omega
      · obtain rfl : k = N := by omega
        have htx := text_any X A6 c6 wr HXok.out (by have := HXl.out; omega) (by rw [HXl.out]; exact HG6.out.below HW.out) (HE.out.below (HB6.out.trans (HW.out.mono HB6.out.size)))
        rw [HXl.out] at htx
        go_wp2_with fail
        refine htx.mono ?_
        rintro e w7 ⟨rfl, hb7⟩
        have HB7 := Lib.hid ((HB6.out.trans (HW.out.mono HB6.out.size)).trans (hb7.mono (HB6.out.trans (HW.out.mono HB6.out.size)).size))
        clear hb7 htx
        go_wp2_with fail
        go_ret
        exact ⟨rfl, HB7.out⟩
theorem walk_asmBack (lA : Option Addr) (n lc : Nat) (sA : Option Addr) (sn sc : Nat) (w : World)
    (h0 : ∃ l : List Ins, l.length = n ∧ (∀ i ∈ l, i.ok) ∧ Rd w 4 n lA (l.flatMap Ins.cells) ∧ (lA = none → lc = 0))
    (h1 : ∃ l : List Sml, l.length = sn ∧ (∀ i ∈ l, i.ok) ∧ Rd w 9 sn sA (l.flatMap Sml.cells) ∧ sn ≤ maxLen) (hE : Env w) :
    Calls Tryd.prog 4 #[.slice lA n lc, .slice sA sn sc] w (Yes w) := by
  obtain ⟨l, hl, hok, hr, hnil⟩ := h0
  obtain ⟨S, hS, hSok, hSr, hm⟩ := h1
  exact walk_back l S n sn lA sA lc sc w hl hok hr hnil hS hSok hSr hm hE
end Go.Proofs.YthiohihbcfahhaaDoor
