/- Tidy's small walks: ends, comesNext, end, count. -/
import Derived.Test.YtcageojoafkojaaJuT
namespace Go.Proofs.Ytcageojoafkojaa.Ju
open Go.RowKit Go.Maps Go.WideMaps Go.WideElems Go.ChangeMaps
set_option maxHeartbeats 8000000 in
set_option maxRecDepth 100000 in
theorem ends_any (q : PtM) (w : World) (hq : q.ok) : Calls Try.prog 74 #[.agg #[.int .u8 q.kd, .int .i64 q.to, .int .i64 q.el, .int .u16 q.i.c, .int .u8 q.i.t, .int .u8 q.i.f, .int .u32 q.i.k]] w fun e w' => e = .returned (.bool (endsB q)) ∧ Below w.heap.size w w' := by
  have HCl := Lib.hid (fun W => class_any q.i.c W hq.i.1)
  obtain ⟨W, hW⟩ : ∃ W, W = w.alloc (.cells #[.int .u8 q.kd, .int .i64 q.to, .int .i64 q.el, .int .u16 q.i.c, .int .u8 q.i.t, .int .u8 q.i.f, .int .u32 q.i.k] 125) := ⟨_, rfl⟩
  have hbx : Bk W w.heap.size 125 q.cells := by rw [hW]; exact Bk.new w _ _ rfl
  have hb1 : Below w.heap.size w W := by rw [hW]; exact oneb w _
  have HB := Lib.hid hb1
  have HBx := Lib.hid hbx
  go_enter Try.func74, Try.ntmps74
  go_upto_region 1 with fail
  rw [← hW]
  clear hW hb1 hbx
  generalize hxb : w.heap.size = xb at *
  have HXB := Lib.hid hxb
  clear hxb
  have y0 := HBx.out.cell 0 rfl
  have y3 := HBx.out.cell 3 rfl
  have yl := HBx.out.lt
  obtain ⟨z, hz⟩ : ∃ z, z = q.i.c % 8 := ⟨_, rfl⟩
  rw [← hz] at HCl
  by_cases h4 : q.kd = 4
  · have e4 : ((q.kd : Int) == 4) = true := by rw [h4]; rfl
    have HV := Lib.hid (show endsB q = true by unfold endsB; simp [h4])
    clear h4 hz
    go_wp2_with fail
    go_ret
    rw [HV.out]
    exact ⟨rfl, by rw [HXB.out]; exact HB.out⟩
  have e4 : ((q.kd : Int) == 4) = false := by rw [beq_eq_false_iff_ne]; omega
  by_cases h2 : q.kd = 2
  · have e2 : ((q.kd : Int) == 2) = true := by rw [h2]; rfl
    obtain ⟨bb, hbb⟩ : ∃ bb, bb = decide (z = 6) := ⟨_, rfl⟩
    have e6 : ((z : Int) == 6) = bb := by
      rw [hbb, Bool.eq_iff_iff, beq_iff_eq, decide_eq_true_eq]; omega
    have HV := Lib.hid (show endsB q = bb by unfold endsB; rw [hbb, hz]; simp [h2])
    clear h4 h2 hz hbb
    go_wp2_with fail
    refine (HCl.out _).mono ?_
    rintro e w1 ⟨rfl, rfl⟩
    go_wp2_with fail
    go_ret
    rw [HV.out]
    exact ⟨rfl, by rw [HXB.out]; exact HB.out⟩
  have e2 : ((q.kd : Int) == 2) = false := by rw [beq_eq_false_iff_ne]; omega
  have HV := Lib.hid (show endsB q = false by unfold endsB; simp [h4, h2])
  clear h4 h2 hz
  go_wp2_with fail
  go_ret
  rw [HV.out]
  exact ⟨rfl, by rw [HXB.out]; exact HB.out⟩
set_option maxHeartbeats 8000000 in
set_option maxRecDepth 100000 in
theorem comes_any (l : List PtM) (n : Nat) (A : Option Addr) (cap : Nat) (x : Int) (w : World) (hl : l.length = n) (hn : n ≤ 100000) (hr : Rd w 7 n A (l.flatMap PtM.cells)) :
    Calls Try.prog 72 #[.int .i64 x, .slice A n cap] w fun e w' => e = .returned (.bool (cnB x l)) ∧ Below w.heap.size w w' := by
  have HR := Lib.hid hr
  have HL := Lib.hid hl
  obtain ⟨bb, hbb⟩ : ∃ bb, bb = cnB x l := ⟨_, rfl⟩
  have HB := Lib.hid hbb
  rw [← hbb]
  clear hr hl hbb
  go_enter Try.func72, Try.ntmps72
  go_wp2_with fail
  go_loopw [9] (fun iv wr => ∃ i : Nat, iv = .int .i64 i ∧ i ≤ n ∧ Hid (bb = cnB x (l.drop i)) ∧ Hid (Below w.heap.size w wr)) (fun iv _ => n - (intOf iv).toNat)
  case atStart => exact ⟨0, rfl, Nat.zero_le _, HB, Below.refl _ _⟩
  case round =>
    clear HB
    obtain ⟨i, rfl, hi, HB, HW⟩ := hrel
    by_cases hlt : i < n
    · obtain ⟨q, hq⟩ : ∃ q, l[i]? = some q := ⟨_, List.getElem?_eq_getElem (by have := HL.out; omega)⟩
      obtain ⟨b, o, hA, hbl, hcell⟩ := (HR.out.below HW.out).one (fun _ => rfl) (by omega) (by omega)
      obtain ⟨c0, c1, c2, c3, c4, c5, c6⟩ := seven_cells hcell hq
      subst hA
      have hdr : l.drop i = q :: l.drop (i + 1) := by
        obtain ⟨h1, h2⟩ := List.getElem?_eq_some_iff.1 hq
        rw [List.drop_eq_getElem_cons h1, h2]
      have HD := Lib.hid (show cnB x (l.drop i) = if q.kd ≠ 1 then false else if q.to = x then true else cnB x (l.drop (i + 1)) by rw [hdr]; rfl)
      have HB2 := Lib.hid (HW.out.trans ((oneb wr (.cells #[.int .u8 q.kd, .int .i64 q.to, .int .i64 q.el, .int .u16 q.i.c, .int .u8 q.i.t, .int .u8 q.i.f, .int .u32 q.i.k] 125)).mono HW.out.size))
      clear hcell hq hdr
      by_cases h1 : q.kd = 1
      · have e1 : ((q.kd : Int) != 1) = false := by rw [h1]; rfl
        by_cases h2 : q.to = x
        · have e2 : (q.to == x) = true := by rw [h2]; simp
          have HV := Lib.hid (show bb = true by rw [HB.out, HD.out, if_neg (fun h => h h1), if_pos h2])
          clear h1 h2
          go_wp2_with fail
          go_ret
          rw [HV.out]
          exact ⟨rfl, HB2.out⟩
        · have e2 : (q.to == x) = false := by rw [beq_eq_false_iff_ne]; exact h2
          have HV := Lib.hid (show bb = cnB x (l.drop (i + 1)) by rw [HB.out, HD.out, if_neg (fun h => h h1), if_neg h2])
          clear h1 h2
          go_wp2_with fail
          go_roundw
          case rel => exact ⟨i + 1, by go_num, by omega, HV, HB2⟩
          case measure => simp [intOf]; omega
      · have e1 : ((q.kd : Int) != 1) = true := by rw [bne_iff_ne]; omega
        have HV := Lib.hid (show bb = false by rw [HB.out, HD.out, if_pos h1])
        clear h1
        go_wp2_with fail
        go_ret
        rw [HV.out]
        exact ⟨rfl, HB2.out⟩
    · have HV := Lib.hid (show bb = false by rw [HB.out, List.drop_of_length_le (by have := HL.out; omega)]; rfl)
      go_wp2_with fail
      go_ret
      rw [HV.out]
      exact ⟨rfl, HW.out⟩
set_option maxRecDepth 100000 in
theorem name_of {v : Value} {t : Int} {d : DataW Unit} {ps : List MemPlace} (h : plainElem Try.prog 115 v = some (d, ps)) (hd : d = .lit (.int .i64 t)) : v = .int .i64 t := by
  obtain ⟨a, rfl, hz, _⟩ := plainElem_int_inv Try.underlying115 h
  injection hz with h1 _
  rw [hd] at h1
  injection h1 with h1
  injection h1 with _ h1
  rw [h1]
set_option maxHeartbeats 8000000 in
set_option maxRecDepth 100000 in
theorem end_any (o : List (Int × Int)) (m : Nat) (x : Int) (w : World) (hm : NMap w 115 m o) (ho : InO o) (hx : InR x) (hc : o.length ≤ 100000) :
    Calls Try.prog 71 #[.map (some m), .int .i64 x] w fun e w' => e = .returned (.int .i64 (endF o x)) ∧ w' = w := by
  have HM := Lib.hid hm
  have HO := Lib.hid ho
  obtain ⟨n, hn⟩ : ∃ n, n = cnt o := ⟨_, rfl⟩
  have hn9 : n ≤ 100000 := by rw [hn]; exact Nat.le_trans (cnt_le o) hc
  have hsz : Maps.size (mD o) = n := by rw [size_mD, hn]
  obtain ⟨y, hy⟩ : ∃ y, y = endF o x := ⟨_, rfl⟩
  have HY := Lib.hid (show y = endN (n - 0) o x by rw [hy, hn]; rfl)
  have HX := Lib.hid hx
  rw [← hy]
  clear hm ho hx hc hn hy
  go_enter Try.func71, Try.ntmps71
  go_wp2_with (at_len; refine wpList_len_own _ rfl _ _ rfl 115 115 Try.underlying181 (plainElem Try.prog 115) m _ _ rfl HM.out ?_; rw [hsz])
  clear hsz
  go_loopw [1, 9] (fun xv iv wr => ∃ (i : Nat) (z : Int), iv = .int .i64 i ∧ xv = .int .i64 z ∧ i ≤ n ∧ Hid (y = endN (n - i) o z) ∧ Hid (InR z) ∧ wr = w) (fun _ iv _ => n - (intOf iv).toNat)
  case atStart => exact ⟨0, x, rfl, rfl, Nat.zero_le _, HY, HX, rfl⟩
  case round =>
    clear HY HX
    obtain ⟨i, z, rfl, rfl, hi, HY, HX, rfl⟩ := hrel
    by_cases hlt : i < n
    · obtain ⟨k, hk⟩ : ∃ k, n - i = k + 1 := ⟨n - i - 1, by omega⟩
      have hk2 : n - (i + 1) = k := by omega
      have HK := Lib.hid (And.intro hk hk2)
      clear hk hk2
      cases hl : lk z o with
      | none =>
        have hh : has (mD o) (.int .i64 z) = false := by rw [mD_has, hl]; rfl
        have HV := Lib.hid (show y = z by rw [HY.out, HK.out.1, endN, hl])
        clear hl
        go_wp2_with (at_lookup; go_loud (refine wpList_lookup_ok _ rfl _ _ 181 rfl 115 115 nameKeyed Try.underlying181 (plainElem Try.prog 115) (Try.zeroValue115 _) (zd := .lit (.int .i64 0)) (zp := []) (plainElem_int Try.underlying115 (by decide)) m _ _ rfl HM.out _ (.int .i64 z) rfl (keyOf_int_mk Try.underlying115 (wfI HX.out.1 HX.out.2)) false hh ?_); intro v ps hv; obtain ⟨cc, rfl, _, _⟩ := plainElem_int_inv Try.underlying115 hv; clear hv)
        go_ret
        rw [HV.out]
        exact ⟨rfl, rfl⟩
      | some t =>
        have hh : has (mD o) (.int .i64 z) = true := by rw [mD_has, hl]; rfl
        have hat := mD_at o z (.lit (.int .i64 0))
        rw [hl] at hat
        have HV := Lib.hid (show y = endN (n - (i + 1)) o t by rw [HY.out, HK.out.1, endN, hl, HK.out.2])
        have HT := Lib.hid (HO.out _ (lk_in hl)).2
        clear hl
        go_wp2_with (at_lookup; go_loud (refine wpList_lookup_ok _ rfl _ _ 181 rfl 115 115 nameKeyed Try.underlying181 (plainElem Try.prog 115) (Try.zeroValue115 _) (zd := .lit (.int .i64 0)) (zp := []) (plainElem_int Try.underlying115 (by decide)) m _ _ rfl HM.out _ (.int .i64 z) rfl (keyOf_int_mk Try.underlying115 (wfI HX.out.1 HX.out.2)) true hh ?_); intro v ps hv; obtain rfl := name_of hv hat; clear hv)
        go_roundw
        case rel => exact ⟨i + 1, t, by go_num, rfl, by omega, HV, HT, by trivial⟩
        case measure => simp [intOf]; omega
    · have HV := Lib.hid (show y = z by rw [HY.out, show n - i = 0 from by omega]; rfl)
      go_wp2_with fail
      go_ret
      rw [HV.out]
      exact ⟨rfl, rfl⟩
end Go.Proofs.Ytcageojoafkojaa.Ju

