/- What is stored on each way: the walk. -/
import Derived.Test.YtnkffjdoillmaaaRepeat
import Derived.Deep.RegionWith
import Derived.BigRegion
namespace Go.Proofs.Ytnkffjdoillmaaa
open Go.RowKit
theorem andNot_zero (T S : Nat) (hT : T < 65536) (_hS : S < 65536) : T &&& (65535 - S) = 0 ↔ ∀ b, T.testBit b = true → S.testBit b = true := by
  constructor
  · intro h b hb
    have hb16 : b < 16 := by
      rcases Nat.lt_or_ge b 16 with h1 | h1
      · exact h1
      · have : T < 2 ^ b := Nat.lt_of_lt_of_le (by omega : T < 2 ^ 16) (Nat.pow_le_pow_right (by omega) h1)
        rw [Nat.testBit_lt_two_pow this] at hb; cases hb
    have h2 := congrArg (fun n => n.testBit b) h
    simp only [Nat.testBit_and, Nat.zero_testBit, hb, Bool.true_and] at h2
    have h3 : (65535 - S).testBit b = !S.testBit b := by
      rw [show 65535 - S = 2 ^ 16 - (S + 1) by omega, Nat.testBit_two_pow_sub_succ (by omega)]
      simp [hb16]
    rw [h3] at h2
    simpa using h2
  · intro h
    apply Nat.eq_of_testBit_eq
    intro b
    rw [Nat.testBit_and, Nat.zero_testBit]
    by_cases hb : T.testBit b = true
    · have hs := h b hb
      have hb16 : b < 16 := by
        rcases Nat.lt_or_ge b 16 with h1 | h1
        · exact h1
        · have : T < 2 ^ b := Nat.lt_of_lt_of_le (by omega : T < 2 ^ 16) (Nat.pow_le_pow_right (by omega) h1)
          rw [Nat.testBit_lt_two_pow this] at hb; cases hb
      rw [show 65535 - S = 2 ^ 16 - (S + 1) by omega, Nat.testBit_two_pow_sub_succ (by omega)]
      simp [hs]
    · simp [hb]
def OnlyTo (fr : Act) (wd : World) : Exit → Act → World → Prop
  | .normal, a, w => a = fr ∧ w = wd
  | _, _, _ => False
theorem OnlyTo.here (fr : Act) (wd : World) : OnlyTo fr wd .normal fr wd := ⟨rfl, rfl⟩
theorem wp_once {P : Program} {c : Code} {Q : Exit → Act → World → Prop} {a : Act} {w : World} (fr : Act) (wd : World) (h : c.wp P (OnlyTo fr wd) a w) (hK : Q .normal fr wd) : c.wp P Q a w :=
  Code.wp_mono (fun e a w h => by
    cases e with
    | normal => obtain ⟨rfl, rfl⟩ := h; exact hK
    | _ => exact (h : False).elim) h
/-- No load ahead of a place is of what isn't stored. -/
def NoneBad (l : List Ins) (k : Nat) : Prop := ∀ (j : Nat) (x : Ins), j < k → l[j]? = some x → takes x = true → ¬ Un l x.k j
def UnsPost (l : List Ins) (w : World) (e : Ending) (w' : World) : Prop :=
  ∃ a er : Nat, e = .returned (.agg #[.int .i64 a, .int .i64 er]) ∧ Below w.heap.size w w' ∧
    ((er = 0 ∧ a = 0 ∧ NoneBad l l.length) ∨ (er = 2 ∧ NoneBad l a ∧ ∃ i, l[a]? = some i ∧ takes i = true ∧ Un l i.k a))
/-- The memory of a round. -/
structure UMem (w wr : World) (g : Nat) (st : List Nat) : Prop where
  bk : Bk wr g 128 (u16s st)
  hg : w.heap.size < g
  ans : Bk wr w.heap.size 31 [.int .i64 0, .int .i64 0]
  bel : Below w.heap.size w wr
theorem UMem.alloc {w wr : World} {g : Nat} {st : List Nat} (h : UMem w wr g st) (o : Obj) : UMem w (wr.alloc o) g st := ⟨h.bk.alloc _, h.hg, h.ans.alloc _, h.bel.alloc h.bel.size _⟩
theorem UMem.drew {w wr : World} {g : Nat} {st : List Nat} (h : UMem w wr g st) : UMem w wr.drew g st := ⟨h.bk.drew, h.hg, h.ans.drew, h.bel.drew⟩
theorem UMem.kept {w wr w' : World} {g : Nat} {st : List Nat} (h : UMem w wr g st) (hb : Below wr.heap.size wr w') : UMem w w' g st := ⟨h.bk.kept hb, h.hg, h.ans.kept hb, h.bel.trans (hb.mono h.bel.size)⟩
theorem u16s_set (st : List Nat) (j v : Nat) : (u16s st).set j (.int .u16 v) = u16s (st.set j v) := by simp [u16s, List.map_set]
theorem UMem.set {w wr : World} {g : Nat} {st : List Nat} (h : UMem w wr g st) (j v : Nat) : UMem w (wr.setCell ⟨g, j, none⟩ (.int .u16 v)) g (st.set j v) := by
  have hg := only_set wr g j (.int .u16 v)
  refine ⟨?_, h.hg, h.ans.grown hg (by have := h.hg; simp; omega), only_below h.bel hg h.bel.size (by have := h.hg; omega)⟩
  rw [← u16s_set]; exact h.bk.set j _
theorem UMem.cell {w wr : World} {g : Nat} {st : List Nat} (h : UMem w wr g st) (j : Nat) (hj : j < st.length) : wr.cell? ⟨g, j, none⟩ = some (.int .u16 (st.getD j 0 : Nat)) :=
  h.bk.cell j (by simp [u16s, List.getD_eq_getElem?_getD, List.getElem?_eq_getElem hj])
theorem upd_cons (st : List Nat) (v : Nat) (tos : List Nat) (to : Nat) : upd st v (tos ++ [to]) = (upd st v tos).set to ((upd st v tos).getD to 0 &&& v) := by
  unfold upd; rw [List.foldl_append]; rfl
set_option maxRecDepth 100000 in
set_option maxHeartbeats 2000000 in
theorem unstored_any (l : List Ins) (n : Nat) (A : Option Addr) (cp : Nat) (w : World) (hl : l.length = n) (hok : ∀ i ∈ l, i.ok) (hr : Rd w 4 n A (l.flatMap Ins.cells)) (hn0 : 0 < n) (hn : n ≤ 4096)
    (hin : Inr l) (hrg : ∀ i ∈ l, rangeB i = true) :
    Calls Try.prog 37 #[.slice A n cp] w (UnsPost l w) := by
  have Hl := Lib.hid hl
  have Hok := Lib.hid hok
  have Hr := Lib.hid hr
  have Hin := Lib.hid hin
  have Hrg := Lib.hid hrg
  clear hl hok hr hin hrg
  go_enter Try.func37, Try.ntmps37
  go_wp2_with fail
  refine (repeat_any n _ _ hn0 (by omega) (by go_simp) (by simp)).mono ?_
  rintro e w2 ⟨g, rfl, hg, hbk, hb2⟩
  have HM := Lib.hid (show UMem w w2 g (List.replicate n 65535) from ⟨hbk, by simp at hg; omega, (by have := (Bk.new w 31 #[.int .i64 0, .int .i64 0] rfl).alloc (.cells #[.int .u16 65535] 128); exact this.kept hb2), (((Below.refl _ _).alloc (Nat.le_refl _) _).alloc (by simp) _).trans (hb2.mono (by simp; omega))⟩)
  have hc0 := HM.out.cell 0 (by simp; exact hn0)
  have hf0 := HM.out.bk.fz 0
  clear hg hbk hb2
  go_wp2_with fail
  have HM2 := Lib.hid (show UMem w (w2.setCell ⟨g, 0, none⟩ (.int .u16 0)) g (stf l 0) from by have := HM.out.set 0 0; unfold stf; rw [Hl.out]; exact this)
  clear HM hc0 hf0
  go_loopw [16] (fun i wr => ∃ k : Nat, k ≤ n ∧ i = .int .i64 k ∧ Hid (UMem w wr g (stf l k)) ∧ Hid (NoneBad l k)) (fun i _ => n - (intOf i).toNat)
  case atStart => exact ⟨0, by omega, rfl, HM2, fun j x hj => by omega⟩
  case round =>
    obtain ⟨k, hk, rfl, HM, HN⟩ := hrel
    clear HM2
    by_cases hlt : k < n
    · obtain ⟨x, hx⟩ : ∃ x, l[k]? = some x := ⟨_, List.getElem?_eq_getElem (by have := Hl.out; omega)⟩
      obtain ⟨b, o, hA, hbl, hcells⟩ := Hr.out.pos (by omega)
      obtain ⟨q0, q1, q2, q3⟩ := four_cells hcells hx
      have hkeep : ∀ j, wr.cell? ⟨b, j, none⟩ = w.cell? ⟨b, j, none⟩ := fun j => HM.out.bel.cell (p := ⟨b, j, none⟩) hbl
      rw [← hkeep] at q0 q1 q2 q3
      have hxok := Hok.out x (List.mem_of_getElem? hx)
      have hxr := Hrg.out x (List.mem_of_getElem? hx)
      have Tk := Lib.hid (fun w => taken_any x w hxr)
      have Pt := Lib.hid (fun w => put_any x w hxr)
      have Nx := Lib.hid (fun w => next_any x k w hxok (by omega))
      obtain ⟨S, hS⟩ : ∃ S, S = (stf l k).getD k 0 := ⟨_, rfl⟩
      have hSl : S < 65536 := hS ▸ stf_lt l Hrg.out k k
      obtain ⟨T, hT⟩ : ∃ T, T = takenN x := ⟨_, rfl⟩
      obtain ⟨P, hP⟩ : ∃ P, P = putN x := ⟨_, rfl⟩
      have hTl : T < 65536 := hT ▸ takenN_lt hxr
      have hPl : P < 65536 := hP ▸ putN_lt hxr
      have Hbad := Lib.hid (stf_bad hx hxr)
      rw [← hS, ← hT] at Hbad
      rw [← hT] at Tk
      rw [← hP] at Pt
      have Hz := Lib.hid (andNot_zero T S hTl hSl)
      have hD := u16_andNot_nat T S hTl hSl
      obtain ⟨D, hDd⟩ : ∃ D, D = T &&& (65535 - S) := ⟨_, rfl⟩
      rw [← hDd] at hD Hz
      have Hx := Lib.hid hx
      have HS := Lib.hid hS
      have HP := Lib.hid hP
      have Hws := Lib.hid (fun to hto => Hin.out k x hx to hto)
      have HO := Lib.hid (show bits .or .u16 (S : Int) (P : Int) = ((S ||| P : Nat) : Int) from u16_or_nat S P hSl hPl)
      have hcS : wr.cell? ⟨g, k, none⟩ = some (.int .u16 S) := by rw [hS]; exact HM.out.cell k (by rw [stf_len, Hl.out]; exact hlt)
      obtain ⟨c, t, f, y⟩ := x
      dsimp only at *
      subst hA
      clear hkeep hcells hx hxok hxr hS hT hP hDd
      go_wp2_with fail
      have HMa := Lib.hid (HM.out.alloc (.cells #[.int .u16 c, .int .u8 t, .int .u8 f, .int .u32 y] 60))
      have Hbx := Lib.hid (Bk.new wr 60 #[.int .u16 c, .int .u8 t, .int .u8 f, .int .u32 y] rfl)
      have hsa : wr.heap.size < (wr.alloc (.cells #[.int .u16 c, .int .u8 t, .int .u8 f, .int .u32 y] 60)).heap.size := by simp
      have hgg : g < wr.heap.size := HM.out.bk.lt
      clear HM q0 q1 q2 q3 hcS
      revert HMa Hbx hsa hgg
      generalize (wr.alloc (.cells #[.int .u16 c, .int .u8 t, .int .u8 f, .int .u32 y] 60)) = wa
      generalize wr.heap.size = gi
      intro HMa Hbx hsa hgg
      clear wr
      have q0 := Hbx.out.cell 0 rfl
      have q1 := Hbx.out.cell 1 rfl
      have q2 := Hbx.out.cell 2 rfl
      have q3 := Hbx.out.cell 3 rfl
      have hcS : wa.cell? ⟨g, k, none⟩ = some (.int .u16 S) := by rw [HS.out]; exact HMa.out.cell k (by rw [stf_len, Hl.out]; exact hlt)
      have hcS1 := (((Below.refl wa.heap.size wa).alloc (Nat.le_refl _) (.cells #[.int .u16 c, .int .u8 t, .int .u8 f, .int .u32 y] 60)).cell (p := ⟨g, k, none⟩) HMa.out.bk.lt).trans hcS
      refine wp_once ?fr ?wd ?reg ?imp
      case reg =>
        go_region_with (go_at_call 61; refine (Tk.out _).mono ?_; rintro e w' ⟨rfl, rfl⟩)
        all_goals exact OnlyTo.here _ _
      case imp =>
        simp only [Act.put, List.getElem_toArray, List.getElem_cons_succ, List.getElem_cons_zero, List.setIfInBounds_toArray, List.set_cons_zero, List.set_cons_succ]
        have HMb := Lib.hid ((HMa.out.alloc (.cells #[.int .u16 c, .int .u8 t, .int .u8 f, .int .u32 y] 60)).drew)
        have Hbb := Lib.hid ((Hbx.out.alloc (.cells #[.int .u16 c, .int .u8 t, .int .u8 f, .int .u32 y] 60)).drew)
        clear q0 q1 q2 q3 hcS hcS1 HMa Hbx hsa
        revert HMb Hbb
        generalize (wa.alloc (.cells #[.int .u16 c, .int .u8 t, .int .u8 f, .int .u32 y] 60)).drew = wb
        intro HMb Hbb
        have q0 := Hbb.out.cell 0 rfl
        have q1 := Hbb.out.cell 1 rfl
        have q2 := Hbb.out.cell 2 rfl
        have q3 := Hbb.out.cell 3 rfl
        by_cases hD0 : D = 0
        · have hb0 : ((D : Int) == 0) = true := by simp; omega
          have hb1 : ((D : Int) != 0) = false := by simp; omega
          have Hok2 := Lib.hid (Hbad.out.1 (Hz.out.1 hD0))
          clear Hz Hbad hD
          go_wp2_with fail
          refine (Nx.out _).mono ?_
          rintro e wc ⟨A', cp', rfl, hcp', hseg, hbc⟩
          have HMc := Lib.hid (HMb.out.kept hbc)
          have Hbc := Lib.hid (Hbb.out.kept hbc)
          have hgB := HMb.out.bk.lt
          have hgi := Hbb.out.lt
          obtain ⟨B, hB⟩ : ∃ B, B = wb.heap.size := ⟨_, rfl⟩
          rw [← hB] at hseg hgB hgi
          have Hseg := Lib.hid hseg
          obtain ⟨ws, hws⟩ : ∃ ws, ws = ways ⟨c, t, f, y⟩ k := ⟨_, rfl⟩
          have Hwsd := Lib.hid hws
          have Hws2 := Lib.hid (show ∀ to ∈ ws, to < l.length ∧ k < to from fun to hto => ⟨Hws.out to (hws ▸ hto), ways_gt (hws ▸ hto)⟩)
          have hm2 : ws.length ≤ 2 := by
            rw [hws]; unfold ways rel
            rw [List.length_map]
            split
            · simp
            · split
              · simp
              · split <;> simp
          rw [← hws] at hcp' Hseg ⊢
          obtain ⟨m, hm⟩ : ∃ m, m = ws.length := ⟨_, rfl⟩
          rw [← hm] at hcp' Hseg hm2 ⊢
          have Hm := Lib.hid hm
          clear hbc hseg hB hws hm Hws q0 q1 q2 q3 HMb Hbb hD0 hb0 hb1
          go_wp2_with fail
          go_loopw [35] (fun i wr => ∃ q : Nat, q ≤ m ∧ i = .int .i64 q ∧ Hid (UMem w wr g (upd (stf l k) (S ||| P) (ws.take q))) ∧ Hid (Bk wr gi 60 [.int .u16 c, .int .u8 t, .int .u8 f, .int .u32 y]) ∧ Hid (Seg wr B 1 m A' (ints ws))) (fun i _ => m - (intOf i).toNat)
          case atStart => exact ⟨0, by omega, rfl, HMc, Hbc, Hseg⟩
          case round =>
            obtain ⟨q, hq, rfl, HMx, Hbx, Hsx⟩ := hrel
            clear HMc Hbc Hseg
            by_cases hqm : q < m
            · obtain ⟨to, hto⟩ : ∃ to, ws[q]? = some to := ⟨_, List.getElem?_eq_getElem (by have := Hm.out; omega)⟩
              obtain ⟨hton, hkto⟩ := Hws2.out to (List.mem_of_getElem? hto)
              rw [Hl.out] at hton
              obtain ⟨b', o', rfl, hBb, hbl', hcw⟩ := Hsx.out.pos (by omega)
              have r0 := hcw q _ (ints_at hto)
              obtain ⟨X, hX⟩ : ∃ X, X = (upd (stf l k) (S ||| P) (ws.take q)).getD to 0 := ⟨_, rfl⟩
              have hlen : (upd (stf l k) (S ||| P) (ws.take q)).length = n := by rw [upd_len, stf_len, Hl.out]
              have hSk : (upd (stf l k) (S ||| P) (ws.take q)).getD k 0 = S := by
                rw [upd_get, if_neg, ← HS.out]
                intro h
                exact Nat.lt_irrefl _ ((Hws2.out k (List.mem_of_mem_take h)).2)
              have hXl : X < 65536 := by
                rw [hX, upd_get]
                have := stf_lt l Hrg.out k to
                split
                · exact Nat.lt_of_le_of_lt Nat.and_le_left this
                · exact this
              have hSPl : S ||| P < 65536 := Nat.or_lt_two_pow (n := 16) (by omega) (by omega)
              have hAnd : bits .and .u16 (X : Int) ((S ||| P : Nat) : Int) = ((X &&& (S ||| P) : Nat) : Int) := u16_and_nat X (S ||| P) hXl hSPl
              have hOr := HO.out
              obtain ⟨V, hV⟩ : ∃ V, V = S ||| P := ⟨_, rfl⟩
              rw [← hV] at hAnd hOr
              obtain ⟨Y, hY⟩ : ∃ Y, Y = X &&& V := ⟨_, rfl⟩
              rw [← hY] at hAnd
              have c1 : wr.cell? ⟨g, k, none⟩ = some (.int .u16 S) := by rw [← hSk]; exact HMx.out.cell k (by omega)
              have c2 : wr.cell? ⟨g, to, none⟩ = some (.int .u16 X) := by rw [hX]; exact HMx.out.cell to (by omega)
              have fz := HMx.out.bk.fz to
              have hal := (Below.refl wr.heap.size wr).alloc (Nat.le_refl _) (.cells #[.int .u16 c, .int .u8 t, .int .u8 f, .int .u32 y] 60)
              have c1' := (hal.cell (p := ⟨g, k, none⟩) HMx.out.bk.lt).trans c1
              have c2' := (hal.cell (p := ⟨g, to, none⟩) HMx.out.bk.lt).trans c2
              have fz' := (HMx.out.bk.alloc (.cells #[.int .u16 c, .int .u8 t, .int .u8 f, .int .u32 y] 60)).fz to
              have q0 := Hbx.out.cell 0 rfl
              have q1 := Hbx.out.cell 1 rfl
              have q2 := Hbx.out.cell 2 rfl
              have q3 := Hbx.out.cell 3 rfl
              have hnext : upd (stf l k) (S ||| P) (ws.take (q + 1)) = (upd (stf l k) (S ||| P) (ws.take q)).set to Y := by
                rw [take_snoc' ws q to hto, upd_cons, hY, hX, hV]
              have Hend := Lib.hid (show UMem w ((wr.alloc (.cells #[.int .u16 c, .int .u8 t, .int .u8 f, .int .u32 y] 60)).setCell ⟨g, to, none⟩ (.int .u16 Y)) g (upd (stf l k) (S ||| P) (ws.take (q + 1))) from by
                rw [hnext]; exact (HMx.out.alloc _).set to Y)
              have HXd := Lib.hid hX
              have HVd := Lib.hid hV
              have HYd := Lib.hid hY
              clear hal hcw hX hlen hSk hXl hSPl hV hY hnext hto
              go_wp2_with fail
              refine wp_once ?fr2 ?wd2 ?reg2 ?imp2
              case reg2 =>
                go_region_with (go_at_call 62; refine (Pt.out _).mono ?_; rintro e w' ⟨rfl, rfl⟩)
                all_goals exact OnlyTo.here _ _
              case imp2 =>
                clear c1 c2 fz c1' c2' fz' q0 q1 q2 q3 hAnd hOr r0
                go_wp2_with fail
                go_roundw
                case rel => exact ⟨q + 1, by omega, by go_num, Hend.out.drew, (((Hbx.out.alloc _).grown (only_set _ g to _) (by simp; omega)).drew), ((Hsx.out.below ((Below.refl _ _).alloc (Nat.le_refl _) _)).grown (only_set _ g to _) (by omega)).below ((Below.refl _ _).drew)⟩
                case measure => simp [intOf]; omega
            · obtain rfl : q = m := by omega
              have HE := Lib.hid (show UMem w wr g (stf l (k + 1)) from by
                have h1 := HMx.out
                rw [List.take_of_length_le (by have := Hm.out; omega), Hwsd.out, HS.out, HP.out, ← stf_step Hx.out] at h1
                exact h1)
              have HN1 := Lib.hid (show NoneBad l (k + 1) from fun j x hj hx ht => by
                rcases (by omega : j < k ∨ j = k) with h | rfl
                · exact HN.out j x h hx ht
                · rw [Hx.out] at hx
                  cases hx
                  exact Hok2.out ht)
              clear Hwsd HMx
              go_wp2_with fail
              go_roundw
              case rel => exact ⟨k + 1, by omega, by go_num, HE, HN1⟩
              case measure => simp [intOf]; omega
        · have hb0 : ((D : Int) == 0) = false := by simp; omega
          have hb1 : ((D : Int) != 0) = true := by simp; omega
          have Hno := Lib.hid (fun h => hD0 (Hz.out.2 (Hbad.out.2 h)))
          have HA2 := (HMb.out.ans.set 0 (.int .i64 k)).set 1 (.int .i64 2)
          have a0 := HA2.cell 0 rfl
          have a1 := HA2.cell 1 rfl
          have b0 := HMb.out.ans.cell 0 rfl
          have b1 := HMb.out.ans.cell 1 rfl
          have f0 := HMb.out.ans.fz 0
          have f1 := HMb.out.ans.fz 1
          have Hfin := Lib.hid (only_below (only_below HMb.out.bel (only_set wb w.heap.size 0 (.int .i64 k)) HMb.out.bel.size (Nat.le_refl _)) (only_set (wb.setCell ⟨w.heap.size, 0, none⟩ (.int .i64 k)) w.heap.size 1 (.int .i64 2)) (Nat.le_trans HMb.out.bel.size (only_set _ _ _ _).size) (Nat.le_refl _))
          clear Hz Hbad hD hD0 HA2
          go_wp2_with fail
          refine bodyPost_ret (v := .agg #[.int .i64 k, .int .i64 2]) (by simp [results, Try.results37, go_sem, a0, a1]) rfl ⟨k, 2, rfl, Hfin.out, .inr ⟨rfl, HN.out, ⟨c, t, f, y⟩, Hx.out, ?_⟩⟩
          by_cases ht : takes ⟨c, t, f, y⟩ = true
          · exact ⟨ht, Classical.byContradiction fun h => Hno.out fun _ => h⟩
          · exact absurd (fun h => absurd h ht) Hno.out
    · obtain rfl : k = n := by omega
      have HA2 := (HM.out.ans.set 0 (.int .i64 0)).set 1 (.int .i64 0)
      have a0 := HA2.cell 0 rfl
      have a1 := HA2.cell 1 rfl
      have b0 := HM.out.ans.cell 0 rfl
      have b1 := HM.out.ans.cell 1 rfl
      have f0 := HM.out.ans.fz 0
      have f1 := HM.out.ans.fz 1
      clear HA2
      go_wp2_with fail
      have Hfin := Lib.hid (only_below (only_below HM.out.bel (only_set wr w.heap.size 0 (.int .i64 0)) HM.out.bel.size (Nat.le_refl _)) (only_set (wr.setCell ⟨w.heap.size, 0, none⟩ (.int .i64 0)) w.heap.size 1 (.int .i64 0)) (Nat.le_trans HM.out.bel.size (only_set _ _ _ _).size) (Nat.le_refl _))
      refine bodyPost_ret (v := .agg #[.int .i64 0, .int .i64 0]) (by simp [results, Try.results37, go_sem, a0, a1]) rfl ⟨0, 0, rfl, Hfin.out, .inl ⟨rfl, rfl, by rw [Hl.out]; exact HN.out⟩⟩
end Go.Proofs.Ytnkffjdoillmaaa

