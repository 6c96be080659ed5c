/- needed, walked. -/
import Derived.Test.YtgdoampokcpagaaIrQ
namespace Go.Proofs.Ytgdoampokcpagaa.Ir
open Go.RowKit Go.Maps Go.WideMaps Go.WideElems Go.ChangeMaps
theorem infoPC : (Try.prog.info? 66).map (fun i => (i.zero, i.size, i.bytes)) = some (some (.agg #[.int .i64 0, .int .u8 0, .int .u64 0, .int .u64 0]), 4, 32) := by kernel_rfl
theorem zeroU (w : World) : (zeroValue 123).run Try.prog w = .ok (.agg #[]) w := by kernel_rfl
theorem own_slice {w : World} {B : Nat} {e : TypeId} {z n : Nat} {v : Value} {xs : List Value} (h : w.ownsRow B e z v n xs) : ∃ A cp, v = .slice A n cp := by
  obtain ⟨_, ⟨h2, h3⟩ | ⟨g, cap, cur, h2, _⟩⟩ := h
  · subst h3; exact ⟨none, 0, h2⟩
  · exact ⟨_, _, h2⟩
theorem one_alloc' (w : World) (o : Obj) : Below w.heap.size w (w.alloc o) := (Below.refl w.heap.size w).alloc (Nat.le_refl _) o
set_option maxRecDepth 100000 in
theorem u64_of {v : Value} {x : Nat} {d : DataW Unit} {ps : List MemPlace} (h : plainElem Try.prog 46 v = some (d, ps)) (hd : d = .lit (.int .u64 (x : Nat))) : v = .int .u64 (x : Nat) := by
  obtain ⟨a, rfl, hz, _⟩ := plainElem_int_inv Try.underlying46 h
  injection hz with h1 _
  rw [hd] at h1
  injection h1 with h1
  injection h1 with _ h1
  rw [h1]
theorem eq_case {E : List (Int × Nat)} (a : Int) (x : Nat) : (a, x) ∈ E ∨ (∀ e ∈ E, e.1 ≠ a) ∨ ∃ y, (a, y) ∈ E ∧ y ≠ x ∧ (a, x) ∉ E := by
  by_cases h1 : (a, x) ∈ E
  · exact Or.inl h1
  · by_cases h2 : ∀ e ∈ E, e.1 ≠ a
    · exact Or.inr (Or.inl h2)
    · obtain ⟨e, h3⟩ := Classical.not_forall.1 h2
      obtain ⟨h4, h5⟩ := Classical.not_imp.1 h3
      have h6 : e.1 = a := Classical.not_not.1 h5
      refine Or.inr (Or.inr ⟨e.2, by rw [← h6]; exact h4, fun h7 => h1 (by rw [← h6, ← h7]; exact h4), h1⟩)
set_option maxRecDepth 100000 in
theorem keyLits_ok {ks : List CondM} (h : ∀ c ∈ ks, c.ok) : ∀ k ∈ ks.map condK, WideAt.IsKeyLit k := fun k hk => by
  obtain ⟨c, hc, rfl⟩ := List.mem_map.1 hk
  exact condKeyed.key (keyCond (h c hc))
set_option maxRecDepth 100000 in
theorem not_key {ks : List CondM} {c : CondM} (h : ∀ c ∈ ks, c.ok) (hc : c.ok) (hn : c ∉ ks) : condK c ∉ ks.map condK := fun hk => by
  obtain ⟨d, hd, e⟩ := List.mem_map.1 hk
  exact hn (condK_inj (h d hd) hc e ▸ hd)
set_option maxHeartbeats 8000000 in
set_option maxRecDepth 100000 in
theorem needed_any (l : List CondM) (n : Nat) (A : Option Addr) (cp : Nat) (w : World) (hok : ∀ c ∈ l, c.ok) (hl : l.length = n) (hn : n ≤ 60000) (hr : Rd w 4 n A (l.flatMap CondM.cells)) :
    Calls Try.prog 36 #[.slice A n cp] w (NeedPost l w) := by
  have hW := nw_start w
  obtain ⟨F, hF⟩ : ∃ F, F = needF [] [] l := ⟨_, rfl⟩
  have HF0 := Lib.hid hF
  have HOK := Lib.hid hok
  have HL := Lib.hid hl
  have HR := Lib.hid hr
  clear hr hok hF
  have hmm := @run_makeMap Try.prog
  go_enter Try.func36, Try.ntmps36
  go_wp2_with fail
  generalize hw2 : (w.alloc (.map #[] 0)).alloc (.map #[] 0) = w2 at hW ⊢
  clear hw2 hmm
  have HW0 := Lib.hid hW
  clear hW
  go_loopw [4, 17] (fun av iv wr => ∃ (i : Nat) (E : List (Int × Nat)) (left : List CondM) (B : Option Addr) (c9 : Nat), iv = .int .i64 i ∧ av = .slice B left.length c9 ∧ i ≤ n ∧ left.length ≤ i ∧ Hid (F = needF E left (l.drop i)) ∧ Hid (NW w wr left E (.slice B left.length c9) left (2 * i)) ∧ Hid (Fun E) ∧ Hid (∀ c ∈ left, c.ok)) (fun _ iv _ => n - (intOf iv).toNat)
  case atStart => exact ⟨0, [], [], none, 0, rfl, rfl, Nat.zero_le _, Nat.le_refl _, HF0, HW0, Lib.hid (fun p hp => by simp at hp), Lib.hid (by simp)⟩
  case round =>
    clear HW0
    obtain ⟨i, E, left, B, c9, rfl, rfl, hi, hli, HF, HW, HE, HO⟩ := hrel
    by_cases hlt : i < n
    · obtain ⟨c, hc⟩ : ∃ c, l[i]? = some c := ⟨_, List.getElem?_eq_getElem (by have := HL.out; omega)⟩
      obtain ⟨b, o, hA, hbl, hcell⟩ := (HR.out.below HW.out.bel).one (fun _ => rfl) (by omega) (by omega)
      subst hA
      obtain ⟨c0, c1, c2, c3⟩ := cond_cells hcell hc
      have hcok := HOK.out c (List.mem_of_getElem? hc)
      have HN := Lib.hid (fun W => never_any c W hcok)
      have HAl := Lib.hid (fun W => always_any c W hcok)
      have HX := Lib.hid hc
      have HCK := Lib.hid hcok
      clear hcell hc hcok
      go_wp2_with fail
      refine (HN.out _).mono ?_
      clear HN c0 c1 c2 c3 hbl
      rintro e w3 ⟨rfl, os, hw3⟩
      have hb3 := bel_grow (wr.alloc (.cells #[.int .i64 c.arg, .int .u8 c.op, .int .u64 c.mask, .int .u64 c.val] 66)) os
      rw [show Sort.grow (wr.alloc (.cells #[.int .i64 c.arg, .int .u8 c.op, .int .u64 c.mask, .int .u64 c.val] 66)) os = w3 from hw3.symm] at hb3
      clear hw3
      have hbk : Bk w3 wr.heap.size 66 c.cells := (Bk.new wr _ _ rfl).kept hb3
      have hb4 : Below wr.heap.size wr w3 := ((Below.refl _ wr).alloc (Nat.le_refl _) _).trans (hb3.mono (by simp))
      have HW3 := Lib.hid (HW.out.kept hb4)
      have hg2 := HW.out.size
      generalize hg : wr.heap.size = g at *
      clear hg hb3 hb4 HW
      cases hz : neverB c with
      | true =>
        have HV := Lib.hid (HF0.out.symm.trans (need_never HF.out HX.out hz))
        clear hz hbk
        go_wp2_with fail
        go_ret2
        exact need_none HW3.out (Below.refl _ _) HV.out
      | false =>
        have k0 := hbk.cell 0 rfl
        have k1 := hbk.cell 1 rfl
        have k2 := hbk.cell 2 rfl
        have k3 := hbk.cell 3 rfl
        have hgl := hbk.lt
        have HBk := Lib.hid hbk
        have HZ := Lib.hid hz
        clear hbk hz
        go_upto_if 25 with fail
        go_cut [] from 23 to 44 (fun wx => ∃ E', Hid (E' = if c.op = 1 then E ++ [(c.arg, c.val)] else E) ∧ Hid (NW w wx left E' (.slice B left.length c9) left (2 * i + 1)) ∧ Hid (Bk wx g 66 c.cells) ∧ Hid (Fun E') ∧ Hid (c.op = 1 → (c.arg, c.val) ∈ E ∨ ∀ e ∈ E, e.1 ≠ c.arg))
        case first =>
          by_cases hop : c.op = 1
          · have e1 : ((c.op : Int) == 1) = true := by rw [hop]; rfl
            have HOP := Lib.hid hop
            have HBAD := Lib.hid (fun h1 => HF0.out.symm.trans (need_bad HF.out HX.out hop h1))
            clear hop
            have wv := wf3 HCK.out.2.2.2.2
            have wa := wf1 HCK.out.1 HCK.out.2.1
            rcases eq_case (E := E) c.arg c.val with hE | hE | ⟨y, hE, hy, hE2⟩
            · have hat := ((eq_at (H := Unit) E HE.out c.arg).1 _ hE)
              have HEE := Lib.hid hE
              clear hE
              go_wp2_with (first
                | (at_lookup; go_loud (refine wpList_lookup_ok _ rfl _ _ 121 rfl 3 46 intKeyed Try.underlying121 (plainElem Try.prog 46) (Try.zeroValue46 _) (zd := .lit (.int .u64 0)) (zp := []) (plainElem_int Try.underlying46 (by decide)) (w.heap.size + 1) (2 * i) (eqD E) rfl HW3.out.eq _ (.int .i64 c.arg) rfl (keyOf_int_mk Try.underlying3 wa) true hat.1 ?_); intro v ps hv; obtain rfl := u64_of hv (hat.2 _); clear hv)
                | (at_mapUpdate; go_loud (refine wpList_mapUpdate_own _ rfl _ _ _ 121 rfl 3 46 intKeyed Try.underlying121 (plainElem Try.prog 46) (w.heap.size + 1) (2 * i) (eqD E) rfl HW3.out.eq (by unfold maxLen; omega) _ _ (.int .i64 c.arg) rfl rfl (keyOf_int_mk Try.underlying3 wa) (.lit (.int .u64 (c.val : Nat))) [] (plainElem_int Try.underlying46 wv) ?_); intro w4 hm4 hg4; have HW4 := Lib.hid (HW3.out.addEq hm4 hg4); have HBk4 := Lib.hid (HBk.out.grown hg4 (fun e => by injection e with e; omega)); clear hm4 hg4))
              trace_state
              clear e1
              go_meet
              case rel => exact ⟨_, Lib.hid (by rw [if_pos HOP.out]), HW4, HBk4, Lib.hid (HE.out.snoc (Or.inl HEE.out)), Lib.hid (fun _ => Or.inl HEE.out)⟩
            · have hat := ((eq_at (H := Unit) E HE.out c.arg).2 hE)
              have HEE := Lib.hid hE
              clear hE
              go_wp2_with (first
                | (at_lookup; go_loud (refine wpList_lookup_ok _ rfl _ _ 121 rfl 3 46 intKeyed Try.underlying121 (plainElem Try.prog 46) (Try.zeroValue46 _) (zd := .lit (.int .u64 0)) (zp := []) (plainElem_int Try.underlying46 (by decide)) (w.heap.size + 1) (2 * i) (eqD E) rfl HW3.out.eq _ (.int .i64 c.arg) rfl (keyOf_int_mk Try.underlying3 wa) false hat ?_); intro v ps hv; clear hv)
                | (at_mapUpdate; go_loud (refine wpList_mapUpdate_own _ rfl _ _ _ 121 rfl 3 46 intKeyed Try.underlying121 (plainElem Try.prog 46) (w.heap.size + 1) (2 * i) (eqD E) rfl HW3.out.eq (by unfold maxLen; omega) _ _ (.int .i64 c.arg) rfl rfl (keyOf_int_mk Try.underlying3 wa) (.lit (.int .u64 (c.val : Nat))) [] (plainElem_int Try.underlying46 wv) ?_); intro w4 hm4 hg4; have HW4 := Lib.hid (HW3.out.addEq hm4 hg4); have HBk4 := Lib.hid (HBk.out.grown hg4 (fun e => by injection e with e; omega)); clear hm4 hg4))
              clear e1
              go_meet
              case rel => exact ⟨_, Lib.hid (by rw [if_pos HOP.out]), HW4, HBk4, Lib.hid (HE.out.snoc (Or.inr HEE.out)), Lib.hid (fun _ => Or.inr HEE.out)⟩
            · have hat := ((eq_at (H := Unit) E HE.out c.arg).1 _ hE)
              have HV := Lib.hid (HBAD.out (fun h => h.elim hE2 fun h => h _ hE rfl))
              clear hE hE2
              have hne : ((y : Int) != (c.val : Int)) = true := by rw [bne_iff_ne]; omega
              go_wp2_with (at_lookup; go_loud (refine wpList_lookup_ok _ rfl _ _ 121 rfl 3 46 intKeyed Try.underlying121 (plainElem Try.prog 46) (Try.zeroValue46 _) (zd := .lit (.int .u64 0)) (zp := []) (plainElem_int Try.underlying46 (by decide)) (w.heap.size + 1) (2 * i) (eqD E) rfl HW3.out.eq _ (.int .i64 c.arg) rfl (keyOf_int_mk Try.underlying3 wa) true hat.1 ?_); intro v ps hv; obtain rfl := u64_of hv (hat.2 _); clear hv)
              go_ret2
              exact need_none HW3.out (Below.refl _ _) HV.out
          · have e1 : ((c.op : Int) == 1) = false := by rw [beq_eq_false_iff_ne]; omega
            go_wp2_with fail
            go_meet
            case rel => exact ⟨E, Lib.hid (by rw [if_neg hop]), Lib.hid (HW3.out.mono (by omega)), HBk, HE, Lib.hid (fun h => absurd h hop)⟩
        case rest =>
          clear k0 k1 k2 k3 hgl HBk HW3
          obtain ⟨E', HE', HW4, HBk, HFn, HC1⟩ := hcut
          have j0 := HBk.out.cell 0 rfl
          have j1 := HBk.out.cell 1 rfl
          have j2 := HBk.out.cell 2 rfl
          have j3 := HBk.out.cell 3 rfl
          have jl := HBk.out.lt
          have hkey := keyCond HCK.out
          have HFN := Lib.hid (need_on HF.out HX.out HZ.out HC1.out)
          rw [← HE'.out] at HFN
          rename World => wc
          by_cases hm : c ∈ left
          · have hb : has (unD (left.map condK) : DataW Unit) (condK c) = true := (un_has (H := Unit) _ (keyLits_ok HO.out) (condK c)).1 (List.mem_map_of_mem hm)
            rw [if_pos (Or.inl hm)] at HFN
            clear hm
            go_wp2_with (at_lookup; go_loud (refine wpList_lookup_ok _ rfl _ _ 120 rfl 66 123 condKeyed Try.underlying120 unitElem (zeroU _) (zd := .agg []) (zp := []) unitElem_mk w.heap.size (2 * i + 1) (unD (left.map condK)) rfl HW4.out.th _ (condK c) rfl hkey _ hb ?_); intro v ps hv; obtain rfl := (unitElem_inv hv).1; clear hv)
            go_roundw
            case rel => exact ⟨i + 1, E', left, B, c9, by go_num, rfl, by omega, by omega, HFN, Lib.hid ((HW4.out.kept (one_alloc' _ _)).mono (by omega)), HFn, HO⟩
            case measure => simp [intOf]; omega
          · have hb : has (unD (left.map condK) : DataW Unit) (condK c) = false := (un_has (H := Unit) _ (keyLits_ok HO.out) (condK c)).2 (not_key HO.out HCK.out hm)
            have HM := Lib.hid hm
            clear hm
            go_wp2_with (at_lookup; go_loud (refine wpList_lookup_ok _ rfl _ _ 120 rfl 66 123 condKeyed Try.underlying120 unitElem (zeroU _) (zd := .agg []) (zp := []) unitElem_mk w.heap.size (2 * i + 1) (unD (left.map condK)) rfl HW4.out.th _ (condK c) rfl hkey _ hb ?_); intro v ps hv; obtain rfl := (unitElem_inv hv).1; clear hv)
            have HAlw := Lib.hid HAl.out
            refine (HAlw.out _).mono ?_
            rintro e w5 ⟨rfl, os5, hw5⟩
            have hb5 := bel_grow (wc.alloc (.cells #[] 123)) os5
            rw [show Sort.grow (wc.alloc (.cells #[] 123)) os5 = w5 from hw5.symm] at hb5
            clear hw5 j0 j1 j2 j3 jl
            have hb6 : Below wc.heap.size wc w5 := (one_alloc' wc _).trans (hb5.mono (by simp))
            have HW5 := Lib.hid (HW4.out.kept hb6)
            have hbk5 := HBk.out.kept hb6
            clear hb5 hb6
            cases hz2 : alwaysB c with
            | true =>
              rw [if_pos (Or.inr hz2)] at HFN
              clear hz2 hbk5
              go_wp2_with fail
              go_roundw
              case rel => exact ⟨i + 1, E', left, B, c9, by go_num, rfl, by omega, by omega, HFN, Lib.hid (HW5.out.mono (by omega)), HFn, HO⟩
              case measure => simp [intOf]; omega
            | false =>
              rw [if_neg (fun h => h.elim HM.out (fun h => by rw [hz2] at h; cases h))] at HFN
              clear hz2
              have j0 := hbk5.cell 0 rfl
              have j1 := hbk5.cell 1 rfl
              have j2 := hbk5.cell 2 rfl
              have j3 := hbk5.cell 3 rfl
              have jl := hbk5.lt
              have HBk5 := Lib.hid hbk5
              clear hbk5
              go_wp2_with (first
                | (at_mapUpdate; go_loud (refine wpList_mapUpdate_own _ rfl _ _ _ 120 rfl 66 123 condKeyed Try.underlying120 unitElem w.heap.size (2 * i + 1) (unD (left.map condK)) rfl HW5.out.th (by unfold maxLen; omega) _ _ (condK c) rfl rfl hkey (.agg []) [] unitElem_mk ?_); intro w6 hm6 hg6; have HW6 := Lib.hid (HW5.out.addTh hm6 hg6); have hbk6 := HBk5.out.grown hg6 (fun e => by injection e with e; omega); have i0 := hbk6.cell 0 rfl; have i1 := hbk6.cell 1 rfl; have i2 := hbk6.cell 2 rfl; have i3 := hbk6.cell 3 rfl; have il := hbk6.lt; clear hm6 hg6 hbk6)
                | (at_builtin; go_loud (refine append_one rfl (.tmp 59) (.tmp 61) 54 66 rfl _ 4 32 infoPC Try.underlying54 rfl (by decide) (by decide) (w.heap.size + 2) _ left.length (left.flatMap CondM.cells) rfl (HW6.out.kept (one_alloc' _ _)).row w6.heap.size [.int .i64 c.arg, .int .u8 c.op, .int .u64 c.mask, .int .u64 c.val] rfl rfl (Bk.new w6 _ _ rfl) (by intro u hu; simp at hu; rcases hu with rfl | rfl | rfl | rfl <;> rfl) (by omega) (by have := HW6.out.size; simp; omega) ?_); intro v' w8 hown' hgrow hat; have HW8 := Lib.hid ((HW6.out.kept (one_alloc' w6 (.cells #[.int .i64 c.arg, .int .u8 c.op, .int .u64 c.mask, .int .u64 c.val] 66))).addRow (c := c) hown' hgrow); obtain ⟨A7, c7, hv7⟩ := own_slice hown'; subst hv7; clear hown' hgrow hat))
              go_roundw
              case rel => exact ⟨i + 1, E', left ++ [c], A7, c7, by go_num, by rw [List.length_append]; rfl, by omega, by rw [List.length_append]; simp; omega, HFN, Lib.hid (by rw [List.length_append]; exact HW8.out.mono (by omega)), HFn, Lib.hid (fun d hd => (List.mem_append.1 hd).elim (HO.out d) fun h => by rw [List.mem_singleton.1 h]; exact HCK.out)⟩
              case measure => simp [intOf]; omega
    · have HV := Lib.hid (HF0.out.symm.trans (need_end HF.out (by have := HL.out; omega)))
      go_wp2_with fail
      go_ret2
      exact need_some HW.out HV.out
end Go.Proofs.Ytgdoampokcpagaa.Ir

