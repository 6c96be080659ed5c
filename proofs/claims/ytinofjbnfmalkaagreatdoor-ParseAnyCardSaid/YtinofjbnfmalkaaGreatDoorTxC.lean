/- A condition's text, an action's, a call's: the walks. -/
import Derived.Test.YtinofjbnfmalkaaGreatDoorTxM
import Derived.Test.YtinofjbnfmalkaaGreatDoorTxLaid
import Derived.Deep.RegionHeld3
namespace Go.Proofs.YtinofjbnfmalkaaGreatDoor.Tx
open Go.RowKit Go.WideElems Pa
theorem ret_str {s : ByteArray} {l : Bs} (h : s.data.toList = l) : Ending.returned (.string s) = .returned (.string ⟨l.toArray⟩) := by
  obtain ⟨⟨d⟩⟩ := s
  simp only at h
  rw [h]
theorem dec_one : ∀ k, k < 6 → Lib.decDigits k = [UInt8.ofNat (48 + k)] := by
  intro k hk
  rcases (by omega : k = 0 ∨ k = 1 ∨ k = 2 ∨ k = 3 ∨ k = 4 ∨ k = 5) with rfl | rfl | rfl | rfl | rfl | rfl <;> (rw [Lib.decDigits]; rfl)
theorem prt_any (u : Nat) (hu : u < 18446744073709551616) (w W : World) (hE : E2 w) (h : Below w.heap.size w W) :
    Calls Tryz.prog 35 #[.int .u64 u] W fun e w' => e = .returned (.string ⟨(Lib.decDigits u).toArray⟩) ∧ Below W.heap.size W w' := printed_any u hu W (hE.pow.below h)
theorem sign_any (o : Nat) (h1 : 1 ≤ o) (h7 : o ≤ 7) (w : World) (hG : G w) : Calls Tryz.prog 90 #[.int .u8 o] w fun e w' => e = .returned (.string ⟨(sgT.getD o []).toArray⟩) ∧ Below w.heap.size w w' := by
  have hs : ∀ {v : Value}, Calls Tryz.prog 90 #[.int .u8 o] w (Same9 v w) → Calls Tryz.prog 90 #[.int .u8 o] w fun e w' => e = .returned v ∧ Below w.heap.size w w' :=
    fun h => h.mono fun _ _ ⟨a, b⟩ => ⟨a, b ▸ Below.refl _ _⟩
  rcases (by omega : o = 1 ∨ o = 2 ∨ o = 3 ∨ o = 4 ∨ o = 5 ∨ o = 6 ∨ o = 7) with rfl | rfl | rfl | rfl | rfl | rfl | rfl
  · exact hs (sgn_1 w (hG.sg 1 (by omega)))
  · exact hs (sgn_2 w (hG.sg 2 (by omega)))
  · exact hs (sgn_3 w (hG.sg 3 (by omega)))
  · exact hs (sgn_4 w (hG.sg 4 (by omega)))
  · exact hs (sgn_5 w (hG.sg 5 (by omega)))
  · exact hs (sgn_6 w (hG.sg 6 (by omega)))
  · exact hs (sgn_7 w (hG.sg 7 (by omega)))
set_option maxHeartbeats 4000000 in
set_option maxRecDepth 100000 in
theorem condText_any (arg : Int) (o mk vl : Nat) (w : World) (hz : condE ⟨arg, o, mk, vl⟩ = 0) (hok : CondM.ok ⟨arg, o, mk, vl⟩) (hE : E2 w) :
    Calls Tryz.prog 67 #[.agg #[.int .i64 arg, .int .u8 o, .int .u64 mk, .int .u64 vl]] w fun e w' => e = .returned (.string ⟨(condT ⟨arg, o, mk, vl⟩).toArray⟩) ∧ Below w.heap.size w w' := by
  obtain ⟨h0, h5, o1, o7, -⟩ := condE_zero hz
  simp only at h0 h5 o1 o7
  obtain ⟨k, rfl⟩ : ∃ k : Nat, arg = k := ⟨arg.toNat, by omega⟩
  obtain ⟨_, _, _, hm, hv⟩ := hok
  simp only at hm hv
  have HDk := Lib.hid (dec_one k (by omega))
  have HT := Lib.hid (show condT ⟨(k : Int), o, mk, vl⟩ = [97, 114, 103, UInt8.ofNat (48 + k)] ++ [32] ++ sgT.getD o [] ++ [32] ++ (if o = 7 then Lib.decDigits mk ++ [32, 61, 61, 32] else []) ++ Lib.decDigits vl from rfl)
  have l0 : (Lib.decDigits k).length ≤ 20 := dec20 (by omega)
  have l1 : (Lib.decDigits mk).length ≤ 20 := dec20 hm
  have l2 : (Lib.decDigits vl).length ≤ 20 := dec20 hv
  have l3 : (sgT.getD o []).length ≤ 2 := sg2 o
  have hp := Lib.hid (fun W => prt_any k (by omega) w W hE)
  have hpm := Lib.hid (fun W => prt_any mk hm w W hE)
  have hpv := Lib.hid (fun W => prt_any vl hv w W hE)
  have HSg := Lib.hid (fun W (h : Below w.heap.size w W) => sign_any o o1 o7 W (hE.g.kept h))
  obtain ⟨sg, hsg⟩ : ∃ sg, sg = sgT.getD o [] := ⟨_, rfl⟩
  rw [← hsg] at HSg HT l3
  have mx : max (k : Int) 0 = (k : Int) := by omega
  have wk : IntKind.u64.wrap (k : Int) = (k : Int) := by rw [IntKind.wrap_u64]; omega
  clear hsg hE hz hm hv h0
  have hk1 := Bk.new w 90 #[.int .i64 k, .int .u8 o, .int .u64 mk, .int .u64 vl] (l := [.int .i64 k, .int .u8 o, .int .u64 mk, .int .u64 vl]) rfl
  have hb1 := oneb w (.cells #[.int .i64 k, .int .u8 o, .int .u64 mk, .int .u64 vl] 90)
  go_enter Tryz.func67, Tryz.ntmps67
  go_upto_region 1 with fail
  generalize World.alloc w _ = w2 at hk1 hb1 ⊢
  have HK2 := Lib.hid hk1
  have HB2 := Lib.hid hb1
  have q0 := hk1.cell 0 rfl
  have q1 := hk1.cell 1 rfl
  clear hk1 hb1
  have s1 : ¬ 9223372036854775807 < 3 + (Lib.decDigits k).length := by omega
  have s2 : ¬ 9223372036854775807 < 3 + (Lib.decDigits k).length + 1 := by omega
  have s3 : ¬ 9223372036854775807 < 3 + (Lib.decDigits k).length + 1 + sg.length := by omega
  have s4 : ¬ 9223372036854775807 < 3 + (Lib.decDigits k).length + 1 + sg.length + 1 := by omega
  refine wp_region_held_drew (S := (fun w' => (w'.cell? ⟨w.heap.size, 0, none⟩ = some (.int .i64 k) ∧ w'.cell? ⟨w.heap.size, 1, none⟩ = some (.int .u8 o)) ∧ Hid (Below w2.heap.size w2 w'))) (by kernel_rfl) ?_ (fun hHeld0 => ?_)
  · exact ⟨⟨q0, q1⟩, Lib.hid (Below.refl w2.heap.size w2).drew⟩
  clear q0 q1
  generalize w2.drew = vh0 at hHeld0 ⊢
  refine wpAnyH_take (i := 0) (v := ?_) (by first | (simp only [List.getElem?_toArray, List.getElem?_cons_zero] <;> rfl) | rfl) (by kernel_rfl) (by kernel_rfl) (by kernel_rfl) (by exact fun _ _ _ h => h) (Or.inl ⟨by rfl, ?_⟩) hHeld0 ?_
  rotate_left 1
  · intro w hSw
    try dsimp only at hSw
    (go_simp) <;> (with_reducible rfl)
  try simp only [Act.put, List.setIfInBounds_toArray, List.set_cons_zero, List.set_cons_succ]
  refine wpAnyH_take (i := 1) (v := ?_) (by first | (simp only [List.getElem?_toArray, List.getElem?_cons_succ, List.getElem?_cons_zero] <;> rfl) | rfl) (by kernel_rfl) (by kernel_rfl) (by kernel_rfl) (by exact fun _ _ _ h => h) (Or.inl ⟨by rfl, ?_⟩) hHeld0 ?_
  rotate_left 1
  · intro w hSw
    try dsimp only at hSw
    (go_simp) <;> (with_reducible rfl)
  try simp only [Act.put, List.setIfInBounds_toArray, List.set_cons_zero, List.set_cons_succ]
  refine wpAnyH_take (i := 2) (v := ?_) (by first | (simp only [List.getElem?_toArray, List.getElem?_cons_succ, List.getElem?_cons_zero] <;> rfl) | rfl) (by kernel_rfl) (by kernel_rfl) (by kernel_rfl) (by exact fun _ _ _ h => h) (Or.inl ⟨by rfl, ?_⟩) hHeld0 ?_
  rotate_left 1
  · intro w hSw
    try dsimp only at hSw
    (go_simp) <;> (with_reducible rfl)
  try simp only [Act.put, List.setIfInBounds_toArray, List.set_cons_zero, List.set_cons_succ]
  refine wpAnyH_take (i := 3) (v := ?_) (by first | (simp only [List.getElem?_toArray, List.getElem?_cons_succ, List.getElem?_cons_zero] <;> rfl) | rfl) (by kernel_rfl) (by kernel_rfl) (by kernel_rfl) (by exact fun _ _ _ h => h) (Or.inl ⟨by rfl, ?_⟩) hHeld0 ?_
  rotate_left 1
  · intro w hSw
    try dsimp only at hSw
    (go_simp) <;> (with_reducible rfl)
  try simp only [Act.put, List.setIfInBounds_toArray, List.set_cons_zero, List.set_cons_succ]
  refine wpAnyH_take (i := 7) (v := ?_) (by first | (simp only [List.getElem?_toArray, List.getElem?_cons_succ, List.getElem?_cons_zero] <;> rfl) | rfl) (by kernel_rfl) (by kernel_rfl) (by kernel_rfl) (by exact fun _ _ _ h => h) (Or.inl ⟨by rfl, ?_⟩) hHeld0 ?_
  rotate_left 1
  · intro w hSw
    try dsimp only at hSw
    (go_simp) <;> (with_reducible rfl)
  try simp only [Act.put, List.setIfInBounds_toArray, List.set_cons_zero, List.set_cons_succ]
  refine wpAnyH_take (i := 8) (v := ?_) (by first | (simp only [List.getElem?_toArray, List.getElem?_cons_succ, List.getElem?_cons_zero] <;> rfl) | rfl) (by kernel_rfl) (by kernel_rfl) (by kernel_rfl) (by exact fun _ _ _ h => h) (Or.inl ⟨by rfl, ?_⟩) hHeld0 ?_
  rotate_left 1
  · intro w hSw
    try dsimp only at hSw
    (go_simp) <;> (with_reducible rfl)
  try simp only [Act.put, List.setIfInBounds_toArray, List.set_cons_zero, List.set_cons_succ]
  refine wpAnyH_ready (rs := [4]) (by kernel_rfl) (by simp) ?_
  refine AllReadyH.cons (by first | (simp only [List.getElem?_toArray, List.getElem?_cons_succ, List.getElem?_cons_zero] <;> rfl) | rfl) (fun K hK => ?_) ?_
  · go_simp
    refine (hp.out _ (HB2.out.trans (hHeld0.2.out.mono HB2.out.size))).mono ?_
    rintro e vh1 ⟨rfl, hbb⟩
    refine hK.out _ _ ?_ (fun hHeld1 => ?_)
    · exact ⟨⟨cell_below hHeld0.1.1 hbb, cell_below hHeld0.1.2 hbb⟩, hHeld0.2.out.trans (hbb.mono hHeld0.2.out.size)⟩
    clear hK K
    clear hbb hHeld0
    try simp only [Act.put, List.setIfInBounds_toArray, List.set_cons_zero, List.set_cons_succ]
    refine wpAnyH_take (i := 5) (v := ?_) (by first | (simp only [List.getElem?_toArray, List.getElem?_cons_succ, List.getElem?_cons_zero] <;> rfl) | rfl) (by kernel_rfl) (by kernel_rfl) (by kernel_rfl) (by exact fun _ _ _ h => h) (Or.inl ⟨by rfl, ?_⟩) hHeld1 ?_
    rotate_left 1
    · intro w hSw
      try dsimp only at hSw
      (go_simp) <;> (with_reducible rfl)
    try simp only [Act.put, List.setIfInBounds_toArray, List.set_cons_zero, List.set_cons_succ]
    refine wpAnyH_take (i := 6) (v := ?_) (by first | (simp only [List.getElem?_toArray, List.getElem?_cons_succ, List.getElem?_cons_zero] <;> rfl) | rfl) (by kernel_rfl) (by kernel_rfl) (by kernel_rfl) (by exact fun _ _ _ h => h) (Or.inl ⟨by rfl, ?_⟩) hHeld1 ?_
    rotate_left 1
    · intro w hSw
      try dsimp only at hSw
      (go_simp) <;> (with_reducible rfl)
    try simp only [Act.put, List.setIfInBounds_toArray, List.set_cons_zero, List.set_cons_succ]
    refine wpAnyH_ready (rs := [9]) (by kernel_rfl) (by simp) ?_
    refine AllReadyH.cons (by first | (simp only [List.getElem?_toArray, List.getElem?_cons_succ, List.getElem?_cons_zero] <;> rfl) | rfl) (fun K hK => ?_) ?_
    · go_simp
      refine (HSg.out _ (HB2.out.trans (hHeld1.2.out.mono HB2.out.size))).mono ?_
      rintro e vh2 ⟨rfl, hbb⟩
      refine hK.out _ _ ?_ (fun hHeld2 => ?_)
      · exact ⟨⟨cell_below hHeld1.1.1 hbb, cell_below hHeld1.1.2 hbb⟩, hHeld1.2.out.trans (hbb.mono hHeld1.2.out.size)⟩
      clear hK K
      clear hbb hHeld1
      try simp only [Act.put, List.setIfInBounds_toArray, List.set_cons_zero, List.set_cons_succ]
      refine wpAnyH_take (i := 10) (v := ?_) (by first | (simp only [List.getElem?_toArray, List.getElem?_cons_succ, List.getElem?_cons_zero] <;> rfl) | rfl) (by kernel_rfl) (by kernel_rfl) (by kernel_rfl) (by exact fun _ _ _ h => h) (Or.inl ⟨by rfl, ?_⟩) hHeld2 ?_
      rotate_left 1
      · intro w hSw
        try dsimp only at hSw
        (go_simp) <;> (with_reducible rfl)
      try simp only [Act.put, List.setIfInBounds_toArray, List.set_cons_zero, List.set_cons_succ]
      refine wpAnyH_take (i := 11) (v := ?_) (by first | (simp only [List.getElem?_toArray, List.getElem?_cons_succ, List.getElem?_cons_zero] <;> rfl) | rfl) (by kernel_rfl) (by kernel_rfl) (by kernel_rfl) (by exact fun _ _ _ h => h) (Or.inl ⟨by rfl, ?_⟩) hHeld2 ?_
      rotate_left 1
      · intro w hSw
        try dsimp only at hSw
        (go_simp) <;> (with_reducible rfl)
      try simp only [Act.put, List.setIfInBounds_toArray, List.set_cons_zero, List.set_cons_succ]
      refine wpAnyH_take (i := 12) (v := ?_) (by first | (simp only [List.getElem?_toArray, List.getElem?_cons_succ, List.getElem?_cons_zero] <;> rfl) | rfl) (by kernel_rfl) (by kernel_rfl) (by kernel_rfl) (by exact fun _ _ _ h => h) (Or.inl ⟨by rfl, ?_⟩) hHeld2 ?_
      rotate_left 1
      · intro w hSw
        try dsimp only at hSw
        (go_simp) <;> (with_reducible rfl)
      try simp only [Act.put, List.setIfInBounds_toArray, List.set_cons_zero, List.set_cons_succ]
      refine wpAnyH_done (by kernel_rfl) ?_ _
      rename World => w3
      have HB3 := Lib.hid (HB2.out.trans (hHeld2.2.out.mono HB2.out.size))
      have HK3 := Lib.hid (HK2.out.kept hHeld2.2.out)
      clear hHeld2 hp HSg
      have q1 := HK3.out.cell 1 rfl
      have q2 := HK3.out.cell 2 rfl
      have q3 := HK3.out.cell 3 rfl
      have ql := HK3.out.lt
      by_cases h7 : o = 7
      · have e7 : ((o : Int) == 7) = true := by rw [h7]; rfl
        have H7 := Lib.hid h7
        clear h7
        go_wp2_with fail
        refine (hpm.out _ HB3.out).mono ?_
        clear hpm q1 q2 q3 ql
        rintro e w4 ⟨rfl, hb4⟩
        have HB4 := Lib.hid (HB3.out.trans (hb4.mono HB3.out.size))
        have q3 := (HK3.out.kept hb4).cell 3 rfl
        have ql := (HK3.out.kept hb4).lt
        clear hb4
        go_wp2_with fail
        refine (hpv.out _ HB4.out).mono ?_
        clear hpv q3 ql
        rintro e w5 ⟨rfl, hb5⟩
        have HB5 := Lib.hid (HB4.out.trans (hb5.mono HB4.out.size))
        clear hb5
        go_wp2_with fail
        go_ret
        exact ⟨ret_str (by rw [HT.out]; simp [if_pos H7.out, HDk.out]), HB5.out⟩
      · have e7 : ((o : Int) == 7) = false := by rw [beq_eq_false_iff_ne]; omega
        have H7 := Lib.hid h7
        clear h7
        go_wp2_with fail
        refine (hpv.out _ HB3.out).mono ?_
        clear hpv q1 q2 q3 ql
        rintro e w5 ⟨rfl, hb5⟩
        have HB5 := Lib.hid (HB3.out.trans (hb5.mono HB3.out.size))
        clear hb5
        go_wp2_with fail
        go_ret
        exact ⟨ret_str (by rw [HT.out]; simp [if_neg H7.out, HDk.out]), HB5.out⟩
    exact AllReadyH.nil
  exact AllReadyH.nil
end Go.Proofs.YtinofjbnfmalkaaGreatDoor.Tx
