/- AsmLists: the walk. -/
import Derived.Test.YthiohihbcfahhaaDoorApp
import Derived.Test.YthiohihbcfahhaaDoorRefPrt
import Derived.Test.YthiohihbcfahhaaDoorListing
namespace Go.Proofs.YthiohihbcfahhaaDoor
open Go.RowKit Go.ChangeShapes Go.WideShapes Go.ChangeAt Go.WideElems
theorem text_one (i : Ins) (g : Nat) (W : World) (hb : Bk W g 38 i.cells) (hi : i.ok) (hE : Env W) : Calls Tryd.prog 13 #[.slice (some ⟨g, 0, none⟩) 1 1] W fun e w' => e = .returned (.string ⟨(told i ++ [10]).toArray⟩) ∧ Below W.heap.size W w' := by
  have h := text_any [i] (some ⟨g, 0, none⟩) 1 W (fun j hj => by rw [List.mem_singleton.1 hj]; exact hi) (by simp) (by have := (hb.seg (z := 4) (n := 1) (B := 0) rfl (Nat.zero_le _)).rd; simpa using this) hE
  rw [show text [i] = told i ++ [10] by simp [text]] at h
  exact h
theorem cut_last (t : Bs) (O : ByteArray) (hO : O = ⟨(t ++ [10]).toArray⟩) (W : World) : (Instr.slice 9 (.string O) none (some (.int .i64 ((O.size : Int) - 1))) none).run Tryd.prog W = .ok (.string ⟨t.toArray⟩) W := by
  have hs : O.size = t.length + 1 := by rw [hO, Lib.size_eq]; simp
  have hu := Tryd.underlying9
  have h1 : (0 : Int) ≤ (O.size : Int) - 1 := by omega
  have h2 : (O.size : Int) - 1 ≤ (O.size : Int) := by omega
  have h3 : ((O.size : Int) - 1).toNat = t.length := by omega
  have he : O.extract 0 t.length = ⟨t.toArray⟩ := by
    apply ByteArray.ext
    apply Array.ext'
    rw [Lib.extract_data, hO]
    simp
  rw [run_slice_string_h (h0 := h1) (h2 := h2), h3, he]
  exact hu
theorem insY {wy w' : World} {g : Nat} {i : Ins} (h1 : Bk w' g 38 i.cells) (h2 : Below wy.heap.size wy w') : (fun w' => (w'.cell? ⟨g, 0, none⟩ = some (.int .u16 i.c) ∧ w'.cell? ⟨g, 1, none⟩ = some (.int .u8 i.t) ∧ w'.cell? ⟨g, 2, none⟩ = some (.int .u8 i.f) ∧ w'.cell? ⟨g, 3, none⟩ = some (.int .u32 i.k)) ∧ Hid (Bk w' g 38 i.cells ∧ Below wy.heap.size wy w')) w' := ⟨⟨h1.cell 0 rfl, h1.cell 1 rfl, h1.cell 2 rfl, h1.cell 3 rfl⟩, h1, h2⟩
theorem line_eq (X : List Ins) (k : Nat) (i : Ins) (h : X[k]? = some i) (G : Bs) (hG : goesB i k = G) : listTo X k ++ (Lib.decDigits k ++ [58, 32] ++ told i) ++ G ++ [10] = listTo X (k + 1) := by
  rw [listTo_step h, lineB, hG]
  simp
set_option maxRecDepth 100000 in
set_option maxHeartbeats 4000000 in
theorem walk_lists (l : List Ins) (S : List Sml) (n sn : Nat) (lA sA : Option Addr) (lc sc : Nat) (w : World) (hl : l.length = n) (hok : ∀ i ∈ l, i.ok) (hr : Rd w 4 n lA (l.flatMap Ins.cells)) (hnil : lA = none → lc = 0)
    (hS : S.length = sn) (hSok : ∀ i ∈ S, i.ok) (hSr : Rd w 9 sn sA (S.flatMap Sml.cells)) (hm : sn ≤ maxLen) (hE : Env w) :
    Calls Tryd.prog 7 #[.slice lA n lc, .slice sA sn sc] w (Yes w) := by
  have HE := Lib.hid hE
  have HR := Lib.hid hr
  have Hl := Lib.hid hl
  have Hok := Lib.hid hok
  have Hnil := Lib.hid hnil
  have HPr := Lib.hid (fun W (hb : Below w.heap.size w W) => program_any S sn sA sc 3 W hS hSok (hSr.below hb) hm (by omega))
  clear hE hr hl hok hnil hS hSok hSr hm
  by_cases hn : 100 < n
  · have t1 : (100 : Int) < (n : Int) := by omega
    go_enter Tryd.func7, Tryd.ntmps7
    go_wp2_with fail
    refine (awake_any _ HE.out).mono ?_
    rintro e w1 ⟨rfl, hb1⟩
    have HB1 := Lib.hid hb1
    clear hb1
    go_wp2_with fail
    go_ret
    exact ⟨rfl, HB1.out⟩
  · have t1 : ¬ (100 : Int) < (n : Int) := by omega
    go_enter Tryd.func7, Tryd.ntmps7
    go_wp2_with fail
    refine (awake_any _ HE.out).mono ?_
    rintro e w1 ⟨rfl, hb1⟩
    have HB1 := Lib.hid hb1
    clear hb1
    have hbs1 : w.heap.size ≤ w1.heap.size := HB1.out.size
    have Hown := Lib.hid (World.ownsRow_lit (base := w.heap.size) (e := 38) (size := 4) w1 #[] 0 hbs1 (by unfold maxLen; omega) rfl)
    have HR1 := Lib.hid ((HR.out.below HB1.out).below (one_below w1 (.cells #[] 38)))
    have Hs1 := Lib.hid (show w.heap.size ≤ (w1.alloc (.cells #[] 38)).heap.size by simp; omega)
    go_wp2_with (at_builtin; refine append_any rfl (.tmp 15) (.tmp 16) rfl w.heap.size _ 0 [] rfl Hown.out l lA n lc Hl.out rfl HR1.out Hnil.out (by omega) Hs1.out ?_; intro v2 w2 hown2 hg2; have HB2 := Lib.hid ((HB1.out.alloc HB1.out.size _).grown hg2 Hs1.out (fun k hk => (Hown.out.lt k hk).1)); have Hown2 := Lib.hid (show w2.ownsRow w.heap.size 38 4 v2 n (l.flatMap Ins.cells) from by simpa using hown2); clear hown2 hg2)
    clear Hown HR1 Hs1
    refine (HPr.out _ HB2.out).mono ?_
    rintro e w3 ⟨L2, A2, c2, rfl, hc2, hseg2, hok2, hlen2, hmin2, hb3⟩
    have HB3 := Lib.hid (HB2.out.trans (hb3.mono HB2.out.size))
    have Hown3 := Lib.hid (own_below Hown2.out hb3)
    have Hs3 := Lib.hid HB3.out.size
    obtain ⟨n2, hn2⟩ : ∃ n2, L2.length = n2 := ⟨_, rfl⟩
    rw [hn2] at hseg2 hlen2 hc2 hmin2 ⊢
    have Hn2 := Lib.hid hn2
    have HR3 := Lib.hid hseg2.rd
    have Hnil2 := Lib.hid (show A2 = none → c2 = 0 from fun e => by
      obtain ⟨b, o, e', _⟩ := hseg2.pos (by omega)
      rw [e] at e'; cases e')
    have Hok2 := Lib.hid hok2
    clear hb3 hseg2 hok2 hn2 hc2 HB2 Hown2
    obtain ⟨N, hN⟩ : ∃ N, n + n2 = N := ⟨_, rfl⟩
    have hN200 : N ≤ 200 := by omega
    go_wp2_with (at_builtin; refine append_any rfl (.tmp 17) (.tmp 19) rfl w.heap.size _ n _ rfl Hown3.out L2 A2 n2 c2 Hn2.out rfl HR3.out Hnil2.out (by omega) Hs3.out ?_; intro v4 w4 hown4 hg4; have HB4 := Lib.hid (HB3.out.grown hg4 Hs3.out (fun k hk => (Hown3.out.lt k hk).1)); rw [hN] at hown4; obtain ⟨A4, c4, rfl, _, hseg4⟩ := own_seg hown4; have HX4 := Lib.hid hseg4.rd; clear hown4 hg4 hseg4)
    obtain ⟨X, hX⟩ : ∃ X, X = l ++ L2 := ⟨_, rfl⟩
    have hXl : X.length = N := by rw [hX, List.length_append, Hl.out, Hn2.out, hN]
    have hXok : ∀ i ∈ X, i.ok := by
      intro i hi
      rw [hX] at hi
      rcases List.mem_append.1 hi with h | h
      · exact Hok.out i h
      · exact Hok2.out i h
    have HX := Lib.hid (show Rd w4 4 N A4 (X.flatMap Ins.cells) from by rw [hX, List.flatMap_append]; exact HX4.out)
    have HXl := Lib.hid hXl
    have HXok := Lib.hid hXok
    clear hX hXl hXok HX4 Hown3 HB3 HR3 hN
    go_loopw [6, 23] (fun v c wr => ∃ (k : Nat) (t : Bs), k ≤ N ∧ c = .int .i64 k ∧ v = .string ⟨t.toArray⟩ ∧ t.length ≤ 30000 ∧ Hid (t = listTo X k) ∧ Hid (Below w4.heap.size w4 wr)) (fun _ c _ => N - (intOf c).toNat)
    case atStart => exact ⟨0, [], by omega, rfl, rfl, by simp, rfl, Below.refl _ _⟩
    case round =>
      obtain ⟨k, t, hk, rfl, rfl, htl, Ht, HW⟩ := hrel
      by_cases hlt : k < N
      · obtain ⟨i, hi⟩ : ∃ i, X[k]? = some i := ⟨_, List.getElem?_eq_getElem (by have := HXl.out; omega)⟩
        obtain ⟨b, o, rfl, _, hcell⟩ := (HX.out.below HW.out).pos (by omega)
        obtain ⟨c0, c1, c2, c3⟩ := four_cells hcell hi
        have Hi := Lib.hid (HXok.out i (List.mem_of_getElem? hi))
        have HLe := Lib.hid (fun G hG => line_eq X k i hi G hG)
        have Hnx := Lib.hid (show (listTo X (k + 1)).length ≤ 30000 from by have := list_len X HXok.out (k + 1) (by omega); omega)
        have HBk := Lib.hid ((Bk.new wr 38 #[.int .u16 i.c, .int .u8 i.t, .int .u8 i.f, .int .u32 i.k] (l := i.cells) rfl).alloc (.cells #[.int .u16 i.c, .int .u8 i.t, .int .u8 i.f, .int .u32 i.k] 38))
        have HBo := Lib.hid (show Bk ((wr.alloc (.cells #[.int .u16 i.c, .int .u8 i.t, .int .u8 i.f, .int .u32 i.k] 38)).alloc (.cells #[.int .u16 i.c, .int .u8 i.t, .int .u8 i.f, .int .u32 i.k] 38)) (wr.heap.size + 1) 38 i.cells from bk_new_at _ _ _ rfl (by simp))
        have HW2 := Lib.hid (HW.out.trans ((two_below wr (.cells #[.int .u16 i.c, .int .u8 i.t, .int .u8 i.f, .int .u32 i.k] 38) (.cells #[.int .u16 i.c, .int .u8 i.t, .int .u8 i.f, .int .u32 i.k] 38)).mono HW.out.size))
        have htx := text_one i (wr.heap.size + 1) _ HBo.out Hi.out (HE.out.below (HB4.out.trans (HW2.out.mono HB4.out.size)))
        obtain ⟨O, hO⟩ : ∃ O : ByteArray, O = ⟨(told i ++ [10]).toArray⟩ := ⟨_, rfl⟩
        have hOs : O.size ≤ 51 ∧ 1 ≤ O.size := by
          have := told_len i Hi.out
          rw [hO, Lib.size_eq]
          simp
          omega
        rw [← hO] at htx
        have Hcut := Lib.hid (fun W => cut_last (told i) O hO W)
        clear hO hcell hi HW
        go_wp2_with fail
        refine htx.mono ?_
        rintro e wx ⟨rfl, hb5⟩
        have HXx := Lib.hid (HBk.out.kept hb5)
        have HWx := Lib.hid (HW2.out.trans (hb5.mono HW2.out.size))
        clear hb5 htx HBk HBo HW2 c0 c1 c2 c3
        generalize wr.heap.size = g at *
        go_wp2_with fail
        obtain ⟨P, hP⟩ : ∃ P, P = Lib.decDigits k := ⟨_, rfl⟩
        obtain ⟨T, hT⟩ : ∃ T, T = told i := ⟨_, rfl⟩
        have hPl : P.length ≤ 20 := by rw [hP]; exact dec_len20' (by omega)
        have hTl : T.length ≤ 50 := by rw [hT]; exact told_len i Hi.out
        have Hpr := Lib.hid (fun W => refPrinted_any k (by omega) W)
        have hcut := Hcut.out
        rw [← hP] at Hpr HLe
        rw [← hT] at hcut HLe
        clear hP hT
        have wk : IntKind.u64.wrap (k : Int) = (k : Int) := by rw [IntKind.wrap_u64]; omega
        have wO : IntKind.i64.wrap ((O.size : Int) - 1) = (O.size : Int) - 1 := IntWalk.i64_in _ (by omega)
        have s1 : ¬ 9223372036854775807 < P.length + 2 := by omega
        have s2 : ¬ 9223372036854775807 < P.length + 2 + T.length := by omega
        have s3 : ¬ 9223372036854775807 < t.length + (P.length + 2 + T.length) := by omega
        refine wp_region_held_drew (S := (fun w' => True ∧ Hid (Bk w' g 38 i.cells ∧ Below wx.heap.size wx w'))) (by kernel_rfl) ?_ (fun hHeld0 => ?_)
        · exact ⟨trivial, HXx.out.drew, (Below.refl _ _).drew⟩
        refine wpAnyH_take (i := 0) (v := ?_) (by first | (simp only [List.getElem?_toArray, List.getElem?_cons_zero] <;> rfl) | rfl) (by kernel_rfl) (by kernel_rfl) (by kernel_rfl) (by exact fun _ _ _ h => h) (Or.inl ⟨by rfl, ?_⟩) hHeld0 ?_
        rotate_left 1
        · intro w hSw
          try dsimp only at hSw
          (go_simp) <;> (with_reducible rfl)
        try simp only [Act.put, List.setIfInBounds_toArray, List.set_cons_zero, List.set_cons_succ]
        refine wpAnyH_take (i := 1) (v := ?_) (by first | (simp only [List.getElem?_toArray, List.getElem?_cons_succ, List.getElem?_cons_zero] <;> rfl) | rfl) (by kernel_rfl) (by kernel_rfl) (by kernel_rfl) (by exact fun _ _ _ h => h) (Or.inl ⟨by rfl, ?_⟩) hHeld0 ?_
        rotate_left 1
        · intro w hSw
          try dsimp only at hSw
          (go_simp) <;> (with_reducible rfl)
        try simp only [Act.put, List.setIfInBounds_toArray, List.set_cons_zero, List.set_cons_succ]
        refine wpAnyH_take (i := 2) (v := ?_) (by first | (simp only [List.getElem?_toArray, List.getElem?_cons_succ, List.getElem?_cons_zero] <;> rfl) | rfl) (by kernel_rfl) (by kernel_rfl) (by kernel_rfl) (by exact fun _ _ _ h => h) (Or.inl ⟨by rfl, ?_⟩) hHeld0 ?_
        rotate_left 1
        · intro w hSw
          try dsimp only at hSw
          (go_simp) <;> (with_reducible rfl)
        try simp only [Act.put, List.setIfInBounds_toArray, List.set_cons_zero, List.set_cons_succ]
        refine wpAnyH_take (i := 5) (v := ?_) (by first | (simp only [List.getElem?_toArray, List.getElem?_cons_succ, List.getElem?_cons_zero] <;> rfl) | rfl) (by kernel_rfl) (by kernel_rfl) (by kernel_rfl) (by exact fun _ _ _ h => h) (Or.inl ⟨by rfl, ?_⟩) hHeld0 ?_
        rotate_left 1
        · intro w hSw
          try dsimp only at hSw
          (go_simp) <;> (with_reducible rfl)
        try simp only [Act.put, List.setIfInBounds_toArray, List.set_cons_zero, List.set_cons_succ]
        refine wpAnyH_take (i := 6) (v := ?_) (by first | (simp only [List.getElem?_toArray, List.getElem?_cons_succ, List.getElem?_cons_zero] <;> rfl) | rfl) (by kernel_rfl) (by kernel_rfl) (by kernel_rfl) (by exact fun _ _ _ h => h) (Or.inl ⟨by rfl, ?_⟩) hHeld0 ?_
        rotate_left 1
        · intro w hSw
          try dsimp only at hSw
          (go_simp) <;> (with_reducible rfl)
        try simp only [Act.put, List.setIfInBounds_toArray, List.set_cons_zero, List.set_cons_succ]
        refine wpAnyH_take (i := 7) (v := ?_) (by first | (simp only [List.getElem?_toArray, List.getElem?_cons_succ, List.getElem?_cons_zero] <;> rfl) | rfl) (by kernel_rfl) (by kernel_rfl) (by kernel_rfl) (by exact fun _ _ _ h => h) (Or.inl ⟨by rfl, ?_⟩) hHeld0 ?_
        rotate_left 1
        · intro w hSw
          try dsimp only at hSw
          (go_simp) <;> (with_reducible rfl)
        try simp only [Act.put, List.setIfInBounds_toArray, List.set_cons_zero, List.set_cons_succ]
        refine wpAnyH_take (i := 8) (v := ?_) (by first | (simp only [List.getElem?_toArray, List.getElem?_cons_succ, List.getElem?_cons_zero] <;> rfl) | rfl) (by kernel_rfl) (by kernel_rfl) (by kernel_rfl) (by exact fun _ _ _ h => h) (Or.inl ⟨by rfl, ?_⟩) hHeld0 ?_
        rotate_left 1
        · intro w hSw
          try dsimp only at hSw
          (go_simp) <;> (with_reducible rfl)
        try simp only [Act.put, List.setIfInBounds_toArray, List.set_cons_zero, List.set_cons_succ]
        refine wpAnyH_take (i := 9) (v := ?_) (by first | (simp only [List.getElem?_toArray, List.getElem?_cons_succ, List.getElem?_cons_zero] <;> rfl) | rfl) (by kernel_rfl) (by kernel_rfl) (by kernel_rfl) (by exact fun _ _ _ h => h) (Or.inl ⟨by rfl, ?_⟩) hHeld0 ?_
        rotate_left 1
        · intro w hSw
          try dsimp only at hSw
          (go_simp) <;> (with_reducible rfl)
        try simp only [Act.put, List.setIfInBounds_toArray, List.set_cons_zero, List.set_cons_succ]
        refine wpAnyH_ready (rs := [3]) (by kernel_rfl) (by simp) ?_
        refine AllReadyH.cons (by first | (simp only [List.getElem?_toArray, List.getElem?_cons_succ, List.getElem?_cons_zero] <;> rfl) | rfl) (fun K hK => ?_) AllReadyH.nil
        go_simp
        refine (Hpr.out _).mono ?_; rintro e wa ⟨rfl, hba⟩
        go_wp2_with fail
        refine hK.out _ _ ?_ (fun hHeld1 => ?_)
        · (try dsimp only)
          exact ⟨trivial, hHeld0.2.out.1.kept hba, hHeld0.2.out.2.trans (hba.mono hHeld0.2.out.2.size)⟩
        clear hK K hHeld0
        try simp only [Act.put, List.setIfInBounds_toArray, List.set_cons_zero, List.set_cons_succ]
        refine wpAnyH_take (i := 4) (v := ?_) (by first | (simp only [List.getElem?_toArray, List.getElem?_cons_succ, List.getElem?_cons_zero] <;> rfl) | rfl) (by kernel_rfl) (by kernel_rfl) (by kernel_rfl) (by exact fun _ _ _ h => h) (Or.inl ⟨by rfl, ?_⟩) hHeld1 ?_
        rotate_left 1
        · intro w hSw
          try dsimp only at hSw
          (go_simp) <;> (with_reducible rfl)
        try simp only [Act.put, List.setIfInBounds_toArray, List.set_cons_zero, List.set_cons_succ]
        refine wpAnyH_take (i := 10) (v := ?_) (by first | (simp only [List.getElem?_toArray, List.getElem?_cons_succ, List.getElem?_cons_zero] <;> rfl) | rfl) (by kernel_rfl) (by kernel_rfl) (by kernel_rfl) (by exact fun _ _ _ h => h) (Or.inl ⟨by rfl, ?_⟩) hHeld1 ?_
        rotate_left 1
        · intro w hSw
          try dsimp only at hSw
          (go_simp) <;> (with_reducible rfl)
        try simp only [Act.put, List.setIfInBounds_toArray, List.set_cons_zero, List.set_cons_succ]
        refine wpAnyH_take (i := 11) (v := ?_) (by first | (simp only [List.getElem?_toArray, List.getElem?_cons_succ, List.getElem?_cons_zero] <;> rfl) | rfl) (by kernel_rfl) (by kernel_rfl) (by kernel_rfl) (by exact fun _ _ _ h => h) (Or.inl ⟨by rfl, ?_⟩) hHeld1 ?_
        rotate_left 1
        · intro w hSw
          try dsimp only at hSw
          (go_simp) <;> (with_reducible rfl)
        try simp only [Act.put, List.setIfInBounds_toArray, List.set_cons_zero, List.set_cons_succ]
        refine wpAnyH_take (i := 12) (v := ?_) (by first | (simp only [List.getElem?_toArray, List.getElem?_cons_succ, List.getElem?_cons_zero] <;> rfl) | rfl) (by kernel_rfl) (by kernel_rfl) (by kernel_rfl) (by exact fun _ _ _ h => h) (Or.inl ⟨by rfl, ?_⟩) hHeld1 ?_
        rotate_left 1
        · intro w hSw
          try dsimp only at hSw
          (go_simp) <;> (with_reducible rfl)
        try simp only [Act.put, List.setIfInBounds_toArray, List.set_cons_zero, List.set_cons_succ]
        refine wpAnyH_done (by kernel_rfl) ?_ _
        have HXy := Lib.hid (hHeld1).2.out.1
        have HWy := Lib.hid (HWx.out.trans ((hHeld1).2.out.2.mono HWx.out.size))
        clear hHeld1 wk wO s1 s2 s3 hcut HXx HWx
        obtain ⟨V, hV⟩ : ∃ V : ByteArray, V = ((⟨t.toArray⟩ : ByteArray) ++ (((⟨P.toArray⟩ : ByteArray) ++ ⟨#[58, 32]⟩) ++ ⟨T.toArray⟩)) := ⟨_, rfl⟩
        rw [← hV]
        have HV := Lib.hid (show V.data.toList = t ++ (P ++ [58, 32] ++ T) by rw [hV]; simp)
        have hVs : V.size ≤ 30072 := by
          rw [Lib.size_eq, HV.out]
          simp
          omega
        clear hV
        have c0 := HXy.out.cell 0 rfl
        have c1 := HXy.out.cell 1 rfl
        have c2 := HXy.out.cell 2 rfl
        have c3 := HXy.out.cell 3 rfl
        by_cases h5 : i.c = 5
        · have e5 : ((i.c : Int) == 5) = true := by rw [h5]; rfl
          obtain ⟨q, hq⟩ : ∃ q : Nat, q = k + 1 + i.k := ⟨_, rfl⟩
          have hk32 := Hi.out.2.2.2
          have eq1 : (k : Int) + 1 + (i.k : Int) = (q : Int) := by omega
          have hql : (Lib.decDigits q).length ≤ 20 := dec_len20' (by omega)
          have Hpq := Lib.hid (fun W => refPrinted_any q (by omega) W)
          have HG := Lib.hid (show goesB i k = [32, 45, 62, 32] ++ Lib.decDigits q by unfold goesB; rw [if_pos h5, hq])
          clear h5 hq
          go_wp2_with fail
          refine (Hpq.out _).mono ?_
          rintro e w7 ⟨rfl, hb7⟩
          have HW7 := Lib.hid (HWy.out.trans (hb7.mono HWy.out.size))
          clear hb7 c0 c1 c2 c3
          go_wp2_with fail
          go_roundw
          case rel => exact ⟨k + 1, listTo X (k + 1), by omega, by go_num, str_eq (by rw [← HLe.out _ HG.out, ← Ht.out]; simp [HV.out]), Hnx.out, rfl, HW7.out⟩
          case measure => simp [intOf]; omega
        · have e5 : ((i.c : Int) == 5) = false := by rw [beq_eq_false_iff_ne]; omega
          obtain ⟨r, hr⟩ : ∃ r, r = i.c % 8 := ⟨_, rfl⟩
          have er8 : (i.c : Int) % 8 = (r : Int) := by omega
          have Hkn := Lib.hid (fun W => known_any i.c W Hi.out.1)
          by_cases h8 : r = 5 ∧ knownB i.c = true
          · obtain ⟨hr5, hkb⟩ := h8
            have er : ((r : Int) == 5) = true := by rw [hr5]; rfl
            have HG0 := Lib.hid (show goesB i k = [32, 45, 62, 32] ++ Lib.decDigits (k + 1 + i.t) ++ [44, 32] ++ Lib.decDigits (k + 1 + i.f) by unfold goesB; rw [if_neg h5, if_pos ⟨by omega, hkb⟩])
            rw [hkb] at Hkn
            obtain ⟨qt, hqt⟩ : ∃ q : Nat, q = k + 1 + i.t := ⟨_, rfl⟩
            obtain ⟨qf, hqf⟩ : ∃ q : Nat, q = k + 1 + i.f := ⟨_, rfl⟩
            have ht8 := Hi.out.2.1
            have hf8 := Hi.out.2.2.1
            rw [← hqt, ← hqf] at HG0
            have HpT := Lib.hid (fun W => refPrinted_any qt (by omega) W)
            have HpF := Lib.hid (fun W => refPrinted_any qf (by omega) W)
            have hlt2 : (Lib.decDigits qt).length ≤ 20 := dec_len20' (by omega)
            have hlf2 : (Lib.decDigits qf).length ≤ 20 := dec_len20' (by omega)
            have Hqt := Lib.hid hqt
            have Hqf := Lib.hid hqf
            clear hr5 hkb hr h5 hqt hqf
            go_wp2_with fail
            refine (Hkn.out _).mono ?_
            rintro e w7 ⟨rfl, rfl⟩
            go_wp2_with fail
            rename World => wy
            have u1 : ¬ 9223372036854775807 < 4 + (Lib.decDigits qt).length := by omega
            have u2 : ¬ 9223372036854775807 < 4 + (Lib.decDigits qt).length + 2 := by omega
            have u3 : ¬ 9223372036854775807 < 4 + (Lib.decDigits qt).length + 2 + (Lib.decDigits qf).length := by omega
            have u4 : ¬ 9223372036854775807 < V.size + (4 + (Lib.decDigits qt).length + 2 + (Lib.decDigits qf).length) := by omega
            have wk : IntKind.u64.wrap (k : Int) = (k : Int) := by rw [IntKind.wrap_u64]; omega
            have wk1 : IntKind.u64.wrap ((k : Int) + 1) = (k : Int) + 1 := by rw [IntKind.wrap_u64]; omega
            have wt : IntKind.u64.wrap (i.t : Int) = (i.t : Int) := by rw [IntKind.wrap_u64]; omega
            have wf : IntKind.u64.wrap (i.f : Int) = (i.f : Int) := by rw [IntKind.wrap_u64]; omega
            have wqt : IntKind.u64.wrap ((k : Int) + 1 + (i.t : Int)) = (qt : Int) := by rw [IntKind.wrap_u64]; have := Hqt.out; omega
            have wqf : IntKind.u64.wrap ((k : Int) + 1 + (i.f : Int)) = (qf : Int) := by rw [IntKind.wrap_u64]; have := Hqf.out; omega
            refine wp_region_held_drew (S := (fun w' => (w'.cell? ⟨g, 0, none⟩ = some (.int .u16 i.c) ∧ w'.cell? ⟨g, 1, none⟩ = some (.int .u8 i.t) ∧ w'.cell? ⟨g, 2, none⟩ = some (.int .u8 i.f) ∧ w'.cell? ⟨g, 3, none⟩ = some (.int .u32 i.k)) ∧ Hid (Bk w' g 38 i.cells ∧ Below wy.heap.size wy w'))) (by kernel_rfl) ?_ (fun hHeld0 => ?_)
            · exact insY HXy.out.drew (Below.refl _ _).drew
            refine wpAnyH_take (i := 0) (v := ?_) (by first | (simp only [List.getElem?_toArray, List.getElem?_cons_zero] <;> rfl) | rfl) (by kernel_rfl) (by kernel_rfl) (by kernel_rfl) (by exact fun _ _ _ h => h) (Or.inl ⟨by rfl, ?_⟩) hHeld0 ?_
            rotate_left 1
            · intro w hSw
              try dsimp only at hSw
              (go_simp) <;> (with_reducible rfl)
            try simp only [Act.put, List.setIfInBounds_toArray, List.set_cons_zero, List.set_cons_succ]
            refine wpAnyH_take (i := 1) (v := ?_) (by first | (simp only [List.getElem?_toArray, List.getElem?_cons_succ, List.getElem?_cons_zero] <;> rfl) | rfl) (by kernel_rfl) (by kernel_rfl) (by kernel_rfl) (by exact fun _ _ _ h => h) (Or.inl ⟨by rfl, ?_⟩) hHeld0 ?_
            rotate_left 1
            · intro w hSw
              try dsimp only at hSw
              (go_simp) <;> (with_reducible rfl)
            try simp only [Act.put, List.setIfInBounds_toArray, List.set_cons_zero, List.set_cons_succ]
            refine wpAnyH_take (i := 2) (v := ?_) (by first | (simp only [List.getElem?_toArray, List.getElem?_cons_succ, List.getElem?_cons_zero] <;> rfl) | rfl) (by kernel_rfl) (by kernel_rfl) (by kernel_rfl) (by exact fun _ _ _ h => h) (Or.inl ⟨by rfl, ?_⟩) hHeld0 ?_
            rotate_left 1
            · intro w hSw
              try dsimp only at hSw
              (go_simp) <;> (with_reducible rfl)
            try simp only [Act.put, List.setIfInBounds_toArray, List.set_cons_zero, List.set_cons_succ]
            refine wpAnyH_take (i := 3) (v := ?_) (by first | (simp only [List.getElem?_toArray, List.getElem?_cons_succ, List.getElem?_cons_zero] <;> rfl) | rfl) (by kernel_rfl) (by kernel_rfl) (by kernel_rfl) (by exact fun _ _ _ h => h) (Or.inl ⟨by rfl, ?_⟩) hHeld0 ?_
            rotate_left 1
            · intro w hSw
              try dsimp only at hSw
              (go_simp) <;> (with_reducible rfl)
            try simp only [Act.put, List.setIfInBounds_toArray, List.set_cons_zero, List.set_cons_succ]
            refine wpAnyH_take (i := 4) (v := ?_) (by first | (simp only [List.getElem?_toArray, List.getElem?_cons_succ, List.getElem?_cons_zero] <;> rfl) | rfl) (by kernel_rfl) (by kernel_rfl) (by kernel_rfl) (by exact fun _ _ _ h => h) (Or.inl ⟨by rfl, ?_⟩) hHeld0 ?_
            rotate_left 1
            · intro w hSw
              try dsimp only at hSw
              (go_simp) <;> (with_reducible rfl)
            try simp only [Act.put, List.setIfInBounds_toArray, List.set_cons_zero, List.set_cons_succ]
            refine wpAnyH_take (i := 5) (v := ?_) (by first | (simp only [List.getElem?_toArray, List.getElem?_cons_succ, List.getElem?_cons_zero] <;> rfl) | rfl) (by kernel_rfl) (by kernel_rfl) (by kernel_rfl) (by exact fun _ _ _ h => h) (Or.inl ⟨by rfl, ?_⟩) hHeld0 ?_
            rotate_left 1
            · intro w hSw
              try dsimp only at hSw
              (go_simp) <;> (with_reducible rfl)
            try simp only [Act.put, List.setIfInBounds_toArray, List.set_cons_zero, List.set_cons_succ]
            refine wpAnyH_take (i := 6) (v := ?_) (by first | (simp only [List.getElem?_toArray, List.getElem?_cons_succ, List.getElem?_cons_zero] <;> rfl) | rfl) (by kernel_rfl) (by kernel_rfl) (by kernel_rfl) (by exact fun _ _ _ h => h) (Or.inl ⟨by rfl, ?_⟩) hHeld0 ?_
            rotate_left 1
            · intro w hSw
              try dsimp only at hSw
              (go_simp) <;> (with_reducible rfl)
            try simp only [Act.put, List.setIfInBounds_toArray, List.set_cons_zero, List.set_cons_succ]
            refine wpAnyH_take (i := 7) (v := ?_) (by first | (simp only [List.getElem?_toArray, List.getElem?_cons_succ, List.getElem?_cons_zero] <;> rfl) | rfl) (by kernel_rfl) (by kernel_rfl) (by kernel_rfl) (by exact fun _ _ _ h => h) (Or.inl ⟨by rfl, ?_⟩) hHeld0 ?_
            rotate_left 1
            · intro w hSw
              try dsimp only at hSw
              (go_simp) <;> (with_reducible rfl)
            try simp only [Act.put, List.setIfInBounds_toArray, List.set_cons_zero, List.set_cons_succ]
            refine wpAnyH_take (i := 11) (v := ?_) (by first | (simp only [List.getElem?_toArray, List.getElem?_cons_succ, List.getElem?_cons_zero] <;> rfl) | rfl) (by kernel_rfl) (by kernel_rfl) (by kernel_rfl) (by exact fun _ _ _ h => h) (Or.inl ⟨by rfl, ?_⟩) hHeld0 ?_
            rotate_left 1
            · intro w hSw
              try dsimp only at hSw
              (go_simp) <;> (with_reducible rfl)
            try simp only [Act.put, List.setIfInBounds_toArray, List.set_cons_zero, List.set_cons_succ]
            refine wpAnyH_take (i := 12) (v := ?_) (by first | (simp only [List.getElem?_toArray, List.getElem?_cons_succ, List.getElem?_cons_zero] <;> rfl) | rfl) (by kernel_rfl) (by kernel_rfl) (by kernel_rfl) (by exact fun _ _ _ h => h) (Or.inl ⟨by rfl, ?_⟩) hHeld0 ?_
            rotate_left 1
            · intro w hSw
              try dsimp only at hSw
              (go_simp) <;> (with_reducible rfl)
            try simp only [Act.put, List.setIfInBounds_toArray, List.set_cons_zero, List.set_cons_succ]
            refine wpAnyH_take (i := 13) (v := ?_) (by first | (simp only [List.getElem?_toArray, List.getElem?_cons_succ, List.getElem?_cons_zero] <;> rfl) | rfl) (by kernel_rfl) (by kernel_rfl) (by kernel_rfl) (by exact fun _ _ _ h => h) (Or.inl ⟨by rfl, ?_⟩) hHeld0 ?_
            rotate_left 1
            · intro w hSw
              try dsimp only at hSw
              (go_simp) <;> (with_reducible rfl)
            try simp only [Act.put, List.setIfInBounds_toArray, List.set_cons_zero, List.set_cons_succ]
            refine wpAnyH_take (i := 14) (v := ?_) (by first | (simp only [List.getElem?_toArray, List.getElem?_cons_succ, List.getElem?_cons_zero] <;> rfl) | rfl) (by kernel_rfl) (by kernel_rfl) (by kernel_rfl) (by exact fun _ _ _ h => h) (Or.inl ⟨by rfl, ?_⟩) hHeld0 ?_
            rotate_left 1
            · intro w hSw
              try dsimp only at hSw
              (go_simp) <;> (with_reducible rfl)
            try simp only [Act.put, List.setIfInBounds_toArray, List.set_cons_zero, List.set_cons_succ]
            refine wpAnyH_take (i := 15) (v := ?_) (by first | (simp only [List.getElem?_toArray, List.getElem?_cons_succ, List.getElem?_cons_zero] <;> rfl) | rfl) (by kernel_rfl) (by kernel_rfl) (by kernel_rfl) (by exact fun _ _ _ h => h) (Or.inl ⟨by rfl, ?_⟩) hHeld0 ?_
            rotate_left 1
            · intro w hSw
              try dsimp only at hSw
              (go_simp) <;> (with_reducible rfl)
            try simp only [Act.put, List.setIfInBounds_toArray, List.set_cons_zero, List.set_cons_succ]
            refine wpAnyH_take (i := 16) (v := ?_) (by first | (simp only [List.getElem?_toArray, List.getElem?_cons_succ, List.getElem?_cons_zero] <;> rfl) | rfl) (by kernel_rfl) (by kernel_rfl) (by kernel_rfl) (by exact fun _ _ _ h => h) (Or.inl ⟨by rfl, ?_⟩) hHeld0 ?_
            rotate_left 1
            · intro w hSw
              try dsimp only at hSw
              (go_simp) <;> (with_reducible rfl)
            try simp only [Act.put, List.setIfInBounds_toArray, List.set_cons_zero, List.set_cons_succ]
            refine wpAnyH_take (i := 17) (v := ?_) (by first | (simp only [List.getElem?_toArray, List.getElem?_cons_succ, List.getElem?_cons_zero] <;> rfl) | rfl) (by kernel_rfl) (by kernel_rfl) (by kernel_rfl) (by exact fun _ _ _ h => h) (Or.inl ⟨by rfl, ?_⟩) hHeld0 ?_
            rotate_left 1
            · intro w hSw
              try dsimp only at hSw
              (go_simp) <;> (with_reducible rfl)
            try simp only [Act.put, List.setIfInBounds_toArray, List.set_cons_zero, List.set_cons_succ]
            refine wpAnyH_ready (rs := [8]) (by kernel_rfl) (by simp) ?_
            refine AllReadyH.cons (by first | (simp only [List.getElem?_toArray, List.getElem?_cons_succ, List.getElem?_cons_zero] <;> rfl) | rfl) (fun K hK => ?_) AllReadyH.nil
            go_simp
            refine (HpT.out _).mono ?_; rintro e wa ⟨rfl, hba⟩
            go_wp2_with fail
            refine hK.out _ _ ?_ (fun hHeld1 => ?_)
            · (try dsimp only)
              exact insY (hHeld0.2.out.1.kept hba) (hHeld0.2.out.2.trans (hba.mono hHeld0.2.out.2.size))
            clear hK K hHeld0
            try simp only [Act.put, List.setIfInBounds_toArray, List.set_cons_zero, List.set_cons_succ]
            refine wpAnyH_take (i := 9) (v := ?_) (by first | (simp only [List.getElem?_toArray, List.getElem?_cons_succ, List.getElem?_cons_zero] <;> rfl) | rfl) (by kernel_rfl) (by kernel_rfl) (by kernel_rfl) (by exact fun _ _ _ h => h) (Or.inl ⟨by rfl, ?_⟩) hHeld1 ?_
            rotate_left 1
            · intro w hSw
              try dsimp only at hSw
              (go_simp) <;> (with_reducible rfl)
            try simp only [Act.put, List.setIfInBounds_toArray, List.set_cons_zero, List.set_cons_succ]
            refine wpAnyH_take (i := 10) (v := ?_) (by first | (simp only [List.getElem?_toArray, List.getElem?_cons_succ, List.getElem?_cons_zero] <;> rfl) | rfl) (by kernel_rfl) (by kernel_rfl) (by kernel_rfl) (by exact fun _ _ _ h => h) (Or.inl ⟨by rfl, ?_⟩) hHeld1 ?_
            rotate_left 1
            · intro w hSw
              try dsimp only at hSw
              (go_simp) <;> (with_reducible rfl)
            try simp only [Act.put, List.setIfInBounds_toArray, List.set_cons_zero, List.set_cons_succ]
            refine wpAnyH_ready (rs := [18]) (by kernel_rfl) (by simp) ?_
            refine AllReadyH.cons (by first | (simp only [List.getElem?_toArray, List.getElem?_cons_succ, List.getElem?_cons_zero] <;> rfl) | rfl) (fun K hK => ?_) AllReadyH.nil
            go_simp
            refine (HpF.out _).mono ?_; rintro e wb ⟨rfl, hbb⟩
            go_wp2_with fail
            refine hK.out _ _ ?_ (fun hHeld2 => ?_)
            · (try dsimp only)
              exact insY (hHeld1.2.out.1.kept hbb) (hHeld1.2.out.2.trans (hbb.mono hHeld1.2.out.2.size))
            clear hK K hHeld1
            try simp only [Act.put, List.setIfInBounds_toArray, List.set_cons_zero, List.set_cons_succ]
            refine wpAnyH_take (i := 19) (v := ?_) (by first | (simp only [List.getElem?_toArray, List.getElem?_cons_succ, List.getElem?_cons_zero] <;> rfl) | rfl) (by kernel_rfl) (by kernel_rfl) (by kernel_rfl) (by exact fun _ _ _ h => h) (Or.inl ⟨by rfl, ?_⟩) hHeld2 ?_
            rotate_left 1
            · intro w hSw
              try dsimp only at hSw
              (go_simp) <;> (with_reducible rfl)
            try simp only [Act.put, List.setIfInBounds_toArray, List.set_cons_zero, List.set_cons_succ]
            refine wpAnyH_take (i := 20) (v := ?_) (by first | (simp only [List.getElem?_toArray, List.getElem?_cons_succ, List.getElem?_cons_zero] <;> rfl) | rfl) (by kernel_rfl) (by kernel_rfl) (by kernel_rfl) (by exact fun _ _ _ h => h) (Or.inl ⟨by rfl, ?_⟩) hHeld2 ?_
            rotate_left 1
            · intro w hSw
              try dsimp only at hSw
              (go_simp) <;> (with_reducible rfl)
            try simp only [Act.put, List.setIfInBounds_toArray, List.set_cons_zero, List.set_cons_succ]
            refine wpAnyH_take (i := 21) (v := ?_) (by first | (simp only [List.getElem?_toArray, List.getElem?_cons_succ, List.getElem?_cons_zero] <;> rfl) | rfl) (by kernel_rfl) (by kernel_rfl) (by kernel_rfl) (by exact fun _ _ _ h => h) (Or.inl ⟨by rfl, ?_⟩) hHeld2 ?_
            rotate_left 1
            · intro w hSw
              try dsimp only at hSw
              (go_simp) <;> (with_reducible rfl)
            try simp only [Act.put, List.setIfInBounds_toArray, List.set_cons_zero, List.set_cons_succ]
            refine wpAnyH_done (by kernel_rfl) ?_ _
            have HW8 := Lib.hid (HWy.out.trans ((hHeld2).2.out.2.mono HWy.out.size))
            clear hHeld2 u1 u2 u3 u4 wk wk1 wt wf wqt wqf c0 c1 c2 c3
            go_wp2_with fail
            go_roundw
            case rel => exact ⟨k + 1, listTo X (k + 1), by omega, by go_num, str_eq (by rw [← HLe.out _ HG0.out, ← Ht.out]; simp [HV.out]), Hnx.out, rfl, HW8.out⟩
            case measure => simp [intOf]; omega
          · have HG := Lib.hid (show goesB i k = [] by unfold goesB; rw [if_neg h5, if_neg (fun e => h8 ⟨by omega, e.2⟩)])
            by_cases hr5 : r = 5
            · have er : ((r : Int) == 5) = true := by rw [hr5]; rfl
              have hkb : knownB i.c = false := by
                cases hh : knownB i.c with
                | false => rfl
                | true => exact absurd ⟨hr5, hh⟩ h8
              rw [hkb] at Hkn
              clear hr5 hkb hr h5 h8
              go_wp2_with fail
              refine (Hkn.out _).mono ?_
              rintro e w7 ⟨rfl, rfl⟩
              clear c0 c1 c2 c3
              go_wp2_with fail
              go_roundw
              case rel => exact ⟨k + 1, listTo X (k + 1), by omega, by go_num, str_eq (by rw [← HLe.out _ HG.out, ← Ht.out]; simp [HV.out]), Hnx.out, rfl, HWy.out⟩
              case measure => simp [intOf]; omega
            · have er : ((r : Int) == 5) = false := by rw [beq_eq_false_iff_ne]; omega
              clear hr5 hr h5 h8
              go_wp2_with fail
              go_roundw
              case rel => exact ⟨k + 1, listTo X (k + 1), by omega, by go_num, str_eq (by rw [← HLe.out _ HG.out, ← Ht.out]; simp [HV.out]), Hnx.out, rfl, HWy.out⟩
              case measure => simp [intOf]; omega
      · obtain rfl : k = N := by omega
        have hls := listing_any X A4 c4 wr HXok.out (by have := HXl.out; omega) (by rw [HXl.out]; exact HX.out.below HW.out) (HE.out.below (HB4.out.trans (HW.out.mono HB4.out.size)))
        rw [HXl.out, ← Ht.out] at hls
        go_wp2_with fail
        refine hls.mono ?_
        rintro e w7 ⟨rfl, hb7⟩
        have HB7 := Lib.hid ((HB4.out.trans (HW.out.mono HB4.out.size)).trans (hb7.mono (HB4.out.trans (HW.out.mono HB4.out.size)).size))
        clear hb7 hls
        go_wp2_with fail
        go_ret
        exact ⟨rfl, HB7.out⟩
theorem walk_asmLists (lA : Option Addr) (n lc : Nat) (sA : Option Addr) (sn sc : Nat) (w : World)
    (h0 : ∃ l : List Ins, l.length = n ∧ (∀ i ∈ l, i.ok) ∧ Rd w 4 n lA (l.flatMap Ins.cells) ∧ (lA = none → lc = 0))
    (h1 : ∃ l : List Sml, l.length = sn ∧ (∀ i ∈ l, i.ok) ∧ Rd w 9 sn sA (l.flatMap Sml.cells) ∧ sn ≤ maxLen) (hE : Env w) :
    Calls Tryd.prog 7 #[.slice lA n lc, .slice sA sn sc] w (Yes w) := by
  obtain ⟨l, hl, hok, hr, hnil⟩ := h0
  obtain ⟨S, hS, hSok, hSr, hm⟩ := h1
  exact walk_lists l S n sn lA sA lc sc w hl hok hr hnil hS hSok hSr hm hE
end Go.Proofs.YthiohihbcfahhaaDoor
