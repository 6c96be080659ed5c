/- The law of bytes: the walk. -/
import Derived.Test.YtknhkcjfnlbnnaaHeld
import Derived.Deep.RegionHeld
namespace Go.Proofs.Ytknhkcjfnlbnnaa
open Go.RowKit
set_option maxRecDepth 100000 in
set_option maxHeartbeats 2000000 in
theorem walk_insnBytes (l : List Ins) (n : Nat) (A : Option Addr) (ca : Nat) (nb : List Nat) (m : Nat) (B : Option Addr) (cb more : Nat) (w : World)
    (hl : l.length = n) (hok : ∀ i ∈ l, i.ok) (ha : Rd w 4 n A (l.flatMap Ins.cells)) (hlb : nb.length = m) (hokb : ∀ x ∈ nb, x < 256) (hb : Rd w 1 m B (u8s nb)) (hcb : m ≤ cb) (hmore : more < 256)
    (hn200 : n ≤ 200) (hm400 : m ≤ 400) :
    Calls Try.prog 4 #[.slice A n ca, .slice B m cb, .int .u8 more] w (Yes w) := by
  obtain ⟨i0, hi, hz0, hz1, hz2⟩ := info_parts infoU8
  have Hl := Lib.hid hl
  have Hok := Lib.hid hok
  have Ha := Lib.hid ha
  have Hlb := Lib.hid hlb
  have Hokb := Lib.hid hokb
  have Hbb := Lib.hid hb
  clear hl hok ha hlb hokb hb
  go_enter Try.func4, Try.ntmps4
  go_wp2_with fail
  refine (awake_any _).mono ?_
  rintro e w1 ⟨rfl, hb1⟩
  have Hb1 := Lib.hid hb1
  clear hb1
  go_wp2_with fail
  go_loopw [7, 30] (fun v i wr => ∃ k : Nat, k ≤ n ∧ i = .int .i64 k ∧ Hid (wr.ownsRow w.heap.size 5 1 v (k * 8) (u8s (enc8 (l.take k)))) ∧ Hid (Below w.heap.size w wr)) (fun _ i _ => n - (intOf i).toNat)
  case atStart => exact ⟨0, by omega, rfl, by rw [List.take_zero]; exact Lib.hid (by simpa [enc8, u8s] using World.ownsRow_nil w1 w.heap.size 5 1), Hb1⟩
  case round =>
    obtain ⟨k, hk, rfl, Hown, Hb⟩ := hrel
    by_cases hlt : k < n
    · obtain ⟨x, hx⟩ : ∃ x, l[k]? = some x := ⟨_, List.getElem?_eq_getElem (by have := Hl.out; omega)⟩
      obtain ⟨b, o, hA, hbl, hcells⟩ := Ha.out.pos (by omega)
      obtain ⟨q0, q1, q2, q3⟩ := four_cells hcells hx
      have hkeep : ∀ j, wr.cell? ⟨b, j, none⟩ = w.cell? ⟨b, j, none⟩ := fun j => Hb.out.cell (p := ⟨b, j, none⟩) hbl
      rw [← hkeep] at q0 q1 q2 q3
      have hok := Hok.out x (List.mem_of_getElem? hx)
      obtain ⟨b0, b1, b4, b5, b6, b7, g0, g1, g4, g5, g6, g7, hc, hkk, hbs⟩ := x.split hok
      obtain ⟨h1, h2, h3, h4⟩ := hok
      obtain ⟨c, hcd⟩ : ∃ c, c = x.c := ⟨_, rfl⟩
      obtain ⟨t, htd⟩ : ∃ t, t = x.t := ⟨_, rfl⟩
      obtain ⟨f, hfd⟩ : ∃ f, f = x.f := ⟨_, rfl⟩
      obtain ⟨y, hyd⟩ : ∃ y, y = x.k := ⟨_, rfl⟩
      obtain ⟨s, hs⟩ : ∃ s, s = strOfNums [(b0 : Int), b1, t, f, b4, b5, b6, b7] := ⟨_, rfl⟩
      rw [← hcd] at q0 hc h1
      rw [← htd] at q1 hbs h2
      rw [← hfd] at q2 hbs h3
      rw [← hyd] at q3 hkk h4
      have Hnext := Lib.hid (show enc8 (l.take (k + 1)) = enc8 (l.take k) ++ [b0, b1, t, f, b4, b5, b6, b7] by rw [take_snoc' l k x hx, enc_snoc, hbs])
      have Hc := Lib.hid (And.intro hc hkk)
      have Hs := Lib.hid hs
      subst hA
      clear hkeep hcells hx hc hkk hbs hcd htd hfd hyd hs
      go_wp2_with fail
      refine (bytes_of c y b0 b1 t f b4 b5 b6 b7 _ g0 g1 h2 h3 g4 g5 g6 g7 Hc.out.1 Hc.out.2).mono ?_
      rintro e w3 ⟨rfl, hb3⟩
      have hown3 := own_below (Hown.out.alloc _) hb3
      have hb4 := (Hb.out.alloc Hb.out.size _).trans (hb3.mono (Nat.le_trans Hb.out.size (by simp)))
      have Hown3 := Lib.hid hown3
      have Hb4 := Lib.hid hb4
      have hh := held_start wr w3 33 34 c t f y b0 b1 b4 b5 b6 b7 s Hs.out hb3
      have Hh := Lib.hid hh
      clear hb3 hown3 hb4 hh
      clear q0 q1 q2 q3
      go_wp2_with fail
      obtain ⟨wx, hwx⟩ : ∃ wx, wx = w3.alloc (.cells #[.int .u8 b0, .int .u8 b1, .int .u8 t, .int .u8 f, .int .u8 b4, .int .u8 b5, .int .u8 b6, .int .u8 b7] 34) := ⟨_, rfl⟩
      rw [← hwx]
      rw [← hwx] at Hh
      have Hwx := Lib.hid hwx
      clear hwx
      refine wp_region_held_drew (S := (fun w' => ((wr.heap.size < w'.heap.size ∧ w3.heap.size < w'.heap.size) ∧ w'.cell? ⟨wr.heap.size, 0, none⟩ = some (.int .u16 c) ∧ w'.cell? ⟨wr.heap.size, 1, none⟩ = some (.int .u8 t) ∧ w'.cell? ⟨wr.heap.size, 2, none⟩ = some (.int .u8 f) ∧ w'.cell? ⟨wr.heap.size, 3, none⟩ = some (.int .u32 y) ∧ w'.cell? ⟨w3.heap.size, 0, none⟩ = some (.int .u8 b0) ∧ w'.cell? ⟨w3.heap.size, 1, none⟩ = some (.int .u8 b1) ∧ w'.cell? ⟨w3.heap.size, 2, none⟩ = some (.int .u8 t) ∧ w'.cell? ⟨w3.heap.size, 3, none⟩ = some (.int .u8 f) ∧ w'.cell? ⟨w3.heap.size, 4, none⟩ = some (.int .u8 b4) ∧ w'.cell? ⟨w3.heap.size, 5, none⟩ = some (.int .u8 b5) ∧ w'.cell? ⟨w3.heap.size, 6, none⟩ = some (.int .u8 b6) ∧ w'.cell? ⟨w3.heap.size, 7, none⟩ = some (.int .u8 b7) ∧ (convert 30 9 (.slice (some ⟨w3.heap.size, 0, none⟩) 8 8)).run Try.prog w' = .ok (.string s) w') ∧ Hid (Below wx.heap.size wx w'))) (by kernel_rfl) ?_ (fun hHeld0 => ?_)
      · exact Held.first Hs.out Hh.out
      refine wpAnyH_take (i := 0) (v := ?_) (by first | (simp only [List.getElem?_toArray, List.getElem?_cons_succ, List.getElem?_cons_zero] <;> rfl) | rfl) (by kernel_rfl) (by kernel_rfl) (by kernel_rfl) (by exact fun _ _ _ h => h) (Or.inl ⟨by rfl, ?_⟩) hHeld0 ?_
      rotate_left 1
      · intro w hSw
        try dsimp only at hSw
        (go_simp) <;> (with_reducible rfl)
      try simp only [Act.put, List.setIfInBounds_toArray, List.set_cons_zero, List.set_cons_succ]
      refine wpAnyH_take (i := 1) (v := ?_) (by first | (simp only [List.getElem?_toArray, List.getElem?_cons_succ, List.getElem?_cons_zero] <;> rfl) | rfl) (by kernel_rfl) (by kernel_rfl) (by kernel_rfl) (by exact fun _ _ _ h => h) (Or.inl ⟨by rfl, ?_⟩) hHeld0 ?_
      rotate_left 1
      · intro w hSw
        try dsimp only at hSw
        (go_simp) <;> (with_reducible rfl)
      try simp only [Act.put, List.setIfInBounds_toArray, List.set_cons_zero, List.set_cons_succ]
      refine wpAnyH_take (i := 2) (v := ?_) (by first | (simp only [List.getElem?_toArray, List.getElem?_cons_succ, List.getElem?_cons_zero] <;> rfl) | rfl) (by kernel_rfl) (by kernel_rfl) (by kernel_rfl) (by exact fun _ _ _ h => h) (Or.inl ⟨by rfl, ?_⟩) hHeld0 ?_
      rotate_left 1
      · intro w hSw
        try dsimp only at hSw
        (go_simp) <;> (with_reducible rfl)
      try simp only [Act.put, List.setIfInBounds_toArray, List.set_cons_zero, List.set_cons_succ]
      refine wpAnyH_ready (rs := [3]) (by kernel_rfl) (by simp) ?_
      refine AllReadyH.cons (by first | (simp only [List.getElem?_toArray, List.getElem?_cons_succ, List.getElem?_cons_zero] <;> rfl) | rfl) (fun K hK => ?_) AllReadyH.nil
      go_simp
      refine (lawRef_of c t f y _ h1 h2 h3 h4).mono ?_; rintro e wa ⟨rfl, hba⟩
      go_wp2_with fail
      refine hK.out _ _ ?_ (fun hHeld1 => ?_)
      · (try dsimp only)
        exact Held.step Hs.out hba hHeld0
      clear hK K hHeld0
      try simp only [Act.put, List.setIfInBounds_toArray, List.set_cons_zero, List.set_cons_succ]
      refine wpAnyH_ready (rs := [4]) (by kernel_rfl) (by simp) ?_
      refine AllReadyH.cons (by first | (simp only [List.getElem?_toArray, List.getElem?_cons_succ, List.getElem?_cons_zero] <;> rfl) | rfl) (fun K hK => ?_) AllReadyH.nil
      go_simp
      refine (refText_of c y b0 b1 t f b4 b5 b6 b7 s _ Hs.out g0 g1 h2 h3 g4 g5 g6 g7 Hc.out.1 Hc.out.2).mono ?_; rintro e wb ⟨rfl, hcv, hbb⟩
      go_wp2_with fail
      refine hK.out _ _ ?_ (fun hHeld2 => ?_)
      · (try dsimp only)
        exact Held.step Hs.out hbb hHeld1
      clear hK K hHeld1
      try simp only [Act.put, List.setIfInBounds_toArray, List.set_cons_zero, List.set_cons_succ]
      refine wpAnyH_ready (rs := [5]) (by kernel_rfl) (by simp) ?_
      refine AllReadyH.cons (by first | (simp only [List.getElem?_toArray, List.getElem?_cons_succ, List.getElem?_cons_zero] <;> rfl) | rfl) (fun K hK => ?_) AllReadyH.nil
      go_simp
      refine hK.out _ _ ?_ (fun hHeld3 => ?_)
      · (try dsimp only)
        exact hHeld2
      clear hK K hHeld2
      try simp only [Act.put, List.setIfInBounds_toArray, List.set_cons_zero, List.set_cons_succ]
      refine wpAnyH_take (i := 6) (v := ?_) (by first | (simp only [List.getElem?_toArray, List.getElem?_cons_succ, List.getElem?_cons_zero] <;> rfl) | rfl) (by kernel_rfl) (by kernel_rfl) (by kernel_rfl) (by exact fun _ _ _ h => h) (Or.inl ⟨by rfl, ?_⟩) hHeld3 ?_
      rotate_left 1
      · intro w hSw
        try dsimp only at hSw
        (go_simp) <;> (with_reducible rfl)
      try simp only [Act.put, List.setIfInBounds_toArray, List.set_cons_zero, List.set_cons_succ]
      refine wpAnyH_take (i := 7) (v := ?_) (by first | (simp only [List.getElem?_toArray, List.getElem?_cons_succ, List.getElem?_cons_zero] <;> rfl) | rfl) (by kernel_rfl) (by kernel_rfl) (by kernel_rfl) (by exact fun _ _ _ h => h) (Or.inl ⟨by rfl, ?_⟩) hHeld3 ?_
      rotate_left 1
      · intro w hSw
        try dsimp only at hSw
        (go_simp) <;> (with_reducible rfl)
      try simp only [Act.put, List.setIfInBounds_toArray, List.set_cons_zero, List.set_cons_succ]
      refine wpAnyH_take (i := 8) (v := ?_) (by first | (simp only [List.getElem?_toArray, List.getElem?_cons_succ, List.getElem?_cons_zero] <;> rfl) | rfl) (by kernel_rfl) (by kernel_rfl) (by kernel_rfl) (by exact fun _ _ _ h => h) (Or.inl ⟨by rfl, ?_⟩) hHeld3 ?_
      rotate_left 1
      · intro w hSw
        try dsimp only at hSw
        (go_simp) <;> (with_reducible rfl)
      try simp only [Act.put, List.setIfInBounds_toArray, List.set_cons_zero, List.set_cons_succ]
      refine wpAnyH_take (i := 10) (v := ?_) (by first | (simp only [List.getElem?_toArray, List.getElem?_cons_succ, List.getElem?_cons_zero] <;> rfl) | rfl) (by kernel_rfl) (by kernel_rfl) (by kernel_rfl) (by exact fun _ _ _ h => h) (Or.inl ⟨by rfl, ?_⟩) hHeld3 ?_
      rotate_left 1
      · intro w hSw
        try dsimp only at hSw
        (go_simp) <;> (with_reducible rfl)
      try simp only [Act.put, List.setIfInBounds_toArray, List.set_cons_zero, List.set_cons_succ]
      refine wpAnyH_ready (rs := [9]) (by kernel_rfl) (by simp) ?_
      refine AllReadyH.cons (by first | (simp only [List.getElem?_toArray, List.getElem?_cons_succ, List.getElem?_cons_zero] <;> rfl) | rfl) (fun K hK => ?_) AllReadyH.nil
      go_simp
      refine (of_of c y b0 b1 t f b4 b5 b6 b7 _ g0 g1 h2 h3 g4 g5 g6 g7 Hc.out.1 Hc.out.2).mono ?_; rintro e wd ⟨rfl, hbd⟩
      go_wp2_with fail
      refine hK.out _ _ ?_ (fun hHeld4 => ?_)
      · (try dsimp only)
        exact Held.step Hs.out hbd hHeld3
      clear hK K hHeld3
      try simp only [Act.put, List.setIfInBounds_toArray, List.set_cons_zero, List.set_cons_succ]
      refine wpAnyH_take (i := 11) (v := ?_) (by first | (simp only [List.getElem?_toArray, List.getElem?_cons_succ, List.getElem?_cons_zero] <;> rfl) | rfl) (by kernel_rfl) (by kernel_rfl) (by kernel_rfl) (by exact fun _ _ _ h => h) (Or.inl ⟨by rfl, ?_⟩) hHeld4 ?_
      rotate_left 1
      · intro w hSw
        try dsimp only at hSw
        (go_simp) <;> (with_reducible rfl)
      try simp only [Act.put, List.setIfInBounds_toArray, List.set_cons_zero, List.set_cons_succ]
      refine wpAnyH_take (i := 12) (v := ?_) (by first | (simp only [List.getElem?_toArray, List.getElem?_cons_succ, List.getElem?_cons_zero] <;> rfl) | rfl) (by kernel_rfl) (by kernel_rfl) (by kernel_rfl) (by exact fun _ _ _ h => h) (Or.inl ⟨by rfl, ?_⟩) hHeld4 ?_
      rotate_left 1
      · intro w hSw
        try dsimp only at hSw
        (go_simp) <;> (with_reducible rfl)
      try simp only [Act.put, List.setIfInBounds_toArray, List.set_cons_zero, List.set_cons_succ]
      refine wpAnyH_done (by kernel_rfl) ?_ _
      have hS := hHeld4
      have hbx : Below w.heap.size w wx := by rw [Hwx.out]; exact Hb4.out.alloc Hb4.out.size _
      have hox : wx.ownsRow w.heap.size 5 1 u7 (k * 8) (u8s (enc8 (l.take k))) := by rw [Hwx.out]; exact Hown3.out.alloc _
      have HB := Lib.hid (hbx.trans (hS.2.out.mono hbx.size))
      have HO := Lib.hid (own_below hox hS.2.out)
      have HN := Lib.hid (Held.news hS.1)
      have hsz := HB.out.size
      clear hbx hox hS
      go_wp2_with (at_builtin; refine wpList_append_own _ rfl (.tmp 49) (.tmp 50) 30 rfl w.heap.size 5 i0 (.int .u8 0) 1 1 Try.underlying30 hi hz0 hz1 hz2 rfl (by decide) _ (k * 8) (u8s (enc8 (l.take k))) rfl HO.out ⟨w3.heap.size, 0, none⟩ 8 8 (u8s [b0, b1, t, f, b4, b5, b6, b7]) rfl rfl HN.out (u8s_one _) (by unfold maxLen; omega) (by omega) hsz ?_; intro v' w4 hown' hgrow _)
      have Hown' := Lib.hid (show w4.ownsRow w.heap.size 5 1 v' ((k + 1) * 8) (u8s (enc8 (l.take (k + 1)))) by rw [Hnext.out, u8s_append, show (k + 1) * 8 = k * 8 + 8 by omega]; exact hown')
      have Hb' := Lib.hid (show Below w.heap.size w w4 from HB.out.grown hgrow hsz (fun k hk => (Hown.out.lt k hk).1))
      clear hown' hgrow
      go_wp2
      go_roundw
      case rel => exact ⟨k + 1, by omega, by go_num, Hown', Hb'⟩
      case measure => simp [intOf]; omega
    · obtain rfl : k = n := by omega
      have how : wr.ownsRow w.heap.size 5 1 u7 (k * 8) (u8s (enc8 l)) := by
        have := Hown.out
        rwa [List.take_of_length_le (by have := Hl.out; omega)] at this
      obtain ⟨N, hN⟩ : ∃ N, N = k * 8 := ⟨_, rfl⟩
      have hN1 : N ≤ 1600 := by omega
      rw [← hN] at how
      have HN := Lib.hid hN
      clear hN
      obtain ⟨Aw, cw, rfl, hcw, hrw⟩ := own_form how
      have Hrw := Lib.hid hrw
      have Har := Lib.hid (Rd.below Ha.out Hb.out)
      have Hbr := Lib.hid (Rd.below Hbb.out Hb.out)
      have Hbel := Lib.hid Hb.out
      clear Hown Hb how hrw
      go_wp2_with fail
      refine (encode_any l k A ca wr Hl.out Hok.out Har.out (by omega)).mono ?_
      rintro e w2 ⟨v, rfl, hown2, hb2⟩
      rw [Hl.out, ← HN.out] at hown2
      obtain ⟨Ae, ce, rfl, hce, hre⟩ := own_form hown2
      have Hre := Lib.hid hre
      have Hrw2 := Lib.hid (Hrw.out.below hb2)
      have Har2 := Lib.hid (Har.out.below hb2)
      have Hbr2 := Lib.hid (Hbr.out.below hb2)
      have Hb2 := Lib.hid (Hbel.out.trans (hb2.mono Hbel.out.size))
      clear hown2 hb2 hre Hrw Har Hbr Hbel
      go_wp2_with fail
      refine (decode_any (enc8 l) k N Ae ce w2 (by rw [enc_len, Hl.out]; exact HN.out.symm) (enc_lt l Hok.out) Hre.out (by omega) HN.out hce).mono ?_
      rintro e w3 ⟨v, rfl, hown3, hb3⟩
      have hback : dec (enc8 l) k = l := by have h := dec_enc l Hok.out; rwa [Hl.out] at h
      rw [hback] at hown3
      obtain ⟨Ab, cbk, rfl, hcbk, hrb⟩ := own_form hown3
      have Hback := Lib.hid hrb
      have Hre3 := Lib.hid (Hre.out.below hb3)
      have Hrw3 := Lib.hid (Hrw2.out.below hb3)
      have Har3 := Lib.hid (Har2.out.below hb3)
      have Hbr3 := Lib.hid (Hbr2.out.below hb3)
      have Hb3 := Lib.hid (Hb2.out.trans (hb3.mono Hb2.out.size))
      clear hown3 hb3 hrb hback Hre Hrw2 Har2 Hbr2 Hb2
      by_cases hm8 : m % 8 = 0
      · have hm8b : ((m : Int) % 8 == 0) = true := by simp; omega
        have hm8' : m = m / 8 * 8 := by omega
        obtain ⟨p, hp⟩ : ∃ p, p = m / 8 := ⟨_, rfl⟩
        rw [← hp] at hm8'
        have hp1 : p ≤ 50 := by omega
        have Hm8 := Lib.hid hm8'
        clear hp hm8' hm8
        go_wp2_with fail
        refine (decode_any nb p m B cb w3 Hlb.out Hokb.out Hbr3.out (by omega) Hm8.out hcb).mono ?_
        rintro e w4 ⟨v, rfl, hown4, hb4⟩
        obtain ⟨Ag, cg, rfl, hcg, hrg⟩ := own_form hown4
        have Hg := Lib.hid hrg
        have Hback4 := Lib.hid (Hback.out.below hb4)
        have Hre4 := Lib.hid (Hre3.out.below hb4)
        have Hrw4 := Lib.hid (Hrw3.out.below hb4)
        have Har4 := Lib.hid (Har3.out.below hb4)
        have Hbr4 := Lib.hid (Hbr3.out.below hb4)
        have Hb4 := Lib.hid (Hb3.out.trans (hb4.mono Hb3.out.size))
        clear hown4 hb4 hrg Hback Hre3 Hrw3 Har3 Hbr3 Hb3
        go_wp2_with fail
        obtain ⟨st, hst⟩ : ∃ s, s = strOfNums ((enc8 l).map fun (x : Nat) => (x : Int)) := ⟨_, rfl⟩
        obtain ⟨sb, hsb⟩ : ∃ s, s = strOfNums (nb.map fun (x : Nat) => (x : Int)) := ⟨_, rfl⟩
        have HS := Lib.hid (show ∀ w', Below w4.heap.size w4 w' → (fun w' => ((convert 30 9 (.slice Ae N ce)).run Try.prog w' = .ok (.string st) w' ∧ (convert 30 9 (.slice Aw N cw)).run Try.prog w' = .ok (.string st) w' ∧ (convert 30 9 (.slice B m cb)).run Try.prog w' = .ok (.string sb) w') ∧ Hid (Below w4.heap.size w4 w')) w' from fun w' hw => ⟨⟨by rw [hst]; exact text_of (Hre4.out.below hw), by rw [hst]; exact text_of (Hrw4.out.below hw), by rw [hsb]; exact text_of (Hbr4.out.below hw)⟩, hw⟩)
        have Hsb := Lib.hid hsb
        clear hst hsb
        have htm : Int.tmod (m : Int) 8 = 0 := by rw [Int.tmod_eq_emod_of_nonneg (by omega)]; simpa using hm8b
        refine wp_region_held_drew (S := (fun w' => ((convert 30 9 (.slice Ae N ce)).run Try.prog w' = .ok (.string st) w' ∧ (convert 30 9 (.slice Aw N cw)).run Try.prog w' = .ok (.string st) w' ∧ (convert 30 9 (.slice B m cb)).run Try.prog w' = .ok (.string sb) w') ∧ Hid (Below w4.heap.size w4 w'))) (by kernel_rfl) ?_ (fun hHeld0 => ?_)
        · exact HS.out _ (Below.refl _ _).drew
        refine wpAnyH_take (i := 0) (v := ?_) (by first | (simp only [List.getElem?_toArray, List.getElem?_cons_succ, List.getElem?_cons_zero] <;> rfl) | rfl) (by kernel_rfl) (by kernel_rfl) (by kernel_rfl) (by exact fun _ _ _ h => h) (Or.inl ⟨by rfl, ?_⟩) hHeld0 ?_
        rotate_left 1
        · intro w hSw
          try dsimp only at hSw
          (go_simp) <;> (with_reducible rfl)
        try simp only [Act.put, List.setIfInBounds_toArray, List.set_cons_zero, List.set_cons_succ]
        refine wpAnyH_take (i := 1) (v := ?_) (by first | (simp only [List.getElem?_toArray, List.getElem?_cons_succ, List.getElem?_cons_zero] <;> rfl) | rfl) (by kernel_rfl) (by kernel_rfl) (by kernel_rfl) (by exact fun _ _ _ h => h) (Or.inl ⟨by rfl, ?_⟩) hHeld0 ?_
        rotate_left 1
        · intro w hSw
          try dsimp only at hSw
          (go_simp) <;> (with_reducible rfl)
        try simp only [Act.put, List.setIfInBounds_toArray, List.set_cons_zero, List.set_cons_succ]
        refine wpAnyH_take (i := 2) (v := ?_) (by first | (simp only [List.getElem?_toArray, List.getElem?_cons_succ, List.getElem?_cons_zero] <;> rfl) | rfl) (by kernel_rfl) (by kernel_rfl) (by kernel_rfl) (by exact fun _ _ _ h => h) (Or.inl ⟨by rfl, ?_⟩) hHeld0 ?_
        rotate_left 1
        · intro w hSw
          try dsimp only at hSw
          (go_simp) <;> (with_reducible rfl)
        try simp only [Act.put, List.setIfInBounds_toArray, List.set_cons_zero, List.set_cons_succ]
        refine wpAnyH_take (i := 3) (v := ?_) (by first | (simp only [List.getElem?_toArray, List.getElem?_cons_succ, List.getElem?_cons_zero] <;> rfl) | rfl) (by kernel_rfl) (by kernel_rfl) (by kernel_rfl) (by exact fun _ _ _ h => h) (Or.inl ⟨by rfl, ?_⟩) hHeld0 ?_
        rotate_left 1
        · intro w hSw
          try dsimp only at hSw
          (go_simp) <;> (with_reducible rfl)
        try simp only [Act.put, List.setIfInBounds_toArray, List.set_cons_zero, List.set_cons_succ]
        refine wpAnyH_take (i := 4) (v := ?_) (by first | (simp only [List.getElem?_toArray, List.getElem?_cons_succ, List.getElem?_cons_zero] <;> rfl) | rfl) (by kernel_rfl) (by kernel_rfl) (by kernel_rfl) (by exact fun _ _ _ h => h) (Or.inl ⟨by rfl, ?_⟩) hHeld0 ?_
        rotate_left 1
        · intro w hSw
          try dsimp only at hSw
          (go_simp) <;> (with_reducible rfl)
        try simp only [Act.put, List.setIfInBounds_toArray, List.set_cons_zero, List.set_cons_succ]
        refine wpAnyH_take (i := 5) (v := ?_) (by first | (simp only [List.getElem?_toArray, List.getElem?_cons_succ, List.getElem?_cons_zero] <;> rfl) | rfl) (by kernel_rfl) (by kernel_rfl) (by kernel_rfl) (by exact fun _ _ _ h => h) (Or.inl ⟨by rfl, ?_⟩) hHeld0 ?_
        rotate_left 1
        · intro w hSw
          try dsimp only at hSw
          (go_simp) <;> (with_reducible rfl)
        try simp only [Act.put, List.setIfInBounds_toArray, List.set_cons_zero, List.set_cons_succ]
        refine wpAnyH_take (i := 6) (v := ?_) (by first | (simp only [List.getElem?_toArray, List.getElem?_cons_succ, List.getElem?_cons_zero] <;> rfl) | rfl) (by kernel_rfl) (by kernel_rfl) (by kernel_rfl) (by exact fun _ _ _ h => h) (Or.inl ⟨by rfl, ?_⟩) hHeld0 ?_
        rotate_left 1
        · intro w hSw
          try dsimp only at hSw
          (go_simp) <;> (with_reducible rfl)
        try simp only [Act.put, List.setIfInBounds_toArray, List.set_cons_zero, List.set_cons_succ]
        refine wpAnyH_take (i := 7) (v := ?_) (by first | (simp only [List.getElem?_toArray, List.getElem?_cons_succ, List.getElem?_cons_zero] <;> rfl) | rfl) (by kernel_rfl) (by kernel_rfl) (by kernel_rfl) (by exact fun _ _ _ h => h) (Or.inl ⟨by rfl, ?_⟩) hHeld0 ?_
        rotate_left 1
        · intro w hSw
          try dsimp only at hSw
          (go_simp) <;> (with_reducible rfl)
        try simp only [Act.put, List.setIfInBounds_toArray, List.set_cons_zero, List.set_cons_succ]
        refine wpAnyH_take (i := 8) (v := ?_) (by first | (simp only [List.getElem?_toArray, List.getElem?_cons_succ, List.getElem?_cons_zero] <;> rfl) | rfl) (by kernel_rfl) (by kernel_rfl) (by kernel_rfl) (by exact fun _ _ _ h => h) (Or.inl ⟨by rfl, ?_⟩) hHeld0 ?_
        rotate_left 1
        · intro w hSw
          try dsimp only at hSw
          (go_simp) <;> (with_reducible rfl)
        try simp only [Act.put, List.setIfInBounds_toArray, List.set_cons_zero, List.set_cons_succ]
        refine wpAnyH_take (i := 9) (v := ?_) (by first | (simp only [List.getElem?_toArray, List.getElem?_cons_succ, List.getElem?_cons_zero] <;> rfl) | rfl) (by kernel_rfl) (by kernel_rfl) (by kernel_rfl) (by exact fun _ _ _ h => h) (Or.inl ⟨by rfl, ?_⟩) hHeld0 ?_
        rotate_left 1
        · intro w hSw
          try dsimp only at hSw
          (go_simp) <;> (with_reducible rfl)
        try simp only [Act.put, List.setIfInBounds_toArray, List.set_cons_zero, List.set_cons_succ]
        refine wpAnyH_take (i := 10) (v := ?_) (by first | (simp only [List.getElem?_toArray, List.getElem?_cons_succ, List.getElem?_cons_zero] <;> rfl) | rfl) (by kernel_rfl) (by kernel_rfl) (by kernel_rfl) (by exact fun _ _ _ h => h) (Or.inl ⟨by rfl, ?_⟩) hHeld0 ?_
        rotate_left 1
        · intro w hSw
          try dsimp only at hSw
          (go_simp) <;> (with_reducible rfl)
        try simp only [Act.put, List.setIfInBounds_toArray, List.set_cons_zero, List.set_cons_succ]
        refine wpAnyH_take (i := 11) (v := ?_) (by first | (simp only [List.getElem?_toArray, List.getElem?_cons_succ, List.getElem?_cons_zero] <;> rfl) | rfl) (by kernel_rfl) (by kernel_rfl) (by kernel_rfl) (by exact fun _ _ _ h => h) (Or.inl ⟨by rfl, ?_⟩) hHeld0 ?_
        rotate_left 1
        · intro w hSw
          try dsimp only at hSw
          (go_simp) <;> (with_reducible rfl)
        try simp only [Act.put, List.setIfInBounds_toArray, List.set_cons_zero, List.set_cons_succ]
        refine wpAnyH_ready (rs := [12]) (by kernel_rfl) (by simp) ?_
        refine AllReadyH.cons (by first | (simp only [List.getElem?_toArray, List.getElem?_cons_succ, List.getElem?_cons_zero] <;> rfl) | rfl) (fun K hK => ?_) AllReadyH.nil
        go_simp
        refine (same_below l k _ _ _ _ _ Hl.out (by omega) (Hback4.out.below (step1 hHeld0)) (Har4.out.below (step1 hHeld0))).mono ?_; rintro e wa ⟨rfl, hba⟩
        go_wp2_with fail
        refine hK.out _ _ ?_ (fun hHeld1 => ?_)
        · (try dsimp only)
          exact HS.out _ (step2 hba hHeld0)
        clear hK K hHeld0
        try simp only [Act.put, List.setIfInBounds_toArray, List.set_cons_zero, List.set_cons_succ]
        refine wpAnyH_take (i := 13) (v := ?_) (by first | (simp only [List.getElem?_toArray, List.getElem?_cons_succ, List.getElem?_cons_zero] <;> rfl) | rfl) (by kernel_rfl) (by kernel_rfl) (by kernel_rfl) (by exact fun _ _ _ h => h) (Or.inl ⟨by rfl, ?_⟩) hHeld1 ?_
        rotate_left 1
        · intro w hSw
          try dsimp only at hSw
          (go_simp) <;> (with_reducible rfl)
        try simp only [Act.put, List.setIfInBounds_toArray, List.set_cons_zero, List.set_cons_succ]
        refine wpAnyH_take (i := 14) (v := ?_) (by first | (simp only [List.getElem?_toArray, List.getElem?_cons_succ, List.getElem?_cons_zero] <;> rfl) | rfl) (by kernel_rfl) (by kernel_rfl) (by kernel_rfl) (by exact fun _ _ _ h => h) (Or.inl ⟨by rfl, ?_⟩) hHeld1 ?_
        rotate_left 1
        · intro w hSw
          try dsimp only at hSw
          (go_simp) <;> (with_reducible rfl)
        try simp only [Act.put, List.setIfInBounds_toArray, List.set_cons_zero, List.set_cons_succ]
        refine wpAnyH_take (i := 15) (v := ?_) (by first | (simp only [List.getElem?_toArray, List.getElem?_cons_succ, List.getElem?_cons_zero] <;> rfl) | rfl) (by kernel_rfl) (by kernel_rfl) (by kernel_rfl) (by exact fun _ _ _ h => h) (Or.inl ⟨by rfl, ?_⟩) hHeld1 ?_
        rotate_left 1
        · intro w hSw
          try dsimp only at hSw
          (go_simp) <;> (with_reducible rfl)
        try simp only [Act.put, List.setIfInBounds_toArray, List.set_cons_zero, List.set_cons_succ]
        refine wpAnyH_take (i := 16) (v := ?_) (by first | (simp only [List.getElem?_toArray, List.getElem?_cons_succ, List.getElem?_cons_zero] <;> rfl) | rfl) (by kernel_rfl) (by kernel_rfl) (by kernel_rfl) (by exact fun _ _ _ h => h) (Or.inl ⟨by rfl, ?_⟩) hHeld1 ?_
        rotate_left 1
        · intro w hSw
          try dsimp only at hSw
          (go_simp) <;> (with_reducible rfl)
        try simp only [Act.put, List.setIfInBounds_toArray, List.set_cons_zero, List.set_cons_succ]
        refine wpAnyH_take (i := 17) (v := ?_) (by first | (simp only [List.getElem?_toArray, List.getElem?_cons_succ, List.getElem?_cons_zero] <;> rfl) | rfl) (by kernel_rfl) (by kernel_rfl) (by kernel_rfl) (by exact fun _ _ _ h => h) (Or.inl ⟨by rfl, ?_⟩) hHeld1 ?_
        rotate_left 1
        · intro w hSw
          try dsimp only at hSw
          (go_simp) <;> (with_reducible rfl)
        try simp only [Act.put, List.setIfInBounds_toArray, List.set_cons_zero, List.set_cons_succ]
        refine wpAnyH_take (i := 18) (v := ?_) (by first | (simp only [List.getElem?_toArray, List.getElem?_cons_succ, List.getElem?_cons_zero] <;> rfl) | rfl) (by kernel_rfl) (by kernel_rfl) (by kernel_rfl) (by exact fun _ _ _ h => h) (Or.inl ⟨by rfl, ?_⟩) hHeld1 ?_
        rotate_left 1
        · intro w hSw
          try dsimp only at hSw
          (go_simp) <;> (with_reducible rfl)
        try simp only [Act.put, List.setIfInBounds_toArray, List.set_cons_zero, List.set_cons_succ]
        refine wpAnyH_take (i := 19) (v := ?_) (by first | (simp only [List.getElem?_toArray, List.getElem?_cons_succ, List.getElem?_cons_zero] <;> rfl) | rfl) (by kernel_rfl) (by kernel_rfl) (by kernel_rfl) (by exact fun _ _ _ h => h) (Or.inl ⟨by rfl, ?_⟩) hHeld1 ?_
        rotate_left 1
        · intro w hSw
          try dsimp only at hSw
          (go_simp) <;> (with_reducible rfl)
        try simp only [Act.put, List.setIfInBounds_toArray, List.set_cons_zero, List.set_cons_succ]
        refine wpAnyH_take (i := 20) (v := ?_) (by first | (simp only [List.getElem?_toArray, List.getElem?_cons_succ, List.getElem?_cons_zero] <;> rfl) | rfl) (by kernel_rfl) (by kernel_rfl) (by kernel_rfl) (by exact fun _ _ _ h => h) (Or.inl ⟨by rfl, ?_⟩) hHeld1 ?_
        rotate_left 1
        · intro w hSw
          try dsimp only at hSw
          (go_simp) <;> (with_reducible rfl)
        try simp only [Act.put, List.setIfInBounds_toArray, List.set_cons_zero, List.set_cons_succ]
        refine wpAnyH_take (i := 21) (v := ?_) (by first | (simp only [List.getElem?_toArray, List.getElem?_cons_succ, List.getElem?_cons_zero] <;> rfl) | rfl) (by kernel_rfl) (by kernel_rfl) (by kernel_rfl) (by exact fun _ _ _ h => h) (Or.inl ⟨by rfl, ?_⟩) hHeld1 ?_
        rotate_left 1
        · intro w hSw
          try dsimp only at hSw
          (go_simp) <;> (with_reducible rfl)
        try simp only [Act.put, List.setIfInBounds_toArray, List.set_cons_zero, List.set_cons_succ]
        refine wpAnyH_take (i := 22) (v := ?_) (by first | (simp only [List.getElem?_toArray, List.getElem?_cons_succ, List.getElem?_cons_zero] <;> rfl) | rfl) (by kernel_rfl) (by kernel_rfl) (by kernel_rfl) (by exact fun _ _ _ h => h) (Or.inl ⟨by rfl, ?_⟩) hHeld1 ?_
        rotate_left 1
        · intro w hSw
          try dsimp only at hSw
          (go_simp) <;> (with_reducible rfl)
        try simp only [Act.put, List.setIfInBounds_toArray, List.set_cons_zero, List.set_cons_succ]
        refine wpAnyH_take (i := 23) (v := ?_) (by first | (simp only [List.getElem?_toArray, List.getElem?_cons_succ, List.getElem?_cons_zero] <;> rfl) | rfl) (by kernel_rfl) (by kernel_rfl) (by kernel_rfl) (by exact fun _ _ _ h => h) (Or.inl ⟨by rfl, ?_⟩) hHeld1 ?_
        rotate_left 1
        · intro w hSw
          try dsimp only at hSw
          (go_simp) <;> (with_reducible rfl)
        try simp only [Act.put, List.setIfInBounds_toArray, List.set_cons_zero, List.set_cons_succ]
        refine wpAnyH_take (i := 24) (v := ?_) (by first | (simp only [List.getElem?_toArray, List.getElem?_cons_succ, List.getElem?_cons_zero] <;> rfl) | rfl) (by kernel_rfl) (by kernel_rfl) (by kernel_rfl) (by exact fun _ _ _ h => h) (Or.inl ⟨by rfl, ?_⟩) hHeld1 ?_
        rotate_left 1
        · intro w hSw
          try dsimp only at hSw
          (go_simp) <;> (with_reducible rfl)
        try simp only [Act.put, List.setIfInBounds_toArray, List.set_cons_zero, List.set_cons_succ]
        refine wpAnyH_take (i := 25) (v := ?_) (by first | (simp only [List.getElem?_toArray, List.getElem?_cons_succ, List.getElem?_cons_zero] <;> rfl) | rfl) (by kernel_rfl) (by kernel_rfl) (by kernel_rfl) (by exact fun _ _ _ h => h) (Or.inl ⟨by rfl, ?_⟩) hHeld1 ?_
        rotate_left 1
        · intro w hSw
          try dsimp only at hSw
          (go_simp) <;> (with_reducible rfl)
        try simp only [Act.put, List.setIfInBounds_toArray, List.set_cons_zero, List.set_cons_succ]
        refine wpAnyH_take (i := 26) (v := ?_) (by first | (simp only [List.getElem?_toArray, List.getElem?_cons_succ, List.getElem?_cons_zero] <;> rfl) | rfl) (by kernel_rfl) (by kernel_rfl) (by kernel_rfl) (by exact fun _ _ _ h => h) (Or.inl ⟨by rfl, ?_⟩) hHeld1 ?_
        rotate_left 1
        · intro w hSw
          try dsimp only at hSw
          (go_simp) <;> (with_reducible rfl)
        try simp only [Act.put, List.setIfInBounds_toArray, List.set_cons_zero, List.set_cons_succ]
        refine wpAnyH_take (i := 27) (v := ?_) (by first | (simp only [List.getElem?_toArray, List.getElem?_cons_succ, List.getElem?_cons_zero] <;> rfl) | rfl) (by kernel_rfl) (by kernel_rfl) (by kernel_rfl) (by exact fun _ _ _ h => h) (Or.inl ⟨by rfl, ?_⟩) hHeld1 ?_
        rotate_left 1
        · intro w hSw
          try dsimp only at hSw
          (go_simp) <;> (with_reducible rfl)
        try simp only [Act.put, List.setIfInBounds_toArray, List.set_cons_zero, List.set_cons_succ]
        refine wpAnyH_take (i := 28) (v := ?_) (by first | (simp only [List.getElem?_toArray, List.getElem?_cons_succ, List.getElem?_cons_zero] <;> rfl) | rfl) (by kernel_rfl) (by kernel_rfl) (by kernel_rfl) (by exact fun _ _ _ h => h) (Or.inl ⟨by rfl, ?_⟩) hHeld1 ?_
        rotate_left 1
        · intro w hSw
          try dsimp only at hSw
          (go_simp) <;> (with_reducible rfl)
        try simp only [Act.put, List.setIfInBounds_toArray, List.set_cons_zero, List.set_cons_succ]
        refine wpAnyH_take (i := 31) (v := ?_) (by first | (simp only [List.getElem?_toArray, List.getElem?_cons_succ, List.getElem?_cons_zero] <;> rfl) | rfl) (by kernel_rfl) (by kernel_rfl) (by kernel_rfl) (by exact fun _ _ _ h => h) (Or.inl ⟨by rfl, ?_⟩) hHeld1 ?_
        rotate_left 1
        · intro w hSw
          try dsimp only at hSw
          (go_simp) <;> (with_reducible rfl)
        try simp only [Act.put, List.setIfInBounds_toArray, List.set_cons_zero, List.set_cons_succ]
        refine wpAnyH_take (i := 32) (v := ?_) (by first | (simp only [List.getElem?_toArray, List.getElem?_cons_succ, List.getElem?_cons_zero] <;> rfl) | rfl) (by kernel_rfl) (by kernel_rfl) (by kernel_rfl) (by exact fun _ _ _ h => h) (Or.inl ⟨by rfl, ?_⟩) hHeld1 ?_
        rotate_left 1
        · intro w hSw
          try dsimp only at hSw
          (go_simp) <;> (with_reducible rfl)
        try simp only [Act.put, List.setIfInBounds_toArray, List.set_cons_zero, List.set_cons_succ]
        refine wpAnyH_ready (rs := [29]) (by kernel_rfl) (by simp) ?_
        refine AllReadyH.cons (by first | (simp only [List.getElem?_toArray, List.getElem?_cons_succ, List.getElem?_cons_zero] <;> rfl) | rfl) (fun K hK => ?_) AllReadyH.nil
        go_simp
        refine (encode_any (dec nb p) p _ _ _ (dec_len _ _) (fun i hi => dec_ok nb Hokb.out p i hi) (Hg.out.below (step1 hHeld1)) (by omega)).mono ?_; rintro e wb ⟨v, rfl, hown, hbb⟩; rw [dec_len, enc_dec nb p (by rw [Hlb.out]; exact Hm8.out) Hokb.out] at hown; obtain ⟨Aq, cq, rfl, _, hrq⟩ := own_form hown; have htx := text_of (c := cq) hrq; rw [← Hsb.out] at htx; clear hown hrq
        go_wp2_with fail
        refine hK.out _ _ ?_ (fun hHeld2 => ?_)
        · (try dsimp only)
          exact HS.out _ (step2 hbb hHeld1)
        clear hK K hHeld1
        try simp only [Act.put, List.setIfInBounds_toArray, List.set_cons_zero, List.set_cons_succ]
        refine wpAnyH_ready (rs := [30]) (by kernel_rfl) (by simp) ?_
        refine AllReadyH.cons (by first | (simp only [List.getElem?_toArray, List.getElem?_cons_succ, List.getElem?_cons_zero] <;> rfl) | rfl) (fun K hK => ?_) AllReadyH.nil
        go_simp
        refine hK.out _ _ ?_ (fun hHeld3 => ?_)
        · (try dsimp only)
          exact hHeld2
        clear hK K hHeld2
        try simp only [Act.put, List.setIfInBounds_toArray, List.set_cons_zero, List.set_cons_succ]
        refine wpAnyH_take (i := 33) (v := ?_) (by first | (simp only [List.getElem?_toArray, List.getElem?_cons_succ, List.getElem?_cons_zero] <;> rfl) | rfl) (by kernel_rfl) (by kernel_rfl) (by kernel_rfl) (by exact fun _ _ _ h => h) (Or.inl ⟨by rfl, ?_⟩) hHeld3 ?_
        rotate_left 1
        · intro w hSw
          try dsimp only at hSw
          (go_simp) <;> (with_reducible rfl)
        try simp only [Act.put, List.setIfInBounds_toArray, List.set_cons_zero, List.set_cons_succ]
        refine wpAnyH_take (i := 34) (v := ?_) (by first | (simp only [List.getElem?_toArray, List.getElem?_cons_succ, List.getElem?_cons_zero] <;> rfl) | rfl) (by kernel_rfl) (by kernel_rfl) (by kernel_rfl) (by exact fun _ _ _ h => h) (Or.inl ⟨by rfl, ?_⟩) hHeld3 ?_
        rotate_left 1
        · intro w hSw
          try dsimp only at hSw
          (go_simp) <;> (with_reducible rfl)
        try simp only [Act.put, List.setIfInBounds_toArray, List.set_cons_zero, List.set_cons_succ]
        refine wpAnyH_take (i := 35) (v := ?_) (by first | (simp only [List.getElem?_toArray, List.getElem?_cons_succ, List.getElem?_cons_zero] <;> rfl) | rfl) (by kernel_rfl) (by kernel_rfl) (by kernel_rfl) (by exact fun _ _ _ h => h) (Or.inl ⟨by rfl, ?_⟩) hHeld3 ?_
        rotate_left 1
        · intro w hSw
          try dsimp only at hSw
          (go_simp) <;> (with_reducible rfl)
        try simp only [Act.put, List.setIfInBounds_toArray, List.set_cons_zero, List.set_cons_succ]
        refine wpAnyH_take (i := 36) (v := ?_) (by first | (simp only [List.getElem?_toArray, List.getElem?_cons_succ, List.getElem?_cons_zero] <;> rfl) | rfl) (by kernel_rfl) (by kernel_rfl) (by kernel_rfl) (by exact fun _ _ _ h => h) (Or.inl ⟨by rfl, ?_⟩) hHeld3 ?_
        rotate_left 1
        · intro w hSw
          try dsimp only at hSw
          (go_simp) <;> (with_reducible rfl)
        try simp only [Act.put, List.setIfInBounds_toArray, List.set_cons_zero, List.set_cons_succ]
        refine wpAnyH_take (i := 37) (v := ?_) (by first | (simp only [List.getElem?_toArray, List.getElem?_cons_succ, List.getElem?_cons_zero] <;> rfl) | rfl) (by kernel_rfl) (by kernel_rfl) (by kernel_rfl) (by exact fun _ _ _ h => h) (Or.inl ⟨by rfl, ?_⟩) hHeld3 ?_
        rotate_left 1
        · intro w hSw
          try dsimp only at hSw
          (go_simp) <;> (with_reducible rfl)
        try simp only [Act.put, List.setIfInBounds_toArray, List.set_cons_zero, List.set_cons_succ]
        refine wpAnyH_take (i := 38) (v := ?_) (by first | (simp only [List.getElem?_toArray, List.getElem?_cons_succ, List.getElem?_cons_zero] <;> rfl) | rfl) (by kernel_rfl) (by kernel_rfl) (by kernel_rfl) (by exact fun _ _ _ h => h) (Or.inl ⟨by rfl, ?_⟩) hHeld3 ?_
        rotate_left 1
        · intro w hSw
          try dsimp only at hSw
          (go_simp) <;> (with_reducible rfl)
        try simp only [Act.put, List.setIfInBounds_toArray, List.set_cons_zero, List.set_cons_succ]
        refine wpAnyH_take (i := 39) (v := ?_) (by first | (simp only [List.getElem?_toArray, List.getElem?_cons_succ, List.getElem?_cons_zero] <;> rfl) | rfl) (by kernel_rfl) (by kernel_rfl) (by kernel_rfl) (by exact fun _ _ _ h => h) (Or.inl ⟨by rfl, ?_⟩) hHeld3 ?_
        rotate_left 1
        · intro w hSw
          try dsimp only at hSw
          (go_simp) <;> (with_reducible rfl)
        try simp only [Act.put, List.setIfInBounds_toArray, List.set_cons_zero, List.set_cons_succ]
        refine wpAnyH_take (i := 40) (v := undef) (by first | (simp only [List.getElem?_toArray, List.getElem?_cons_succ, List.getElem?_cons_zero] <;> rfl) | rfl) (by kernel_rfl) (by kernel_rfl) (by kernel_rfl) (by exact fun _ _ _ h => h) (Or.inr ⟨by rfl, rfl⟩) hHeld3 ?_
        try simp only [Act.put, List.setIfInBounds_toArray, List.set_cons_zero, List.set_cons_succ]
        refine wpAnyH_take (i := 41) (v := undef) (by first | (simp only [List.getElem?_toArray, List.getElem?_cons_succ, List.getElem?_cons_zero] <;> rfl) | rfl) (by kernel_rfl) (by kernel_rfl) (by kernel_rfl) (by exact fun _ _ _ h => h) (Or.inr ⟨by rfl, rfl⟩) hHeld3 ?_
        try simp only [Act.put, List.setIfInBounds_toArray, List.set_cons_zero, List.set_cons_succ]
        refine wpAnyH_take (i := 42) (v := undef) (by first | (simp only [List.getElem?_toArray, List.getElem?_cons_succ, List.getElem?_cons_zero] <;> rfl) | rfl) (by kernel_rfl) (by kernel_rfl) (by kernel_rfl) (by exact fun _ _ _ h => h) (Or.inr ⟨by rfl, rfl⟩) hHeld3 ?_
        try simp only [Act.put, List.setIfInBounds_toArray, List.set_cons_zero, List.set_cons_succ]
        refine wpAnyH_take (i := 43) (v := undef) (by first | (simp only [List.getElem?_toArray, List.getElem?_cons_succ, List.getElem?_cons_zero] <;> rfl) | rfl) (by kernel_rfl) (by kernel_rfl) (by kernel_rfl) (by exact fun _ _ _ h => h) (Or.inr ⟨by rfl, rfl⟩) hHeld3 ?_
        try simp only [Act.put, List.setIfInBounds_toArray, List.set_cons_zero, List.set_cons_succ]
        refine wpAnyH_take (i := 44) (v := undef) (by first | (simp only [List.getElem?_toArray, List.getElem?_cons_succ, List.getElem?_cons_zero] <;> rfl) | rfl) (by kernel_rfl) (by kernel_rfl) (by kernel_rfl) (by exact fun _ _ _ h => h) (Or.inr ⟨by rfl, rfl⟩) hHeld3 ?_
        try simp only [Act.put, List.setIfInBounds_toArray, List.set_cons_zero, List.set_cons_succ]
        refine wpAnyH_take (i := 45) (v := undef) (by first | (simp only [List.getElem?_toArray, List.getElem?_cons_succ, List.getElem?_cons_zero] <;> rfl) | rfl) (by kernel_rfl) (by kernel_rfl) (by kernel_rfl) (by exact fun _ _ _ h => h) (Or.inr ⟨by rfl, rfl⟩) hHeld3 ?_
        try simp only [Act.put, List.setIfInBounds_toArray, List.set_cons_zero, List.set_cons_succ]
        refine wpAnyH_take (i := 46) (v := undef) (by first | (simp only [List.getElem?_toArray, List.getElem?_cons_succ, List.getElem?_cons_zero] <;> rfl) | rfl) (by kernel_rfl) (by kernel_rfl) (by kernel_rfl) (by exact fun _ _ _ h => h) (Or.inr ⟨by rfl, rfl⟩) hHeld3 ?_
        try simp only [Act.put, List.setIfInBounds_toArray, List.set_cons_zero, List.set_cons_succ]
        refine wpAnyH_take (i := 47) (v := ?_) (by first | (simp only [List.getElem?_toArray, List.getElem?_cons_succ, List.getElem?_cons_zero] <;> rfl) | rfl) (by kernel_rfl) (by kernel_rfl) (by kernel_rfl) (by exact fun _ _ _ h => h) (Or.inl ⟨by rfl, ?_⟩) hHeld3 ?_
        rotate_left 1
        · intro w hSw
          try dsimp only at hSw
          (go_simp) <;> (with_reducible rfl)
        try simp only [Act.put, List.setIfInBounds_toArray, List.set_cons_zero, List.set_cons_succ]
        refine wpAnyH_take (i := 48) (v := ?_) (by first | (simp only [List.getElem?_toArray, List.getElem?_cons_succ, List.getElem?_cons_zero] <;> rfl) | rfl) (by kernel_rfl) (by kernel_rfl) (by kernel_rfl) (by exact fun _ _ _ h => h) (Or.inl ⟨by rfl, ?_⟩) hHeld3 ?_
        rotate_left 1
        · intro w hSw
          try dsimp only at hSw
          (go_simp) <;> (with_reducible rfl)
        try simp only [Act.put, List.setIfInBounds_toArray, List.set_cons_zero, List.set_cons_succ]
        refine wpAnyH_done (by kernel_rfl) ?_ _
        have hS := hHeld3
        have HBX := Lib.hid (Hb4.out.trans (hS.2.out.mono Hb4.out.size))
        clear hS
        obtain ⟨z, hz⟩ : ∃ z : Nat, z = more % 12 := ⟨_, rfl⟩
        have hz12 : z < 12 := by omega
        have hzz : (more : Int) % 12 = (z : Int) := by omega
        clear hz
        go_wp2_with (at_make; refine wpList_make_full _ rfl _ _ 30 rfl w.heap.size 5 i0 (.int .u8 0) 1 Try.underlying30 hi hz0 hz1 .i64 .i64 _ _ (8 * (4090 + z)) rfl rfl (by omega) (by omega) (by rw [hz2]; omega) (by unfold maxLen; omega) HBX.out.size ?_; intro w5 hown5 hg5)
        rw [show (Value.int .u8 0).cells = #[Value.int .u8 0] from rfl, toList_madeCells_one, Nat.mul_one] at hown5
        have HB5 := Lib.hid (show Below w.heap.size w w5 from (HBX.out).grown hg5 HBX.out.size (fun k hk => by cases hk))
        obtain ⟨A5, c5, he5, hc5, hr5⟩ := own_form hown5
        injection he5 with hA5 _ hcc5
        subst hA5 hcc5
        rw [show List.replicate (8 * (4090 + z)) (Value.int .u8 0) = u8s (List.replicate (8 * (4090 + z)) 0) by simp [u8s]] at hr5
        have Hr5 := Lib.hid hr5
        clear hown5 hr5 hg5 hc5
        by_cases hz6 : z ≤ 6
        · have hz6b : decide ((z : Int) ≤ 6) = true := by simp; omega
          refine (decode_any (List.replicate (8 * (4090 + z)) 0) (4090 + z) (8 * (4090 + z)) _ _ w5 (by simp) (fun x hx => by rw [(List.mem_replicate.1 hx).2]; decide) Hr5.out (by omega) (by omega) (Nat.le_refl _)).mono ?_
          rintro e w6 ⟨v6, rfl, hown6, hb6⟩
          have HB6 := Lib.hid (HB5.out.trans (hb6.mono HB5.out.size))
          clear hown6 hb6
          go_wp2_with fail
          go_ret
          exact ⟨rfl, HB6.out⟩
        · have hz6b : decide ((z : Int) ≤ 6) = false := by simp; omega
          refine (decode_many (8 * (4090 + z)) _ _ w5 (by omega) (by omega) (by omega)).mono ?_
          rintro e w6 ⟨rfl, rfl⟩
          go_wp2_with fail
          go_ret
          exact ⟨rfl, HB5.out⟩
      · have hm8b : ((m : Int) % 8 == 0) = false := by simp; omega
        go_wp2_with fail
        refine (decode_form m B cb w3 (by omega) hm8).mono ?_
        rintro e w' ⟨rfl, rfl⟩
        clear hm8
        go_wp2_with fail
        obtain ⟨st, hst⟩ : ∃ s, s = strOfNums ((enc8 l).map fun (x : Nat) => (x : Int)) := ⟨_, rfl⟩
        have hce' : ∀ q, (convert 30 9 (.slice Ae N ce)).run Try.prog (w3.drewN q) = .ok (.string st) (w3.drewN q) := fun q => by rw [hst]; exact text_of (Hre3.out.below (below_drewN' (Below.refl _ _) q))
        have hcw' : ∀ q, (convert 30 9 (.slice Aw N cw)).run Try.prog (w3.drewN q) = .ok (.string st) (w3.drewN q) := fun q => by rw [hst]; exact text_of (Hrw3.out.below (below_drewN' (Below.refl _ _) q))
        clear hst
        obtain ⟨r, hr⟩ : ∃ r : Nat, r = m % 8 := ⟨_, rfl⟩
        have htm : Int.tmod (m : Int) 8 = (r : Int) := by rw [Int.tmod_eq_emod_of_nonneg (by omega)]; omega
        have hr0 : ((r : Int) == 0) = false := by
          have : (m : Int) % 8 = r := by omega
          rw [this] at hm8b; exact hm8b
        have hrw : IntKind.i64.wrap (r : Int) = r := IntWalk.i64_in _ (by omega)
        have Hr := Lib.hid hr
        clear hr
        go_quiet ((go_at_call 16; exact Calls.quiet_of (same_any l k _ _ _ _ _ Hl.out (by omega) (Hback.out.below (below_drewN' (Below.refl _ _) _)) (Har3.out.below (below_drewN' (Below.refl _ _) _)))))
        have HBX := Lib.hid (below_drewN' Hb3.out nq)
        obtain ⟨z, hz⟩ : ∃ z : Nat, z = more % 12 := ⟨_, rfl⟩
        have hz12 : z < 12 := by omega
        have hzz : (more : Int) % 12 = (z : Int) := by omega
        clear hz
        go_wp2_with (at_make; refine wpList_make_full _ rfl _ _ 30 rfl w.heap.size 5 i0 (.int .u8 0) 1 Try.underlying30 hi hz0 hz1 .i64 .i64 _ _ (8 * (4090 + z)) rfl rfl (by omega) (by omega) (by rw [hz2]; omega) (by unfold maxLen; omega) HBX.out.size ?_; intro w5 hown5 hg5)
        rw [show (Value.int .u8 0).cells = #[Value.int .u8 0] from rfl, toList_madeCells_one, Nat.mul_one] at hown5
        have HB5 := Lib.hid (show Below w.heap.size w w5 from (HBX.out).grown hg5 HBX.out.size (fun k hk => by cases hk))
        obtain ⟨A5, c5, he5, hc5, hr5⟩ := own_form hown5
        injection he5 with hA5 _ hcc5
        subst hA5 hcc5
        rw [show List.replicate (8 * (4090 + z)) (Value.int .u8 0) = u8s (List.replicate (8 * (4090 + z)) 0) by simp [u8s]] at hr5
        have Hr5 := Lib.hid hr5
        clear hown5 hr5 hg5 hc5
        by_cases hz6 : z ≤ 6
        · have hz6b : decide ((z : Int) ≤ 6) = true := by simp; omega
          refine (decode_any (List.replicate (8 * (4090 + z)) 0) (4090 + z) (8 * (4090 + z)) _ _ w5 (by simp) (fun x hx => by rw [(List.mem_replicate.1 hx).2]; decide) Hr5.out (by omega) (by omega) (Nat.le_refl _)).mono ?_
          rintro e w6 ⟨v6, rfl, hown6, hb6⟩
          have HB6 := Lib.hid (HB5.out.trans (hb6.mono HB5.out.size))
          clear hown6 hb6
          go_wp2_with fail
          go_ret
          exact ⟨rfl, HB6.out⟩
        · have hz6b : decide ((z : Int) ≤ 6) = false := by simp; omega
          refine (decode_many (8 * (4090 + z)) _ _ w5 (by omega) (by omega) (by omega)).mono ?_
          rintro e w6 ⟨rfl, rfl⟩
          go_wp2_with fail
          go_ret
          exact ⟨rfl, HB5.out⟩
end Go.Proofs.Ytknhkcjfnlbnnaa
