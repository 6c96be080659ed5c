/- CheckEnds: the walk. -/
import Derived.Test.YtelflegcghcecaaPool
import Derived.Test.YtelflegcghcecaaLongest
import Derived.Test.YtelflegcghcecaaScratch
namespace Go.Proofs.Ytelflegcghcecaa
open Go.RowKit
theorem rd_take {w : World} {n m : Nat} {A : Option Addr} {l : List Ins} (h : Rd w 4 n A (l.flatMap Ins.cells)) (hl : l.length = n) (hm : m ≤ n) : Rd w 4 m A ((l.take m).flatMap Ins.cells) := by
  refine ⟨by rw [flat_len, List.length_take, hl, Nat.min_eq_left hm], ?_⟩
  rcases Nat.eq_zero_or_pos m with h0 | h0
  · exact .inl h0
  · obtain ⟨b, o, e, hb, hc⟩ := h.pos (by omega)
    refine .inr ⟨b, o, e, hb, fun j u hu => hc j u ?_⟩
    have hj : j < m * 4 := by
      have := (List.getElem?_eq_some_iff.1 hu).1
      rw [flat_len, List.length_take, hl, Nat.min_eq_left hm] at this; exact this
    have hq : j = j / 4 * 4 + j % 4 := by omega
    rw [hq, cells_at _ _ _ (by omega)] at hu ⊢
    rw [List.getElem?_take_of_lt (by omega)] at hu
    exact hu
theorem cut_bad {l : List Ins} {m : Nat} (hm : m ≤ l.length) (h : m = 0 ∨ ∃ x, l[m - 1]? = some x ∧ x.c % 8 ≠ 6) : ¬ Good (l.take m) := by
  intro g
  have hp := g.pos
  rw [List.length_take, Nat.min_eq_left hm] at hp
  rcases h with h | ⟨x, hx, h6⟩
  · omega
  · refine h6 (g.ends x ?_)
    rw [List.length_take, Nat.min_eq_left hm, List.getElem?_take_of_lt (by omega)]
    exact hx
theorem max_nat (p : Nat) : (if (1 : Int) < (p : Int) then (p : Int) else 1) = ((max 1 p : Nat) : Int) := by split <;> omega
theorem ok_snoc {l : List Ins} {k : Nat} (h : ∀ i ∈ l, i.ok) (hk : k < 4294967296) : ∀ i ∈ l ++ [ret k], i.ok := by
  intro i hi
  rcases List.mem_append.1 hi with h1 | h1
  · exact h i h1
  · simp at h1; subst h1; exact ⟨by show 6 < 65536; omega, by show 0 < 256; omega, by show 0 < 256; omega, hk⟩
theorem ok_ahead {l : List Ins} {k : Nat} (h : ∀ i ∈ l, i.ok) (hk : k < 4294967296) : ∀ i ∈ cond k :: ret k :: l, i.ok := by
  intro i hi
  simp only [List.mem_cons] at hi
  rcases hi with rfl | rfl | h1
  · exact ⟨by show 21 < 65536; omega, by show 0 < 256; omega, by show 1 < 256; omega, hk⟩
  · exact ⟨by show 6 < 65536; omega, by show 0 < 256; omega, by show 0 < 256; omega, hk⟩
  · exact h i h1
set_option maxRecDepth 100000 in
set_option maxHeartbeats 4000000 in
theorem walk_ends (S : List Sml) (sn : Nat) (sA : Option Addr) (sc ends cut k : Nat) (w : World) (hl : S.length = sn) (hok : ∀ i ∈ S, i.ok) (hr : Rd w 9 sn sA (S.flatMap Sml.cells)) (hm : sn ≤ maxLen) (he : ends < 256) (hcut : cut < 256) (hk : k < 4294967296) :
    Calls Try.prog 5 #[.slice sA sn sc, .int .u8 ends, .int .u8 cut, .int .u32 k] w (Yes w) := by
  obtain ⟨i0, hi, hz0, hz1, hz2⟩ := info_parts infoIns
  obtain ⟨r5, h5⟩ : ∃ r, r = ends % 5 := ⟨_, rfl⟩
  have e5 : (ends : Int) % 5 = r5 := by omega
  have l5 : r5 < 5 := by omega
  obtain ⟨E, hE⟩ : ∃ E, E = 1 + r5 := ⟨_, rfl⟩
  have eE : (1 : Int) + (r5 : Int) = E := by omega
  have PR := Lib.hid (fun w' (hb : Below w.heap.size w w') => program_any S sn sA sc E w' hl hok (hr.below hb) hm (by omega))
  have HE := Lib.hid (show E % 6 = E ∧ 1 ≤ E by omega)
  clear hl hok hr h5 hE
  go_enter Try.func5, Try.ntmps5
  go_wp2_with fail
  refine (awake_any _).mono ?_
  rintro e w1 ⟨rfl, hb1⟩
  have HB1 := Lib.hid hb1
  clear hb1
  go_wp2_with fail
  refine (PR.out _ HB1.out).mono ?_
  rintro e w2 ⟨L, A, cp, rfl, hcp, hseg, hLok, hL65, hLE, hb2⟩
  have HB2 := Lib.hid (HB1.out.trans (hb2.mono HB1.out.size))
  obtain ⟨N, hN⟩ : ∃ N, N = L.length := ⟨_, rfl⟩
  rw [← hN] at hseg hL65 hLE hcp ⊢
  have hN0 : 1 ≤ N := by have := HE.out; omega
  have HL2 := Lib.hid hseg.rd
  have HN := Lib.hid hN.symm
  have Hok := Lib.hid hLok
  have hm64 : N ≤ maxLen := by unfold maxLen; omega
  clear hb2 hseg hLok hLE hN PR HB1 eE e5
  go_wp2_with fail
  refine (check_any L N A cp _ HN.out Hok.out HL2.out hm64).mono ?_
  rintro e w3 ⟨a, er, rfl, hc, hb3⟩
  have HB3 := Lib.hid (HB2.out.trans (hb3.mono HB2.out.size))
  have HL3 := Lib.hid (HL2.out.below hb3)
  clear hb3 HB2 HL2
  by_cases g : Good L
  · obtain ⟨rfl, rfl⟩ := hc.of_good g
    have G := Lib.hid g
    clear hc g
    obtain ⟨b, o, rfl, hbl, hcells⟩ := HL3.out.pos (by omega)
    have hbase := HB3.out.size
    have Hown := Lib.hid (World.ownsRow_lit (base := w3.heap.size) (e := 27) (size := 4) w3 #[] 0 (Nat.le_refl _) (by unfold maxLen; omega) rfl)
    have Hc3 := Lib.hid (show ∀ j u, (L.flatMap Ins.cells)[j]? = some u → (w3.alloc (.cells #[] 27)).cell? ((⟨b, o, none⟩ : Addr).add j) = some u from fun j u hu => by
      rw [add_at', ← hcells j u hu]
      exact (one_below w3 (.cells #[] 27)).cell (p := ⟨b, o + j, none⟩) hbl)
    have Hlen := Lib.hid (show (L.flatMap Ins.cells).length = N * 4 by rw [flat_len, HN.out])
    have Hone := Lib.hid (flat_one L)
    have Hs3 := Lib.hid (one_below w3 (.cells #[] 27)).size
    clear hcells
    go_wp2_with (at_builtin; refine wpList_append_own _ rfl (.tmp 25) (.tmp 26) 24 rfl w3.heap.size 27 i0 _ 4 8 Try.underlying24 hi hz0 hz1 hz2 rfl (by decide) _ 0 [] rfl Hown.out ⟨b, o, none⟩ N cp (L.flatMap Ins.cells) rfl Hlen.out Hc3.out Hone.out (by unfold maxLen; omega) (by omega) Hs3.out ?_; intro v4 w4 hown4 hg4 _)
    have hb4 : Below w3.heap.size w3 w4 := (one_below w3 (.cells #[] 27)).grown hg4 Hs3.out (fun k hk => by cases hk; exact Nat.le_refl _)
    have Hown4 := Lib.hid (show w4.ownsRow w3.heap.size 27 4 v4 N (L.flatMap Ins.cells) from by simpa using hown4)
    have Hb4 := Lib.hid hb4
    clear hown4 hg4 hb4 Hown Hc3
    refine (return_of _ _).mono ?_
    rintro e w5 ⟨rfl, hb5⟩
    have Hown5 := Lib.hid (own_below Hown4.out hb5)
    have Hb5 := Lib.hid (Hb4.out.trans (hb5.mono Hb4.out.size))
    have Hnews := Lib.hid (four_new w5 27 6 0 0 k)
    have Hs5 := Lib.hid (show w3.heap.size ≤ (w5.alloc (.cells #[.int .u16 (6 : Nat), .int .u8 (0 : Nat), .int .u8 (0 : Nat), .int .u32 k] 27)).heap.size by have := Hb5.out.size; simp; omega)
    clear hb5 Hown4 Hb4
    go_wp2_with (at_builtin; refine wpList_append_own _ rfl (.tmp 27) (.tmp 30) 24 rfl w3.heap.size 27 i0 _ 4 8 Try.underlying24 hi hz0 hz1 hz2 rfl (by decide) _ N (L.flatMap Ins.cells) rfl (Hown5.out.alloc _) ⟨w5.heap.size, 0, none⟩ 1 1 (Ins.cells ⟨6, 0, 0, k⟩) rfl rfl Hnews.out (cells_one _) (by unfold maxLen; omega) (by omega) Hs5.out ?_; intro v6 w6 hown6 hg6 _; obtain ⟨Am, cm, rfl, _, hs6⟩ := own_seg hown6)
    have hb6 : Below w3.heap.size w3 w6 := (Hb5.out.alloc Hb5.out.size _).grown hg6 Hs5.out (fun k hk => (Hown5.out.lt k hk).1)
    have HL6 := Lib.hid (HL3.out.below hb6)
    have HM6 := Lib.hid (show Rd w6 4 (N + 1) Am ((L ++ [ret k]).flatMap Ins.cells) from by rw [List.flatMap_append]; simpa [ret] using hs6.rd)
    have HB6 := Lib.hid (HB3.out.trans (hb6.mono HB3.out.size))
    clear hown6 hg6 hs6 hb6 Hown5 Hb5 Hnews Hs5 HL3 HB3 hbl hbase Hs3
    refine (if_of _ _ _ _ 21 _ (by rfl)).mono ?_
    rintro e w7 ⟨rfl, hb7⟩
    have HL7 := Lib.hid (HL6.out.below hb7)
    have HM7 := Lib.hid (HM6.out.below hb7)
    have HB7 := Lib.hid (HB6.out.trans (hb7.mono HB6.out.size))
    clear hb7 HL6 HM6 HB6
    go_wp2_with fail
    refine (return_of _ _).mono ?_
    rintro e w8 ⟨rfl, hb8⟩
    have HL8 := Lib.hid (HL7.out.below hb8)
    have HM8 := Lib.hid (HM7.out.below hb8)
    have HB8 := Lib.hid (HB7.out.trans (hb8.mono HB7.out.size))
    clear hb8 HL7 HM7 HB7
    obtain ⟨bq, oq, heq, hbl, hcells⟩ := HL8.out.pos (by omega)
    obtain ⟨rfl, rfl⟩ : b = bq ∧ o = oq := by simpa using heq
    have Hown := Lib.hid (World.ownsRow_lit (base := w8.heap.size) (e := 27) (size := 4) w8 #[.int .u16 (21 : Nat), .int .u8 (0 : Nat), .int .u8 (1 : Nat), .int .u32 k, .int .u16 (6 : Nat), .int .u8 (0 : Nat), .int .u8 (0 : Nat), .int .u32 k] 2 (Nat.le_refl _) (by unfold maxLen; omega) rfl)
    have h9b := one_below w8 (.cells #[.int .u16 (21 : Nat), .int .u8 (0 : Nat), .int .u8 (1 : Nat), .int .u32 k, .int .u16 (6 : Nat), .int .u8 (0 : Nat), .int .u8 (0 : Nat), .int .u32 k] 27)
    have Hc8 := Lib.hid (show ∀ j u, (L.flatMap Ins.cells)[j]? = some u → (w8.alloc (.cells #[.int .u16 (21 : Nat), .int .u8 (0 : Nat), .int .u8 (1 : Nat), .int .u32 k, .int .u16 (6 : Nat), .int .u8 (0 : Nat), .int .u8 (0 : Nat), .int .u32 k] 27)).cell? ((⟨b, o, none⟩ : Addr).add j) = some u from fun j u hu => by
      rw [add_at', ← hcells j u hu]
      exact h9b.cell (p := ⟨b, o + j, none⟩) hbl)
    have H9b := Lib.hid h9b
    clear hcells heq h9b
    go_wp2_with (at_builtin; refine wpList_append_own _ rfl (.tmp 36) (.tmp 37) 24 rfl w8.heap.size 27 i0 _ 4 8 Try.underlying24 hi hz0 hz1 hz2 rfl (by decide) _ 2 _ rfl Hown.out ⟨b, o, none⟩ N cp (L.flatMap Ins.cells) rfl Hlen.out Hc8.out Hone.out (by unfold maxLen; omega) (by omega) H9b.out.size ?_; intro v9 w9 hown9 hg9 _; obtain ⟨Aa, ca, rfl, _, hs9⟩ := own_seg hown9)
    have hb9 : Below w8.heap.size w8 w9 := H9b.out.grown hg9 H9b.out.size (fun k hk => by cases hk; exact Nat.le_refl _)
    have HL9 := Lib.hid (HL8.out.below hb9)
    have HM9 := Lib.hid (HM8.out.below hb9)
    have HA9 := Lib.hid (show Rd w9 4 (2 + N) Aa ((cond k :: ret k :: L).flatMap Ins.cells) from hs9.rd)
    have HB9 := Lib.hid (HB8.out.trans (hb9.mono HB8.out.size))
    clear hown9 hg9 hs9 hb9 HL8 HM8 HB8 Hown Hc8 H9b hbl
    have Hmok := Lib.hid (ok_snoc Hok.out hk)
    have Haok := Lib.hid (ok_ahead Hok.out hk)
    have Gm := Lib.hid (behind_good G.out k (by have := HN.out; omega))
    have Ga := Lib.hid (ahead_good G.out k (by have := HN.out; omega))
    have Hml := Lib.hid (show (L ++ [ret k]).length = N + 1 by rw [List.length_append, HN.out]; rfl)
    have Hal := Lib.hid (show (cond k :: ret k :: L).length = 2 + N by rw [List.length_cons, List.length_cons, HN.out]; omega)
    have hPl : lg L 0 ≤ N := by have := lg_le L 0; have := HN.out; omega
    have hP1 : 1 ≤ lg L 0 := by
      obtain ⟨x, hx⟩ : ∃ x, L[0]? = some x := ⟨_, List.getElem?_eq_getElem (by have := HN.out; omega)⟩
      rw [lg_step hx]; omega
    have hQ := ahead_longest L k
    have hBl := behind_longest G.out k
    obtain ⟨P, hP⟩ : ∃ P, P = lg L 0 := ⟨_, rfl⟩
    obtain ⟨Q, hQd⟩ : ∃ Q, Q = lg (cond k :: ret k :: L) 0 := ⟨_, rfl⟩
    rw [← hQd, ← hP] at hQ
    rw [← hP] at hBl hPl hP1
    have CM := Lib.hid (fun w' hb => check_any (L ++ [ret k]) (N + 1) Am cm w' Hml.out Hmok.out (HM9.out.below hb) (by unfold maxLen; omega))
    have LM := Lib.hid (fun w' hb => longest_any (L ++ [ret k]) (N + 1) Am cm w' Hml.out Hmok.out (HM9.out.below hb) (by unfold maxLen; omega))
    have LL := Lib.hid (fun w' hb => longest_any L N (some ⟨b, o, none⟩) cp w' HN.out Hok.out (HL9.out.below hb) hm64)
    have CA := Lib.hid (fun w' hb => check_any (cond k :: ret k :: L) (2 + N) Aa ca w' Hal.out Haok.out (HA9.out.below hb) (by unfold maxLen; omega))
    have LA := Lib.hid (fun w' hb => longest_any (cond k :: ret k :: L) (2 + N) Aa ca w' Hal.out Haok.out (HA9.out.below hb) (by unfold maxLen; omega))
    have CC := Lib.hid (fun q (hq : q ≤ N) w' hb => check_any (L.take q) q (some ⟨b, o, none⟩) cp w' (by rw [List.length_take, HN.out, Nat.min_eq_left hq]) (fun i hi => Hok.out i (List.mem_of_mem_take hi)) (rd_take (HL9.out.below hb) HN.out hq) (by unfold maxLen; omega))
    have HP := Lib.hid hP
    have HQd := Lib.hid hQd
    have HBl := Lib.hid hBl
    have H9 := Lib.hid (Below.refl w9.heap.size w9)
    clear hP hQd hBl HM9 HA9
    obtain ⟨q, hq⟩ : ∃ q, q = cut % N := ⟨_, rfl⟩
    have hqN : q < N := by rw [hq]; exact Nat.mod_lt _ (by omega)
    have eq : (cut : Int) % (N : Int) = q := by rw [hq]; rfl
    have hN1 : ¬ N = 0 := by omega
    have hN2 : ((N : Int) == 0) = false := by simp; omega
    clear hq
    have hQ' : (P = 1 ∧ Q = 2) ∨ (1 < P ∧ Q = 1 + P) := by omega
    clear hQ
    refine (CM.out _ H9.out).mono ?_
    rintro e u1 ⟨a, er, rfl, hc, hb⟩
    obtain ⟨rfl, rfl⟩ := hc.of_good Gm.out
    have K1 := Lib.hid hb
    clear hc hb
    go_wp2_with fail
    refine (LM.out _ K1.out).mono ?_
    rintro e u2 ⟨n1, rfl, hb, hy, _⟩
    obtain rfl : n1 = P := (hy Gm.out).trans HBl.out
    have K2 := Lib.hid (K1.out.trans (hb.mono K1.out.size))
    clear hb hy K1
    go_wp2_with fail
    refine (LL.out _ K2.out).mono ?_
    rintro e u3 ⟨n2, rfl, hb, hy, _⟩
    obtain rfl : n2 = n1 := (hy G.out).trans HP.out.symm
    have K3 := Lib.hid (K2.out.trans (hb.mono K2.out.size))
    clear hb hy K2
    go_wp2_with fail
    refine (CA.out _ K3.out).mono ?_
    rintro e u4 ⟨a, er, rfl, hc, hb⟩
    obtain ⟨rfl, rfl⟩ := hc.of_good Ga.out
    have K4 := Lib.hid (K3.out.trans (hb.mono K3.out.size))
    clear hc hb K3
    go_wp2_with fail
    refine (LA.out _ K4.out).mono ?_
    rintro e u5 ⟨n3, rfl, hb, hy, _⟩
    obtain rfl : n3 = Q := (hy Ga.out).trans HQd.out.symm
    have K5 := Lib.hid (K4.out.trans (hb.mono K4.out.size))
    clear hb hy K4
    go_wp2_with fail
    refine (LL.out _ K5.out).mono ?_
    rintro e u6 ⟨n4, rfl, hb, hy, _⟩
    obtain rfl : n4 = n2 := (hy G.out).trans HP.out.symm
    have K6 := Lib.hid (K5.out.trans (hb.mono K5.out.size))
    clear hb hy K5
    have hqle : q ≤ N := by omega
    rcases hQ' with ⟨hP1', hQe⟩ | ⟨hPgt, hQe⟩
    · subst hP1' hQe
      go_wp2_with fail
      refine (CC.out q hqle _ K6.out).mono ?_
      rintro e u7 ⟨a, er, rfl, hc, hb⟩
      have K7 := Lib.hid (K6.out.trans (hb.mono K6.out.size))
      have HE7 := Lib.hid ((HB9.out.trans (K7.out.mono HB9.out.size)))
      have HE8 := Lib.hid (HE7.out.alloc HE7.out.size (.cells #[.int .i64 a, .int .i64 er] 31))
      have HL7 := Lib.hid (HL9.out.below K7.out)
      have Hch := Lib.hid hc
      clear hb hc K6
      rcases Nat.eq_zero_or_pos q with hq0 | hq0
      · subst hq0
        have hbad := fun h => cut_bad (l := L) (m := 0) (Nat.zero_le _) (.inl rfl) (Hch.out.good_iff.1 h)
        have e1 : ((er : Int) == 0) = false := by simp; omega
        clear hbad
        go_wp2_with fail
        all_goals
          go_ret
          exact ⟨rfl, HE8.out⟩
      · obtain ⟨p, rfl⟩ : ∃ p, q = p + 1 := ⟨q - 1, by omega⟩
        obtain ⟨x, hx⟩ : ∃ x, L[p]? = some x := ⟨_, List.getElem?_eq_getElem (by have := HN.out; omega)⟩
        obtain ⟨bq, oq, heq, hbl, hcells⟩ := HL7.out.pos (by omega)
        obtain ⟨rfl, rfl⟩ : b = bq ∧ o = oq := by simpa using heq
        obtain ⟨q0, q1, q2, q3⟩ := four_cells hcells hx
        have Cl := Lib.hid (fun w => class_any x.c w (Hok.out x (List.mem_of_getElem? hx)).1)
        have hal := (one_below u7 (.cells #[.int .i64 a, .int .i64 er] 31)).cell (p := ⟨b, o + p * 4, none⟩) hbl
        have q0' := hal.trans q0
        obtain ⟨r, hrd⟩ : ∃ r, r = x.c % 8 := ⟨_, rfl⟩
        rw [← hrd] at Cl
        by_cases h6 : r = 6
        · have e6 : ((r : Int) == 6) = true := by simp; omega
          clear hcells heq hx hal q1 q2 q3 h6 hrd
          rcases Nat.eq_zero_or_pos er with hz | hz
          all_goals
            have e1 : ((er : Int) == 0) = decide (er = 0) := by rw [Bool.eq_iff_iff]; simp
            first | rw [decide_eq_true hz] at e1 | rw [decide_eq_false (by omega)] at e1
            clear hz
            go_wp2_with (go_at_call 15; refine (Cl.out _).mono ?_; rintro e w' ⟨rfl, rfl⟩)
            all_goals
              go_ret
              exact ⟨rfl, HE8.out⟩
        · have hbad := fun h => cut_bad (l := L) (m := p + 1) (by have := HN.out; omega) (.inr ⟨x, hx, by rw [← hrd]; exact h6⟩) (Hch.out.good_iff.1 h)
          have e1 : ((er : Int) == 0) = false := by simp; omega
          have e6 : ((r : Int) == 6) = false := by simp; omega
          clear hcells heq hx hal q1 q2 q3 hbad h6 hrd
          go_wp2_with (go_at_call 15; refine (Cl.out _).mono ?_; rintro e w' ⟨rfl, rfl⟩)
          all_goals
            go_ret
            exact ⟨rfl, HE8.out⟩
    · have t1 : ((n3 : Int) == 1 + (n4 : Int)) = true := by simp; omega
      have t2 : ((n3 : Int) != 1 + (n4 : Int)) = false := by simp; omega
      go_wp2_with fail
      refine (CC.out q hqle _ K6.out).mono ?_
      rintro e u7 ⟨a, er, rfl, hc, hb⟩
      have K7 := Lib.hid (K6.out.trans (hb.mono K6.out.size))
      have HE7 := Lib.hid ((HB9.out.trans (K7.out.mono HB9.out.size)))
      have HE8 := Lib.hid (HE7.out.alloc HE7.out.size (.cells #[.int .i64 a, .int .i64 er] 31))
      have HL7 := Lib.hid (HL9.out.below K7.out)
      have Hch := Lib.hid hc
      clear hb hc K6
      rcases Nat.eq_zero_or_pos q with hq0 | hq0
      · subst hq0
        have hbad := fun h => cut_bad (l := L) (m := 0) (Nat.zero_le _) (.inl rfl) (Hch.out.good_iff.1 h)
        have e1 : ((er : Int) == 0) = false := by simp; omega
        clear hbad
        go_wp2_with fail
        all_goals
          go_ret
          exact ⟨rfl, HE8.out⟩
      · obtain ⟨p, rfl⟩ : ∃ p, q = p + 1 := ⟨q - 1, by omega⟩
        obtain ⟨x, hx⟩ : ∃ x, L[p]? = some x := ⟨_, List.getElem?_eq_getElem (by have := HN.out; omega)⟩
        obtain ⟨bq, oq, heq, hbl, hcells⟩ := HL7.out.pos (by omega)
        obtain ⟨rfl, rfl⟩ : b = bq ∧ o = oq := by simpa using heq
        obtain ⟨q0, q1, q2, q3⟩ := four_cells hcells hx
        have Cl := Lib.hid (fun w => class_any x.c w (Hok.out x (List.mem_of_getElem? hx)).1)
        have hal := (one_below u7 (.cells #[.int .i64 a, .int .i64 er] 31)).cell (p := ⟨b, o + p * 4, none⟩) hbl
        have q0' := hal.trans q0
        obtain ⟨r, hrd⟩ : ∃ r, r = x.c % 8 := ⟨_, rfl⟩
        rw [← hrd] at Cl
        by_cases h6 : r = 6
        · have e6 : ((r : Int) == 6) = true := by simp; omega
          clear hcells heq hx hal q1 q2 q3 h6 hrd
          rcases Nat.eq_zero_or_pos er with hz | hz
          all_goals
            have e1 : ((er : Int) == 0) = decide (er = 0) := by rw [Bool.eq_iff_iff]; simp
            first | rw [decide_eq_true hz] at e1 | rw [decide_eq_false (by omega)] at e1
            clear hz
            go_wp2_with (go_at_call 15; refine (Cl.out _).mono ?_; rintro e w' ⟨rfl, rfl⟩)
            all_goals
              go_ret
              exact ⟨rfl, HE8.out⟩
        · have hbad := fun h => cut_bad (l := L) (m := p + 1) (by have := HN.out; omega) (.inr ⟨x, hx, by rw [← hrd]; exact h6⟩) (Hch.out.good_iff.1 h)
          have e1 : ((er : Int) == 0) = false := by simp; omega
          have e6 : ((r : Int) == 6) = false := by simp; omega
          clear hcells heq hx hal q1 q2 q3 hbad h6 hrd
          go_wp2_with (go_at_call 15; refine (Cl.out _).mono ?_; rintro e w' ⟨rfl, rfl⟩)
          all_goals
            go_ret
            exact ⟨rfl, HE8.out⟩
  · have e1 : ((er : Int) == 0) = false := by
      have := fun h => g (hc.good_iff.1 h)
      simp; omega
    go_wp2_with fail
    all_goals
      go_ret
      exact ⟨rfl, HB3.out⟩

theorem walk_checkEnds (sA : Option Addr) (sn sc : Nat) (ends cut k : Int) (w : World)
    (h0 : ∃ l : List Sml, l.length = sn ∧ (∀ i ∈ l, i.ok) ∧ Rd w 9 sn sA (l.flatMap Sml.cells) ∧ sn ≤ maxLen)
    (h1 : (Lit.int .u8 ends).wf = true) (h2 : (Lit.int .u8 cut).wf = true) (h3 : (Lit.int .u32 k).wf = true) :
    Calls Try.prog 5 #[.slice sA sn sc, .int .u8 ends, .int .u8 cut, .int .u32 k] w (Yes w) := by
  obtain ⟨S, hl, hok, hr, hm⟩ := h0
  obtain ⟨l1, u1⟩ := bounds_u8 h1
  obtain ⟨l2, u2⟩ := bounds_u8 h2
  obtain ⟨l3, u3⟩ := bounds_u32 h3
  obtain ⟨n1, rfl⟩ := Int.eq_ofNat_of_zero_le l1
  obtain ⟨n2, rfl⟩ := Int.eq_ofNat_of_zero_le l2
  obtain ⟨n3, rfl⟩ := Int.eq_ofNat_of_zero_le l3
  exact walk_ends S sn sA sc n1 n2 n3 w hl hok hr hm (by omega) (by omega) (by omega)
end Go.Proofs.Ytelflegcghcecaa
