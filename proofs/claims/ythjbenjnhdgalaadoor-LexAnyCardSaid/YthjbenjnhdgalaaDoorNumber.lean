/- asm's Number: any text as a number. -/
import Derived.Test.YthjbenjnhdgalaaDoorNum
namespace Go.Proofs.YthjbenjnhdgalaaDoor
open Go.RowKit
theorem numD_short {b : Nat} {d : Bs} (h : d.length ≤ 1) : numD b d = puRes b d := by unfold numD; rw [if_neg (by omega)]
theorem numD_zero {b : Nat} {d : Bs} (h : 1 < d.length) (h2 : d.head? = some 48) : numD b d = none := by unfold numD; rw [if_pos ⟨h, h2⟩]
theorem numD_other {b : Nat} {d : Bs} (h2 : d.head? ≠ some 48) : numD b d = puRes b d := by unfold numD; rw [if_neg (fun e => h2 e.2)]
theorem puRes_bad {b : Nat} {d : Bs} (hb : b = 10 ∨ b = 16) (h : ∃ c ∈ d, Bad c) : puRes b d = none := by
  unfold puRes
  split
  · rfl
  · exact horner_bad b (by omega) d 0 h
theorem head_at (D : ByteArray) (h : 1 < D.size) : D.data.toList.head? = some (D[0]'(by omega)) := by
  have : D.data.toList[0]? = some (D[0]'(by omega)) := Lib.data_getElem? D 0 (by omega)
  rw [← this, List.head?_eq_getElem?]
set_option maxHeartbeats 2000000 in
theorem number_any (s : ByteArray) (w : World) (hs : s.size ≤ 100000) (E : Env w) : Calls Tryd.prog 10 #[.string s] w (NumPost s.data.toList w) := by
  obtain ⟨b, D, hb, hbase, hD, hsz, hs10, hcut⟩ := cut_any s w
  have HN := Lib.hid (show number s.data.toList = numD b D.data.toList by rw [number_eq, hbase, hD])
  have HE := Lib.hid E
  have hDs : D.size ≤ 100000 := by omega
  clear E hbase hD
  rcases hb with rfl | rfl
  · obtain rfl := hs10 rfl
    have hcut' : Calls Tryd.prog 15 #[.string D, .string ⟨#[48, 120]⟩] w fun e w' => e = .returned (.tuple #[.string D, .bool false]) ∧ w' = w := hcut
    clear hcut hs10
    by_cases h1 : D.size ≤ 1
    · have hg : decide ((1 : Int) < (D.size : Int)) = false := decide_eq_false (by omega)
      have HD := Lib.hid (HN.out.trans (numD_short (by rw [← Lib.size_eq]; exact h1)))
      go_enter Tryd.func10, Tryd.ntmps10
      go_wp2_with fail
      refine hcut'.mono ?_
      rintro e w' ⟨rfl, rfl⟩
      go_wp2_with fail
      refine (canyC D _ (by omega)).mono ?_
      rintro e w1 ⟨⟨v, rfl, hv1, hv2⟩, hb1⟩
      have HV1 := Lib.hid hv1
      have HV2 := Lib.hid hv2
      have HB1 := Lib.hid hb1
      clear hv1 hv2 hb1
      cases v with
      | true =>
        go_wp2_with fail
        go_ret2
        exact num_none (by rw [HD.out]; exact puRes_bad (.inl rfl) (HV1.out trivial)) rfl HB1.out
      | false =>
        go_wp2_with fail
        refine (pub 10 (.inl rfl) D _ hDs (HE.out.below HB1.out) (HV2.out trivial)).mono ?_
        rintro e w2 ⟨hp, hb2⟩
        have HB2 := Lib.hid (HB1.out.trans (hb2.mono HB1.out.size))
        clear hb2
        cases hq : puRes 10 D.data.toList with
        | some u =>
          have HD := Lib.hid (HD.out.trans hq)
          rw [hq] at hp
          clear hq
          subst hp
          go_wp2_with fail
          go_ret2
          exact num_some HD.out rfl HB2.out
        | none =>
          have HD := Lib.hid (HD.out.trans hq)
          rw [hq] at hp
          clear hq
          obtain ⟨u, N, rfl⟩ := hp
          go_wp2_with fail
          go_ret2
          exact num_none HD.out rfl HB2.out
    · have hg : decide ((1 : Int) < (D.size : Int)) = true := decide_eq_true (by omega)
      have hh := head_at D (by omega)
      have h0s : 0 < D.size := by omega
      by_cases h0 : D[0]'(by omega) = 48
      · have HD := Lib.hid (HN.out.trans (numD_zero (by rw [← Lib.size_eq]; omega) (hh.trans (by rw [h0]))))
        have hc0 : (((D[0]'h0s).toNat : Int) == 48) = true := by rw [h0]; rfl
        clear hh h0
        go_enter Tryd.func10, Tryd.ntmps10
        go_wp2_with fail
        refine hcut'.mono ?_
        rintro e w' ⟨rfl, rfl⟩
        go_wp2_with fail
        go_ret2
        exact num_none HD.out rfl (Below.refl _ _)
      · have HD := Lib.hid (HN.out.trans (numD_other (fun e => h0 (Option.some.inj (hh.symm.trans e)))))
        have hc0 : (((D[0]'h0s).toNat : Int) == 48) = false := by
          rw [beq_eq_false_iff_ne]
          intro e
          exact h0 (UInt8.toNat_inj.1 (by show (D[0]'h0s).toNat = 48; omega))
        clear hh h0
        go_enter Tryd.func10, Tryd.ntmps10
        go_wp2_with fail
        refine hcut'.mono ?_
        rintro e w' ⟨rfl, rfl⟩
        go_wp2_with fail
        refine (canyC D _ (by omega)).mono ?_
        rintro e w1 ⟨⟨v, rfl, hv1, hv2⟩, hb1⟩
        have HV1 := Lib.hid hv1
        have HV2 := Lib.hid hv2
        have HB1 := Lib.hid hb1
        clear hv1 hv2 hb1
        cases v with
        | true =>
          go_wp2_with fail
          go_ret2
          exact num_none (by rw [HD.out]; exact puRes_bad (.inl rfl) (HV1.out trivial)) rfl HB1.out
        | false =>
          go_wp2_with fail
          refine (pub 10 (.inl rfl) D _ hDs (HE.out.below HB1.out) (HV2.out trivial)).mono ?_
          rintro e w2 ⟨hp, hb2⟩
          have HB2 := Lib.hid (HB1.out.trans (hb2.mono HB1.out.size))
          clear hb2
          cases hq : puRes 10 D.data.toList with
          | some u =>
            have HD := Lib.hid (HD.out.trans hq)
            rw [hq] at hp
            clear hq
            subst hp
            go_wp2_with fail
            go_ret2
            exact num_some HD.out rfl HB2.out
          | none =>
            have HD := Lib.hid (HD.out.trans hq)
            rw [hq] at hp
            clear hq
            obtain ⟨u, N, rfl⟩ := hp
            go_wp2_with fail
            go_ret2
            exact num_none HD.out rfl HB2.out
  · clear hs10
    have hcut' : Calls Tryd.prog 15 #[.string s, .string ⟨#[48, 120]⟩] w fun e w' => e = .returned (.tuple #[.string D, .bool true]) ∧ w' = w := hcut
    clear hcut
    by_cases h1 : D.size ≤ 1
    · have hg : decide ((1 : Int) < (D.size : Int)) = false := decide_eq_false (by omega)
      have HD := Lib.hid (HN.out.trans (numD_short (by rw [← Lib.size_eq]; exact h1)))
      go_enter Tryd.func10, Tryd.ntmps10
      go_wp2_with fail
      refine hcut'.mono ?_
      rintro e w' ⟨rfl, rfl⟩
      go_wp2_with fail
      refine (canyC D _ (by omega)).mono ?_
      rintro e w1 ⟨⟨v, rfl, hv1, hv2⟩, hb1⟩
      have HV1 := Lib.hid hv1
      have HV2 := Lib.hid hv2
      have HB1 := Lib.hid hb1
      clear hv1 hv2 hb1
      cases v with
      | true =>
        go_wp2_with fail
        go_ret2
        exact num_none (by rw [HD.out]; exact puRes_bad (.inr rfl) (HV1.out trivial)) rfl HB1.out
      | false =>
        go_wp2_with fail
        refine (pub 16 (.inr rfl) D _ hDs (HE.out.below HB1.out) (HV2.out trivial)).mono ?_
        rintro e w2 ⟨hp, hb2⟩
        have HB2 := Lib.hid (HB1.out.trans (hb2.mono HB1.out.size))
        clear hb2
        cases hq : puRes 16 D.data.toList with
        | some u =>
          have HD := Lib.hid (HD.out.trans hq)
          rw [hq] at hp
          clear hq
          subst hp
          go_wp2_with fail
          go_ret2
          exact num_some HD.out rfl HB2.out
        | none =>
          have HD := Lib.hid (HD.out.trans hq)
          rw [hq] at hp
          clear hq
          obtain ⟨u, N, rfl⟩ := hp
          go_wp2_with fail
          go_ret2
          exact num_none HD.out rfl HB2.out
    · have hg : decide ((1 : Int) < (D.size : Int)) = true := decide_eq_true (by omega)
      have hh := head_at D (by omega)
      have h0s : 0 < D.size := by omega
      by_cases h0 : D[0]'(by omega) = 48
      · have HD := Lib.hid (HN.out.trans (numD_zero (by rw [← Lib.size_eq]; omega) (hh.trans (by rw [h0]))))
        have hc0 : (((D[0]'h0s).toNat : Int) == 48) = true := by rw [h0]; rfl
        clear hh h0
        go_enter Tryd.func10, Tryd.ntmps10
        go_wp2_with fail
        refine hcut'.mono ?_
        rintro e w' ⟨rfl, rfl⟩
        go_wp2_with fail
        go_ret2
        exact num_none HD.out rfl (Below.refl _ _)
      · have HD := Lib.hid (HN.out.trans (numD_other (fun e => h0 (Option.some.inj (hh.symm.trans e)))))
        have hc0 : (((D[0]'h0s).toNat : Int) == 48) = false := by
          rw [beq_eq_false_iff_ne]
          intro e
          exact h0 (UInt8.toNat_inj.1 (by show (D[0]'h0s).toNat = 48; omega))
        clear hh h0
        go_enter Tryd.func10, Tryd.ntmps10
        go_wp2_with fail
        refine hcut'.mono ?_
        rintro e w' ⟨rfl, rfl⟩
        go_wp2_with fail
        refine (canyC D _ (by omega)).mono ?_
        rintro e w1 ⟨⟨v, rfl, hv1, hv2⟩, hb1⟩
        have HV1 := Lib.hid hv1
        have HV2 := Lib.hid hv2
        have HB1 := Lib.hid hb1
        clear hv1 hv2 hb1
        cases v with
        | true =>
          go_wp2_with fail
          go_ret2
          exact num_none (by rw [HD.out]; exact puRes_bad (.inr rfl) (HV1.out trivial)) rfl HB1.out
        | false =>
          go_wp2_with fail
          refine (pub 16 (.inr rfl) D _ hDs (HE.out.below HB1.out) (HV2.out trivial)).mono ?_
          rintro e w2 ⟨hp, hb2⟩
          have HB2 := Lib.hid (HB1.out.trans (hb2.mono HB1.out.size))
          clear hb2
          cases hq : puRes 16 D.data.toList with
          | some u =>
            have HD := Lib.hid (HD.out.trans hq)
            rw [hq] at hp
            clear hq
            subst hp
            go_wp2_with fail
            go_ret2
            exact num_some HD.out rfl HB2.out
          | none =>
            have HD := Lib.hid (HD.out.trans hq)
            rw [hq] at hp
            clear hq
            obtain ⟨u, N, rfl⟩ := hp
            go_wp2_with fail
            go_ret2
            exact num_none HD.out rfl HB2.out
end Go.Proofs.YthjbenjnhdgalaaDoor
