/- Which bytes stand in a word of a kind. -/
import Derived.Test.YthjbenjnhdgalaaDoorBytesP
import Derived.Test.YthjbenjnhdgalaaDoorShelf
import Derived.LoopTactic
namespace Go.Proofs.YthjbenjnhdgalaaDoor
open Go.RowKit
theorem sgn_ix : ∀ c : UInt8, decide (0 ≤ Lib.indexByte [61, 33, 60, 62, 38] c) = sgn c.toNat := by
  intro c
  by_cases h1 : c = 61
  · subst h1; rfl
  by_cases h2 : c = 33
  · subst h2; rfl
  by_cases h3 : c = 60
  · subst h3; rfl
  by_cases h4 : c = 62
  · subst h4; rfl
  by_cases h5 : c = 38
  · subst h5; rfl
  have hn : ∀ d : UInt8, ¬ c = d → (d == c) = false ∧ (c.toNat == d.toNat) = false := fun d h => ⟨by simpa using fun e => h e.symm, by rw [beq_eq_false_iff_ne]; exact fun e => h (UInt8.toNat_inj.1 e)⟩
  have n1 := hn 61 h1
  have n2 := hn 33 h2
  have n3 := hn 60 h3
  have n4 := hn 62 h4
  have n5 := hn 38 h5
  have hs : sgn c.toNat = false := by
    show (c.toNat == (61 : UInt8).toNat || (c.toNat == (33 : UInt8).toNat || (c.toNat == (60 : UInt8).toNat || (c.toNat == (62 : UInt8).toNat || c.toNat == (38 : UInt8).toNat)))) = false
    rw [n1.2, n2.2, n3.2, n4.2, n5.2]; rfl
  rw [hs]
  simp [Lib.indexByte, n1.1, n2.1, n3.1, n4.1, n5.1]
theorem ix_any (c : Nat) (hc : c < 256) (w : World) : Calls Tryd.prog 49 #[.string ⟨#[61, 33, 60, 62, 38]⟩, .int .u8 c] w fun e w' => (∃ v : Int, e = .returned (.int .i64 v) ∧ decide (0 ≤ v) = sgn c) ∧ w = w' := by
  refine (Tryd.strings_IndexByte ⟨#[61, 33, 60, 62, 38]⟩ (c : Int) w).mono ?_
  rintro e w' ⟨rfl, rfl⟩
  refine ⟨⟨_, rfl, ?_⟩, rfl⟩
  have := sgn_ix (UInt8.ofNat c)
  rw [show (UInt8.ofNat c).toNat = c by simp; omega] at this
  rw [← this]
  rfl
set_option maxHeartbeats 1000000 in
theorem has_any (k c : Nat) (hk : 1 ≤ k ∧ k ≤ 4) (hc : c < 256) (w : World) : Calls Tryd.prog 47 #[.int .u8 k, .int .u8 c] w (Says (hasB k c) w) := by
  have hl := fun W => letter_any c W
  have hd := fun W => digit_any c W
  have hp := fun W => printable_any c W
  have hx := fun W => ix_any c hc W
  rcases (by omega : k = 1 ∨ k = 2 ∨ k = 3 ∨ k = 4) with rfl | rfl | rfl | rfl
  · clear hp hx
    rw [show hasB 1 c = (isL c || (isD c || (c == 45 || (c == 95 || c == 44)))) from rfl]
    cases h1 : isL c with
    | true =>
      rw [h1] at hl
      clear h1 hd
      go_enter Tryd.func47, Tryd.ntmps47
      go_wp2_with fail
      refine (hl _).mono ?_
      rintro e w' ⟨rfl, rfl⟩
      go_wp2_with fail
      go_ret
      exact ⟨rfl, rfl⟩
    | false =>
      rw [h1] at hl
      clear h1
      cases h2 : isD c with
      | true =>
        rw [h2] at hd
        clear h2
        go_enter Tryd.func47, Tryd.ntmps47
        go_wp2_with fail
        refine (hl _).mono ?_
        rintro e w' ⟨rfl, rfl⟩
        go_wp2_with fail
        refine (hd _).mono ?_
        rintro e w' ⟨rfl, rfl⟩
        go_wp2_with fail
        go_ret
        exact ⟨rfl, rfl⟩
      | false =>
        rw [h2] at hd
        clear h2
        by_cases h3 : c = 45
        · subst h3
          go_enter Tryd.func47, Tryd.ntmps47
          go_wp2_with fail
          refine (hl _).mono ?_
          rintro e w' ⟨rfl, rfl⟩
          go_wp2_with fail
          refine (hd _).mono ?_
          rintro e w' ⟨rfl, rfl⟩
          go_wp2_with fail
          go_ret
          exact ⟨rfl, rfl⟩
        by_cases h4 : c = 95
        · subst h4
          go_enter Tryd.func47, Tryd.ntmps47
          go_wp2_with fail
          refine (hl _).mono ?_
          rintro e w' ⟨rfl, rfl⟩
          go_wp2_with fail
          refine (hd _).mono ?_
          rintro e w' ⟨rfl, rfl⟩
          go_wp2_with fail
          go_ret
          exact ⟨rfl, rfl⟩
        by_cases h5 : c = 44
        · subst h5
          go_enter Tryd.func47, Tryd.ntmps47
          go_wp2_with fail
          refine (hl _).mono ?_
          rintro e w' ⟨rfl, rfl⟩
          go_wp2_with fail
          refine (hd _).mono ?_
          rintro e w' ⟨rfl, rfl⟩
          go_wp2_with fail
          go_ret
          exact ⟨rfl, rfl⟩
        · have g3 : ((c : Int) == 45) = false := ne_lit h3
          have g4 : ((c : Int) == 95) = false := ne_lit h4
          have g5 : ((c : Int) == 44) = false := ne_lit h5
          have e1 : (c == 45 || (c == 95 || c == 44)) = false := by simp [h3, h4, h5]
          rw [e1]
          clear h3 h4 h5 e1
          go_enter Tryd.func47, Tryd.ntmps47
          go_wp2_with fail
          refine (hl _).mono ?_
          rintro e w' ⟨rfl, rfl⟩
          go_wp2_with fail
          refine (hd _).mono ?_
          rintro e w' ⟨rfl, rfl⟩
          go_wp2_with fail
          go_ret
          exact ⟨rfl, rfl⟩
  · clear hp hx
    rw [show hasB 2 c = (isL c || isD c) from rfl]
    cases h1 : isL c with
    | true =>
      rw [h1] at hl
      clear h1 hd
      go_enter Tryd.func47, Tryd.ntmps47
      go_wp2_with fail
      refine (hl _).mono ?_
      rintro e w' ⟨rfl, rfl⟩
      go_wp2_with fail
      go_ret
      exact ⟨rfl, rfl⟩
    | false =>
      rw [h1] at hl
      clear h1
      go_enter Tryd.func47, Tryd.ntmps47
      go_wp2_with fail
      refine (hl _).mono ?_
      rintro e w' ⟨rfl, rfl⟩
      go_wp2_with fail
      refine (hd _).mono ?_
      rintro e w' ⟨rfl, rfl⟩
      go_wp2_with fail
      go_ret
      exact ⟨rfl, rfl⟩
  · clear hl hd hx
    rw [show hasB 3 c = prn c from rfl]
    go_enter Tryd.func47, Tryd.ntmps47
    go_wp2_with fail
    refine (hp _).mono ?_
    rintro e w' ⟨rfl, rfl⟩
    go_wp2_with fail
    go_ret
    exact ⟨rfl, rfl⟩
  · clear hl hd hp
    rw [show hasB 4 c = sgn c from rfl]
    go_enter Tryd.func47, Tryd.ntmps47
    go_wp2_with fail
    refine (hx _).mono ?_
    rintro e w' ⟨⟨v, rfl, hv⟩, rfl⟩
    have HV := Lib.hid hv
    clear hv
    go_wp2_with fail
    go_ret
    exact ⟨by rw [← HV.out]; rfl, rfl⟩
end Go.Proofs.YthjbenjnhdgalaaDoor
