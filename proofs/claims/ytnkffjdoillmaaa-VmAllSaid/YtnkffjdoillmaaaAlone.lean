/- One instruction: what is wrong with it alone. -/
import Derived.Test.YtnkffjdoillmaaaNext
import Derived.WalkLawsBesides
namespace Go.Proofs.Ytnkffjdoillmaaa
open Go.RowKit
set_option maxRecDepth 100000 in
set_option maxHeartbeats 1000000 in
theorem range_any (x : Ins) (w : World) (hx : x.ok) : Calls Try.prog 59 #[.agg #[.int .u16 x.c, .int .u8 x.t, .int .u8 x.f, .int .u32 x.k]] w (OneB (rangeB x) w) := by
  obtain ⟨c, t, f, k⟩ := x
  obtain ⟨h1, h2, h3, h4⟩ := hx
  dsimp only at *
  by_cases e1 : c = 32
  · subst e1
    by_cases h5 : k % 4 = 0
    · have b1 : ((k : Int) % 4 == 0) = true := by simp; omega
      have hR : rangeB ⟨32, t, f, k⟩ = decide ((k : Int) ≤ 60) := by
        rw [Bool.eq_iff_iff]; simp [rangeB, h5]; omega
      rw [hR]
      clear h5 hR
      go_enter Try.func59, Try.ntmps59
      go_wp2
      all_goals
        go_ret
        exact ⟨rfl, one_below _ _⟩
    · have b1 : ((k : Int) % 4 == 0) = false := by simp; omega
      have hR : rangeB ⟨32, t, f, k⟩ = false := by simp [rangeB, h5]
      rw [hR]
      clear h5 hR
      go_enter Try.func59, Try.ntmps59
      go_wp2
      go_ret
      exact ⟨rfl, one_below _ _⟩
  · by_cases e2 : c = 96 ∨ c = 97 ∨ c = 2 ∨ c = 3
    · have hR : rangeB ⟨c, t, f, k⟩ = decide ((k : Int) < 16) := by
        rw [Bool.eq_iff_iff]; simp only [rangeB, if_neg e1, if_pos e2, decide_eq_true_eq]; omega
      rw [hR]
      clear e1 hR
      rcases e2 with rfl | rfl | rfl | rfl
      all_goals
        go_enter Try.func59, Try.ntmps59
        go_wp2
        go_ret
        exact ⟨rfl, one_below _ _⟩
    · by_cases e3 : c = 52
      · subst e3
        have hR : rangeB ⟨52, t, f, k⟩ = ((k : Int) != 0) := by
          rw [Bool.eq_iff_iff]; simp [rangeB]
        rw [hR]
        clear e1 e2 hR
        go_enter Try.func59, Try.ntmps59
        go_wp2
        go_ret
        exact ⟨rfl, one_below _ _⟩
      · by_cases e4 : c = 100 ∨ c = 116
        · have hR : rangeB ⟨c, t, f, k⟩ = decide ((k : Int) < 32) := by
            rw [Bool.eq_iff_iff]; simp only [rangeB, if_neg e1, if_neg e2, if_neg e3, if_pos e4, decide_eq_true_eq]; omega
          rw [hR]
          clear e1 e2 e3 hR
          rcases e4 with rfl | rfl
          all_goals
            go_enter Try.func59, Try.ntmps59
            go_wp2
            go_ret
            exact ⟨rfl, one_below _ _⟩
        · have hR : rangeB ⟨c, t, f, k⟩ = true := by simp only [rangeB, if_neg e1, if_neg e2, if_neg e3, if_neg e4]
          rw [hR]
          have n0 : ((c : Int) == 32) = false := by simp; omega
          have n1 : ((c : Int) == 96) = false := by simp; omega
          have n2 : ((c : Int) == 97) = false := by simp; omega
          have n3 : ((c : Int) == 2) = false := by simp; omega
          have n4 : ((c : Int) == 3) = false := by simp; omega
          have n5 : ((c : Int) == 52) = false := by simp; omega
          have n6 : ((c : Int) == 100) = false := by simp; omega
          have n7 : ((c : Int) == 116) = false := by simp; omega
          clear e1 e2 e3 e4 hR
          go_enter Try.func59, Try.ntmps59
          go_wp2
          go_ret
          exact ⟨rfl, one_below _ _⟩
set_option maxRecDepth 100000 in
theorem max_one (p : Nat) (A : Option Addr) (cp : Nat) (w : World) (B : Nat) (h : Seg w B 1 1 A (ints [p])) : Calls Try.prog 58 #[.slice A 1 cp] w fun e w' => e = .returned (.int .i64 p) ∧ w = w' := by
  obtain ⟨b, o, rfl, _, hl, hc⟩ := h.pos (by omega)
  have c0 : w.cell? ⟨b, o, none⟩ = some (.int .i64 p) := hc 0 _ rfl
  clear h hc
  go_enter Try.func58, Try.ntmps58
  go_wp2
  go_loop [3, 4] (fun v i => v = .int .i64 p ∧ i = .int .i64 1) (fun _ _ => 0)
  case atStart => exact ⟨rfl, rfl⟩
  case round =>
    obtain ⟨rfl, rfl⟩ := hrel
    go_wp2
    go_ret
    exact ⟨rfl, rfl⟩
theorem max_if (p q : Nat) : (if p < q then (q : Int) else p) = max (p : Int) (q : Int) := by split <;> omega
set_option maxRecDepth 100000 in
theorem max_two (p q : Nat) (A : Option Addr) (cp : Nat) (w : World) (B : Nat) (h : Seg w B 1 2 A (ints [p, q])) (_hp : p ≤ 4295100000) (_hq : q ≤ 4295100000) : Calls Try.prog 58 #[.slice A 2 cp] w fun e w' => e = .returned (.int .i64 (max p q : Nat)) ∧ w = w' := by
  obtain ⟨b, o, rfl, _, hl, hc⟩ := h.pos (by omega)
  have c0 : w.cell? ⟨b, o, none⟩ = some (.int .i64 p) := hc 0 _ rfl
  have c1 : w.cell? ⟨b, o + 1, none⟩ = some (.int .i64 q) := hc 1 _ rfl
  have hm : ((max p q : Nat) : Int) = max (p : Int) (q : Int) := by omega
  rw [hm]
  clear h hc hm
  go_enter Try.func58, Try.ntmps58
  go_wp2
  go_loop [3, 4] (fun v i => (v = .int .i64 p ∧ i = .int .i64 1) ∨ (v = .int .i64 (max (p : Int) (q : Int)) ∧ i = .int .i64 2)) (fun _ i => 2 - (intOf i).toNat)
  case atStart => exact .inl ⟨rfl, rfl⟩
  case round =>
    rcases hrel with ⟨rfl, rfl⟩ | ⟨rfl, rfl⟩
    · go_wp2
      go_round
      case rel => exact .inr ⟨by rw [max_if], rfl⟩
      case measure => simp [intOf]
    · go_wp2
      go_ret
      exact ⟨rfl, rfl⟩
/-- Of a jump: does one of its ways go beyond the last? -/
def MaxPost (b : Nat) (w : World) (e : Ending) (w' : World) : Prop := e = .returned (.int .i64 b) ∧ w = w'
theorem max_ways (x : Ins) (a : Nat) (hx : x.ok) (ha : a ≤ 65536) (h5 : x.c % 8 = 5) (n : Nat) (han : a < n) : ∃ m : Nat, (jumpB x (n - a - 1) = decide (m < n)) ∧ m ≤ 4295100000 ∧
    ∀ (w : World) (B : Nat) (A : Option Addr) (cp : Nat), Seg w B 1 (ways x a).length A (ints (ways x a)) → Calls Try.prog 58 #[.slice A (ways x a).length cp] w (MaxPost m w) := by
  obtain ⟨c, t, f, k⟩ := x
  obtain ⟨h1, h2, h3, h4⟩ := hx
  dsimp only at *
  by_cases hc : c = 5
  · subst hc
    refine ⟨a + 1 + k, ?_, by omega, fun w B A cp h => ?_⟩
    · rw [Bool.eq_iff_iff]; simp [jumpB, rel]; omega
    · exact max_one _ A cp w B h
  · have hw : ways ⟨c, t, f, k⟩ a = [a + 1 + t, a + 1 + f] := by simp [ways, rel, h5, hc]
    rw [hw]
    refine ⟨max (a + 1 + t) (a + 1 + f), ?_, by omega, fun w B A cp h => ?_⟩
    · rw [Bool.eq_iff_iff]; simp [jumpB, rel, h5, hc]; omega
    · exact max_two _ _ A cp w B h (by omega) (by omega)
set_option maxRecDepth 100000 in
set_option maxHeartbeats 2000000 in
theorem alone_any (x : Ins) (a n : Nat) (w : World) (hx : x.ok) (ha : a < n) (hn : n ≤ 65536) :
    Calls Try.prog 36 #[.agg #[.int .u16 x.c, .int .u8 x.t, .int .u8 x.f, .int .u32 x.k], .int .i64 a, .int .i64 n] w (OneN .i64 (alone x (n - a - 1)) w) := by
  have hgo : ∀ b, b = rangeB x → ∀ g, g = jumpB x (n - a - 1) → ∀ kn, kn = knownB x.c → ∀ r, r = x.c % 8 → alone x (n - a - 1) = if kn = false then 208 else if g = false then 207 else if b = false then 204 else 0 := by
    rintro b rfl g rfl kn rfl r rfl; rfl
  have HNx := Lib.hid (fun (w : World) => next_any x a w hx (by omega))
  have HR := Lib.hid (fun (w : World) => range_any x w hx)
  have HK := Lib.hid (fun (w : World) => known_any x.c w hx.1)
  have HC := Lib.hid (fun (w : World) => class_any x.c w hx.1)
  have HM := Lib.hid (fun h5 => max_ways x a hx (by omega) h5 n ha)
  have HJ := Lib.hid (show x.c % 8 ≠ 5 → jumpB x (n - a - 1) = true from fun h5 => by simp [jumpB, h5])
  obtain ⟨b, hb⟩ : ∃ b, b = rangeB x := ⟨_, rfl⟩
  obtain ⟨kn, hkn⟩ : ∃ b, b = knownB x.c := ⟨_, rfl⟩
  obtain ⟨r, hr⟩ : ∃ b, b = x.c % 8 := ⟨_, rfl⟩
  obtain ⟨ws, hws⟩ : ∃ b, b = ways x a := ⟨_, rfl⟩
  rw [← hb] at HR
  rw [← hkn] at HK
  rw [← hr] at HC HM HJ
  rw [← hws] at HNx HM
  have HE := Lib.hid (fun g hg => hgo b hb g hg kn hkn r hr)
  obtain ⟨c, t, f, k⟩ := x
  clear hgo hb hkn hr hws hx
  dsimp only at *
  cases kn with
  | false =>
    rw [HE.out _ rfl]
    go_enter Try.func36, Try.ntmps36
    go_wp2_with fail
    refine (HK.out _).mono ?_
    rintro e w' ⟨rfl, rfl⟩
    go_wp2_with fail
    go_ret
    exact ⟨rfl, one_below _ _⟩
  | true =>
    by_cases h5 : r = 5
    · subst h5
      obtain ⟨m, hm, hml, hmax⟩ := HM.out rfl
      have HX := Lib.hid hmax
      rw [HE.out _ rfl, hm]
      clear hmax HE HM HJ hm
      by_cases hmn : m < n
      · have hd : ¬ (n : Int) ≤ (m : Int) := by omega
        have hd' : decide ((n : Int) ≤ (m : Int)) = false := by simp; omega
        rw [decide_eq_true hmn]
        clear hmn
        cases b
        all_goals
          go_enter Try.func36, Try.ntmps36
          go_wp2_with fail
          refine (HK.out _).mono ?_
          rintro e w' ⟨rfl, rfl⟩
          go_wp2_with fail
          refine (HC.out _).mono ?_
          rintro e w' ⟨rfl, rfl⟩
          go_wp2_with fail
          refine (HNx.out _).mono ?_
          rintro e w2 ⟨A, cp, rfl, _, hs, hb2⟩
          obtain ⟨q0, q1, q2, q3⟩ := box_cells hb2
          have Hb := Lib.hid (box_below hb2)
          have Hs := Lib.hid hs
          clear hb2 hs
          go_wp2_with fail
          refine (HX.out _ _ _ _ Hs.out).mono ?_
          rintro e w' ⟨rfl, rfl⟩
          go_wp2_with fail
          refine (HR.out _).mono ?_
          rintro e w3 ⟨rfl, hb3⟩
          have Hb3 := Lib.hid (Hb.out.trans (hb3.mono Hb.out.size))
          clear hb3
          go_wp2_with fail
          go_ret
          exact ⟨rfl, Hb3.out⟩
      · have hd : (n : Int) ≤ (m : Int) := by omega
        have hd' : decide ((n : Int) ≤ (m : Int)) = true := by simp; omega
        rw [decide_eq_false hmn]
        clear hmn
        go_enter Try.func36, Try.ntmps36
        go_wp2_with fail
        refine (HK.out _).mono ?_
        rintro e w' ⟨rfl, rfl⟩
        go_wp2_with fail
        refine (HC.out _).mono ?_
        rintro e w' ⟨rfl, rfl⟩
        go_wp2_with fail
        refine (HNx.out _).mono ?_
        rintro e w2 ⟨A, cp, rfl, _, hs, hb2⟩
        have Hb := Lib.hid (box_below hb2)
        have Hs := Lib.hid hs
        clear hb2 hs
        go_wp2_with fail
        refine (HX.out _ _ _ _ Hs.out).mono ?_
        rintro e w' ⟨rfl, rfl⟩
        go_wp2_with fail
        go_ret
        exact ⟨rfl, Hb.out⟩
    · have hb5 : ((r : Int) == 5) = false := by simp; omega
      rw [HE.out _ (HJ.out h5).symm]
      clear HE HM HJ h5
      cases b
      all_goals
        go_enter Try.func36, Try.ntmps36
        go_wp2_with fail
        refine (HK.out _).mono ?_
        rintro e w' ⟨rfl, rfl⟩
        go_wp2_with fail
        refine (HC.out _).mono ?_
        rintro e w' ⟨rfl, rfl⟩
        go_wp2_with fail
        refine (HR.out _).mono ?_
        rintro e w3 ⟨rfl, hb3⟩
        have Hb3 := Lib.hid (box_below hb3)
        clear hb3
        go_wp2_with fail
        go_ret
        exact ⟨rfl, Hb3.out⟩
end Go.Proofs.Ytnkffjdoillmaaa

