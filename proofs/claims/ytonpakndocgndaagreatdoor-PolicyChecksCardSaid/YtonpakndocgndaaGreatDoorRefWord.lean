/- May a text be a name: the document's own way, by bytes. -/
import Derived.Test.YtonpakndocgndaaGreatDoorWord
import Derived.OpenShut
namespace Go.Proofs.YtonpakndocgndaaGreatDoor
open Go.RowKit

set_option maxRecDepth 100000 in
set_option maxHeartbeats 1000000 in
theorem refWord_any (s : ByteArray) (w : World) (hm : s.size ≤ maxLen) : Calls Tryz.prog 26 #[.string s] w (SaysWord s w) := by
  unfold maxLen at hm
  have Hno := Lib.hid (show (∃ i, ∃ h : i < s.size, ¬ goodP i (s[i]'h).toNat) → SaysWord s w (.returned (.bool false)) w from fun h => ⟨⟨false, rfl, by
    obtain ⟨i, hi, hg⟩ := h
    constructor
    · intro h; cases h
    · intro h; exact absurd (h.2.2 i hi) hg⟩, Below.refl _ _⟩)
  have Hlen := Lib.hid (show ¬ (1 ≤ s.size ∧ s.size ≤ 14) → SaysWord s w (.returned (.bool false)) w from fun h => ⟨⟨false, rfl, by
    constructor
    · intro h; cases h
    · intro k; exact absurd ⟨k.1, k.2.1⟩ h⟩, Below.refl _ _⟩)
  have Hyes := Lib.hid (show (1 ≤ s.size ∧ s.size ≤ 14) → (∀ i (h : i < s.size), goodP i (s[i]'h).toNat) → SaysWord s w (.returned (.bool true)) w from fun h k => ⟨⟨true, rfl, by simp only [true_iff]; exact ⟨h.1, h.2, k⟩⟩, Below.refl _ _⟩)
  go_enter Tryz.func26, Tryz.ntmps26
  go_wp2
  go_loop [3] (fun i => ∃ k : Nat, k ≤ s.size ∧ i = .int .i64 k ∧ ∀ i (h : i < s.size), i < k → goodP i (s[i]'h).toNat) (fun i => s.size - (intOf i).toNat)
  case atStart => exact ⟨0, by omega, rfl, fun i _ h => absurd h (by omega)⟩
  case round =>
    obtain ⟨k, hk, rfl, hgood⟩ := hrel
    have Hg := Lib.hid hgood
    clear hgood
    by_cases hlt : k < s.size
    · have hnext : goodP k (s[k]'hlt).toNat → Hid (∀ i (h : i < s.size), i < k + 1 → goodP i (s[i]'h).toNat) := fun hg i hi hlt => by
        by_cases e : i = k
        · subst e; exact hg
        · exact Hg.out i hi (by omega)
      have hbad := Hno.out
      have hbad2 : ¬ goodP k (s[k]'hlt).toNat → SaysWord s w (.returned (.bool false)) w := fun h => hbad ⟨k, hlt, h⟩
      have Hbad := Lib.hid hbad2
      have Hnext := Lib.hid hnext
      clear hbad hbad2 hnext
      have hb0 : (0 : Int) ≤ ((s[k]'hlt).toNat : Int) := by omega
      by_cases h97 : (97 : Int) ≤ ((s[k]'hlt).toNat : Int)
      · by_cases h122 : ((s[k]'hlt).toNat : Int) ≤ 122
        · have Hx := Hnext.out (show goodP k (s[k]'hlt).toNat by unfold goodP letterP behindP; omega)
          clear Hnext Hbad
          go_wp2_with fail
          go_round
          case rel => exact ⟨k + 1, by omega, by go_num, Hx.out⟩
          case measure => simp [intOf]; omega
        · have h122' : (122 : Int) < ((s[k]'hlt).toNat : Int) := by omega
          have h57 : ¬ ((s[k]'hlt).toNat : Int) ≤ 57 := by omega
          have h48 : (48 : Int) ≤ ((s[k]'hlt).toNat : Int) := by omega
          have h45 : (((s[k]'hlt).toNat : Int) != 45) = true := by simp; omega
          have h95 : (((s[k]'hlt).toNat : Int) != 95) = true := by simp; omega
          by_cases hz : k = 0
          · have hzi : ((k : Int) == 0) = true := by simp; omega
            have Hx := Lib.hid (Hbad.out (show ¬ goodP k (s[k]'hlt).toNat by unfold goodP letterP behindP; omega))
            clear Hnext Hbad hz
            go_wp2_with fail
            go_ret
            exact Hx.out
          · have hzi : ((k : Int) == 0) = false := by simp; omega
            have Hx := Lib.hid (Hbad.out (show ¬ goodP k (s[k]'hlt).toNat by unfold goodP letterP behindP; omega))
            clear Hnext Hbad
            go_wp2_with fail
            go_ret
            exact Hx.out
      · by_cases hz : k = 0
        · have hzi : ((k : Int) == 0) = true := by simp; omega
          have Hx := Lib.hid (Hbad.out (show ¬ goodP k (s[k]'hlt).toNat by unfold goodP letterP behindP; omega))
          clear Hnext Hbad hz
          go_wp2_with fail
          go_ret
          exact Hx.out
        · have hzi : ((k : Int) == 0) = false := by simp; omega
          by_cases h48 : (48 : Int) ≤ ((s[k]'hlt).toNat : Int)
          · by_cases h57 : ((s[k]'hlt).toNat : Int) ≤ 57
            · have Hx := Hnext.out (show goodP k (s[k]'hlt).toNat by unfold goodP letterP behindP; omega)
              clear Hnext Hbad
              go_wp2_with fail
              go_round
              case rel => exact ⟨k + 1, by omega, by go_num, Hx.out⟩
              case measure => simp [intOf]; omega
            · have h45 : (((s[k]'hlt).toNat : Int) != 45) = true := by simp; omega
              by_cases e95 : ((s[k]'hlt).toNat : Int) = 95
              · have h95 : (((s[k]'hlt).toNat : Int) != 95) = false := by simp; omega
                have Hx := Hnext.out (show goodP k (s[k]'hlt).toNat by unfold goodP letterP behindP; omega)
                clear Hnext Hbad e95
                go_wp2_with fail
                go_round
                case rel => exact ⟨k + 1, by omega, by go_num, Hx.out⟩
                case measure => simp [intOf]; omega
              · have h95 : (((s[k]'hlt).toNat : Int) != 95) = true := by simp; omega
                have Hx := Lib.hid (Hbad.out (show ¬ goodP k (s[k]'hlt).toNat by unfold goodP letterP behindP; omega))
                clear Hnext Hbad
                go_wp2_with fail
                go_ret
                exact Hx.out
          · have h95 : (((s[k]'hlt).toNat : Int) != 95) = true := by simp; omega
            by_cases e45 : ((s[k]'hlt).toNat : Int) = 45
            · have h45 : (((s[k]'hlt).toNat : Int) != 45) = false := by simp; omega
              have Hx := Hnext.out (show goodP k (s[k]'hlt).toNat by unfold goodP letterP behindP; omega)
              clear Hnext Hbad e45
              go_wp2_with fail
              go_round
              case rel => exact ⟨k + 1, by omega, by go_num, Hx.out⟩
              case measure => simp [intOf]; omega
            · have h45 : (((s[k]'hlt).toNat : Int) != 45) = true := by simp; omega
              have Hx := Lib.hid (Hbad.out (show ¬ goodP k (s[k]'hlt).toNat by unfold goodP letterP behindP; omega))
              clear Hnext Hbad
              go_wp2_with fail
              go_ret
              exact Hx.out
    · have hall : ∀ i (h : i < s.size), goodP i (s[i]'h).toNat := fun i h => Hg.out i h (by omega)
      have Hall := Lib.hid hall
      clear hall
      by_cases h1 : 1 ≤ s.size
      · by_cases h14 : s.size ≤ 14
        · have Hx := Lib.hid (Hyes.out ⟨h1, h14⟩ Hall.out)
          have i1 : (1 : Int) ≤ (s.size : Int) := by omega
          have i14 : (s.size : Int) ≤ 14 := by omega
          clear Hyes Hno Hlen
          go_wp2_with fail
          go_ret
          exact Hx.out
        · have Hx := Lib.hid (Hlen.out (by omega))
          have i1 : (1 : Int) ≤ (s.size : Int) := by omega
          have i14 : ¬ (s.size : Int) ≤ 14 := by omega
          clear Hyes Hno Hlen
          go_wp2_with fail
          go_ret
          exact Hx.out
      · have Hx := Lib.hid (Hlen.out (by omega))
        have i1 : ¬ (1 : Int) ≤ (s.size : Int) := by omega
        clear Hyes Hno Hlen
        go_wp2_with fail
        go_ret
        exact Hx.out
end Go.Proofs.YtonpakndocgndaaGreatDoor

