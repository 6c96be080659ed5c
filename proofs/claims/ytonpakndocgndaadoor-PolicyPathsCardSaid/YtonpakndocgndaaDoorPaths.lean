/- Any text, whether it may be a path: the walk. -/
import Derived.Test.YtonpakndocgndaaDoorAwake9
import Derived.Test.YtonpakndocgndaaDoorRefPath
import Derived.Test.YtonpakndocgndaaDoorRowU
namespace Go.Proofs.YtonpakndocgndaaDoor
open Go.RowKit
def pool9 : List Bs := [[47], [97], [98, 46, 99], [46], [46, 46], [97, 98, 99, 100, 101, 102, 103, 104, 105, 106, 107, 108, 109, 110], [97, 98, 99, 100, 101, 102, 103, 104, 105, 106, 107, 108, 109, 110, 111], [35], [32], [127]]
theorem pool9_at (x : Nat) (h : x < 10) : ∃ s, pool9[x]? = some s ∧ s.length ≤ 15 := by
  rcases (by omega : x = 0 ∨ x = 1 ∨ x = 2 ∨ x = 3 ∨ x = 4 ∨ x = 5 ∨ x = 6 ∨ x = 7 ∨ x = 8 ∨ x = 9) with rfl | rfl | rfl | rfl | rfl | rfl | rfl | rfl | rfl | rfl <;> exact ⟨_, rfl, by decide⟩
set_option maxHeartbeats 2000000 in
set_option maxRecDepth 100000 in
theorem walk_policyPaths (s : ByteArray) (A : Option Addr) (n cap : Nat) (zs : List Int) (w : World) (hsm : s.size ≤ maxLen) (hz : IsRow .u8 w A n cap zs) (hE : Env w) : Calls Tryd.prog 3 #[.string s, .slice A n cap] w (BoolPost true w) := by
  have HE := Lib.hid hE
  obtain ⟨l, hl, h256, hr, hm⟩ := row_u8 hz
  have hm2 : n ≤ 9223372036854775807 := hm
  have HL := Lib.hid hl
  have H256 := Lib.hid h256
  have HR := Lib.hid hr
  clear hE hz hl h256 hr
  obtain ⟨t, ht⟩ : ∃ t : Bs, s = ⟨t.toArray⟩ := ⟨s.data.toList, by simp⟩
  subst ht
  have hsz : (⟨t.toArray⟩ : ByteArray).size = t.length := by rw [Lib.size_eq]
  by_cases h3 : 300 < t.length
  · have g3 : (300 : Int) < (t.length : Int) := by omega
    have d3 : decide ((300 : Int) < (t.length : Int)) = true := decide_eq_true g3
    clear h3 hsm
    go_enter Tryd.func3, Tryd.ntmps3
    go_wp2_with fail
    refine (awake_any _ HE.out).mono ?_
    rintro e w1 ⟨rfl, hb1⟩
    go_wp2_with fail
    go_ret
    exact ⟨rfl, hb1⟩
  have g3 : ¬ (300 : Int) < (t.length : Int) := by omega
  have d3 : decide ((300 : Int) < (t.length : Int)) = false := decide_eq_false g3
  have htl : t.length ≤ 300 := by omega
  clear h3 hsm
  go_enter Tryd.func3, Tryd.ntmps3
  go_wp2_with fail
  refine (awake_any _ HE.out).mono ?_
  rintro e w1 ⟨rfl, hb1⟩
  have HB1 := Lib.hid hb1
  have h1s := hb1.size
  clear hb1
  go_wp2_with fail
  have hbk := Bk.new w1 9 #[.string ⟨#[47]⟩, .string ⟨#[97]⟩, .string ⟨#[98, 46, 99]⟩, .string ⟨#[46]⟩, .string ⟨#[46, 46]⟩, .string ⟨#[97, 98, 99, 100, 101, 102, 103, 104, 105, 106, 107, 108, 109, 110]⟩, .string ⟨#[97, 98, 99, 100, 101, 102, 103, 104, 105, 106, 107, 108, 109, 110, 111]⟩, .string ⟨#[35]⟩, .string ⟨#[32]⟩, .string ⟨#[127]⟩] (l := strs pool9) rfl
  have hb2 := HB1.out.alloc HB1.out.size (.cells #[.string ⟨#[47]⟩, .string ⟨#[97]⟩, .string ⟨#[98, 46, 99]⟩, .string ⟨#[46]⟩, .string ⟨#[46, 46]⟩, .string ⟨#[97, 98, 99, 100, 101, 102, 103, 104, 105, 106, 107, 108, 109, 110]⟩, .string ⟨#[97, 98, 99, 100, 101, 102, 103, 104, 105, 106, 107, 108, 109, 110, 111]⟩, .string ⟨#[35]⟩, .string ⟨#[32]⟩, .string ⟨#[127]⟩] 9)
  have hlt2 := hbk.lt
  generalize w1.alloc _ = w2 at hbk hb2 hlt2 ⊢
  have HB2 := Lib.hid hb2
  have HK := Lib.hid hbk
  clear hbk hb2 HB1 g3 d3
  go_loop [6, 17] (fun pv iv => ∃ (k : Nat) (p : Bs), iv = .int .i64 k ∧ pv = .string ⟨p.toArray⟩ ∧ k ≤ n ∧ p.length ≤ 1 + 15 * min k 30) (fun _ iv => n - (intOf iv).toNat)
  case atStart => exact ⟨0, [47], rfl, rfl, Nat.zero_le _, by simp⟩
  case round =>
    obtain ⟨k, p, rfl, rfl, hk, hp⟩ := hrel
    by_cases hlt : k < n
    · obtain ⟨x, hx⟩ : ∃ x, l[k]? = some x := ⟨_, List.getElem?_eq_getElem (by have := HL.out; omega)⟩
      have hx256 := H256.out x (List.mem_of_getElem? hx)
      obtain ⟨b, o, rfl, hbl, hc⟩ := (HR.out.below HB2.out).pos (by omega)
      have c1 := hc k _ (u8s_at hx)
      clear hc hx
      by_cases h30 : k < 30
      · have g30 : (k : Int) < 30 := by omega
        obtain ⟨q, hq, hq15⟩ := pool9_at (x % 10) (by omega)
        have hrm : Int.tmod (x : Int) 10 = ((x % 10 : Nat) : Int) := by rw [Int.tmod_eq_emod_of_nonneg (by omega)]; omega
        obtain ⟨r, hr⟩ : ∃ r, r = x % 10 := ⟨_, rfl⟩
        have hr10 : r < 10 := by omega
        rw [← hr] at hq hrm
        have c2 := HK.out.cell r (strs_at hq)
        have hwr : IntKind.i64.wrap (r : Int) = (r : Int) := IntWalk.i64_in _ (by omega)
        clear hr
        go_wp2_with fail
        go_round
        case rel => exact ⟨k + 1, p ++ q, by go_num, by first | rfl | simp, by omega, by simp; omega⟩
        case measure => simp [intOf]; omega
      · have g30 : ¬ (k : Int) < 30 := by omega
        go_wp2_with fail
        go_round
        case rel => exact ⟨k + 1, p, by go_num, rfl, by omega, by omega⟩
        case measure => simp [intOf]; omega
    · have hp2 : p.length ≤ 451 := by omega
      have HP := Lib.hid hp2
      clear hp
      go_wp2_with fail
      refine (path_any t _ (by unfold maxLen; omega) (HE.out.below HB2.out)).mono ?_
      rintro e w3 ⟨rfl, hb3⟩
      have HB3 := Lib.hid (HB2.out.trans (hb3.mono HB2.out.size))
      clear hb3
      go_wp2_with fail
      refine (refPath_any t _ (by unfold maxLen; omega)).mono ?_
      rintro e w4 ⟨rfl, hb4⟩
      have HB4 := Lib.hid (HB3.out.trans (hb4.mono HB3.out.size))
      clear hb4 HB3
      go_wp2_with fail
      refine (path_any p _ (by have := HP.out; unfold maxLen; omega) (HE.out.below HB4.out)).mono ?_
      rintro e w5 ⟨rfl, hb5⟩
      have HB5 := Lib.hid (HB4.out.trans (hb5.mono HB4.out.size))
      clear hb5 HB4
      go_wp2_with fail
      refine (refPath_any p _ (by have := HP.out; unfold maxLen; omega)).mono ?_
      rintro e w6 ⟨rfl, hb6⟩
      have HB6 := Lib.hid (HB5.out.trans (hb6.mono HB5.out.size))
      clear hb6 HB5
      go_wp2_with fail
      go_ret
      exact ⟨by first | rfl | simp, HB6.out⟩
end Go.Proofs.YtonpakndocgndaaDoor
