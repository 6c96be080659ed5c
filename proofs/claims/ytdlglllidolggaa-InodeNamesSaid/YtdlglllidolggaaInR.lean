/- The fixed fact; a nil table. -/
import Derived.Test.YtdlglllidolggaaInQ
import Derived.Test.YtdlglllidolggaaRowU
import Derived.Deep.QuietTactic
import Derived.BigQuiet
namespace Go.Proofs.Ytdlglllidolggaa.In
open Go.RowKit Go.Maps Go.WideMaps
theorem exLive : Live exB := by
  have h1 : ∀ d, d ≠ 1 → d ≠ 2 → (exB.nd d).L = [] := fun d h1 h2 => by
    show ((addF exA 1 [98] 2).2.nd d).L = []
    rw [show (addF exA 1 [98] 2).2 = addedT exA 1 [98] 2 from by unfold addF; rw [if_neg (by decide), if_neg (by decide), if_neg (by decide), if_neg (by decide), if_neg (by decide)]]
    unfold addedT chg
    simp only [upd]
    rw [if_neg h2, if_neg h1]
    show ((makeF (newT 9) 0 1 [97] 1 ⟨#[]⟩).2.2.nd d).L = []
    rw [show (makeF (newT 9) 0 1 [97] 1 ⟨#[]⟩).2.2 = madeT (newT 9) 1 [97] 1 ⟨#[]⟩ 2 from by rfl]
    unfold madeT chg newT
    simp only [upd]
    rw [if_neg h2, if_neg h1, if_neg h1]
    rfl
  intro d e he
  by_cases d1 : d = 1
  · subst d1
    have h : (exB.nd 1).L = [([97], 2), ([98], 2)] := by decide
    rw [h] at he
    simp only [List.mem_cons, List.not_mem_nil, or_false] at he
    rcases he with rfl | rfl
    · exact ⟨by decide, by decide⟩
    · exact ⟨by decide, by decide⟩
  · by_cases d2 : d = 2
    · subst d2
      have h : (exB.nd 2).L = [] := by decide
      rw [h] at he; cases he
    · rw [h1 d d1 d2] at he; cases he
theorem small_str (a : Array UInt8) (h : a.size ≤ 100) : (⟨a⟩ : ByteArray).size ≤ maxLen := by unfold maxLen; show a.size ≤ _; omega
set_option maxRecDepth 100000 in
set_option maxHeartbeats 2000000 in
theorem awake_any (w : World) : Calls Try.prog 9 #[] w (BoolP true w) := by
  go_enter Try.func9, Try.ntmps9
  go_wp2_with fail
  refine (new_any w 9 (by decide)).mono ?_
  rintro e w1 ⟨tb, rfl, htb, ⟨A, nb, mb, h⟩, hb⟩
  have HB := Lib.hid hb
  clear hb
  have hm := make_any h (i := 1) (k := 1) (by decide) (by decide) ⟨#[97]⟩ ⟨#[]⟩ (small_str _ (by decide)) (small_str _ (by decide)) (by decide) 0 (fun e => by cases e)
  clear h
  go_wp2_with fail
  refine hm.mono ?_
  rintro e w2 ⟨rfl, ⟨A2, nb2, mb2, h2⟩, hF2⟩
  rw [show (makeF (newT 9) 0 1 (⟨#[97]⟩ : ByteArray).data.toList 1 ⟨#[]⟩).1 = 2 from ex2.1, show (makeF (newT 9) 0 1 (⟨#[97]⟩ : ByteArray).data.toList 1 ⟨#[]⟩).2.1 = 0 from ex2.2]
  have h2 : TabR w2 w.heap.size tb exA A2 nb2 mb2 := h2
  have HB2 := Lib.hid (HB.out.trans (hF2.below HB.out.size))
  have ha := add_any h2 (i := 1) (n := 2) (by decide) (by decide) ⟨#[98]⟩ (small_str _ (by decide)) (by decide)
  clear hm h2 hF2
  go_wp2_with fail
  refine ha.mono ?_
  rintro e w3 ⟨rfl, h3, hF3⟩
  rw [show (addF exA 1 (⟨#[98]⟩ : ByteArray).data.toList 2).1 = 0 from ex3]
  have h3 : TabR w3 w.heap.size tb exB A2 nb2 mb2 := h3
  have HB3 := Lib.hid (HB2.out.trans (hF3.below HB2.out.size))
  have hd := drop_any h3 (i := 1) (by decide) ⟨#[97]⟩ (small_str _ (by decide)) false exLive (by decide)
  clear ha h3 hF3
  go_wp2_with fail
  refine hd.mono ?_
  rintro e w4 ⟨rfl, h4, hF4⟩
  rw [show (dropF exB 1 (⟨#[97]⟩ : ByteArray).data.toList false).1 = 0 from ex4]
  have h4 : TabR w4 w.heap.size tb exC A2 nb2 mb2 := h4
  have HB4 := Lib.hid (HB3.out.trans (hF4.below HB3.out.size))
  have hg := get_yes h4 (n := 2) (by decide)
  have a6 := ndL h4 (n := 2) (by decide)
  rw [ex5.2] at a6
  obtain ⟨g, hgg⟩ : ∃ g, g = nb2 2 := ⟨_, rfl⟩
  rw [← hgg] at hg a6
  clear hd h4 hF4 hgg
  go_wp2_with fail
  refine hg.mono ?_
  rintro e w5 ⟨rfl, rfl⟩
  clear hg
  go_wp2
  go_ret
  exact ⟨rfl, HB4.out⟩
set_option maxRecDepth 100000 in
set_option maxHeartbeats 4000000 in
theorem walk_inodeNone (n : Int) (s u : ByteArray) (x : Option Addr) (len cap : Nat) (z : List Int) (at_ : Int) (w : World) (_ : (Lit.int .u16 n).wf = true) (_ : s.size ≤ maxLen) (_ : u.size ≤ maxLen) (_ : IsRow .u8 w x len cap z) (_ : (Lit.int .i64 at_).wf = true) :
    Calls Try.prog 6 #[.int .u16 n, .string s, .string u, .slice x len cap, .int .i64 at_] w (BoolP true w) := by
  go_enter Try.func6, Try.ntmps6
  go_wp2_with fail
  refine (awake_any w).mono ?_
  rintro e w1 ⟨rfl, hb⟩
  have Hb := Lib.hid hb
  clear hb
  go_wp2_with fail
  refine (look_nil _ _ _).mono ?_
  rintro e w2 ⟨rfl, rfl⟩
  go_wp2_with fail
  refine (make_nil _ _ _ _ _).mono ?_
  rintro e w2 ⟨rfl, rfl⟩
  go_wp2_with fail
  refine (entries_nil _ _).mono ?_
  rintro e w2 ⟨rfl, rfl⟩
  go_wp2_with fail
  refine (get_nil _ _).mono ?_
  rintro e w2 ⟨rfl, rfl⟩
  go_wp2_with fail
  refine (len_nil _).mono ?_
  rintro e w2 ⟨rfl, rfl⟩
  go_wp2_with fail
  refine (numbers_nil _).mono ?_
  rintro e w2 ⟨rfl, rfl⟩
  go_wp2_with fail
  refine (changes_nil _).mono ?_
  rintro e w2 ⟨rfl, rfl⟩
  go_wp2_with fail
  refine (add_nil _ _ _ _).mono ?_
  rintro e w2 ⟨rfl, rfl⟩
  go_wp2_with fail
  refine (drop_nil _ _ _ _).mono ?_
  rintro e w2 ⟨rfl, rfl⟩
  go_wp2_with fail
  refine (move_nil _ _ _ _ _).mono ?_
  rintro e w2 ⟨rfl, rfl⟩
  go_wp2_with fail
  refine (hold_nil _ _ _).mono ?_
  rintro e w2 ⟨rfl, rfl⟩
  go_wp2_with fail
  refine (within_nil _ _ _).mono ?_
  rintro e w3 ⟨rfl, hb3⟩
  have Hb3 := Lib.hid (Hb.out.trans (hb3.mono Hb.out.size))
  clear hb3
  go_wp2_with fail
  refine (write_nil _ _ _ _ _ _).mono ?_
  rintro e w2 ⟨rfl, rfl⟩
  go_wp2_with fail
  refine (cut_nil _ _ _).mono ?_
  rintro e w2 ⟨rfl, rfl⟩
  go_wp2
  go_ret
  exact ⟨rfl, Hb3.out⟩
end Go.Proofs.Ytdlglllidolggaa.In
