/- depth; Contains; Within. -/
import Derived.Test.YtdlglllidolggaaInI
namespace Go.Proofs.Ytdlglllidolggaa.In
open Go.RowKit Go.Maps Go.WideMaps
section
variable {w w' : World} {B tb A : Nat} {T : TrM} {nb mb : Nat → Nat}
def DepthP (w : World) (l : List Nat) (e : Ending) (w' : World) : Prop := e = .returned (.int .i64 ((l.length : Int) - 1)) ∧ Below w.heap.size w w'
theorem depth_any (h : TabR w B tb T A nb mb) {n : Nat} (hn : n ≤ 65535) {f : Nat} {l : List Nat} (hl : upO T f n = some l) (hf : f ≤ 1000) :
    Calls Try.prog 40 #[tP tb, .int .u16 n] w (DepthP w l) := by
  have hlen := upO_len hl
  go_enter Try.func40, Try.ntmps40
  go_wp2_with fail
  refine (up_any h hn hl hf).mono ?_
  rintro e w1 ⟨v, rfl, hown, hb⟩
  obtain ⟨A1, c1, rfl, _, _⟩ := own_form hown
  have Hb := Lib.hid hb
  clear hb hown
  obtain ⟨k, hk⟩ : ∃ k, k = l.length := ⟨_, rfl⟩
  rw [← hk] at hlen ⊢
  have Hk := Lib.hid hk
  clear hk
  go_wp2
  go_ret
  exact ⟨by rw [Hk.out]; rfl, Hb.out⟩
def IdxP (o : Nat) (l : List Nat) (w : World) (e : Ending) (w' : World) : Prop := ∃ r : Int, e = .returned (.int .i64 r) ∧ (0 ≤ r ↔ o ∈ l) ∧ w = w'
theorem u16s_at {l : List Nat} {k x : Nat} (h : l[k]? = some x) : (u16s l)[k]? = some (.int .u16 x) := by simp [u16s, h]
set_option maxHeartbeats 1000000 in
theorem index_any (l : List Nat) (A1 : Option Addr) (c o : Nat) (ho : o ≤ 65535) (hl : l.length ≤ 1000) (hR : Rd w 1 l.length A1 (u16s l)) :
    Calls Try.prog 72 #[.slice A1 l.length c, .int .u16 o] w (IdxP o l w) := by
  obtain ⟨N, hN⟩ : ∃ N, N = l.length := ⟨_, rfl⟩
  rw [← hN]
  have Hno' : o ∉ l → IdxP o l w (.returned (.int .i64 (-1))) w := fun h => ⟨-1, rfl, by simp [h], rfl⟩
  have Hyes' : ∀ k : Nat, l[k]? = some o → IdxP o l w (.returned (.int .i64 k)) w := fun k h => ⟨(k : Int), rfl, ⟨fun _ => List.mem_of_getElem? h, fun _ => Int.natCast_nonneg _⟩, rfl⟩
  have Hno := Lib.hid Hno'
  have Hyes := Lib.hid Hyes'
  clear Hno' Hyes'
  have hN2 : N ≤ 1000 := by omega
  have HN := Lib.hid hN
  have HR := Lib.hid hR
  clear hN hR hl
  go_enter Try.func72, Try.ntmps72
  go_wp2
  go_loop [8] (fun i => ∃ k : Nat, k ≤ N ∧ i = .int .i64 k ∧ ∀ j x, j < k → l[j]? = some x → x ≠ o) (fun i => N - (intOf i).toNat)
  case atStart => exact ⟨0, by omega, rfl, fun j _ h => absurd h (by omega)⟩
  case round =>
    obtain ⟨k, hk, rfl, hgood⟩ := hrel
    have Hg := Lib.hid hgood
    clear hgood
    by_cases hlt : k < N
    · obtain ⟨x, hx⟩ : ∃ x, l[k]? = some x := ⟨l[k]'(by rw [← HN.out]; exact hlt), List.getElem?_eq_getElem _⟩
      obtain ⟨b, q, hA, hbl, hc⟩ := HR.out.pos (by rw [← HN.out]; omega)
      have hcell := hc k _ (u16s_at hx)
      subst hA
      have Hx := Lib.hid hx
      clear hx hc
      by_cases e : x = o
      · subst e
        go_wp2
        go_ret
        exact Hyes.out k Hx.out
      · have eb : ((o : Int) == x) = false := by simp; omega
        have Hn := Lib.hid (show ∀ j y, j < k + 1 → l[j]? = some y → y ≠ o from fun j y hj hy => by
          by_cases e2 : j = k
          · subst e2; rw [Hx.out] at hy; cases hy; exact e
          · exact Hg.out j y (by omega) hy)
        clear e
        go_wp2
        go_round
        case rel => exact ⟨k + 1, by omega, by go_num, Hn.out⟩
        case measure => simp [intOf]; omega
    · have Hf : Hid (o ∉ l) := fun hm => by
        obtain ⟨j, hj⟩ := List.mem_iff_getElem?.1 hm
        have : j < l.length := (List.getElem?_eq_some_iff.1 hj).1
        exact Hg.out j o (by have := HN.out; omega) hj rfl
      go_wp2
      go_ret
      exact Hno.out Hf.out
theorem contains_any (l : List Nat) (A1 : Option Addr) (c o : Nat) (ho : o ≤ 65535) (hl : l.length ≤ 1000) (hR : Rd w 1 l.length A1 (u16s l)) :
    Calls Try.prog 48 #[.slice A1 l.length c, .int .u16 o] w fun e w' => e = .returned (.bool (decide (o ∈ l))) ∧ w = w' := by
  go_enter Try.func48, Try.ntmps48
  go_wp2_with fail
  refine (index_any l A1 c o ho hl hR).mono ?_
  rintro e w1 ⟨r, rfl, hr, rfl⟩
  have Hr := Lib.hid hr
  clear hr
  go_wp2
  go_ret
  refine ⟨?_, rfl⟩
  by_cases h : o ∈ l
  · have := Hr.out.2 h; simp [h, this]
  · have h2 : ¬ 0 ≤ r := fun k => h (Hr.out.1 k)
    simp [h, h2]
def BoolP (b : Bool) (w : World) (e : Ending) (w' : World) : Prop := e = .returned (.bool b) ∧ Below w.heap.size w w'
theorem within_any (h : TabR w B tb T A nb mb) {n o : Nat} (hn : n ≤ 65535) (ho : o ≤ 65535) {f : Nat} {l : List Nat} (hl : upO T f n = some l) (hf : f ≤ 1000) :
    Calls Try.prog 18 #[tP tb, .int .u16 n, .int .u16 o] w (BoolP (decide (o ∈ l)) w) := by
  have hlen := upO_len hl
  go_enter Try.func18, Try.ntmps18
  go_wp2_with fail
  refine (up_any h hn hl hf).mono ?_
  rintro e w1 ⟨v, rfl, hown, hb⟩
  obtain ⟨A1, c1, rfl, _, hR⟩ := own_form hown
  have Hb := Lib.hid hb
  clear hb hown
  have hct := contains_any l A1 c1 o ho (by omega) hR
  obtain ⟨bb, hbb⟩ : ∃ bb, bb = decide (o ∈ l) := ⟨_, rfl⟩
  rw [← hbb] at hct
  have HBB := Lib.hid hbb
  clear hR hbb
  go_wp2_with fail
  refine hct.mono ?_
  rintro e w2 ⟨rfl, rfl⟩
  clear hct
  go_wp2
  go_ret
  exact ⟨by rw [← HBB.out]; rfl, Hb.out⟩
theorem within_nil (w : World) (n o : Int) : Calls Try.prog 18 #[.pointer none, .int .u16 n, .int .u16 o] w (BoolP false w) := by
  have hup : Calls Try.prog 49 #[.pointer none, .int .u16 n] w fun e w' => e = .returned (.slice none 0 0) ∧ w = w' := by
    go_enter Try.func49, Try.ntmps49
    go_wp2_with (refine (dir_nil _ _).mono ?_; rintro e w' ⟨rfl, rfl⟩)
    go_loopg [5, 6, 7] 1 (fun g v d e wx => v = .slice none 0 0 ∧ e = .int .i64 2 ∧ w = wx)
    case atStart => exact ⟨rfl, rfl, rfl⟩
    case round =>
      obtain ⟨rfl, rfl, rfl⟩ := hrel
      go_wp2
      go_ret
      exact ⟨rfl, rfl⟩
  have hix : Calls Try.prog 48 #[.slice none 0 0, .int .u16 o] w fun e w' => e = .returned (.bool false) ∧ w = w' := by
    have hi : Calls Try.prog 72 #[.slice none 0 0, .int .u16 o] w fun e w' => e = .returned (.int .i64 (-1)) ∧ w = w' := by
      go_enter Try.func72, Try.ntmps72
      go_wp2
      go_loop [8] (fun i => i = .int .i64 0) (fun i => 0)
      case atStart => rfl
      case round =>
        obtain rfl := hrel
        go_wp2
        go_ret
        exact ⟨rfl, rfl⟩
    go_enter Try.func48, Try.ntmps48
    go_wp2_with (refine hi.mono ?_; rintro e w' ⟨rfl, rfl⟩)
    go_ret
    exact ⟨rfl, rfl⟩
  go_enter Try.func18, Try.ntmps18
  go_wp2_with fail
  refine hup.mono ?_
  rintro e w' ⟨rfl, rfl⟩
  go_wp2_with fail
  refine hix.mono ?_
  rintro e w' ⟨rfl, rfl⟩
  go_wp2
  go_ret
  exact ⟨rfl, Below.refl _ _⟩
end
end Go.Proofs.Ytdlglllidolggaa.In
