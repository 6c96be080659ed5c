/- The rights that a policy of small numbers grants its i-th thing. -/
import Derived.Test.YtonpakndocgndaaGreatDoorSmallA
import Derived.Deep.QuietTactic
import Derived.BigQuiet
namespace Go.Proofs.YtonpakndocgndaaGreatDoor
open Go.RowKit
def u16s (l : List Nat) : List Value := l.map fun (x : Nat) => Value.int .u16 x
theorem u16s_at {l : List Nat} {k x : Nat} (h : l[k]? = some x) : (u16s l)[k]? = some (.int .u16 x) := by simp [u16s, h]
def RgPost (hd kind : Nat) (w : World) (e : Ending) (w' : World) : Prop := (∃ r : Nat, e = .returned (.int .u16 r) ∧ r < 65536 ∧ (r ≠ 0 → grantB hd r kind = true)) ∧ Below w.heap.size w w'
theorem sub_and (h k y : Nat) : hasS h (y &&& h &&& k) = true ∧ hasS k (y &&& h &&& k) = true := by
  unfold hasS
  constructor
  · apply decide_eq_true
    apply Nat.eq_of_testBit_eq; intro i; simp only [Nat.testBit_and]; cases h.testBit i <;> cases y.testBit i <;> cases k.testBit i <;> rfl
  · apply decide_eq_true
    apply Nat.eq_of_testBit_eq; intro i; simp only [Nat.testBit_and]; cases h.testBit i <;> cases y.testBit i <;> cases k.testBit i <;> rfl
theorem grant_and (h k y : Nat) : y &&& h &&& k ≠ 0 → grantB h (y &&& h &&& k) k = true := fun hz => by
  unfold grantB
  rw [decide_eq_true hz, (sub_and h k y).1, (sub_and h k y).2]; rfl
theorem grant_and2 (h k : Nat) : h &&& k ≠ 0 → grantB h (h &&& k) k = true := fun hz => by
  have := grant_and h k h
  rw [Nat.and_self] at this
  exact this hz
set_option maxHeartbeats 2000000 in
set_option maxRecDepth 100000 in
theorem rights_any (i kind hd sB pB : Nat) (rl : List Nat) (A : Option Addr) (n c : Nat) (w : World) (hi : i ≤ 9223372036854775807) (hk : kind < 65536) (hh : hd < 65536) (hl : rl.length = n) (h16 : ∀ x ∈ rl, x < 65536) (hn : n ≤ maxLen) (hr : Rd w 1 n A (u16s rl))
    (c6 : w.cell? ⟨sB, 6, none⟩ = some (.slice A n c)) (c3 : w.cell? ⟨pB, 3, none⟩ = some (.int .u16 hd)) :
    Calls Tryz.prog 18 #[.int .i64 i, .int .u16 kind, .pointer (some ⟨sB, 0, none⟩), .pointer (some ⟨pB, 0, none⟩)] w (RgPost hd kind w) := by
  have hn' : n ≤ 9223372036854775807 := hn
  by_cases hge : n ≤ i
  · have g1 : (n : Int) ≤ (i : Int) := by omega
    have hand := u16_and_nat hd kind hh hk
    have HG := Lib.hid (grant_and2 hd kind)
    have hlt : hd &&& kind < 65536 := Nat.lt_of_le_of_lt Nat.and_le_left hh
    obtain ⟨q, hq⟩ : ∃ q, q = hd &&& kind := ⟨_, rfl⟩
    rw [← hq] at hand HG hlt
    clear hq hge hr
    go_enter Tryz.func18, Tryz.ntmps18
    go_wp2_with fail
    go_ret
    exact ⟨⟨q, rfl, hlt, HG.out⟩, Below.refl _ _⟩
  · have g1 : ¬ (n : Int) ≤ (i : Int) := by omega
    obtain ⟨x, hx⟩ : ∃ x, rl[i]? = some x := ⟨_, List.getElem?_eq_getElem (by omega)⟩
    have hx16 := h16 x (List.mem_of_getElem? hx)
    obtain ⟨b, o, rfl, hbl, hc⟩ := hr.pos (by omega)
    have c0 := hc i _ (u16s_at hx)
    have hand := u16_and_nat x hd hx16 hh
    have hlt1 : x &&& hd < 65536 := Nat.lt_of_le_of_lt Nat.and_le_left hx16
    have hand2 := u16_and_nat (x &&& hd) kind hlt1 hk
    have HG := Lib.hid (grant_and hd kind x)
    have hlt : x &&& hd &&& kind < 65536 := Nat.lt_of_le_of_lt Nat.and_le_left hlt1
    obtain ⟨y, hy⟩ : ∃ y, y = x &&& hd := ⟨_, rfl⟩
    rw [← hy] at hand hand2 HG hlt
    obtain ⟨q, hq⟩ : ∃ q, q = y &&& kind := ⟨_, rfl⟩
    rw [← hq] at hand2 HG hlt
    have hin : i < n := by omega
    have hin2 : (i : Int) < (n : Int) := by omega
    clear hq hge hr hc hx hy hlt1
    go_enter Tryz.func18, Tryz.ntmps18
    go_wp2_with fail
    go_quiet (fail)
    go_wp2_with fail
    go_ret
    exact ⟨⟨q, rfl, hlt, HG.out⟩, below_drewN (Below.refl _ _) _⟩
set_option maxRecDepth 100000 in
theorem dirs_any (w : World) : Calls Tryz.prog 19 #[] w fun e w' => e = .returned (.slice (some ⟨w.heap.size, 0, none⟩) 6 6) ∧ Bk w' w.heap.size 9 (strs [[47], [47, 97], [47, 97, 47, 98], [47, 102], [47, 97, 47, 103], [47, 99]]) ∧ Below w.heap.size w w' := by
  go_enter Tryz.func19, Tryz.ntmps19
  go_wp2_with fail
  go_ret
  exact ⟨rfl, Bk.new w _ _ rfl, oneb w _⟩
end Go.Proofs.YtonpakndocgndaaGreatDoor
