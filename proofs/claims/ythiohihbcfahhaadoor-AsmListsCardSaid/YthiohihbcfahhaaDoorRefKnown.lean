/- The document's own list of codes. -/
import Derived.Test.YthiohihbcfahhaaDoorSmall
import Derived.Below
namespace Go.Proofs.YthiohihbcfahhaaDoor
open Go.RowKit
def L1 : List Nat := [32, 0, 96, 128, 1, 97, 129, 2, 3, 6, 22, 7, 135, 5, 132]
def L2 : List Nat := [0, 16, 32, 48, 64, 80, 96, 112, 160]
def L1c : Array Value := (L1.map fun (n : Nat) => Value.int .i64 n).toArray
def L2c : Array Value := (L2.map fun (n : Nat) => Value.int .i64 n).toArray
theorem L1_at (k : Nat) (h : k < 15) : L1c[k]? = some (.int .i64 (L1.getD k 0 : Nat)) := by
  rcases (by omega : k = 0 ∨ k = 1 ∨ k = 2 ∨ k = 3 ∨ k = 4 ∨ k = 5 ∨ k = 6 ∨ k = 7 ∨ k = 8 ∨ k = 9 ∨ k = 10 ∨ k = 11 ∨ k = 12 ∨ k = 13 ∨ k = 14) with rfl | rfl | rfl | rfl | rfl | rfl | rfl | rfl | rfl | rfl | rfl | rfl | rfl | rfl | rfl <;> rfl
theorem L2_at (k : Nat) (h : k < 9) : L2c[k]? = some (.int .i64 (L2.getD k 0 : Nat)) := by
  rcases (by omega : k = 0 ∨ k = 1 ∨ k = 2 ∨ k = 3 ∨ k = 4 ∨ k = 5 ∨ k = 6 ∨ k = 7 ∨ k = 8) with rfl | rfl | rfl | rfl | rfl | rfl | rfl | rfl | rfl <;> rfl
/-- The codes are those of the three lists. -/
def No1 (n k : Nat) : Prop := ∀ j, j < k → n ≠ L1.getD j 0
def No2 (n k : Nat) : Prop := ∀ j, j < k → n ≠ L2.getD j 0 + 4 ∧ n ≠ L2.getD j 0 + 12
def No3 (n k : Nat) : Prop := ∀ j, j < k → n ≠ j * 16 + 21 ∧ n ≠ j * 16 + 29
theorem no1_step {n k : Nat} (h : No1 n k) (h2 : n ≠ L1.getD k 0) : No1 n (k + 1) := fun j hj => by
  rcases (by omega : j < k ∨ j = k) with h3 | rfl
  · exact h j h3
  · exact h2
theorem no2_step {n k : Nat} (h : No2 n k) (h2 : n ≠ L2.getD k 0 + 4) (h3 : n ≠ L2.getD k 0 + 12) : No2 n (k + 1) := fun j hj => by
  rcases (by omega : j < k ∨ j = k) with h4 | rfl
  · exact h j h4
  · exact ⟨h2, h3⟩
theorem no3_step {n k : Nat} (h : No3 n k) (h2 : n ≠ k * 16 + 21) (h3 : n ≠ k * 16 + 29) : No3 n (k + 1) := fun j hj => by
  rcases (by omega : j < k ∨ j = k) with h4 | rfl
  · exact h j h4
  · exact ⟨h2, h3⟩
theorem hit1 : ∀ k, k < 15 → knownB (L1.getD k 0) = true := by decide
theorem hit2 : ∀ k, k < 9 → knownB (L2.getD k 0 + 4) = true ∧ knownB (L2.getD k 0 + 12) = true := by decide
theorem hit3 : ∀ k, k < 4 → knownB (k * 16 + 21) = true ∧ knownB (k * 16 + 29) = true := by decide
theorem codes_split : ∀ n ∈ codesL, (∃ j, j < 15 ∧ n = L1.getD j 0) ∨ (∃ j, j < 9 ∧ (n = L2.getD j 0 + 4 ∨ n = L2.getD j 0 + 12)) ∨ (∃ j, j < 4 ∧ (n = j * 16 + 21 ∨ n = j * 16 + 29)) := by
  have h : codesL.all (fun n => (List.range 15).any (fun j => n == L1.getD j 0) || (List.range 9).any (fun j => n == L2.getD j 0 + 4 || n == L2.getD j 0 + 12) || (List.range 4).any (fun j => n == j * 16 + 21 || n == j * 16 + 29)) = true := by decide
  intro n hn
  have := List.all_eq_true.1 h n hn
  simpa [or_assoc] using this
theorem miss {n : Nat} (h1 : No1 n 15) (h2 : No2 n 9) (h3 : No3 n 4) : knownB n = false := not_known fun hn => by
  rcases codes_split n hn with ⟨j, hj, e⟩ | ⟨j, hj, e⟩ | ⟨j, hj, e⟩
  · exact h1 j hj e
  · rcases e with e | e
    · exact (h2 j hj).1 e
    · exact (h2 j hj).2 e
  · rcases e with e | e
    · exact (h3 j hj).1 e
    · exact (h3 j hj).2 e
theorem L1_lt : ∀ k, k < 15 → L1.getD k 0 < 256 := by decide
theorem L2_lt : ∀ k, k < 9 → L2.getD k 0 < 256 := by decide
/-- A block of numbers. -/
def Row (w : World) (b : Nat) (cs : Array Value) : Prop := w.heap[b]? = some (.cells cs 3 (0, 0))
theorem Row.cell {w : World} {b : Nat} {cs : Array Value} (h : Row w b cs) (i : Nat) (v : Value) (hv : cs[i]? = some v) : w.cell? ⟨b, i, none⟩ = some v := by
  unfold Row at h; simp [World.cell?, h, hv]
def KnownPost (n : Nat) (w : World) (e : Ending) (w' : World) : Prop := e = .returned (.bool (knownB n)) ∧ Below w.heap.size w w'
set_option maxRecDepth 100000 in
set_option maxHeartbeats 1000000 in
theorem refKnown_any (n : Nat) (w : World) (_h : n < 65536) : Calls Tryd.prog 66 #[.int .i64 n] w (KnownPost n w) := by
  go_enter Tryd.func66, Tryd.ntmps66
  go_wp2
  go_loopw [4] (fun i wr => ∃ k : Nat, k ≤ 15 ∧ i = .int .i64 k ∧ Hid (No1 n k) ∧ Hid (Row wr w.heap.size L1c) ∧ Hid (Below w.heap.size w wr)) (fun i _ => 15 - (intOf i).toNat)
  case atStart => exact ⟨0, by omega, rfl, fun j hj => absurd hj (by omega), heap_alloc_new _ _, (Below.refl _ _).alloc (Nat.le_refl _) _⟩
  case round =>
    obtain ⟨k, hk, rfl, Hn, Hr, Hb⟩ := hrel
    by_cases hlt : k < 15
    · have hv := L1_lt k hlt
      have hc := Hr.out.cell k _ (L1_at k hlt)
      have Hh := Lib.hid (hit1 k hlt)
      have hs := no1_step Hn.out (k := k)
      obtain ⟨v, hve⟩ : ∃ v, v = L1.getD k 0 := ⟨_, rfl⟩
      rw [← hve] at hv hc hs
      have Hv := Lib.hid hve
      clear hve
      by_cases hnv : v = n
      · have hb : ((v : Int) == (n : Int)) = true := by simp [hnv]
        have Hk := Lib.hid (show knownB n = true by rw [← hnv, Hv.out]; exact Hh.out)
        clear hnv hs
        go_wp2
        go_ret
        rw [KnownPost, Hk.out]
        exact ⟨rfl, Hb.out⟩
      · have hb : ((v : Int) == (n : Int)) = false := by simp; omega
        have Hs := Lib.hid (hs (fun e => hnv e.symm))
        clear hnv hs
        go_wp2
        go_roundw
        case rel => exact ⟨k + 1, by omega, by go_num, Hs, Hr, Hb⟩
        case measure => simp [intOf]; omega
    · obtain rfl : k = 15 := by omega
      have hz := Hb.out.size
      clear Hr
      go_wp2
      rename World => wk
      go_loopw [6] (fun i wr => ∃ k : Nat, k ≤ 9 ∧ i = .int .i64 k ∧ Hid (No2 n k) ∧ Hid (Row wr wk.heap.size L2c) ∧ Hid (Below w.heap.size w wr)) (fun i _ => 9 - (intOf i).toNat)
      case atStart => exact ⟨0, by omega, rfl, fun j hj => absurd hj (by omega), heap_alloc_new _ _, Hb.out.alloc hz _⟩
      case round =>
        obtain ⟨k, hk, rfl, Hn2, Hr, Hb2⟩ := hrel
        by_cases hlt : k < 9
        · have hv := L2_lt k hlt
          have hc := Hr.out.cell k _ (L2_at k hlt)
          have Hh := Lib.hid (hit2 k hlt)
          have hs := no2_step Hn2.out (k := k)
          obtain ⟨v, hve⟩ : ∃ v, v = L2.getD k 0 := ⟨_, rfl⟩
          rw [← hve] at hv hc hs
          have Hv := Lib.hid hve
          clear hve
          by_cases hnv : n = v + 4
          · have hb : ((n : Int) == (v : Int) + 4) = true := by simp; omega
            have Hk := Lib.hid (show knownB n = true by rw [hnv, Hv.out]; exact Hh.out.1)
            clear hnv hs
            go_wp2
            go_ret
            rw [KnownPost, Hk.out]
            exact ⟨rfl, Hb2.out⟩
          · have hb : ((n : Int) == (v : Int) + 4) = false := by simp; omega
            by_cases hnw : n = v + 12
            · have hb' : ((n : Int) == (v : Int) + 12) = true := by simp; omega
              have Hk := Lib.hid (show knownB n = true by rw [hnw, Hv.out]; exact Hh.out.2)
              clear hnv hnw hs
              go_wp2
              go_ret
              rw [KnownPost, Hk.out]
              exact ⟨rfl, Hb2.out⟩
            · have hb' : ((n : Int) == (v : Int) + 12) = false := by simp; omega
              have Hs := Lib.hid (hs hnv hnw)
              clear hnv hnw hs
              go_wp2
              go_roundw
              case rel => exact ⟨k + 1, by omega, by go_num, Hs, Hr, Hb2⟩
              case measure => simp [intOf]; omega
        · obtain rfl : k = 9 := by omega
          clear Hr
          go_wp2
          rename_i wq _ _ _ _
          go_loop [7] (fun i => ∃ k j : Nat, k ≤ 4 ∧ k * 16 + 16 ≤ j ∧ j ≤ k * 16 + 16 ∧ i = .int .i64 j ∧ Hid (No3 n k)) (fun i => 80 - (intOf i).toNat)
          case atStart => exact ⟨0, 16, by omega, by omega, by omega, rfl, fun j hj => absurd hj (by omega)⟩
          case round =>
            obtain ⟨k, j, hk, hj1, hj2, rfl, Hn3⟩ := hrel
            by_cases hlt : k < 4
            · have Hh := Lib.hid (hit3 k hlt)
              have hs := no3_step Hn3.out (k := k)
              by_cases hnv : n = k * 16 + 21
              · have hb : ((n : Int) == (j : Int) + 5) = true := by simp; omega
                have Hk := Lib.hid (show knownB n = true by rw [hnv]; exact Hh.out.1)
                clear hnv hs
                go_wp2
                go_ret
                rw [KnownPost, Hk.out]
                exact ⟨rfl, Hb2.out⟩
              · have hb : ((n : Int) == (j : Int) + 5) = false := by simp; omega
                by_cases hnw : n = k * 16 + 29
                · have hb' : ((n : Int) == (j : Int) + 13) = true := by simp; omega
                  have Hk := Lib.hid (show knownB n = true by rw [hnw]; exact Hh.out.2)
                  clear hnv hnw hs
                  go_wp2
                  go_ret
                  rw [KnownPost, Hk.out]
                  exact ⟨rfl, Hb2.out⟩
                · have hb' : ((n : Int) == (j : Int) + 13) = false := by simp; omega
                  have Hs := Lib.hid (hs hnv hnw)
                  clear hnv hnw hs
                  go_wp2
                  go_round
                  case rel => exact ⟨k + 1, j + 16, by omega, by omega, by omega, by go_num, Hs⟩
                  case measure => simp [intOf]; omega
            · obtain rfl : k = 4 := by omega
              have Hk := Lib.hid (miss Hn.out Hn2.out Hn3.out)
              go_wp2
              go_ret
              rw [KnownPost, Hk.out]
              exact ⟨rfl, Hb2.out⟩
end Go.Proofs.YthiohihbcfahhaaDoor

