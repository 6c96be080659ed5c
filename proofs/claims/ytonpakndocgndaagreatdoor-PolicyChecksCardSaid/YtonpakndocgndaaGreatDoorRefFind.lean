/- The document's own look-ups: by name, by number. -/
import Derived.Test.YtonpakndocgndaaGreatDoorRef
namespace Go.Proofs.YtonpakndocgndaaGreatDoor
open Go.RowKit Go.Maps

/-- A search from the first row on: the first k rows don't hold; the next one does. -/
theorem find_hit (p : Row → Bool) (k : Nat) (hk : k < 30) (h : ∀ j, j < k → p (rowAt j) = false) (hp : p (rowAt k) = true) : rows.find? p = some (rowAt k) := by
  have hl : k < rows.length := by rw [rows_len]; exact hk
  have ha : ∀ j (hj : j < rows.length), rows[j] = rowAt j := by
    intro j hj
    rw [rowAt, List.getD_eq_getElem?_getD, List.getElem?_eq_getElem hj]; rfl
  rw [List.find?_eq_some_iff_getElem]
  refine ⟨hp, k, hl, ha k hl, fun j hj => ?_⟩
  rw [ha j (by omega), h j hj]; rfl
theorem find_miss (p : Row → Bool) (h : ∀ j, j < 30 → p (rowAt j) = false) : rows.find? p = none := by
  rw [List.find?_eq_none]
  intro x hx
  obtain ⟨j, hj, rfl⟩ := List.getElem_of_mem hx
  have := h j (by rw [rows_len] at hj; exact hj)
  rw [rowAt, List.getD_eq_getElem?_getD, List.getElem?_eq_getElem hj] at this
  simpa using this

set_option maxRecDepth 100000 in
set_option maxHeartbeats 1000000 in
theorem ref_find (n : Int) (w : World) : Calls Tryz.prog 29 #[.int .i64 n] w fun e w' =>
    e = .returned (.tuple #[refV ((byNum n).getD zeroRow), .bool (byNum n).isSome]) ∧ Below w.heap.size w w' := by
  go_enter Tryz.func29, Tryz.ntmps29
  go_wp2_with fail
  refine (ref_calls _).mono ?_
  rintro e w1 ⟨rfl, rfl⟩
  go_wp2_with fail
  go_loop [5] (fun i => ∃ k : Nat, k ≤ 30 ∧ i = .int .i64 k ∧ ∀ j, j < k → decide (((rowAt j).1 : Int) = n) = false) (fun i => 30 - (intOf i).toNat)
  case atStart => exact ⟨0, by omega, rfl, fun j hj => absurd hj (by omega)⟩
  case round =>
    obtain ⟨k, hk, rfl, hno⟩ := hrel
    have Hno := Lib.hid hno
    clear hno
    by_cases hlt : k < 30
    · have s0 : refTable[k * 3]? = some (.int .i64 (rowAt k).1) := ref_at k 0 hlt (by omega)
      have s1 : refTable[k * 3 + 1]? = some (.string ⟨(rowAt k).2.1.toArray⟩) := ref_at k 1 hlt (by omega)
      have s2 : refTable[k * 3 + 2]? = some (.int .i64 (rowAt k).2.2) := ref_at k 2 hlt (by omega)
      by_cases heq : ((rowAt k).1 : Int) = n
      · have hb : (((rowAt k).1 : Int) == n) = true := by simpa using heq
        have hf : byNum n = some (rowAt k) := find_hit _ k hlt Hno.out (by simpa using heq)
        have Hf := Lib.hid hf
        clear hf heq Hno
        go_wp2
        refine bodyPost_ret (v := .tuple #[.agg #[.int .i64 (rowAt k).1, .string ⟨(rowAt k).2.1.toArray⟩, .int .i64 (rowAt k).2.2], .bool true]) (by simp [results, Tryz.results29, go_sem]) rfl ⟨?_, ?_⟩
        · rw [Hf.out]; rfl
        · exact (((((Below.refl _ _).alloc (Nat.le_refl _) _).alloc (by simp) _)))
      · have hb : (((rowAt k).1 : Int) == n) = false := by simpa using heq
        have Hq := Lib.hid heq
        clear heq
        go_wp2
        go_round
        case rel => exact ⟨k + 1, by omega, by go_num, fun j hj => by
          by_cases e : j = k
          · subst e; simpa using Hq.out
          · exact Hno.out j (by omega)⟩
        case measure => simp [intOf]; omega
    · have Hf := Lib.hid (show byNum n = none from find_miss _ (fun j hj => Hno.out j (by omega)))
      clear Hno
      go_wp2
      refine bodyPost_ret (v := .tuple #[.agg #[.int .i64 0, .string ByteArray.empty, .int .i64 0], .bool false]) (by simp [results, Tryz.results29, go_sem]; rfl) rfl ⟨?_, ?_⟩
      · rw [Hf.out]; rfl
      · exact (((((Below.refl _ _).alloc (Nat.le_refl _) _).alloc (by simp) _)))
theorem toList_data (s : ByteArray) : s.toList = s.data.toList := ByteArray.toList_eq s

end Go.Proofs.YtonpakndocgndaaGreatDoor

