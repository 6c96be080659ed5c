/- A list of one, repeated. -/
import Derived.Test.YtnkffjdoillmaaaAlone
import Derived.Laws.CopyOwn
import Derived.Deep.RegionLaw
namespace Go.Proofs.Ytnkffjdoillmaaa
open Go.RowKit
theorem and_low (n : Nat) (h : n ≤ 65536) : bits .and .u64 (n : Int) 4294967295 = n := by
  rw [show (4294967295 : Int) = ((4294967295 : Nat) : Int) from rfl, u64_and_nat n 4294967295 (by omega) (by omega), Nat.and_two_pow_sub_one_eq_mod n 32]
  omega
set_option maxRecDepth 100000 in
theorem mul64_any (n : Nat) (w : World) (h : n ≤ 65536) : Calls Try.prog 83 #[.int .u64 1, .int .u64 n] w fun e w' => e = .returned (.tuple #[.int .u64 0, .int .u64 n]) ∧ w = w' := by
  have e1 : bits .and .u64 (1 : Int) 4294967295 = 1 := and_low 1 (by omega)
  have e2 := and_low n h
  have e3 : bits .and .u64 (0 : Int) 4294967295 = 0 := and_low 0 (by omega)
  have d1 : (n : Int) / 4294967296 = 0 := by omega
  go_enter Try.func83, Try.ntmps83
  go_wp2
  go_ret2
  exact ⟨rfl, rfl⟩
set_option maxRecDepth 100000 in
theorem mul_any (n : Nat) (w : World) (h : n ≤ 65536) : Calls Try.prog 73 #[.int .u64 1, .int .u64 n] w fun e w' => e = .returned (.tuple #[.int .u64 0, .int .u64 n]) ∧ w = w' := by
  go_enter Try.func73, Try.ntmps73
  go_wp2_with fail
  refine (mul64_any n _ h).mono ?_
  rintro e w' ⟨rfl, rfl⟩
  go_wp2_with fail
  go_ret2
  exact ⟨rfl, rfl⟩
theorem infoScr : (Try.prog.info? 128).map (fun i => (i.zero, i.size, i.bytes)) = some (some (.int .u16 0), 1, 2) := by kernel_rfl
theorem sizeScr : (Try.prog.info? 128).map (·.size) = some 1 := by kernel_rfl
def u16s (l : List Nat) : List Value := l.map fun (x : Nat) => Value.int .u16 x
theorem u16s_one (l : List Nat) : ∀ u ∈ u16s l, u.oneCell' = true := by
  intro u hu
  obtain ⟨x, _, rfl⟩ := List.mem_map.1 hu
  rfl
/-- As many of them as are laid, the others still zero. -/
def full (n m : Nat) : List Nat := List.replicate m 65535 ++ List.replicate (n - m) 0
theorem full_zero (n : Nat) : full n 0 = List.replicate n 0 := by simp [full]
theorem full_all (n : Nat) : full n n = List.replicate n 65535 := by simp [full]
theorem full_len {n m : Nat} (h : m ≤ n) : (full n m).length = n := by simp [full]; omega
theorem splice_rep {α : Type} (x y : α) {n m j : Nat} : splice (List.replicate m x ++ List.replicate (n - m) y) m (List.replicate j x) = List.replicate (m + j) x ++ List.replicate (n - (m + j)) y := by
  unfold splice
  rw [List.take_append_of_le_length (by simp), List.take_of_length_le (by simp), List.drop_append, List.drop_of_length_le (by simp), List.nil_append, ← List.append_assoc, List.replicate_append_replicate, List.drop_replicate]
  congr 2
  simp
  omega
theorem splice_full {n m j : Nat} : splice (u16s (full n m)) m (u16s (List.replicate j 65535)) = u16s (full n (m + j)) := by
  simp only [u16s, full, List.map_append, List.map_replicate]
  exact splice_rep _ _
theorem full_at {n m j : Nat} (hj : j < m) : (u16s (full n m))[j]? = some (.int .u16 65535) := by
  simp only [u16s, full, List.map_append, List.map_replicate]
  rw [List.getElem?_append_left (by simpa using hj)]
  simp [hj]
def RepPost (n : Nat) (w : World) (e : Ending) (w' : World) : Prop :=
  ∃ g, e = .returned (.slice (some ⟨g, 0, none⟩) n n) ∧ w.heap.size ≤ g ∧ Bk w' g 128 (u16s (List.replicate n 65535)) ∧ Below w.heap.size w w'
theorem rep_start {w w2 : World} {n b : Nat} (hb : b < w.heap.size) (hc : w.cell? ⟨b, 0, none⟩ = some (.int .u16 65535)) (hown2 : w2.ownsRow w.heap.size 128 1 (.slice (some ⟨w.heap.size, 0, none⟩) n n) n (madeCells (Value.int .u16 0).cells (n * 1)).toList) (hg2 : w.grownBy w2 none) :
    Hid (Bk w2 w.heap.size 128 (u16s (full n 0))) ∧ Hid (∀ j v, (u16s [65535])[j]? = some v → w2.cell? ((⟨b, 0, none⟩ : Addr).add j) = some v) ∧ Hid (Below w.heap.size w w2) := by
  have HB : Below w.heap.size w w2 := (Below.refl _ _).grown hg2 (Nat.le_refl _) (fun k hk => by cases hk)
  rw [show (Value.int .u16 0).cells = #[Value.int .u16 0] from rfl, toList_madeCells_one, Nat.mul_one] at hown2
  have hb2 := bk_full hown2
  rw [show List.replicate n (Value.int .u16 0) = u16s (full n 0) by simp [full_zero, u16s]] at hb2
  refine ⟨hb2, fun j v hv => ?_, HB⟩
  have hj : j < 1 := by simpa [u16s] using (List.getElem?_eq_some_iff.1 hv).1
  obtain rfl : j = 0 := by omega
  simp [u16s] at hv; subst hv
  simp only [Addr.add]
  exact (HB.cell (p := ⟨b, 0, none⟩) hb).trans hc
set_option maxRecDepth 100000 in
set_option maxHeartbeats 1000000 in
theorem repeat_any (n b : Nat) (w : World) (hn0 : 0 < n) (hn : n ≤ 65536) (hc : w.cell? ⟨b, 0, none⟩ = some (.int .u16 65535)) (hb : b < w.heap.size) :
    Calls Try.prog 60 #[.slice (some ⟨b, 0, none⟩) 1 1, .int .i64 n] w (RepPost n w) := by
  obtain ⟨i0, hi, hz0, hz1, hz2⟩ := info_parts infoScr
  have Hc := Lib.hid hc
  clear hc
  have hbig : decide ((9223372036854775807 : Int) < (n : Int)) = false := by simp; omega
  have hneg : decide ((n : Int) < 0) = false := by simp
  go_enter Try.func60, Try.ntmps60
  go_wp2_with fail
  refine (mul_any n _ hn).mono ?_
  rintro e w' ⟨rfl, rfl⟩
  go_wp2_with (first | (at_make; refine wpList_make_full _ rfl _ _ 126 rfl w.heap.size 128 i0 (.int .u16 0) 1 Try.underlying126 hi hz0 hz1 .i64 .i64 _ _ n rfl rfl (by omega) (by omega) (by rw [hz2]; omega) (by unfold maxLen; omega) (Nat.le_refl _) ?_; intro w2 hown2 hg2; obtain ⟨Hb2, Hs, HB⟩ := rep_start hb Hc.out hown2 hg2; clear hown2 hg2) | (refine wpList_copy_splice rfl (.tmp 31) (.tmp 32) 126 126 rfl 128 Try.underlying126 sizeScr _ _ _ _ _ _ rfl rfl w.heap.size 0 (u16s (full n 0)) 128 Hb2.out (u16s [65535]) (show 1 = Nat.min 1 n from (Nat.min_eq_left (by omega)).symm) (fun _ => ⟨rfl, _, rfl, Hs.out⟩) (by simp [u16s, full_len]; omega) (u16s_one _) w.heap.size w HB.out (Nat.le_refl _) ?_; intro w4 hg4 hb4; clear Hb2 Hs HB))
  have Hg4 := Lib.hid (show Bk w4 w.heap.size 128 (u16s (full n 1)) from (splice_full (n := n) (m := 0) (j := 1)) ▸ hg4.out)
  have Hb4 := Lib.hid hb4
  clear hg4 hb4
  go_loopw [8] (fun i wr => ∃ k : Nat, 1 ≤ k ∧ k ≤ n ∧ i = .int .i64 k ∧ Hid (Bk wr w.heap.size 128 (u16s (full n k))) ∧ Hid (Below w.heap.size w wr)) (fun i _ => n - (intOf i).toNat)
  case atStart => exact ⟨1, by omega, by omega, rfl, Hg4, Hb4⟩
  case round =>
    obtain ⟨k, hk1, hk, rfl, HB, Hb⟩ := hrel
    by_cases hlt : k < n
    · obtain ⟨j, hj⟩ : ∃ j, j = Nat.min k (n - k) := ⟨_, rfl⟩
      have hj2 : j ≤ k ∧ j ≤ n - k ∧ 1 ≤ j := by rw [hj]; exact ⟨Nat.min_le_left _ _, Nat.min_le_right _ _, Nat.le_min.2 ⟨hk1, by omega⟩⟩
      have Hj := Lib.hid hj
      have hne : ¬ n = k := by omega
      have Hsrc := Lib.hid (show ∀ i v, (u16s (List.replicate j 65535))[i]? = some v → wr.drew.cell? ((⟨w.heap.size, 0, none⟩ : Addr).add i) = some v from fun i v hv => by
        have hi : i < j := by simpa [u16s] using (List.getElem?_eq_some_iff.1 hv).1
        have h1 := HB.out.cell i (full_at (n := n) (m := k) (by omega))
        have h2 : v = .int .u16 65535 := by simpa [u16s, hi] using hv.symm
        subst h2
        rw [← h1]
        unfold Addr.add
        split
        · simp_all
        · simp)
      have hwr : IntKind.i64.wrap ((k : Int) + (j : Int)) = ((k + j : Nat) : Int) := by rw [IntWalk.i64_in _ (by omega)]; rfl
      clear hj
      go_wp2_with fail
      go_region_law (refine step_copy_splice rfl (.tmp 41) (.tmp 44) 126 126 rfl 128 Try.underlying126 sizeScr (some ⟨w.heap.size, k, none⟩) (some ⟨w.heap.size, 0, none⟩) (n - k) (n - k) k n (by simp only [Act.put, List.getElem_toArray, List.getElem_cons_succ, List.getElem_cons_zero, List.setIfInBounds_toArray, List.set_cons_zero, List.set_cons_succ]; rfl) (by simp only [Act.put, List.getElem_toArray, List.getElem_cons_succ, List.getElem_cons_zero, List.setIfInBounds_toArray, List.set_cons_zero, List.set_cons_succ]; rfl) w.heap.size k (u16s (full n k)) 128 HB.out.drew (u16s (List.replicate j 65535)) (by simp only [u16s, List.length_map, List.length_replicate]; exact Hj.out) (fun _ => ⟨rfl, _, rfl, Hsrc.out⟩) (by simp [u16s, full_len hk]; omega) (u16s_one _) w.heap.size w Hb.out.drew (Nat.le_refl _) ?_; intro w4 hg4 hb4; rw [show (u16s (List.replicate j 65535)).length = j by simp [u16s]])
      have Hg4 := Lib.hid (show Bk w4 w.heap.size 128 (u16s (full n (k + j))) from splice_full (n := n) (m := k) (j := j) ▸ hg4.out)
      have Hb4 := Lib.hid hb4
      clear hg4 hb4 hwr
      simp only [Act.put, List.getElem_toArray, List.getElem_cons_succ, List.getElem_cons_zero, List.setIfInBounds_toArray, List.set_cons_zero, List.set_cons_succ]
      go_wp2_with fail
      go_roundw
      case rel => exact ⟨k + j, by omega, by omega, by go_num, Hg4, Hb4⟩
      case measure => simp [intOf]; omega
    · obtain rfl : k = n := by omega
      go_wp2_with fail
      go_ret
      exact ⟨_, rfl, Nat.le_refl _, (by rw [← full_all]; exact HB.out), Hb.out⟩
end Go.Proofs.Ytnkffjdoillmaaa

