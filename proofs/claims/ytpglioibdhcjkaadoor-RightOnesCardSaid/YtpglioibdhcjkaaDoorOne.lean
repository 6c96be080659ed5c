/- A right by its name: the table's sixteen names looked through. -/
import Derived.Test.YtpglioibdhcjkaaDoorBits
import Derived.Test.YtpglioibdhcjkaaDoorMath
namespace Go.Proofs.YtpglioibdhcjkaaDoor
open Go.RowKit

def namesV : Value := .agg ((List.range 16).map (fun i => Value.string ⟨(nm i).toArray⟩)).toArray
def NamesAt (w : World) : Prop := ∀ i, i < 16 → w.cell? ⟨0, i, none⟩ = some (.string ⟨(nm i).toArray⟩)
theorem NamesAt.pos {w : World} (h : NamesAt w) : 0 < w.heap.size := by
  have h0 := h 0 (by omega)
  rcases Nat.eq_zero_or_pos w.heap.size with e | e
  · simp [World.cell?, e] at h0
  · exact e
theorem NamesAt.below {w w' : World} (h : NamesAt w) (b : Below w.heap.size w w') : NamesAt w' := fun i hi => (b.cell (p := ⟨0, i, none⟩) h.pos).trans (h i hi)
theorem nm_index (w : World) (i : Nat) (h : i < 16) : (Instr.index 58 namesV (.int .i64 (i : Int))).run Tryd.prog w = .ok (.string ⟨(nm i).toArray⟩) w := by
  rcases (by omega : i = 0 ∨ i = 1 ∨ i = 2 ∨ i = 3 ∨ i = 4 ∨ i = 5 ∨ i = 6 ∨ i = 7 ∨ i = 8 ∨ i = 9 ∨ i = 10 ∨ i = 11 ∨ i = 12 ∨ i = 13 ∨ i = 14 ∨ i = 15) with rfl | rfl | rfl | rfl | rfl | rfl | rfl | rfl | rfl | rfl | rfl | rfl | rfl | rfl | rfl | rfl <;> kernel_rfl
theorem nm_load (w : World) (h : NamesAt w) : (loadVar 58 ⟨0, 0, none⟩).run Tryd.prog w = .ok namesV w := by
  have hl : (loadCells ⟨0, 0, none⟩ 16).run Tryd.prog w = .ok ((List.range 16).map (fun i => Value.string ⟨(nm i).toArray⟩)).toArray w :=
    run_loadCells (P := Tryd.prog) w ⟨0, 0, none⟩ 16 _ (fun j hj => by
      have hadd : (⟨0, 0, none⟩ : Addr).add j = ⟨0, j, none⟩ := by unfold Addr.add; split <;> simp_all
      rw [hadd]; exact h j hj)
  have hq : (Tryd.prog.info? 58).map (·.size) = some 16 := by kernel_rfl
  cases hi : Tryd.prog.info? 58 with
  | none => simp [hi] at hq
  | some i =>
    have hs : i.size = 16 := by simpa [hi] using hq
    have hagg : (isAgg 58).run Tryd.prog w = .ok true w := by
      unfold isAgg
      rw [Sem.run_bind, run_underlying Tryd.underlying58 w]
      rfl
    simp only [loadVar, Sem.run_bind, hagg, sizeOf, typeInfo]
    simp [hi, hs, hl, namesV]

theorem wpList_load_names {ops : Array Oper} {rest : List Oper} {o : Oper} {a : Act} {w : World} {Q : Exit → Act → World → Prop} (hgd : o.guard = none) (x : Operand) (ho : o.op = .load 58 x)
    (hx : a.eval x = .pointer (some ⟨0, 0, none⟩)) (hN : NamesAt w) (h : wpList Tryd.prog ops Q rest (a.put o.dst namesV) w) : wpList Tryd.prog ops Q (o :: rest) a w :=
  wpList_plain hgd fun _ hK => by
    unfold Oper.wp execOp
    simp only [ho, hx, Instr.loadAt, Instr.sureAddr, Sem.run_bind, Sem.run_pure, Result.andThen_ok, nm_load w hN]
    exact hK _ _ h
theorem toList_data (s : ByteArray) : s.toList = s.data.toList := ByteArray.toList_eq s

set_option maxRecDepth 100000 in
set_option maxHeartbeats 1000000 in
theorem one_any (s : ByteArray) (w : World) (h : NamesAt w) (p : Addr) : Calls Tryd.prog 14 #[.pointer (some p), .string s] w fun e w' =>
    e = .returned (.tuple #[.int .u16 (oneV s.data.toList : Nat), .bool (idx s.data.toList).isSome]) ∧ w = w' := by
  have H := Lib.hid h
  clear h
  by_cases h0 : s.size = 0
  · obtain rfl : s = ByteArray.empty := ByteArray.size_eq_zero_iff.1 h0
    go_enter Tryd.func14, Tryd.ntmps14
    go_wp2_with fail
    go_ret2
    exact ⟨rfl, rfl⟩
  · have hE : s.toList.isEmpty = false := by
      rw [ByteArray.toList_eq]
      cases h : s.data.toList with
      | nil => exact absurd (show s.size = 0 from congrArg List.length h) h0
      | cons a l => rfl
    have hE2 : ¬ s.toList = [] := by intro h; rw [h] at hE; simp at hE
    have Hne := Lib.hid (show s.data.toList ≠ [] by rw [← toList_data]; exact hE2)
    clear h0
    go_enter Tryd.func14, Tryd.ntmps14
    go_wp2_with (refine wpList_load_names rfl _ rfl rfl H.out ?_)
    go_loop [15] (fun i => ∃ k : Nat, k ≤ 16 ∧ i = .int .i64 k ∧ Hid (∀ j, j < k → nm j ≠ s.data.toList)) (fun i => 16 - (intOf i).toNat)
    case atStart => exact ⟨0, by omega, rfl, fun j hj => absurd hj (by omega)⟩
    case round =>
      obtain ⟨k, hk, rfl, Hno⟩ := hrel
      by_cases hlt : k < 16
      · have hix := fun w => nm_index w k hlt
        by_cases heq : nm k = s.data.toList
        · have hb : (nm k == s.toList) = true := by rw [toList_data, heq]; simp
          have hf : idx s.data.toList = some k := idx_hit hlt heq Hne.out
          have Hf := Lib.hid hf
          clear hf heq Hno
          go_wp2_with (go_at_call 24; refine (bit_any _ _ hlt).mono ?_; rintro e w' ⟨rfl, rfl⟩)
          go_ret2
          refine ⟨?_, rfl⟩
          unfold oneV
          rw [Hf.out]; rfl
        · have hb : (nm k == s.toList) = false := by rw [toList_data]; simpa using heq
          have Hq := Lib.hid heq
          clear heq
          go_wp2_with fail
          go_round
          case rel => exact ⟨k + 1, by omega, by go_num, fun j hj => by
            by_cases e : j = k
            · subst e; exact Hq.out
            · exact Hno.out j (by omega)⟩
          case measure => simp [intOf]; omega
      · have Hf := Lib.hid (show idx s.data.toList = none from idx_none (fun i hi e => absurd e (Hno.out i (by omega))))
        clear Hno
        go_wp2_with fail
        go_ret2
        refine ⟨?_, rfl⟩
        unfold oneV
        rw [Hf.out]; rfl
theorem one_nil (s : ByteArray) (w : World) : Calls Tryd.prog 14 #[.pointer none, .string s] w fun e w' =>
    e = .returned (.tuple #[.int .u16 0, .bool false]) ∧ w = w' := by
  go_enter Tryd.func14, Tryd.ntmps14
  go_wp2_with fail
  go_ret2
  exact ⟨rfl, rfl⟩
end Go.Proofs.YtpglioibdhcjkaaDoor
