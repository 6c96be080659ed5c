/- A table asked for a name, for a number, for its counts. -/
import Derived.Test.YtonpakndocgndaaGreatDoorLook
namespace Go.Proofs.YtonpakndocgndaaGreatDoor
open Go.RowKit Go.Maps Go.WideMaps Go.WideElems Go.ChangeMaps

theorem zeroCall (w : World) : (zeroValue 123).run Tryz.prog w = .ok (rowV zeroRow) w := by kernel_rfl

theorem TState.alloc {w : World} {b : Nat} {asked : Int} (h : TState w b asked) (o : Obj) : TState (w.alloc o) b asked := by
  rcases h with ⟨h0, h⟩ | h
  · exact .inl ⟨h0, h.alloc o⟩
  · exact .inr (h.kept (World.grownBy_alloc w o none) rfl)
theorem TState.lt {w : World} {b : Nat} {asked : Int} (h : TState w b asked) : b < w.heap.size := by
  rcases h with ⟨_, h⟩ | h <;> exact h.lt

/-- A store into a row of cells that is not the table's. -/
theorem Made.setOther {w : World} {b c : Nat} {asked : Int} (h : Made w b asked) (hc : c ≠ b) {cs : Array Value} {t : TypeId} {fz : Nat × Nat} (hr : w.heap[c]? = some (.cells cs t fz)) (a : Addr) (ha : a.block = c) (v : Value) : Made (w.setCell a v) b asked := by
  obtain ⟨m, n, hm, hn, hT, h1, h2⟩ := h
  have g := grown_setCell w a v
  rw [ha] at g
  have e1 : m ≠ c := by
    rintro rfl
    obtain ⟨_, _, hb, _⟩ := h1
    rw [hr] at hb; cases hb
  have e2 : n ≠ c := by
    rintro rfl
    obtain ⟨_, _, hb, _⟩ := h2
    rw [hr] at hb; cases hb
  exact ⟨m, n, hm, hn, hT.kept g (by simp; omega), h1.kept g (by simp; omega), h2.kept g (by simp; omega)⟩
theorem cells_setCell {w : World} {c : Nat} {cs : Array Value} {t : TypeId} {fz : Nat × Nat} (hr : w.heap[c]? = some (.cells cs t fz)) (j : Nat) (v : Value) :
    (w.setCell ⟨c, j, none⟩ v).heap[c]? = some (.cells (cs.setIfInBounds j v) t fz) := by
  simp [World.setCell, Array.getElem?_modify, hr]

/-- The answer's block is filled, and a variable made: the table stays as it is. -/
theorem made_filled {w w1 : World} {b : Nat} {asked : Int} {cs : Array Value} {t : TypeId} {fz : Nat × Nat} (hb : b < w.heap.size) (h : Made w1 b asked) (g : w.grownBy w1 (some b))
    (hr : w1.heap[w.heap.size]? = some (.cells cs t fz)) (x y z : Value) (o : Obj) :
    Made ((((w1.setCell ⟨w.heap.size, 0, none⟩ x).setCell ⟨w.heap.size, 1, none⟩ y).setCell ⟨w.heap.size, 2, none⟩ z).alloc o) b asked ∧
    w.grownBy ((((w1.setCell ⟨w.heap.size, 0, none⟩ x).setCell ⟨w.heap.size, 1, none⟩ y).setCell ⟨w.heap.size, 2, none⟩ z).alloc o) (some b) := by
  have hne : w.heap.size ≠ b := by omega
  have hr1 := cells_setCell hr 0 x
  have hr2 := cells_setCell hr1 1 y
  refine ⟨(((h.setOther hne hr _ rfl x).setOther hne hr1 _ rfl y).setOther hne hr2 _ rfl z).kept (World.grownBy_alloc _ _ none) rfl, ?_⟩
  have k : ∀ k, (some w.heap.size : Option Nat) = some k → (some b : Option Nat) = some k ∨ w.heap.size ≤ k := fun k hk => by cases hk; exact .inr (Nat.le_refl _)
  exact grown_trans (grown_trans (grown_trans (grown_trans g (grown_setCell _ _ x) k) (grown_setCell _ _ y) k) (grown_setCell _ _ z) k) (World.grownBy_alloc _ _ none) (by simp)

set_option maxRecDepth 100000 in
set_option maxHeartbeats 1000000 in
theorem numbered_any (b : Nat) (asked : Int) (x : Int) (w : World) (h : TState w b asked) (h0 : 0 ≤ asked) (h1 : asked < 4611686018427387904) (hs : (Lit.int .u32 x).wf = true) :
    Calls Tryz.prog 40 #[.pointer (some ⟨b, 0, none⟩), .int .u32 x] w fun e w' =>
      e = .returned (.tuple #[rowV ((byNum x).getD zeroRow), .bool (byNum x).isSome]) ∧ Made w' b (asked + 1) ∧ w.grownBy w' (some b) := by
  have hask := Lib.hid (ask_any b asked _ (h.alloc (.cells #[.int .u32 0, .string ByteArray.empty, .int .i64 0] 123)) h0 h1)
  have hb := h.lt
  clear h h0 h1
  go_enter Tryz.func40, Tryz.ntmps40
  go_wp2_with fail
  refine hask.out.mono ?_
  rintro e w1 ⟨rfl, hm, hg⟩
  have Hm := Lib.hid hm
  have hblk : w1.heap[w.heap.size]? = some (.cells #[.int .u32 0, .string ByteArray.empty, .int .i64 0] 123 (0, 0)) := by
    rw [hg.block w.heap.size (by simp) (by simp; have := hb; omega)]; exact (MapKept.heap_alloc w _).1
  have Hg := Lib.hid (show w.grownBy w1 (some b) from grown_trans (r := some b) (World.grownBy_alloc w _ _) hg (fun k hk => .inl hk))
  clear hask hg
  have hsz : w.heap.size < w1.heap.size := (Array.getElem?_eq_some_iff.1 hblk).1
  have q0 : w1.cell? ⟨w.heap.size, 0, none⟩ = some (.int .u32 0) := by simp [World.cell?, hblk]
  have q1 : w1.cell? ⟨w.heap.size, 1, none⟩ = some (.string ByteArray.empty) := by simp [World.cell?, hblk]
  have q2 : w1.cell? ⟨w.heap.size, 2, none⟩ = some (.int .i64 0) := by simp [World.cell?, hblk]
  have z0 : w1.frozen? ⟨w.heap.size, 0, none⟩ = false := by simp [World.frozen?, hblk]
  have z1 : w1.frozen? ⟨w.heap.size, 1, none⟩ = false := by simp [World.frozen?, hblk]
  have z2 : w1.frozen? ⟨w.heap.size, 2, none⟩ = false := by simp [World.frozen?, hblk]
  have Hblk := Lib.hid hblk
  clear hblk
  obtain ⟨m, n, hmb, hnb, hT, ho, ho2⟩ := hm
  have c5 := hT.c6
  have hb1 := hT.lt
  clear hT ho hmb hnb m
  go_wp2_with (at_lookup; refine wpList_lookup_own_ok _ rfl _ _ 84 rfl 22 123 numK Tryz.underlying84 callR (zeroCall _) (rowD zeroRow) [] (callR_row _) n 30 (numD 30) rfl ho2 _ (.int .u32 x) rfl (keyOf_int_mk Tryz.underlying22 hs) ?_)
  intro v ps hv
  rw [(num_at x).1] at hv
  obtain rfl := callR_inv hv
  rw [(num_at x).2]
  obtain ⟨r, hr⟩ : ∃ r, r = (byNum x).getD zeroRow := ⟨_, rfl⟩
  obtain ⟨is, his⟩ : ∃ is, is = (byNum x).isSome := ⟨_, rfl⟩
  rw [← hr, ← his]
  have Hr := Lib.hid hr
  have Hi := Lib.hid his
  clear hv ho2 c5 hr his
  unfold rowV
  go_wp2_with fail
  have hend := made_filled hb Hm.out Hg.out Hblk.out (.int .u32 r.1) (.string ⟨r.2.1.toArray⟩) (.int .i64 r.2.2) (.cells #[.int .u32 r.1, .string ⟨r.2.1.toArray⟩, .int .i64 r.2.2] 123)
  refine bodyPost_ret (v := .tuple #[.agg #[.int .u32 r.1, .string ⟨r.2.1.toArray⟩, .int .i64 r.2.2], .bool is]) (by simp [results, Tryz.results40, go_sem, q0, q1, q2, hsz]) rfl ⟨?_, hend⟩
  rw [← Hr.out, ← Hi.out]
  rfl

set_option maxRecDepth 100000 in
theorem numbered_nil (n : Int) (w : World) : Calls Tryz.prog 40 #[.pointer none, .int .u32 n] w fun e w' => e = .returned (.tuple #[rowV zeroRow, .bool false]) ∧ w' = w.alloc (.cells #[.int .u32 0, .string ByteArray.empty, .int .i64 0] 123) := by
  go_enter Tryz.func40, Tryz.ntmps40
  go_wp2
  refine bodyPost_ret (v := .tuple #[.agg #[.int .u32 0, .string ByteArray.empty, .int .i64 0], .bool false]) (by simp [results, Tryz.results40, go_sem]; rfl) rfl ⟨rfl, rfl⟩
theorem new_any (w : World) : Calls Tryz.prog 6 #[] w fun e w' => e = .returned (.pointer (some ⟨w.heap.size, 0, none⟩)) ∧ TState w' w.heap.size 0 ∧ ∃ o, w' = w.alloc o := by
  go_enter Tryz.func6, Tryz.ntmps6
  go_wp2
  go_ret
  exact ⟨rfl, .inl ⟨rfl, (MapKept.heap_alloc w _).1⟩, _, rfl⟩
end Go.Proofs.YtonpakndocgndaaGreatDoor

