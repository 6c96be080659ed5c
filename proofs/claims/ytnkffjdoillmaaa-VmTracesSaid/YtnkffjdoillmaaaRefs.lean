/- Instructions as the document's answer has them. -/
import Derived.Test.YtnkffjdoillmaaaRefOps
namespace Go.Proofs.Ytnkffjdoillmaaa
open Go.RowKit
def Ins.rcells (i : Ins) : List Value := [.int .i64 i.c, .int .i64 i.t, .int .i64 i.f, .int .u32 i.k]
theorem rcells_at : ∀ (l : List Ins) (k j : Nat), j < 4 → (l.flatMap Ins.rcells)[k * 4 + j]? = (l[k]?).bind (fun x => x.rcells[j]?)
  | [], k, j, _ => by simp
  | x :: l, k, j, hj => by
    rw [List.flatMap_cons]
    cases k with
    | zero => rw [List.getElem?_append_left (by simp [Ins.rcells]; omega)]; simp
    | succ k =>
      rw [List.getElem?_append_right (by simp [Ins.rcells]; omega), show (x.rcells).length = 4 from rfl, show (k + 1) * 4 + j - 4 = k * 4 + j from by omega, rcells_at l k j hj]
      simp
theorem rflat_len (l : List Ins) : (l.flatMap Ins.rcells).length = l.length * 4 := by
  induction l with
  | nil => rfl
  | cons i l ih => simp only [List.flatMap_cons, List.length_append, List.length_cons, ih, Ins.rcells]; simp; omega
theorem rcells_one (x : Ins) : ∀ u ∈ x.rcells, u.oneCell' = true := by
  intro u hu
  simp only [Ins.rcells, List.mem_cons, List.not_mem_nil, or_false] at hu
  rcases hu with rfl | rfl | rfl | rfl <;> rfl
theorem rfour_cells {w : World} {l : List Ins} {b o k : Nat} {x : Ins} (h : ∀ j u, (l.flatMap Ins.rcells)[j]? = some u → w.cell? ⟨b, o + j, none⟩ = some u) (hx : l[k]? = some x) :
    w.cell? ⟨b, o + k * 4, none⟩ = some (.int .i64 x.c) ∧ w.cell? ⟨b, o + k * 4 + 1, none⟩ = some (.int .i64 x.t) ∧ w.cell? ⟨b, o + k * 4 + 2, none⟩ = some (.int .i64 x.f) ∧ w.cell? ⟨b, o + k * 4 + 3, none⟩ = some (.int .u32 x.k) := by
  have hh : ∀ j, j < 4 → ∀ u, x.rcells[j]? = some u → w.cell? ⟨b, o + k * 4 + j, none⟩ = some u := fun j hj u hu => by
    rw [Nat.add_assoc]; exact h _ _ (by rw [rcells_at l k j hj, hx]; exact hu)
  exact ⟨hh 0 (by omega) _ rfl, hh 1 (by omega) _ rfl, hh 2 (by omega) _ rfl, hh 3 (by omega) _ rfl⟩
theorem infoRef : (Try.prog.info? 79).map (fun i => (i.zero, i.size, i.bytes)) = some (some (.agg #[.int .i64 0, .int .i64 0, .int .i64 0, .int .u32 0]), 4, 32) := by kernel_rfl
theorem rnew (w : World) (T : TypeId) (c t f k : Nat) (j : Nat) (u : Value) (h : (Ins.rcells ⟨c, t, f, k⟩)[j]? = some u) : (w.alloc (.cells #[.int .i64 c, .int .i64 t, .int .i64 f, .int .u32 k] T)).cell? ((⟨w.heap.size, 0, none⟩ : Addr).add j) = some u := by
  have hb := Bk.new (l := Ins.rcells ⟨c, t, f, k⟩) w T #[.int .i64 c, .int .i64 t, .int .i64 f, .int .u32 k] rfl
  rw [show (⟨w.heap.size, 0, none⟩ : Addr).add j = ⟨w.heap.size, 0 + j, none⟩ by unfold Addr.add; split <;> simp_all, Nat.zero_add]
  exact hb.cell j h
set_option maxRecDepth 100000 in
theorem lawRef_any (i : Ins) (w : World) (hi : i.ok) : Calls Try.prog 29 #[.agg #[.int .u16 i.c, .int .u8 i.t, .int .u8 i.f, .int .u32 i.k]] w fun e w' => e = .returned (.agg #[.int .i64 i.c, .int .i64 i.t, .int .i64 i.f, .int .u32 i.k]) ∧ Below w.heap.size w w' := by
  obtain ⟨h1, h2, h3, h4⟩ := hi
  obtain ⟨c, t, f, k⟩ := i
  dsimp only at *
  go_enter Try.func29, Try.ntmps29
  go_wp2_with fail
  exact bodyPost_ret (v := .agg #[.int .i64 c, .int .i64 t, .int .i64 f, .int .u32 k]) (by simp [results, Try.results29, go_sem]) rfl ⟨rfl, two_below _ _ _⟩
set_option maxRecDepth 100000 in
set_option maxHeartbeats 2000000 in
theorem refs_any (l : List Ins) (n : Nat) (A : Option Addr) (cp : Nat) (w : World) (hl : l.length = n) (hok : ∀ i ∈ l, i.ok) (hr : Rd w 4 n A (l.flatMap Ins.cells)) (hn : n ≤ 65536) :
    Calls Try.prog 16 #[.slice A n cp] w fun e w' => ∃ A' c', e = .returned (.slice A' n c') ∧ (Rd w' 4 n A' (l.flatMap Ins.rcells) ∧ Below w.heap.size w w') := by
  obtain ⟨i0, hi, hz0, hz1, hz2⟩ := info_parts infoRef
  have Hl := Lib.hid hl
  have Hok := Lib.hid hok
  have Hr := Lib.hid hr
  clear hl hok hr
  go_enter Try.func16, Try.ntmps16
  go_wp2_with fail
  go_loopw [3, 8] (fun v i wr => ∃ k : Nat, k ≤ n ∧ i = .int .i64 k ∧ Hid (wr.ownsRow w.heap.size 79 4 v k ((l.take k).flatMap Ins.rcells)) ∧ Hid (Below w.heap.size w wr)) (fun _ i _ => n - (intOf i).toNat)
  case atStart => exact ⟨0, by omega, rfl, World.ownsRow_nil _ _ _ _, Below.refl _ _⟩
  case round =>
    obtain ⟨k, hk, rfl, Hown, Hb⟩ := hrel
    by_cases hlt : k < n
    · obtain ⟨x, hx⟩ : ∃ x, l[k]? = some x := ⟨_, List.getElem?_eq_getElem (by have := Hl.out; omega)⟩
      obtain ⟨b, o, rfl, hbl, hcells⟩ := Hr.out.pos (by omega)
      have hkeep : ∀ j, wr.cell? ⟨b, j, none⟩ = w.cell? ⟨b, j, none⟩ := fun j => Hb.out.cell (p := ⟨b, j, none⟩) hbl
      obtain ⟨q0, q1, q2, q3⟩ := four_cells hcells hx
      rw [← hkeep] at q0 q1 q2 q3
      have Rf := Lib.hid (fun w => lawRef_any x w (Hok.out x (List.mem_of_getElem? hx)))
      have Ht := Lib.hid (take_snoc' l k x hx)
      obtain ⟨c, t, f, y⟩ := x
      dsimp only at *
      clear hkeep hcells hx
      go_wp2_with fail
      refine (Rf.out _).mono ?_
      rintro e w3 ⟨rfl, hb3⟩
      have Hown3 := Lib.hid (own_below (Hown.out.alloc _) hb3)
      have Hb3 := Lib.hid ((Hb.out.alloc Hb.out.size _).trans (hb3.mono (Nat.le_trans Hb.out.size (by simp))))
      have Hnews := Lib.hid (rnew w3 79 c t f y)
      have Hsz := Lib.hid (show w.heap.size ≤ (w3.alloc (.cells #[.int .i64 c, .int .i64 t, .int .i64 f, .int .u32 y] 79)).heap.size by have := Hb3.out.size; simp; omega)
      clear hb3 q0 q1 q2 q3 hbl
      go_wp2_with (at_builtin; refine wpList_append_own _ rfl (.tmp 12) (.tmp 15) 45 rfl w.heap.size 79 i0 _ 4 32 Try.underlying45 hi hz0 hz1 hz2 rfl (by decide) _ k _ rfl (Hown3.out.alloc _) ⟨w3.heap.size, 0, none⟩ 1 1 (Ins.rcells ⟨c, t, f, y⟩) rfl rfl Hnews.out (rcells_one _) (by unfold maxLen; omega) (by omega) Hsz.out ?_; intro v' w4 hown' hgrow _)
      have Hown4 := Lib.hid (show w4.ownsRow w.heap.size 79 4 v' (k + 1) ((l.take (k + 1)).flatMap Ins.rcells) from by rw [Ht.out, List.flatMap_append]; simpa using hown')
      have Hb4 := Lib.hid ((Hb3.out.alloc Hb3.out.size (.cells #[.int .i64 c, .int .i64 t, .int .i64 f, .int .u32 y] 79)).grown hgrow Hsz.out (fun k hk => (Hown3.out.lt k hk).1))
      clear hown' hgrow
      go_wp2_with fail
      go_roundw
      case rel => exact ⟨k + 1, by omega, by go_num, Hown4, Hb4⟩
      case measure => simp [intOf]; omega
    · obtain rfl : k = n := by omega
      obtain ⟨A', c', rfl, _, hs⟩ := own_form Hown.out
      have HS := Lib.hid (show Rd wr 4 k A' (l.flatMap Ins.rcells) from by rw [List.take_of_length_le (by have := Hl.out; omega)] at hs; exact hs)
      clear hs Hown
      go_wp2_with fail
      go_ret
      exact ⟨A', c', rfl, HS.out, Hb.out⟩
end Go.Proofs.Ytnkffjdoillmaaa
