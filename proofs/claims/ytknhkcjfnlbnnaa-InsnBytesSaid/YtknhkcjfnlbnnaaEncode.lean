/- Encode: one behind the other. -/
import Derived.Test.YtknhkcjfnlbnnaaBytes
import Derived.Test.YtknhkcjfnlbnnaaRd
import Derived.OwnWalk
namespace Go.Proofs.Ytknhkcjfnlbnnaa
open Go.RowKit
def Ins.cells (i : Ins) : List Value := [.int .u16 i.c, .int .u8 i.t, .int .u8 i.f, .int .u32 i.k]
def u8s (l : List Nat) : List Value := l.map fun (x : Nat) => Value.int .u8 x
theorem cells_at : ∀ (l : List Ins) (k j : Nat), j < 4 → (l.flatMap Ins.cells)[k * 4 + j]? = (l[k]?).bind (fun x => x.cells[j]?)
  | [], k, j, _ => by simp
  | x :: l, k, j, hj => by
    rw [List.flatMap_cons]
    cases k with
    | zero => rw [List.getElem?_append_left (by simp [Ins.cells]; omega)]; simp
    | succ k =>
      rw [List.getElem?_append_right (by simp [Ins.cells]; omega), show (x.cells).length = 4 from rfl, show (k + 1) * 4 + j - 4 = k * 4 + j from by omega, cells_at l k j hj]
      simp
/-- The four cells of the k-th. -/
theorem four_cells {w : World} {l : List Ins} {b o k : Nat} {x : Ins} (h : ∀ j u, (l.flatMap Ins.cells)[j]? = some u → w.cell? ⟨b, o + j, none⟩ = some u) (hx : l[k]? = some x) :
    w.cell? ⟨b, o + k * 4, none⟩ = some (.int .u16 x.c) ∧ w.cell? ⟨b, o + k * 4 + 1, none⟩ = some (.int .u8 x.t) ∧ w.cell? ⟨b, o + k * 4 + 2, none⟩ = some (.int .u8 x.f) ∧ w.cell? ⟨b, o + k * 4 + 3, none⟩ = some (.int .u32 x.k) := by
  have hh : ∀ j, j < 4 → ∀ u, x.cells[j]? = some u → w.cell? ⟨b, o + k * 4 + j, none⟩ = some u := fun j hj u hu => by
    rw [Nat.add_assoc]; exact h _ _ (by rw [cells_at l k j hj, hx]; exact hu)
  exact ⟨hh 0 (by omega) _ rfl, hh 1 (by omega) _ rfl, hh 2 (by omega) _ rfl, hh 3 (by omega) _ rfl⟩
theorem Ins.split (x : Ins) (h : x.ok) : ∃ b0 b1 b4 b5 b6 b7, b0 < 256 ∧ b1 < 256 ∧ b4 < 256 ∧ b5 < 256 ∧ b6 < 256 ∧ b7 < 256 ∧ x.c = b0 + 256 * b1 ∧ x.k = b4 + 256 * b5 + 65536 * b6 + 16777216 * b7 ∧ x.bs = [b0, b1, x.t, x.f, b4, b5, b6, b7] := by
  obtain ⟨h1, h2, h3, h4⟩ := h
  exact ⟨x.c % 256, x.c / 256, x.k % 256, x.k / 256 % 256, x.k / 65536 % 256, x.k / 16777216, by omega, by omega, by omega, by omega, by omega, by omega, by omega, by omega, rfl⟩
theorem eight_cells (w : World) (T : TypeId) (b0 b1 b2 b3 b4 b5 b6 b7 : Nat) (j : Nat) (u : Value) (h : (u8s [b0, b1, b2, b3, b4, b5, b6, b7])[j]? = some u) :
    (w.alloc (.cells #[.int .u8 b0, .int .u8 b1, .int .u8 b2, .int .u8 b3, .int .u8 b4, .int .u8 b5, .int .u8 b6, .int .u8 b7] T)).cell? ((⟨w.heap.size, 0, none⟩ : Addr).add j) = some u := by
  have hj : j < 8 := by
    have := (List.getElem?_eq_some_iff.1 h).1
    simpa [u8s] using this
  rcases (by omega : j = 0 ∨ j = 1 ∨ j = 2 ∨ j = 3 ∨ j = 4 ∨ j = 5 ∨ j = 6 ∨ j = 7) with rfl | rfl | rfl | rfl | rfl | rfl | rfl | rfl <;>
    (simp [u8s] at h; subst h; simp [Addr.add])
theorem infoU8 : (Try.prog.info? 5).map (fun i => (i.zero, i.size, i.bytes)) = some (some (.int .u8 0), 1, 1) := by kernel_rfl
theorem take_snoc' {α : Type} (l : List α) (k : Nat) (x : α) (h : l[k]? = some x) : l.take (k + 1) = l.take k ++ [x] := by
  have hl := (List.getElem?_eq_some_iff.1 h)
  rw [List.take_succ_eq_append_getElem hl.1, hl.2]
theorem u8s_append (a b : List Nat) : u8s (a ++ b) = u8s a ++ u8s b := by simp [u8s]
theorem u8s_one (l : List Nat) : ∀ u ∈ u8s l, u.oneCell' = true := by
  intro u hu
  obtain ⟨x, _, rfl⟩ := List.mem_map.1 hu
  rfl
def EncPost (l : List Ins) (w : World) (e : Ending) (w' : World) : Prop :=
  ∃ v, e = .returned v ∧ w'.ownsRow w.heap.size 5 1 v (l.length * 8) (u8s (enc8 l)) ∧ Below w.heap.size w w'
set_option maxRecDepth 100000 in
set_option maxHeartbeats 1000000 in
theorem encode_any (l : List Ins) (n : Nat) (A : Option Addr) (cp : Nat) (w : World) (hl : l.length = n) (hok : ∀ i ∈ l, i.ok) (hr : Rd w 4 n A (l.flatMap Ins.cells)) (hn : n ≤ 65536) :
    Calls Try.prog 14 #[.slice A n cp] w (EncPost l w) := by
  obtain ⟨i0, hi, hz0, hz1, hz2⟩ := info_parts infoU8
  have Hl := Lib.hid hl
  have Hok := Lib.hid hok
  have Hr := Lib.hid hr
  clear hl hok hr
  go_enter Try.func14, Try.ntmps14
  go_wp2_with (at_make; refine wpList_make_own _ rfl _ _ 30 rfl w.heap.size 5 i0 (.int .u8 0) 1 Try.underlying30 hi hz0 hz1 .i64 .i64 _ (n * 8) rfl rfl (by omega) (by rw [hz2]; omega) (by unfold maxLen; omega) (Nat.le_refl _) ?_; intro w2 hrow2 hg2)
  have Hrow := Lib.hid hrow2
  have Hg := Lib.hid (show Below w.heap.size w w2 from (Below.refl _ _).grown hg2 (Nat.le_refl _) (fun k hk => by cases hk))
  clear hrow2 hg2
  go_loopw [3, 13] (fun v i wr => ∃ k : Nat, k ≤ n ∧ i = .int .i64 k ∧ Hid (wr.ownsRow w.heap.size 5 1 v (k * 8) (u8s (enc8 (l.take k)))) ∧ Hid (Below w.heap.size w wr)) (fun _ i _ => n - (intOf i).toNat)
  case atStart => exact ⟨0, by omega, rfl, by rw [List.take_zero]; exact Lib.hid (by simpa [enc8, u8s] using Hrow.out), Hg⟩
  case round =>
    obtain ⟨k, hk, rfl, Hown, Hb⟩ := hrel
    by_cases hlt : k < n
    · obtain ⟨x, hx⟩ : ∃ x, l[k]? = some x := ⟨_, List.getElem?_eq_getElem (by have := Hl.out; omega)⟩
      obtain ⟨b, o, hA, hbl, hcells⟩ := Hr.out.pos (by omega)
      obtain ⟨q0, q1, q2, q3⟩ := four_cells hcells hx
      have hkeep : ∀ j, wr.cell? ⟨b, j, none⟩ = w.cell? ⟨b, j, none⟩ := fun j => Hb.out.cell (p := ⟨b, j, none⟩) hbl
      rw [← hkeep] at q0 q1 q2 q3
      have hok := Hok.out x (List.mem_of_getElem? hx)
      obtain ⟨b0, b1, b4, b5, b6, b7, g0, g1, g4, g5, g6, g7, hc, hkk, hbs⟩ := x.split hok
      obtain ⟨h1, h2, h3, h4⟩ := hok
      obtain ⟨c, hcd⟩ : ∃ c, c = x.c := ⟨_, rfl⟩
      obtain ⟨t, htd⟩ : ∃ t, t = x.t := ⟨_, rfl⟩
      obtain ⟨f, hfd⟩ : ∃ f, f = x.f := ⟨_, rfl⟩
      obtain ⟨y, hyd⟩ : ∃ y, y = x.k := ⟨_, rfl⟩
      rw [← hcd] at q0 hc h1
      rw [← htd] at q1 hbs h2
      rw [← hfd] at q2 hbs h3
      rw [← hyd] at q3 hkk h4
      have Hnext := Lib.hid (show enc8 (l.take (k + 1)) = enc8 (l.take k) ++ [b0, b1, t, f, b4, b5, b6, b7] by rw [take_snoc' l k x hx, enc_snoc, hbs])
      have Hc := Lib.hid (And.intro hc hkk)
      subst hA
      clear hkeep hcells hx hc hkk hbs hcd htd hfd hyd
      go_wp2_with fail
      refine (bytes_of c y b0 b1 t f b4 b5 b6 b7 _ g0 g1 h2 h3 g4 g5 g6 g7 Hc.out.1 Hc.out.2).mono ?_
      rintro e w3 ⟨rfl, hb3⟩
      have hown3 := own_below (Hown.out.alloc _) hb3
      have hb4 := (Hb.out.alloc Hb.out.size _).trans (hb3.mono (Nat.le_trans Hb.out.size (by simp)))
      have Hown3 := Lib.hid hown3
      have Hb4 := Lib.hid hb4
      clear hb3 hown3 hb4
      have hsz : w.heap.size ≤ w3.heap.size := Hb4.out.size
      have Hnews := Lib.hid (eight_cells w3 34 b0 b1 t f b4 b5 b6 b7)
      go_wp2_with (at_builtin; refine wpList_append_own _ rfl (.tmp 19) (.tmp 20) 30 rfl w.heap.size 5 i0 (.int .u8 0) 1 1 Try.underlying30 hi hz0 hz1 hz2 rfl (by decide) _ (k * 8) (u8s (enc8 (l.take k))) rfl (Hown3.out.alloc _) ⟨w3.heap.size, 0, none⟩ 8 8 (u8s [b0, b1, t, f, b4, b5, b6, b7]) rfl rfl Hnews.out (u8s_one _) (by unfold maxLen; omega) (by omega) (by simp; omega) ?_; intro v' w4 hown' hgrow _)
      have Hown' := Lib.hid (show w4.ownsRow w.heap.size 5 1 v' ((k + 1) * 8) (u8s (enc8 (l.take (k + 1)))) by rw [Hnext.out, u8s_append, show (k + 1) * 8 = k * 8 + 8 by omega]; exact hown')
      have Hb' := Lib.hid (show Below w.heap.size w w4 from (Hb4.out.alloc hsz _).grown hgrow (by simp; omega) (fun k hk => (Hown.out.lt k hk).1))
      clear hown' hgrow
      go_wp2
      go_roundw
      case rel => exact ⟨k + 1, by omega, by go_num, Hown', Hb'⟩
      case measure => simp [intOf]; omega
    · obtain rfl : k = n := by omega
      go_wp2_with fail
      go_ret
      refine ⟨_, rfl, ?_, Hb.out⟩
      have := Hown.out
      rw [List.take_of_length_le (by have := Hl.out; omega)] at this
      rw [Hl.out]; exact this
end Go.Proofs.Ytknhkcjfnlbnnaa
