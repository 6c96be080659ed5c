/- What stays behind calls that make memory: an instruction's cells, its bytes' cells, their text. -/
import Derived.Test.YtknhkcjfnlbnnaaSame
import Derived.Test.YtknhkcjfnlbnnaaAwake
namespace Go.Proofs.Ytknhkcjfnlbnnaa
open Go.RowKit
theorem dec_ok (nb : List Nat) (h : ∀ x ∈ nb, x < 256) (p : Nat) (i : Ins) (hi : i ∈ dec nb p) : i.ok := by
  obtain ⟨j, _, rfl⟩ := List.mem_map.1 hi
  exact insAt_ok nb h j
/-- Eight bytes in a block, as a text. -/
theorem text8 {w : World} {g : Nat} {b0 b1 b2 b3 b4 b5 b6 b7 : Nat} {s : ByteArray} (hs : s = strOfNums [(b0 : Int), b1, b2, b3, b4, b5, b6, b7])
    (h0 : w.cell? ⟨g, 0, none⟩ = some (.int .u8 b0)) (h1 : w.cell? ⟨g, 1, none⟩ = some (.int .u8 b1)) (h2 : w.cell? ⟨g, 2, none⟩ = some (.int .u8 b2)) (h3 : w.cell? ⟨g, 3, none⟩ = some (.int .u8 b3))
    (h4 : w.cell? ⟨g, 4, none⟩ = some (.int .u8 b4)) (h5 : w.cell? ⟨g, 5, none⟩ = some (.int .u8 b5)) (h6 : w.cell? ⟨g, 6, none⟩ = some (.int .u8 b6)) (h7 : w.cell? ⟨g, 7, none⟩ = some (.int .u8 b7)) :
    (convert 30 9 (.slice (some ⟨g, 0, none⟩) 8 8)).run Try.prog w = .ok (.string s) w := by
  subst hs
  exact run_convert_bytes_arg (P := Try.prog) (w := w) 30 5 Try.underlying30 Try.underlying5 g 0 8 8 [(b0 : Int), b1, b2, b3, b4, b5, b6, b7] rfl
    (fun i hi => by
      rcases (by omega : i = 0 ∨ i = 1 ∨ i = 2 ∨ i = 3 ∨ i = 4 ∨ i = 5 ∨ i = 6 ∨ i = 7) with rfl | rfl | rfl | rfl | rfl | rfl | rfl | rfl <;> simpa) 9 Try.underlying9
/-- The held: two blocks below a bound, the instruction's cells, the bytes' cells, their text. -/
abbrev Held (gi gx c t f y b0 b1 b4 b5 b6 b7 : Nat) (s : ByteArray) (w : World) : Prop :=
  (gi < w.heap.size ∧ gx < w.heap.size) ∧
  w.cell? ⟨gi, 0, none⟩ = some (.int .u16 c) ∧ w.cell? ⟨gi, 1, none⟩ = some (.int .u8 t) ∧ w.cell? ⟨gi, 2, none⟩ = some (.int .u8 f) ∧ w.cell? ⟨gi, 3, none⟩ = some (.int .u32 y) ∧
  w.cell? ⟨gx, 0, none⟩ = some (.int .u8 b0) ∧ w.cell? ⟨gx, 1, none⟩ = some (.int .u8 b1) ∧ w.cell? ⟨gx, 2, none⟩ = some (.int .u8 t) ∧ w.cell? ⟨gx, 3, none⟩ = some (.int .u8 f) ∧
  w.cell? ⟨gx, 4, none⟩ = some (.int .u8 b4) ∧ w.cell? ⟨gx, 5, none⟩ = some (.int .u8 b5) ∧ w.cell? ⟨gx, 6, none⟩ = some (.int .u8 b6) ∧ w.cell? ⟨gx, 7, none⟩ = some (.int .u8 b7) ∧
  (convert 30 9 (.slice (some ⟨gx, 0, none⟩) 8 8)).run Try.prog w = .ok (.string s) w
theorem Held.below {gi gx c t f y b0 b1 b4 b5 b6 b7 : Nat} {s : ByteArray} {w w' : World} (hs : s = strOfNums [(b0 : Int), b1, t, f, b4, b5, b6, b7]) (h : Held gi gx c t f y b0 b1 b4 b5 b6 b7 s w) (hb : Below w.heap.size w w') : Held gi gx c t f y b0 b1 b4 b5 b6 b7 s w' := by
  obtain ⟨⟨hi, hx⟩, i0, i1, i2, i3, x0, x1, x2, x3, x4, x5, x6, x7, _⟩ := h
  have ki : ∀ j, w'.cell? ⟨gi, j, none⟩ = w.cell? ⟨gi, j, none⟩ := fun j => hb.cell (p := ⟨gi, j, none⟩) hi
  have kx : ∀ j, w'.cell? ⟨gx, j, none⟩ = w.cell? ⟨gx, j, none⟩ := fun j => hb.cell (p := ⟨gx, j, none⟩) hx
  rw [← kx] at x0 x1 x2 x3 x4 x5 x6 x7
  rw [← ki] at i0 i1 i2 i3
  exact ⟨⟨Nat.lt_of_lt_of_le hi hb.size, Nat.lt_of_lt_of_le hx hb.size⟩, i0, i1, i2, i3, x0, x1, x2, x3, x4, x5, x6, x7, text8 hs x0 x1 x2 x3 x4 x5 x6 x7⟩
theorem Held.step {gi gx c t f y b0 b1 b4 b5 b6 b7 : Nat} {s : ByteArray} {wx w w' : World} (hs : s = strOfNums [(b0 : Int), b1, t, f, b4, b5, b6, b7]) (hb : Below w.heap.size w w')
    (h : Held gi gx c t f y b0 b1 b4 b5 b6 b7 s w ∧ Hid (Below wx.heap.size wx w)) : Held gi gx c t f y b0 b1 b4 b5 b6 b7 s w' ∧ Hid (Below wx.heap.size wx w') :=
  ⟨h.1.below hs hb, h.2.out.trans (hb.mono h.2.out.size)⟩
theorem Held.first {gi gx c t f y b0 b1 b4 b5 b6 b7 : Nat} {s : ByteArray} {wx : World} (hs : s = strOfNums [(b0 : Int), b1, t, f, b4, b5, b6, b7]) (h : Held gi gx c t f y b0 b1 b4 b5 b6 b7 s wx) :
    Held gi gx c t f y b0 b1 b4 b5 b6 b7 s wx.drew ∧ Hid (Below wx.heap.size wx wx.drew) :=
  ⟨h.below hs (Below.refl _ _).drew, (Below.refl _ _).drew⟩
theorem Held.news {gi gx c t f y b0 b1 b4 b5 b6 b7 : Nat} {s : ByteArray} {w : World} (h : Held gi gx c t f y b0 b1 b4 b5 b6 b7 s w) (j : Nat) (u : Value) (hu : (u8s [b0, b1, t, f, b4, b5, b6, b7])[j]? = some u) : w.cell? ((⟨gx, 0, none⟩ : Addr).add j) = some u := by
  obtain ⟨_, _, _, _, _, x0, x1, x2, x3, x4, x5, x6, x7, _⟩ := h
  have hj : j < 8 := by
    have := (List.getElem?_eq_some_iff.1 hu).1
    simpa [u8s] using this
  rcases (by omega : j = 0 ∨ j = 1 ∨ j = 2 ∨ j = 3 ∨ j = 4 ∨ j = 5 ∨ j = 6 ∨ j = 7) with rfl | rfl | rfl | rfl | rfl | rfl | rfl | rfl <;>
    (simp [u8s] at hu; subst hu; simpa [Addr.add])
theorem held_start (wr w3 : World) (T1 T2 : TypeId) (c t f y b0 b1 b4 b5 b6 b7 : Nat) (s : ByteArray) (hs : s = strOfNums [(b0 : Int), b1, t, f, b4, b5, b6, b7])
    (hb : Below (wr.alloc (.cells #[.int .u16 c, .int .u8 t, .int .u8 f, .int .u32 y] T1)).heap.size (wr.alloc (.cells #[.int .u16 c, .int .u8 t, .int .u8 f, .int .u32 y] T1)) w3) :
    Held wr.heap.size w3.heap.size c t f y b0 b1 b4 b5 b6 b7 s (w3.alloc (.cells #[.int .u8 b0, .int .u8 b1, .int .u8 t, .int .u8 f, .int .u8 b4, .int .u8 b5, .int .u8 b6, .int .u8 b7] T2)) := by
  have h1 : wr.heap.size < w3.heap.size := Nat.lt_of_lt_of_le (by simp) hb.size
  have hk : ∀ j, (w3.alloc (.cells #[.int .u8 b0, .int .u8 b1, .int .u8 t, .int .u8 f, .int .u8 b4, .int .u8 b5, .int .u8 b6, .int .u8 b7] T2)).cell? ⟨wr.heap.size, j, none⟩ = (wr.alloc (.cells #[.int .u16 c, .int .u8 t, .int .u8 f, .int .u32 y] T1)).cell? ⟨wr.heap.size, j, none⟩ := fun j => by
    rw [((Below.refl w3.heap.size w3).alloc (Nat.le_refl _) _).cell (p := ⟨wr.heap.size, j, none⟩) h1, hb.cell (p := ⟨wr.heap.size, j, none⟩) (by simp)]
  refine ⟨⟨by simp; omega, by simp⟩, by rw [hk]; simp, by rw [hk]; simp, by rw [hk]; simp, by rw [hk]; simp, by simp, by simp, by simp, by simp, by simp, by simp, by simp, by simp, ?_⟩
  subst hs
  exact eight_bytes w3 T2 b0 b1 t f b4 b5 b6 b7
/-- The document's bytes, as a text. -/
theorem refText_of (c k b0 b1 b2 b3 b4 b5 b6 b7 : Nat) (s : ByteArray) (w : World) (hs : s = strOfNums [(b0 : Int), b1, b2, b3, b4, b5, b6, b7]) (h0 : b0 < 256) (h1 : b1 < 256) (h2 : b2 < 256) (h3 : b3 < 256) (h4 : b4 < 256) (h5 : b5 < 256) (h6 : b6 < 256) (h7 : b7 < 256)
    (hc : c = b0 + 256 * b1) (hk : k = b4 + 256 * b5 + 65536 * b6 + 16777216 * b7) :
    Calls Try.prog 11 #[.agg #[.int .i64 c, .int .i64 b2, .int .i64 b3, .int .u32 k]] w fun e w' =>
      e = .returned (.slice (some ⟨w.heap.size + 1, 0, none⟩) 8 8) ∧ (convert 30 9 (.slice (some ⟨w.heap.size + 1, 0, none⟩) 8 8)).run Try.prog w' = .ok (.string s) w' ∧ Below w.heap.size w w' := by
  refine (refBytes_of c k b0 b1 b2 b3 b4 b5 b6 b7 w h0 h1 h2 h3 h4 h5 h6 h7 hc hk).mono ?_
  rintro e w' ⟨rfl, rfl⟩
  refine ⟨rfl, ?_, two_below _ _ _⟩
  subst hs
  have h := eight_bytes (w.alloc (.cells #[.int .i64 c, .int .i64 b2, .int .i64 b3, .int .u32 k] 38)) 5 b0 b1 b2 b3 b4 b5 b6 b7
  simpa using h
end Go.Proofs.Ytknhkcjfnlbnnaa
