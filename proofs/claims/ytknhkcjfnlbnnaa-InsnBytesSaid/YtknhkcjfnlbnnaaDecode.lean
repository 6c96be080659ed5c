/- Decode: back. -/
import Derived.Test.YtknhkcjfnlbnnaaEncode
import Derived.Laws.CopyOwn
import Derived.Deep.RegionLaw
namespace Go.Proofs.Ytknhkcjfnlbnnaa
open Go.RowKit
theorem infoIns : (Try.prog.info? 33).map (fun i => (i.zero, i.size, i.bytes)) = some (some (.agg #[.int .u16 0, .int .u8 0, .int .u8 0, .int .u32 0]), 4, 8) := by kernel_rfl
set_option maxRecDepth 100000 in
theorem decode_form (n : Nat) (A : Option Addr) (cp : Nat) (w : World) (hn : n ≤ 9223372036854775807) (h : n % 8 ≠ 0) :
    Calls Try.prog 15 #[.slice A n cp] w fun e w' => e = .returned (.tuple #[.slice none 0 0, .int .i64 203]) ∧ w = w' := by
  have hb : ((n : Int) % 8 == 0) = false := by simp; omega
  have hb2 : ((n : Int) % 8 != 0) = true := by simp; omega
  clear h
  go_enter Try.func15, Try.ntmps15
  go_wp2
  go_ret2
  exact ⟨rfl, rfl⟩
set_option maxRecDepth 100000 in
theorem decode_many (n : Nat) (A : Option Addr) (cp : Nat) (w : World) (hn : n ≤ 9223372036854775807) (h : n % 8 = 0) (h2 : 4096 < n / 8) :
    Calls Try.prog 15 #[.slice A n cp] w fun e w' => e = .returned (.tuple #[.slice none 0 0, .int .i64 205]) ∧ w = w' := by
  have hb : ((n : Int) % 8 == 0) = true := by simp; omega
  have hb2 : ((n : Int) % 8 != 0) = false := by simp; omega
  have hi : (4096 : Int) < (n : Int) / 8 := by omega
  clear h h2
  go_enter Try.func15, Try.ntmps15
  go_wp2
  go_ret2
  exact ⟨rfl, rfl⟩
theorem eight_at {w : World} {g : Nat} {T : TypeId} {y0 y1 y2 y3 y4 y5 y6 y7 : Nat} (h : w.heap[g]? = some (.cells (u8s [y0, y1, y2, y3, y4, y5, y6, y7]).toArray T (0, 0))) :
    w.cell? ⟨g, 0, none⟩ = some (.int .u8 y0) ∧ w.cell? ⟨g, 1, none⟩ = some (.int .u8 y1) ∧ w.cell? ⟨g, 2, none⟩ = some (.int .u8 y2) ∧ w.cell? ⟨g, 3, none⟩ = some (.int .u8 y3) ∧
    w.cell? ⟨g, 4, none⟩ = some (.int .u8 y4) ∧ w.cell? ⟨g, 5, none⟩ = some (.int .u8 y5) ∧ w.cell? ⟨g, 6, none⟩ = some (.int .u8 y6) ∧ w.cell? ⟨g, 7, none⟩ = some (.int .u8 y7) := by
  simp [World.cell?, h, u8s]
theorem four_new (w : World) (T : TypeId) (c t f k : Nat) (j : Nat) (u : Value) (h : (Ins.cells ⟨c, t, f, k⟩)[j]? = some u) :
    (w.alloc (.cells #[.int .u16 c, .int .u8 t, .int .u8 f, .int .u32 k] T)).cell? ((⟨w.heap.size, 0, none⟩ : Addr).add j) = some u := by
  have hj : j < 4 := by
    have := (List.getElem?_eq_some_iff.1 h).1
    simpa [Ins.cells] using this
  rcases (by omega : j = 0 ∨ j = 1 ∨ j = 2 ∨ j = 3) with rfl | rfl | rfl | rfl <;>
    (simp [Ins.cells] at h; subst h; simp [Addr.add])
theorem cells_one (x : Ins) : ∀ u ∈ x.cells, u.oneCell' = true := by
  intro u hu
  simp only [Ins.cells, List.mem_cons, List.not_mem_nil, or_false] at hu
  rcases hu with rfl | rfl | rfl | rfl <;> rfl
def DecPost (ns : List Nat) (m : Nat) (w : World) (e : Ending) (w' : World) : Prop :=
  ∃ v, e = .returned (.tuple #[v, .int .i64 0]) ∧ w'.ownsRow w.heap.size 33 4 v m ((dec ns m).flatMap Ins.cells) ∧ Below w.heap.size w w'
set_option maxRecDepth 100000 in
set_option maxHeartbeats 1000000 in
theorem decode_any (ns : List Nat) (m n : Nat) (A : Option Addr) (cp : Nat) (w : World) (hl : ns.length = n) (hok : ∀ x ∈ ns, x < 256) (hr : Rd w 1 n A (u8s ns)) (hm : m ≤ 4096) (hn : n = m * 8) (hcp : n ≤ cp) :
    Calls Try.prog 15 #[.slice A n cp] w (DecPost ns m w) := by
  obtain ⟨i0, hi, hz0, hz1, hz2⟩ := info_parts infoIns
  have hn1 : n ≤ m * 8 := by omega
  have hn2 : m * 8 ≤ n := by omega
  have hd : (n : Int) / 8 = m := by omega
  have hb2 : ((n : Int) % 8 != 0) = false := by simp; omega
  have Hl := Lib.hid hl
  have Hok := Lib.hid hok
  have Hr := Lib.hid hr
  clear hl hok hr hn
  go_enter Try.func15, Try.ntmps15
  go_wp2_with (at_make; refine wpList_make_own _ rfl _ _ 29 rfl w.heap.size 33 i0 _ 4 Try.underlying29 hi hz0 hz1 .i64 .i64 _ m rfl rfl (by omega) (by rw [hz2]; omega) (by unfold maxLen; omega) (Nat.le_refl _) ?_; intro w2 hrow2 hg2)
  have Hrow := Lib.hid hrow2
  have Hg := Lib.hid (show Below w.heap.size w w2 from (Below.refl _ _).grown hg2 (Nat.le_refl _) (fun k hk => by cases hk))
  clear hrow2 hg2 hd hb2
  go_loopw [4, 5] (fun v i wr => ∃ k a : Nat, k ≤ m ∧ k * 8 ≤ a ∧ a ≤ k * 8 ∧ i = .int .i64 a ∧ Hid (wr.ownsRow w.heap.size 33 4 v k ((dec ns k).flatMap Ins.cells)) ∧ Hid (Below w.heap.size w wr)) (fun _ i _ => n - (intOf i).toNat)
  case atStart => exact ⟨0, 0, by omega, by omega, by omega, rfl, Hrow, Hg⟩
  case round =>
    obtain ⟨k, a, hk, ha1, ha2, rfl, Hown, Hb⟩ := hrel
    by_cases hlt : k < m
    · obtain ⟨b, o, hA, hbl, hcells⟩ := Hr.out.pos (by omega)
      have hat : ∀ j, j < 8 → wr.cell? ⟨b, o + a + j, none⟩ = some (.int .u8 (ns.getD (k * 8 + j) 0 : Nat)) := fun j hj => by
        have h1 := hcells (a + j) (.int .u8 (ns.getD (k * 8 + j) 0 : Nat)) (by
          have h2 : a + j < ns.length := by have := Hl.out; omega
          rw [u8s, List.getElem?_map, show k * 8 + j = a + j by omega, List.getElem?_eq_getElem h2, List.getD_eq_getElem?_getD, List.getElem?_eq_getElem h2]; rfl)
        rw [Hb.out.cell (p := ⟨b, o + a + j, none⟩) hbl, Nat.add_assoc]; exact h1
      have hlt8 : ∀ j, ns.getD j 0 < 256 := getD_lt ns Hok.out
      have hstep := dec_snoc ns k
      unfold insAt at hstep
      obtain ⟨y0, e0⟩ : ∃ y, y = ns.getD (k * 8) 0 := ⟨_, rfl⟩
      obtain ⟨y1, e1⟩ : ∃ y, y = ns.getD (k * 8 + 1) 0 := ⟨_, rfl⟩
      obtain ⟨y2, e2⟩ : ∃ y, y = ns.getD (k * 8 + 2) 0 := ⟨_, rfl⟩
      obtain ⟨y3, e3⟩ : ∃ y, y = ns.getD (k * 8 + 3) 0 := ⟨_, rfl⟩
      obtain ⟨y4, e4⟩ : ∃ y, y = ns.getD (k * 8 + 4) 0 := ⟨_, rfl⟩
      obtain ⟨y5, e5⟩ : ∃ y, y = ns.getD (k * 8 + 5) 0 := ⟨_, rfl⟩
      obtain ⟨y6, e6⟩ : ∃ y, y = ns.getD (k * 8 + 6) 0 := ⟨_, rfl⟩
      obtain ⟨y7, e7⟩ : ∃ y, y = ns.getD (k * 8 + 7) 0 := ⟨_, rfl⟩
      rw [← e0, ← e1, ← e2, ← e3, ← e4, ← e5, ← e6, ← e7] at hstep
      have g0 : y0 < 256 := e0 ▸ hlt8 _
      have g1 : y1 < 256 := e1 ▸ hlt8 _
      have g2 : y2 < 256 := e2 ▸ hlt8 _
      have g3 : y3 < 256 := e3 ▸ hlt8 _
      have g4 : y4 < 256 := e4 ▸ hlt8 _
      have g5 : y5 < 256 := e5 ▸ hlt8 _
      have g6 : y6 < 256 := e6 ▸ hlt8 _
      have g7 : y7 < 256 := e7 ▸ hlt8 _
      have Hsrc := Lib.hid (show ∀ j v, (u8s [y0, y1, y2, y3, y4, y5, y6, y7])[j]? = some v → wr.cell? ⟨b, o + a + j, none⟩ = some v from fun j v hv => by
        have hj : j < 8 := by
          have := (List.getElem?_eq_some_iff.1 hv).1
          simpa [u8s] using this
        rw [hat j hj]
        rcases (by omega : j = 0 ∨ j = 1 ∨ j = 2 ∨ j = 3 ∨ j = 4 ∨ j = 5 ∨ j = 6 ∨ j = 7) with rfl | rfl | rfl | rfl | rfl | rfl | rfl | rfl <;>
          (simp [u8s] at hv; subst hv; try rw [Nat.add_zero]
           simp [*]))
      have Hstep := Lib.hid hstep
      obtain ⟨cc, hcc⟩ : ∃ c, c = y0 + 256 * y1 := ⟨_, rfl⟩
      obtain ⟨kk, hkk⟩ : ∃ c, c = y4 + 256 * y5 + 65536 * y6 + 16777216 * y7 := ⟨_, rfl⟩
      have Hc := Lib.hid (And.intro hcc hkk)
      have hbw := Hb.out.size
      subst hA
      clear hat hlt8 hstep e0 e1 e2 e3 e4 e5 e6 e7 hcells hcc hkk
      have Hz := Lib.hid (show (wr.alloc (.cells #[.int .u8 0, .int .u8 0, .int .u8 0, .int .u8 0, .int .u8 0, .int .u8 0, .int .u8 0, .int .u8 0] 34)).heap[wr.heap.size]? = some (.cells (u8s [0, 0, 0, 0, 0, 0, 0, 0]).toArray 34 (0, 0)) from heap_alloc_new _ _)
      have Hzb := Lib.hid (show Below wr.heap.size wr (wr.alloc (.cells #[.int .u8 0, .int .u8 0, .int .u8 0, .int .u8 0, .int .u8 0, .int .u8 0, .int .u8 0, .int .u8 0] 34)) from (Below.refl _ _).alloc (Nat.le_refl _) _)
      have Hsrc2 := Lib.hid (show ∀ j v, (u8s [y0, y1, y2, y3, y4, y5, y6, y7])[j]? = some v → (wr.alloc (.cells #[.int .u8 0, .int .u8 0, .int .u8 0, .int .u8 0, .int .u8 0, .int .u8 0, .int .u8 0, .int .u8 0] 34)).cell? ((⟨b, o + a, none⟩ : Addr).add j) = some v from fun j v hv => by
        have h1 := Hsrc.out j v hv
        have hbb : b < wr.heap.size := Nat.lt_of_lt_of_le hbl hbw
        rw [show (⟨b, o + a, none⟩ : Addr).add j = ⟨b, o + a + j, none⟩ by unfold Addr.add; split <;> simp_all]
        rw [Hzb.out.cell (p := ⟨b, o + a + j, none⟩) hbb]; exact h1)
      go_wp2_with fail
      have hale : a ≤ n := by omega
      have hane : ¬ cp = a := by omega
      go_region_law (refine step_copy_splice rfl (.tmp 25) (.tmp 28) 30 30 rfl 5 Try.underlying30 (by kernel_rfl) _ _ _ _ _ _ rfl rfl wr.heap.size 0 (u8s [0, 0, 0, 0, 0, 0, 0, 0]) 34 Hz.out (u8s [y0, y1, y2, y3, y4, y5, y6, y7]) (by show 8 = Nat.min (n - a) 8; exact (Nat.min_eq_right (by omega)).symm) (fun _ => ⟨rfl, _, rfl, Hsrc2.out⟩) (by simp [u8s]) (u8s_one _) wr.heap.size wr Hzb.out.drew (Nat.le_refl _) ?_; intro w4 hg4 hb4)
      obtain ⟨c0, c1, c2, c3, c4, c5, c6, c7⟩ := eight_at (show w4.heap[wr.heap.size]? = some (.cells (u8s [y0, y1, y2, y3, y4, y5, y6, y7]).toArray 34 (0, 0)) from hg4.out)
      have Hb4 := Lib.hid hb4
      have Hown4 := Lib.hid (own_below Hown.out hb4)
      clear hg4 hb4 hane hale
      go_wp2_with fail
      refine (of_of cc kk y0 y1 y2 y3 y4 y5 y6 y7 _ g0 g1 g2 g3 g4 g5 g6 g7 Hc.out.1 Hc.out.2).mono ?_
      rintro e w5 ⟨rfl, hb5⟩
      have Hb5 := Lib.hid ((Hb.out.trans (Hb4.out.mono hbw)).trans (hb5.mono (Nat.le_trans hbw Hb4.out.size)))
      have Hown5 := Lib.hid (own_below Hown4.out hb5)
      have hsz := Hb5.out.size
      have Hnews := Lib.hid (four_new w5 33 cc y2 y3 kk)
      clear hb5 c0 c1 c2 c3 c4 c5 c6 c7
      go_wp2_with (at_builtin; refine wpList_append_own _ rfl (.tmp 30) (.tmp 33) 29 rfl w.heap.size 33 i0 _ 4 8 Try.underlying29 hi hz0 hz1 hz2 rfl (by decide) _ k ((dec ns k).flatMap Ins.cells) rfl (Hown5.out.alloc _) ⟨w5.heap.size, 0, none⟩ 1 1 (Ins.cells ⟨cc, y2, y3, kk⟩) rfl rfl Hnews.out (cells_one _) (by unfold maxLen; omega) (by omega) (by simp; omega) ?_; intro v' w6 hown' hgrow _)
      have Hown' := Lib.hid (show w6.ownsRow w.heap.size 33 4 v' (k + 1) ((dec ns (k + 1)).flatMap Ins.cells) by rw [Hstep.out, ← Hc.out.1, ← Hc.out.2, List.flatMap_append]; simpa using hown')
      have Hb' := Lib.hid (show Below w.heap.size w w6 from (Hb5.out.alloc hsz _).grown hgrow (by simp; omega) (fun k hk => (Hown5.out.lt k hk).1))
      clear hown' hgrow
      go_wp2
      go_roundw
      case rel => exact ⟨k + 1, a + 8, by omega, by omega, by omega, by go_num, Hown', Hb'⟩
      case measure => simp [intOf]; omega
    · obtain rfl : k = m := by omega
      go_wp2_with fail
      go_ret2
      exact ⟨_, rfl, Hown.out, Hb.out⟩
end Go.Proofs.Ytknhkcjfnlbnnaa
