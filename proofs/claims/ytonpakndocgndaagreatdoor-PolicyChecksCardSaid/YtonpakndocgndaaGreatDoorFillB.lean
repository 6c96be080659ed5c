/- The table's fill: behind it both maps hold all calls, and it counts as made once more. -/
import Derived.Test.YtonpakndocgndaaGreatDoorTab
import Derived.Lib.Hide
namespace Go.Proofs.YtonpakndocgndaaGreatDoor
open Go.RowKit Go.Maps Go.WideMaps Go.WideElems Go.ChangeMaps

theorem nameK : Keyed Tryz.prog 9 := string_keyed Tryz.underlying9
theorem numK : Keyed Tryz.prog 22 := int_keyed Tryz.underlying22

/-- What holds at each round's head. -/
structure FillRel (w : World) (b : Nat) (s asked made : Int) (k : Nat) (wr : World) : Prop where
  grown : w.grownBy wr (some b)
  room : w.heap.size + 3 ≤ wr.heap.size
  tab : Tab wr b 0 1 s asked made (.map (some w.heap.size)) (.map (some (w.heap.size + 1)))
  src : Src wr (w.heap.size + 1 + 1)
  names : wr.ownsMap Tryz.prog 9 callR w.heap.size k (nameD k)
  nums : wr.ownsMap Tryz.prog 22 callR (w.heap.size + 1) k (numD k)

theorem fill_start (w : World) (b : Nat) (s asked made : Int) (m5 m6 : Value) (h : Tab w b 0 1 s asked made m5 m6) :
    FillRel w b s asked made 0 (((((w.setCell ⟨b, 5, none⟩ (.map (some w.heap.size))).setCell ⟨b, 6, none⟩ (.map (some (w.heap.size + 1)))).alloc (.map #[] 0)).alloc (.map #[] 0)).alloc (.cells tableCells 123)) := by
  have hb := h.lt
  generalize hW : (w.setCell ⟨b, 5, none⟩ (.map (some w.heap.size))).setCell ⟨b, 6, none⟩ (.map (some (w.heap.size + 1))) = W
  have hs : W.heap.size = w.heap.size := by subst hW; simp [World.setCell]
  have hT : Tab W b 0 1 s asked made (.map (some w.heap.size)) (.map (some (w.heap.size + 1))) := by subst hW; exact (h.set5 _).set6 _
  have hg : w.grownBy W (some b) := by
    subst hW
    exact grown_trans (grown_setCell _ _ _) (grown_setCell _ _ _) (fun k hk => .inl hk)
  refine ⟨?_, by simp [hs], ((hT.alloc _).alloc _).alloc _, ?_, ?_, ?_⟩
  · exact grown_trans (grown_trans (grown_trans hg (World.grownBy_alloc _ _ none) (by simp)) (World.grownBy_alloc _ _ none) (by simp)) (World.grownBy_alloc _ _ none) (by simp)
  · have hz : ((W.alloc (.map #[] 0)).alloc (.map #[] 0)).heap.size = w.heap.size + 1 + 1 := by simp [hs]
    have h1 := (MapKept.heap_alloc ((W.alloc (.map #[] 0)).alloc (.map #[] 0)) (.cells tableCells 123)).1
    rw [hz] at h1
    exact h1
  · have h1 := World.ownsMap_made (H := Unit) W Tryz.prog 9 callR
    rw [hs] at h1
    exact (h1.alloc _).alloc _
  · have h1 := World.ownsMap_made (H := Unit) (W.alloc (.map #[] 0)) Tryz.prog 22 callR
    rw [show (W.alloc (.map #[] 0)).heap.size = w.heap.size + 1 from by simp [hs]] at h1
    exact h1.alloc _

/-- Within a round: the call's own variable lies in block c. -/
structure MidRel (w : World) (b : Nat) (s asked made : Int) (k k' c : Nat) (wr : World) : Prop where
  grown : w.grownBy wr (some b)
  room : w.heap.size + 3 ≤ c ∧ c < wr.heap.size
  tab : Tab wr b 0 1 s asked made (.map (some w.heap.size)) (.map (some (w.heap.size + 1)))
  src : Src wr (w.heap.size + 1 + 1)
  mine : wr.heap[c]? = some (.cells #[.int .u32 (rowAt k).1, .string ⟨(rowAt k).2.1.toArray⟩, .int .i64 (rowAt k).2.2] 123 (0, 0))
  names : wr.ownsMap Tryz.prog 9 callR w.heap.size k' (nameD k')
  nums : wr.ownsMap Tryz.prog 22 callR (w.heap.size + 1) k (numD k)

theorem mid_start {w : World} {b : Nat} {s asked made : Int} {k : Nat} {wr : World} (h : FillRel w b s asked made k wr) :
    MidRel w b s asked made k k wr.heap.size (wr.alloc (.cells #[.int .u32 (rowAt k).1, .string ⟨(rowAt k).2.1.toArray⟩, .int .i64 (rowAt k).2.2] 123)).drew := by
  have g := World.grownBy_alloc wr (.cells #[.int .u32 (rowAt k).1, .string ⟨(rowAt k).2.1.toArray⟩, .int .i64 (rowAt k).2.2] 123) none
  have hr := h.room
  have hs := h.src.kept g (by simp)
  refine ⟨grown_trans (grown_trans h.grown g (by simp)) (grown_drew _ none) (by simp), ⟨h.room, by simp [World.drew]⟩, h.tab.alloc _, hs, ?_, (h.names.alloc _).drew, (h.nums.alloc _).drew⟩
  exact (MapKept.heap_alloc wr _).1

theorem mid_cells {w : World} {b : Nat} {s asked made : Int} {k k' c : Nat} {wr : World} (h : MidRel w b s asked made k k' c wr) :
    wr.cell? ⟨c, 0, none⟩ = some (.int .u32 (rowAt k).1) ∧ wr.cell? ⟨c, 1, none⟩ = some (.string ⟨(rowAt k).2.1.toArray⟩) ∧ wr.cell? ⟨c, 2, none⟩ = some (.int .i64 (rowAt k).2.2) := by
  have := h.mine
  exact ⟨by simp [World.cell?, this], by simp [World.cell?, this], by simp [World.cell?, this]⟩

theorem mid_named {w : World} {b : Nat} {s asked made : Int} {k c : Nat} {wr w1 : World} (hb : b < w.heap.size) (hk : k < 30) (h : MidRel w b s asked made k k c wr)
    (ho : w1.ownsMap Tryz.prog 9 callR w.heap.size (k + 1) ((nameD k).put (.string (rowAt k).2.1) (rowD (rowAt k)))) (g : wr.grownBy w1 (some w.heap.size)) :
    MidRel w b s asked made k (k + 1) c w1.drew := by
  have hr := h.room
  have hm := h.mine
  have hs := h.src.kept g (by simp; omega)
  have g2 : w.grownBy w1 (some b) := grown_trans h.grown g (fun k hk => by cases hk; exact .inr (Nat.le_refl _))
  refine ⟨grown_trans g2 (grown_drew _ none) (by simp), ⟨hr.1, Nat.lt_of_lt_of_le hr.2 g.size⟩, (h.tab.kept g (by simp; omega)).drew, hs, ?_, ?_, (h.nums.kept g (by simp)).drew⟩
  · rw [← hm]; exact g.block c hr.2 (by simp; omega)
  · rw [nameD_step k hk]; exact ho.drew

theorem mid_end {w : World} {b : Nat} {s asked made : Int} {k c : Nat} {wr w1 : World} (hb : b < w.heap.size) (hk : k < 30) (h : MidRel w b s asked made k (k + 1) c wr)
    (ho : w1.ownsMap Tryz.prog 22 callR (w.heap.size + 1) (k + 1) ((numD k).put (.int .u32 (rowAt k).1) (rowD (rowAt k)))) (g : wr.grownBy w1 (some (w.heap.size + 1))) :
    FillRel w b s asked made (k + 1) w1 := by
  have hr := h.room
  have g2 : w.grownBy w1 (some b) := grown_trans h.grown g (fun k hk => by cases hk; exact .inr (by omega))
  refine ⟨g2, by have := g.size; omega, h.tab.kept g (by simp; omega), h.src.kept g (by simp), h.names.kept g (by simp), ?_⟩
  rw [numD_step k hk]; exact ho

theorem name_key (k : Nat) : keyOf Tryz.prog 9 (.string ⟨(rowAt k).2.1.toArray⟩) = some (.string (rowAt k).2.1) :=
  keyOf_string_mk Tryz.underlying9 (by
    have := (row_small k).2.1
    show ((rowAt k).2.1.toArray).size ≤ maxLen
    unfold maxLen; simp; omega)
theorem num_key (k : Nat) : keyOf Tryz.prog 22 (.int .u32 (rowAt k).1) = some (.int .u32 (rowAt k).1) :=
  keyOf_int_mk Tryz.underlying22 (by
    have := (row_small k).1
    exact WalkArith.wf_u32 (by omega))

set_option maxRecDepth 100000 in
set_option maxHeartbeats 1000000 in
theorem fill_any (b : Nat) (s asked made : Int) (m5 m6 : Value) (w : World) (hT : Tab w b 0 1 s asked made m5 m6) (hmade : IntKind.i64.wrap (made + 1) = made + 1) :
    Calls Tryz.prog 61 #[.pointer (some ⟨b, 0, none⟩)] w fun e w' => e = .returned (.tuple #[]) ∧ ∃ w1, FillRel w b s asked made 30 w1 ∧ w' = w1.setCell ⟨b, 4, none⟩ (.int .i64 (made + 1)) := by
  have hmm := @run_makeMap Tryz.prog
  have hst := Lib.hid (fill_start w b s asked made m5 m6 hT)
  have c5 := hT.c5
  have c6 := hT.c6
  have f5 := hT.fz 5
  have f6 := hT.fz 6
  have hb := hT.lt
  have hne : ¬ b = w.heap.size := by omega
  clear hT
  have Hm := Lib.hid hmade
  clear hmade
  go_enter Tryz.func61, Tryz.ntmps61
  go_wp2_with (go_at_call 73; refine (calls_any _).mono ?_; rintro e w' ⟨rfl, rfl⟩)
  go_loopw [14] (fun i wr => ∃ k : Nat, k ≤ 30 ∧ i = .int .i64 k ∧ FillRel w b s asked made k wr) (fun i _ => 30 - (intOf i).toNat)
  case atStart => exact ⟨0, by omega, rfl, hst.out⟩
  case round =>
    obtain ⟨k, hk, rfl, hr⟩ := hrel
    have Hr := Lib.hid hr
    have d4 := hr.tab.c4
    have d5 := hr.tab.c5
    have d6 := hr.tab.c6
    have g4 := hr.tab.fz 4
    have hbr := hr.tab.lt
    by_cases hlt : k < 30
    · obtain ⟨s0, s1, s2⟩ := hr.src.cell k hlt
      have hmid := Lib.hid (mid_start hr)
      clear hr d4 g4
      go_wp2
      refine wp_region_still_tail 7 (by kernel_rfl) (by kernel_rfl) ?_
      simp only [List.take_succ_cons, List.take_zero, List.drop_succ_cons, List.drop_zero]
      change wpStill _ _ (World.drew (wr.alloc _)) (fun a' => wpList _ _ _ _ a' (World.drew (wr.alloc _))) _ _
      repeat still_step
      refine wpStill_nil ?_
      refine wpList_mapUpdate_own _ rfl _ _ _ 83 rfl 9 123 nameK Tryz.underlying83 callR w.heap.size k (nameD k) rfl hmid.out.names (by unfold maxLen; omega) _ _ (.string (rowAt k).2.1) rfl rfl (name_key k) (rowD (rowAt k)) [] (callR_row _) ?_
      intro w1 hown1 hgrow1
      have hmid2 := Lib.hid (mid_named hb hlt hmid.out hown1 hgrow1)
      generalize hc : wr.heap.size = c at hmid2 ⊢
      have e6 : w1.drew.cell? ⟨b, 6, none⟩ = _ := hmid2.out.tab.c6
      obtain ⟨t0, t1, t2⟩ := mid_cells hmid2.out
      have hb1 := hmid2.out.tab.lt
      clear hmid hown1 hgrow1 s0 s1 s2 d5 d6 hbr hc
      go_wp2
      refine wp_region_still_tail 7 (by kernel_rfl) (by kernel_rfl) ?_
      simp only [List.take_succ_cons, List.take_zero, List.drop_succ_cons, List.drop_zero]
      change wpStill _ _ (World.drew _) (fun a' => wpList _ _ _ _ a' (World.drew _)) _ _
      repeat still_step
      refine wpStill_nil ?_
      refine wpList_mapUpdate_own _ rfl _ _ _ 84 rfl 22 123 numK Tryz.underlying84 callR (w.heap.size + 1) k (numD k) rfl hmid2.out.nums (by unfold maxLen; omega) _ _ (.int .u32 (rowAt k).1) rfl rfl (num_key k) (rowD (rowAt k)) [] (callR_row _) ?_
      intro w2 hown2 hgrow2
      have hend := Lib.hid (mid_end hb hlt hmid2.out hown2 hgrow2)
      clear hmid2 hown2 hgrow2 e6 t0 t1 t2 hb1
      go_wp2
      go_roundw
      case rel => exact ⟨k + 1, by omega, by go_num, hend.out⟩
      case measure => simp [intOf]; omega
    · clear hr
      have ha := Lib.hid hlt
      go_wp2_with (go_at_call 62; refine (add_one _ _ _ _ d4 g4 Hm.out).mono ?_; rintro e w1 ⟨rfl, rfl⟩)
      go_end0
      obtain rfl : k = 30 := by have := ha.out; omega
      exact ⟨rfl, _, Hr.out, rfl⟩
end Go.Proofs.YtonpakndocgndaaGreatDoor

