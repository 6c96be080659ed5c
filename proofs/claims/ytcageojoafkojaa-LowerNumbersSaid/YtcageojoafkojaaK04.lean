/- slices.Reverse over instructions. -/
import Derived.Test.YtcageojoafkojaaK03
namespace Go.Proofs.Ytcageojoafkojaa.Ju
open Go.RowKit Go.Maps Go.WideMaps Go.WideElems Go.ChangeMaps
theorem or_set {w : World} {B : Nat} {e : TypeId} {z n g cap j : Nat} {xs : List Value} (h : w.ownsRow B e z (.slice (some ⟨g, 0, none⟩) n cap) n xs) (u : Value) : (w.setCell ⟨g, j, none⟩ u).ownsRow B e z (.slice (some ⟨g, 0, none⟩) n cap) n (xs.set j u) := by
  obtain ⟨h1, ⟨h2, h3⟩ | ⟨g', cap', cur, h2, h3, h4, h5, h6, h7, h8⟩⟩ := h
  · cases h2
  · cases h2
    refine ⟨by rw [List.length_set]; exact h1, Or.inr ⟨g, cap, cur.setIfInBounds j u, rfl, h3, ?_, h5, h6, by rw [Array.size_setIfInBounds]; exact h7, ?_⟩⟩
    · simp [World.setCell, Array.getElem?_modify, h4]
    · rw [Array.toList_setIfInBounds, List.take_set, h8]
theorem or_cell {w : World} {B : Nat} {e : TypeId} {z n g cap : Nat} {xs : List Value} (h : w.ownsRow B e z (.slice (some ⟨g, 0, none⟩) n cap) n xs) {j : Nat} {u : Value} (hu : xs[j]? = some u) : w.cell? ⟨g, j, none⟩ = some u ∧ w.frozen? ⟨g, j, none⟩ = false ∧ g < w.heap.size := by
  obtain ⟨h1, ⟨h2, h3⟩ | ⟨g', cap', cur, h2, h3, h4, h5, h6, h7, h8⟩⟩ := h
  · cases h2
  · cases h2
    refine ⟨?_, by simp [World.frozen?, h4], (Array.getElem?_eq_some_iff.1 h4).1⟩
    have hj : j < n * z := by rw [← h1]; exact (List.getElem?_eq_some_iff.1 hu).1
    rw [← h8, List.getElem?_take_of_lt hj] at hu
    simp [World.cell?, h4]
    rw [← Array.getElem?_toList]; exact hu
theorem set_four (l : List Ins) : ∀ (k : Nat) (x : Ins), k < l.length → ((((l.flatMap Ins.cells).set (k * 4) (.int .u16 x.c)).set (k * 4 + 1) (.int .u8 x.t)).set (k * 4 + 2) (.int .u8 x.f)).set (k * 4 + 3) (.int .u32 x.k) = (l.set k x).flatMap Ins.cells := by
  induction l with
  | nil => intro k x h; simp at h
  | cons y t ih =>
    intro k x h
    cases k with
    | zero => rfl
    | succ k =>
      have := ih k x (by simpa using h)
      rw [List.set_cons_succ, List.flatMap_cons, List.flatMap_cons, ← this]
      have e : ∀ j v (xs : List Value), (Ins.cells y ++ xs).set (j + 4) v = Ins.cells y ++ xs.set j v := fun j v xs => by
        rw [List.set_append_right _ _ (by simp [Ins.cells])]; simp [Ins.cells]
      rw [show (k + 1) * 4 = k * 4 + 4 from by omega, e, show k * 4 + 4 + 1 = k * 4 + 1 + 4 from by omega, e, show k * 4 + 4 + 2 = k * 4 + 2 + 4 from by omega, e, show k * 4 + 4 + 3 = k * 4 + 3 + 4 from by omega, e]
/-- So far turned round from both ends. -/
def Half (l cur : List Ins) (i : Nat) : Prop := cur.length = l.length ∧ ∀ k, k < l.length → cur[k]? = if k < i ∨ l.length ≤ k + i then l[l.length - 1 - k]? else l[k]?
theorem half_0 (l : List Ins) : Half l l 0 := ⟨rfl, fun k hk => by rw [if_neg (by omega)]⟩
theorem half_step {l cur : List Ins} {i j : Nat} {x y : Ins} (h : Half l cur i) (hij : i < j) (hj : j + i + 1 = l.length) (hx : cur[i]? = some x) (hy : cur[j]? = some y) : Half l ((cur.set i y).set j x) (i + 1) := by
  refine ⟨by simp [h.1], fun k hk => ?_⟩
  have hxl : l[i]? = some x := by rw [← hx, h.2 i (by omega), if_neg (by omega)]
  have hyl : l[j]? = some y := by rw [← hy, h.2 j (by omega), if_neg (by omega)]
  by_cases h1 : k = j
  · subst h1
    rw [List.getElem?_set_self (by simp [h.1]; omega), if_pos (by omega), show l.length - 1 - k = i from by omega, hxl]
  · rw [List.getElem?_set_ne (fun e => h1 e.symm)]
    by_cases h2 : k = i
    · subst h2
      rw [List.getElem?_set_self (by rw [h.1]; omega), if_pos (by omega), show l.length - 1 - k = j from by omega, hyl]
    · rw [List.getElem?_set_ne (fun e => h2 e.symm), h.2 k hk]
      by_cases h3 : k < i ∨ l.length ≤ k + i
      · rw [if_pos h3, if_pos (by omega)]
      · rw [if_neg h3, if_neg (by omega)]
theorem half_end {l cur : List Ins} {i : Nat} (h : Half l cur i) (hi : l.length ≤ 2 * i + 1) : cur = l.reverse := by
  apply List.ext_getElem?
  intro k
  by_cases hk : k < l.length
  · rw [h.2 k hk, List.getElem?_reverse hk]
    by_cases h3 : k < i ∨ l.length ≤ k + i
    · rw [if_pos h3]
    · rw [if_neg h3]
      congr 1; omega
  · rw [List.getElem?_eq_none (by rw [h.1]; omega), List.getElem?_eq_none (by simp; omega)]
/-- Four cells of a row. -/
def W4 (w : World) (g k : Nat) (x : Ins) : World := (((w.setCell ⟨g, k * 4, none⟩ (.int .u16 x.c)).setCell ⟨g, k * 4 + 1, none⟩ (.int .u8 x.t)).setCell ⟨g, k * 4 + 2, none⟩ (.int .u8 x.f)).setCell ⟨g, k * 4 + 3, none⟩ (.int .u32 x.k)
theorem put_four {w : World} {B g n cap k : Nat} {e : TypeId} {cur : List Ins} (x : Ins) (h : w.ownsRow B e 4 (.slice (some ⟨g, 0, none⟩) n cap) n (cur.flatMap Ins.cells)) (hk : k < cur.length) :
    (W4 w g k x).ownsRow B e 4 (.slice (some ⟨g, 0, none⟩) n cap) n ((cur.set k x).flatMap Ins.cells) ∧ w.grownBy (W4 w g k x) (some g) := by
  constructor
  · rw [← set_four cur k x hk]
    exact or_set (or_set (or_set (or_set h _) _) _) _
  · exact only_trans (only_set w g _ _) (only_trans (only_set _ g _ _) (only_trans (only_set _ g _ _) (only_set _ g _ _)))
theorem drew_two {w W : World} {B z n : Nat} {e : TypeId} {v : Value} {xs : List Value} {r : Option Nat} (h : W.ownsRow B e z v n xs) (s : w.grownBy W r) : W.drew.ownsRow B e z v n xs ∧ w.grownBy W.drew r :=
  ⟨own_keepN h (Below.refl _ _).drew, s.os, s.tape, s.output, s.size, s.block⟩
theorem swap_row {w : World} {B g n cap i j : Nat} {e : TypeId} {cur : List Ins} {x y : Ins} (h : w.ownsRow B e 4 (.slice (some ⟨g, 0, none⟩) n cap) n (cur.flatMap Ins.cells)) (hi : i < cur.length) (hj : j < cur.length) :
    (W4 (W4 w g i y) g j x).drew.ownsRow B e 4 (.slice (some ⟨g, 0, none⟩) n cap) n (((cur.set i y).set j x).flatMap Ins.cells) ∧ w.grownBy (W4 (W4 w g i y) g j x).drew (some g) := by
  obtain ⟨h1, g1⟩ := put_four y h hi
  obtain ⟨h2, g2⟩ := put_four (k := j) x h1 (by simpa using hj)
  exact drew_two h2 (only_trans g1 g2)
set_option maxHeartbeats 8000000 in
set_option maxRecDepth 100000 in
theorem reverse_any (l : List Ins) (n B : Nat) (A : Option Addr) (cap : Nat) (w : World) (hl : l.length = n) (hn : n ≤ 5000) (hr : w.ownsRow B 122 4 (.slice A n cap) n (l.flatMap Ins.cells)) :
    Calls Try.prog 50 #[.slice A n cap] w fun e w' => e = .returned (.tuple #[]) ∧ w'.ownsRow B 122 4 (.slice A n cap) n (l.reverse.flatMap Ins.cells) ∧ w.grownBy w' (Value.slice A n cap).ownBlock := by
  have HR := Lib.hid hr
  have HL := Lib.hid hl
  clear hr hl
  go_enter Try.func50, Try.ntmps50
  have e0 : IntKind.i64.wrap ((n : Int) - 1) = (n : Int) - 1 := by rw [IntKind.wrap_i64]; omega
  go_wp2_with fail
  clear e0
  go_loopw [2, 3] (fun iv jv wr => ∃ (i : Nat) (z : Int) (cur : List Ins), iv = .int .i64 i ∧ jv = .int .i64 z ∧ z + i + 1 = n ∧ 2 * i ≤ n ∧ Hid (Half l cur i) ∧ Hid (wr.ownsRow B 122 4 (.slice A n cap) n (cur.flatMap Ins.cells)) ∧ Hid (w.grownBy wr (Value.slice A n cap).ownBlock)) (fun iv _ _ => n - (intOf iv).toNat)
  case atStart => exact ⟨0, _, l, rfl, rfl, by omega, by omega, Lib.hid (half_0 l), HR, Lib.hid (World.grownBy.refl _ _)⟩
  case round =>
    obtain ⟨i, z, cur, rfl, rfl, hz, hi, HH, HO, HG⟩ := hrel
    by_cases hlt : (i : Int) < z
    · obtain ⟨j, rfl⟩ : ∃ j : Nat, z = (j : Int) := ⟨z.toNat, by omega⟩
      have hij : i < j := by omega
      have hj : j + i + 1 = n := by omega
      obtain ⟨x, hx⟩ : ∃ x, cur[i]? = some x := ⟨_, List.getElem?_eq_getElem (by have := HH.out.1; have := HL.out; omega)⟩
      obtain ⟨y, hy⟩ : ∃ y, cur[j]? = some y := ⟨_, List.getElem?_eq_getElem (by have := HH.out.1; have := HL.out; omega)⟩
      obtain ⟨g, rfl⟩ : ∃ g, A = some ⟨g, 0, none⟩ := by
        obtain ⟨_, ⟨h2, h3⟩ | ⟨g', cap', cur', h2, _⟩⟩ := HO.out
        · omega
        · injection h2 with h2; exact ⟨g', h2⟩
      have HX := Lib.hid (And.intro hx hy)
      have ci : ∀ t u, t < 4 → x.cells[t]? = some u → wr.cell? ⟨g, i * 4 + t, none⟩ = some u ∧ wr.frozen? ⟨g, i * 4 + t, none⟩ = false ∧ g < wr.heap.size := fun t u ht hu => or_cell HO.out (by rw [cells_at _ _ _ ht, HX.out.1]; exact hu)
      have cj : ∀ t u, t < 4 → y.cells[t]? = some u → wr.cell? ⟨g, j * 4 + t, none⟩ = some u ∧ wr.frozen? ⟨g, j * 4 + t, none⟩ = false ∧ g < wr.heap.size := fun t u ht hu => or_cell HO.out (by rw [cells_at _ _ _ ht, HX.out.2]; exact hu)
      obtain ⟨a0, b0, gl⟩ := ci 0 _ (by omega) rfl
      obtain ⟨a1, b1, _⟩ := ci 1 _ (by omega) rfl
      obtain ⟨a2, b2, _⟩ := ci 2 _ (by omega) rfl
      obtain ⟨a3, b3, _⟩ := ci 3 _ (by omega) rfl
      obtain ⟨c0, d0, _⟩ := cj 0 _ (by omega) rfl
      obtain ⟨c1, d1, _⟩ := cj 1 _ (by omega) rfl
      obtain ⟨c2, d2, _⟩ := cj 2 _ (by omega) rfl
      obtain ⟨c3, d3, _⟩ := cj 3 _ (by omega) rfl
      rw [Nat.add_zero] at a0 b0 c0 d0
      have i0 : (0 : Int) ≤ (i : Int) := by omega
      have i1 : (i : Int) < (n : Int) := by omega
      have j0 : (0 : Int) ≤ (j : Int) := by omega
      have j1 : (j : Int) < (n : Int) := by omega
      have e1 : IntKind.i64.wrap ((i : Int) + 1) = ((i + 1 : Nat) : Int) := by rw [IntKind.wrap_i64]; omega
      have e2 : IntKind.i64.wrap ((j : Int) - 1) = (j : Int) - 1 := by rw [IntKind.wrap_i64]; omega
      have HW := Lib.hid (swap_row (x := x) (y := y) HO.out (List.getElem?_eq_some_iff.1 hx).1 (List.getElem?_eq_some_iff.1 hy).1)
      have HH2 := Lib.hid (half_step HH.out hij (by have := HL.out; omega) hx hy)
      clear ci cj hx hy
      go_upto_region 3 with fail
      refine wp_region_any (by kernel_rfl) ?_
      try (change wpAny _ _ _ _ _ _ _ (World.drew _))
      refine wpAny_take (i := 0) (v := ?_) rfl (by kernel_rfl) (by kernel_rfl) (by kernel_rfl) (fun _ _ _ h => h) (Or.inl ⟨by rfl, ?_⟩) ?_
      rotate_left 1
      · intro w
        (go_simp) <;> (with_reducible rfl)
      refine wpAny_take (i := 1) (v := ?_) rfl (by kernel_rfl) (by kernel_rfl) (by kernel_rfl) (fun _ _ _ h => h) (Or.inl ⟨by rfl, ?_⟩) ?_
      rotate_left 1
      · intro w
        (go_simp) <;> (with_reducible rfl)
      refine wpAny_take (i := 2) (v := ?_) rfl (by kernel_rfl) (by kernel_rfl) (by kernel_rfl) (fun _ _ _ h => h) (Or.inl ⟨by rfl, ?_⟩) ?_
      rotate_left 1
      · intro w
        (go_simp) <;> (with_reducible rfl)
      refine wpAny_take (i := 3) (v := ?_) rfl (by kernel_rfl) (by kernel_rfl) (by kernel_rfl) (fun _ _ _ h => h) (Or.inl ⟨by rfl, ?_⟩) ?_
      rotate_left 1
      · intro w
        (go_simp) <;> (with_reducible rfl)
      refine wpAny_take (i := 4) (v := ?_) rfl (by kernel_rfl) (by kernel_rfl) (by kernel_rfl) (fun _ _ _ h => h) (Or.inl ⟨by rfl, ?_⟩) ?_
      rotate_left 1
      · intro w
        (go_simp) <;> (with_reducible rfl)
      refine wpAny_take (i := 5) (v := ?_) rfl (by kernel_rfl) (by kernel_rfl) (by kernel_rfl) (fun _ _ _ h => h) (Or.inl ⟨by rfl, ?_⟩) ?_
      rotate_left 1
      · intro w
        (go_simp) <;> (with_reducible rfl)
      refine wpAny_take (i := 6) (v := ?_) rfl (by kernel_rfl) (by kernel_rfl) (by kernel_rfl) (fun _ _ _ h => h) (Or.inl ⟨by rfl, ?_⟩) ?_
      rotate_left 1
      · intro w
        (go_simp) <;> (with_reducible rfl)
      refine wpAny_take (i := 8) (v := ?_) rfl (by kernel_rfl) (by kernel_rfl) (by kernel_rfl) (fun _ _ _ h => h) (Or.inl ⟨by rfl, ?_⟩) ?_
      rotate_left 1
      · intro w
        (go_simp) <;> (with_reducible rfl)
      refine wpAny_take (i := 9) (v := ?_) rfl (by kernel_rfl) (by kernel_rfl) (by kernel_rfl) (fun _ _ _ h => h) (Or.inl ⟨by rfl, ?_⟩) ?_
      rotate_left 1
      · intro w
        (go_simp) <;> (with_reducible rfl)
      refine wpAny_take (i := 10) (v := ?_) rfl (by kernel_rfl) (by kernel_rfl) (by kernel_rfl) (fun _ _ _ h => h) (Or.inl ⟨by rfl, ?_⟩) ?_
      rotate_left 1
      · intro w
        (go_simp) <;> (with_reducible rfl)
      refine wpAny_ready (rs := [7, 11]) (by kernel_rfl) (by simp) ?_
      refine AllReady.cons rfl (fun K hK => ?_) ?_
      · skip
        go_simp
        refine hK _ _ ?_
        clear hK K
        refine wpAny_ready (rs := [11]) (by kernel_rfl) (by simp) ?_
        refine AllReady.cons rfl (fun K hK => ?_) ?_
        · skip
          go_simp
          refine hK _ _ ?_
          clear hK K
          refine wpAny_take (i := 12) (v := ?_) rfl (by kernel_rfl) (by kernel_rfl) (by kernel_rfl) (fun _ _ _ h => h) (Or.inl ⟨by rfl, ?_⟩) ?_
          rotate_left 1
          · intro w
            (go_simp) <;> (with_reducible rfl)
          refine wpAny_ready (rs := [13]) (by kernel_rfl) (by simp) ?_
          refine AllReady.cons rfl (fun K hK => ?_) ?_
          · skip
            go_simp
            refine hK _ _ ?_
            clear hK K
            refine wpAny_take (i := 14) (v := ?_) rfl (by kernel_rfl) (by kernel_rfl) (by kernel_rfl) (fun _ _ _ h => h) (Or.inl ⟨by rfl, ?_⟩) ?_
            rotate_left 1
            · intro w
              (go_simp) <;> (with_reducible rfl)
            refine wpAny_ready (rs := [15]) (by kernel_rfl) (by simp) ?_
            refine AllReady.cons rfl (fun K hK => ?_) ?_
            · skip
              go_simp
              refine hK _ _ ?_
              clear hK K
              refine wpAny_done (by kernel_rfl) ?_ _
              go_wp2_with fail
              go_roundw
              case rel => exact ⟨i + 1, (j : Int) - 1, _, by go_num, rfl, by omega, by omega, HH2, Lib.hid HW.out.1, Lib.hid (only_trans HG.out HW.out.2)⟩
              case measure => simp [intOf]; omega
            exact AllReady.nil
          exact AllReady.nil
        exact AllReady.nil
      refine AllReady.cons rfl (fun K hK => ?_) ?_
      · skip
        go_simp
        refine hK _ _ ?_
        clear hK K
        refine wpAny_ready (rs := [7]) (by kernel_rfl) (by simp) ?_
        refine AllReady.cons rfl (fun K hK => ?_) ?_
        · skip
          go_simp
          refine hK _ _ ?_
          clear hK K
          refine wpAny_take (i := 12) (v := ?_) rfl (by kernel_rfl) (by kernel_rfl) (by kernel_rfl) (fun _ _ _ h => h) (Or.inl ⟨by rfl, ?_⟩) ?_
          rotate_left 1
          · intro w
            (go_simp) <;> (with_reducible rfl)
          refine wpAny_ready (rs := [13]) (by kernel_rfl) (by simp) ?_
          refine AllReady.cons rfl (fun K hK => ?_) ?_
          · skip
            go_simp
            refine hK _ _ ?_
            clear hK K
            refine wpAny_take (i := 14) (v := ?_) rfl (by kernel_rfl) (by kernel_rfl) (by kernel_rfl) (fun _ _ _ h => h) (Or.inl ⟨by rfl, ?_⟩) ?_
            rotate_left 1
            · intro w
              (go_simp) <;> (with_reducible rfl)
            refine wpAny_ready (rs := [15]) (by kernel_rfl) (by simp) ?_
            refine AllReady.cons rfl (fun K hK => ?_) ?_
            · skip
              go_simp
              refine hK _ _ ?_
              clear hK K
              refine wpAny_done (by kernel_rfl) ?_ _
              go_wp2_with fail
              go_roundw
              case rel => exact ⟨i + 1, (j : Int) - 1, _, by go_num, rfl, by omega, by omega, HH2, Lib.hid HW.out.1, Lib.hid (only_trans HG.out HW.out.2)⟩
              case measure => simp [intOf]; omega
            exact AllReady.nil
          exact AllReady.nil
        exact AllReady.nil
      exact AllReady.nil

    · have HE := Lib.hid (half_end HH.out (by have := HL.out; omega))
      go_wp2_with fail
      go_end0
      exact ⟨rfl, by rw [← HE.out]; exact HO.out, HG.out⟩
end Go.Proofs.Ytcageojoafkojaa.Ju
namespace Go.Proofs.Ytcageojoafkojaa.Ju
open Go.RowKit Go.Maps Go.WideMaps Go.WideElems Go.ChangeMaps
theorem infoIn : (Try.prog.info? 122).map (fun i => (i.zero, i.size, i.bytes)) = some (some (.agg #[.int .u16 0, .int .u8 0, .int .u8 0, .int .u32 0]), 4, 8) := by kernel_rfl
set_option maxRecDepth 100000 in
theorem CR.run {w : World} {p m B : Nat} {v : Value} {c : CdM} (h : CR w p m B v c) (i : Ins) (hl : c.ins.length ≤ 5000) (ty : TypeId) :
    ∃ v' wb, (Builtin.append_ #[70, 70] ty #[v, .slice (some ⟨w.heap.size, 0, none⟩) 1 1]).run Try.prog (w.alloc (.cells #[.int .u16 i.c, .int .u8 i.t, .int .u8 i.f, .int .u32 i.k] 122)) = .ok v' wb ∧
      CR (wb.setCell ⟨p, 0, none⟩ v') p m B v' ⟨i :: c.ins, c.bh⟩ ∧ Fr p m v v' w (wb.setCell ⟨p, 0, none⟩ v') ∧ wb.cell? ⟨p, 0, none⟩ = some v ∧ wb.frozen? ⟨p, 0, none⟩ = false ∧ p < wb.heap.size := by
  obtain ⟨i0, hi, hz0, hz1, hz2⟩ := info_parts infoIn
  have hb := oneb w (.cells #[.int .u16 i.c, .int .u8 i.t, .int .u8 i.f, .int .u32 i.k] 122)
  have hk := h.below hb
  have hB : Bk (w.alloc (.cells #[.int .u16 i.c, .int .u8 i.t, .int .u8 i.f, .int .u32 i.k] 122)) w.heap.size 122 i.cells := Bk.new w _ _ rfl
  obtain ⟨v', wb, hr, ho, hg, _, hat⟩ := run_append_own_at (P := Try.prog) (w.alloc (.cells #[.int .u16 i.c, .int .u8 i.t, .int .u8 i.f, .int .u32 i.k] 122)) B 70 ty 122 i0 _ 4 8 Try.underlying70 hi hz0 hz1 hz2 rfl (by decide) v c.ins.length _ hk.row ⟨w.heap.size, 0, none⟩ 1 1 i.cells (by rfl) (fun j u hu => by rw [addr_at, Nat.zero_add]; exact hB.cell j hu) (cells_one i) (by unfold maxLen; omega) (by omega) hk.le
  have hge := own_ge hk.row
  have hle := hk.le
  have hbox : Bk wb p 133 [v, .map (some m)] := hk.box.grown hg (fun e => by have := (hge p e.symm).1; have := h.pB; omega)
  have hmp : NMap wb 3 m (c.bh.map bhI) := hk.mp.grown hg (fun e => by have := (hge m e.symm).1; have := h.mB; omega)
  have hs := only_set wb p 0 v'
  have hpB := h.pB
  have hmB := h.mB
  have hge2 := own_ge ho
  refine ⟨v', wb, hr, ⟨hbox.set 0 v', ?_, hmp.grown hs (fun e => by injection e with e; exact h.pm e.symm), h.pB, h.mB, h.pm, Nat.le_trans hle (Nat.le_trans hg.size hs.size)⟩, ?_, hbox.cell 0 rfl, hbox.fz 0, hbox.lt⟩
  · have := own_keep ho hs (fun b hb e => by have := (hge2 b hb).1; omega)
    simpa using this
  · refine ((Fr.of_below p m v hb).trans ?_).trans (Fr.grown v' hs (Or.inl rfl))
    exact ⟨hg.os, hg.tape, hg.output, hg.size, fun k hk1 _ _ h3 => hg.block k hk1 (fun e => h3 e), hat.imp id fun e g hg2 => by rw [e] at hg2; injection hg2 with hg2; omega⟩
theorem far_b (w : World) (p m B : Nat) (v : Value) (c : CdM) (n : Int) (b : Nat) (h : CR w p m B v c) (h1 : -9223372036854775808 ≤ n) (h2 : n ≤ 9223372036854775807) (hb : lk n c.bh = some b) (hbl : b ≤ c.ins.length) (hl : c.ins.length ≤ 5000) :
    Calls Try.prog 118 #[.pointer (some ⟨p, 0, none⟩), .int .i64 n] w fun e w' => e = .returned (.int .i64 ((c.ins.length - b : Nat) : Int)) ∧ Below w.heap.size w w' :=
  (far_any w p m B v c n b h h1 h2 hb hbl hl).mono fun _ _ ⟨he, _, hw⟩ => ⟨he, by rw [hw]; exact below_drewN (Below.refl _ _) _⟩
/-- What a step answers: an error's number; code. -/
def StepPost (p m B : Nat) (v : Value) (w : World) (en : Int) (c2 : CdM) (e : Ending) (w' : World) : Prop := e = .returned (.int .i64 en) ∧ ∃ v2, CR w' p m B v2 c2 ∧ Fr p m v v2 w w'
set_option maxHeartbeats 8000000 in
set_option maxRecDepth 100000 in
theorem skip_any (w : World) (p m B : Nat) (v : Value) (c : CdM) (n : Int) (b : Nat) (h : CR w p m B v c) (h1 : -9223372036854775808 ≤ n) (h2 : n ≤ 9223372036854775807) (hb : lk n c.bh = some b) (hbl : b ≤ c.ins.length) (hl : c.ins.length ≤ 5000) :
    Calls Try.prog 101 #[.pointer (some ⟨p, 0, none⟩), .int .i64 n] w fun e w' => e = .returned (.tuple #[]) ∧ ∃ v2, CR w' p m B v2 ⟨skipI (c.ins.length - b) :: c.ins, c.bh⟩ ∧ Fr p m v v2 w w' := by
  have HC := Lib.hid h.drew
  have HF := Lib.hid (Fr.of_below p m v (Below.refl w.heap.size w).drew)
  have HFar := Lib.hid (fun W (h : CR W p m B v c) => far_b W p m B v c n b h h1 h2 hb hbl hl)
  obtain ⟨d, hd⟩ : ∃ d, d = c.ins.length - b := ⟨_, rfl⟩
  have HSk := Lib.hid (fun W => skip_of (d : Int) W)
  rw [← hd] at HFar ⊢
  have hd5 : d ≤ 5000 := by omega
  have e1 : IntKind.u32.wrap (d : Int) = (d : Int) := by rw [IntKind.wrap_u32]; omega
  obtain ⟨A, cp, rfl⟩ := h.slice
  clear h hb hbl hd
  obtain ⟨k0, k1, kl, kf⟩ := HC.out.cells
  go_enter Try.func101, Try.ntmps101
  refine wp_region_any (by kernel_rfl) ?_
  try (change wpAny _ _ _ _ _ _ _ (World.drew _))
  refine wpAny_take (i := 0) (v := ?_) rfl (by kernel_rfl) (by kernel_rfl) (by kernel_rfl) (fun _ _ _ h => h) (Or.inl ⟨by rfl, ?_⟩) ?_
  rotate_left 1
  · intro w
    (go_simp) <;> (with_reducible rfl)
  refine wpAny_take (i := 1) (v := ?_) rfl (by kernel_rfl) (by kernel_rfl) (by kernel_rfl) (fun _ _ _ h => h) (Or.inl ⟨by rfl, ?_⟩) ?_
  rotate_left 1
  · intro w
    (go_simp) <;> (with_reducible rfl)
  refine wpAny_take (i := 2) (v := ?_) rfl (by kernel_rfl) (by kernel_rfl) (by kernel_rfl) (fun _ _ _ h => h) (Or.inl ⟨by rfl, ?_⟩) ?_
  rotate_left 1
  · intro w
    (go_simp) <;> (with_reducible rfl)
  refine wpAny_take (i := 3) (v := ?_) rfl (by kernel_rfl) (by kernel_rfl) (by kernel_rfl) (fun _ _ _ h => h) (Or.inl ⟨by rfl, ?_⟩) ?_
  rotate_left 1
  · intro w
    (go_simp) <;> (with_reducible rfl)
  refine wpAny_take (i := 5) (v := ?_) rfl (by kernel_rfl) (by kernel_rfl) (by kernel_rfl) (fun _ _ _ h => h) (Or.inl ⟨by rfl, ?_⟩) ?_
  rotate_left 1
  · intro w
    (go_simp) <;> (with_reducible rfl)
  refine wpAny_take (i := 6) (v := ?_) rfl (by kernel_rfl) (by kernel_rfl) (by kernel_rfl) (fun _ _ _ h => h) (Or.inl ⟨by rfl, ?_⟩) ?_
  rotate_left 1
  · intro w
    (go_simp) <;> (with_reducible rfl)
  refine wpAny_ready (rs := [4, 7]) (by kernel_rfl) (by simp) ?_
  refine AllReady.cons rfl (fun K hK => ?_) ?_
  · skip
    go_simp
    refine hK _ _ ?_
    clear hK K
    refine wpAny_ready (rs := [7]) (by kernel_rfl) (by simp) ?_
    refine AllReady.cons rfl (fun K hK => ?_) ?_
    · skip
      go_simp
      refine (HFar.out _ HC.out).mono ?_
      rintro e w1 ⟨rfl, hb1⟩
      have HC1 := Lib.hid (HC.out.below hb1)
      have HF1 := Lib.hid (HF.out.trans (Fr.of_below _ _ _ hb1))
      clear k0 k1 kl kf hb1 HC HF
      have HC := HC1
      have HF := HF1
      clear HC1 HF1
      obtain ⟨k0, k1, kl, kf⟩ := HC.out.cells
      refine hK _ _ ?_
      clear hK K
      refine wpAny_ready (rs := [8]) (by kernel_rfl) (by simp) ?_
      refine AllReady.cons rfl (fun K hK => ?_) ?_
      · skip
        go_simp
        refine hK _ _ ?_
        clear hK K
        refine wpAny_ready (rs := [9]) (by kernel_rfl) (by simp) ?_
        refine AllReady.cons rfl (fun K hK => ?_) ?_
        · skip
          go_simp
          refine (HSk.out _).mono ?_
          rintro e w1 ⟨rfl, hb1⟩
          have HC1 := Lib.hid (HC.out.below hb1)
          have HF1 := Lib.hid (HF.out.trans (Fr.of_below _ _ _ hb1))
          clear k0 k1 kl kf hb1 HC HF
          have HC := HC1
          have HF := HF1
          clear HC1 HF1
          obtain ⟨k0, k1, kl, kf⟩ := HC.out.cells
          refine hK _ _ ?_
          clear hK K
          refine wpAny_ready (rs := [10]) (by kernel_rfl) (by simp) ?_
          refine AllReady.cons rfl (fun K hK => ?_) ?_
          · skip
            go_simp
            refine hK _ _ ?_
            clear hK K
            refine wpAny_ready (rs := [11]) (by kernel_rfl) (by simp) ?_
            refine AllReady.cons rfl (fun K hK => ?_) ?_
            · skip
              obtain ⟨v2, wb, hr, hC2, hF2, r0, r1, r2⟩ := CR.run HC.out (skipI d) hl 70
              obtain ⟨A2, c2, hv2⟩ := hC2.slice
              obtain ⟨n2, hn2⟩ : ∃ n2, n2 = (⟨(skipI d) :: c.ins, c.bh⟩ : CdM).ins.length := ⟨_, rfl⟩
              rw [← hn2] at hv2
              clear hn2
              subst hv2
              have HC2 := Lib.hid hC2
              have HF2 := Lib.hid (HF.out.trans hF2)
              refine op_append (.tmp 8) (.tmp 14) 70 rfl _ _ _ wb rfl rfl hr ?_
              refine hK _ _ ?_
              clear hK K hr hC2 hF2 k0 k1 kl kf
              refine wpAny_take (i := 12) (v := ?_) rfl (by kernel_rfl) (by kernel_rfl) (by kernel_rfl) (fun _ _ _ h => h) (Or.inl ⟨by rfl, ?_⟩) ?_
              rotate_left 1
              · intro w
                (go_simp) <;> (with_reducible rfl)
              refine wpAny_take (i := 13) (v := ?_) rfl (by kernel_rfl) (by kernel_rfl) (by kernel_rfl) (fun _ _ _ h => h) (Or.inl ⟨by rfl, ?_⟩) ?_
              rotate_left 1
              · intro w
                (go_simp) <;> (with_reducible rfl)
              refine wpAny_ready (rs := [14]) (by kernel_rfl) (by simp) ?_
              refine AllReady.cons rfl (fun K hK => ?_) ?_
              · skip
                go_simp
                refine hK _ _ ?_
                clear hK K
                refine wpAny_done (by kernel_rfl) ?_ _
                go_wp2_with fail
                go_end0
                exact ⟨rfl, _, HC2.out, HF2.out⟩
              exact AllReady.nil
            exact AllReady.nil
          exact AllReady.nil
        exact AllReady.nil
      exact AllReady.nil
    exact AllReady.nil
  refine AllReady.cons rfl (fun K hK => ?_) ?_
  · skip
    go_simp
    refine (HFar.out _ HC.out).mono ?_
    rintro e w1 ⟨rfl, hb1⟩
    have HC1 := Lib.hid (HC.out.below hb1)
    have HF1 := Lib.hid (HF.out.trans (Fr.of_below _ _ _ hb1))
    clear k0 k1 kl kf hb1 HC HF
    have HC := HC1
    have HF := HF1
    clear HC1 HF1
    obtain ⟨k0, k1, kl, kf⟩ := HC.out.cells
    refine hK _ _ ?_
    clear hK K
    refine wpAny_ready (rs := [4, 8]) (by kernel_rfl) (by simp) ?_
    refine AllReady.cons rfl (fun K hK => ?_) ?_
    · skip
      go_simp
      refine hK _ _ ?_
      clear hK K
      refine wpAny_ready (rs := [8]) (by kernel_rfl) (by simp) ?_
      refine AllReady.cons rfl (fun K hK => ?_) ?_
      · skip
        go_simp
        refine hK _ _ ?_
        clear hK K
        refine wpAny_ready (rs := [9]) (by kernel_rfl) (by simp) ?_
        refine AllReady.cons rfl (fun K hK => ?_) ?_
        · skip
          go_simp
          refine (HSk.out _).mono ?_
          rintro e w1 ⟨rfl, hb1⟩
          have HC1 := Lib.hid (HC.out.below hb1)
          have HF1 := Lib.hid (HF.out.trans (Fr.of_below _ _ _ hb1))
          clear k0 k1 kl kf hb1 HC HF
          have HC := HC1
          have HF := HF1
          clear HC1 HF1
          obtain ⟨k0, k1, kl, kf⟩ := HC.out.cells
          refine hK _ _ ?_
          clear hK K
          refine wpAny_ready (rs := [10]) (by kernel_rfl) (by simp) ?_
          refine AllReady.cons rfl (fun K hK => ?_) ?_
          · skip
            go_simp
            refine hK _ _ ?_
            clear hK K
            refine wpAny_ready (rs := [11]) (by kernel_rfl) (by simp) ?_
            refine AllReady.cons rfl (fun K hK => ?_) ?_
            · skip
              obtain ⟨v2, wb, hr, hC2, hF2, r0, r1, r2⟩ := CR.run HC.out (skipI d) hl 70
              obtain ⟨A2, c2, hv2⟩ := hC2.slice
              obtain ⟨n2, hn2⟩ : ∃ n2, n2 = (⟨(skipI d) :: c.ins, c.bh⟩ : CdM).ins.length := ⟨_, rfl⟩
              rw [← hn2] at hv2
              clear hn2
              subst hv2
              have HC2 := Lib.hid hC2
              have HF2 := Lib.hid (HF.out.trans hF2)
              refine op_append (.tmp 8) (.tmp 14) 70 rfl _ _ _ wb rfl rfl hr ?_
              refine hK _ _ ?_
              clear hK K hr hC2 hF2 k0 k1 kl kf
              refine wpAny_take (i := 12) (v := ?_) rfl (by kernel_rfl) (by kernel_rfl) (by kernel_rfl) (fun _ _ _ h => h) (Or.inl ⟨by rfl, ?_⟩) ?_
              rotate_left 1
              · intro w
                (go_simp) <;> (with_reducible rfl)
              refine wpAny_take (i := 13) (v := ?_) rfl (by kernel_rfl) (by kernel_rfl) (by kernel_rfl) (fun _ _ _ h => h) (Or.inl ⟨by rfl, ?_⟩) ?_
              rotate_left 1
              · intro w
                (go_simp) <;> (with_reducible rfl)
              refine wpAny_ready (rs := [14]) (by kernel_rfl) (by simp) ?_
              refine AllReady.cons rfl (fun K hK => ?_) ?_
              · skip
                go_simp
                refine hK _ _ ?_
                clear hK K
                refine wpAny_done (by kernel_rfl) ?_ _
                go_wp2_with fail
                go_end0
                exact ⟨rfl, _, HC2.out, HF2.out⟩
              exact AllReady.nil
            exact AllReady.nil
          exact AllReady.nil
        exact AllReady.nil
      exact AllReady.nil
    refine AllReady.cons rfl (fun K hK => ?_) ?_
    · skip
      go_simp
      refine hK _ _ ?_
      clear hK K
      refine wpAny_ready (rs := [4, 9]) (by kernel_rfl) (by simp) ?_
      refine AllReady.cons rfl (fun K hK => ?_) ?_
      · skip
        go_simp
        refine hK _ _ ?_
        clear hK K
        refine wpAny_ready (rs := [9]) (by kernel_rfl) (by simp) ?_
        refine AllReady.cons rfl (fun K hK => ?_) ?_
        · skip
          go_simp
          refine (HSk.out _).mono ?_
          rintro e w1 ⟨rfl, hb1⟩
          have HC1 := Lib.hid (HC.out.below hb1)
          have HF1 := Lib.hid (HF.out.trans (Fr.of_below _ _ _ hb1))
          clear k0 k1 kl kf hb1 HC HF
          have HC := HC1
          have HF := HF1
          clear HC1 HF1
          obtain ⟨k0, k1, kl, kf⟩ := HC.out.cells
          refine hK _ _ ?_
          clear hK K
          refine wpAny_ready (rs := [10]) (by kernel_rfl) (by simp) ?_
          refine AllReady.cons rfl (fun K hK => ?_) ?_
          · skip
            go_simp
            refine hK _ _ ?_
            clear hK K
            refine wpAny_ready (rs := [11]) (by kernel_rfl) (by simp) ?_
            refine AllReady.cons rfl (fun K hK => ?_) ?_
            · skip
              obtain ⟨v2, wb, hr, hC2, hF2, r0, r1, r2⟩ := CR.run HC.out (skipI d) hl 70
              obtain ⟨A2, c2, hv2⟩ := hC2.slice
              obtain ⟨n2, hn2⟩ : ∃ n2, n2 = (⟨(skipI d) :: c.ins, c.bh⟩ : CdM).ins.length := ⟨_, rfl⟩
              rw [← hn2] at hv2
              clear hn2
              subst hv2
              have HC2 := Lib.hid hC2
              have HF2 := Lib.hid (HF.out.trans hF2)
              refine op_append (.tmp 8) (.tmp 14) 70 rfl _ _ _ wb rfl rfl hr ?_
              refine hK _ _ ?_
              clear hK K hr hC2 hF2 k0 k1 kl kf
              refine wpAny_take (i := 12) (v := ?_) rfl (by kernel_rfl) (by kernel_rfl) (by kernel_rfl) (fun _ _ _ h => h) (Or.inl ⟨by rfl, ?_⟩) ?_
              rotate_left 1
              · intro w
                (go_simp) <;> (with_reducible rfl)
              refine wpAny_take (i := 13) (v := ?_) rfl (by kernel_rfl) (by kernel_rfl) (by kernel_rfl) (fun _ _ _ h => h) (Or.inl ⟨by rfl, ?_⟩) ?_
              rotate_left 1
              · intro w
                (go_simp) <;> (with_reducible rfl)
              refine wpAny_ready (rs := [14]) (by kernel_rfl) (by simp) ?_
              refine AllReady.cons rfl (fun K hK => ?_) ?_
              · skip
                go_simp
                refine hK _ _ ?_
                clear hK K
                refine wpAny_done (by kernel_rfl) ?_ _
                go_wp2_with fail
                go_end0
                exact ⟨rfl, _, HC2.out, HF2.out⟩
              exact AllReady.nil
            exact AllReady.nil
          exact AllReady.nil
        exact AllReady.nil
      refine AllReady.cons rfl (fun K hK => ?_) ?_
      · skip
        go_simp
        refine (HSk.out _).mono ?_
        rintro e w1 ⟨rfl, hb1⟩
        have HC1 := Lib.hid (HC.out.below hb1)
        have HF1 := Lib.hid (HF.out.trans (Fr.of_below _ _ _ hb1))
        clear k0 k1 kl kf hb1 HC HF
        have HC := HC1
        have HF := HF1
        clear HC1 HF1
        obtain ⟨k0, k1, kl, kf⟩ := HC.out.cells
        refine hK _ _ ?_
        clear hK K
        refine wpAny_ready (rs := [4, 10]) (by kernel_rfl) (by simp) ?_
        refine AllReady.cons rfl (fun K hK => ?_) ?_
        · skip
          go_simp
          refine hK _ _ ?_
          clear hK K
          refine wpAny_ready (rs := [10]) (by kernel_rfl) (by simp) ?_
          refine AllReady.cons rfl (fun K hK => ?_) ?_
          · skip
            go_simp
            refine hK _ _ ?_
            clear hK K
            refine wpAny_ready (rs := [11]) (by kernel_rfl) (by simp) ?_
            refine AllReady.cons rfl (fun K hK => ?_) ?_
            · skip
              obtain ⟨v2, wb, hr, hC2, hF2, r0, r1, r2⟩ := CR.run HC.out (skipI d) hl 70
              obtain ⟨A2, c2, hv2⟩ := hC2.slice
              obtain ⟨n2, hn2⟩ : ∃ n2, n2 = (⟨(skipI d) :: c.ins, c.bh⟩ : CdM).ins.length := ⟨_, rfl⟩
              rw [← hn2] at hv2
              clear hn2
              subst hv2
              have HC2 := Lib.hid hC2
              have HF2 := Lib.hid (HF.out.trans hF2)
              refine op_append (.tmp 8) (.tmp 14) 70 rfl _ _ _ wb rfl rfl hr ?_
              refine hK _ _ ?_
              clear hK K hr hC2 hF2 k0 k1 kl kf
              refine wpAny_take (i := 12) (v := ?_) rfl (by kernel_rfl) (by kernel_rfl) (by kernel_rfl) (fun _ _ _ h => h) (Or.inl ⟨by rfl, ?_⟩) ?_
              rotate_left 1
              · intro w
                (go_simp) <;> (with_reducible rfl)
              refine wpAny_take (i := 13) (v := ?_) rfl (by kernel_rfl) (by kernel_rfl) (by kernel_rfl) (fun _ _ _ h => h) (Or.inl ⟨by rfl, ?_⟩) ?_
              rotate_left 1
              · intro w
                (go_simp) <;> (with_reducible rfl)
              refine wpAny_ready (rs := [14]) (by kernel_rfl) (by simp) ?_
              refine AllReady.cons rfl (fun K hK => ?_) ?_
              · skip
                go_simp
                refine hK _ _ ?_
                clear hK K
                refine wpAny_done (by kernel_rfl) ?_ _
                go_wp2_with fail
                go_end0
                exact ⟨rfl, _, HC2.out, HF2.out⟩
              exact AllReady.nil
            exact AllReady.nil
          exact AllReady.nil
        refine AllReady.cons rfl (fun K hK => ?_) ?_
        · skip
          go_simp
          refine hK _ _ ?_
          clear hK K
          refine wpAny_ready (rs := [4]) (by kernel_rfl) (by simp) ?_
          refine AllReady.cons rfl (fun K hK => ?_) ?_
          · skip
            go_simp
            refine hK _ _ ?_
            clear hK K
            refine wpAny_ready (rs := [11]) (by kernel_rfl) (by simp) ?_
            refine AllReady.cons rfl (fun K hK => ?_) ?_
            · skip
              obtain ⟨v2, wb, hr, hC2, hF2, r0, r1, r2⟩ := CR.run HC.out (skipI d) hl 70
              obtain ⟨A2, c2, hv2⟩ := hC2.slice
              obtain ⟨n2, hn2⟩ : ∃ n2, n2 = (⟨(skipI d) :: c.ins, c.bh⟩ : CdM).ins.length := ⟨_, rfl⟩
              rw [← hn2] at hv2
              clear hn2
              subst hv2
              have HC2 := Lib.hid hC2
              have HF2 := Lib.hid (HF.out.trans hF2)
              refine op_append (.tmp 8) (.tmp 14) 70 rfl _ _ _ wb rfl rfl hr ?_
              refine hK _ _ ?_
              clear hK K hr hC2 hF2 k0 k1 kl kf
              refine wpAny_take (i := 12) (v := ?_) rfl (by kernel_rfl) (by kernel_rfl) (by kernel_rfl) (fun _ _ _ h => h) (Or.inl ⟨by rfl, ?_⟩) ?_
              rotate_left 1
              · intro w
                (go_simp) <;> (with_reducible rfl)
              refine wpAny_take (i := 13) (v := ?_) rfl (by kernel_rfl) (by kernel_rfl) (by kernel_rfl) (fun _ _ _ h => h) (Or.inl ⟨by rfl, ?_⟩) ?_
              rotate_left 1
              · intro w
                (go_simp) <;> (with_reducible rfl)
              refine wpAny_ready (rs := [14]) (by kernel_rfl) (by simp) ?_
              refine AllReady.cons rfl (fun K hK => ?_) ?_
              · skip
                go_simp
                refine hK _ _ ?_
                clear hK K
                refine wpAny_done (by kernel_rfl) ?_ _
                go_wp2_with fail
                go_end0
                exact ⟨rfl, _, HC2.out, HF2.out⟩
              exact AllReady.nil
            exact AllReady.nil
          exact AllReady.nil
        exact AllReady.nil
      exact AllReady.nil
    exact AllReady.nil
  exact AllReady.nil
end Go.Proofs.Ytcageojoafkojaa.Ju
