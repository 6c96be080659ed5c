/- slices.Reverse over instructions. -/
import Derived.Test.YtcageojoafkojaaJuC
namespace Go.Proofs.Ytcageojoafkojaa.Ju
open Go.RowKit Go.Maps Go.WideMaps Go.WideElems Go.ChangeMaps
theorem or_set {w : World} {B : Nat} {e : TypeId} {z n g cap j : Nat} {xs : List Value} (h : w.ownsRow B e z (.slice (some ⟨g, 0, none⟩) n cap) n xs) (u : Value) : (w.setCell ⟨g, j, none⟩ u).ownsRow B e z (.slice (some ⟨g, 0, none⟩) n cap) n (xs.set j u) := by
  obtain ⟨h1, ⟨h2, h3⟩ | ⟨g', cap', cur, h2, h3, h4, h5, h6, h7, h8⟩⟩ := h
  · cases h2
  · cases h2
    refine ⟨by rw [List.length_set]; exact h1, Or.inr ⟨g, cap, cur.setIfInBounds j u, rfl, h3, ?_, h5, h6, by rw [Array.size_setIfInBounds]; exact h7, ?_⟩⟩
    · simp [World.setCell, Array.getElem?_modify, h4]
    · rw [Array.toList_setIfInBounds, List.take_set, h8]
theorem or_cell {w : World} {B : Nat} {e : TypeId} {z n g cap : Nat} {xs : List Value} (h : w.ownsRow B e z (.slice (some ⟨g, 0, none⟩) n cap) n xs) {j : Nat} {u : Value} (hu : xs[j]? = some u) : w.cell? ⟨g, j, none⟩ = some u ∧ w.frozen? ⟨g, j, none⟩ = false ∧ g < w.heap.size := by
  obtain ⟨h1, ⟨h2, h3⟩ | ⟨g', cap', cur, h2, h3, h4, h5, h6, h7, h8⟩⟩ := h
  · cases h2
  · cases h2
    refine ⟨?_, by simp [World.frozen?, h4], (Array.getElem?_eq_some_iff.1 h4).1⟩
    have hj : j < n * z := by rw [← h1]; exact (List.getElem?_eq_some_iff.1 hu).1
    rw [← h8, List.getElem?_take_of_lt hj] at hu
    simp [World.cell?, h4]
    rw [← Array.getElem?_toList]; exact hu
theorem set_four (l : List Ins) : ∀ (k : Nat) (x : Ins), k < l.length → ((((l.flatMap Ins.cells).set (k * 4) (.int .u16 x.c)).set (k * 4 + 1) (.int .u8 x.t)).set (k * 4 + 2) (.int .u8 x.f)).set (k * 4 + 3) (.int .u32 x.k) = (l.set k x).flatMap Ins.cells := by
  induction l with
  | nil => intro k x h; simp at h
  | cons y t ih =>
    intro k x h
    cases k with
    | zero => rfl
    | succ k =>
      have := ih k x (by simpa using h)
      rw [List.set_cons_succ, List.flatMap_cons, List.flatMap_cons, ← this]
      have e : ∀ j v (xs : List Value), (Ins.cells y ++ xs).set (j + 4) v = Ins.cells y ++ xs.set j v := fun j v xs => by
        rw [List.set_append_right _ _ (by simp [Ins.cells])]; simp [Ins.cells]
      rw [show (k + 1) * 4 = k * 4 + 4 from by omega, e, show k * 4 + 4 + 1 = k * 4 + 1 + 4 from by omega, e, show k * 4 + 4 + 2 = k * 4 + 2 + 4 from by omega, e, show k * 4 + 4 + 3 = k * 4 + 3 + 4 from by omega, e]
/-- So far turned round from both ends. -/
def Half (l cur : List Ins) (i : Nat) : Prop := cur.length = l.length ∧ ∀ k, k < l.length → cur[k]? = if k < i ∨ l.length ≤ k + i then l[l.length - 1 - k]? else l[k]?
theorem half_0 (l : List Ins) : Half l l 0 := ⟨rfl, fun k hk => by rw [if_neg (by omega)]⟩
theorem half_step {l cur : List Ins} {i j : Nat} {x y : Ins} (h : Half l cur i) (hij : i < j) (hj : j + i + 1 = l.length) (hx : cur[i]? = some x) (hy : cur[j]? = some y) : Half l ((cur.set i y).set j x) (i + 1) := by
  refine ⟨by simp [h.1], fun k hk => ?_⟩
  have hxl : l[i]? = some x := by rw [← hx, h.2 i (by omega), if_neg (by omega)]
  have hyl : l[j]? = some y := by rw [← hy, h.2 j (by omega), if_neg (by omega)]
  by_cases h1 : k = j
  · subst h1
    rw [List.getElem?_set_self (by simp [h.1]; omega), if_pos (by omega), show l.length - 1 - k = i from by omega, hxl]
  · rw [List.getElem?_set_ne (fun e => h1 e.symm)]
    by_cases h2 : k = i
    · subst h2
      rw [List.getElem?_set_self (by rw [h.1]; omega), if_pos (by omega), show l.length - 1 - k = j from by omega, hyl]
    · rw [List.getElem?_set_ne (fun e => h2 e.symm), h.2 k hk]
      by_cases h3 : k < i ∨ l.length ≤ k + i
      · rw [if_pos h3, if_pos (by omega)]
      · rw [if_neg h3, if_neg (by omega)]
theorem half_end {l cur : List Ins} {i : Nat} (h : Half l cur i) (hi : l.length ≤ 2 * i + 1) : cur = l.reverse := by
  apply List.ext_getElem?
  intro k
  by_cases hk : k < l.length
  · rw [h.2 k hk, List.getElem?_reverse hk]
    by_cases h3 : k < i ∨ l.length ≤ k + i
    · rw [if_pos h3]
    · rw [if_neg h3]
      congr 1; omega
  · rw [List.getElem?_eq_none (by rw [h.1]; omega), List.getElem?_eq_none (by simp; omega)]
/-- Four cells of a row. -/
def W4 (w : World) (g k : Nat) (x : Ins) : World := (((w.setCell ⟨g, k * 4, none⟩ (.int .u16 x.c)).setCell ⟨g, k * 4 + 1, none⟩ (.int .u8 x.t)).setCell ⟨g, k * 4 + 2, none⟩ (.int .u8 x.f)).setCell ⟨g, k * 4 + 3, none⟩ (.int .u32 x.k)
theorem put_four {w : World} {B g n cap k : Nat} {e : TypeId} {cur : List Ins} (x : Ins) (h : w.ownsRow B e 4 (.slice (some ⟨g, 0, none⟩) n cap) n (cur.flatMap Ins.cells)) (hk : k < cur.length) :
    (W4 w g k x).ownsRow B e 4 (.slice (some ⟨g, 0, none⟩) n cap) n ((cur.set k x).flatMap Ins.cells) ∧ w.grownBy (W4 w g k x) (some g) := by
  constructor
  · rw [← set_four cur k x hk]
    exact or_set (or_set (or_set (or_set h _) _) _) _
  · exact only_trans (only_set w g _ _) (only_trans (only_set _ g _ _) (only_trans (only_set _ g _ _) (only_set _ g _ _)))
theorem drew_two {w W : World} {B z n : Nat} {e : TypeId} {v : Value} {xs : List Value} {r : Option Nat} (h : W.ownsRow B e z v n xs) (s : w.grownBy W r) : W.drew.ownsRow B e z v n xs ∧ w.grownBy W.drew r :=
  ⟨own_keepN h (Below.refl _ _).drew, s.os, s.tape, s.output, s.size, s.block⟩
theorem swap_row {w : World} {B g n cap i j : Nat} {e : TypeId} {cur : List Ins} {x y : Ins} (h : w.ownsRow B e 4 (.slice (some ⟨g, 0, none⟩) n cap) n (cur.flatMap Ins.cells)) (hi : i < cur.length) (hj : j < cur.length) :
    (W4 (W4 w g i y) g j x).drew.ownsRow B e 4 (.slice (some ⟨g, 0, none⟩) n cap) n (((cur.set i y).set j x).flatMap Ins.cells) ∧ w.grownBy (W4 (W4 w g i y) g j x).drew (some g) := by
  obtain ⟨h1, g1⟩ := put_four y h hi
  obtain ⟨h2, g2⟩ := put_four (k := j) x h1 (by simpa using hj)
  exact drew_two h2 (only_trans g1 g2)
set_option maxHeartbeats 8000000 in
set_option maxRecDepth 100000 in
theorem reverse_any (l : List Ins) (n B : Nat) (A : Option Addr) (cap : Nat) (w : World) (hl : l.length = n) (hn : n ≤ 5000) (hr : w.ownsRow B 122 4 (.slice A n cap) n (l.flatMap Ins.cells)) :
    Calls Try.prog 50 #[.slice A n cap] w fun e w' => e = .returned (.tuple #[]) ∧ w'.ownsRow B 122 4 (.slice A n cap) n (l.reverse.flatMap Ins.cells) ∧ w.grownBy w' (Value.slice A n cap).ownBlock := by
  have HR := Lib.hid hr
  have HL := Lib.hid hl
  clear hr hl
  go_enter Try.func50, Try.ntmps50
  have e0 : IntKind.i64.wrap ((n : Int) - 1) = (n : Int) - 1 := by rw [IntKind.wrap_i64]; omega
  go_wp2_with fail
  clear e0
  go_loopw [2, 3] (fun iv jv wr => ∃ (i : Nat) (z : Int) (cur : List Ins), iv = .int .i64 i ∧ jv = .int .i64 z ∧ z + i + 1 = n ∧ 2 * i ≤ n ∧ Hid (Half l cur i) ∧ Hid (wr.ownsRow B 122 4 (.slice A n cap) n (cur.flatMap Ins.cells)) ∧ Hid (w.grownBy wr (Value.slice A n cap).ownBlock)) (fun iv _ _ => n - (intOf iv).toNat)
  case atStart => exact ⟨0, _, l, rfl, rfl, by omega, by omega, Lib.hid (half_0 l), HR, Lib.hid (World.grownBy.refl _ _)⟩
  case round =>
    obtain ⟨i, z, cur, rfl, rfl, hz, hi, HH, HO, HG⟩ := hrel
    by_cases hlt : (i : Int) < z
    · obtain ⟨j, rfl⟩ : ∃ j : Nat, z = (j : Int) := ⟨z.toNat, by omega⟩
      have hij : i < j := by omega
      have hj : j + i + 1 = n := by omega
      obtain ⟨x, hx⟩ : ∃ x, cur[i]? = some x := ⟨_, List.getElem?_eq_getElem (by have := HH.out.1; have := HL.out; omega)⟩
      obtain ⟨y, hy⟩ : ∃ y, cur[j]? = some y := ⟨_, List.getElem?_eq_getElem (by have := HH.out.1; have := HL.out; omega)⟩
      obtain ⟨g, rfl⟩ : ∃ g, A = some ⟨g, 0, none⟩ := by
        obtain ⟨_, ⟨h2, h3⟩ | ⟨g', cap', cur', h2, _⟩⟩ := HO.out
        · omega
        · injection h2 with h2; exact ⟨g', h2⟩
      have HX := Lib.hid (And.intro hx hy)
      have ci : ∀ t u, t < 4 → x.cells[t]? = some u → wr.cell? ⟨g, i * 4 + t, none⟩ = some u ∧ wr.frozen? ⟨g, i * 4 + t, none⟩ = false ∧ g < wr.heap.size := fun t u ht hu => or_cell HO.out (by rw [cells_at _ _ _ ht, HX.out.1]; exact hu)
      have cj : ∀ t u, t < 4 → y.cells[t]? = some u → wr.cell? ⟨g, j * 4 + t, none⟩ = some u ∧ wr.frozen? ⟨g, j * 4 + t, none⟩ = false ∧ g < wr.heap.size := fun t u ht hu => or_cell HO.out (by rw [cells_at _ _ _ ht, HX.out.2]; exact hu)
      obtain ⟨a0, b0, gl⟩ := ci 0 _ (by omega) rfl
      obtain ⟨a1, b1, _⟩ := ci 1 _ (by omega) rfl
      obtain ⟨a2, b2, _⟩ := ci 2 _ (by omega) rfl
      obtain ⟨a3, b3, _⟩ := ci 3 _ (by omega) rfl
      obtain ⟨c0, d0, _⟩ := cj 0 _ (by omega) rfl
      obtain ⟨c1, d1, _⟩ := cj 1 _ (by omega) rfl
      obtain ⟨c2, d2, _⟩ := cj 2 _ (by omega) rfl
      obtain ⟨c3, d3, _⟩ := cj 3 _ (by omega) rfl
      rw [Nat.add_zero] at a0 b0 c0 d0
      have i0 : (0 : Int) ≤ (i : Int) := by omega
      have i1 : (i : Int) < (n : Int) := by omega
      have j0 : (0 : Int) ≤ (j : Int) := by omega
      have j1 : (j : Int) < (n : Int) := by omega
      have e1 : IntKind.i64.wrap ((i : Int) + 1) = ((i + 1 : Nat) : Int) := by rw [IntKind.wrap_i64]; omega
      have e2 : IntKind.i64.wrap ((j : Int) - 1) = (j : Int) - 1 := by rw [IntKind.wrap_i64]; omega
      have HW := Lib.hid (swap_row (x := x) (y := y) HO.out (List.getElem?_eq_some_iff.1 hx).1 (List.getElem?_eq_some_iff.1 hy).1)
      have HH2 := Lib.hid (half_step HH.out hij (by have := HL.out; omega) hx hy)
      clear ci cj hx hy
      go_upto_region 3 with fail
      refine wp_region_any (by kernel_rfl) ?_
      try (change wpAny _ _ _ _ _ _ _ (World.drew _))
      refine wpAny_take (i := 0) (v := ?_) rfl (by kernel_rfl) (by kernel_rfl) (by kernel_rfl) (fun _ _ _ h => h) (Or.inl ⟨by rfl, ?_⟩) ?_
      rotate_left 1
      · intro w
        (go_simp) <;> (with_reducible rfl)
      refine wpAny_take (i := 1) (v := ?_) rfl (by kernel_rfl) (by kernel_rfl) (by kernel_rfl) (fun _ _ _ h => h) (Or.inl ⟨by rfl, ?_⟩) ?_
      rotate_left 1
      · intro w
        (go_simp) <;> (with_reducible rfl)
      refine wpAny_take (i := 2) (v := ?_) rfl (by kernel_rfl) (by kernel_rfl) (by kernel_rfl) (fun _ _ _ h => h) (Or.inl ⟨by rfl, ?_⟩) ?_
      rotate_left 1
      · intro w
        (go_simp) <;> (with_reducible rfl)
      refine wpAny_take (i := 3) (v := ?_) rfl (by kernel_rfl) (by kernel_rfl) (by kernel_rfl) (fun _ _ _ h => h) (Or.inl ⟨by rfl, ?_⟩) ?_
      rotate_left 1
      · intro w
        (go_simp) <;> (with_reducible rfl)
      refine wpAny_take (i := 4) (v := ?_) rfl (by kernel_rfl) (by kernel_rfl) (by kernel_rfl) (fun _ _ _ h => h) (Or.inl ⟨by rfl, ?_⟩) ?_
      rotate_left 1
      · intro w
        (go_simp) <;> (with_reducible rfl)
      refine wpAny_take (i := 5) (v := ?_) rfl (by kernel_rfl) (by kernel_rfl) (by kernel_rfl) (fun _ _ _ h => h) (Or.inl ⟨by rfl, ?_⟩) ?_
      rotate_left 1
      · intro w
        (go_simp) <;> (with_reducible rfl)
      refine wpAny_take (i := 6) (v := ?_) rfl (by kernel_rfl) (by kernel_rfl) (by kernel_rfl) (fun _ _ _ h => h) (Or.inl ⟨by rfl, ?_⟩) ?_
      rotate_left 1
      · intro w
        (go_simp) <;> (with_reducible rfl)
      refine wpAny_take (i := 8) (v := ?_) rfl (by kernel_rfl) (by kernel_rfl) (by kernel_rfl) (fun _ _ _ h => h) (Or.inl ⟨by rfl, ?_⟩) ?_
      rotate_left 1
      · intro w
        (go_simp) <;> (with_reducible rfl)
      refine wpAny_take (i := 9) (v := ?_) rfl (by kernel_rfl) (by kernel_rfl) (by kernel_rfl) (fun _ _ _ h => h) (Or.inl ⟨by rfl, ?_⟩) ?_
      rotate_left 1
      · intro w
        (go_simp) <;> (with_reducible rfl)
      refine wpAny_take (i := 10) (v := ?_) rfl (by kernel_rfl) (by kernel_rfl) (by kernel_rfl) (fun _ _ _ h => h) (Or.inl ⟨by rfl, ?_⟩) ?_
      rotate_left 1
      · intro w
        (go_simp) <;> (with_reducible rfl)
      refine wpAny_ready (rs := [7, 11]) (by kernel_rfl) (by simp) ?_
      refine AllReady.cons rfl (fun K hK => ?_) ?_
      · skip
        go_simp
        refine hK _ _ ?_
        clear hK K
        refine wpAny_ready (rs := [11]) (by kernel_rfl) (by simp) ?_
        refine AllReady.cons rfl (fun K hK => ?_) ?_
        · skip
          go_simp
          refine hK _ _ ?_
          clear hK K
          refine wpAny_take (i := 12) (v := ?_) rfl (by kernel_rfl) (by kernel_rfl) (by kernel_rfl) (fun _ _ _ h => h) (Or.inl ⟨by rfl, ?_⟩) ?_
          rotate_left 1
          · intro w
            (go_simp) <;> (with_reducible rfl)
          refine wpAny_ready (rs := [13]) (by kernel_rfl) (by simp) ?_
          refine AllReady.cons rfl (fun K hK => ?_) ?_
          · skip
            go_simp
            refine hK _ _ ?_
            clear hK K
            refine wpAny_take (i := 14) (v := ?_) rfl (by kernel_rfl) (by kernel_rfl) (by kernel_rfl) (fun _ _ _ h => h) (Or.inl ⟨by rfl, ?_⟩) ?_
            rotate_left 1
            · intro w
              (go_simp) <;> (with_reducible rfl)
            refine wpAny_ready (rs := [15]) (by kernel_rfl) (by simp) ?_
            refine AllReady.cons rfl (fun K hK => ?_) ?_
            · skip
              go_simp
              refine hK _ _ ?_
              clear hK K
              refine wpAny_done (by kernel_rfl) ?_ _
              go_wp2_with fail
              go_roundw
              case rel => exact ⟨i + 1, (j : Int) - 1, _, by go_num, rfl, by omega, by omega, HH2, Lib.hid HW.out.1, Lib.hid (only_trans HG.out HW.out.2)⟩
              case measure => simp [intOf]; omega
            exact AllReady.nil
          exact AllReady.nil
        exact AllReady.nil
      refine AllReady.cons rfl (fun K hK => ?_) ?_
      · skip
        go_simp
        refine hK _ _ ?_
        clear hK K
        refine wpAny_ready (rs := [7]) (by kernel_rfl) (by simp) ?_
        refine AllReady.cons rfl (fun K hK => ?_) ?_
        · skip
          go_simp
          refine hK _ _ ?_
          clear hK K
          refine wpAny_take (i := 12) (v := ?_) rfl (by kernel_rfl) (by kernel_rfl) (by kernel_rfl) (fun _ _ _ h => h) (Or.inl ⟨by rfl, ?_⟩) ?_
          rotate_left 1
          · intro w
            (go_simp) <;> (with_reducible rfl)
          refine wpAny_ready (rs := [13]) (by kernel_rfl) (by simp) ?_
          refine AllReady.cons rfl (fun K hK => ?_) ?_
          · skip
            go_simp
            refine hK _ _ ?_
            clear hK K
            refine wpAny_take (i := 14) (v := ?_) rfl (by kernel_rfl) (by kernel_rfl) (by kernel_rfl) (fun _ _ _ h => h) (Or.inl ⟨by rfl, ?_⟩) ?_
            rotate_left 1
            · intro w
              (go_simp) <;> (with_reducible rfl)
            refine wpAny_ready (rs := [15]) (by kernel_rfl) (by simp) ?_
            refine AllReady.cons rfl (fun K hK => ?_) ?_
            · skip
              go_simp
              refine hK _ _ ?_
              clear hK K
              refine wpAny_done (by kernel_rfl) ?_ _
              go_wp2_with fail
              go_roundw
              case rel => exact ⟨i + 1, (j : Int) - 1, _, by go_num, rfl, by omega, by omega, HH2, Lib.hid HW.out.1, Lib.hid (only_trans HG.out HW.out.2)⟩
              case measure => simp [intOf]; omega
            exact AllReady.nil
          exact AllReady.nil
        exact AllReady.nil
      exact AllReady.nil

    · have HE := Lib.hid (half_end HH.out (by have := HL.out; omega))
      go_wp2_with fail
      go_end0
      exact ⟨rfl, by rw [← HE.out]; exact HO.out, HG.out⟩
end Go.Proofs.Ytcageojoafkojaa.Ju

