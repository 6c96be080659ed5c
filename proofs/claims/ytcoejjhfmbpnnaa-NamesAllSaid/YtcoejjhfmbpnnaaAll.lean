/- All: the calls are gathered out of the map, in whatever order, and sorted. -/
import Derived.Test.YtcoejjhfmbpnnaaCmp
import Derived.Test.YtcoejjhfmbpnnaaNamed
import Derived.Maps.RangeWalk
import Derived.Sort.OwnSorted
namespace Go.Proofs.Ytcoejjhfmbpnnaa
open Go.RowKit Go.Maps Go.WideMaps Go.WideElems Go.ChangeMaps Go.Shelf

theorem grown_sorted {w : World} {g n : Nat} {os : Array Obj} (d : Array Row) : w.grownBy (sortWorldK rowCells 3 w g 0 n d os) (some g) := by
  refine ⟨rfl, rfl, rfl, by simp [sortWorldK, Sort.grow, Sort.putRowK, Sort.putRow, Sort.mapBlock, Sort.ahead], fun k hk hne => ?_⟩
  have hne' : g ≠ k := fun e => hne (by rw [e])
  unfold sortWorldK
  rw [Sort.heap_grow_old _ _ (by simpa [Sort.putRowK, Sort.putRow, Sort.mapBlock, Sort.ahead] using hk)]
  simp [Sort.putRowK, Sort.putRow, Sort.mapBlock, Sort.ahead, Array.getElem?_modify, hne']

theorem holds_of_own {w : World} {g : Nat} {cur : Array Value} {e : TypeId} {l : List Row} (hb : w.heap[g]? = some (.cells cur e (0, 0))) (ht : cur.toList.take (l.length * 3) = l.flatMap rowCells) : Sort.HoldsK rowCells 3 w g 0 l.toArray := by
  intro t ht'
  have ht2 : t < l.length * 3 := by simpa using ht'
  refine ⟨?_, by simp [World.frozen?, hb]⟩
  have hq : t / 3 < l.length := by omega
  have hr : t % 3 < 3 := Nat.mod_lt _ (by omega)
  rw [Sort.get_flatK _ _ _ _ (by simpa using ht2)]
  have h1 : (cur.toList.take (l.length * 3))[t]? = (l.flatMap rowCells)[t]? := by rw [ht]
  rw [List.getElem?_take_of_lt ht2] at h1
  have h2 := flat_at rowCells (fun _ => rfl) l (t / 3) (t % 3) hr
  rw [show t / 3 * 3 + t % 3 = t from by omega] at h2
  rw [h2, List.getElem?_eq_getElem hq] at h1
  have h3 : l.toArray[t / 3]! = l[t / 3] := by rw [getElem!_pos _ _ (by simpa using hq)]; simp
  rw [h3, getElem!_pos _ _ (by simpa [rowCells] using hr)]
  simp only [World.cell?, hb, Nat.zero_add]
  simp only [Option.isSome_none, Bool.false_eq_true, if_false]
  rw [← Array.getElem?_toList, h1]
  simp [rowCells, hr]

/-- The step of the range, at this map. -/
theorem wpList_next_calls {w : World} {ops : Array Oper} {rest : List Oper} {o : Oper} {a : Act} {Q : Exit → Act → World → Prop} (hg : o.guard = none) (it : Operand) (hop : o.op = Op.next it false) (b r : Nat) (left : Lit → Bool) (cnt : Nat)
    (hit : a.eval it = .pointer (some ⟨r, 0, none⟩)) (h : w.ranges Try.prog 22 callR b r 30 (numD 30) left cnt)
    (hDone : (∀ kl, left kl = false) → wpList Try.prog ops Q rest (a.put o.dst (.tuple #[.bool false])) w)
    (hMore : ∀ (x : Row) (w' : World) (cnt' : Nat), x ∈ rows → left (.int .u32 x.1) = true → w'.ranges Try.prog 22 callR b r 30 (numD 30) (fun z => left z && !z.sameKey (.int .u32 x.1)) cnt' → cnt' < cnt →
      w.grownBy w' (some r) → w'.heap.size = w.heap.size →
      (Instr.entry (.pointer (some ⟨r, 0, none⟩))).run Try.prog w' = .ok (.tuple #[.int .u32 x.1, .agg #[.int .u32 x.1, .string ⟨x.2.1.toArray⟩, .int .i64 x.2.2]]) w' →
      wpList Try.prog ops Q rest (a.put o.dst (.tuple #[.bool true, .int .u32 x.1, .agg #[.int .u32 x.1, .string ⟨x.2.1.toArray⟩, .int .i64 x.2.2]])) w') :
    wpList Try.prog ops Q (o :: rest) a w := by
  refine wpList_next_ranges w hg it hop 22 numK callR (Value.int .u32) (fun v : Value => v) (fun key kl hk => by obtain ⟨x, hx, _⟩ := Maps.keyOf_int_inv Try.underlying22 hk; exact ⟨x, hx⟩) (fun v _ _ => ⟨v, rfl⟩) b r 30 (numD 30) left cnt hit h (fun _ => hDone) ?_
  intro x c kl y w' cnt' hkey hlk hv hat hrg hlt hgr hsz hen
  obtain ⟨x', hx', rfl, _⟩ := Maps.keyOf_int_inv Try.underlying22 hkey
  cases hx'
  have hhas := Maps.has_true_of_atKey hat
  rw [(num_at x).2] at hhas
  have hz := hat (rowD zeroRow)
  rw [(num_at x).1] at hz
  obtain ⟨row, hrow⟩ := Option.isSome_iff_exists.1 hhas
  rw [hrow, Option.getD_some] at hz
  have hmem := List.mem_of_find?_eq_some hrow
  have hnum : (row.1 : Int) = x := by simpa using List.find?_some hrow
  subst hnum
  obtain ⟨yd, yp⟩ := y
  simp only at hz
  subst hz
  obtain rfl := callR_inv hv
  exact hMore row w' cnt' hmem hlk hrg hlt hgr hsz hen

theorem size_num : Maps.size (numD 30) = 30 := by kernel_rfl
theorem infoCall : (Try.prog.info? 27).map (fun i => (i.zero, i.size, i.bytes)) = some (some (rowV zeroRow), 3, 32) := by kernel_rfl

structure AllRel (w : World) (b m n r base : Nat) (asked : Int) (v : Value) (wr : World) : Prop where
  grown : w.grownBy wr (some b)
  tab : Tab wr b 1 0 0 asked 1 (.map (some m)) (.map (some n))
  names : wr.ownsMap Try.prog 9 callR m 30 (nameD 30)
  base_le : w.heap.size ≤ base ∧ b < base ∧ m < base ∧ n < base ∧ base ≤ wr.heap.size ∧ base ≤ r
  rest : ∃ left cnt l, wr.ranges Try.prog 22 callR n r 30 (numD 30) left cnt ∧ Got left l ∧ l.length + cnt ≤ 30 ∧ wr.ownsRow base 27 3 v l.length (l.flatMap rowCells) ∧ v ≠ .slice none 0 0

theorem append_src (w4 : World) (x : Row) (o : Obj) : ∀ j u, (rowCells x)[j]? = some u → ((w4.alloc o).alloc (.cells #[.int .u32 x.1, .string ⟨x.2.1.toArray⟩, .int .i64 x.2.2] 27)).cell? ((⟨w4.heap.size + 1, 0, none⟩ : Addr).add j) = some u := by
  intro j u hu
  have hb := (MapKept.heap_alloc (w4.alloc o) (.cells #[.int .u32 x.1, .string ⟨x.2.1.toArray⟩, .int .i64 x.2.2] 27)).1
  rw [show (w4.alloc o).heap.size = w4.heap.size + 1 from by simp] at hb
  rw [Addr.add_lit]
  simp only [World.cell?, hb, Nat.zero_add, Option.isSome_none, Bool.false_eq_true, if_false]
  simpa [rowCells] using hu
theorem row_oneCell (x : Row) : ∀ u ∈ rowCells x, u.oneCell' = true := by
  intro u hu
  simp [rowCells] at hu
  rcases hu with rfl | rfl | rfl <;> rfl

theorem all_step {w : World} {b m n r base : Nat} {asked : Int} {v v5 : Value} {wr w4 w5 : World} {left : Lit → Bool} {cnt cnt4 : Nat} {l : List Row} {x : Row} {o o2 : Obj}
    (hrel : AllRel w b m n r base asked v wr) (hgot : Got left l) (hcnt : l.length + cnt ≤ 30) (hown4 : w4.ownsRow base 27 3 v l.length (l.flatMap rowCells)) (hx : x ∈ rows) (hlk : left (.int .u32 x.1) = true)
    (hrg4 : w4.ranges Try.prog 22 callR n r 30 (numD 30) (fun z => left z && !z.sameKey (.int .u32 x.1)) cnt4) (hlt4 : cnt4 < cnt) (hg4 : wr.grownBy w4 (some r))
    (hown5 : w5.ownsRow base 27 3 v5 (l.length + 1) (l.flatMap rowCells ++ rowCells x)) (hg5 : ((w4.alloc o).alloc o2).grownBy w5 v.ownBlock) (hnn5 : v5 ≠ .slice none 0 0) :
    AllRel w b m n r base asked v5 w5 ∧ w5.rangeLeft n r = cnt4 := by
  obtain ⟨b1, b2, b3, b4, b5, b6⟩ := hrel.base_le
  have hown4' := (hown4.alloc o).alloc o2
  have hrg4' := (hrg4.alloc o).alloc o2
  have g4 : wr.grownBy ((w4.alloc o).alloc o2) (some r) := grown_trans (grown_trans hg4 (World.grownBy_alloc w4 o none) (by simp)) (World.grownBy_alloc _ o2 none) (by simp)
  have hrg5 := hrg4'.kept hg5 (row_ne_low hown4' b4) (row_ne_iter hown4' hrg4')
  refine ⟨⟨?_, ?_, ?_, ⟨b1, b2, b3, b4, Nat.le_trans b5 (Nat.le_trans g4.size hg5.size), b6⟩, ?_⟩, hrg5.left_eq⟩
  · refine grown_trans (grown_trans hrel.grown g4 (fun k hk => ?_)) hg5 (fun k hk => ?_)
    · cases hk; exact .inr (by omega)
    · exact .inr (by have := (hown4'.lt k hk).1; omega)
  · exact (hrel.tab.kept g4 (by simp; omega)).kept hg5 (row_ne_low hown4' b2)
  · exact (hrel.names.kept g4 (by simp; omega)).kept hg5 (row_ne_low hown4' b3)
  · refine ⟨_, cnt4, l ++ [x], hrg5, got_step hgot x hx hlk, by rw [List.length_append, List.length_singleton]; omega, ?_, hnn5⟩
    rw [List.length_append, List.length_singleton, List.flatMap_append]
    simpa using hown5

/-- What All answers: a new list of all rows in their order. -/
def AllPost (w : World) (b : Nat) (asked : Int) (e : Ending) (w' : World) : Prop :=
  ∃ g cap, e = .returned (.slice (some ⟨g, 0, none⟩) 30 cap) ∧ w.heap.size ≤ g ∧ g < w'.heap.size ∧ Sort.HoldsK rowCells 3 w' g 0 rows.toArray ∧ Made w' b (asked + 1) ∧ w.grownBy w' (some b)

set_option maxRecDepth 100000 in
set_option maxHeartbeats 1000000 in
theorem all_any (b : Nat) (asked : Int) (w : World) (h : TState w b asked) (h0 : 0 ≤ asked) (h1 : asked < 4611686018427387904) :
    Calls Try.prog 15 #[.pointer (some ⟨b, 0, none⟩)] w (AllPost w b asked) := by
  obtain ⟨i0, hi, hz0, hz1, hz2⟩ := info_parts infoCall
  have hask := ask_any b asked w h h0 h1
  clear h h0 h1
  go_enter Try.func15, Try.ntmps15
  go_wp2_with fail
  refine hask.mono ?_
  clear hask
  rintro e w1 ⟨rfl, hm, hg⟩
  obtain ⟨m, n, hmb, hnb, hT, ho, ho2⟩ := hm
  have HT := Lib.hid hT
  have Hg := Lib.hid hg
  have c6 := hT.c6
  have hlt : w.heap.size ≤ w1.heap.size := hg.size
  have Hall := Lib.hid (show b < w1.heap.size ∧ m < w1.heap.size ∧ n < w1.heap.size from ⟨hT.lt, ho.lt, ho2.lt⟩)
  clear hT hg
  go_wp2_with (first | (at_len; refine wpList_len_own _ rfl _ _ rfl 22 27 Try.underlying65 callR n 30 (numD 30) rfl ho2 ?_; rw [size_num]) | (at_make; refine wpList_make_own _ rfl _ _ 39 rfl w1.heap.size 27 i0 (rowV zeroRow) 3 Try.underlying39 hi hz0 hz1 .i64 .i64 _ 30 rfl rfl rfl (by rw [hz2]; omega) (by decide) (Nat.le_refl _) ?_; intro w2 hrow2 hg2; have d6 := hg2.cell c6 (by simp); have ho2k := ho2.kept hg2 (by simp)) | (at_range; refine wpList_range_own _ rfl _ _ rfl 22 27 numK Try.underlying65 callR n 30 (numD 30) rfl ho2k ?_; intro w3 hrg3 hg3 hs3))
  go_frame
  have hst : AllRel w b m n w2.heap.size w1.heap.size (asked + 1) (.slice (some ⟨w1.heap.size, 0, none⟩) 0 30) w3 := by
    have g13 := grown_trans hg2 hg3 (by simp)
    refine ⟨grown_trans Hg.out g13 (by simp), HT.out.kept g13 (by simp), ho.kept g13 (by simp), ⟨hlt, Hall.out.1, Hall.out.2.1, Hall.out.2.2, g13.size, hg2.size⟩, ?_⟩
    exact ⟨_, _, [], hrg3, got_start (fun n => (num_at n).2), by rw [size_num]; simp, hrow2.kept hg3 (.inr (by simp [Value.ownBlock])), by simp⟩
  have Hst := Lib.hid hst
  clear hst hrow2 hg2 hrg3 hg3 hs3 d6 c6 ho2k ho ho2 HT Hg Hall
  go_loopw [3] (fun v wr => AllRel w b m n w2.heap.size w1.heap.size (asked + 1) v wr) (fun _ wr => wr.rangeLeft n w2.heap.size)
  case atStart => exact Hst.out
  case round =>
    clear Hst
    obtain ⟨left, cnt, l, hrg, hgot, hcnt, hown, hnn⟩ := hrel.rest
    have Hrel := Lib.hid hrel
    have Hrg := Lib.hid hrg
    have Hgot := Lib.hid hgot
    have Hown := Lib.hid hown
    have Hnn := Lib.hid hnn
    clear hrel hgot hown hnn
    have Hne := Lib.hid (row_ne_iter Hown.out hrg)
    go_wp2_with (first | (at_next; refine wpList_next_calls rfl _ rfl n w2.heap.size left cnt rfl hrg ?_ ?_; rotate_left; (intro x w4 cnt4 hx hlk hrg4 hlt4 hg4 hs4 hen; have Hx := Lib.hid hx; have Hlk := Lib.hid hlk; have Hrg4 := Lib.hid hrg4; have Hlt4 := Lib.hid hlt4; have Hg4 := Lib.hid hg4; have Hown4 := Lib.hid (Hown.out.kept hg4 (.inr (fun e => Hne.out e.symm))); have Hb4 := Lib.hid (show w1.heap.size ≤ w4.heap.size from Nat.le_trans Hrel.out.base_le.2.2.2.2.1 hg4.size); clear hx hlk hrg4 hlt4 hg4 hs4 hrg); rotate_left; (intro hl0; have Hl0 := Lib.hid hl0; clear hl0 hrg)) | (at_builtin; refine wpList_append_own _ rfl _ _ 39 rfl w1.heap.size 27 i0 (rowV zeroRow) 3 32 Try.underlying39 hi hz0 hz1 hz2 rfl (by decide) _ l.length (l.flatMap rowCells) rfl ((Hown4.out.alloc _).alloc _) ⟨w4.heap.size + 1, 0, none⟩ 1 1 (rowCells x) rfl rfl (append_src w4 x _) (row_oneCell x) (by have := Hlt4.out; unfold maxLen; omega) (by have := Hlt4.out; omega) (by have := Hb4.out; simp; omega) ?_; intro v5 w5 hown5 hg5 hnil5))
    · rcases Hown.out.2 with ⟨hnil, _⟩ | ⟨g, cap, cur, hv, hbase, hb, h1, h2, h3, h4⟩
      · exact absurd hnil Hnn.out
      subst hv
      have hH := holds_of_own hb h4
      have hgl : g < wr.heap.size := (Array.getElem?_eq_some_iff.1 hb).1
      have hsort := sort_any g cap l left Hgot.out Hl0.out wr hH hgl (by omega)
      refine hsort.mono ?_
      rintro e w6 ⟨rfl, hl30, nn, os, rfl⟩
      have hend : AllPost w b asked (.returned (.slice (some ⟨g, 0, none⟩) 30 cap)) (sortWorldK rowCells 3 wr g 0 nn rows.toArray os) := by
        obtain ⟨b1, b2, b3, b4, b5, b6⟩ := Hrel.out.base_le
        have gs := grown_sorted (w := wr) (g := g) (n := nn) (os := os) rows.toArray
        refine ⟨g, cap, rfl, by omega, lt_sortWorldK _ _ _ _ _ _ _ _ hgl, holdsK_sortWorldK _ _ _ _ _ _ _ _ _ hgl hH (by simp [hl30, rows_len]), ?_, ?_⟩
        · exact ⟨m, n, hmb, hnb, Hrel.out.tab.kept gs (by simp; omega), Hrel.out.names.kept gs (by simp; omega), Hrg.out.owns.kept gs (by simp; omega)⟩
        · exact grown_trans Hrel.out.grown gs (fun k hk => by cases hk; exact .inr (by omega))
      have Hend := Lib.hid hend
      have Hl := Lib.hid hl30
      clear hend hsort hb h1 h2 h3 h4 hH hgl hl30
      go_wp2
      go_ret
      have := Hend.out
      rw [← Hl.out] at this
      exact this
    · go_roundw
      case rel => exact (all_step Hrel.out Hgot.out hcnt Hown4.out Hx.out Hlk.out Hrg4.out Hlt4.out Hg4.out hown5 hg5 (fun e => by have := (hnil5.1 e).2; omega)).1
      case measure =>
        rw [(all_step Hrel.out Hgot.out hcnt Hown4.out Hx.out Hlk.out Hrg4.out Hlt4.out Hg4.out hown5 hg5 (fun e => by have := (hnil5.1 e).2; omega)).2, Hrg.out.left_eq]
        exact Hlt4.out
end Go.Proofs.Ytcoejjhfmbpnnaa
