/- Strip: the walk. -/
import Derived.Test.YtnkffjdoillmaaaMoved
import Derived.Test.YtnkffjdoillmaaaCount
namespace Go.Proofs.Ytnkffjdoillmaaa
open Go.RowKit
theorem cnt_cap (l : List Ins) : ∀ j, cnt (rb l) j ≤ l.length
  | 0 => Nat.zero_le _
  | j + 1 => by
    by_cases h : j < l.length
    · have := cnt_le (R := rb l) (j + 1); omega
    · have hf : rb l j = false := by
        unfold rb
        rw [List.getD_eq_getElem?_getD, List.getElem?_eq_none (by rw [rc_len]; omega)]; rfl
      rw [cnt_no hf]; exact cnt_cap l j
/-- The places as far as they are laid. -/
def placesL (R : Nat → Bool) (n k : Nat) : List Nat := (List.range k).map (cnt R) ++ List.replicate (n - k) 0
theorem placesL_zero (R : Nat → Bool) (n : Nat) : placesL R n 0 = List.replicate n 0 := by simp [placesL]
theorem placesL_all (R : Nat → Bool) (n : Nat) : placesL R n n = (List.range n).map (cnt R) := by simp [placesL]
theorem placesL_len (R : Nat → Bool) {n k : Nat} (h : k ≤ n) : (placesL R n k).length = n := by simp [placesL]; omega
theorem placesL_step (R : Nat → Bool) {n k : Nat} (h : k < n) : placesL R n (k + 1) = (placesL R n k).set k (cnt R k) := by
  unfold placesL
  rw [List.range_succ, List.map_append, List.append_assoc]
  apply List.ext_getElem?
  intro i
  rw [List.getElem?_set]
  simp only [List.getElem?_append, List.length_map, List.length_range, List.length_append, List.length_replicate, List.map_cons, List.map_nil, List.length_singleton]
  by_cases h1 : i < k
  · rw [if_pos h1, if_pos h1, if_neg (by omega)]
  · by_cases h2 : k = i
    · subst h2
      rw [if_neg h1, if_pos rfl, if_pos (by omega)]
      simp
      omega
    · rw [if_neg h1, if_neg h2, if_neg h1]
      rw [if_neg (by omega), List.getElem?_replicate, List.getElem?_replicate]
      by_cases h3 : i < n
      · rw [if_pos (by omega), if_pos (by omega)]
      · rw [if_neg (by omega), if_neg (by omega)]
/-- The row of what is left, when k are moved. -/
def leftL (l : List Ins) (k : Nat) : List Ins := pick (rb l) (fun a => mv (cnt (rb l)) (at0 l a) a) k ++ (pick (rb l) (at0 l) l.length).drop (cnt (rb l) k)
theorem leftL_zero (l : List Ins) : leftL l 0 = pick (rb l) (at0 l) l.length := by simp [leftL, pick, cnt]
theorem leftL_all (l : List Ins) : leftL l l.length = stripL l := by
  unfold leftL stripL
  rw [List.drop_of_length_le (by rw [pick_len]; exact Nat.le_refl _), List.append_nil]
theorem leftL_no {l : List Ins} {k : Nat} (h : rb l k = false) : leftL l (k + 1) = leftL l k := by
  unfold leftL; rw [pick_no h, cnt_no h]
theorem leftL_len {l : List Ins} {k : Nat} (h : k ≤ l.length) : (leftL l k).length = cnt (rb l) l.length := by
  unfold leftL
  rw [List.length_append, List.length_drop, pick_len, pick_len]
  have := cnt_mono (R := rb l) h
  omega
theorem leftL_yes {l : List Ins} {k : Nat} (hk : k < l.length) (h : rb l k = true) : leftL l (k + 1) = (leftL l k).set (cnt (rb l) k) (mv (cnt (rb l)) (at0 l k) k) := by
  unfold leftL
  rw [pick_yes h, cnt_yes h, List.set_append_right _ _ (by rw [pick_len]; exact Nat.le_refl _), pick_len, Nat.sub_self, List.append_assoc]
  congr 1
  have hl : cnt (rb l) k < (pick (rb l) (at0 l) l.length).length := by rw [pick_len]; exact cnt_lt h hk
  rw [List.drop_eq_getElem_cons hl]
  rfl
theorem cells_set (l : List Ins) (j : Nat) (x : Ins) (hj : j < l.length) : ((((l.flatMap Ins.cells).set (j * 4) (.int .u16 x.c)).set (j * 4 + 1) (.int .u8 x.t)).set (j * 4 + 2) (.int .u8 x.f)).set (j * 4 + 3) (.int .u32 x.k) = (l.set j x).flatMap Ins.cells := by
  apply List.ext_getElem?
  intro i
  obtain ⟨q, r, hr, rfl⟩ : ∃ q r, r < 4 ∧ i = q * 4 + r := ⟨i / 4, i % 4, by omega, by omega⟩
  have hlen := cells_len l
  rw [cells_at _ _ _ hr, List.getElem?_set]
  simp only [List.getElem?_set, List.length_set, hlen, cells_at _ _ _ hr]
  by_cases hq : j = q
  · subst hq
    rw [if_pos rfl, if_pos hj]
    rcases (by omega : r = 0 ∨ r = 1 ∨ r = 2 ∨ r = 3) with rfl | rfl | rfl | rfl
    · rw [if_neg (by omega), if_neg (by omega), if_neg (by omega), if_pos (by omega), if_pos (by omega)]; rfl
    · rw [if_neg (by omega), if_neg (by omega), if_pos (by omega), if_pos (by omega)]; rfl
    · rw [if_neg (by omega), if_pos (by omega), if_pos (by omega)]; rfl
    · rw [if_pos (by omega), if_pos (by omega)]; rfl
  · rw [if_neg (by omega), if_neg (by omega), if_neg (by omega), if_neg (by omega), if_neg hq]
theorem mv_ok {R : Nat → Bool} {x : Ins} {a : Nat} (hx : x.ok) : (mv (cnt R) x a).ok := by
  obtain ⟨h1, h2, h3, h4⟩ := hx
  have f1 := cnt_far (R := R) a (1 + x.t)
  have f2 := cnt_far (R := R) a (1 + x.f)
  have f3 := cnt_far (R := R) a (1 + x.k)
  rw [← Nat.add_assoc] at f1 f2 f3
  unfold mv Ins.ok
  split
  · exact ⟨h1, h2, h3, h4⟩
  · split
    · refine ⟨h1, h2, h3, ?_⟩
      show cnt R (a + 1 + x.k) - cnt R a - 1 < 4294967296
      omega
    · refine ⟨h1, ?_, ?_, h4⟩
      · show cnt R (a + 1 + x.t) - cnt R a - 1 < 256
        omega
      · show cnt R (a + 1 + x.f) - cnt R a - 1 < 256
        omega
theorem strip_ok {l : List Ins} (g : Good l) (hok : ∀ i ∈ l, i.ok) : ∀ i ∈ stripL l, i.ok := by
  intro y hy
  obtain ⟨m, hm⟩ := List.getElem?_of_mem hy
  obtain ⟨a, i, _, hi, _, rfl⟩ := strip_of g hm
  exact mv_ok (hok i (List.mem_of_getElem? hi))
def StripPost (l : List Ins) (w : World) (e : Ending) (w' : World) : Prop :=
  Below w.heap.size w w' ∧ ∃ (y : List Ins) (A : Option Addr) (cp : Nat), e = .returned (.slice A y.length cp) ∧ Seg w' w.heap.size 4 y.length A (y.flatMap Ins.cells) ∧ (∀ i ∈ y, i.ok) ∧ (Good l → y = stripL l) ∧ (¬ Good l → y = l)
theorem infoInt : (Try.prog.info? 3).map (fun i => (i.zero, i.size, i.bytes)) = some (some (.int .i64 0), 1, 8) := by kernel_rfl
set_option maxRecDepth 100000 in
theorem strip_not (l : List Ins) (n : Nat) (A : Option Addr) (cp : Nat) (w : World) (hl : l.length = n) (hok : ∀ i ∈ l, i.ok) (hr : Rd w 4 n A (l.flatMap Ins.cells)) (hn : n ≤ 65536) (hg : ¬ Good l) :
    Calls Try.prog 26 #[.slice A n cp] w (StripPost l w) := by
  have Re := Lib.hid (reached_any l n A cp w hl hok hr (by unfold maxLen; omega))
  have Cl := Lib.hid (fun w' (hb : Below w.heap.size w w') => clone_any l n A cp w' hl (hr.below hb) hn)
  have Hok := Lib.hid hok
  clear hl hok hr
  go_enter Try.func26, Try.ntmps26
  go_wp2_with fail
  refine Re.out.mono ?_
  rintro e w2 ⟨hb2, hor⟩
  rcases hor with ⟨h, _⟩ | ⟨_, rfl⟩
  · exact absurd h hg
  · have Hb2 := Lib.hid hb2
    clear hb2
    go_wp2_with fail
    refine (Cl.out _ Hb2.out).mono ?_
    rintro e w3 ⟨A3, c3, rfl, hs, hb3⟩
    have Hs := Lib.hid hs
    have Hb3 := Lib.hid (Hb2.out.trans (hb3.mono Hb2.out.size))
    have Hsz := Lib.hid Hb2.out.size
    clear hs hb3
    go_wp2_with fail
    go_ret
    exact ⟨Hb3.out, l, A3, c3, rfl, ⟨Hs.out.len, Hs.out.at_.imp id fun ⟨b, o, e, h0, h1, h2⟩ => ⟨b, o, e, Nat.le_trans Hsz.out h0, h1, h2⟩⟩, Hok.out, fun h => absurd h hg, fun _ => rfl⟩
theorem ints_getD (L : List Nat) (j : Nat) (h : j < L.length) : (ints L)[j]? = some (.int .i64 (L.getD j 0 : Nat)) := by
  rw [List.getD_eq_getElem?_getD, ints_at (List.getElem?_eq_getElem h), List.getElem?_eq_getElem h]; rfl
/-- The memory: what is left, the places, what is reached. -/
structure SMem (l : List Ins) (n : Nat) (w wr : World) (gl gp gr m : Nat) (L : List Ins) (P : List Nat) : Prop where
  own : wr.ownsRow w.heap.size 60 4 (.slice (some ⟨gl, 0, none⟩) m n) m (L.flatMap Ins.cells)
  pl : Bk wr gp 3 (ints P)
  re : Bk wr gr 4 (bools (rc l))
  h1 : gr < gl
  h2 : gl < gp
  h0 : w.heap.size ≤ gr
  bel : Below w.heap.size w wr
section
variable {l : List Ins} {n m gl gp gr : Nat} {w wr w' : World} {L : List Ins} {P : List Nat}
theorem SMem.alloc (h : SMem l n w wr gl gp gr m L P) (o : Obj) : SMem l n w (wr.alloc o) gl gp gr m L P := ⟨h.own.alloc _, h.pl.alloc _, h.re.alloc _, h.h1, h.h2, h.h0, h.bel.alloc h.bel.size _⟩
theorem SMem.kept (h : SMem l n w wr gl gp gr m L P) (hb : Below wr.heap.size wr w') : SMem l n w w' gl gp gr m L P := ⟨own_below h.own hb, h.pl.kept hb, h.re.kept hb, h.h1, h.h2, h.h0, h.bel.trans (hb.mono h.bel.size)⟩
theorem SMem.place (h : SMem l n w wr gl gp gr m L P) (j v : Nat) : SMem l n w (wr.setCell ⟨gp, j, none⟩ (.int .i64 v)) gl gp gr m L (P.set j v) := by
  have hg := only_set wr gp j (.int .i64 v)
  have h1 := h.h1
  have h2 := h.h2
  have h0 := h.h0
  refine ⟨h.own.kept hg (.inr ?_), ?_, h.re.grown hg (by simp; omega), h1, h2, h0, only_below h.bel hg h.bel.size (by omega)⟩
  · show some gl ≠ some gp
    simp; omega
  · rw [← ints_set]; exact h.pl.set j _
theorem SMem.appended {m' : Nat} {L' : List Ins} (h : SMem l n w wr gl gp gr m L P) (ho : w'.ownsRow w.heap.size 60 4 (.slice (some ⟨gl, 0, none⟩) m' n) m' (L'.flatMap Ins.cells)) (hg : wr.grownBy w' (some gl)) : SMem l n w w' gl gp gr m' L' P := by
  have h1 := h.h1
  have h2 := h.h2
  have h0 := h.h0
  exact ⟨ho, h.pl.grown hg (by simp; omega), h.re.grown hg (by simp; omega), h1, h2, h0, only_below h.bel hg h.bel.size (by omega)⟩
theorem SMem.ins (h : SMem l n w wr gl gp gr m L P) (j : Nat) (x : Ins) (hj : j < L.length) : SMem l n w ((((wr.setCell ⟨gl, j * 4, none⟩ (.int .u16 x.c)).setCell ⟨gl, j * 4 + 1, none⟩ (.int .u8 x.t)).setCell ⟨gl, j * 4 + 2, none⟩ (.int .u8 x.f)).setCell ⟨gl, j * 4 + 3, none⟩ (.int .u32 x.k)) gl gp gr m (L.set j x) P := by
  have s1 := h.own.stored (j * 4) (.int .u16 x.c)
  have s2 := s1.1.stored (j * 4 + 1) (.int .u8 x.t)
  have s3 := s2.1.stored (j * 4 + 2) (.int .u8 x.f)
  have s4 := s3.1.stored (j * 4 + 3) (.int .u32 x.k)
  refine h.appended ?_ (only_trans (only_trans (only_trans s1.2 s2.2) s3.2) s4.2)
  rw [← cells_set L j x hj]; exact s4.1
theorem SMem.same (h : SMem l n w wr gl gp gr m L P) (hs : Same wr w') : SMem l n w w' gl gp gr m L P :=
  h.kept ⟨hs.os, hs.tape, hs.output, by rw [hs.heap]; exact Nat.le_refl _, fun k _ => by rw [hs.heap]⟩
theorem SMem.four (h : SMem l n w wr gl gp gr m L P) (j : Nat) (hj : j < L.length) : ∃ v0 v1 v2 v3, wr.cell? ⟨gl, j * 4, none⟩ = some v0 ∧ wr.cell? ⟨gl, j * 4 + 1, none⟩ = some v1 ∧ wr.cell? ⟨gl, j * 4 + 2, none⟩ = some v2 ∧ wr.cell? ⟨gl, j * 4 + 3, none⟩ = some v3 := by
  have hlen := h.own.1
  have hc := cells_len L
  have hx : ∀ q, q < 4 → ∃ v, wr.cell? ⟨gl, j * 4 + q, none⟩ = some v := fun q hq => by
    have hlt : j * 4 + q < (L.flatMap Ins.cells).length := by omega
    exact ⟨_, (h.own.cellAt (j * 4 + q) (by omega)).trans (List.getElem?_eq_getElem hlt)⟩
  obtain ⟨v0, h0⟩ := hx 0 (by omega)
  obtain ⟨v1, h1⟩ := hx 1 (by omega)
  obtain ⟨v2, h2⟩ := hx 2 (by omega)
  obtain ⟨v3, h3⟩ := hx 3 (by omega)
  exact ⟨v0, v1, v2, v3, h0, h1, h2, h3⟩
theorem SMem.reached (h : SMem l n w wr gl gp gr m L P) (j : Nat) (hj : j < l.length) : wr.cell? ⟨gr, j, none⟩ = some (.bool (rb l j)) :=
  h.re.cell j (by simp [bools, rb, List.getD_eq_getElem?_getD, List.getElem?_eq_getElem (show j < (rc l).length by rw [rc_len]; exact hj)])
end
theorem strip_start {l : List Ins} {n : Nat} {w w2 w3 w4 : World} {gr : Nat} (hb2 : Below w.heap.size w w2) (hr0 : w.heap.size ≤ gr) (hre : Bk w2 gr 4 (bools (rc l)))
    (hown3 : w3.ownsRow w.heap.size 60 4 (.slice (some ⟨w2.heap.size, 0, none⟩) 0 n) 0 []) (hg3 : w2.grownBy w3 none)
    (hown4 : w4.ownsRow w.heap.size 3 1 (.slice (some ⟨w3.heap.size, 0, none⟩) n n) n (madeCells (Value.int .i64 0).cells (n * 1)).toList) (hg4 : w3.grownBy w4 none) :
    Hid (SMem l n w w4 w2.heap.size w3.heap.size gr 0 [] (List.replicate n 0)) := by
  have hlt : gr < w2.heap.size := hre.lt
  have hl2 : w2.heap.size < w3.heap.size := (hown3.lt w2.heap.size rfl).2
  rw [show (Value.int .i64 0).cells = #[Value.int .i64 0] from rfl, toList_madeCells_one, Nat.mul_one] at hown4
  have hb := bk_full hown4
  rw [show List.replicate n (Value.int .i64 0) = ints (List.replicate n 0) by simp [ints]] at hb
  have b3 := hb2.grown hg3 hb2.size (fun k hk => by cases hk)
  exact ⟨hown3.kept hg4 (.inr (by intro h; cases h)), hb, (hre.grown hg3 (by intro h; cases h)).grown hg4 (by intro h; cases h), hlt, hl2, hr0, b3.grown hg4 b3.size (fun k hk => by cases hk)⟩
theorem region_facts {l : List Ins} {k m gl gp gr q j : Nat} {w wm : World} {L : List Ins} (h : SMem l k w wm gl gp gr m L ((List.range k).map (cnt (rb l)))) (hL : L.length = m) (hq : q < k) (hj : j < m) (hjd : j = cnt (rb l) q) :
    ∃ v0 v1 v2 v3, wm.cell? ⟨gp, q, none⟩ = some (.int .i64 j) ∧ wm.cell? ⟨gl, j * 4, none⟩ = some v0 ∧ wm.cell? ⟨gl, j * 4 + 1, none⟩ = some v1 ∧ wm.cell? ⟨gl, j * 4 + 2, none⟩ = some v2 ∧ wm.cell? ⟨gl, j * 4 + 3, none⟩ = some v3 ∧
    wm.frozen? ⟨gl, j * 4, none⟩ = false ∧ wm.frozen? ⟨gl, j * 4 + 1, none⟩ = false ∧ wm.frozen? ⟨gl, j * 4 + 2, none⟩ = false ∧ wm.frozen? ⟨gl, j * 4 + 3, none⟩ = false := by
  obtain ⟨v0, v1, v2, v3, h0, h1, h2, h3⟩ := h.four j (by omega)
  exact ⟨v0, v1, v2, v3, by rw [hjd]; exact h.pl.cell q (by simp [ints, hq]), h0, h1, h2, h3, h.own.frozenAt _, h.own.frozenAt _, h.own.frozenAt _, h.own.frozenAt _⟩
set_option maxRecDepth 100000 in
set_option maxHeartbeats 4000000 in
theorem strip_yes (l : List Ins) (n : Nat) (A : Option Addr) (cp : Nat) (w : World) (hl : l.length = n) (hok : ∀ i ∈ l, i.ok) (hr : Rd w 4 n A (l.flatMap Ins.cells)) (hg : Good l) :
    Calls Try.prog 26 #[.slice A n cp] w (StripPost l w) := by
  obtain ⟨i0, hi, hz0, hz1, hz2⟩ := info_parts infoIns
  obtain ⟨i1, hj, hy0, hy1, hy2⟩ := info_parts infoInt
  have hn : n ≤ 4096 := hl ▸ hg.many
  have hn0 : 0 < n := hl ▸ hg.pos
  have Re := Lib.hid (reached_any l n A cp w hl hok hr (by unfold maxLen; omega))
  have Hl := Lib.hid hl
  have Hok := Lib.hid hok
  have Hr := Lib.hid hr
  have Hg := Lib.hid hg
  have hne : ((n : Int) == 0) = false := by simp; omega
  clear hl hok hr hg
  go_enter Try.func26, Try.ntmps26
  go_wp2_with fail
  refine Re.out.mono ?_
  rintro e w2 ⟨hb2, hor⟩
  rcases hor with ⟨_, gr, rfl, hgr, hre⟩ | ⟨h, _⟩
  case inr => exact absurd Hg.out h
  rw [Hl.out]
  have Hb2 := Lib.hid hb2
  have Hgr := Lib.hid hgr
  have Hre := Lib.hid hre
  have hs2 := hb2.size
  clear hb2 hgr hre
  go_wp2_with (first | (at_make; refine wpList_make_own _ rfl (.const (.int .i64 0)) (.tmp 18) 22 rfl w.heap.size 60 i0 _ 4 Try.underlying22 hi hz0 hz1 .i64 .i64 _ n rfl rfl (by omega) (by rw [hz2]; omega) (by unfold maxLen; omega) hs2 ?_; intro w3 hown3 hg3; have hs3 := Nat.le_trans hs2 hg3.size; have Hown3 := Lib.hid (And.intro hown3 hg3); clear hown3 hg3) | (at_make; refine wpList_make_full _ rfl (.tmp 21) (.tmp 21) 76 rfl w.heap.size 3 i1 (.int .i64 0) 1 Try.underlying76 hj hy0 hy1 .i64 .i64 _ _ n rfl rfl (by omega) (by omega) (by rw [hy2]; omega) (by unfold maxLen; omega) hs3 ?_; intro w4 hown4 hg4; have HM := strip_start Hb2.out Hgr.out Hre.out Hown3.out.1 Hown3.out.2 hown4 hg4; clear hown4 hg4))
  clear Hown3 hs3 Re Hb2 Hgr Hre hs2
  revert HM
  generalize w2.heap.size = gl
  generalize w3.heap.size = gp
  intro HM
  have HM0 := Lib.hid (show SMem l n w w4 gl gp gr (cnt (rb l) 0) (pick (rb l) (at0 l) 0) (placesL (rb l) n 0) from by rw [placesL_zero]; exact HM.out)
  clear HM
  clear w2 w3
  go_loopw [4, 25] (fun v i wr => ∃ k m : Nat, k ≤ n ∧ m ≤ k ∧ i = .int .i64 k ∧ v = .slice (some ⟨gl, 0, none⟩) m n ∧ Hid (m = cnt (rb l) k) ∧ Hid (SMem l n w wr gl gp gr m (pick (rb l) (at0 l) k) (placesL (rb l) n k))) (fun _ i _ => n - (intOf i).toNat)
  case atStart => exact ⟨0, 0, by omega, by omega, rfl, rfl, rfl, HM0⟩
  case round =>
    obtain ⟨k, m, hk, hmk, rfl, rfl, Hm, HM⟩ := hrel
    clear HM0
    by_cases hlt : k < n
    · obtain ⟨x, hx⟩ : ∃ x, l[k]? = some x := ⟨_, List.getElem?_eq_getElem (by have := Hl.out; omega)⟩
      obtain ⟨b, o, hA, hbl, hcells⟩ := Hr.out.pos (by omega)
      obtain ⟨q0, q1, q2, q3⟩ := four_cells hcells hx
      have hkeep : ∀ j, wr.cell? ⟨b, j, none⟩ = w.cell? ⟨b, j, none⟩ := fun j => HM.out.bel.cell (p := ⟨b, j, none⟩) hbl
      rw [← hkeep] at q0 q1 q2 q3
      have Hat := Lib.hid (at0_of hx)
      obtain ⟨bb, hbb⟩ : ∃ bb, bb = rb l k := ⟨_, rfl⟩
      have Hbb := Lib.hid hbb
      have hu := HM.out.pl.cell k (ints_getD _ k (show k < (placesL (rb l) n k).length by rw [placesL_len (rb l) hk]; exact hlt))
      obtain ⟨uu, huu⟩ : ∃ u, u = (placesL (rb l) n k).getD k 0 := ⟨_, rfl⟩
      rw [← huu] at hu
      have hfz := HM.out.pl.fz k
      obtain ⟨c, t, f, y⟩ := x
      dsimp only at *
      subst hA
      have hal := (Below.refl wr.heap.size wr).alloc (Nat.le_refl _) (.cells #[.int .u16 c, .int .u8 t, .int .u8 f, .int .u32 y] 60)
      have hu' := (hal.cell (p := ⟨gp, k, none⟩) HM.out.pl.lt).trans hu
      have hfz' := (HM.out.pl.alloc (.cells #[.int .u16 c, .int .u8 t, .int .u8 f, .int .u32 y] 60)).fz k
      have HMs := Lib.hid (show SMem l n w ((wr.alloc (.cells #[.int .u16 c, .int .u8 t, .int .u8 f, .int .u32 y] 60)).setCell ⟨gp, k, none⟩ (.int .i64 m)) gl gp gr m (pick (rb l) (at0 l) k) (placesL (rb l) n (k + 1)) from by
        rw [placesL_step _ hlt, ← Hm.out]; exact (HM.out.alloc _).place k m)
      have hre := HMs.out.reached k (by rw [Hl.out]; exact hlt)
      have hre0 := HM.out.reached k (by rw [Hl.out]; exact hlt)
      have hre1 := (HM.out.place k m).reached k (by rw [Hl.out]; exact hlt)
      rw [← hbb] at hre hre0 hre1
      have Hgp := Lib.hid (show gp < wr.heap.size from HM.out.pl.lt)
      clear hkeep hcells hx hbb HM hal huu
      cases bb with
      | false =>
        have HE := Lib.hid (show SMem l n w ((wr.alloc (.cells #[.int .u16 c, .int .u8 t, .int .u8 f, .int .u32 y] 60)).setCell ⟨gp, k, none⟩ (.int .i64 m)) gl gp gr m (pick (rb l) (at0 l) (k + 1)) (placesL (rb l) n (k + 1)) from by rw [pick_no Hbb.out.symm]; exact HMs.out)
        have Hm1 := Lib.hid (show m = cnt (rb l) (k + 1) from by rw [cnt_no Hbb.out.symm]; exact Hm.out)
        clear HMs
        go_wp2_with fail
        go_roundw
        case rel => exact ⟨k + 1, m, by omega, by omega, by go_num, rfl, Hm1, HE⟩
        case measure => simp [intOf]; omega
      | true =>
        have hbx := ((Bk.new wr 60 #[.int .u16 c, .int .u8 t, .int .u8 f, .int .u32 y] rfl).grown (only_set _ gp k (.int .i64 m)) (by have := Hgp.out; simp; omega))
        have b0 := hbx.cell 0 rfl
        have b1 := hbx.cell 1 rfl
        have b2 := hbx.cell 2 rfl
        have b3 := hbx.cell 3 rfl
        have hws : ((wr.alloc (.cells #[.int .u16 c, .int .u8 t, .int .u8 f, .int .u32 y] 60)).setCell ⟨gp, k, none⟩ (.int .i64 m)).heap.size = wr.heap.size + 1 := by simp
        have hnews := four_new ((wr.alloc (.cells #[.int .u16 c, .int .u8 t, .int .u8 f, .int .u32 y] 60)).setCell ⟨gp, k, none⟩ (.int .i64 m)) 60 c t f y
        rw [hws] at hnews
        have Hnews := Lib.hid hnews
        have HMt := Lib.hid (HMs.out.alloc (.cells #[.int .u16 c, .int .u8 t, .int .u8 f, .int .u32 y] 60))
        have Hpick := Lib.hid (show (pick (rb l) (at0 l) (k + 1)).flatMap Ins.cells = (pick (rb l) (at0 l) k).flatMap Ins.cells ++ Ins.cells ⟨c, t, f, y⟩ from by rw [pick_yes Hbb.out.symm, List.flatMap_append, Hat.out]; simp)
        have Hm1 := Lib.hid (show m + 1 = cnt (rb l) (k + 1) from by rw [cnt_yes Hbb.out.symm, ← Hm.out])
        clear hbx hws hnews HMs
        go_wp2_with (at_builtin; refine wpList_append_fits _ rfl (.tmp 39) (.tmp 41) 22 rfl w.heap.size 60 i0 4 Try.underlying22 hi hz1 gl m n _ rfl HMt.out.own ⟨wr.heap.size + 1, 0, none⟩ 1 1 (Ins.cells ⟨c, t, f, y⟩) rfl rfl Hnews.out (cells_one _) (by omega) ?_; intro w5 hown5 hg5; rw [← Hpick.out] at hown5; have HE := Lib.hid (HMt.out.appended hown5 hg5); clear hown5 hg5)
        go_roundw
        case rel => exact ⟨k + 1, m + 1, by omega, by omega, by go_num, rfl, Hm1, HE⟩
        case measure => simp [intOf]; omega
    · obtain rfl : k = n := by omega
      have HM1 := Lib.hid (show SMem l k w wr gl gp gr m (leftL l 0) ((List.range k).map (cnt (rb l))) from by rw [leftL_zero, Hl.out, ← placesL_all]; exact HM.out)
      clear HM
      go_wp2_with fail
      rename World => wk
      go_loopw [46] (fun i wr => ∃ q : Nat, q ≤ k ∧ i = .int .i64 q ∧ Hid (SMem l k w wr gl gp gr m (leftL l q) ((List.range k).map (cnt (rb l))))) (fun i _ => k - (intOf i).toNat)
      case atStart => exact ⟨0, by omega, rfl, HM1⟩
      case round =>
        obtain ⟨q, hq, rfl, HM⟩ := hrel
        clear HM1
        by_cases hlt : q < k
        · obtain ⟨x, hx⟩ : ∃ x, l[q]? = some x := ⟨_, List.getElem?_eq_getElem (by have := Hl.out; omega)⟩
          obtain ⟨b, o, hA, hbl, hcells⟩ := Hr.out.pos (by omega)
          obtain ⟨q0, q1, q2, q3⟩ := four_cells hcells hx
          have hkeep : ∀ j, wr.cell? ⟨b, j, none⟩ = w.cell? ⟨b, j, none⟩ := fun j => HM.out.bel.cell (p := ⟨b, j, none⟩) hbl
          rw [← hkeep] at q0 q1 q2 q3
          have Hat := Lib.hid (at0_of hx)
          have Hx := Lib.hid hx
          have Hxok := Lib.hid (Hok.out x (List.mem_of_getElem? hx))
          obtain ⟨bb, hbb⟩ : ∃ bb, bb = rb l q := ⟨_, rfl⟩
          have Hbb := Lib.hid hbb
          obtain ⟨X, hX⟩ : ∃ X, X = x := ⟨_, rfl⟩
          obtain ⟨c, t, f, y⟩ := x
          dsimp only at q0 q1 q2 q3
          subst hA
          have HMs := Lib.hid (HM.out.alloc (.cells #[.int .u16 c, .int .u8 t, .int .u8 f, .int .u32 y] 60))
          have Hbx := Lib.hid (Bk.new wr 60 #[.int .u16 c, .int .u8 t, .int .u8 f, .int .u32 y] rfl)
          have hre := HMs.out.reached q (by rw [Hl.out]; exact hlt)
          rw [← hbb] at hre
          clear hkeep hcells hx hbb HM
          cases bb with
          | false =>
            have HE := Lib.hid (show SMem l k w (wr.alloc (.cells #[.int .u16 c, .int .u8 t, .int .u8 f, .int .u32 y] 60)) gl gp gr m (leftL l (q + 1)) ((List.range k).map (cnt (rb l))) from by rw [leftL_no Hbb.out.symm]; exact HMs.out)
            clear HMs Hbx hX
            go_wp2_with fail
            go_roundw
            case rel => exact ⟨q + 1, by omega, by go_num, HE⟩
            case measure => simp [intOf]; omega
          | true =>
            go_wp2_with fail
            clear q0 q1 q2 q3
            revert HMs Hbx hre
            generalize (wr.alloc (.cells #[.int .u16 c, .int .u8 t, .int .u8 f, .int .u32 y] 60)) = wa
            generalize wr.heap.size = gi
            intro HMs Hbx hre
            clear wr
            have q0 := Hbx.out.cell 0 rfl
            have q1 := Hbx.out.cell 1 rfl
            have q2 := Hbx.out.cell 2 rfl
            have q3 := Hbx.out.cell 3 rfl
            obtain ⟨j, hjd⟩ : ∃ j, j = cnt (rb l) q := ⟨_, rfl⟩
            have hjm : j < m := by rw [hjd, Hm.out]; exact cnt_lt Hbb.out.symm hlt
            have Hlen := Lib.hid (show (leftL l q).length = m from by rw [leftL_len (by have := Hl.out; omega), Hl.out]; exact Hm.out.symm)
            have c1 : wa.cell? ⟨gp, q, none⟩ = some (.int .i64 j) := by rw [hjd]; exact HMs.out.pl.cell q (by simp [ints, hlt])
            obtain ⟨z0, z1, z2, z3, hz⟩ := HMs.out.four j (by rw [Hlen.out]; exact hjm)
            have d0 := hz.1
            have d1 := hz.2.1
            have d2 := hz.2.2.1
            have d3 := hz.2.2.2
            have Mv := Lib.hid (fun wx (h : SMem l k w wx gl gp gr m (leftL l q) ((List.range k).map (cnt (rb l)))) => moved_any ⟨c, t, f, y⟩ q gp k (cnt (rb l)) wx Hxok.out ⟨h.pl, fun j => Nat.le_trans (cnt_cap l j) (by have := Hl.out; omega)⟩ hlt (by omega) (fun h5 d hd => by
              have hin := Hg.out.inr q _ Hx.out (q + 1 + d) (List.mem_map.2 ⟨d, hd, rfl⟩)
              have e1 := cnt_yes (R := rb l) Hbb.out.symm
              have e2 := cnt_mono (R := rb l) (show q + 1 ≤ q + 1 + d by omega)
              have e3 := cnt_far (R := rb l) (q + 1) d
              rw [Hl.out] at hin
              exact ⟨hin, by omega, by omega⟩))
            have MV := Lib.hid (strip_at Hg.out Hbb.out.symm Hx.out)
            obtain ⟨Y, hY⟩ : ∃ Y, Y = mv (cnt (rb l)) ⟨c, t, f, y⟩ q := ⟨_, rfl⟩
            rw [← hY] at Mv
            have HYd := Lib.hid hY
            have hjk : j < k := by have := cnt_le (R := rb l) k; have := Hm.out; omega
            have g0 := HMs.out.own.frozenAt (j * 4)
            have g1 := HMs.out.own.frozenAt (j * 4 + 1)
            have g2 := HMs.out.own.frozenAt (j * 4 + 2)
            have g3 := HMs.out.own.frozenAt (j * 4 + 3)
            obtain ⟨Yc, Yt, Yf, Yk⟩ := Y
            dsimp only at Mv
            have Hjd := Lib.hid hjd
            clear hz hre hX hjd hY MV
            refine wp_onceR ?fr (fun w' => ∃ wm, Below wa.heap.size wa wm ∧ Same ((((wm.setCell ⟨gl, j * 4, none⟩ (.int .u16 Yc)).setCell ⟨gl, j * 4 + 1, none⟩ (.int .u8 Yt)).setCell ⟨gl, j * 4 + 2, none⟩ (.int .u8 Yf)).setCell ⟨gl, j * 4 + 3, none⟩ (.int .u32 Yk)) w') ?reg ?imp
            case reg =>
              go_region_with (go_at_call 52; refine (Mv.out _ (HMs.out.kept (Below.refl _ _).drew)).mono ?_; rintro e wm ⟨rfl, hbm⟩; have hbm2 := Lib.hid ((Below.refl wa.heap.size wa).drew.trans hbm); have HMm := Lib.hid (HMs.out.kept hbm2.out); obtain ⟨v0', v1', v2', v3', c1', e0, e1, e2, e3, f0, f1, f2, f3⟩ := region_facts HMm.out Hlen.out hlt hjm Hjd.out; clear hbm)
              all_goals
                refine OnlyR.here ?_
                exact ⟨_, hbm2.out, rfl, rfl, rfl, rfl⟩
            case imp =>
              rintro w' ⟨wm, hbm, hs⟩
              have HE := Lib.hid (show SMem l k w w' gl gp gr m (leftL l (q + 1)) ((List.range k).map (cnt (rb l))) from by
                have h1 := ((HMs.out.kept hbm).ins j ⟨Yc, Yt, Yf, Yk⟩ (by rw [Hlen.out]; exact hjm)).same hs
                rw [leftL_yes (by have := Hl.out; omega) Hbb.out.symm, ← Hjd.out, Hat.out, ← HYd.out]
                exact h1)
              clear q0 q1 q2 q3 c1 d0 d1 d2 d3 g0 g1 g2 g3 HMs Hbx Mv hbm hs
              go_wp2_with fail
              go_roundw
              case rel => exact ⟨q + 1, by omega, by go_num, HE⟩
              case measure => simp [intOf]; omega
        · obtain rfl : q = k := by omega
          have HF := Lib.hid (show SMem l q w wr gl gp gr m (stripL l) ((List.range q).map (cnt (rb l))) from by rw [← leftL_all, Hl.out]; exact HM.out)
          have Hlen := Lib.hid (show (stripL l).length = m from by rw [← leftL_all, leftL_len (Nat.le_refl _), Hl.out]; exact Hm.out.symm)
          clear HM
          go_wp2_with fail
          go_ret
          refine ⟨HF.out.bel, stripL l, some ⟨gl, 0, none⟩, q, (by rw [Hlen.out]; rfl), ?_, strip_ok Hg.out Hok.out, fun _ => rfl, fun h => absurd Hg.out h⟩
          rw [Hlen.out]
          obtain ⟨A', c', he, _, hs⟩ := own_seg HF.out.own
          simp only [Value.slice.injEq, true_and] at he
          rw [he.1]; exact hs
theorem strip_any (l : List Ins) (n : Nat) (A : Option Addr) (cp : Nat) (w : World) (hl : l.length = n) (hok : ∀ i ∈ l, i.ok) (hr : Rd w 4 n A (l.flatMap Ins.cells)) (hn : n ≤ 65536) :
    Calls Try.prog 26 #[.slice A n cp] w (StripPost l w) := by
  by_cases hg : Good l
  · exact strip_yes l n A cp w hl hok hr hg
  · exact strip_not l n A cp w hl hok hr hn hg
end Go.Proofs.Ytnkffjdoillmaaa

