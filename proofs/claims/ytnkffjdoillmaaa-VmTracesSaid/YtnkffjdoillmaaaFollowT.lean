/- A run of a filter, each step told to one who keeps it: its traces. -/
import Derived.Test.YtnkffjdoillmaaaLoad
import Derived.Deep.Onto
namespace Go.Proofs.Ytnkffjdoillmaaa
open Go.RowKit
theorem infoTr : (Try.prog.info? 75).map (fun i => (i.zero, i.size, i.bytes)) = some (some (.agg #[.int .i64 0, .int .u32 0, .int .u32 0]), 3, 16) := by kernel_rfl
theorem tr_at : ∀ (l : List (Nat × Nat × Nat)) (k j : Nat), j < 3 → (l.flatMap trV)[k * 3 + j]? = (l[k]?).bind (fun x => (trV x)[j]?)
  | [], k, j, _ => by simp
  | x :: l, k, j, hj => by
    rw [List.flatMap_cons]
    cases k with
    | zero => rw [List.getElem?_append_left (by simp [trV]; omega)]; simp
    | succ k =>
      rw [List.getElem?_append_right (by simp [trV]; omega), show (trV x).length = 3 from rfl, show (k + 1) * 3 + j - 3 = k * 3 + j from by omega, tr_at l k j hj]
      simp
/-- A row of another type lies elsewhere. -/
theorem row_ne {w : World} {base e z n g t : Nat} {v : Value} {xs l : List Value} (h : w.ownsRow base e z v n xs) (hb : Bk w g t l) (ht : t ≠ e) : v.ownBlock ≠ some g := by
  intro hg
  rcases h.2 with ⟨rfl, _⟩ | ⟨g', cap, cur, rfl, _, hh, _⟩
  · cases hg
  · simp only [Value.ownBlock, Option.some.injEq] at hg
    subst hg
    rw [show w.heap[g']? = _ from hb] at hh
    cases hh
    exact ht rfl
theorem own_other {w w' : World} {base e z n g : Nat} {v : Value} {xs : List Value} (h : w.ownsRow base e z v n xs) (hg : w.grownBy w' (some g)) (hne : v.ownBlock ≠ some g) : w'.ownsRow base e z v n xs := by
  refine ⟨h.1, h.2.imp id fun ⟨g', cap, cur, e, h1, h2, h3⟩ => ⟨g', cap, cur, e, h1, ?_, h3⟩⟩
  rw [hg.block g' (Array.getElem?_eq_some_iff.1 h2).1 (fun e' => hne (by rw [e]; exact e'))]; exact h2
theorem Bk.off {w w' : World} {g t : Nat} {l : List Value} {r : Option Nat} (h : Bk w g t l) (hg : w.grownBy w' r) (hr : r ≠ some g) : Bk w' g t l := h.grown hg (fun e => hr e.symm)
/-- What has been kept so far. -/
structure Kept (D q : Nat) (wr : World) (ts : List (Nat × Nat × Nat)) (v : Value) : Prop where
  bk : Bk wr q 72 [v]
  own : wr.ownsRow D 75 3 v ts.length (ts.flatMap trV)
  le : D ≤ q
theorem Kept.off {D q g t : Nat} {w w' : World} {ts : List (Nat × Nat × Nat)} {v : Value} {l : List Value} (h : Kept D q w ts v) (hb : Bk w g t l) (ht : t ≠ 75) (hq : q ≠ g) (hg : w.grownBy w' (some g)) : Kept D q w' ts v :=
  ⟨h.bk.off hg (fun e => hq (by cases e; rfl)), own_other h.own hg (row_ne h.own hb ht), h.le⟩
theorem Kept.kept {D q : Nat} {w w' : World} {ts : List (Nat × Nat × Nat)} {v : Value} (h : Kept D q w ts v) (hb : Below w.heap.size w w') : Kept D q w' ts v := ⟨h.bk.kept hb, own_below h.own hb, h.le⟩
set_option maxRecDepth 100000 in
set_option maxHeartbeats 1000000 in
theorem keep_any (D q : Nat) (ts : List (Nat × Nat × Nat)) (t : Nat × Nat × Nat) (v : Value) (w : World) (h : Kept D q w ts v) (hl : ts.length ≤ 5000) :
    Calls Try.prog 53 #[.agg #[.int .i64 t.1, .int .u32 t.2.1, .int .u32 t.2.2], .pointer (some ⟨q, 0, none⟩)] w fun e w' => e = .returned (.tuple #[]) ∧ ∃ v' wm, Kept D q w' (ts ++ [t]) v' ∧ w.grownBy wm v.ownBlock ∧ wm.grownBy w' (some q) := by
  obtain ⟨i0, hi, hz0, hz1, hz2⟩ := info_parts infoTr
  obtain ⟨t1, t2, t3⟩ := t
  dsimp only
  have c0 := h.bk.cell 0 rfl
  have f0 := h.bk.fz 0
  have hgl := h.bk.lt
  have H := Lib.hid h
  have hD : D ≤ w.heap.size := Nat.le_trans h.le (Nat.le_of_lt h.bk.lt)
  have hal := two_below w (.cells #[.int .i64 t1, .int .u32 t2, .int .u32 t3] 75) (.cells #[.int .i64 t1, .int .u32 t2, .int .u32 t3] 75)
  have HO := Lib.hid (own_below h.own hal)
  have es : (w.alloc (.cells #[.int .i64 t1, .int .u32 t2, .int .u32 t3] 75)).heap.size = w.heap.size + 1 := by simp
  have hb1 := Bk.new (l := trV (t1, t2, t3)) (w.alloc (.cells #[.int .i64 t1, .int .u32 t2, .int .u32 t3] 75)) 75 _ rfl
  rw [es] at hb1
  have Hn := Lib.hid (show ∀ j u, (trV (t1, t2, t3))[j]? = some u → ((w.alloc (.cells #[.int .i64 t1, .int .u32 t2, .int .u32 t3] 75)).alloc (.cells #[.int .i64 t1, .int .u32 t2, .int .u32 t3] 75)).cell? ((⟨w.heap.size + 1, 0, none⟩ : Addr).add j) = some u from fun j u hu => by
    rw [show (⟨w.heap.size + 1, 0, none⟩ : Addr).add j = ⟨w.heap.size + 1, j, none⟩ by unfold Addr.add; split <;> simp_all]
    exact hb1.cell j hu)
  have Ho := Lib.hid (show ∀ u ∈ trV (t1, t2, t3), u.oneCell' = true from fun u hu => by simp only [trV, List.mem_cons, List.not_mem_nil, or_false] at hu; rcases hu with rfl | rfl | rfl <;> rfl)
  have Hs := Lib.hid (show D ≤ ((w.alloc (.cells #[.int .i64 t1, .int .u32 t2, .int .u32 t3] 75)).alloc (.cells #[.int .i64 t1, .int .u32 t2, .int .u32 t3] 75)).heap.size by simp; omega)
  have Hq2 := Lib.hid (h.bk.kept hal)
  have Hal := Lib.hid hal
  clear h hb1 es hal
  go_enter Try.func53, Try.ntmps53
  go_wp2_with (at_builtin; refine wpList_append_own _ rfl (.tmp 3) (.tmp 5) 72 rfl D 75 i0 _ 3 16 Try.underlying72 hi hz0 hz1 hz2 rfl (by decide) v ts.length (ts.flatMap trV) rfl HO.out ⟨w.heap.size + 1, 0, none⟩ 1 1 (trV (t1, t2, t3)) rfl rfl Hn.out Ho.out (by unfold maxLen; omega) (by omega) Hs.out ?_; intro v' w4 hown' hgrow _; obtain ⟨A', c', hv', _, _⟩ := own_seg hown'; subst hv'; have hq4 := Hq2.out.off hgrow (row_ne HO.out Hq2.out (by decide)); have c4 := hq4.cell 0 rfl; have f4 := hq4.fz 0; have HK := Lib.hid (show Kept D q (w4.setCell ⟨q, 0, none⟩ (.slice A' (ts.length + 1) c')) (ts ++ [(t1, t2, t3)]) (.slice A' (ts.length + 1) c') from ⟨hq4.set 0 _, own_other (by rw [List.flatMap_append, List.length_append]; simpa using hown') (only_set w4 q 0 _) (row_ne hown' hq4 (by decide)), H.out.le⟩); have HG1 := Lib.hid hgrow; clear hown' hgrow hq4)
  go_end0
  exact ⟨rfl, _, w4, HK.out, (show w.grownBy _ _ from ⟨HG1.out.os.trans Hal.out.os, HG1.out.tape.trans Hal.out.tape, HG1.out.output.trans Hal.out.output, Nat.le_trans Hal.out.size HG1.out.size, fun i hi hn => (HG1.out.block i (Nat.lt_of_lt_of_le hi Hal.out.size) hn).trans (Hal.out.block i hi)⟩), only_set w4 q 0 _⟩
theorem FMem.keep {bs : List Nat} {l : List Ins} {D g q : Nat} {w wr wm w' : World} {ts ts0 : List (Nat × Nat × Nat)} {s : Mc} {e : Bool} {y : Nat} {v : Value} (h : FMem bs l D g w wr ts s e y) (hK : Kept D q wr ts0 v) (g1 : wr.grownBy wm v.ownBlock) (g2 : wm.grownBy w' (some q)) (hqg : q ≠ g) (hDs : D ≤ wr.heap.size) : FMem bs l D g w w' ts s e y :=
  ⟨⟨h.m.r, h.m.m, (h.m.b.off g1 (row_ne hK.own h.m.b (by decide))).off g2 (fun e => hqg (by cases e; rfl))⟩,
   only_below (h.bel.grown g1 hDs (fun k hk => (hK.own.lt k hk).1)) g2 (Nat.le_trans hDs g1.size) hK.le, h.lt, h.go, h.out⟩
/-- What a run leaves whose steps are kept. -/
def KeepTo (bs : List Nat) (l : List Ins) (B p b o c rn st D q : Nat) (w : World) (e : Ending) (w' : World) : Prop :=
  e = .returned (.tuple #[.int .u32 (runN (recW bs) l).2, .int .i64 (runN (recW bs) l).1.length]) ∧ Fil w' B p b o c l (rn + 1) (st + (runN (recW bs) l).1.length) ∧ ∃ v wm, Kept D q w' (runN (recW bs) l).1 v ∧ Below D w wm ∧ wm.grownBy w' (some p)
theorem keep_done {bs : List Nat} {l : List Ins} {B p b o c rn st q y D q1 : Nat} {w wr w3 : World} {ts : List (Nat × Nat × Nat)} {v : Value} {f : List Value} (hd : runN (recW bs) l = (ts, y)) (hF : Fil w B p b o c l rn st) (hb : Below D w wr)
    (h3 : Fil w3 D p b o c l (rn + 1) (st + ts.length)) (hg : (wr.drewN q1).grownBy w3 (some p)) (hK : Kept D q wr ts v) (hDq : D ≤ q) (hf : Bk w p 96 f) (hfb : wr.heap[p]? = w.heap[p]?) : KeepTo bs l B p b o c rn st D q w (.returned (.tuple #[.int .u32 y, .int .i64 (ts.length : Nat)])) w3 := by
  unfold KeepTo
  rw [hd]
  have hlt := h3.lp
  have hbk : Bk (wr.drewN q1) p 96 f := hfb.trans hf
  exact ⟨rfl, h3.less hF.lp hF.lb (Nat.le_trans hF.le (Nat.le_trans hb.size hg.size)), v, wr.drewN q1, (hK.kept (below_drewN (Below.refl _ _) q1)).off hbk (by decide) (by omega) hg, below_drewN hb q1, hg⟩
set_option maxRecDepth 100000 in
set_option maxHeartbeats 4000000 in
theorem follow_keep (bs : List Nat) (l : List Ins) (B p b o c rn st D q : Nat) (w : World) (hDB : B ≤ D) (hDs : D ≤ w.heap.size) (hDq : D ≤ q) (hq : Bk w q 72 [.slice none 0 0]) (hF : Fil w B p b o c l rn st) (g : Good l) (hok : ∀ i ∈ l, i.ok) (hb : Rec.IsRec bs) (h1 : Small40 rn) (h2 : Small40 st) :
    Calls Try.prog 38 #[.pointer (some ⟨p, 0, none⟩), .agg (Rec.recL bs).toArray, .func (.func 53) #[] #[.pointer (some ⟨q, 0, none⟩)]] w (KeepTo bs l B p b o c rn st D q w) := by
  have HF := Lib.hid hF
  have Hg := Lib.hid g
  have Hok := Lib.hid hok
  have Hb := Lib.hid hb
  have Hn := Lib.hid (And.intro h1 h2)
  have hlen := g.many
  have Hq := Lib.hid hq
  have hqs := hq.lt
  clear hF g hok hb h1 h2 hq
  obtain ⟨v0, v1, v2, v3, v4, v5, v6, v7, v8, hR⟩ : ∃ v0 v1 v2 v3 v4 v5 v6 v7 v8 : Int, Rec.recL bs = [.int .u32 v0, .int .u32 v1, .int .u64 v2, .int .u64 v3, .int .u64 v4, .int .u64 v5, .int .u64 v6, .int .u64 v7, .int .u64 v8] := ⟨_, _, _, _, _, _, _, _, _, rfl⟩
  rw [hR]
  have HR := Lib.hid hR
  clear hR
  go_enter Try.func38, Try.ntmps38
  obtain ⟨R, hRd⟩ : ∃ R : List Value, R = [.int .u32 v0, .int .u32 v1, .int .u64 v2, .int .u64 v3, .int .u64 v4, .int .u64 v5, .int .u64 v6, .int .u64 v7, .int .u64 v8] := ⟨_, rfl⟩
  have hz := Bk.new (l := z30) (w.alloc (.cells R.toArray 39)) 131 _ rfl
  have hm0 := hz.row (mac R mc0 false 2147483648)
  have hb0 := only_below (two_below w (.cells R.toArray 39) (.cells z30.toArray 131)) (only_row _ (w.alloc (.cells R.toArray 39)).heap.size (mac R mc0 false 2147483648).toArray) (by simp; omega) (by simp)
  have es : (w.alloc (.cells R.toArray 39)).heap.size = w.heap.size + 1 := by simp
  rw [es] at hz hm0 hb0
  have hKB := only_below (two_below w (.cells R.toArray 39) (.cells z30.toArray 131)) (only_row _ (w.heap.size + 1) (mac R mc0 false 2147483648).toArray) (by simp; omega) (Nat.le_succ _)
  have HK0 := Lib.hid (show Kept D q _ [] (.slice none 0 0) from ⟨Hq.out.kept hKB, World.ownsRow_nil _ _ _ _, hDq⟩)
  have HM0 := Lib.hid (show FMem bs l D (w.heap.size + 1) w (((w.alloc (.cells R.toArray 39)).alloc (.cells z30.toArray 131)).setRow (w.heap.size + 1) (mac R mc0 false 2147483648).toArray) [] mc0 false 2147483648 from
    ⟨⟨rfl, rfl, by rw [HR.out, ← hRd]; exact hm0⟩, hb0.mono hDs, Nat.le_succ_of_le hDs, fun _ => ⟨live_0 _ _, mc0_ok, rfl⟩, fun h => by cases h⟩)
  subst hRd
  have Hz := Lib.hid hz
  clear hm0 hb0 es hz hKB
  go_wp2_with (refine st_row Hz.out rfl _ _ rfl rfl rfl sizeM rfl (l' := mac [.int .u32 v0, .int .u32 v1, .int .u64 v2, .int .u64 v3, .int .u64 v4, .int .u64 v5, .int .u64 v6, .int .u64 v7, .int .u64 v8] mc0 false 2147483648) rfl (by kernel_rfl) ?_)
  go_loopw [9] (fun i wr => ∃ ts s e y v, i = .int .i64 (List.length ts : Nat) ∧ Hid (FMem bs l D (w.heap.size + 1) w wr ts s e y) ∧ Hid (Kept D q wr ts v)) (fun i _ => l.length + 1 - (intOf i).toNat)
  case atStart => exact ⟨[], mc0, false, _, _, rfl, HM0, HK0⟩
  case round =>
    obtain ⟨ts, s, e, y, v, rfl, HM, HK⟩ := hrel
    clear HM0 HK0
    have hDr : D ≤ wr.heap.size := Nat.le_trans hDs HM.out.bel.size
    have hM := HM.out.m
    have hF0 := Lib.hid (HF.out.more hDB hDs)
    have hF := hF0.out.below HM.out.bel
    have ce := hM.ce
    have cn := hM.cn
    have cf := hF.bk.cell 0 rfl
    have hgl := hM.lt
    have GO := Lib.hid (fun (w' : World) (h : Below wr.heap.size wr w') (q1 : Nat) => count_any (w'.drewN q1) D p b o c l rn st ts.length (hF0.out.below (below_drewN (HM.out.bel.trans (h.mono hDr)) q1)) Hn.out.1 Hn.out.2)
    by_cases hgo : e = false ∧ s.nx < l.length
    · obtain ⟨rfl, hlt⟩ := hgo
      obtain ⟨i, hi⟩ : ∃ i, l[s.nx]? = some i := ⟨_, List.getElem?_eq_getElem hlt⟩
      obtain ⟨q0, q1, q2, q3⟩ := four_cells hF.cs hi
      have hok := Hok.out i (List.mem_of_getElem? hi)
      obtain ⟨hk1, _, hk3⟩ := alone_zero.1 (Hg.out.each _ _ hi)
      have hlen := Hg.out.many
      obtain ⟨hgl1, hgl2, _⟩ := HM.out.go rfl
      have hts := live_len hgl1 hi
      have Stp := Lib.hid (fun w' h => step_any bs (w.heap.size + 1) s y i w' h Hb.out hgl2 hok hk1 hk3 (by omega))
      have Nxt := Lib.hid (fun w' hm hg => HM.out.step (w' := w') Hb.out hi hok.2.2.2 hm hg)
      obtain ⟨s', hs'⟩ : ∃ s', s' = (stepN (recW bs) i s).1 := ⟨_, rfl⟩
      obtain ⟨e', he'⟩ : ∃ e', e' = (stepN (recW bs) i s).2.isSome := ⟨_, rfl⟩
      obtain ⟨y', hy'⟩ : ∃ y', y' = (stepN (recW bs) i s).2.getD y := ⟨_, rfl⟩
      rw [← hs', ← he', ← hy'] at Stp Nxt
      obtain ⟨k, hk⟩ : ∃ k, k = s.nx := ⟨_, rfl⟩
      rw [← hk] at cn hlt q0 q1 q2 q3 Nxt
      obtain ⟨n, hn⟩ : ∃ n, n = l.length := ⟨_, rfl⟩
      obtain ⟨t, ht⟩ : ∃ t, t = ts.length := ⟨_, rfl⟩
      have d1 : decide ((k : Int) < (l.length : Int)) = true := by simpa using hlt
      obtain ⟨ic, it, jf, ik⟩ := i
      dsimp only at *
      have Hts := Lib.hid hts
      clear hn hF hM GO hi hok hk1 hk3 hgl1 hgl2 hs' he' hy' hk hts ht
      go_wp2_with fail
      go_quiet (fail)
      go_wp2_with fail
      refine (Stp.out _ (HM.out.m.kept (below_drewN (Below.refl _ _) _))).mono ?_
      rintro e1 w1 ⟨rfl, hm1, hg1⟩
      have HN := Lib.hid (Nxt.out w1 hm1 (only_below (below_drewN HM.out.bel _) hg1 hDr HM.out.lt))
      have HK1 := Lib.hid ((HK.out.kept (below_drewN (Below.refl _ _) _)).off (HM.out.m.kept (below_drewN (Below.refl _ _) _)).b (by decide) (by omega) hg1)
      have hs1 : D ≤ w1.heap.size := Nat.le_trans hDr hg1.size
      have ca := hm1.ca
      have cx := hm1.cx
      obtain ⟨a', ha'⟩ : ∃ a', a' = s'.a := ⟨_, rfl⟩
      obtain ⟨x', hx'⟩ : ∃ x', x' = s'.x := ⟨_, rfl⟩
      rw [← ha'] at ca HN
      rw [← hx'] at cx HN
      have hl1 : ts.length ≤ 5000 := by have := Hts.out; omega
      clear hm1 hg1 ha' hx' HK Stp Nxt HM ce cn cf q0 q1 q2 q3 d1 hlt hgl
      go_wp2_with fail
      refine (keep_any D q ts (k, a', x') v w1 HK1.out hl1).mono ?_
      rintro e2 w2 ⟨rfl, v', wm, hk2, hg1, hg2⟩
      have HK2 := Lib.hid hk2
      have HN2 := Lib.hid (HN.out.keep HK1.out hg1 hg2 (by omega) hs1)
      clear hk2 hg1 hg2 ca cx HK1
      go_wp2_with fail
      go_roundw
      case rel => exact ⟨ts ++ [(k, a', x')], s', e', y', v', by rw [List.length_append]; go_num, HN2, HK2⟩
      case measure => have := Hts.out; simp [intOf]; omega
    · have hdone := HM.out.done (by
        by_cases he : e = true
        · exact .inl he
        · exact .inr (by have : e = false := by simpa using he
                         by_cases h : l.length ≤ s.nx
                         · exact h
                         · exact absurd ⟨this, by omega⟩ hgo))
      have hts : ts.length ≤ l.length := by have := run_len (recW bs) l; rw [hdone] at this; exact this
      have HD := Lib.hid hdone
      have hl1 : ts.length ≤ 5000 := by have := Hg.out.many; omega
      have Cnt := Lib.hid (fun q => GO.out _ (Below.refl _ _) q hl1)
      have cy := hM.cy
      obtain ⟨k, hk⟩ : ∃ k, k = s.nx := ⟨_, rfl⟩
      rw [← hk] at cn hgo
      have Hgo := Lib.hid hgo
      clear GO hts hdone hk hF hM
      go_wp2_with fail
      cases e
      · have hge : ¬ k < l.length := by
          have := Hgo.out
          simp at this ⊢
          omega
        clear hgo
        go_quiet (fail)
        go_wp2_with fail
        refine (Cnt.out _).mono ?_
        rintro e3 w3 ⟨rfl, hf3, hg3⟩
        have HEnd := Lib.hid hf3
        have HG3 := Lib.hid hg3
        have cy3 : w3.cell? ⟨w.heap.size + 1, 29, none⟩ = some (.int .u32 y) := by
          rw [← cy]
          unfold World.cell?
          rw [hg3.block (w.heap.size + 1) hgl (fun e => by have := hF0.out.lp; cases e; omega)]
          rfl
        clear hf3 hg3 cy ce cn cf
        go_wp2_with fail
        go_ret2
        exact keep_done HD.out HF.out HM.out.bel HEnd.out HG3.out HK.out hDq (by have := HF.out.bk; exact this) (HM.out.bel.block p (Nat.lt_of_lt_of_le HF.out.lp hDB))
      · clear hgo
        go_quiet (fail)
        go_wp2_with fail
        refine (Cnt.out _).mono ?_
        rintro e3 w3 ⟨rfl, hf3, hg3⟩
        have HEnd := Lib.hid hf3
        have HG3 := Lib.hid hg3
        have cy3 : w3.cell? ⟨w.heap.size + 1, 29, none⟩ = some (.int .u32 y) := by
          rw [← cy]
          unfold World.cell?
          rw [hg3.block (w.heap.size + 1) hgl (fun e => by have := hF0.out.lp; cases e; omega)]
          rfl
        clear hf3 hg3 cy ce cn cf
        go_wp2_with fail
        go_ret2
        exact keep_done HD.out HF.out HM.out.bel HEnd.out HG3.out HK.out hDq (by have := HF.out.bk; exact this) (HM.out.bel.block p (Nat.lt_of_lt_of_le HF.out.lp hDB))
/-- What Traces answers. -/
def TracesTo (bs : List Nat) (l : List Ins) (B p b o c rn st : Nat) (w : World) (e : Ending) (w' : World) : Prop :=
  ∃ A' c', e = .returned (.slice A' (runN (recW bs) l).1.length c') ∧ Seg w' w.heap.size 3 (runN (recW bs) l).1.length A' ((runN (recW bs) l).1.flatMap trV) ∧ Fil w' B p b o c l (rn + 1) (st + (runN (recW bs) l).1.length) ∧ w.grownBy w' (some p)
set_option maxRecDepth 100000 in
theorem traces_any (bs : List Nat) (l : List Ins) (B p b o c rn st : Nat) (w : World) (hF : Fil w B p b o c l rn st) (g : Good l) (hok : ∀ i ∈ l, i.ok) (hb : Rec.IsRec bs) (h1 : Small40 rn) (h2 : Small40 st) :
    Calls Try.prog 27 #[.pointer (some ⟨p, 0, none⟩), .agg (Rec.recL bs).toArray] w (TracesTo bs l B p b o c rn st w) := by
  have es : (w.alloc (.cells (Rec.recL bs).toArray 39)).heap.size = w.heap.size + 1 := by simp
  have hq := Bk.new (l := [.slice none 0 0]) (w.alloc (.cells (Rec.recL bs).toArray 39)) 72 _ rfl
  rw [es] at hq
  have hal := two_below w (.cells (Rec.recL bs).toArray 39) (.cells #[.slice none 0 0] 72)
  have Fo := Lib.hid (follow_keep bs l B p b o c rn st w.heap.size (w.heap.size + 1) ((w.alloc (.cells (Rec.recL bs).toArray 39)).alloc (.cells #[.slice none 0 0] 72)) hF.le hal.size (Nat.le_succ _) hq (hF.below (hal.mono hF.le)) g hok hb h1 h2)
  have Hal := Lib.hid hal
  have HR := Lib.hid (recL_len bs)
  have Hlt := Lib.hid (show p < w.heap.size from Nat.lt_of_lt_of_le hF.lp hF.le)
  obtain ⟨x, hx⟩ : ∃ x, x = runN (recW bs) l := ⟨_, rfl⟩
  unfold KeepTo at Fo
  unfold TracesTo
  rw [← hx] at Fo ⊢
  obtain ⟨R, hR⟩ : ∃ R, R = Rec.recL bs := ⟨_, rfl⟩
  rw [← hR] at Fo HR Hal ⊢
  have Hbx := Lib.hid ((Bk.new w 39 R.toArray rfl).alloc (.cells #[.slice none 0 0] 72))
  clear hF g hok hb h1 h2 hx hR hq hal es
  go_enter Try.func27, Try.ntmps27
  go_wp2_with (refine Rec.ld_any Hbx.out rfl _ rfl rfl Try.underlying39 Rec.size9 HR.out ?_)
  refine Fo.out.mono ?_
  rintro e1 w1 ⟨rfl, hf, v, wm, hk, hbm, hg⟩
  obtain ⟨A', c', rfl, _, hsg⟩ := own_seg hk.own
  have c0 := hk.bk.cell 0 rfl
  have HF := Lib.hid hf
  have HS := Lib.hid hsg
  have HG := Lib.hid (only_trans (only_of (((one_below w (.cells R.toArray 39)).alloc (by simp) (.cells #[.slice none 0 0] 72)).trans hbm) p) hg)
  clear hf hk hbm hg hsg
  go_wp2_with fail
  go_ret
  exact ⟨A', c', rfl, HS.out, HF.out, HG.out⟩
end Go.Proofs.Ytnkffjdoillmaaa
