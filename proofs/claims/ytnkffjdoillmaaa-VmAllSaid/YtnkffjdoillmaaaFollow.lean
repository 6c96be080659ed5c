/- A run of a filter, each step told to one who forgets it. -/
import Derived.Test.YtnkffjdoillmaaaFil
import Derived.OwnWalk
namespace Go.Proofs.Ytnkffjdoillmaaa
open Go.RowKit
def trV (t : Nat × Nat × Nat) : List Value := [.int .i64 t.1, .int .u32 t.2.1, .int .u32 t.2.2]
set_option maxRecDepth 100000 in
theorem forget_any (n a x : Int) (w : World) : Calls Try.prog 39 #[.agg #[.int .i64 n, .int .u32 a, .int .u32 x]] w fun e w' => e = .returned (.tuple #[]) ∧ Below w.heap.size w w' := by
  go_enter Try.func39, Try.ntmps39
  go_wp2_with fail
  go_end0
  exact ⟨rfl, one_below _ _⟩
def z30 : List Value := [.int .u32 0, .int .u32 0, .int .u64 0, .int .u64 0, .int .u64 0, .int .u64 0, .int .u64 0, .int .u64 0, .int .u64 0, .int .u32 0, .int .u32 0, .int .u32 0, .int .u32 0, .int .u32 0, .int .u32 0, .int .u32 0, .int .u32 0, .int .u32 0, .int .u32 0, .int .u32 0, .int .u32 0, .int .u32 0, .int .u32 0, .int .u32 0, .int .u32 0, .int .u32 0, .int .u32 0, .int .i64 0, .bool false, .int .u32 0]
theorem sizeM : (Try.prog.info? 131).map (·.size) = some 30 := by kernel_rfl
/-- What a run answers. -/
def RunTo (bs : List Nat) (l : List Ins) (B p b o c rn st : Nat) (w : World) (e : Ending) (w' : World) : Prop :=
  e = .returned (.tuple #[.int .u32 (runN (recW bs) l).2, .int .i64 (runN (recW bs) l).1.length]) ∧ Fil w' B p b o c l (rn + 1) (st + (runN (recW bs) l).1.length) ∧ w.grownBy w' (some p)
theorem run_done {bs : List Nat} {l : List Ins} {B p b o c rn st q y : Nat} {w wr w3 : World} {ts : List (Nat × Nat × Nat)} (hd : runN (recW bs) l = (ts, y)) (hF : Fil w B p b o c l rn st) (hb : Below w.heap.size w wr)
    (h3 : Fil w3 w.heap.size p b o c l (rn + 1) (st + ts.length)) (hg : (wr.drewN q).grownBy w3 (some p)) : RunTo bs l B p b o c rn st w (.returned (.tuple #[.int .u32 y, .int .i64 (ts.length : Nat)])) w3 := by
  unfold RunTo
  rw [hd]
  exact ⟨rfl, h3.less hF.lp hF.lb (Nat.le_trans hF.le h3.le), only_trans (only_of (below_drewN hb q) p) hg⟩
/-- How far a run has come. -/
structure FMem (bs : List Nat) (l : List Ins) (B g : Nat) (w wr : World) (ts : List (Nat × Nat × Nat)) (s : Mc) (e : Bool) (y : Nat) : Prop where
  m : Mach wr g (Rec.recL bs) s e y
  bel : Below B w wr
  lt : B ≤ g
  go : e = false → Live (recW bs) l ts s ∧ s.ok ∧ y = 2147483648
  out : e = true → runN (recW bs) l = (ts, y)
theorem live_len {W : Nat → Nat} {l : List Ins} {ts : List (Nat × Nat × Nat)} {s : Mc} {i : Ins} (h : Live W l ts s) (hi : l[s.nx]? = some i) : ts.length < l.length := by
  have h1 := run_len W l
  unfold Live at h
  rw [h] at h1
  have h2 : 0 < (rest W l s).1.length := by
    rcases hs : stepN W i s with ⟨s', _ | r⟩
    · rw [rest_none hi hs]; simp
    · rw [rest_some hi hs]; simp
  simp at h1
  omega
theorem FMem.done {bs : List Nat} {l : List Ins} {B g : Nat} {w wr : World} {ts : List (Nat × Nat × Nat)} {s : Mc} {e : Bool} {y : Nat} (h : FMem bs l B g w wr ts s e y) (hd : e = true ∨ l.length ≤ s.nx) : runN (recW bs) l = (ts, y) := by
  cases he : e with
  | true => exact h.out he
  | false =>
    rcases hd with h1 | h1
    · rw [he] at h1; cases h1
    · obtain ⟨h2, _, h3⟩ := h.go he
      rw [h3]; exact live_out h2 h1
theorem FMem.kept {bs : List Nat} {l : List Ins} {B g : Nat} {w wr w' : World} {ts : List (Nat × Nat × Nat)} {s : Mc} {e : Bool} {y : Nat} (h : FMem bs l B g w wr ts s e y) (hb : Below wr.heap.size wr w') : FMem bs l B g w w' ts s e y :=
  ⟨h.m.kept hb, h.bel.trans (hb.mono (Nat.le_trans h.lt (Nat.le_of_lt h.m.lt))), h.lt, h.go, h.out⟩
theorem FMem.step {bs : List Nat} {l : List Ins} {B g : Nat} {w wr w' : World} {ts : List (Nat × Nat × Nat)} {s : Mc} {y : Nat} {i : Ins} (h : FMem bs l B g w wr ts s false y) (hb : Rec.IsRec bs) (hi : l[s.nx]? = some i) (hk : i.k < 4294967296)
    (hm : Mach w' g (Rec.recL bs) (stepN (recW bs) i s).1 (stepN (recW bs) i s).2.isSome ((stepN (recW bs) i s).2.getD y)) (hg : Below B w w') :
    FMem bs l B g w w' (ts ++ [(s.nx, (stepN (recW bs) i s).1.a, (stepN (recW bs) i s).1.x)]) (stepN (recW bs) i s).1 (stepN (recW bs) i s).2.isSome ((stepN (recW bs) i s).2.getD y) := by
  obtain ⟨h1, h2, h3⟩ := h.go rfl
  refine ⟨hm, hg, h.lt, fun he => ?_, fun he => ?_⟩
  · rcases hs : stepN (recW bs) i s with ⟨s', _ | r⟩
    · have := step_ok (W := recW bs) (i := i) (recW_lt hb) h2 hk
      rw [hs] at this
      exact ⟨live_none h1 hi hs, this, h3⟩
    · rw [hs] at he; cases he
  · rcases hs : stepN (recW bs) i s with ⟨s', _ | r⟩
    · rw [hs] at he; cases he
    · exact live_some h1 hi hs
set_option maxRecDepth 100000 in
set_option maxHeartbeats 4000000 in
theorem follow_run (bs : List Nat) (l : List Ins) (B p b o c rn st : Nat) (w : World) (hF : Fil w B p b o c l rn st) (g : Good l) (hok : ∀ i ∈ l, i.ok) (hb : Rec.IsRec bs) (h1 : Small40 rn) (h2 : Small40 st) :
    Calls Try.prog 38 #[.pointer (some ⟨p, 0, none⟩), .agg (Rec.recL bs).toArray, .func (.func 39) #[] #[]] w (RunTo bs l B p b o c rn st w) := by
  have HF := Lib.hid hF
  have Hg := Lib.hid g
  have Hok := Lib.hid hok
  have Hb := Lib.hid hb
  have Hn := Lib.hid (And.intro h1 h2)
  have hlen := g.many
  clear hF g hok hb h1 h2
  obtain ⟨v0, v1, v2, v3, v4, v5, v6, v7, v8, hR⟩ : ∃ v0 v1 v2 v3 v4 v5 v6 v7 v8 : Int, Rec.recL bs = [.int .u32 v0, .int .u32 v1, .int .u64 v2, .int .u64 v3, .int .u64 v4, .int .u64 v5, .int .u64 v6, .int .u64 v7, .int .u64 v8] := ⟨_, _, _, _, _, _, _, _, _, rfl⟩
  rw [hR]
  have HR := Lib.hid hR
  clear hR
  go_enter Try.func38, Try.ntmps38
  obtain ⟨R, hRd⟩ : ∃ R : List Value, R = [.int .u32 v0, .int .u32 v1, .int .u64 v2, .int .u64 v3, .int .u64 v4, .int .u64 v5, .int .u64 v6, .int .u64 v7, .int .u64 v8] := ⟨_, rfl⟩
  have hz := Bk.new (l := z30) (w.alloc (.cells R.toArray 39)) 131 _ rfl
  have hm0 := hz.row (mac R mc0 false 2147483648)
  have hb0 := only_below (two_below w (.cells R.toArray 39) (.cells z30.toArray 131)) (only_row _ (w.alloc (.cells R.toArray 39)).heap.size (mac R mc0 false 2147483648).toArray) (by simp; omega) (by simp)
  have es : (w.alloc (.cells R.toArray 39)).heap.size = w.heap.size + 1 := by simp
  rw [es] at hz hm0 hb0
  have HM0 := Lib.hid (show FMem bs l w.heap.size (w.heap.size + 1) w (((w.alloc (.cells R.toArray 39)).alloc (.cells z30.toArray 131)).setRow (w.heap.size + 1) (mac R mc0 false 2147483648).toArray) [] mc0 false 2147483648 from
    ⟨⟨rfl, rfl, by rw [HR.out, ← hRd]; exact hm0⟩, hb0, Nat.le_succ _, fun _ => ⟨live_0 _ _, mc0_ok, rfl⟩, fun h => by cases h⟩)
  subst hRd
  have Hz := Lib.hid hz
  clear hm0 hb0 es hz
  go_wp2_with (refine st_row Hz.out rfl _ _ rfl rfl rfl sizeM rfl (l' := mac [.int .u32 v0, .int .u32 v1, .int .u64 v2, .int .u64 v3, .int .u64 v4, .int .u64 v5, .int .u64 v6, .int .u64 v7, .int .u64 v8] mc0 false 2147483648) rfl (by kernel_rfl) ?_)
  go_loopw [9] (fun i wr => ∃ ts s e y, i = .int .i64 (ts.length : Nat) ∧ Hid (FMem bs l w.heap.size (w.heap.size + 1) w wr ts s e y)) (fun i _ => l.length + 1 - (intOf i).toNat)
  case atStart => exact ⟨[], mc0, false, _, rfl, HM0⟩
  case round =>
    obtain ⟨ts, s, e, y, rfl, HM⟩ := hrel
    clear HM0
    have hM := HM.out.m
    have hF0 := Lib.hid (HF.out.more HF.out.le (Nat.le_refl _))
    have hF := hF0.out.below HM.out.bel
    have ce := hM.ce
    have cn := hM.cn
    have cf := hF.bk.cell 0 rfl
    have hgl := hM.lt
    have GO := Lib.hid (fun (w' : World) (h : Below wr.heap.size wr w') (q : Nat) => count_any (w'.drewN q) w.heap.size p b o c l rn st ts.length (hF0.out.below (below_drewN (HM.out.bel.trans (h.mono HM.out.bel.size)) q)) Hn.out.1 Hn.out.2)
    by_cases hgo : e = false ∧ s.nx < l.length
    · obtain ⟨rfl, hlt⟩ := hgo
      obtain ⟨i, hi⟩ : ∃ i, l[s.nx]? = some i := ⟨_, List.getElem?_eq_getElem hlt⟩
      obtain ⟨q0, q1, q2, q3⟩ := four_cells hF.cs hi
      have hok := Hok.out i (List.mem_of_getElem? hi)
      obtain ⟨hk1, _, hk3⟩ := alone_zero.1 (Hg.out.each _ _ hi)
      have hlen := Hg.out.many
      obtain ⟨hgl1, hgl2, _⟩ := HM.out.go rfl
      have hts := live_len hgl1 hi
      have Stp := Lib.hid (fun w' h => step_any bs (w.heap.size + 1) s y i w' h Hb.out hgl2 hok hk1 hk3 (by omega))
      have Nxt := Lib.hid (fun w' hm hg => HM.out.step (w' := w') Hb.out hi hok.2.2.2 hm hg)
      obtain ⟨s', hs'⟩ : ∃ s', s' = (stepN (recW bs) i s).1 := ⟨_, rfl⟩
      obtain ⟨e', he'⟩ : ∃ e', e' = (stepN (recW bs) i s).2.isSome := ⟨_, rfl⟩
      obtain ⟨y', hy'⟩ : ∃ y', y' = (stepN (recW bs) i s).2.getD y := ⟨_, rfl⟩
      rw [← hs', ← he', ← hy'] at Stp Nxt
      obtain ⟨k, hk⟩ : ∃ k, k = s.nx := ⟨_, rfl⟩
      rw [← hk] at cn hlt q0 q1 q2 q3 Nxt
      obtain ⟨n, hn⟩ : ∃ n, n = l.length := ⟨_, rfl⟩
      obtain ⟨t, ht⟩ : ∃ t, t = ts.length := ⟨_, rfl⟩
      have d1 : decide ((k : Int) < (l.length : Int)) = true := by simpa using hlt
      obtain ⟨ic, it, jf, ik⟩ := i
      dsimp only at *
      have Hts := Lib.hid hts
      clear hn hF hM GO hi hok hk1 hk3 hgl1 hgl2 hs' he' hy' hk hts ht
      go_wp2_with fail
      go_quiet (fail)
      go_wp2_with fail
      refine (Stp.out _ (HM.out.m.kept (below_drewN (Below.refl _ _) _))).mono ?_
      rintro e1 w1 ⟨rfl, hm1, hg1⟩
      have HN := Lib.hid (Nxt.out w1 hm1 (only_below (below_drewN HM.out.bel _) hg1 HM.out.bel.size HM.out.lt))
      have ca := hm1.ca
      have cx := hm1.cx
      obtain ⟨a', ha'⟩ : ∃ a', a' = s'.a := ⟨_, rfl⟩
      obtain ⟨x', hx'⟩ : ∃ x', x' = s'.x := ⟨_, rfl⟩
      rw [← ha'] at ca HN
      rw [← hx'] at cx HN
      have hl1 : ts.length ≤ 5000 := by have := Hts.out; omega
      clear hm1 hg1 ha' hx' Stp Nxt HM ce cn cf q0 q1 q2 q3 d1 hlt hgl
      go_wp2_with fail
      refine (forget_any _ _ _ _).mono ?_
      rintro e2 w2 ⟨rfl, hb2⟩
      have HN2 := Lib.hid (HN.out.kept hb2)
      clear hb2 ca cx
      go_wp2_with fail
      go_roundw
      case rel => exact ⟨ts ++ [(k, a', x')], s', e', y', by rw [List.length_append]; go_num, HN2⟩
      case measure => have := Hts.out; simp [intOf]; omega
    · have hdone := HM.out.done (by
        by_cases he : e = true
        · exact .inl he
        · exact .inr (by have : e = false := by simpa using he
                         by_cases h : l.length ≤ s.nx
                         · exact h
                         · exact absurd ⟨this, by omega⟩ hgo))
      have hts : ts.length ≤ l.length := by have := run_len (recW bs) l; rw [hdone] at this; exact this
      have HD := Lib.hid hdone
      have hl1 : ts.length ≤ 5000 := by have := Hg.out.many; omega
      have Cnt := Lib.hid (fun q => GO.out _ (Below.refl _ _) q hl1)
      have cy := hM.cy
      obtain ⟨k, hk⟩ : ∃ k, k = s.nx := ⟨_, rfl⟩
      rw [← hk] at cn hgo
      have Hgo := Lib.hid hgo
      clear GO hts hdone hk hF hM
      go_wp2_with fail
      cases e
      · have hge : ¬ k < l.length := by
          have := Hgo.out
          simp at this ⊢
          omega
        clear hgo
        go_quiet (fail)
        go_wp2_with fail
        refine (Cnt.out _).mono ?_
        rintro e3 w3 ⟨rfl, hf3, hg3⟩
        have HEnd := Lib.hid hf3
        have HG3 := Lib.hid hg3
        have cy3 : w3.cell? ⟨w.heap.size + 1, 29, none⟩ = some (.int .u32 y) := by
          rw [← cy]
          unfold World.cell?
          rw [hg3.block (w.heap.size + 1) hgl (fun e => by have := hF0.out.lp; cases e; omega)]
          rfl
        clear hf3 hg3 cy ce cn cf
        go_wp2_with fail
        go_ret2
        exact run_done HD.out HF.out HM.out.bel HEnd.out HG3.out
      · clear hgo
        go_quiet (fail)
        go_wp2_with fail
        refine (Cnt.out _).mono ?_
        rintro e3 w3 ⟨rfl, hf3, hg3⟩
        have HEnd := Lib.hid hf3
        have HG3 := Lib.hid hg3
        have cy3 : w3.cell? ⟨w.heap.size + 1, 29, none⟩ = some (.int .u32 y) := by
          rw [← cy]
          unfold World.cell?
          rw [hg3.block (w.heap.size + 1) hgl (fun e => by have := hF0.out.lp; cases e; omega)]
          rfl
        clear hf3 hg3 cy ce cn cf
        go_wp2_with fail
        go_ret2
        exact run_done HD.out HF.out HM.out.bel HEnd.out HG3.out
end Go.Proofs.Ytnkffjdoillmaaa
