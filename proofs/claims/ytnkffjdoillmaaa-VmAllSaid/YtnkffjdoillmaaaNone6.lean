/- VmNone: nil ones; instructions that are changed behind it; runs one behind the other. -/
import Derived.Test.YtnkffjdoillmaaaAwake6
import Derived.Test.YtnkffjdoillmaaaFree
import Derived.OpenShut
namespace Go.Proofs.Ytnkffjdoillmaaa
open Go.RowKit
theorem ret_run (W : Nat → Nat) (k : Nat) : (runN W [ret k]).2 = k ∧ (runN W [ret k]).1.length = 1 := by
  simp [runN, ret, exec, stepN, mc0]
theorem ret_ok {k : Nat} (h : k < 4294967296) : ∀ i ∈ [ret k], i.ok := by
  intro i hi
  simp only [List.mem_cons, List.not_mem_nil, or_false] at hi
  subst hi
  simp [Ins.ok, ret, h]
/-- What stays from round to round: the record, the filter. -/
structure NMem (w wr : World) (R : List Value) (l : List Ins) (B p b o c rn st : Nat) : Prop where
  r : Bk wr w.heap.size 39 R
  f : Fil wr B p b o c l rn st
  bel : Below w.heap.size w wr
  lp : w.heap.size < p
section
variable {w wr w' : World} {R : List Value} {l : List Ins} {B p b o c rn st rn' st' : Nat}
theorem NMem.run (h : NMem w wr R l B p b o c rn st) (hf : Fil w' B p b o c l rn' st') (hg : wr.grownBy w' (some p)) : NMem w w' R l B p b o c rn' st' :=
  ⟨h.r.grown hg (fun e => by have := h.lp; cases e; omega), hf, only_below h.bel hg h.bel.size (Nat.le_of_lt h.lp), h.lp⟩
theorem NMem.kept (h : NMem w wr R l B p b o c rn st) (hb : Below wr.heap.size wr w') : NMem w w' R l B p b o c rn st :=
  ⟨h.r.kept hb, h.f.below (hb.mono h.f.le), h.bel.trans (hb.mono h.bel.size), h.lp⟩
theorem NMem.set (h : NMem w wr R l B p b o c rn st) (q j : Nat) (v : Value) (h1 : w.heap.size < q) (h2 : p ≠ q) (h3 : b ≠ q) : NMem w (wr.setCell ⟨q, j, none⟩ v) R l B p b o c rn st :=
  ⟨h.r.grown (only_set wr q j v) (fun e => by cases e; omega), h.f.other (only_set wr q j v) h2 h3, only_below h.bel (only_set wr q j v) h.bel.size (Nat.le_of_lt h1), h.lp⟩
end
set_option maxRecDepth 100000 in
set_option maxHeartbeats 4000000 in
theorem walk_none (bs : List Nat) (many k : Nat) (w : World) (hbs : Rec.IsRec bs) (hm : many < 256) (hk : k < 4294967296) :
    Calls Try.prog 6 #[.agg (Rec.recL bs).toArray, .int .u8 many, .int .u32 k] w (Yes w) := by
  have RnN := Lib.hid (fun w => run_nil bs w)
  have HX := Lib.hid (ret_run (recW bs) k)
  have Rn := Lib.hid (fun B p b o c rn st w' h h1 h2 => run_any bs [ret k] B p b o c rn st w' h (ret_good k) (ret_ok hk) hbs (sm40 (n := rn) h1) (sm40 (n := st) h2))
  unfold RunTo at Rn
  rw [HX.out.1, HX.out.2] at Rn
  have HR := Lib.hid (recL_len bs)
  obtain ⟨R, hR⟩ : ∃ R, R = Rec.recL bs := ⟨_, rfl⟩
  rw [← hR] at HR Rn RnN ⊢
  have Hbx := Lib.hid (Bk.new w 39 R.toArray rfl)
  obtain ⟨m, hmd, hm5⟩ : ∃ m : Nat, (many : Int) % 5 = m ∧ m ≤ 4 := ⟨many % 5, by omega, by omega⟩
  obtain ⟨k1, hk1⟩ : ∃ k1 : Nat, ((k : Int) + 1) % 4294967296 = k1 := ⟨(k + 1) % 4294967296, by omega⟩
  have Hk := Lib.hid hk
  clear hR hbs hk HX
  go_enter Try.func6, Try.ntmps6
  go_wp2_with fail
  refine (awake6 _).mono ?_
  rintro e w1 ⟨rfl, hb1⟩
  have Hb1 := Lib.hid ((one_below w _).trans (hb1.mono (by simp)))
  have Hbx1 := Lib.hid (Hbx.out.kept hb1)
  clear hb1 Hbx
  go_wp2_with (refine Rec.ld_any Hbx1.out rfl _ rfl rfl Try.underlying39 Rec.size9 HR.out ?_)
  refine (RnN.out _).mono ?_
  rintro e w2 ⟨rfl, hb2⟩
  have Hb2 := Lib.hid (Hb1.out.trans (hb2.mono Hb1.out.size))
  have Hbx2 := Lib.hid (Hbx1.out.kept hb2)
  clear hb2 Hbx1 Hb1
  go_wp2_with (go_at_call 19; refine (counts_nil _).mono ?_; rintro e w' ⟨rfl, rfl⟩)
  refine (return_of _ _).mono ?_
  rintro e w3 ⟨rfl, hb3⟩
  have Hb3 := Lib.hid (Hb2.out.trans (hb3.mono Hb2.out.size))
  have Hbx3 := Lib.hid (Hbx2.out.kept hb3)
  clear hb3 Hbx2 Hb2
  go_wp2_with fail
  refine (load_any [ret k] 1 _ _ _ rfl (ret_ok Hk.out) (lit_rd [ret k] rfl) (by unfold maxLen; omega)).mono ?_
  rintro e w5 ⟨a, er, hc, hb5, ⟨_, rfl, rfl, p, b, o, c, hp, hb, rfl, hF⟩ | ⟨hn, _⟩⟩
  · have hw3 : w.heap.size < w3.heap.size := Hbx3.out.lt
    have hL := (Bk.new (l := (ret k).cells) w3 60 #[.int .u16 6, .int .u8 0, .int .u8 0, .int .u32 k] rfl).kept hb5
    have c3 : w5.cell? ⟨w3.heap.size, 3, none⟩ = some (.int .u32 k) := hL.cell 3 rfl
    have f3 := hL.fz 3
    have hgl := hL.lt
    have HN := Lib.hid (((show NMem w w5 R [ret k] w5.heap.size p b o c 0 0 from ⟨(Hbx3.out.alloc _).kept hb5, hF, (Hb3.out.alloc Hb3.out.size _).trans (hb5.mono (by have := Hb3.out.size; simp; omega)), by simp at hp; omega⟩).set w3.heap.size 3 (.int .u32 k1) hw3 (by simp at hp; omega) (by simp at hb; omega)).kept (one_below _ (.cells #[.int .i64 0, .int .i64 0] 31)))
    clear hc hb5 hp hb hF hL hw3
    go_wp2_with fail
    have Hk1 := Lib.hid hk1
    clear hk1 hmd hm
    go_loopw [55] (fun i wr => ∃ q : Nat, q ≤ m ∧ i = .int .i64 q ∧ Hid (NMem w wr R [ret k] w5.heap.size p b o c q q)) (fun i _ => m - (intOf i).toNat)
    case atStart => exact ⟨0, by omega, rfl, HN⟩
    case round =>
      obtain ⟨q, hq, rfl, HM⟩ := hrel
      clear HN c3 f3 hgl
      by_cases hlt : q < m
      · go_wp2_with (refine Rec.ld_any HM.out.r rfl _ rfl rfl Try.underlying39 Rec.size9 HR.out ?_)
        refine (Rn.out _ _ _ _ _ _ _ _ HM.out.f (by omega) (by omega)).mono ?_
        rintro e w6 ⟨rfl, hF6, hg6⟩
        have HM2 := Lib.hid (HM.out.run hF6 hg6)
        clear hF6 hg6
        go_wp2_with fail
        go_roundw
        case rel => exact ⟨q + 1, by omega, by go_num, HM2⟩
        case measure => simp [intOf]; omega
      · obtain rfl : q = m := by omega
        have hk1 := Hk1.out
        have In := Lib.hid (insns_free wr _ _ _ _ _ _ _ _ HM.out.f (by simp))
        go_wp2_with fail
        refine In.out.mono ?_
        rintro e w7 ⟨A', cp', rfl, hs7, hfr7, hb7⟩
        obtain ⟨b7, o7, rfl, hb7l, hb7u, hcs7⟩ := hs7.pos (by simp)
        have c37 : w7.cell? ⟨b7, o7 + 3, none⟩ = some (.int .u32 k) := hcs7 3 _ rfl
        have HM3 := HM.out.kept hb7
        have HN3 := Lib.hid (HM3.set b7 (o7 + 3) (.int .u32 k1) (by have := HM.out.r.lt; omega) (by have := HM.out.f.lp; have := HM.out.f.le; omega) (by have := HM.out.f.lb; have := HM.out.f.le; omega))
        have f37 : w7.frozen? ⟨b7, o7 + 3, none⟩ = false := hfr7 b7 o7 rfl _
        clear hs7 hb7 hfr7 hb7l hcs7 HM3
        go_wp2_with (refine Rec.ld_any HN3.out.r rfl _ rfl rfl Try.underlying39 Rec.size9 HR.out ?_)
        refine (Rn.out _ _ _ _ _ _ _ _ HN3.out.f (by omega) (by omega)).mono ?_
        rintro e w8 ⟨rfl, hF8, hg8⟩
        have HM8 := Lib.hid (HN3.out.run hF8 hg8)
        clear hF8 hg8 c37 f37 hb7u
        go_wp2_with fail
        refine (counts_any w8 _ _ _ _ _ _ _ _ HM8.out.f).mono ?_
        rintro e w9 ⟨rfl, rfl⟩
        go_wp2_with (first | (go_at_call 20; refine (len_nil _).mono ?_; rintro e w' ⟨rfl, rfl⟩) | (go_at_call 21; refine (insns_nil _).mono ?_; rintro e w' ⟨rfl, rfl⟩))
        go_ret
        exact ⟨rfl, HM8.out.bel⟩
  · exact absurd (ret_good k) hn
theorem walk_vmNone (bs : List Nat) (many k : Int) (w : World) (h0 : Rec.IsRec bs) (h1 : (Lit.int .u8 many).wf = true) (h2 : (Lit.int .u32 k).wf = true) :
    Calls Try.prog 6 #[.agg (Rec.recL bs).toArray, .int .u8 many, .int .u32 k] w (Yes w) := by
  obtain ⟨l1, u1⟩ := bounds_u8 h1
  obtain ⟨l2, u2⟩ := bounds_u32 h2
  obtain ⟨n1, rfl⟩ := Int.eq_ofNat_of_zero_le l1
  obtain ⟨n2, rfl⟩ := Int.eq_ofNat_of_zero_le l2
  exact walk_none bs n1 n2 w h0 (by omega) (by omega)
end Go.Proofs.Ytnkffjdoillmaaa
