/- What a line tells of an instruction; the line that tells one whole. -/
import Derived.Test.YthiohihbcfahhaaDoorNamedL
import Derived.Test.YthiohihbcfahhaaDoorCells
import Derived.Deep.RegionWith
namespace Go.Proofs.YthiohihbcfahhaaDoor
open Go.RowKit
theorem setF_ok {f n : Nat} {i : Ins} (hi : i.ok) (hn : n ≤ most f) : (setF f i n).ok := by
  obtain ⟨c, t, g, k⟩ := i
  obtain ⟨h1, h2, h3, h4⟩ := hi
  simp only at h1 h2 h3 h4
  unfold setF
  by_cases a : f = 0
  · subst a; simp only [if_true]; exact ⟨by have : n ≤ 65535 := hn; show n < _; omega, h2, h3, h4⟩
  by_cases b : f = 1
  · subst b; simp only [if_true]; exact ⟨h1, by have : n ≤ 255 := hn; show n < _; omega, h3, h4⟩
  by_cases d : f = 2
  · subst d; simp only [if_true]; exact ⟨h1, h2, by have : n ≤ 255 := hn; show n < _; omega, h4⟩
  by_cases e : f = 3
  · subst e; simp only [if_true]; exact ⟨h1, h2, h3, by have : n ≤ 4294967295 := hn; show n < _; omega⟩
  · simp only [a, b, d, e, if_false]; exact ⟨h1, h2, h3, h4⟩
theorem only_cells {W : World} {g : Nat} {T : TypeId} {i j : Ins} (h : Bk W g T i.cells) : Bk ((((W.setCell ⟨g, 0, none⟩ (.int .u16 j.c)).setCell ⟨g, 1, none⟩ (.int .u8 j.t)).setCell ⟨g, 2, none⟩ (.int .u8 j.f)).setCell ⟨g, 3, none⟩ (.int .u32 j.k)) g T j.cells :=
  (((h.set 0 (.int .u16 j.c)).set 1 (.int .u8 j.t)).set 2 (.int .u8 j.f)).set 3 (.int .u32 j.k)
theorem tellsGo_drop {l : List Nat} {k f : Nat} {a b : Ins} (hf : l[k]? = some f) : tellsGo (l.drop k) a b = tellsGo (l.drop (k + 1)) (setF f a (getF f b)) b := by
  have hk := (List.getElem?_eq_some_iff.1 hf)
  rw [List.drop_eq_getElem_cons hk.1, hk.2]
  rfl
theorem un_drew {w w' : World} (h : Below w.drew.heap.size w.drew w') : Below w.heap.size w w' := (Below.refl _ _).drew.trans h
def OnlyR (fr : Act) (R : World → Prop) : Exit → Act → World → Prop
  | .normal, a, w => a = fr ∧ R w
  | _, _, _ => False
theorem OnlyR.here {fr : Act} {R : World → Prop} {w : World} (h : R w) : OnlyR fr R .normal fr w := ⟨rfl, h⟩
theorem wp_onceR {P : Program} {c : Code} {Q : Exit → Act → World → Prop} {a : Act} {w : World} (fr : Act) (R : World → Prop) (h : c.wp P (OnlyR fr R) a w) (hK : ∀ w', R w' → Q .normal fr w') : c.wp P Q a w :=
  Code.wp_mono (fun e a w h => by
    cases e with
    | normal =>
      obtain ⟨h1, h2⟩ := h
      subst h1
      exact hK _ h2
    | _ => exact (h : False).elim) h
theorem bk_new_at {l : List Value} {n : Nat} (w : World) (T : TypeId) (a : Array Value) (h : a = l.toArray) (hn : n = w.heap.size) : Bk (w.alloc (.cells a T)) n T l := by subst hn; exact Bk.new w T a h
theorem below_more {w w' : World} (h : Below w.heap.size w w') (o : Obj) : Below w.heap.size w (w'.alloc o) := h.alloc h.size o
structure TellR (w : World) (i left : Ins) (wr : World) : Prop where
  li : Bk wr (w.heap.size + 1) 38 i.cells
  ans : Bk wr (w.heap.size + 2) 38 (⟨0, 0, 0, 0⟩ : Ins).cells
  left : Bk wr (w.heap.size + 3) 38 left.cells
  bel : Below w.heap.size w wr
theorem TellR.kept {w wr w' : World} {i left : Ins} (h : TellR w i left wr) (hb : Below wr.heap.size wr w') : TellR w i left w' :=
  ⟨h.li.kept hb, h.ans.kept hb, h.left.kept hb, h.bel.trans (hb.mono h.bel.size)⟩
theorem put_grown (wr : World) (g : Nat) (j : Ins) : wr.grownBy ((((wr.setCell ⟨g, 0, none⟩ (.int .u16 j.c)).setCell ⟨g, 1, none⟩ (.int .u8 j.t)).setCell ⟨g, 2, none⟩ (.int .u8 j.f)).setCell ⟨g, 3, none⟩ (.int .u32 j.k)) (some g) :=
  only_trans (only_trans (only_trans (only_set _ _ _ _) (only_set _ _ _ _)) (only_set _ _ _ _)) (only_set _ _ _ _)
theorem TellR.put {w wr : World} {i left : Ins} (h : TellR w i left wr) (j : Ins) : TellR w i j ((((wr.setCell ⟨w.heap.size + 3, 0, none⟩ (.int .u16 j.c)).setCell ⟨w.heap.size + 3, 1, none⟩ (.int .u8 j.t)).setCell ⟨w.heap.size + 3, 2, none⟩ (.int .u8 j.f)).setCell ⟨w.heap.size + 3, 3, none⟩ (.int .u32 j.k)) := by
  have hg : wr.grownBy ((((wr.setCell ⟨w.heap.size + 3, 0, none⟩ (.int .u16 j.c)).setCell ⟨w.heap.size + 3, 1, none⟩ (.int .u8 j.t)).setCell ⟨w.heap.size + 3, 2, none⟩ (.int .u8 j.f)).setCell ⟨w.heap.size + 3, 3, none⟩ (.int .u32 j.k)) (some (w.heap.size + 3)) :=
    only_trans (only_trans (only_trans (only_set _ _ _ _) (only_set _ _ _ _)) (only_set _ _ _ _)) (only_set _ _ _ _)
  exact ⟨h.li.grown hg (by simp), h.ans.grown hg (by simp), only_cells h.left, only_below h.bel hg h.bel.size (by omega)⟩
def FldR (w : World) (s : Nat) (A : Option Addr) (wr : World) : Prop := Seg wr (w.heap.size + 4) 1 (flds s).length A (u8s (flds s))
set_option maxHeartbeats 1000000 in
theorem tells_any (l : Ln) (i : Ins) (w : World) (hc : l.c < 65536) (hs : l.s < 5) (hi : i.ok) : Calls Tryd.prog 68 #[.agg #[.string ⟨l.w.toArray⟩, .int .u16 l.c, .int .u8 l.s], .agg #[.int .u16 i.c, .int .u8 i.t, .int .u8 i.f, .int .u32 i.k]] w fun e w' => e = .returned (.agg #[.int .u16 (tells l i).c, .int .u8 (tells l i).t, .int .u8 (tells l i).f, .int .u32 (tells l i).k]) ∧ Below w.heap.size w w' := by
  have hfl := flds_le l.s
  have Hi := Lib.hid hi
  go_enter Tryd.func68, Tryd.ntmps68
  go_wp2_with fail
  refine (fields_any l.s _ hs).mono ?_
  rintro e w1 ⟨A, cp, rfl, hcp, hseg, hb⟩
  have HF := Lib.hid (show FldR w l.s A w1 from by unfold FldR; simpa using hseg)
  have HT := Lib.hid (show TellR w i ⟨l.c, 0, 0, 0⟩ w1 from TellR.kept ⟨
      ((bk_new_at _ _ _ rfl (by simp)).alloc _).alloc _, (bk_new_at _ _ _ rfl (by simp)).alloc _, bk_new_at _ _ _ rfl (by simp),
      below_more (below_more (below_more (below_more (Below.refl _ _) _) _) _) _⟩ hb)
  clear hcp hseg hb
  go_wp2_with fail
  go_loopw [15] (fun c wr => ∃ (k : Nat) (left : Ins), k ≤ (flds l.s).length ∧ c = .int .i64 k ∧ left.ok ∧ Hid (tells l i = tellsGo ((flds l.s).drop k) left i) ∧ Hid (FldR w l.s A wr) ∧ Hid (TellR w i left wr)) (fun c _ => (flds l.s).length - (intOf c).toNat)
  case atStart => exact ⟨0, ⟨l.c, 0, 0, 0⟩, by omega, rfl, ⟨hc, by show 0 < _; omega, by show 0 < _; omega, by show 0 < _; omega⟩, rfl, HF.out, HT.out⟩
  case round =>
    obtain ⟨k, left, hk, rfl, hlo, HD, HF, HT⟩ := hrel
    by_cases hlt : k < (flds l.s).length
    · obtain ⟨f, hf⟩ : ∃ f, (flds l.s)[k]? = some f := ⟨_, List.getElem?_eq_getElem hlt⟩
      obtain ⟨b, o, rfl, _, hbs, hcell⟩ := Seg.pos HF.out (by omega)
      have c0 := hcell k _ (u8s_at hf)
      have hf4 := flds_lt _ _ (List.mem_of_getElem? hf)
      have hN := Lib.hid (HD.out.trans (tellsGo_drop hf))
      have hge := getF_le f i Hi.out hf4
      have Hok := Lib.hid (setF_ok hlo hge)
      clear hcell
      obtain ⟨h1, h2, h3, h4⟩ := hlo
      obtain ⟨i1, i2, i3, i4⟩ := Hi.out
      have d0 := HT.out.li.cell 0 rfl
      have d1 := HT.out.li.cell 1 rfl
      have d2 := HT.out.li.cell 2 rfl
      have d3 := HT.out.li.cell 3 rfl
      have e0 := HT.out.left.cell 0 rfl
      have e1 := HT.out.left.cell 1 rfl
      have e2 := HT.out.left.cell 2 rfl
      have e3 := HT.out.left.cell 3 rfl
      have Hlo := Lib.hid (show left.ok from ⟨h1, h2, h3, h4⟩)
      go_wp2_with fail
      refine wp_onceR ?fr (fun w' => Hid (FldR w l.s (some ⟨b, o, none⟩) w') ∧ Hid (TellR w i (setF f left (getF f i)) w')) ?reg ?imp
      case reg =>
        go_region_with (first
          | (go_at_call 41; (with_reducible refine (of_any f i _ hf4 Hi.out).mono ?_); rintro e wa ⟨rfl, hba0⟩; have hba := un_drew hba0; have HTa := Lib.hid (HT.out.kept hba); have HFa := Lib.hid (Seg.below HF.out hba); have e0 := HTa.out.left.cell 0 rfl; have e1 := HTa.out.left.cell 1 rfl; have e2 := HTa.out.left.cell 2 rfl; have e3 := HTa.out.left.cell 3 rfl; clear hba hba0)
          | (go_at_call 49; (with_reducible refine (set_any f left _ _ hf4 Hlo.out hge).mono ?_); rintro e wb ⟨rfl, hbb⟩; have HTb := Lib.hid (HTa.out.kept hbb); have HFb := Lib.hid (Seg.below HFa.out hbb); have g0 := HTb.out.left.cell 0 rfl; have g1 := HTb.out.left.cell 1 rfl; have g2 := HTb.out.left.cell 2 rfl; have g3 := HTb.out.left.cell 3 rfl; have z0 := HTb.out.left.fz 0; have z1 := HTb.out.left.fz 1; have z2 := HTb.out.left.fz 2; have z3 := HTb.out.left.fz 3; clear hbb))
        all_goals
          refine OnlyR.here ?_
          exact ⟨Lib.hid (Seg.grown HFb.out (put_grown _ _ (setF f left (getF f i))) (by omega)), Lib.hid (HTb.out.put (setF f left (getF f i)))⟩
      case imp =>
        rintro w3 ⟨HF3, HT3⟩
        go_wp2_with fail
        go_roundw
        case rel => exact ⟨k + 1, setF f left (getF f i), by omega, by go_num, Hok.out, hN.out, HF3, HT3⟩
        case measure => simp [intOf]; omega
    · obtain rfl : k = (flds l.s).length := by omega
      have hend : tells l i = left := by rw [HD.out, List.drop_length]; rfl
      have e0 := HT.out.left.cell 0 rfl
      have e1 := HT.out.left.cell 1 rfl
      have e2 := HT.out.left.cell 2 rfl
      have e3 := HT.out.left.cell 3 rfl
      have g0 := HT.out.ans.cell 0 rfl
      have g1 := HT.out.ans.cell 1 rfl
      have g2 := HT.out.ans.cell 2 rfl
      have g3 := HT.out.ans.cell 3 rfl
      have z0 := HT.out.ans.fz 0
      have z1 := HT.out.ans.fz 1
      have z2 := HT.out.ans.fz 2
      have z3 := HT.out.ans.fz 3
      have Hend := Lib.hid hend
      clear hend
      go_wp2_with fail
      have hA := only_cells (j := left) HT.out.ans
      exact bodyPost_ret (v := .agg #[.int .u16 left.c, .int .u8 left.t, .int .u8 left.f, .int .u32 left.k]) (results_cell_row Tryd.results68 _ _ _ _ _ (0, 0) _ rfl hA Tryd.underlying38 rfl sizeIns4) rfl ⟨by rw [Hend.out], ((((HT.out.bel.setCell (p := ⟨w.heap.size + 2, 0, none⟩) (by simp) _).setCell (p := ⟨w.heap.size + 2, 1, none⟩) (by simp) _).setCell (p := ⟨w.heap.size + 2, 2, none⟩) (by simp) _).setCell (p := ⟨w.heap.size + 2, 3, none⟩) (by simp) _)⟩
end Go.Proofs.YthiohihbcfahhaaDoor
