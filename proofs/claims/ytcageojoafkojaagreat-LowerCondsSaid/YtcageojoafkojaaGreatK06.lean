/- Make, walked. -/
import Derived.Test.YtcageojoafkojaaGreatK02
import Derived.Test.YtcageojoafkojaaGreatK05
import Derived.Test.YtcageojoafkojaaGreatK03
import Derived.StillTail
import Derived.StillTailTactics
import Derived.RangeFuncNested
import Derived.RangeFuncCalls
import Derived.TacticsIn
import Derived.Test.YtcageojoafkojaaGreatProg
import Derived.Deep.RegionHeld3
import Derived.Lib.Hide
import Derived.Deep.Slices
import Derived.ChangeArms
import Derived.ChangeSlices
import Derived.DataReads
import Derived.ProofKit
import Derived.ChangeOld
import Derived.SliceStrings
import Derived.OpenShut
namespace Go.Proofs.YtcageojoafkojaaGreat.Ju
open Go.RowKit Go.Shelf
attribute [local go_sem] Oper.semAt_some
def foldM (l : List PtM) : Nat × CdM := l.foldl (fun r q => stepF q r) (0, ⟨[], []⟩)
theorem foldM_snoc (l : List PtM) (q : PtM) : foldM (l ++ [q]) = stepF q (foldM l) := by unfold foldM; rw [List.foldl_append]; rfl
theorem foldM_rev (l : List PtM) : foldM l.reverse = makeF l := by unfold foldM makeF; rw [List.foldl_reverse]
theorem foldM_bnd (l : List PtM) : Bnd (foldM l).2 := by have := make_bnd l.reverse; rw [← foldM_rev, List.reverse_reverse] at this; exact this
theorem foldM_len {l : List PtM} (h : (foldM l).1 = 0) : (foldM l).2.ins.length ≤ 4096 := by
  have e : foldM l = makeF l.reverse := by rw [← foldM_rev, List.reverse_reverse]
  rw [e] at h ⊢; exact make_len _ h
theorem keeps_fr {w w' : World} {p m B : Nat} {v v' : Value} {c : CdM} (hC : CR w p m B v c) (hF : Fr p m v v' w w') : KeepsFrom B w w' :=
  ⟨hF.size, fun k o hB hk ho => (hF.block k (Array.getElem?_eq_some_iff.1 hk).1 (by have := hC.pB; omega) (by have := hC.mB; omega) (fun e => by
    obtain ⟨h1, ⟨h2, h3⟩ | ⟨g', cap, cur, h2, h3, h4, h5⟩⟩ := hC.row
    · subst h2; cases e
    · subst h2; injection e with e; subst e; rw [h4] at hk; injection hk with hk; subst hk; cases ho)).trans hk⟩
theorem kb_fr {w w' : World} {p m B N Bs : Nat} {v v' : Value} {c : CdM} (hC : CR w p m B v c) (hF : Fr p m v v' w w') (hp : N ≤ p) (hm : N ≤ m) (hNB : N ≤ B) (h1 : Bs < B) (h2 : Bs ≠ p) (h3 : Bs ≠ m) : KB N Bs w w' :=
  ⟨hF.below (Nat.le_trans hNB hC.le) hp hm (fun g hg => by have := (own_ge hC.row g hg).1; omega), hF.block Bs (Nat.lt_of_lt_of_le h1 hC.le) h2 h3 (fun e => by have := (own_ge hC.row Bs e.symm).1; omega)⟩
/-- What a round of Make holds. -/
structure StM (w : World) (n cap N : Nat) (A : Option Addr) {l : List PtM} (pre : List (Pa l)) (W : World) : Prop where
  ok : (foldM (pre.map Pa.pt)).1 = 0
  rb : Bk W N 43 [.slice none 0 0]
  eb : Bk W (N + 1) 44 [.int .i64 0]
  bx : Bk W (N + 4) 47 [.slice A n cap]
  cr : ∃ v, CR W (N + 3) (N + 2) (N + 5) v (foldM (pre.map Pa.pt)).2
  bel : Below w.heap.size w W
  bl : (foldM (pre.map Pa.pt)).2.bh.length ≤ pre.length
  NN : w.heap.size ≤ N
/-- How Make may be left within a round. -/
def IxM (w : World) (N : Nat) {l : List PtM} (c : Code) (pre : List (Pa l)) (W : World) : Prop :=
  c = .ret ∧ (foldM (pre.map Pa.pt)).1 ≠ 0 ∧ Bk W N 43 [.slice none 0 0] ∧ Bk W (N + 1) 44 [.int .i64 (foldM (pre.map Pa.pt)).1] ∧ Below w.heap.size w W ∧ w.heap.size ≤ N
theorem own_keepC {w w' : World} {base : Nat} {e : TypeId} {z n : Nat} {v : Value} {xs : List Value} {row : Option Nat} (h : w.ownsRow base e z v n xs) (hg : w.grownBy w' row) (hr : ∀ r, row = some r → ∃ o : Obj, w.heap[r]? = some o ∧ o.isCells = false) : w'.ownsRow base e z v n xs := by
  obtain ⟨h1, h2 | ⟨g, cap, cur, e, h3, h4, h5⟩⟩ := h
  · exact ⟨h1, Or.inl h2⟩
  · refine ⟨h1, Or.inr ⟨g, cap, cur, e, h3, (hg.block g (Array.getElem?_eq_some_iff.1 h4).1 (fun e => ?_)).trans h4, h5⟩⟩
    obtain ⟨o, ho, hc⟩ := hr g e.symm
    rw [h4] at ho; cases ho; cases hc
theorem bk_keepC {w w' : World} {g t : Nat} {l : List Value} {row : Option Nat} (h : Bk w g t l) (hg : w.grownBy w' row) (hr : ∀ r, row = some r → ∃ o : Obj, w.heap[r]? = some o ∧ o.isCells = false) : Bk w' g t l :=
  h.grown hg (fun e => by obtain ⟨o, ho, hc⟩ := hr g e.symm; unfold Bk at h; rw [h] at ho; cases ho; cases hc)
theorem CR.keepC {w w' : World} {p m B : Nat} {v : Value} {c : CdM} {row : Option Nat} (h : CR w p m B v c) (hg : w.grownBy w' row) (hr : ∀ r, row = some r → B ≤ r ∧ ∃ o : Obj, w.heap[r]? = some o ∧ o.isCells = false) : CR w' p m B v c :=
  ⟨bk_keepC h.box hg (fun r e => (hr r e).2), own_keepC h.row hg (fun r e => (hr r e).2), h.mp.grown hg (fun e => by have := (hr m e.symm).1; have := h.mB; omega), h.pB, h.mB, h.pm, Nat.le_trans h.le hg.size⟩
theorem StM.keepC {w : World} {n cap N : Nat} {A : Option Addr} {l : List PtM} {pre : List (Pa l)} {W W' : World} {row : Option Nat} (h : StM w n cap N A pre W) (hg : W.grownBy W' row) (hr : ∀ r, row = some r → N + 5 ≤ r ∧ ∃ o : Obj, W.heap[r]? = some o ∧ o.isCells = false) : StM w n cap N A pre W' :=
  ⟨h.ok, bk_keepC h.rb hg (fun r e => (hr r e).2), bk_keepC h.eb hg (fun r e => (hr r e).2), bk_keepC h.bx hg (fun r e => (hr r e).2), by obtain ⟨v, hc⟩ := h.cr; exact ⟨v, hc.keepC hg hr⟩, h.bel.grown hg h.bel.size (fun r e => by have := (hr r e).1; have := h.NN; omega), h.bl, h.NN⟩
theorem IxM.keepC {w : World} {N : Nat} {l : List PtM} {c : Code} {pre : List (Pa l)} {W W' : World} {row : Option Nat} (h : IxM w N c pre W) (hg : W.grownBy W' row) (hr : ∀ r, row = some r → N + 5 ≤ r ∧ ∃ o : Obj, W.heap[r]? = some o ∧ o.isCells = false) : IxM w N c pre W' := by
  obtain ⟨h1, h2, h3, h4, h5, h6⟩ := h
  exact ⟨h1, h2, bk_keepC h3 hg (fun r e => (hr r e).2), bk_keepC h4 hg (fun r e => (hr r e).2), h5.grown hg h5.size (fun r e => by have := (hr r e).1; omega), h6⟩
theorem lay_bl (q : PtM) (c : CdM) : (layF q c).2.bh.length ≤ c.bh.length + 1 := by
  unfold layF
  split
  · split <;> simp
  · split
    · split <;> simp
    · split
      · split
        · simp
        · split <;> simp
      · split
        · split <;> simp
        · simp
theorem own_isCells {w : World} {B : Nat} {e : TypeId} {z n j : Nat} {v : Value} {xs : List Value} {o : Obj} (h : w.ownsRow B e z v n xs) (hv : v.ownBlock = some j) (ho : w.heap[j]? = some o) : o.isCells = true := by
  obtain ⟨h1, ⟨h2, h3⟩ | ⟨g', cap, cur, h2, h3, h4, h5⟩⟩ := h
  · subst h2; cases hv
  · subst h2; injection hv with hv; subst hv; rw [h4] at ho; injection ho with ho; subst ho; rfl
def MakePost (l : List PtM) (w : World) (e : Ending) (w' : World) : Prop :=
  Below w.heap.size w w' ∧ ((makeF l).1 = 0 → ∃ v, w'.ownsRow w.heap.size 110 4 v (makeF l).2.ins.length ((makeF l).2.ins.flatMap Ins.cells) ∧ e = .returned (.tuple #[v, .int .i64 0])) ∧ ((makeF l).1 ≠ 0 → e = .returned (.tuple #[.slice none 0 0, .int .i64 (makeF l).1]))
theorem stm_0 (l : List PtM) (w : World) (n cap : Nat) (A : Option Addr) : StM w n cap w.heap.size A ([] : List (Pa l)) (((((w.alloc (.cells #[.slice none 0 0] 43)).alloc (.cells #[.int .i64 0] 44)).alloc (.map #[] 0)).alloc (.cells #[.slice none 0 0, .map (some (w.heap.size + 2))] 103)).alloc (.cells #[.slice A n cap] 47)) ∧
    (((((w.alloc (.cells #[.slice none 0 0] 43)).alloc (.cells #[.int .i64 0] 44)).alloc (.map #[] 0)).alloc (.cells #[.slice none 0 0, .map (some (w.heap.size + 2))] 103)).alloc (.cells #[.slice A n cap] 47)).heap.size = w.heap.size + 5 := by
  obtain ⟨w1, h1⟩ : ∃ x, x = w.alloc (.cells #[.slice none 0 0] 43) := ⟨_, rfl⟩
  obtain ⟨w2, h2⟩ : ∃ x, x = w1.alloc (.cells #[.int .i64 0] 44) := ⟨_, rfl⟩
  obtain ⟨w3, h3⟩ : ∃ x, x = w2.alloc (.map #[] 0) := ⟨_, rfl⟩
  obtain ⟨w4, h4⟩ : ∃ x, x = w3.alloc (.cells #[.slice none 0 0, .map (some (w.heap.size + 2))] 103) := ⟨_, rfl⟩
  obtain ⟨w5, h5⟩ : ∃ x, x = w4.alloc (.cells #[.slice A n cap] 47) := ⟨_, rfl⟩
  rw [← h1, ← h2, ← h3, ← h4, ← h5]
  have s1 : w1.heap.size = w.heap.size + 1 := by rw [h1]; simp
  have s2 : w2.heap.size = w.heap.size + 2 := by rw [h2]; simp [s1]
  have s3 : w3.heap.size = w.heap.size + 3 := by rw [h3]; simp [s2]
  have s4 : w4.heap.size = w.heap.size + 4 := by rw [h4]; simp [s3]
  have s5 : w5.heap.size = w.heap.size + 5 := by rw [h5]; simp [s4]
  have b1 : Below w.heap.size w w1 := by rw [h1]; exact oneb w _
  have b2 : Below w1.heap.size w1 w2 := by rw [h2]; exact oneb w1 _
  have b3 : Below w2.heap.size w2 w3 := by rw [h3]; exact oneb w2 _
  have b4 : Below w3.heap.size w3 w4 := by rw [h4]; exact oneb w3 _
  have b5 : Below w4.heap.size w4 w5 := by rw [h5]; exact oneb w4 _
  have k0 : Bk w1 w.heap.size 43 [.slice none 0 0] := by rw [h1]; exact Bk.new w _ _ rfl
  have k1 : Bk w2 w1.heap.size 44 [.int .i64 0] := by rw [h2]; exact Bk.new w1 _ _ rfl
  have k2 : NMap w3 3 w2.heap.size [] := by rw [h3]; exact NMap.made w2 _
  have k3 : Bk w4 w3.heap.size 103 [.slice none 0 0, .map (some (w.heap.size + 2))] := by rw [h4]; exact Bk.new w3 _ _ rfl
  have k4 : Bk w5 w4.heap.size 47 [.slice A n cap] := by rw [h5]; exact Bk.new w4 _ _ rfl
  rw [s1] at k1
  rw [s2] at k2
  rw [s3] at k3
  rw [s4] at k4
  refine ⟨⟨rfl, (((k0.kept b2).kept b3).kept b4).kept b5, ((k1.kept b3).kept b4).kept b5, k4, ⟨.slice none 0 0, k3.kept b5, World.ownsRow_nil _ _ _ _, ((k2.below b4).below b5), by omega, by omega, by omega, by omega⟩, ?_, Nat.le_refl _, Nat.le_refl _⟩, s5⟩
  exact (((b1.trans (b2.mono (by omega))).trans (b3.mono (by omega))).trans (b4.mono (by omega))).trans (b5.mono (by omega))
theorem stm_fr {w : World} {n cap N : Nat} {A : Option Addr} {l : List PtM} {pre : List (Pa l)} {W W' : World} {v v' : Value} {c : CdM} (h : StM w n cap N A pre W) (hC : CR W (N + 3) (N + 2) (N + 5) v c) (hF : Fr (N + 3) (N + 2) v v' W W') :
    Bk W' N 43 [.slice none 0 0] ∧ Bk W' (N + 1) 44 [.int .i64 0] ∧ Bk W' (N + 4) 47 [.slice A n cap] ∧ Below w.heap.size w W' ∧ KB w.heap.size (N + 4) W W' ∧ KeepsFrom (N + 5) W W' := by
  have hg := own_ge hC.row
  have hN := h.NN
  refine ⟨Bk.fr h.rb hF (by omega) (by omega) (fun e => by have := (hg _ e.symm).1; omega), Bk.fr h.eb hF (by omega) (by omega) (fun e => by have := (hg _ e.symm).1; omega), Bk.fr h.bx hF (by omega) (by omega) (fun e => by have := (hg _ e.symm).1; omega), ?_, ?_, keeps_fr hC hF⟩
  · exact h.bel.trans (hF.below h.bel.size (by omega) (by omega) (fun g hg2 => by have := (hg g hg2).1; omega))
  · exact kb_fr hC hF (by omega) (by omega) (by omega) (by omega) (by omega) (by omega)
theorem ret_two {w W wc : World} {N B tI tE : Nat} {x : Int} {u : Value} (h1 : Bk wc N tI [u]) (h2 : Bk wc (N + 1) tE [.int .i64 0]) (hb : Below w.heap.size w wc) (hk : KeepsFrom B W wc) (hN : w.heap.size ≤ N) {v : Value} :
    KeepsFrom B W ((wc.setCell ⟨N, 0, none⟩ v).setCell ⟨N + 1, 0, none⟩ (.int .i64 x)) ∧ Bk ((wc.setCell ⟨N, 0, none⟩ v).setCell ⟨N + 1, 0, none⟩ (.int .i64 x)) N tI [v] ∧ Bk ((wc.setCell ⟨N, 0, none⟩ v).setCell ⟨N + 1, 0, none⟩ (.int .i64 x)) (N + 1) tE [.int .i64 x] ∧ Below w.heap.size w ((wc.setCell ⟨N, 0, none⟩ v).setCell ⟨N + 1, 0, none⟩ (.int .i64 x)) := by
  have g1 := only_set wc N 0 v
  have g2 := only_set (wc.setCell ⟨N, 0, none⟩ v) (N + 1) 0 (.int .i64 x)
  exact ⟨(hk.trans ((KeepsOthers.setCell _ _ _).from _)).trans ((KeepsOthers.setCell _ _ _).from _), (h1.set 0 v).grown g2 (fun e => by injection e with e; omega), (h2.grown g1 (fun e => by injection e with e; omega)).set 0 _, only_below (only_below hb g1 hb.size hN) g2 (Nat.le_trans hb.size g1.size) (by omega)⟩
set_option maxHeartbeats 16000000 in
set_option maxRecDepth 100000 in
theorem make_any (l : List PtM) (n : Nat) (A : Option Addr) (cap : Nat) (w : World) (hl : l.length = n) (hn : n ≤ 65536) (hok : ∀ q ∈ l, q.ok) (hr : Rd w 7 n A (l.flatMap PtM.cells)) :
    Calls Tryz.prog 8 #[.slice A n cap] w (MakePost l w) := by
  have HOK := Lib.hid hok
  have HR := Lib.hid hr
  have HL := Lib.hid hl
  clear hok hr hl
  have hmm := @run_makeMap Tryz.prog
  refine (callsIn_wide (n := 8)).1 ?_
  refine callsIn_of_wp_marks Tryz.func8 rfl trivial ?_ rfl
  simp only [Tryz.ntmps8, List.size_toArray, List.length_cons, List.length_nil, Nat.reduceAdd, Nat.reduceSub, Array.replicate_succ, Array.replicate_zero, List.push_toArray, List.append_toArray, List.nil_append, List.cons_append]
  gi_wp2_with (first | (refine ⟨trivial, ?_⟩; gi_at_call 26; refine (backward_in _ _ _ _ _).mono ?_; rintro e w' ⟨rfl, rfl⟩))
  simp only [Nat.add_assoc, Nat.reduceAdd]
  obtain ⟨hst0, hsz0⟩ := stm_0 l w n cap A
  revert hst0 hsz0
  generalize (((((w.alloc (.cells #[.slice none 0 0] 43)).alloc (.cells #[.int .i64 0] 44)).alloc (.map #[] 0)).alloc (.cells #[.slice none 0 0, .map (some (w.heap.size + 2))] 103)).alloc (.cells #[.slice A n cap] 47)) = W0
  intro hst0 hsz0
  have HS0 := Lib.hid hst0
  clear hst0 hmm
  refine wpIn_rangeFunc_ownH rfl (by omega) (gf := 47) (lb := #[.pointer (some ⟨w.heap.size + 4, 0, none⟩)]) rfl trivial (enters_of Tryz.func47 (by kernel_rfl) rfl)
    (back_stops 7 (by omega) (w.heap.size + 4) w.heap.size n cap A hn l HL.out W0 (by omega) (by omega) (HS0.out.bx.cell 0 rfl) (fun W' h => HR.out.below (HS0.out.bel.trans h))) KB.trans (kb_put (by omega) (by omega)) (Below.refl _ _) (fun _ => rfl)
    (StM w n cap w.heap.size A) (IxM w w.heap.size)
    (fun pre X X' row hs hg hr => hs.keepC hg (fun r e => ⟨by have := (hr r e).1; omega, (hr r e).2⟩))
    (fun c pre X X' row hs hg hr => hs.keepC hg (fun r e => ⟨by have := (hr r e).1; omega, (hr r e).2⟩))
    HS0.out
    (fun x a' W => ∃ g, a' = { tmps := #[.slice A n cap, undef, .pointer (some ⟨w.heap.size, 0, none⟩), .pointer (some ⟨w.heap.size + 1, 0, none⟩), .pointer (some ⟨w.heap.size + 3, 0, none⟩), undef, .pointer (some ⟨g, 0, none⟩), undef, .map (some (w.heap.size + 2)), .agg #[.slice none 0 0, .map (some (w.heap.size + 2))], .slice A n cap, .func (.func 47) #[] #[.pointer (some ⟨w.heap.size + 4, 0, none⟩)], .int .i64 (x.1.1 : Int), .agg #[.int .u8 x.1.2.kd, .int .i64 x.1.2.tQ, .int .i64 x.1.2.el, .int .u16 x.1.2.i.c, .int .u8 x.1.2.i.t, .int .u8 x.1.2.i.f, .int .u32 x.1.2.i.k], undef, undef, undef, undef, undef, undef, undef, undef, undef, undef, undef, undef, undef, undef], defers := [] } ∧ Bk W g 112 (PtM.cells x.1.2))
    (fun x a' _ X Z row hs hg hr => by obtain ⟨g, e, hb⟩ := hs; exact ⟨g, e, bk_keepC hb hg (fun r e => (hr r e).2)⟩)
    ?assign ?body ?done ?stop
  case assign =>
    intro L pre x W K hS hK
    unfold handed
    gi_wp2
    refine hK _ _ (KeepsFrom.of_grownBy (row := none) (World.grownBy_alloc W _ none) (fun j e => by cases e)) ⟨(oneb W _).mono hS.bel.size, Below.heap_alloc W _ _ hS.bx.lt⟩ (hS.keepC (World.grownBy_alloc W _ none) (fun r e => by cases e)) ⟨W.heap.size, rfl, Bk.new W _ _ rfl⟩
  case body =>
    rintro L pre x a' W hl ⟨r, hr⟩ hS ⟨g, rfl, hg⟩ hlt
    have y0 := hg.cell 0 rfl
    have y1 := hg.cell 1 rfl
    have y2 := hg.cell 2 rfl
    have y3 := hg.cell 3 rfl
    have y4 := hg.cell 4 rfl
    have y5 := hg.cell 5 rfl
    have y6 := hg.cell 6 rfl
    have yl := hg.lt
    obtain ⟨v, hC⟩ := hS.cr
    obtain ⟨c, hc⟩ : ∃ c, c = (foldM (pre.map Pa.pt)).2 := ⟨_, rfl⟩
    have hlen := foldM_len hS.ok
    have hbl := hS.bl
    have HBn := Lib.hid (foldM_bnd (pre.map Pa.pt))
    rw [← hc] at hC hlen hbl HBn
    have HS := Lib.hid hS
    have HC := Lib.hid hC
    have HStep := Lib.hid (show foldM ((pre ++ [x]).map Pa.pt) = (if (layF x.1.2 c).1 ≠ 0 then layF x.1.2 c else if 4096 < (layF x.1.2 c).2.ins.length then (205, (layF x.1.2 c).2) else layF x.1.2 c) by
      rw [List.map_append]
      show foldM (pre.map Pa.pt ++ [x.1.2]) = _
      rw [foldM_snoc]; unfold stepF; rw [if_neg (fun h => h hS.ok), ← hc])
    have HLay := Lib.hid (lay_any W (w.heap.size + 3) (w.heap.size + 2) (w.heap.size + 5) v c x.1.2 hC (HOK.out x.1.2 (List.mem_of_getElem? x.2)) HBn.out (by omega) (by omega))
    have hlb := lay_bl x.1.2 c
    obtain ⟨en, hen⟩ : ∃ en, en = (layF x.1.2 c).1 := ⟨_, rfl⟩
    obtain ⟨c2, hc2⟩ : ∃ c2, c2 = (layF x.1.2 c).2 := ⟨_, rfl⟩
    rw [← hen, ← hc2] at HLay HStep
    rw [← hc2] at hlb
    have hen2 : (layF x.1.2 c) = (en, c2) := by rw [hen, hc2]
    rw [hen2] at HStep
    clear hg hS hC hc hen hc2 hen2 hl hr r
    obtain ⟨z, hz⟩ : ∃ z, z = c2.ins.length := ⟨_, rfl⟩
    rw [← hz] at HStep
    have HZ := Lib.hid hz
    by_cases h0 : en = 0
    · by_cases hbig : 4096 < z
      · have g0 : ((en : Int) != 0) = false := by rw [h0]; rfl
        have g1 : (4096 : Int) < (z : Int) := by omega
        have g2 : decide ((4096 : Int) < (z : Int)) = true := decide_eq_true g1
        have HV := Lib.hid (show foldM ((pre ++ [x]).map Pa.pt) = (205, c2) by rw [HStep.out, if_neg (fun h => h h0), if_pos hbig])
        clear h0 hbig hz HStep
        gi_wp2_with (refine ⟨trivial, ?_⟩; gi_at_call 27; refine (CallsIn.inRound L (callsIn_wide.2 HLay.out)).mono ?_; rintro e wc ⟨rfl, v2, hC2, hF2⟩; obtain ⟨A2, cp2, rfl⟩ := hC2.slice; obtain ⟨k0, k1, kl, kf⟩ := hC2.cells; rw [← HZ.out] at k0; obtain ⟨t0, t1, t2, t3, t4, t5⟩ := stm_fr HS.out HC.out hF2; have HC2 := Lib.hid hC2; have HT := Lib.hid (And.intro t0 (And.intro t1 (And.intro t2 (And.intro t3 (And.intro t4 t5))))); have r0 := t0.fz 0; have rl := t0.lt; have s0 := t1.fz 0; have sl := t1.lt; have rc := t0.cell 0 rfl; have sc := t1.cell 0 rfl; clear hC2 hF2 t0 t1 t2 t3 t4 t5)
        obtain ⟨q1, q2, q3, q4⟩ := ret_two (x := 205) HT.out.1 HT.out.2.1 HT.out.2.2.2.1 HT.out.2.2.2.2.2 (Nat.le_refl _)
        refine ⟨by rw [hsz0]; exact q1, rfl, by rw [HV.out]; simp, q2, by rw [HV.out]; exact q3, q4, Nat.le_refl _⟩
      · have g0 : ((en : Int) != 0) = false := by rw [h0]; rfl
        have g1 : ¬ (4096 : Int) < (z : Int) := by omega
        have g2 : decide ((4096 : Int) < (z : Int)) = false := decide_eq_false g1
        have HV := Lib.hid (show foldM ((pre ++ [x]).map Pa.pt) = (0, c2) by rw [HStep.out, if_neg (fun h => h h0), if_neg hbig, h0])
        clear h0 hbig hz HStep
        gi_wp2_with (refine ⟨trivial, ?_⟩; gi_at_call 27; refine (CallsIn.inRound L (callsIn_wide.2 HLay.out)).mono ?_; rintro e wc ⟨rfl, v2, hC2, hF2⟩; obtain ⟨A2, cp2, rfl⟩ := hC2.slice; obtain ⟨k0, k1, kl, kf⟩ := hC2.cells; rw [← HZ.out] at k0; obtain ⟨t0, t1, t2, t3, t4, t5⟩ := stm_fr HS.out HC.out hF2; have HC2 := Lib.hid hC2; have HT := Lib.hid (And.intro t0 (And.intro t1 (And.intro t2 (And.intro t3 (And.intro t4 t5))))); have r0 := t0.fz 0; have rl := t0.lt; have s0 := t1.fz 0; have sl := t1.lt; have rc := t0.cell 0 rfl; have sc := t1.cell 0 rfl; clear hC2 hF2 t0 t1 t2 t3 t4 t5)
        refine ⟨by rw [hsz0]; exact HT.out.2.2.2.2.2, HT.out.2.2.2.2.1, by rw [HV.out], HT.out.1, HT.out.2.1, HT.out.2.2.1, ⟨_, by rw [HV.out]; exact HC2.out⟩, HT.out.2.2.2.1, ?_, Nat.le_refl _⟩
        rw [HV.out, List.length_append]; simp only [List.length_cons, List.length_nil]; omega
    · have g0 : ((en : Int) != 0) = true := by rw [bne_iff_ne]; omega
      have HV := Lib.hid (show foldM ((pre ++ [x]).map Pa.pt) = (en, c2) by rw [HStep.out, if_pos h0])
      have HNE := Lib.hid h0
      clear h0 hz HStep
      gi_wp2_with (refine ⟨trivial, ?_⟩; gi_at_call 27; refine (CallsIn.inRound L (callsIn_wide.2 HLay.out)).mono ?_; rintro e wc ⟨rfl, v2, hC2, hF2⟩; obtain ⟨A2, cp2, rfl⟩ := hC2.slice; obtain ⟨k0, k1, kl, kf⟩ := hC2.cells; rw [← HZ.out] at k0; obtain ⟨t0, t1, t2, t3, t4, t5⟩ := stm_fr HS.out HC.out hF2; have HC2 := Lib.hid hC2; have HT := Lib.hid (And.intro t0 (And.intro t1 (And.intro t2 (And.intro t3 (And.intro t4 t5))))); have r0 := t0.fz 0; have rl := t0.lt; have s0 := t1.fz 0; have sl := t1.lt; have rc := t0.cell 0 rfl; have sc := t1.cell 0 rfl; clear hC2 hF2 t0 t1 t2 t3 t4 t5)
      obtain ⟨q1, q2, q3, q4⟩ := ret_two (x := (en : Int)) HT.out.1 HT.out.2.1 HT.out.2.2.2.1 HT.out.2.2.2.2.2 (Nat.le_refl _)
      refine ⟨by rw [hsz0]; exact q1, rfl, by rw [HV.out]; exact HNE.out, q2, by rw [HV.out]; exact q3, q4, Nat.le_refl _⟩
  case done =>
    rintro D' ys W hD' hys hS hK
    obtain ⟨v, hC⟩ := hS.cr
    have hok := hS.ok
    have hlen := foldM_len hS.ok
    rw [hys, foldM_rev] at hC hok hlen
    obtain ⟨c, hc⟩ : ∃ c, c = (makeF l).2 := ⟨_, rfl⟩
    rw [← hc] at hC hlen
    obtain ⟨A2, cp2, rfl⟩ := hC.slice
    obtain ⟨k0, k1, kl, kf⟩ := hC.cells
    have HC := Lib.hid hC
    have HS := Lib.hid hS
    have HK := Lib.hid hK
    have HOk := Lib.hid (And.intro hok hc)
    have HRev := Lib.hid (reverse_any c.ins.reverse c.ins.length (w.heap.size + 5) A2 cp2 W (by simp) (by omega) hC.row)
    clear hS hC hok hys hc hK
    gi_wp2_with (refine ⟨trivial, ?_⟩; gi_at_call 28; refine (callsIn_wide.2 HRev.out).mono ?_; rintro e wd ⟨rfl, ho, hg⟩; have HO := Lib.hid ho; have HG := Lib.hid hg; have hbx := HC.out.box.grown hg (fun e => by have := (own_ge HC.out.row _ e.symm).1; omega); have k0 := hbx.cell 0 rfl; have kl := hbx.lt; have hrb := HS.out.rb.grown hg (fun e => by have := (own_ge HC.out.row _ e.symm).1; omega); have heb := HS.out.eb.grown hg (fun e => by have := (own_ge HC.out.row _ e.symm).1; omega); have r0 := hrb.fz 0; have rl := hrb.lt; have s0 := heb.fz 0; have sl := heb.lt; have rc := hrb.cell 0 rfl; have sc := heb.cell 0 rfl; have HRB := Lib.hid hrb; have HEB := Lib.hid heb; clear ho hg hbx hrb heb)
    clear k0 k1 kl kf r0 rl s0 sl rc sc
    have hkp : KeepsOthers W wd := KeepsOthers.of_grownBy HG.out (fun j o e hj => own_isCells HC.out.row e hj)
    have hbl : Below w.heap.size w wd := HS.out.bel.trans ⟨HG.out.os, HG.out.tape, HG.out.output, HG.out.size, fun i hi => HG.out.block i (Nat.lt_of_lt_of_le hi HS.out.bel.size) (fun e => by have := (own_ge HC.out.row _ e.symm).1; omega)⟩
    obtain ⟨q1, q2, q3, q4⟩ := ret_two (x := 0) (v := .slice A2 c.ins.length cp2) HRB.out HEB.out hbl (hkp.from 0) (Nat.le_refl _)
    have hK2 := q1.same D' _ (Nat.zero_le _) HK.out rfl
    have hown := own_keep (own_keep HO.out (only_set wd w.heap.size 0 (.slice A2 c.ins.length cp2)) (fun b hb e => by have := (own_ge HO.out b hb).1; omega)) (only_set _ (w.heap.size + 1) 0 (.int .i64 0)) (fun b hb e => by have := (own_ge HO.out b hb).1; omega)
    refine ⟨by simp, .inl ⟨_, _, rfl, run_takeDeferred hK2, ?_⟩⟩
    have hput := grownBy_putObj' ((wd.setCell ⟨w.heap.size, 0, none⟩ (.slice A2 c.ins.length cp2)).setCell ⟨w.heap.size + 1, 0, none⟩ (.int .i64 0)) D' (.deferred none)
    have hown2 := own_keepC hown hput (fun r e => by cases e; exact ⟨_, hK2, rfl⟩)
    have y0 := (q2.grown hput (fun e => by injection e with e; omega)).cell 0 rfl
    have y1 := (q3.grown hput (fun e => by injection e with e; omega)).cell 0 rfl
    refine ⟨.tuple #[.slice A2 c.ins.length cp2, .int .i64 0], ?_, q4.grown hput q4.size (fun r e => by cases e; omega), fun _ => ⟨_, ?_, rfl⟩, fun h => absurd HOk.out.1 h⟩
    · clear hkp hbl q1 q2 q3 q4 hK2 hown hput hown2
      simp [results, Tryz.results8, go_sem, y0, y1]
    · rw [← HOk.out.2]
      rw [List.reverse_reverse] at hown2
      exact own_base hown2 (by omega)
  case stop =>
    rintro D' c pre W hD' ⟨q, hq⟩ ⟨rfl, hne, hrb, heb, hbel, _⟩ hK
    have HK := Lib.hid hK
    have HX := Lib.hid (And.intro hne (And.intro hrb (And.intro heb hbel)))
    have HQ := Lib.hid hq
    clear hne hrb heb hbel hK hq
    gi_wp2
    refine ⟨by simp, .inl ⟨_, _, rfl, run_takeDeferred HK.out, ?_⟩⟩
    have hput := grownBy_putObj' W D' (.deferred none)
    obtain ⟨hne, hrb, heb, hbel⟩ := HX.out
    have hbad : makeF l = foldM (pre.map Pa.pt) := by
      have e : foldM (pre.map Pa.pt) = makeF (l.drop q) := by rw [HQ.out, foldM_rev]
      rw [e] at hne ⊢
      exact makeF_bad hne
    rw [← hbad] at hne heb
    have y0 := (hrb.grown hput (fun e => by injection e with e; omega)).cell 0 rfl
    have y1 := (heb.grown hput (fun e => by injection e with e; omega)).cell 0 rfl
    refine ⟨.tuple #[.slice none 0 0, .int .i64 (makeF l).1], ?_, hbel.grown hput hbel.size (fun r e => by cases e; omega), fun h => absurd h hne, fun _ => rfl⟩
    clear hbad hne hrb heb hbel hput
    simp [results, Tryz.results8, go_sem, y0, y1]
end Go.Proofs.YtcageojoafkojaaGreat.Ju
namespace Go.Proofs.YtcageojoafkojaaGreat.Ju
open Go.RowKit Go.Maps Go.WideMaps Go.WideElems Go.ChangeMaps
end Go.Proofs.YtcageojoafkojaaGreat.Ju
namespace Go.Proofs.YtcageojoafkojaaGreat
open Go.RowKit
section
variable {P : Program} {ops : Array Oper} {Q : Exit → Act → World → Prop} {L n : Nat}
end
end Go.Proofs.YtcageojoafkojaaGreat
namespace Go.Proofs.YtcageojoafkojaaGreat.Ju
open Go.RowKit
section
variable {P : Program} {Q : Exit → Act → World → Prop} {L n : Nat}
end
/-- The walk ends normally, in this frame, in a world of which R holds. -/
def OnlyR (fr : Act) (R : World → Prop) : Exit → Act → World → Prop
  | .normal, a, w => a = fr ∧ R w
  | _, _, _ => False
theorem OnlyR.here {fr : Act} {R : World → Prop} {w : World} (h : R w) : OnlyR fr R .normal fr w := ⟨rfl, h⟩
end Go.Proofs.YtcageojoafkojaaGreat.Ju
namespace Go.Proofs.YtcageojoafkojaaGreat.Ju
open Go.RowKit Go.Shelf Go.Maps Go.WideMaps Go.WideElems Go.ChangeMaps
attribute [local go_sem] Oper.semAt_some
section
variable {w : World} {n cap N B : Nat} {A : Option Addr} {s : LdM} {W W' : World} {row : Option Nat}
end
end Go.Proofs.YtcageojoafkojaaGreat.Ju
namespace Go.Proofs.YtcageojoafkojaaGreat.Ju
open Go.RowKit Go.Maps Go.WideMaps Go.WideElems Go.ChangeMaps
/-- What the second loop holds. -/
structure AR (w wr : World) (m B : Nat) (v : Value) (s : AlM) : Prop where
  bel : Below w.heap.size w wr
  mp : NMap wr 3 m s.W
  row : wr.ownsRow B 112 7 v s.left.length (s.left.flatMap PtM.cells)
  mB : m < B
  wm : w.heap.size ≤ m
  le : B ≤ wr.heap.size
theorem AR.kept {w wr w' : World} {m B : Nat} {v : Value} {s : AlM} (h : AR w wr m B v s) (hb : Below wr.heap.size wr w') : AR w w' m B v s :=
  ⟨h.bel.trans (hb.mono h.bel.size), h.mp.below hb, own_keepN h.row hb, h.mB, h.wm, Nat.le_trans h.le hb.size⟩
theorem AR.more {w wr w' : World} {m B : Nat} {v v' : Value} {s : AlM} {q : PtM} {e : Bool} (h : AR w wr m B v s) (hr : w'.ownsRow B 112 7 v' (s.left.length + 1) (s.left.flatMap PtM.cells ++ q.cells)) (hg : wr.grownBy w' v.ownBlock) : AR w w' m B v' ⟨s.left ++ [q], e, s.W⟩ := by
  have hge := own_ge h.row
  have h1 := h.mB
  have h2 := h.wm
  refine ⟨?_, h.mp.grown hg (fun e => by have := (hge m e.symm).1; omega), ?_, h.mB, h.wm, Nat.le_trans h.le hg.size⟩
  · exact h.bel.grown hg h.bel.size (fun r e => by have := (hge r e).1; omega)
  · simpa using hr
theorem AR.slice {w wr : World} {m B : Nat} {v : Value} {s : AlM} (h : AR w wr m B v s) : ∃ A cp, v = .slice A s.left.length cp := by obtain ⟨A, cp, e, _⟩ := own_typed h.row; exact ⟨A, cp, e⟩
end Go.Proofs.YtcageojoafkojaaGreat.Ju
namespace Go.Proofs.YtcageojoafkojaaGreat.Ju
open Go.RowKit Go.Maps Go.WideMaps Go.WideElems Go.ChangeMaps
/-- What the loop holds. -/
structure VR (w wr : World) (v : Value) (left : List PtM) : Prop where
  bel : Below w.heap.size w wr
  row : wr.ownsRow w.heap.size 112 7 v left.length (left.flatMap PtM.cells)
theorem VR.kept {w wr w' : World} {v : Value} {s : List PtM} (h : VR w wr v s) (hb : Below wr.heap.size wr w') : VR w w' v s := ⟨h.bel.trans (hb.mono h.bel.size), own_keepN h.row hb⟩
theorem VR.more {w wr w' : World} {v v' : Value} {s : List PtM} {q : PtM} (h : VR w wr v s) (hr : w'.ownsRow w.heap.size 112 7 v' (s.length + 1) (s.flatMap PtM.cells ++ q.cells)) (hg : wr.grownBy w' v.ownBlock) : VR w w' v' (s ++ [q]) :=
  ⟨h.bel.grown hg h.bel.size (fun r e => (own_ge h.row r e).1), by simpa using hr⟩
theorem VR.slice {w wr : World} {v : Value} {s : List PtM} (h : VR w wr v s) : ∃ A cp, v = .slice A s.length cp := by obtain ⟨A, cp, e, _⟩ := own_typed h.row; exact ⟨A, cp, e⟩
end Go.Proofs.YtcageojoafkojaaGreat.Ju
namespace Go.Proofs.YtcageojoafkojaaGreat.Ju
open Go.RowKit Go.Maps Go.WideMaps Go.WideElems Go.ChangeMaps
theorem rd_nil {w : World} {z n : Nat} {A : Option Addr} {xs : List Value} (h : Rd w z n A xs) (hA : A = none) : n = 0 := by
  rcases h.at_ with e | ⟨b, o, e, _⟩
  · exact e
  · rw [hA] at e; cases e
end Go.Proofs.YtcageojoafkojaaGreat.Ju
namespace Go.Proofs.YtcageojoafkojaaGreat.Ju
open Go.RowKit Go.Maps Go.WideMaps Go.WideElems Go.ChangeMaps
/-- A builder in block p, its parts in blocks from B on. -/
structure BR (w0 w : World) (p B : Nat) (v : Value) (k : Int) (s : List PtM) : Prop where
  box : Bk w p 116 [.int .i64 k, v]
  row : w.ownsRow B 112 7 v s.length (s.flatMap PtM.cells)
  pB : p < B
  le : B ≤ w.heap.size
  bel : Below w0.heap.size w0 w
  p0 : w0.heap.size ≤ p
section
variable {w0 w w' : World} {p B : Nat} {v : Value} {k : Int} {s : List PtM}
theorem BR.below (h : BR w0 w p B v k s) (hb : Below w.heap.size w w') : BR w0 w' p B v k s := ⟨h.box.kept hb, own_keepN h.row hb, h.pB, Nat.le_trans h.le hb.size, h.bel.trans (hb.mono h.bel.size), h.p0⟩
theorem BR.slice (h : BR w0 w p B v k s) : ∃ A cp, v = .slice A s.length cp := by obtain ⟨A, cp, e, _⟩ := own_typed h.row; exact ⟨A, cp, e⟩
theorem BR.named (h : BR w0 w p B v k s) (k' : Int) : BR w0 (w.setCell ⟨p, 0, none⟩ (.int .i64 k')) p B v k' s := by
  have hs := only_set w p 0 (.int .i64 k')
  have := h.p0
  exact ⟨h.box.set 0 _, own_keep h.row hs (fun b hb e => by have := (own_ge h.row b hb).1; have := h.pB; omega), h.pB, Nat.le_trans h.le hs.size, h.bel.grown hs h.bel.size (fun r e => by injection e with e; omega), h.p0⟩
set_option maxRecDepth 100000 in
theorem BR.run (h : BR w0 w p B v k s) (q : PtM) (hl : s.length ≤ 5000) (ty : TypeId) :
    ∃ v' wb, (Builtin.append_ #[47, 47] ty #[v, .slice (some ⟨w.heap.size, 0, none⟩) 1 1]).run Tryz.prog (w.alloc (.cells #[.int .u8 q.kd, .int .i64 q.tQ, .int .i64 q.el, .int .u16 q.i.c, .int .u8 q.i.t, .int .u8 q.i.f, .int .u32 q.i.k] 112)) = .ok v' wb ∧
      BR w0 (wb.setCell ⟨p, 1, none⟩ v') p B v' k (s ++ [q]) ∧ wb.cell? ⟨p, 1, none⟩ = some v ∧ wb.frozen? ⟨p, 1, none⟩ = false ∧ p < wb.heap.size := by
  obtain ⟨i0, hi, hz0, hz1, hz2⟩ := info_parts infoPart
  have hb := oneb w (.cells #[.int .u8 q.kd, .int .i64 q.tQ, .int .i64 q.el, .int .u16 q.i.c, .int .u8 q.i.t, .int .u8 q.i.f, .int .u32 q.i.k] 112)
  have hk := h.below hb
  have hB : Bk (w.alloc (.cells #[.int .u8 q.kd, .int .i64 q.tQ, .int .i64 q.el, .int .u16 q.i.c, .int .u8 q.i.t, .int .u8 q.i.f, .int .u32 q.i.k] 112)) w.heap.size 112 q.cells := Bk.new w _ _ rfl
  obtain ⟨v', wb, hr, ho, hg, _, hat⟩ := run_append_own_at (P := Tryz.prog) (w.alloc (.cells #[.int .u8 q.kd, .int .i64 q.tQ, .int .i64 q.el, .int .u16 q.i.c, .int .u8 q.i.t, .int .u8 q.i.f, .int .u32 q.i.k] 112)) B 47 ty 112 i0 _ 7 32 Tryz.underlying47 hi hz0 hz1 hz2 rfl (by decide) v s.length _ hk.row ⟨w.heap.size, 0, none⟩ 1 1 q.cells (by rfl) (fun j u hu => by rw [addr_at, Nat.zero_add]; exact hB.cell j hu) (pt_one q) (by unfold maxLen; omega) (by omega) hk.le
  have hge := own_ge hk.row
  have hp := h.pB
  have hp0 := h.p0
  have hbox : Bk wb p 116 [.int .i64 k, v] := hk.box.grown hg (fun e => by have := (hge p e.symm).1; omega)
  have hs := only_set wb p 1 v'
  refine ⟨v', wb, hr, ⟨hbox.set 1 v', ?_, hp, Nat.le_trans hk.le (Nat.le_trans hg.size hs.size), ?_, hp0⟩, hbox.cell 1 rfl, hbox.fz 1, hbox.lt⟩
  · have := own_keep ho hs (fun b hb e => by have := (own_ge ho b hb).1; omega)
    simpa using this
  · exact (hk.bel.grown hg hk.bel.size (fun r e => by have := (hge r e).1; omega)).grown hs (Nat.le_trans hk.bel.size hg.size) (fun r e => by injection e with e; omega)
end
def RetB (b : Bool) (w : World) (e : Ending) (w' : World) : Prop := e = .returned (.bool b) ∧ Below w.heap.size w w'
end Go.Proofs.YtcageojoafkojaaGreat.Ju
namespace Go.Proofs.YtcageojoafkojaaGreat.Ju
set_option maxRecDepth 100000
open Go.ChangeShapes Go.WideShapes Go.ChangeAt Go.RowKit Go.Deep
theorem list_of {α : Type} {Q : Nat → α → Prop} : ∀ (n : Nat), (∀ i, i < n → ∃ x, Q i x) → ∃ l : List α, l.length = n ∧ ∀ i x, l[i]? = some x → Q i x
  | 0, _ => ⟨[], rfl, fun i x h => by simp at h⟩
  | n + 1, h => by
    obtain ⟨l, hl, hq⟩ := list_of n (fun i hi => h i (by omega))
    obtain ⟨x, hx⟩ := h n (by omega)
    refine ⟨l ++ [x], by simp [hl], fun i y hy => ?_⟩
    by_cases hi : i < n
    · rw [List.getElem?_append_left (by omega)] at hy; exact hq i y hy
    · have : i = n := by
        have := (List.getElem?_eq_some_iff.1 hy).1
        simp at this; omega
      subst this
      rw [List.getElem?_append_right (by omega), hl] at hy
      simp at hy; subst hy; exact hx
section
variable {H : Type} {enc : TypeId × Value → H} {w : World} {base : Nat} {spare : Nat → Bool} {held : Bool} {fuel : Nat} {x : DataW H × List MemPlace} {A : Option Addr} {len cap : Nat}
theorem cell_lt {w : World} {a : Addr} {v : Value} (h : w.cell? a = some v) : a.block < w.heap.size ∧ a.spot = none := by
  refine ⟨?_, ?_⟩
  · unfold World.cell? at h
    split at h
    · rename_i h2; exact (Array.getElem?_eq_some_iff.1 h2).1
    · cases h
  · unfold World.cell? at h
    split at h
    · split at h
      · cases h
      · rename_i h3; simpa using h3
    · cases h
theorem add_at (b o j : Nat) : (⟨b, o, none⟩ : Addr).add j = ⟨b, o + j, none⟩ := by unfold Addr.add; split <;> simp_all
/-- Cells that are told one by one, as a list that reads so. -/
theorem rd_of {z n : Nat} {a : Addr} {xs : List Value} (hl : xs.length = n * z) (hz : 0 < z) (h : ∀ j u, xs[j]? = some u → w.cell? (a.add j) = some u) : Rd w z n (some a) xs := by
  refine ⟨hl, ?_⟩
  rcases Nat.eq_zero_or_pos n with h0 | h0
  · exact .inl h0
  · right
    have hp : 0 < xs.length := by rw [hl]; exact Nat.mul_pos h0 hz
    obtain ⟨h1, h2⟩ := cell_lt (h 0 _ (List.getElem?_eq_getElem hp))
    obtain ⟨b, o, spot⟩ := a
    have hs : spot = none := by simpa [Addr.add] using h2
    subst hs
    exact ⟨b, o, rfl, by simpa [Addr.add] using h1, fun j u hu => by rw [← add_at]; exact h j u hu⟩
theorem one_field {f : Field} {T k : Nat} {cs : List Value} {v : Value} {y : Option (DataW H × List MemPlace)} (h : DataW.trod enc Tryz.prog w base spare held fuel f.type ((cs.drop f.offset).take (Tryz.prog.cellsOf f.type)) = y)
    (hT : f.type = T) (hk : f.offset = k) (hc : Tryz.prog.cellsOf T = 1) (hv : (cs.drop k).take 1 = [v]) : DataW.trod enc Tryz.prog w base spare held fuel T [v] = y := by
  subst hT hk
  rwa [hc, hv] at h
end
section
variable {H : Type} {enc : TypeId × Value → H} {w : World} {base : Nat} {spare : Nat → Bool} {held : Bool} {r : Go.Reach} {b0 : Nat} {v : Value} {d : DataW H} {p : List MemPlace}
theorem u32_of {fuel : Nat} {v : Value} (h : ∃ y, DataW.trod enc Tryz.prog w base spare held fuel 30 [v] = some y) : ∃ n : Nat, v = .int .u32 n ∧ n < 4294967296 := by
  obtain ⟨y, h⟩ := h
  obtain ⟨n, e, _, g⟩ := DataW.trod_int Tryz.underlying30 h
  have b := bounds_u32 g
  obtain ⟨m, rfl⟩ := Int.eq_ofNat_of_zero_le b.1
  simp only [List.cons.injEq, and_true] at e
  exact ⟨m, e, by omega⟩
end
/-- A part in small numbers. -/
structure SmP where
  kd : Nat
  tt : Nat
  el : Nat
  how : Nat
  k : Nat
  pad : Nat
def SmP.cells (p : SmP) : List Value := [.int .u8 p.kd, .int .u8 p.tt, .int .u8 p.el, .int .u8 p.how, .int .u8 p.k, .int .u16 p.pad]
def SmP.ok (p : SmP) : Prop := p.kd < 256 ∧ p.tt < 256 ∧ p.el < 256 ∧ p.how < 256 ∧ p.k < 256 ∧ p.pad < 65536
section
variable {H : Type} {enc : TypeId × Value → H} {w : World} {base : Nat} {spare : Nat → Bool} {held : Bool} {fuel : Nat} {x : DataW H × List MemPlace} {A : Option Addr} {len cap : Nat}
end
end Go.Proofs.YtcageojoafkojaaGreat.Ju
namespace Go.Proofs.YtcageojoafkojaaGreat.Ju
def zI : Ins := ⟨0, 0, 0, 0⟩
def loadP (k : Nat) : PtM := ⟨2, 0, 0, ⟨32, 0, 0, k⟩⟩
def hereP (n : Nat) : PtM := ⟨1, n, 0, zI⟩
def retP (n : Nat) : PtM := ⟨2, 0, 0, ⟨6, 0, 0, n⟩⟩
/-- What stands behind is made; the names from n to 6 are there, no lower one, none above 6 but below 100 or from 100 + i on. -/
structure Got (l : List PtM) (n i K : Nat) : Prop where
  ok : (makeF l).1 = 0
  has : ∀ m : Nat, n ≤ m → m ≤ 6 → (lk (m : Int) (makeF l).2.bh).isSome = true
  no : ∀ m : Nat, m < n → lk (m : Int) (makeF l).2.bh = none
  high : ∀ j : Nat, j < i → lk ((100 + j : Nat) : Int) (makeF l).2.bh = none
  len : (makeF l).2.ins.length ≤ K
theorem step_eq {p : PtM} {c : CdM} (h : (layF p c).2.ins.length ≤ 4096) : stepF p (0, c) = layF p c := by
  have e : stepF p (0, c) = if (layF p c).1 ≠ 0 then layF p c else if 4096 < (layF p c).2.ins.length then (205, (layF p c).2) else layF p c := by unfold stepF; rw [if_neg (by simp)]
  rw [e]
  by_cases h1 : (layF p c).1 ≠ 0
  · rw [if_pos h1]
  · rw [if_neg h1, if_neg (by omega)]
theorem step_here {p : PtM} {l : List PtM} (h : (makeF l).1 = 0) (hk : p.kd = 1) (hn : lk p.tQ (makeF l).2.bh = none) (hl : (makeF l).2.ins.length ≤ 4096) : makeF (p :: l) = (0, ⟨(makeF l).2.ins, (p.tQ, (makeF l).2.ins.length) :: (makeF l).2.bh⟩) := by
  rw [makeF_cons, show makeF l = (0, (makeF l).2) from Prod.ext h rfl]
  have e : layF p (makeF l).2 = (0, ⟨(makeF l).2.ins, (p.tQ, (makeF l).2.ins.length) :: (makeF l).2.bh⟩) := by
    unfold layF
    rw [if_pos hk, hn]
  rw [step_eq (by rw [e]; simpa using hl), e]
theorem Got.here {l : List PtM} {n i K : Nat} (h : Got l (n + 1) i K) (hn : n ≤ 6) (hK : K ≤ 4096) : Got (hereP n :: l) n i K := by
  have hl := h.len
  have e := step_here (p := hereP n) h.ok rfl (h.no n (by omega)) (by omega)
  refine ⟨by rw [e], ?_, ?_, ?_, ?_⟩ <;> rw [e] <;> simp only
  · intro m h1 h2
    rw [lk_cons]
    by_cases hm : m = n
    · subst hm; rw [if_pos (by rfl)]; rfl
    · rw [if_neg (by show ¬ (n : Int) = m; omega)]; exact h.has m (by omega) h2
  · intro m h1
    rw [lk_cons, if_neg (by show ¬ (n : Int) = m; omega)]
    exact h.no m (by omega)
  · intro j hj
    rw [lk_cons, if_neg (by show ¬ (n : Int) = ((100 + j : Nat) : Int); omega)]
    exact h.high j hj
  · exact hl
end Go.Proofs.YtcageojoafkojaaGreat.Ju
namespace Go.Proofs.YtcageojoafkojaaGreat.Ju
def HasN (n : Int) (l : List PtM) : Prop := ∃ p ∈ l, p.kd = 1 ∧ p.tQ = n
def WayTo (p : PtM) (n : Int) : Prop := (p.kd = 3 ∧ (p.tQ = n ∨ p.el = n)) ∨ (p.kd = 4 ∧ p.tQ = n)
def Fwd : List PtM → Prop
  | [] => True
  | p :: t => Fwd t ∧ (p.kd = 1 → ¬ HasN p.tQ t) ∧ (∀ n, WayTo p n → HasN n t)
theorem has_nil (n : Int) : ¬ HasN n [] := fun ⟨_, h, _⟩ => by cases h
theorem has_cons {n : Int} {p : PtM} {t : List PtM} : HasN n (p :: t) ↔ (p.kd = 1 ∧ p.tQ = n) ∨ HasN n t := by
  constructor
  · rintro ⟨q, hq, h1, h2⟩
    rcases List.mem_cons.1 hq with rfl | hq
    · exact Or.inl ⟨h1, h2⟩
    · exact Or.inr ⟨q, hq, h1, h2⟩
  · rintro (⟨h1, h2⟩ | ⟨q, hq, h1, h2⟩)
    · exact ⟨p, List.mem_cons_self, h1, h2⟩
    · exact ⟨q, List.mem_cons_of_mem _ hq, h1, h2⟩
/-! Leading, from the end. -/
def InvO (o : List (Int × Int)) : Prop := ∀ n t, lk n o = some t → lk t o = none
/-- What leading leaves. -/
structure LdI (z : List PtM) (s : LdM) : Prop where
  inv : InvO s.o
  keys : ∀ n t, lk n s.o = some t → HasN n z ∧ HasN t z
  has : ∀ n, HasN n s.l ↔ HasN n z
  fwd : Fwd s.l
  ways : ∀ p ∈ s.l, ∀ n, WayTo p n → lk n s.o = none
  nx : s.nx.kd = 4 → HasN s.nx.tQ z ∧ lk s.nx.tQ s.o = none
/-- The first part that is no name. -/
def nextP : List PtM → Option PtM
  | [] => none
  | p :: t => if p.kd = 1 then nextP t else some p
/-- A name before a Goto. -/
def BadH (n : Int) : List PtM → Prop
  | [] => False
  | p :: t => (p.kd = 1 ∧ p.tQ = n ∧ ∃ q, nextP t = some q ∧ q.kd = 4) ∨ BadH n t
end Go.Proofs.YtcageojoafkojaaGreat.Ju
