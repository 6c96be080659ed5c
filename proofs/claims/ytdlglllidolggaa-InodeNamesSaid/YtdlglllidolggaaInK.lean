/- New. -/
import Derived.Test.YtdlglllidolggaaInH
import Derived.Laws.NewBlocks
namespace Go.Proofs.Ytdlglllidolggaa.In
open Go.RowKit Go.Maps Go.WideMaps Go.WideElems
def rootN : NdM := ⟨2, [], [], 1, ⟨#[]⟩, 1, 0⟩
def emptyT (lim : Nat) : TrM := ⟨fun _ => ndZ, lim, 0⟩
def newT (lim : Nat) : TrM := ⟨upd (fun _ => ndZ) 1 rootN, lim, 0⟩
theorem infoPtr : (Try.prog.info? 62).map (fun i => (i.zero, i.size, i.bytes)) = some (some (.pointer none), 1, 8) := by kernel_rfl
def NewP (w : World) (lim : Nat) (e : Ending) (w' : World) : Prop := ∃ tb, e = .returned (tP tb) ∧ w.heap.size ≤ tb ∧ Tab w' w.heap.size tb (newT lim) ∧ Below w.heap.size w w'
theorem grown_none_below {w w1 : World} (h : w.grownBy w1 none) : Below w.heap.size w w1 := ⟨h.os, h.tape, h.output, h.size, fun i hi => h.block i hi (by simp)⟩
theorem row_empty (lim : Nat) (nb : Nat → Nat) : rowL (emptyT lim) nb = List.replicate (lim + 1) (.pointer none) := by
  apply List.ext_getElem?
  intro i
  by_cases hi : i ≤ lim
  · rw [row_get (emptyT lim) nb (n := i) hi, List.getElem?_replicate, if_pos (show i < lim + 1 from by omega)]; rfl
  · rw [List.getElem?_eq_none (by rw [row_len]; show lim + 1 ≤ i; omega), List.getElem?_eq_none (by simp; omega)]
/-- Behind the two blocks. -/
theorem new_empty {w1 : World} {B N A lim : Nat} (hlim : 1 ≤ lim ∧ lim ≤ 256) (hA : B ≤ A) (hB : B ≤ w1.heap.size) (hrow : Bk w1 A 62 (List.replicate N (.pointer none))) (hN : N = lim + 1) :
    TabR (w1.alloc (.cells #[.slice (some ⟨A, 0, none⟩) N N, .int .i64 0] 87)) B w1.heap.size (emptyT lim) A (fun _ => 0) (fun _ => 0) := by
  subst hN
  refine ⟨Bk.new w1 _ _ rfl, ?_, fun n hn => absurd rfl hn, fun n k hn => absurd rfl hn, fun n k hn => (by cases hn), ⟨hB, hA⟩, fun n hn => absurd rfl hn, hlim, fun _ _ => rfl, fun _ => loose_z, Nat.zero_le _⟩
  rw [row_empty]
  exact hrow.alloc _
theorem new_root {w2 w3 : World} {B tb A lim g m : Nat} (hE : TabR w2 B tb (emptyT lim) A (fun _ => 0) (fun _ => 0)) (hR : NodeR w3 g 1 (freshM 2 ⟨#[]⟩) m) (hg : w2.heap.size ≤ g) (hm : w2.heap.size ≤ m) (hb : Below w2.heap.size w2 w3) :
    ∀ W, W = (w3.setCell ⟨g, 4, none⟩ (.int .u16 1)).setCell ⟨g, 6, none⟩ (.int .i64 1) → Hid (Tab ((W.drew).setCell ⟨A, 1, none⟩ (tP g)) B tb (newT lim)) ∧
      W.cell? ⟨tb, 0, none⟩ = some (.slice (some ⟨A, 0, none⟩) (lim + 1) (lim + 1)) ∧ W.cell? ⟨g, 0, none⟩ = some (.int .u16 1) ∧ W.drew.cell? ⟨A, 1, none⟩ = some (.pointer none) ∧ W.drew.frozen? ⟨A, 1, none⟩ = false ∧ A < W.heap.size := by
  rintro W rfl
  have hl := hE.lim
  have h4 := hR.set 4 (.int .u16 1) { freshM 2 ⟨#[]⟩ with par := 1 } (fun _ => rfl) rfl rfl rfl
  have h6 := h4.set 6 (.int .i64 1) rootN (fun _ => rfl) rfl rfl rfl
  have hb2 : Below w2.heap.size w2 ((w3.setCell ⟨g, 4, none⟩ (.int .u16 1)).setCell ⟨g, 6, none⟩ (.int .i64 1)) := (hb.setCell hg _).setCell hg _
  have hE2 := (hE.below hb2).drew
  have hlt : B ≤ w2.heap.size := Nat.le_of_lt hE.lt
  have := hE2.new 1 ⟨by omega, hl.1⟩ rfl g m rootN (by decide) ⟨by decide, by decide, by decide, by decide, by decide, by decide, by decide⟩ (h6.below ((Below.refl _ _).drew)) (Nat.le_trans hlt hg) (fun _ => Nat.le_trans hlt hm) (fun k hk => absurd rfl hk) (fun _ k hk => by cases hk)
  exact ⟨⟨_, _, _, this⟩, (hE.below hb2).c0, h6.c 0 _ rfl (by decide), hE2.rowNo (n := 1) hl.1 rfl, hE2.fzA 1, (hE.below hb2).row.lt⟩
set_option maxRecDepth 100000 in
set_option maxHeartbeats 2000000 in
theorem new_any (w : World) (lim : Nat) (hlim : 1 ≤ lim ∧ lim ≤ 256) : Calls Try.prog 10 #[.int .i64 lim] w (NewP w lim) := by
  obtain ⟨h1, h2⟩ := hlim
  obtain ⟨i0, hi, hz0, hz1, hz2⟩ := info_parts infoPtr
  obtain ⟨N, hN⟩ : ∃ N, N = lim + 1 := ⟨_, rfl⟩
  have HN := Lib.hid hN
  clear hN
  have q1 : (1 : Int) ≤ lim := by omega
  have q2 : (lim : Int) ≤ 256 := by omega
  have hNl : N ≤ 300 := by rw [HN.out]; omega
  go_enter Try.func10, Try.ntmps10
  go_wp2_with (at_make; refine wpList_make_full _ rfl _ _ 85 rfl w.heap.size 62 i0 (.pointer none) 1 Try.underlying85 hi hz0 hz1 .i64 .i64 _ _ N rfl rfl (by rw [HN.out]; simp; try omega) (by rw [HN.out]; simp; try omega) (by rw [hz2, HN.out]; omega) (by unfold maxLen; rw [HN.out]; omega) (Nat.le_refl _) ?_; intro w1 hown1 hg1; rw [Nat.mul_one, show (Value.pointer none).cells = #[Value.pointer none] from rfl, toList_madeCells_one] at hown1; have HR := Lib.hid (bk_full hown1); have HB := Lib.hid (grown_none_below hg1); clear hown1 hg1)
  refine (fresh_any _ 1 2 (by decide) ⟨#[]⟩).mono ?_
  rintro e w3 ⟨g, m, rfl, hR, hg, hm, hb⟩
  have hA : w.heap.size < w1.heap.size := HR.out.lt
  have hE := new_empty (B := w.heap.size) ⟨h1, h2⟩ (Nat.le_refl _) HB.out.size HR.out HN.out
  have HT := Lib.hid (new_root hE hR hg hm hb)
  have hbb : Below w.heap.size w w3 := (HB.out.alloc HB.out.size _).trans (hb.mono (by simp; omega))
  have Hbb := Lib.hid hbb
  have gl := hR.lt
  have a0 := hR.c 0 _ rfl (by decide)
  have a4 := hR.c 4 _ rfl (by decide)
  have a6 := hR.c 6 _ rfl (by decide)
  have f4 := hR.fz 4
  have f6 := hR.fz 6
  have hg2 : w.heap.size ≤ g := by simp at hg; omega
  clear hE hR hg hm hb hbb
  go_wp2_with fail
  obtain ⟨W, hW⟩ : ∃ W, W = (w3.setCell ⟨g, 4, none⟩ (.int .u16 1)).setCell ⟨g, 6, none⟩ (.int .i64 1) := ⟨_, rfl⟩
  have hBW := Lib.hid (show Below w.heap.size w W from by rw [hW]; exact (Hbb.out.setCell hg2 _).setCell hg2 _)
  rw [← hW]
  obtain ⟨HT2, u0, u1, u2, u3, u4⟩ := HT.out W hW
  rw [show lim + 1 = N from HN.out.symm] at u0
  have bN : 1 < N := by rw [HN.out]; omega
  have bN2 : (1 : Int) < (N : Int) := by omega
  clear hW a0 a4 a6 f4 f6
  have u2' : W.cell? ⟨w.heap.size, 1, none⟩ = some (.pointer none) := u2
  have u3' : W.frozen? ⟨w.heap.size, 1, none⟩ = false := u3
  refine wp_region_still_tail 10 (by kernel_rfl) (by kernel_rfl) ?_
  simp only [List.take_succ_cons, List.take_zero, List.drop_succ_cons, List.drop_zero]
  change wpStill _ _ (World.drew _) (fun a' => wpList _ _ _ _ a' (World.drew _)) _ _
  repeat still_step
  refine wpStill_nil ?_
  go_wp2
  go_ret
  exact ⟨w1.heap.size, rfl, HB.out.size, HT2.out, (hBW.out.drew).setCell (Nat.le_refl _) _⟩
end Go.Proofs.Ytdlglllidolggaa.In
