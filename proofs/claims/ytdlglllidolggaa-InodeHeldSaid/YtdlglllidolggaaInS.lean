/- file; size; Cut; Write. -/
import Derived.Test.YtdlglllidolggaaInP
import Derived.Laws.CopyOwn
namespace Go.Proofs.Ytdlglllidolggaa.In
open Go.RowKit Go.Maps Go.WideMaps Go.WideElems
theorem u8s_one (l : List Nat) : ∀ v ∈ u8s l, v.oneCell' = true := by
  intro v hv; simp only [u8s, List.mem_map] at hv; obtain ⟨_, _, rfl⟩ := hv; rfl
theorem u8s_len' (l : List Nat) : (u8s l).length = l.length := by simp [u8s]
theorem sized_len (l : List Nat) (n : Nat) : (sized l n).length = n := by
  unfold sized; simp; omega
theorem over_len (l : List Nat) (k : Nat) (b : List Nat) (h : k + b.length ≤ l.length) : (over l k b).length = l.length := by
  unfold over; simp; omega
theorem info8 : (Try.prog.info? 5).map (fun i => (i.zero, i.size, i.bytes)) = some (some (.int .u8 0), 1, 1) := by kernel_rfl
theorem size8 : (Try.prog.info? 5).map (·.size) = some 1 := by kernel_rfl
/-- Noughts, over which the first bytes are copied. -/
theorem splice_sized (l : List Nat) (n : Nat) : splice (List.replicate n (.int .u8 0)) 0 (u8s (l.take n)) = u8s (sized l n) := by
  unfold splice sized
  simp only [u8s, List.take_zero, List.nil_append, Nat.zero_add, List.length_map, List.length_take, List.drop_replicate, List.map_append, List.map_replicate]
  congr 2
  omega
theorem splice_over (l : List Nat) (k : Nat) (b : List Nat) : splice (u8s l) k (u8s b) = u8s (over l k b) := by
  unfold splice over
  simp only [u8s, List.map_append, List.map_take, List.map_drop, List.length_map, List.append_assoc]
section
variable {w w' : World} {B tb A : Nat} {T : TrM} {nb mb : Nat → Nat}
theorem file_any (h : TabR w B tb T A nb mb) {n : Nat} (hn : n ≤ 65535) (k : Int) :
    Calls Try.prog 61 #[tP tb, .int .u16 n, .int .i64 k] w fun e w' => e = .returned (.tuple #[if fileE T n k = 0 then tP (nb n) else .pointer none, .int .i64 (fileE T n k)]) ∧ w = w' := by
  by_cases h0 : (T.nd n).kd = 0
  · have hE : fileE T n k = 2 := by unfold fileE; rw [if_pos h0]
    rw [hE, if_neg (by decide)]
    have hg := get_no h hn h0
    clear h0 hE
    go_enter Try.func61, Try.ntmps61
    go_wp2_with (refine hg.mono ?_; rintro e w' ⟨rfl, rfl⟩; clear hg)
    go_ret2
    exact ⟨rfl, rfl⟩
  have hg := get_yes h h0
  have a1 := ndK h h0
  by_cases h2 : (T.nd n).kd = 2
  · have hE : fileE T n k = 21 := by unfold fileE; rw [if_neg h0, if_pos h2]
    rw [hE, if_neg (by decide)]
    rw [h2] at a1
    clear h0 h2 hE
    go_enter Try.func61, Try.ntmps61
    go_wp2_with (refine hg.mono ?_; rintro e w' ⟨rfl, rfl⟩; clear hg)
    go_ret2
    exact ⟨rfl, rfl⟩
  by_cases h1 : (T.nd n).kd = 1
  · rw [h1] at a1
    by_cases hk : k < 0
    · have hE : fileE T n k = 22 := by unfold fileE; rw [if_neg h0, if_neg h2, if_pos (.inr hk)]
      rw [hE, if_neg (by decide)]
      clear h0 h2 h1 hE
      go_enter Try.func61, Try.ntmps61
      go_wp2_with (refine hg.mono ?_; rintro e w' ⟨rfl, rfl⟩; clear hg)
      go_ret2
      exact ⟨rfl, rfl⟩
    · have hE : fileE T n k = 0 := by unfold fileE; rw [if_neg h0, if_neg h2, if_neg (fun q => q.elim (fun q => q h1) hk)]
      rw [hE, if_pos rfl]
      clear h0 h2 h1 hE
      go_enter Try.func61, Try.ntmps61
      go_wp2_with (refine hg.mono ?_; rintro e w' ⟨rfl, rfl⟩; clear hg)
      go_ret2
      exact ⟨rfl, rfl⟩
  · have hE : fileE T n k = 22 := by unfold fileE; rw [if_neg h0, if_neg h2, if_pos (.inl h1)]
    rw [hE, if_neg (by decide)]
    obtain ⟨kk, hkk⟩ : ∃ kk, kk = (T.nd n).kd := ⟨_, rfl⟩
    rw [← hkk] at a1
    have kb : ((kk : Int) == 2) = false := by simp; omega
    have kc : ((kk : Int) != 1) = true := by simp; omega
    clear h0 h2 h1 hE hkk
    go_enter Try.func61, Try.ntmps61
    go_wp2_with (refine hg.mono ?_; rintro e w' ⟨rfl, rfl⟩; clear hg)
    go_ret2
    exact ⟨rfl, rfl⟩
/-- What size leaves: the node's bytes lie in a block of their own. -/
structure Siz (w : World) (nb n : Nat) (x : NdM) (mv : Value) (sz : Nat) (w' : World) : Prop where
  g : ∃ g, w.heap.size ≤ g ∧ Bk w' g 5 (u8s (sized x.data sz)) ∧ Bk w' nb 83 (ndCells n x (.slice (some ⟨g, 0, none⟩) sz sz) mv)
  gr : w.grownBy w' (some nb)
def SizP (w : World) (nb n : Nat) (x : NdM) (mv : Value) (sz : Nat) (e : Ending) (w' : World) : Prop := e = .returned (.tuple #[]) ∧ Siz w nb n x mv sz w'
theorem src_in {w w1 : World} {L sz : Nat} {A1 : Option Addr} {l : List Nat} (hL : L = l.length) (hd : TRd w 5 1 l.length A1 (u8s l)) (hb : Below w.heap.size w w1) (h0 : 0 < (u8s (l.take sz)).length) :
    ∃ ad, A1 = some ad ∧ ∀ j v, (u8s (l.take sz))[j]? = some v → w1.cell? (ad.add j) = some v := by
  rw [u8s_len', List.length_take] at h0
  obtain ⟨b, o, e, hbl, hc⟩ := hd.rd.pos (by omega)
  refine ⟨_, e, fun j v hv => ?_⟩
  rw [addr_at]
  refine (hb.cell (p := ⟨b, o + j, none⟩) hbl).trans (hc j v ?_)
  unfold u8s at hv ⊢
  rw [List.getElem?_map] at hv ⊢
  rw [List.getElem?_take] at hv
  split at hv
  · exact hv
  · cases hv
theorem siz_of {w w2 : World} {b n : Nat} {x : NdM} {mv v0 : Value} {sz g : Nat} (hB : Bk w b 83 (ndCells n x v0 mv)) (hg : w.heap.size ≤ g) (hb2 : Below w.heap.size w w2) (hg2 : w2.heap[g]? = some (.cells (splice (List.replicate sz (.int .u8 0)) 0 (u8s (x.data.take sz))).toArray 5 (0, 0))) :
    Siz w b n x mv sz (w2.setCell ⟨b, 2, none⟩ (.slice (some ⟨g, 0, none⟩) sz sz)) := by
  have hbl := hB.lt
  have h1 : Bk w2 g 5 (u8s (sized x.data sz)) := by unfold Bk; rw [hg2, splice_sized]
  have h2 : Bk w2 b 83 (ndCells n x v0 mv) := hB.kept hb2
  refine ⟨⟨g, hg, h1.grown (only_set w2 b 2 _) (fun e => by have := Option.some.inj e; omega), h2.set 2 _⟩, ?_⟩
  exact ⟨hb2.os, hb2.tape, hb2.output, by show _ ≤ (w2.setCell _ _).heap.size; simp [World.setCell]; exact hb2.size, fun i hi hne => (Below.heap_setCell w2 _ _ i (fun e => hne (by rw [e]))).trans (hb2.block i hi)⟩
set_option maxRecDepth 100000 in
set_option maxHeartbeats 2000000 in
theorem size_any {w : World} {b n : Nat} {x : NdM} {m : Nat} (hR : NodeR w b n x m) (sz : Nat) (hsz : sz ≤ 1024) :
    Calls Try.prog 62 #[tP b, .int .i64 sz] w (SizP w b n x (mvOf x.kd m) sz) := by
  obtain ⟨dv, hB, A1, c1, rfl, hc1, hd⟩ := hR.cells
  obtain ⟨i0, hi, hz0, hz1, hz2⟩ := info_parts info8
  have a2 := hB.cell 2 rfl
  have blt := hB.lt
  obtain ⟨L, hL⟩ : ∃ L, L = x.data.length := ⟨_, rfl⟩
  have HL := Lib.hid hL
  have HB := Lib.hid hB
  have HD := Lib.hid hd
  rw [← hL] at a2
  clear hL hB hd hc1
  have hcs : (u8s (x.data.take sz)).length = Nat.min L sz := by rw [u8s_len', List.length_take, HL.out]; exact Nat.min_comm _ _
  have Hcs := Lib.hid hcs
  clear hcs
  go_enter Try.func62, Try.ntmps62
  go_wp2_with (first | (at_make; refine wpList_make_full _ rfl _ _ 38 rfl w.heap.size 5 i0 (.int .u8 0) 1 Try.underlying38 hi hz0 hz1 .i64 .i64 _ _ sz rfl rfl rfl rfl (by rw [hz2]; omega) (by unfold maxLen; omega) (Nat.le_refl _) ?_; intro w1 hown1 hg1; rw [Nat.mul_one, show (Value.int .u8 0).cells = #[Value.int .u8 0] from rfl, toList_madeCells_one] at hown1; have HR := Lib.hid (bk_full hown1); have HB1 := Lib.hid (grown_none_below hg1); have b2 := (HB1.out.cell (p := ⟨b, 2, none⟩) blt).trans a2; clear hown1 hg1 a2) | (refine wpList_copy_splice rfl (.tmp 7) (.tmp 11) 38 38 rfl 5 Try.underlying38 size8 (some ⟨w.heap.size, 0, none⟩) A1 sz sz L c1 (by rfl) (by rfl) w.heap.size 0 (List.replicate sz (.int .u8 0)) 5 HR.out (u8s (x.data.take sz)) Hcs.out (fun h0 => ⟨rfl, src_in HL.out HD.out HB1.out h0⟩) (by rw [Hcs.out, List.length_replicate, Nat.zero_add]; exact Nat.min_le_right L sz) (u8s_one _) w.heap.size w HB1.out (Nat.le_refl _) ?_; intro w2 hg2 hb2; have HS := Lib.hid (siz_of HB.out (Nat.le_refl _) hb2 hg2.out); have c2 := (hb2.cell (p := ⟨b, 2, none⟩) blt).trans (HB.out.cell 2 rfl); have f2 := (hb2.frozen (p := ⟨b, 2, none⟩) blt).trans (HB.out.fz 2); have bl2 := Nat.lt_of_lt_of_le blt hb2.size; clear hg2 hb2 b2))
  go_end0
  exact ⟨rfl, HS.out⟩
end
end Go.Proofs.Ytdlglllidolggaa.In
