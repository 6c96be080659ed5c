/- Write. -/
import Derived.Test.YtdlglllidolggaaInT
import Derived.Laws.CopyOwn
namespace Go.Proofs.Ytdlglllidolggaa.In
open Go.RowKit Go.Maps Go.WideMaps Go.WideElems
section
variable {w w' : World} {B tb A : Nat} {T : TrM} {nb mb : Nat → Nat}
/-- Bytes that lie outside of the table. -/
def Outer (w : World) (B len : Nat) (A1 : Option Addr) : Prop := len = 0 ∨ ∃ a, A1 = some a ∧ (a.block < B ∨ TyB w a.block 5)
theorem outer_src (h : TabR w B tb T A nb mb) {n : Nat} (hn : (T.nd n).kd ≠ 0) {len : Nat} {A1 : Option Addr} {b : List Nat} (hb : Rd w 1 len A1 (u8s b)) (ho : Outer w B len A1) {w1 : World} (hg : w.grownBy w1 (some (nb n))) (h0 : 0 < (u8s b).length) :
    ∃ ad, A1 = some ad ∧ ∀ j v, (u8s b)[j]? = some v → w1.cell? (ad.add j) = some v := by
  have hl := hb.len
  obtain ⟨bb, o, e, hbl, hc⟩ := hb.pos (by rw [hl] at h0; omega)
  refine ⟨_, e, fun j v hv => ?_⟩
  rw [addr_at, ← hc j v hv]
  unfold World.cell?
  rw [hg.block bb hbl (fun e2 => ?_)]
  have e2 := Option.some.inj e2
  rcases ho with ho | ⟨a, ha, ho⟩
  · rw [hl] at h0; omega
  · cases e.symm.trans ha
    rcases ho with ho | ho
    · have := (h.hN n hn).1; simp at ho; omega
    · exact ho.ne (h.node n hn).tyb (by decide) e2
theorem write_end (h : TabR w B tb T A nb mb) {n : Nat} (hn : (T.nd n).kd ≠ 0) {sz k : Nat} {b : List Nat} (hsz : sz ≤ 1024) (hk : k + b.length ≤ sz) {w1 w2 : World} {g : Nat} (hg : w.heap.size ≤ g) (hgr : w.grownBy w1 (some (nb n)))
    (hnB : Bk w1 (nb n) 83 (ndCells n (T.nd n) (.slice (some ⟨g, 0, none⟩) sz sz) (mvOf (T.nd n).kd (mb n)))) (hb2 : Below g w1 w2)
    (hg2 : w2.heap[g]? = some (.cells (splice (u8s (sized (T.nd n).data sz)) k (u8s b)).toArray 5 (0, 0))) :
    TabR w2 B tb { T with nd := upd T.nd n { T.nd n with data := over (sized (T.nd n).data sz) k b } } A nb mb ∧ FrI B w w2 := by
  rw [splice_over] at hg2
  have hnl : nb n < g := Nat.lt_of_lt_of_le (h.node n hn).lt hg
  have hgr2 : w.grownBy w2 (some (nb n)) := ⟨hb2.os.trans hgr.os, hb2.tape.trans hgr.tape, hb2.output.trans hgr.output, Nat.le_trans hgr.size hb2.size, fun i hi hne => (hb2.block i (Nat.lt_of_lt_of_le hi hg)).trans (hgr.block i hi hne)⟩
  have e : (over (sized (T.nd n).data sz) k b).length = sz := by rw [over_len _ _ _ (by rw [sized_len]; exact hk), sized_len]
  exact ⟨h.data hn _ (by omega) hgr2 hg2 (by rw [e]; exact hnB.below hb2 hnl), FrI.ofNd h hn hgr2⟩
theorem write_fin {w w2 : World} {f : Nat → NdM} (hT4 : TabR w2 B tb { T with nd := f } A nb mb) (hF4 : FrI B w w2) (hch : T.ch < 1000000000) :
    w2.cell? ⟨tb, 1, none⟩ = some (.int .i64 T.ch) ∧ w2.frozen? ⟨tb, 1, none⟩ = false ∧ tb < w2.heap.size ∧ Hid (TabR (w2.setCell ⟨tb, 1, none⟩ (.int .i64 ((T.ch : Int) + 1))) B tb (chg T f) A nb mb) ∧ Hid (FrI B w (w2.setCell ⟨tb, 1, none⟩ (.int .i64 ((T.ch : Int) + 1)))) := by
  refine ⟨hT4.c1, hT4.fzT 1, hT4.tab.lt, ?_, hF4.trans (FrI.tabl hT4 1 _)⟩
  have := hT4.setCh (T.ch + 1) (by show T.ch + 1 ≤ 1000000000; omega)
  rw [show ((T.ch + 1 : Nat) : Int) = (T.ch : Int) + 1 from by simp] at this
  exact this
set_option maxRecDepth 100000 in
set_option maxHeartbeats 4000000 in
theorem write_any (h : TabR w B tb T A nb mb) {n : Nat} (hn : n ≤ 65535) (k : Int) (hk63 : k ≤ 9223372036854775807) (len cap : Nat) (A1 : Option Addr) (b : List Nat) (hbl : b.length = len) (hlen : len ≤ maxLen) (hb : Rd w 1 len A1 (u8s b)) (ho : Outer w B len A1) (hch : T.ch < 1000000000) :
    Calls Try.prog 31 #[tP tb, .int .u16 n, .int .i64 k, .slice A1 len cap] w (OneP w B tb A nb mb (writeF T n k b)) := by
  unfold maxLen at hlen
  have hf := file_any h hn k
  by_cases h0 : fileE T n k = 0
  case neg =>
    have HR := Lib.hid (show writeF T n k b = (fileE T n k, T) from by unfold writeF; rw [if_pos h0])
    rw [if_neg h0] at hf
    obtain ⟨q, hq⟩ : ∃ q, q = fileE T n k := ⟨_, rfl⟩
    rw [← hq] at hf HR h0
    have hqb : ((q : Int) != 0) = true := by simp; omega
    clear h0 hq
    go_enter Try.func31, Try.ntmps31
    go_wp2_with (refine hf.mono ?_; rintro e w' ⟨rfl, rfl⟩; clear hf)
    go_ret
    rw [HR.out]
    exact ⟨rfl, h, Fr.refl _ _ _ _⟩
  obtain ⟨h1, hk0⟩ := file_ok h0
  rw [if_pos h0, h0] at hf
  have hn0 : (T.nd n).kd ≠ 0 := by rw [h1]; decide
  by_cases hk : k + (len : Int) > 1024
  · have HR := Lib.hid (show writeF T n k b = (27, T) from by unfold writeF; rw [if_neg (by rw [h0]; simp), if_pos (by rw [hbl]; exact hk)])
    have hk2 : 1024 - k < (len : Int) := by omega
    clear h0 hbl hb
    go_enter Try.func31, Try.ntmps31
    go_wp2_with (refine hf.mono ?_; rintro e w' ⟨rfl, rfl⟩; clear hf)
    go_ret
    rw [HR.out]
    exact ⟨rfl, h, Fr.refl _ _ _ _⟩
  obtain ⟨at_, rfl⟩ : ∃ at_ : Nat, k = (at_ : Int) := ⟨k.toNat, by omega⟩
  have hR : writeF T n at_ b = (0, chg T (upd T.nd n { T.nd n with data := over (sized (T.nd n).data (max (T.nd n).data.length (at_ + b.length))) at_ b })) := by
    unfold writeF; rw [if_neg (by rw [h0]; simp), if_neg (by rw [hbl]; exact hk)]; rfl
  have hN := h.node n hn0
  obtain ⟨dv, hB, A2, c2, rfl, hc2, hd⟩ := hN.cells
  have hlL := (h.ls n).data
  have a2 := hB.cell 2 rfl
  obtain ⟨L, hL⟩ : ∃ L, L = (T.nd n).data.length := ⟨_, rfl⟩
  rw [← hL] at a2 hR hlL
  obtain ⟨sz, hsz⟩ : ∃ sz, sz = max L (at_ + b.length) := ⟨_, rfl⟩
  rw [← hsz] at hR
  rw [hbl] at hsz
  have HR := Lib.hid hR
  have s1 : L ≤ sz := by omega
  have s2 : at_ + len ≤ sz := by omega
  have s3 : sz ≤ 1024 := by omega
  have hmx : ((if (L : Int) ≤ (at_ : Int) + len then (at_ : Int) + len else (L : Int))) = (sz : Int) := by split <;> omega
  have hsza : ∀ v : Int, v = sz → Calls Try.prog 62 #[tP (nb n), .int .i64 v] w (SizP w (nb n) n (T.nd n) (mvOf (T.nd n).kd (mb n)) sz) := by
    rintro v rfl; exact size_any hN sz s3
  have HSZ := Lib.hid hsza
  have H := Lib.hid h
  have HN := Lib.hid hn0
  have Hbl := Lib.hid hbl
  have Hmx := Lib.hid hsz
  have hk3 : ¬ 1024 - (at_ : Int) < (len : Int) := by omega
  clear h0 hk hk0 h1 hn0 hL hsz hd hc2 hB hN hR hbl hsza hmx
  go_enter Try.func31, Try.ntmps31
  go_wp2_with (refine hf.mono ?_; rintro e w' ⟨rfl, rfl⟩; clear hf)
  all_goals
    refine (HSZ.out _ (by have := Hmx.out; omega)).mono ?_
    rintro e w1 ⟨rfl, hS⟩
    obtain ⟨⟨g, g1, g2, g3⟩, g4⟩ := hS
    have d2 := g3.cell 2 rfl
    have HG := Lib.hid g2
    have HEND := Lib.hid (fun (w2 : World) hb2 hg2 => write_end H.out HN.out s3 (by rw [Hbl.out]; exact s2) g1 g4 g3 (w2 := w2) hb2 hg2)
    have HSRC := Lib.hid (fun h0 => outer_src H.out HN.out hb ho g4 (w1 := w1) h0)
    clear g2 g3 g4 g1
    by_cases hc : at_ = sz
    · obtain rfl : len = 0 := by omega
      have hb0 : ¬ 0 < (u8s b).length := by rw [u8s_len', Hbl.out]; omega
      subst hc
      go_wp2_with (refine wpList_copy_splice rfl (.tmp 43) (.tmp 44) 38 38 rfl 5 Try.underlying38 size8 _ _ 0 _ 0 _ (by rfl) (by rfl) g at_ (u8s (sized (T.nd n).data at_)) 5 HG.out (u8s b) (by rw [u8s_len', Hbl.out]; rfl) (fun h0 => absurd h0 hb0) (by rw [u8s_len', u8s_len', sized_len, Hbl.out]; exact s2) (u8s_one _) g w1 (Below.refl _ _) (Nat.le_refl _) ?_; intro w2 hg2 hb2; obtain ⟨hT4, hF4⟩ := HEND.out w2 hb2 hg2.out; obtain ⟨t1, f1, b1, HT, HF⟩ := write_fin hT4 hF4 hch; clear hg2 hb2 hT4 hF4)
      go_ret
      rw [HR.out]
      exact ⟨rfl, HT.out, HF.out⟩
    · have bd : at_ < sz := by omega
      go_wp2_with (refine wpList_copy_splice rfl (.tmp 43) (.tmp 44) 38 38 rfl 5 Try.underlying38 size8 _ _ (sz - at_) _ _ _ (by rfl) (by rfl) g at_ (u8s (sized (T.nd n).data sz)) 5 HG.out (u8s b) (by rw [u8s_len', Hbl.out]; exact (Nat.min_eq_left (by omega)).symm) (fun h0 => ⟨rfl, HSRC.out h0⟩) (by rw [u8s_len', u8s_len', sized_len, Hbl.out]; exact s2) (u8s_one _) g w1 (Below.refl _ _) (Nat.le_refl _) ?_; intro w2 hg2 hb2; obtain ⟨hT4, hF4⟩ := HEND.out w2 hb2 hg2.out; obtain ⟨t1, f1, b1, HT, HF⟩ := write_fin hT4 hF4 hch; clear hg2 hb2 hT4 hF4)
      go_ret
      rw [HR.out]
      exact ⟨rfl, HT.out, HF.out⟩
end
end Go.Proofs.Ytdlglllidolggaa.In
