/- Cut; Write. -/
import Derived.Test.YtdlglllidolggaaInS
namespace Go.Proofs.Ytdlglllidolggaa.In
open Go.RowKit Go.Maps Go.WideMaps Go.WideElems
section
variable {w w' : World} {B tb A : Nat} {T : TrM} {nb mb : Nat → Nat}
/-- A node's bytes are others, in a block of their own. -/
theorem TabR.data (h : TabR w B tb T A nb mb) {n : Nat} (hn : (T.nd n).kd ≠ 0) (l : List Nat) (hl : l.length ≤ 1024) {w2 : World} (hg : w.grownBy w2 (some (nb n))) {g : Nat} (hgB : Bk w2 g 5 (u8s l))
    (hnB : Bk w2 (nb n) 83 (ndCells n (T.nd n) (.slice (some ⟨g, 0, none⟩) l.length l.length) (mvOf (T.nd n).kd (mb n)))) :
    TabR w2 B tb { T with nd := upd T.nd n { T.nd n with data := l } } A nb mb := by
  have o := h.ls n
  have hN := h.node n hn
  refine h.setN hn { T.nd n with data := l } rfl ⟨o.kd, o.links, o.held, o.par, o.len, hl, o.text⟩ ⟨⟨_, hnB, some ⟨g, 0, none⟩, l.length, rfl, Nat.le_refl _, (hgB.seg (B := 0) (by simp [u8s]) (Nat.zero_le _)).rd, .inr ⟨_, rfl, bk_tyb hgB⟩⟩, fun h2 => ?_, hN.leaf⟩ hg (.inl rfl)
  exact om_block (hN.names h2) (hg.block _ (hN.mlt h2) (fun e => om_ne (hN.names h2) hN.tyb (Option.some.inj e)))
theorem FrI.ofNd (h : TabR w B tb T A nb mb) {n : Nat} (hk : (T.nd n).kd ≠ 0) {w2 : World} (hg : w.grownBy w2 (some (nb n))) : FrI B w w2 := Fr.ofGrown hg (.inr ⟨(h.hN n hk).1, h.kin hk⟩)
theorem file_ok {n : Nat} {k : Int} (h : fileE T n k = 0) : (T.nd n).kd = 1 ∧ 0 ≤ k := by
  unfold fileE at h
  split at h
  · cases h
  · split at h
    · cases h
    · split at h
      · cases h
      · rename_i h3
        constructor
        · by_cases q : (T.nd n).kd = 1
          · exact q
          · exact absurd (.inl q) h3
        · by_cases q : k < 0
          · exact absurd (.inr q) h3
          · omega
theorem siz_data (h : TabR w B tb T A nb mb) {n : Nat} (hn : (T.nd n).kd ≠ 0) {sz : Nat} (hsz : sz ≤ 1024) {w1 : World} (hS : Siz w (nb n) n (T.nd n) (mvOf (T.nd n).kd (mb n)) sz w1) :
    TabR w1 B tb { T with nd := upd T.nd n { T.nd n with data := sized (T.nd n).data sz } } A nb mb := by
  obtain ⟨g, h1, h2, h3⟩ := hS.g
  have e := sized_len (T.nd n).data sz
  exact h.data hn _ (by omega) hS.gr h2 (by rw [e]; exact h3)
set_option maxRecDepth 100000 in
set_option maxHeartbeats 2000000 in
theorem cut_any (h : TabR w B tb T A nb mb) {n : Nat} (hn : n ≤ 65535) (k : Int) (hch : T.ch < 1000000000) :
    Calls Try.prog 32 #[tP tb, .int .u16 n, .int .i64 k] w (OneP w B tb A nb mb (cutF T n k)) := by
  have hf := file_any h hn k
  by_cases h0 : fileE T n k = 0
  case neg =>
    have HR := Lib.hid (show cutF T n k = (fileE T n k, T) from by unfold cutF; rw [if_pos h0])
    rw [if_neg h0] at hf
    obtain ⟨q, hq⟩ : ∃ q, q = fileE T n k := ⟨_, rfl⟩
    rw [← hq] at hf HR h0
    have hqb : ((q : Int) != 0) = true := by simp; omega
    clear h0 hq
    go_enter Try.func32, Try.ntmps32
    go_wp2_with (refine hf.mono ?_; rintro e w' ⟨rfl, rfl⟩; clear hf)
    go_ret
    rw [HR.out]
    exact ⟨rfl, h, Fr.refl _ _ _ _⟩
  obtain ⟨h1, hk0⟩ := file_ok h0
  rw [if_pos h0, h0] at hf
  have hn0 : (T.nd n).kd ≠ 0 := by rw [h1]; decide
  by_cases hk : k > 1024
  · have HR := Lib.hid (show cutF T n k = (27, T) from by unfold cutF; rw [if_neg (by rw [h0]; simp), if_pos hk])
    clear h0
    go_enter Try.func32, Try.ntmps32
    go_wp2_with (refine hf.mono ?_; rintro e w' ⟨rfl, rfl⟩; clear hf)
    go_ret
    rw [HR.out]
    exact ⟨rfl, h, Fr.refl _ _ _ _⟩
  · obtain ⟨sz, rfl⟩ : ∃ sz : Nat, k = (sz : Int) := ⟨k.toNat, by omega⟩
    have HR := Lib.hid (show cutF T n sz = (0, chg T (upd T.nd n { T.nd n with data := sized (T.nd n).data sz })) from by unfold cutF; rw [if_neg (by rw [h0]; simp), if_neg hk]; rfl)
    have hs2 : sz ≤ 1024 := by omega
    have hs3 : ¬ (1024 : Int) < (sz : Int) := by omega
    have hsz := size_any (h.node n hn0) sz hs2
    have HN := Lib.hid hn0
    clear h0 hk hk0 h1 hn0
    go_enter Try.func32, Try.ntmps32
    go_wp2_with (refine hf.mono ?_; rintro e w' ⟨rfl, rfl⟩; clear hf)
    refine hsz.mono ?_
    rintro e w4 ⟨rfl, hS⟩
    have hT4 := siz_data h HN.out hs2 hS
    have hF4 := FrI.ofNd h HN.out hS.gr
    have t1 := hT4.c1
    have f1 := hT4.fzT 1
    have b1 := hT4.tab.lt
    have HT := Lib.hid (hT4.setCh (T.ch + 1) (by show T.ch + 1 ≤ 1000000000; omega))
    have HF := Lib.hid (hF4.trans (FrI.tabl hT4 1 (.int .i64 ((T.ch : Int) + 1))))
    obtain ⟨ch, hch2⟩ : ∃ ch, ch = T.ch := ⟨_, rfl⟩
    rw [show (({ T with nd := upd T.nd n { T.nd n with data := sized (T.nd n).data sz } } : TrM).ch) = ch from hch2.symm] at t1
    have hch3 : ch < 1000000000 := by omega
    have Hch := Lib.hid hch2
    clear hT4 hF4 hS hsz hch2
    go_wp2
    go_ret
    rw [HR.out]
    refine ⟨rfl, ?_, ?_⟩
    · have := HT.out
      rw [show ((T.ch + 1 : Nat) : Int) = (ch : Int) + 1 from by rw [Hch.out]; simp] at this
      exact this
    · have := HF.out
      rw [← Hch.out] at this
      exact this
end
end Go.Proofs.Ytdlglllidolggaa.In
