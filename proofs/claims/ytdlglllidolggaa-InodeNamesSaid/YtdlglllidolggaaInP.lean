/- Add. -/
import Derived.Test.YtdlglllidolggaaInO
namespace Go.Proofs.Ytdlglllidolggaa.In
open Go.RowKit Go.Maps Go.WideMaps
section
variable {w w' : World} {B tb A : Nat} {T : TrM} {nb mb : Nat → Nat}
theorem added_is {i n : Nat} {s : Bs} (hin : i ≠ n) (h2 : (T.nd n).kd ≠ 2) : giveT T.nd i s n = (addedT T i s n).nd := by
  unfold giveT addedT chg
  funext j
  simp only [upd]
  by_cases hj : j = n
  · subst hj; simp [Ne.symm hin, h2]
  · by_cases hi : j = i
    · subst hi; simp [hj]
    · simp [hj, hi]
set_option maxRecDepth 100000 in
set_option maxHeartbeats 4000000 in
theorem add_any (h : TabR w B tb T A nb mb) {i n : Nat} (hi : i ≤ 65535) (hn : n ≤ 65535) (s : ByteArray) (hs : s.size ≤ maxLen) (hch : T.ch < 1000000000) :
    Calls Try.prog 23 #[tP tb, .int .u16 i, .string s, .int .u16 n] w (OneP w B tb A nb mb (addF T i s.data.toList n)) := by
  by_cases h0 : (T.nd n).kd = 0
  · have HR := Lib.hid (show addF T i s.data.toList n = (2, T) from by unfold addF; rw [if_pos h0])
    have hg := get_no h hn h0
    clear h0
    go_enter Try.func23, Try.ntmps23
    go_wp2_with (refine hg.mono ?_; rintro e w' ⟨rfl, rfl⟩; clear hg)
    go_ret
    rw [HR.out]
    exact ⟨rfl, h, Fr.refl _ _ _ _⟩
  have hg := get_yes h h0
  have a1 := ndK h h0
  by_cases h2 : (T.nd n).kd = 2
  · have HR := Lib.hid (show addF T i s.data.toList n = (1, T) from by unfold addF; rw [if_neg h0, if_pos h2])
    rw [h2] at a1
    clear h0 h2
    go_enter Try.func23, Try.ntmps23
    go_wp2_with (refine hg.mono ?_; rintro e w' ⟨rfl, rfl⟩; clear hg)
    go_ret
    rw [HR.out]
    exact ⟨rfl, h, Fr.refl _ _ _ _⟩
  obtain ⟨kk, hkk⟩ : ∃ kk, kk = (T.nd n).kd := ⟨_, rfl⟩
  rw [← hkk] at a1
  have kb : ((kk : Int) == 2) = false := by simp; omega
  have H2 := Lib.hid h2
  have H0 := Lib.hid h0
  clear hkk h2 h0
  by_cases hr : roomE T i s.data.toList = 0
  case neg =>
    have HR := Lib.hid (show addF T i s.data.toList n = (roomE T i s.data.toList, T) from by unfold addF; rw [if_neg H0.out, if_neg H2.out, if_pos hr])
    have htk := taking_no h hi s hs hr
    obtain ⟨q, hq⟩ : ∃ q, q = roomE T i s.data.toList := ⟨_, rfl⟩
    rw [← hq] at HR hr htk
    have hq2 : ((q : Int) != 0) = true := by simp; omega
    clear hq hr
    go_enter Try.func23, Try.ntmps23
    go_wp2_with fail
    refine hg.mono ?_
    rintro e w1 ⟨rfl, rfl⟩
    clear hg
    go_wp2_with fail
    refine htk.mono ?_
    rintro e w1 ⟨rfl, hb⟩
    have Hb := Lib.hid hb
    clear htk hb
    go_wp2
    go_ret
    rw [HR.out]
    exact ⟨rfl, h.below Hb.out, Fr.ofBelow Hb.out⟩
  have htk := taking_yes h s hs hr
  have Hr := Lib.hid hr
  clear hr
  by_cases l0 : (T.nd n).links = 0
  · have HR := Lib.hid (show addF T i s.data.toList n = (2, T) from by unfold addF; rw [if_neg H0.out, if_neg H2.out, if_neg (by rw [Hr.out]; simp), if_pos l0])
    have L0 := Lib.hid l0
    clear l0
    go_enter Try.func23, Try.ntmps23
    go_wp2_with fail
    refine hg.mono ?_
    rintro e w1 ⟨rfl, rfl⟩
    clear hg
    go_wp2_with fail
    refine htk.mono ?_
    rintro e w1 ⟨rfl, hb⟩
    have Hb := Lib.hid hb
    have a6 := ndL (h.below hb) H0.out
    rw [L0.out] at a6
    clear htk hb
    go_wp2
    go_ret
    rw [HR.out]
    exact ⟨rfl, h.below Hb.out, Fr.ofBelow Hb.out⟩
  have l0b : (((T.nd n).links : Int) == 0) = false := by simp; omega
  by_cases l256 : 256 ≤ (T.nd n).links
  · have HR := Lib.hid (show addF T i s.data.toList n = (31, T) from by unfold addF; rw [if_neg H0.out, if_neg H2.out, if_neg (by rw [Hr.out]; simp), if_neg l0, if_pos l256])
    have l2 : (256 : Int) ≤ (T.nd n).links := by omega
    clear l0 l256
    go_enter Try.func23, Try.ntmps23
    go_wp2_with fail
    refine hg.mono ?_
    rintro e w1 ⟨rfl, rfl⟩
    clear hg
    go_wp2_with fail
    refine htk.mono ?_
    rintro e w1 ⟨rfl, hb⟩
    have Hb := Lib.hid hb
    have a6 := ndL (h.below hb) H0.out
    clear htk hb
    go_wp2
    go_ret
    rw [HR.out]
    exact ⟨rfl, h.below Hb.out, Fr.ofBelow Hb.out⟩
  · have HR := Lib.hid (show addF T i s.data.toList n = (0, addedT T i s.data.toList n) from by unfold addF; rw [if_neg H0.out, if_neg H2.out, if_neg (by rw [Hr.out]; simp), if_neg l0, if_neg l256])
    have l2 : ¬ (256 : Int) ≤ (T.nd n).links := by omega
    obtain ⟨hi2, hlk, hL, _, _⟩ := room_dir Hr.out
    have hin : i ≠ n := fun e => H2.out (by rw [← e]; exact hi2)
    have HG := Lib.hid (fun (w1 : World) (hb : Below w.heap.size w w1) => give_any (h.below hb) hi2 H0.out s hs hlk (by omega) (by omega))
    have Hin := Lib.hid (added_is (T := T) (s := s.data.toList) hin H2.out)
    clear l0 l256 hi2 hlk hL hin
    go_enter Try.func23, Try.ntmps23
    go_wp2_with fail
    refine hg.mono ?_
    rintro e w1 ⟨rfl, rfl⟩
    clear hg
    go_wp2_with fail
    refine htk.mono ?_
    rintro e w1 ⟨rfl, hb⟩
    have Hb := Lib.hid hb
    have a6 := ndL (h.below hb) H0.out
    clear htk hb
    go_wp2_with fail
    refine (HG.out w1 Hb.out).mono ?_
    rintro e w4 ⟨rfl, hT4, hF4⟩
    have t1 := hT4.c1
    have f1 := hT4.fzT 1
    have b1 := hT4.tab.lt
    have HT := Lib.hid (hT4.setCh (T.ch + 1) (by show T.ch + 1 ≤ 1000000000; omega))
    have HF := Lib.hid (((Fr.ofBelow Hb.out).trans hF4).trans (FrI.tabl hT4 1 (.int .i64 ((T.ch : Int) + 1))))
    obtain ⟨ch, hch2⟩ : ∃ ch, ch = T.ch := ⟨_, rfl⟩
    rw [show (({ T with nd := giveT T.nd i s.data.toList n } : TrM).ch) = ch from hch2.symm] at t1
    have hch3 : ch < 1000000000 := by omega
    have Hch := Lib.hid hch2
    clear hT4 hF4 HG hch2 a6
    go_wp2
    go_ret
    rw [HR.out]
    refine ⟨rfl, ?_, ?_⟩
    · have := HT.out
      rw [show ((T.ch + 1 : Nat) : Int) = (ch : Int) + 1 from by rw [Hch.out]; simp, Hin.out] at this
      exact this
    · have := HF.out
      rw [← Hch.out] at this
      exact this
end
end Go.Proofs.Ytdlglllidolggaa.In
