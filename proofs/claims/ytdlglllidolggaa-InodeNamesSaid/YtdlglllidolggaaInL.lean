/- Make. -/
import Derived.Test.YtdlglllidolggaaInJ
import Derived.Test.YtdlglllidolggaaInK
namespace Go.Proofs.Ytdlglllidolggaa.In
open Go.RowKit Go.Maps Go.WideMaps
section
variable {w w' : World} {B tb A : Nat} {T : TrM} {nb mb : Nat → Nat}
theorem room_dir {n : Nat} {s : Bs} (hr : roomE T n s = 0) : (T.nd n).kd = 2 ∧ lk s (T.nd n).L = none ∧ (T.nd n).L.length < 32 ∧ (T.nd n).links ≠ 0 ∧ nameB s = true := by
  unfold roomE at hr
  by_cases h0 : dirE T n ≠ 0
  · rw [if_pos h0] at hr; exact absurd hr h0
  rw [if_neg h0] at hr
  by_cases q1 : nameB s = false
  · rw [if_pos q1] at hr; cases hr
  rw [if_neg q1] at hr
  by_cases q2 : (lk s (T.nd n).L).isSome = true
  · rw [if_pos q2] at hr; cases hr
  rw [if_neg q2] at hr
  by_cases q3 : (T.nd n).links = 0
  · rw [if_pos q3] at hr; cases hr
  rw [if_neg q3] at hr
  by_cases q4 : 32 ≤ (T.nd n).L.length
  · rw [if_pos q4] at hr; cases hr
  refine ⟨?_, by simpa using q2, by omega, q3, by simpa using q1⟩
  have h0 : dirE T n = 0 := by omega
  unfold dirE at h0; split at h0
  · cases h0
  · split at h0
    · assumption
    · cases h0
theorem made_is {i n k : Nat} {s : Bs} {text : ByteArray} (hin : i ≠ n) : giveT (upd T.nd n (freshM k text)) i s n = (madeT T i s k text n).nd := by
  unfold giveT madeT chg
  funext j
  simp only [upd]
  by_cases hj : j = n
  · subst hj; simp [Ne.symm hin, freshM, freshN]
  · by_cases hi : j = i
    · subst hi; simp [hj]
    · simp [hj, hi]
def MakeP (w : World) (B tb : Nat) (R : Nat × Nat × TrM) (e : Ending) (w' : World) : Prop := e = .returned (.tuple #[.int .u16 R.1, .int .i64 R.2.1]) ∧ Tab w' B tb R.2.2 ∧ FrI B w w'
theorem loose_fresh {k : Nat} {text : ByteArray} (hk : k ≤ 3) (ht : text.size ≤ maxLen) : Loose (freshM k text) :=
  ⟨hk, Nat.zero_le _, Nat.zero_le _, Nat.zero_le _, Nat.zero_le _, Nat.zero_le _, by unfold freshM; simp only; split; exact ht; exact Nat.zero_le _⟩
theorem may_kd {k : Nat} {text : ByteArray} (h : mayB k text = true) : 1 ≤ k ∧ k ≤ 3 := by unfold mayB at h; simp only [decide_eq_true_eq] at h; omega
/-- All that Make's last steps want: the new node is laid, then named. -/
theorem make_mid {w2 w3 : World} (h : TabR w2 B tb T A nb mb) {i n k g m : Nat} {s : ByteArray} {text : ByteArray} (hs : s.size ≤ maxLen) (ht : text.size ≤ maxLen) (hr : roomE T i s.data.toList = 0) (hmay : mayB k text = true) (hf : freeF T = some n)
    (hR : NodeR w3 g n (freshM k text) m) (hg : w2.heap.size ≤ g) (hm : w2.heap.size ≤ m) (hb : Below w2.heap.size w2 w3) :
    (w3.cell? ⟨A, n, none⟩ = some (.pointer none) ∧ w3.frozen? ⟨A, n, none⟩ = false ∧ A < w3.heap.size ∧ w3.cell? ⟨tb, 0, none⟩ = some (.slice (some ⟨A, 0, none⟩) (T.lim + 1) (T.lim + 1)) ∧ n ≤ T.lim) ∧
      Hid (FrI B w2 (w3.setCell ⟨A, n, none⟩ (tP g))) ∧
      Hid (Calls Try.prog 41 #[tP (nb i), .string s, tP g] (w3.setCell ⟨A, n, none⟩ (tP g)) (GiveP (w3.setCell ⟨A, n, none⟩ (tP g)) B tb A (updN nb n g) (updN mb n m) { T with nd := (madeT T i s.data.toList k text n).nd })) := by
  obtain ⟨hn1, hn2, hn0⟩ := free_is hf
  obtain ⟨hi, hlk, hL, hli, _⟩ := room_dir hr
  have hin : i ≠ n := fun e => by rw [e, hn0] at hi; cases hi
  obtain ⟨k1, k3⟩ := may_kd hmay
  have h3 := h.below hb
  have hlt : B ≤ w2.heap.size := Nat.le_of_lt h.lt
  have hN := h3.new n ⟨hn1, hn2⟩ hn0 g m (freshM k text) (by show k ≠ 0; omega) (loose_fresh k3 ht) hR (Nat.le_trans hlt hg) (fun _ => Nat.le_trans hlt hm) (fun j hj e => by have := (h.node j hj).lt; omega) (fun _ j hj e => by have := (h.node j (by rw [hj]; decide)).mlt hj; omega)
  have e1 : ∀ f : Nat → Nat, updN f n g i = f i := fun f => by simp [updN, hin]
  have e2 : updN nb n g n = g := by simp [updN]
  have hgv := give_any hN (i := i) (n := n) (by show (upd T.nd n _ i).kd = 2; rw [upd_other _ _ hin]; exact hi) (by show (upd T.nd n _ n).kd ≠ 0; rw [upd_same]; show k ≠ 0; omega) s hs (by show lk _ (upd T.nd n _ i).L = none; rw [upd_other _ _ hin]; exact hlk) (by show (upd T.nd n _ i).L.length < 1000; rw [upd_other _ _ hin]; omega) (by show (upd T.nd n _ n).links < 1000; rw [upd_same]; show (0 : Nat) < 1000; decide)
  rw [e1 nb, e2, show ({ ({ T with nd := upd T.nd n (freshM k text) } : TrM) with nd := giveT (upd T.nd n (freshM k text)) i s.data.toList n } : TrM) = { T with nd := (madeT T i s.data.toList k text n).nd } from by rw [made_is hin]] at hgv
  exact ⟨⟨h3.rowNo hn2 hn0, h3.fzA n, h3.row.lt, h3.c0, hn2⟩, (Fr.ofBelow hb).trans (FrI.row h3 n _), hgv⟩
set_option maxRecDepth 100000 in
set_option maxHeartbeats 4000000 in
theorem make_any (h : TabR w B tb T A nb mb) {i k : Nat} (hi : i ≤ 65535) (hk : k ≤ 255) (s text : ByteArray) (hs : s.size ≤ maxLen) (ht : text.size ≤ maxLen) (hch : T.ch < 1000000000) (deep : Nat)
    (hd : k = 2 → roomE T i s.data.toList = 0 → ∃ f l, upO T f i = some l ∧ f ≤ 1000 ∧ l.length = deep + 1) :
    Calls Try.prog 12 #[tP tb, .int .u16 i, .string s, .int .u8 k, .string text] w (MakeP w B tb (makeF T deep i s.data.toList k text)) := by
  have Tb := h.lt
  by_cases hr : roomE T i s.data.toList = 0
  case neg =>
    have hR : makeF T deep i s.data.toList k text = (0, roomE T i s.data.toList, T) := by unfold makeF; rw [if_pos hr]
    have htk := taking_no h hi s hs hr
    obtain ⟨q, hq⟩ : ∃ q, q = roomE T i s.data.toList := ⟨_, rfl⟩
    rw [← hq] at hR hr htk
    have HR := Lib.hid hR
    have hq2 : ((q : Int) != 0) = true := by simp; omega
    clear hR hq hr hd
    go_enter Try.func12, Try.ntmps12
    go_wp2_with fail
    refine htk.mono ?_
    rintro e w1 ⟨rfl, hb⟩
    have Hb := Lib.hid hb
    clear htk hb
    go_wp2
    go_ret2
    rw [HR.out]
    exact ⟨rfl, ⟨A, nb, mb, h.below Hb.out⟩, Fr.ofBelow Hb.out⟩
  have htk := taking_yes h s hs hr
  have Hr := Lib.hid hr
  have Hd := Lib.hid hd
  clear hr hd
  have hmy := fun w1 => may_any w1 k hk text ht
  by_cases hm : mayB k text = false
  · have HR := Lib.hid (show makeF T deep i s.data.toList k text = (0, 22, T) from by unfold makeF; rw [if_neg (by rw [Hr.out]; simp), if_pos hm])
    rw [hm] at hmy
    have Hmy := Lib.hid hmy
    clear hmy hm
    go_enter Try.func12, Try.ntmps12
    go_wp2_with fail
    refine htk.mono ?_
    rintro e w1 ⟨rfl, hb⟩
    have Hb := Lib.hid hb
    clear htk hb
    go_wp2_with fail
    refine (Hmy.out _).mono ?_
    rintro e w2 ⟨rfl, rfl⟩
    go_wp2
    go_ret2
    rw [HR.out]
    exact ⟨rfl, ⟨A, nb, mb, h.below Hb.out⟩, Fr.ofBelow Hb.out⟩
  have hm : mayB k text = true := by simpa using hm
  rw [hm] at hmy
  have Hmy := Lib.hid hmy
  have Hm := Lib.hid hm
  clear hmy hm
  rcases hf : freeF T with _ | n
  · have HR := Lib.hid (show makeF T deep i s.data.toList k text = (0, 28, T) from by unfold makeF; rw [if_neg (by rw [Hr.out]; simp), if_neg (by rw [Hm.out]; simp), hf])
    have hfr := fun (w1 : World) (h1 : TabR w1 B tb T A nb mb) => free_any h1
    rw [hf] at hfr
    have Hfr := Lib.hid hfr
    clear hfr hf
    go_enter Try.func12, Try.ntmps12
    go_wp2_with fail
    refine htk.mono ?_
    rintro e w1 ⟨rfl, hb⟩
    have Hb := Lib.hid hb
    clear htk hb
    go_wp2_with fail
    refine (Hmy.out _).mono ?_
    rintro e w2 ⟨rfl, rfl⟩
    go_wp2_with fail
    refine (Hfr.out w1 (h.below Hb.out)).mono ?_
    rintro e w2 ⟨rfl, rfl⟩
    go_wp2
    go_ret2
    rw [HR.out]
    exact ⟨rfl, ⟨A, nb, mb, h.below Hb.out⟩, Fr.ofBelow Hb.out⟩
  have hfr := fun (w1 : World) (h1 : TabR w1 B tb T A nb mb) => free_any h1
  rw [hf] at hfr
  have Hfr := Lib.hid hfr
  have Hf := Lib.hid hf
  clear hfr hf
  obtain ⟨n1, n2, n0⟩ := free_is Hf.out
  have hl256 := h.lim
  have nn : n ≤ 256 := by omega
  by_cases k2 : k = 2
  · subst k2
    obtain ⟨f, l, hl, hf1, hll⟩ := Hd.out rfl Hr.out
    have hdp := fun (w1 : World) (h1 : TabR w1 B tb T A nb mb) => depth_any h1 hi hl hf1
    have Hdp := Lib.hid hdp
    have Hll := Lib.hid hll
    have hll2 := upO_len hl
    have hdl : deep ≤ 1000 := by omega
    clear hdp hl hll hf1 hll2
    by_cases d16 : 16 ≤ deep
    · have HR := Lib.hid (show makeF T deep i s.data.toList 2 text = (0, 28, T) from by unfold makeF; rw [if_neg (by rw [Hr.out]; simp), if_neg (by rw [Hm.out]; simp), Hf.out]; exact if_pos ⟨rfl, d16⟩)
      have d2 : (16 : Int) ≤ deep := by omega
      clear d16
      go_enter Try.func12, Try.ntmps12
      go_wp2_with fail
      refine htk.mono ?_
      rintro e w1 ⟨rfl, hb⟩
      have Hb := Lib.hid hb
      clear htk hb
      go_wp2_with fail
      refine (Hmy.out _).mono ?_
      rintro e w2 ⟨rfl, rfl⟩
      go_wp2_with fail
      refine (Hfr.out w1 (h.below Hb.out)).mono ?_
      rintro e w2 ⟨rfl, rfl⟩
      simp only [Option.getD_some, Option.isSome_some]
      go_wp2_with fail
      refine (Hdp.out w1 (h.below Hb.out)).mono ?_
      rintro e w2 ⟨rfl, hb2⟩
      have Hb2 := Lib.hid (Hb.out.trans (hb2.mono Hb.out.size))
      rw [show ((l.length : Int) - 1) = (deep : Int) from by rw [Hll.out]; simp]
      clear hb2
      go_wp2
      go_ret2
      rw [HR.out]
      exact ⟨rfl, ⟨A, nb, mb, h.below Hb2.out⟩, Fr.ofBelow Hb2.out⟩
    · have HR := Lib.hid (show makeF T deep i s.data.toList 2 text = (n, 0, madeT T i s.data.toList 2 text n) from by unfold makeF; rw [if_neg (by rw [Hr.out]; simp), if_neg (by rw [Hm.out]; simp), Hf.out]; exact if_neg (fun k => d16 k.2))
      have d2 : ¬ (16 : Int) ≤ deep := by omega
      clear d16
      go_enter Try.func12, Try.ntmps12
      go_wp2_with fail
      refine htk.mono ?_
      rintro e w1 ⟨rfl, hb⟩
      have Hb := Lib.hid hb
      clear htk hb
      go_wp2_with fail
      refine (Hmy.out _).mono ?_
      rintro e w2 ⟨rfl, rfl⟩
      go_wp2_with fail
      refine (Hfr.out w1 (h.below Hb.out)).mono ?_
      rintro e w2 ⟨rfl, rfl⟩
      simp only [Option.getD_some, Option.isSome_some]
      go_wp2_with fail
      refine (Hdp.out w1 (h.below Hb.out)).mono ?_
      rintro e w2 ⟨rfl, hb2⟩
      have Hb2 := Lib.hid (Hb.out.trans (hb2.mono Hb.out.size))
      rw [show ((l.length : Int) - 1) = (deep : Int) from by rw [Hll.out]; simp]
      clear hb2 Hb
      go_wp2_with fail
      refine (fresh_any w2 n 2 hk text).mono ?_
      rintro e w3 ⟨g, m, rfl, hR, hg, hm2, hb3⟩
      obtain ⟨⟨c1, c2, c3, c4, c5⟩, HF3, HG⟩ := make_mid (h.below Hb2.out) hs ht Hr.out Hm.out Hf.out hR hg hm2 hb3
      obtain ⟨N, hN⟩ : ∃ N, N = T.lim + 1 := ⟨_, rfl⟩
      rw [← hN] at c4
      have bn : n < N := by omega
      have bN : N ≤ 300 := by omega
      have fz0 := hR.lt
      have HB3 := Lib.hid (Hb2.out.trans (hb3.mono Hb2.out.size))
      clear hN hR hg hm2 hb3 c5
      go_wp2_with fail
      refine HG.out.mono ?_
      rintro e w4 ⟨rfl, hT4, hF4⟩
      have t1 := hT4.c1
      have f1 := hT4.fzT 1
      have b1 := hT4.tab.lt
      have HT := Lib.hid (hT4.setCh (T.ch + 1) (by show T.ch + 1 ≤ 1000000000; omega))
      have HF := Lib.hid (((Fr.ofBelow Hb2.out).trans (HF3.out.trans hF4)).trans (FrI.tabl hT4 1 (.int .i64 ((T.ch : Int) + 1))))
      obtain ⟨ch, hch2⟩ : ∃ ch, ch = T.ch := ⟨_, rfl⟩
      rw [show (({ T with nd := (madeT T i s.data.toList 2 text n).nd } : TrM).ch) = ch from hch2.symm] at t1
      have hch3 : ch < 1000000000 := by omega
      have Hch := Lib.hid hch2
      clear hT4 hF4 HG HF3 c1 c2 c3 c4 hch2
      go_wp2
      go_ret2
      rw [HR.out]
      refine ⟨rfl, ⟨A, updN nb n g, updN mb n m, ?_⟩, ?_⟩
      · have := HT.out
        rw [show ((T.ch + 1 : Nat) : Int) = (ch : Int) + 1 from by rw [Hch.out]; simp] at this
        exact this
      · have := HF.out
        rw [← Hch.out] at this
        exact this
  · have HR := Lib.hid (show makeF T deep i s.data.toList k text = (n, 0, madeT T i s.data.toList k text n) from by unfold makeF; rw [if_neg (by rw [Hr.out]; simp), if_neg (by rw [Hm.out]; simp), Hf.out]; exact if_neg (fun q => k2 q.1))
    have kb : ((k : Int) == 2) = false := by simp; omega
    clear k2
    go_enter Try.func12, Try.ntmps12
    go_wp2_with fail
    refine htk.mono ?_
    rintro e w1 ⟨rfl, hb⟩
    have Hb := Lib.hid hb
    clear htk hb
    go_wp2_with fail
    refine (Hmy.out _).mono ?_
    rintro e w2 ⟨rfl, rfl⟩
    go_wp2_with fail
    refine (Hfr.out w1 (h.below Hb.out)).mono ?_
    rintro e w2 ⟨rfl, rfl⟩
    simp only [Option.getD_some, Option.isSome_some]
    go_wp2_with fail
    refine (fresh_any w1 n k hk text).mono ?_
    rintro e w3 ⟨g, m, rfl, hR, hg, hm2, hb3⟩
    obtain ⟨⟨c1, c2, c3, c4, c5⟩, HF3, HG⟩ := make_mid (h.below Hb.out) hs ht Hr.out Hm.out Hf.out hR hg hm2 hb3
    obtain ⟨N, hN⟩ : ∃ N, N = T.lim + 1 := ⟨_, rfl⟩
    rw [← hN] at c4
    have bn : n < N := by omega
    have bN : N ≤ 300 := by omega
    have fz0 := hR.lt
    have HB3 := Lib.hid (Hb.out.trans (hb3.mono Hb.out.size))
    clear hN hR hg hm2 hb3 c5
    go_wp2_with fail
    refine HG.out.mono ?_
    rintro e w4 ⟨rfl, hT4, hF4⟩
    have t1 := hT4.c1
    have f1 := hT4.fzT 1
    have b1 := hT4.tab.lt
    have HT := Lib.hid (hT4.setCh (T.ch + 1) (by show T.ch + 1 ≤ 1000000000; omega))
    have HF := Lib.hid (((Fr.ofBelow Hb.out).trans (HF3.out.trans hF4)).trans (FrI.tabl hT4 1 (.int .i64 ((T.ch : Int) + 1))))
    obtain ⟨ch, hch2⟩ : ∃ ch, ch = T.ch := ⟨_, rfl⟩
    rw [show (({ T with nd := (madeT T i s.data.toList k text n).nd } : TrM).ch) = ch from hch2.symm] at t1
    have hch3 : ch < 1000000000 := by omega
    have Hch := Lib.hid hch2
    clear hT4 hF4 HG HF3 c1 c2 c3 c4 hch2
    go_wp2
    go_ret2
    rw [HR.out]
    refine ⟨rfl, ⟨A, updN nb n g, updN mb n m, ?_⟩, ?_⟩
    · have := HT.out
      rw [show ((T.ch + 1 : Nat) : Int) = (ch : Int) + 1 from by rw [Hch.out]; simp] at this
      exact this
    · have := HF.out
      rw [← Hch.out] at this
      exact this
end
end Go.Proofs.Ytdlglllidolggaa.In
