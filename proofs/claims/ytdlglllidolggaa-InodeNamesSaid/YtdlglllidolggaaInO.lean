/- Hold; Drop; Add. -/
import Derived.Test.YtdlglllidolggaaInL
namespace Go.Proofs.Ytdlglllidolggaa.In
open Go.RowKit Go.Maps Go.WideMaps
section
variable {w w' : World} {B tb A : Nat} {T : TrM} {nb mb : Nat → Nat}
def OneP (w : World) (B tb A : Nat) (nb mb : Nat → Nat) (R : Nat × TrM) (e : Ending) (w' : World) : Prop := e = .returned (.int .i64 R.1) ∧ TabR w' B tb R.2 A nb mb ∧ FrI B w w'
set_option maxRecDepth 100000 in
set_option maxHeartbeats 1000000 in
theorem hold_any (h : TabR w B tb T A nb mb) {n : Nat} (hn : n ≤ 65535) (more : Bool) (hh : (T.nd n).held < 1000000000) :
    Calls Try.prog 30 #[tP tb, .int .u16 n, .bool more] w (OneP w B tb A nb mb (holdF T n more)) := by
  by_cases h0 : (T.nd n).kd = 0
  · rw [show holdF T n more = (2, T) from by unfold holdF; rw [if_pos h0]]
    go_enter Try.func30, Try.ntmps30
    go_wp2_with (refine (get_no h hn h0).mono ?_; rintro e w' ⟨rfl, rfl⟩)
    go_ret
    exact ⟨rfl, h, Fr.refl _ _ _ _⟩
  have hg := get_yes h h0
  have a7 := ndH h h0
  have f7 := h.fzN h0 7
  have b7 := (h.node n h0).lt
  cases more with
  | true =>
    have HR := Lib.hid (show holdF T n true = (0, { T with nd := upd T.nd n { T.nd n with held := (T.nd n).held + 1 } }) from by unfold holdF; rw [if_neg h0, if_pos rfl])
    have HT := Lib.hid (h.held h0 ((T.nd n).held + 1) (by omega) (((T.nd n).held : Int) + 1) (by simp))
    have HF := Lib.hid (FrI.nd h h0 7 (.int .i64 (((T.nd n).held : Int) + 1)))
    obtain ⟨q, hq⟩ : ∃ q, q = (T.nd n).held := ⟨_, rfl⟩
    rw [← hq] at a7 HF hh
    have HQ := Lib.hid hq
    clear hq h h0
    go_enter Try.func30, Try.ntmps30
    go_wp2_with (refine hg.mono ?_; rintro e w' ⟨rfl, rfl⟩; clear hg)
    go_ret
    rw [HR.out]
    refine ⟨rfl, ?_, HF.out⟩
    have := HT.out
    rw [← HQ.out] at this ⊢
    exact this
  | false =>
    by_cases e0 : (T.nd n).held = 0
    · have HR := Lib.hid (show holdF T n false = (22, T) from by unfold holdF; rw [if_neg h0, if_neg (by decide), if_pos e0])
      rw [e0] at a7
      have H := Lib.hid h
      clear h h0 e0
      go_enter Try.func30, Try.ntmps30
      go_wp2_with (refine hg.mono ?_; rintro e w' ⟨rfl, rfl⟩; clear hg)
      go_ret
      rw [HR.out]
      exact ⟨rfl, H.out, Fr.refl _ _ _ _⟩
    · have HR := Lib.hid (show holdF T n false = (0, { T with nd := leaveT (upd T.nd n { T.nd n with held := (T.nd n).held - 1 }) n }) from by unfold holdF; rw [if_neg h0, if_neg (by decide), if_neg e0])
      have hT := h.held h0 ((T.nd n).held - 1) (by omega) (((T.nd n).held : Int) - 1) (by omega)
      have hF := FrI.nd h h0 7 (.int .i64 (((T.nd n).held : Int) - 1))
      have hlv := leave_any hT (n := n) (by show (upd T.nd n _ n).kd ≠ 0; rw [upd_same]; exact h0)
      rw [show ({ ({ T with nd := upd T.nd n { T.nd n with held := (T.nd n).held - 1 } } : TrM) with nd := leaveT (upd T.nd n { T.nd n with held := (T.nd n).held - 1 }) n } : TrM) = (holdF T n false).2 from by rw [HR.out]] at hlv
      have qb : (((T.nd n).held : Int) == 0) = false := by simp; omega
      have q1 : (1 : Int) ≤ (T.nd n).held := by omega
      obtain ⟨q, hq⟩ : ∃ q, q = (T.nd n).held := ⟨_, rfl⟩
      rw [← hq] at a7 hF hh hlv qb q1
      have HF := Lib.hid hF
      have HL := Lib.hid hlv
      clear hq h h0 e0 hT hF hlv
      go_enter Try.func30, Try.ntmps30
      go_wp2_with (refine hg.mono ?_; rintro e w' ⟨rfl, rfl⟩; clear hg)
      refine HL.out.mono ?_
      rintro e w2 ⟨rfl, hT2, hF2⟩
      have HT2 := Lib.hid hT2
      have HF2 := Lib.hid (HF.out.trans hF2)
      clear hT2 hF2
      go_wp2
      go_ret
      exact ⟨by rw [HR.out]; rfl, HT2.out, HF2.out⟩
/-- What a look that finds gives. -/
theorem look_found {i : Nat} {s : Bs} (h : (lookF T i s).2 = 0) : (T.nd i).kd = 2 ∧ lk s (T.nd i).L = some (lookF T i s).1 := by
  unfold lookF at h ⊢
  by_cases h0 : dirE T i = 0
  · rw [if_pos h0] at h ⊢
    refine ⟨?_, ?_⟩
    · unfold dirE at h0; split at h0
      · cases h0
      · split at h0
        · assumption
        · cases h0
    · cases hl : lk s (T.nd i).L with
      | none => rw [hl] at h; cases h
      | some n => rfl
  · rw [if_neg h0] at h; exact absurd h h0
/-- What names say is there, and has a name. -/
def Live (T : TrM) : Prop := ∀ d, ∀ e ∈ (T.nd d).L, (T.nd e.2).kd ≠ 0 ∧ 1 ≤ (T.nd e.2).links
theorem lenNil (w : World) (ty : TypeId) : (Builtin.len_ #[81] ty #[.map none]).run Try.prog w = .ok (.int .i64 0) w := Maps.len_nil Try.underlying81 ty

set_option maxRecDepth 100000 in
set_option maxHeartbeats 4000000 in
theorem drop_any (h : TabR w B tb T A nb mb) {i : Nat} (hi : i ≤ 65535) (s : ByteArray) (hs : s.size ≤ maxLen) (dir : Bool) (hL : Live T) (hch : T.ch < 1000000000) :
    Calls Try.prog 29 #[tP tb, .int .u16 i, .string s, .bool dir] w (OneP w B tb A nb mb (dropF T i s.data.toList dir)) := by
  have hlook := look_any h hi s hs
  by_cases hl : (lookF T i s.data.toList).2 = 0
  case neg =>
    have HR := Lib.hid (show dropF T i s.data.toList dir = ((lookF T i s.data.toList).2, T) from by unfold dropF; rw [if_pos hl])
    obtain ⟨q, hq⟩ : ∃ q, q = (lookF T i s.data.toList).2 := ⟨_, rfl⟩
    rw [← hq] at hlook HR hl
    have q2 : ((q : Int) != 0) = true := by simp; omega
    clear hq hl
    go_enter Try.func29, Try.ntmps29
    go_wp2_with (refine hlook.mono ?_; rintro e w1 ⟨rfl, rfl⟩; clear hlook)
    go_ret
    rw [HR.out]
    exact ⟨rfl, h, Fr.refl _ _ _ _⟩
  obtain ⟨hi2, hlk⟩ := look_found hl
  obtain ⟨n, hn⟩ : ∃ n, n = (lookF T i s.data.toList).1 := ⟨_, rfl⟩
  rw [← hn] at hlk
  rw [← hn, hl] at hlook
  obtain ⟨hk, hlinks⟩ := hL i _ (lk_mem hlk)
  have hR : dropF T i s.data.toList dir = if dropE (T.nd n) dir ≠ 0 then (dropE (T.nd n) dir, T) else (0, chg T (takeT T.nd i s.data.toList n)) := by
    unfold dropF; rw [if_neg (by rw [hl]; simp), ← hn]
  have hgn := get_yes h hk
  have hgi := get_yes h (n := i) (by rw [hi2]; decide)
  have HTK := Lib.hid (take_any h hi2 hk s hs hlk hlinks)
  have a1 := ndK h hk
  have H := Lib.hid h
  clear hn hl hL hlk hlinks
  by_cases k2 : (T.nd n).kd = 2
  · rw [k2] at a1
    have a3 := ndN h k2
    have hown := (h.node n hk).names k2
    have Hs := Lib.hid (nD_size (T.nd n).L)
    cases dir with
    | false =>
      have HR := Lib.hid (show dropF T i s.data.toList false = (21, T) from by rw [hR, show dropE (T.nd n) false = 21 from by unfold dropE; rw [if_neg (by simp), if_pos ⟨rfl, k2⟩]]; rfl)
      clear hR k2 hi2 hk
      go_enter Try.func29, Try.ntmps29
      go_wp2_with fail
      refine hlook.mono ?_
      rintro e w1 ⟨rfl, rfl⟩
      go_wp2_with fail
      refine hgn.mono ?_
      rintro e w1 ⟨rfl, rfl⟩
      go_wp2
      go_ret
      rw [HR.out]
      exact ⟨rfl, h, Fr.refl _ _ _ _⟩
    | true =>
      obtain ⟨k, hkl⟩ : ∃ k, k = (T.nd n).L.length := ⟨_, rfl⟩
      rw [← hkl] at Hs
      by_cases e0 : k = 0
      · have HR := Lib.hid (show dropF T i s.data.toList true = (0, chg T (takeT T.nd i s.data.toList n)) from by rw [hR, show dropE (T.nd n) true = 0 from by unfold dropE; rw [if_neg (fun q => q.2 k2), if_neg (by simp), if_neg (by rw [Classical.not_not]; exact List.eq_nil_of_length_eq_zero (by omega))]]; rfl)
        subst e0
        clear hR k2 hi2 hk hkl
        go_enter Try.func29, Try.ntmps29
        go_wp2_with fail
        refine hlook.mono ?_
        rintro e w1 ⟨rfl, rfl⟩
        go_wp2_with fail
        refine hgn.mono ?_
        rintro e w1 ⟨rfl, rfl⟩
        go_wp2_with (at_len; refine wpList_len_own _ rfl _ 81 rfl 9 29 Try.underlying81 _ _ _ _ rfl hown ?_; rw [Hs.out])
        refine hgi.mono ?_
        rintro e w1 ⟨rfl, rfl⟩
        go_wp2_with fail
        refine HTK.out.mono ?_
        rintro e w4 ⟨rfl, hT4, hF4⟩
        have t1 := hT4.c1
        have f1 := hT4.fzT 1
        have b1 := hT4.tab.lt
        have HT := Lib.hid (hT4.setCh (T.ch + 1) (by show T.ch + 1 ≤ 1000000000; omega))
        have HF := Lib.hid (hF4.trans (FrI.tabl hT4 1 (.int .i64 ((T.ch : Int) + 1))))
        obtain ⟨ch, hch2⟩ : ∃ ch, ch = T.ch := ⟨_, rfl⟩
        rw [show (({ T with nd := takeT T.nd i s.data.toList n } : TrM).ch) = ch from hch2.symm] at t1
        have hch3 : ch < 1000000000 := by omega
        have Hch := Lib.hid hch2
        clear hT4 hF4 HTK hch2
        go_wp2
        go_ret
        rw [HR.out]
        refine ⟨rfl, ?_, ?_⟩
        · have := HT.out
          rw [show ((T.ch + 1 : Nat) : Int) = (ch : Int) + 1 from by rw [Hch.out]; simp] at this
          exact this
        · have := HF.out
          rw [← Hch.out] at this
          exact this
      · have HR := Lib.hid (show dropF T i s.data.toList true = (39, T) from by rw [hR, show dropE (T.nd n) true = 39 from by unfold dropE; rw [if_neg (fun q => q.2 k2), if_neg (by simp), if_pos (by intro e; rw [e] at hkl; exact e0 hkl)]]; rfl)
        have k0 : (0 : Int) < k := by omega
        clear hR k2 hi2 hk hkl e0
        go_enter Try.func29, Try.ntmps29
        go_wp2_with fail
        refine hlook.mono ?_
        rintro e w1 ⟨rfl, rfl⟩
        go_wp2_with fail
        refine hgn.mono ?_
        rintro e w1 ⟨rfl, rfl⟩
        go_wp2_with (at_len; refine wpList_len_own _ rfl _ 81 rfl 9 29 Try.underlying81 _ _ _ _ rfl hown ?_; rw [Hs.out])
        go_ret
        rw [HR.out]
        exact ⟨rfl, h, Fr.refl _ _ _ _⟩
  · have a3 := ndN0 h hk k2
    have hleaf := (h.node n hk).leaf k2
    have hln := lenNil
    obtain ⟨kk, hkk⟩ : ∃ kk, kk = (T.nd n).kd := ⟨_, rfl⟩
    rw [← hkk] at a1
    have kb : ((kk : Int) == 2) = false := by simp; omega
    have kc : ((kk : Int) != 2) = true := by simp; omega
    cases dir with
    | true =>
      have HR := Lib.hid (show dropF T i s.data.toList true = (20, T) from by rw [hR, show dropE (T.nd n) true = 20 from by unfold dropE; rw [if_pos ⟨rfl, k2⟩]]; rfl)
      clear hR k2 hi2 hk hkk
      go_enter Try.func29, Try.ntmps29
      go_wp2_with fail
      refine hlook.mono ?_
      rintro e w1 ⟨rfl, rfl⟩
      go_wp2_with fail
      refine hgn.mono ?_
      rintro e w1 ⟨rfl, rfl⟩
      go_wp2
      go_ret
      rw [HR.out]
      exact ⟨rfl, h, Fr.refl _ _ _ _⟩
    | false =>
      have HR := Lib.hid (show dropF T i s.data.toList false = (0, chg T (takeT T.nd i s.data.toList n)) from by rw [hR, show dropE (T.nd n) false = 0 from by unfold dropE; rw [if_neg (by simp), if_neg (fun q => k2 q.2), if_neg (by rw [hleaf]; simp)]]; rfl)
      clear hR k2 hi2 hk hkk
      go_enter Try.func29, Try.ntmps29
      go_wp2_with fail
      refine hlook.mono ?_
      rintro e w1 ⟨rfl, rfl⟩
      go_wp2_with fail
      refine hgn.mono ?_
      rintro e w1 ⟨rfl, rfl⟩
      go_wp2_with fail
      refine hgi.mono ?_
      rintro e w1 ⟨rfl, rfl⟩
      go_wp2_with fail
      refine HTK.out.mono ?_
      rintro e w4 ⟨rfl, hT4, hF4⟩
      have t1 := hT4.c1
      have f1 := hT4.fzT 1
      have b1 := hT4.tab.lt
      have HT := Lib.hid (hT4.setCh (T.ch + 1) (by show T.ch + 1 ≤ 1000000000; omega))
      have HF := Lib.hid (hF4.trans (FrI.tabl hT4 1 (.int .i64 ((T.ch : Int) + 1))))
      obtain ⟨ch, hch2⟩ : ∃ ch, ch = T.ch := ⟨_, rfl⟩
      rw [show (({ T with nd := takeT T.nd i s.data.toList n } : TrM).ch) = ch from hch2.symm] at t1
      have hch3 : ch < 1000000000 := by omega
      have Hch := Lib.hid hch2
      clear hT4 hF4 HTK hch2
      go_wp2
      go_ret
      rw [HR.out]
      refine ⟨rfl, ?_, ?_⟩
      · have := HT.out
        rw [show ((T.ch + 1 : Nat) : Int) = (ch : Int) + 1 from by rw [Hch.out]; simp] at this
        exact this
      · have := HF.out
        rw [← Hch.out] at this
        exact this

end
end Go.Proofs.Ytdlglllidolggaa.In
