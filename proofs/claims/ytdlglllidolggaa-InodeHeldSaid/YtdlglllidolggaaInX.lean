/- Move. -/
import Derived.Test.YtdlglllidolggaaInW
namespace Go.Proofs.Ytdlglllidolggaa.In
open Go.RowKit Go.Maps Go.WideMaps
section
variable {w w' : World} {B tb A : Nat} {T D : TrM} {nb mb : Nat → Nat} {inn tt n : Nat} {s u : Bs}
def Szs (T : TrM) : Prop := ∀ k, (T.nd k).links ≤ 256 ∧ (T.nd k).L.length ≤ 32
/-- What stands ahead of the new name, and behind it. -/
structure Mid (D : TrM) (inn tt n : Nat) (s u : Bs) : Prop where
  hn : (D.nd n).kd ≠ 0
  hnl : (D.nd n).links < 1000
  ht : (D.nd tt).kd = 2
  hlk : lk u (D.nd tt).L = none
  hL : (D.nd tt).L.length < 1000
  hi : (giveT D.nd tt u n inn).kd = 2
  hs : lk s (giveT D.nd tt u n inn).L = some n
  hn2 : (giveT D.nd tt u n n).kd ≠ 0
  hl2 : 1 ≤ (giveT D.nd tt u n n).links
theorem mid_of (hn : (D.nd n).kd ≠ 0) (hnl : (D.nd n).links < 1000) (ht : (D.nd tt).kd = 2) (hlk : lk u (D.nd tt).L = none) (hL : (D.nd tt).L.length < 1000) (htn : tt ≠ n) (hi : (D.nd inn).kd = 2) (hs : lk s (D.nd inn).L = some n) (hsu : inn = tt → s ≠ u) : Mid D inn tt n s u := by
  have hgi : (giveT D.nd tt u n inn).kd = 2 ∧ lk s (giveT D.nd tt u n inn).L = some n := by
    unfold giveT
    simp only [upd]
    by_cases e1 : inn = n
    · subst e1
      rw [if_pos rfl, if_neg (Ne.symm htn)]
      exact ⟨hi, hs⟩
    · rw [if_neg e1]
      by_cases e2 : inn = tt
      · rw [if_pos e2]
        refine ⟨by rw [← e2]; exact hi, ?_⟩
        show lk s (insE (u, n) (D.nd tt).L) = some n
        rw [lk_ins_other (u, n) (hsu e2), ← e2]; exact hs
      · rw [if_neg e2]; exact ⟨hi, hs⟩
  have hgn : (giveT D.nd tt u n n).kd ≠ 0 ∧ 1 ≤ (giveT D.nd tt u n n).links := by
    unfold giveT
    simp only [upd, if_true, if_neg (Ne.symm htn)]
    exact ⟨hn, by omega⟩
  exact ⟨hn, hnl, ht, hlk, hL, hgi.1, hgi.2, hgn.1, hgn.2⟩
theorem take_nd {f : Nat → NdM} {i y k : Nat} {s : Bs} (h1 : k ≠ y) (h2 : k ≠ i) : takeT f i s y k = f k := by
  unfold takeT leaveT
  simp only []
  split
  · rw [upd_other _ _ h1, upd_other _ _ h1, upd_other _ _ h2]
  · rw [upd_other _ _ h1, upd_other _ _ h2]
theorem take_dir {f : Nat → NdM} {i y : Nat} {s : Bs} (h1 : i ≠ y) : takeT f i s y i = { f i with L := delE s (f i).L } := by
  unfold takeT leaveT
  simp only []
  split
  · rw [upd_other _ _ h1, upd_other _ _ h1, upd_same]
  · rw [upd_other _ _ h1, upd_same]
theorem drop_ok {i : Nat} {dir : Bool} {y : Nat} (h : (dropF T i u dir).1 = 0) (hy : (lookF T i u) = (y, 0)) : (dropF T i u dir).2 = chg T (takeT T.nd i u y) ∧ (T.nd y).L = [] := by
  unfold dropF at h ⊢
  rw [hy] at h ⊢
  rw [if_neg (by simp)] at h ⊢
  by_cases e : dropE (T.nd y) dir ≠ 0
  · rw [if_pos e] at h; exact absurd h e
  · rw [if_neg e]
    refine ⟨rfl, ?_⟩
    have e : dropE (T.nd y) dir = 0 := by omega
    unfold dropE at e
    split at e
    · cases e
    · split at e
      · cases e
      · split at e
        · cases e
        · rename_i h3; exact Classical.not_not.1 h3
theorem mid_drop {y : Nat} {dir : Bool} (hSz : Szs T) (hn : (T.nd n).kd ≠ 0) (ht : (T.nd tt).kd = 2) (hi : (T.nd inn).kd = 2) (hs : lk s (T.nd inn).L = some n) (hu : lk u (T.nd tt).L = some y) (hyn : y ≠ n) (htn : tt ≠ n) (hd : (dropF T tt u dir).1 = 0) : Mid (dropF T tt u dir).2 inn tt n s u := by
  have hdz : dirE T tt = 0 := by unfold dirE; rw [if_neg (by rw [ht]; decide), if_pos ht]
  have hlook : lookF T tt u = (y, 0) := by unfold lookF; rw [if_pos hdz, hu]; rfl
  obtain ⟨e, hyL⟩ := drop_ok hd hlook
  have hyt : tt ≠ y := fun e => by rw [← e] at hyL; rw [hyL] at hu; cases hu
  have hyi : inn ≠ y := fun e => by rw [← e] at hyL; rw [hyL] at hs; cases hs
  rw [e]
  have dt : (chg T (takeT T.nd tt u y)).nd tt = { T.nd tt with L := delE u (T.nd tt).L } := take_dir hyt
  have dn : (chg T (takeT T.nd tt u y)).nd n = T.nd n := take_nd (Ne.symm hyn) (Ne.symm htn)
  have hsu : inn = tt → s ≠ u := fun e1 e2 => by rw [e1, e2, hu] at hs; exact hyn (Option.some.inj hs)
  refine mid_of (by rw [dn]; exact hn) (by rw [dn]; have := (hSz n).1; omega) (by rw [dt]; exact ht) (by rw [dt]; exact lk_del_same _ _) (by rw [dt]; have := (hSz tt).2; have := delE_len u (T.nd tt).L; show (delE u (T.nd tt).L).length < 1000; omega) htn ?_ ?_ hsu
  · by_cases e1 : inn = tt
    · rw [e1, dt]; exact ht
    · rw [show (chg T (takeT T.nd tt u y)).nd inn = T.nd inn from take_nd hyi e1]; exact hi
  · by_cases e1 : inn = tt
    · rw [e1, dt]
      show lk s (delE u (T.nd tt).L) = some n
      rw [lk_del_other (hsu e1), ← e1]; exact hs
    · rw [show (chg T (takeT T.nd tt u y)).nd inn = T.nd inn from take_nd hyi e1]; exact hs
/-- The end: the new name is given, the elder one taken. -/
theorem move_give {sb ub : ByteArray} (h : TabR w B tb D A nb mb) (hsb : sb.size ≤ maxLen) (hub : ub.size ≤ maxLen) (m : Mid D inn tt n sb.data.toList ub.data.toList) :
    Hid (Calls Try.prog 41 #[tP (nb tt), .string ub, tP (nb n)] w (GiveP w B tb A nb mb { D with nd := giveT D.nd tt ub.data.toList n })) ∧
    Hid (∀ w1, TabR w1 B tb { D with nd := giveT D.nd tt ub.data.toList n } A nb mb → Calls Try.prog 25 #[tP tb, .int .u16 inn] w1 (fun e w' => e = .returned (tP (nb inn)) ∧ w1 = w') ∧
      Calls Try.prog 53 #[tP tb, tP (nb inn), .string sb] w1 (GiveP w1 B tb A nb mb { D with nd := takeT (giveT D.nd tt ub.data.toList n) inn sb.data.toList n })) :=
  ⟨give_any h m.ht m.hn ub hub m.hlk m.hL m.hnl, fun w1 h1 => ⟨get_yes h1 (by show (giveT D.nd tt ub.data.toList n inn).kd ≠ 0; rw [m.hi]; decide), take_any h1 m.hi m.hn2 sb hsb m.hs m.hl2⟩⟩
theorem move_fin {f : Nat → NdM} {w2 : World} (hT4 : TabR w2 B tb { D with nd := f } A nb mb) (hF4 : FrI B w w2) (hch : D.ch < 1000000000) :
    w2.cell? ⟨tb, 1, none⟩ = some (.int .i64 D.ch) ∧ w2.frozen? ⟨tb, 1, none⟩ = false ∧ tb < w2.heap.size ∧ Hid (TabR (w2.setCell ⟨tb, 1, none⟩ (.int .i64 ((D.ch : Int) + 1))) B tb (chg D f) A nb mb) ∧ Hid (FrI B w (w2.setCell ⟨tb, 1, none⟩ (.int .i64 ((D.ch : Int) + 1)))) := by
  refine ⟨hT4.c1, hT4.fzT 1, hT4.tab.lt, ?_, hF4.trans (FrI.tabl hT4 1 _)⟩
  have := hT4.setCh (D.ch + 1) (by show D.ch + 1 ≤ 1000000000; omega)
  rw [show ((D.ch + 1 : Nat) : Int) = (D.ch : Int) + 1 from by simp] at this
  exact this
set_option maxRecDepth 100000 in
set_option maxHeartbeats 8000000 in
theorem move_any (h : TabR w B tb T A nb mb) (hinn : inn ≤ 65535) (htt : tt ≤ 65535) (s u : ByteArray) (hs : s.size ≤ maxLen) (hu : u.size ≤ maxLen) (hL : Live T) (hSz : Szs T) (hch : T.ch < 999999999) (way : List Nat) (tall : Nat)
    (hw : (lookF T inn s.data.toList).2 = 0 → (T.nd (lookF T inn s.data.toList).1).kd = 2 → (T.nd tt).kd = 2 → (T.nd tt).links ≠ 0 → (∃ f, upO T f tt = some way ∧ f ≤ 1000) ∧ ∃ f, f ≤ 100 ∧ Low T f (lookF T inn s.data.toList).1 ∧ tall = tallF T f (lookF T inn s.data.toList).1) :
    Calls Try.prog 20 #[tP tb, .int .u16 inn, .string s, .int .u16 tt, .string u] w (OneP w B tb A nb mb (moveF T way tall inn s.data.toList tt u.data.toList)) := by
  have hlook := look_any h hinn s hs
  by_cases hl : (lookF T inn s.data.toList).2 = 0
  case neg =>
    have HR := Lib.hid (show moveF T way tall inn s.data.toList tt u.data.toList = ((lookF T inn s.data.toList).2, T) from by unfold moveF; rw [if_pos hl])
    obtain ⟨q, hq⟩ : ∃ q, q = (lookF T inn s.data.toList).2 := ⟨_, rfl⟩
    rw [← hq] at hlook HR hl
    have q2 : ((q : Int) != 0) = true := by simp; omega
    clear hq hl hw
    go_enter Try.func20, Try.ntmps20
    go_wp2_with (refine hlook.mono ?_; rintro e w1 ⟨rfl, rfl⟩; clear hlook)
    go_ret
    rw [HR.out]
    exact ⟨rfl, h, Fr.refl _ _ _ _⟩
  obtain ⟨hi2, hlk⟩ := look_found hl
  have hw := hw hl
  obtain ⟨n, hn⟩ : ∃ n, n = (lookF T inn s.data.toList).1 := ⟨_, rfl⟩
  rw [← hn] at hlk hw
  rw [← hn, hl] at hlook
  obtain ⟨hk, _⟩ := hL inn _ (lk_mem hlk)
  have hdir := dir_any h htt
  by_cases hd : dirE T tt = 0
  case neg =>
    have HR := Lib.hid (show moveF T way tall inn s.data.toList tt u.data.toList = (dirE T tt, T) from by unfold moveF; rw [if_neg (by rw [hl]; simp), if_pos hd])
    obtain ⟨q, hq⟩ : ∃ q, q = dirE T tt := ⟨_, rfl⟩
    obtain ⟨dv, hdv⟩ : ∃ dv, dv = (if (T.nd tt).kd = 2 then tP (nb tt) else .pointer none : Value) := ⟨_, rfl⟩
    rw [← hq, ← hdv] at hdir
    rw [← hq] at HR hd
    have q2 : ((q : Int) != 0) = true := by simp; omega
    clear hq hl hw hd hdv hn
    go_enter Try.func20, Try.ntmps20
    go_wp2_with fail
    refine hlook.mono ?_
    rintro e w1 ⟨rfl, rfl⟩
    clear hlook
    go_wp2_with fail
    refine hdir.mono ?_
    rintro e w1 ⟨rfl, rfl⟩
    clear hdir
    go_wp2
    go_ret
    rw [HR.out]
    exact ⟨rfl, h, Fr.refl _ _ _ _⟩
  have ht2 : (T.nd tt).kd = 2 := by
    unfold dirE at hd; split at hd
    · cases hd
    · split at hd
      · assumption
      · cases hd
  rw [hd, if_pos ht2] at hdir
  have ht0 : (T.nd tt).kd ≠ 0 := by rw [ht2]; decide
  have hgn := get_yes h hk
  have hown := (h.node tt ht0).names ht2
  have hcm := ndN h ht2
  have hn1 : 1 ≤ n := (h.rowYes hk).2.1
  have hnn : n ≤ 65535 := by have := (h.rowYes hk).1; have := h.lim; omega
  have HW := Lib.hid (fun h2 => hw h2 ht2)
  have Hmv := Lib.hid (moving_any h hk ht2 u hu hL way tall (fun h2 => hw h2 ht2))
  have hR0 : moveF T way tall inn s.data.toList tt u.data.toList = (if lk u.data.toList (T.nd tt).L = some n then (0, T) else if tt ≠ inn ∧ lk u.data.toList (T.nd tt).L = none ∧ 32 ≤ (T.nd tt).L.length then (28, T)
      else if movingE T way tall n tt u.data.toList ≠ 0 then (movingE T way tall n tt u.data.toList, T)
      else if (lk u.data.toList (T.nd tt).L).isSome = true ∧ (dropF T tt u.data.toList (decide ((T.nd n).kd = 2))).1 ≠ 0 then ((dropF T tt u.data.toList (decide ((T.nd n).kd = 2))).1, T)
      else (0, chg (if (lk u.data.toList (T.nd tt).L).isSome = true then (dropF T tt u.data.toList (decide ((T.nd n).kd = 2))).2 else T) (takeT (giveT (if (lk u.data.toList (T.nd tt).L).isSome = true then (dropF T tt u.data.toList (decide ((T.nd n).kd = 2))).2 else T).nd tt u.data.toList n) inn s.data.toList n))) := by
    unfold moveF; rw [if_neg (by rw [hl]; simp), if_neg (by rw [hd]; simp), ← hn]
  have htn : movingE T way tall n tt u.data.toList = 0 → tt ≠ n := fun hm e => by
    have h2 : (T.nd n).kd = 2 := by rw [← e]; exact ht2
    unfold movingE at hm
    split at hm
    · cases hm
    · split at hm
      · cases hm
      · rename_i hlinks
        split at hm
        · rename_i h3; exact h3 h2
        · split at hm
          · cases hm
          · rename_i hni
            obtain ⟨⟨f, hf, _⟩, _⟩ := hw h2 ht2 hlinks
            refine hni ?_
            rw [← e]
            cases f with
            | zero => cases hf
            | succ f =>
              unfold upO at hf
              rw [if_neg (by rw [ht2]; simp)] at hf
              split at hf
              · cases hf; simp
              · obtain ⟨r, _, rfl⟩ := Option.map_eq_some_iff.1 hf; simp
  have HTN := Lib.hid htn
  have H := Lib.hid h
  have Hhas := Lib.hid (nD_has (T.nd tt).L u.data.toList)
  have HI2 := Lib.hid hi2
  have HLK := Lib.hid hlk
  have HK := Lib.hid hk
  have HT2 := Lib.hid ht2
  have a1 := ndK h hk
  obtain ⟨kk, hkk⟩ : ∃ kk, kk = (T.nd n).kd := ⟨_, rfl⟩
  rw [← hkk] at a1
  have HKK := Lib.hid hkk
  have hfu := fun (w1 : World) (h1 : TabR w1 B tb T A nb mb) => full_any h1 ht2
  clear hl hw hd hn htn hi2 hlk hkk h ht0
  obtain ⟨q, hq⟩ : ∃ q, q = lk u.data.toList (T.nd tt).L := ⟨_, rfl⟩
  rw [← hq] at Hhas hR0
  have HQ := Lib.hid hq
  clear hq

  rcases q with _ | y
  · have n0 : ((0 : Int) == n) = false := by simp; omega
    rw [if_neg (by simp)] at hR0
    by_cases htf : tt = inn
    · have tb1 : ((tt : Int) != inn) = false := by simp [htf]
      have HTF := Lib.hid htf
      clear htf
      by_cases hm : movingE T way tall n tt u.data.toList = 0
      · have HR := Lib.hid (show moveF T way tall inn s.data.toList tt u.data.toList = (0, chg T (takeT (giveT T.nd tt u.data.toList n) inn s.data.toList n)) from by rw [hR0, if_neg (fun c => c.1 HTF.out), if_neg (by rw [hm]; simp), if_neg (by simp)]; rfl)
        have hmv := Hmv.out
        rw [hm] at hmv
        have Hmv := Lib.hid hmv
        have HM := Lib.hid hm
        clear hm hmv hR0
        go_enter Try.func20, Try.ntmps20
        go_wp2_with fail
        refine hlook.mono ?_
        rintro e w1 ⟨rfl, rfl⟩
        clear hlook
        go_wp2_with (first | (refine hdir.mono ?_; rintro e w1 ⟨rfl, rfl⟩; clear hdir) | (at_lookup; refine wpList_lookup_own_ok_int _ rfl _ _ 81 rfl 9 29 .u16 strKeyed Try.underlying81 Try.underlying29 (zeroNum _) _ _ _ rfl hown _ _ rfl (keyStr hu) ?_; intro c hat hwc; rw [Hhas.out]; have hat2 := at_num hat; rw [← HQ.out] at hat2; have HC : c = 0 := hat2; subst HC; clear hat hat2 hwc hown))
        refine hgn.mono ?_
        rintro e w1 ⟨rfl, rfl⟩
        clear hgn
        go_wp2_with fail
        refine Hmv.out.mono ?_
        rintro e w2 ⟨rfl, hb2⟩
        have Hb2 := Lib.hid hb2
        clear hb2
        obtain ⟨HGV, HTK⟩ := move_give (H.out.below Hb2.out) hs hu (mid_of HK.out (by have := (hSz n).1; omega) HT2.out HQ.out.symm (by have := (hSz tt).2; omega) (HTN.out HM.out) HI2.out HLK.out (fun e1 e2 => by have := HLK.out; rw [e1, e2, ← HQ.out] at this; cases this))
        go_wp2_with fail
        refine HGV.out.mono ?_
        rintro e w5 ⟨rfl, hT5, hF5⟩
        have HT5 := Lib.hid hT5
        have HF5 := Lib.hid ((Fr.ofBelow Hb2.out).trans hF5)
        clear hT5 hF5 HGV
        go_wp2_with fail
        refine (HTK.out w5 HT5.out).1.mono ?_
        rintro e w6 ⟨rfl, rfl⟩
        go_wp2_with fail
        refine (HTK.out w5 HT5.out).2.mono ?_
        rintro e w6 ⟨rfl, hT6, hF6⟩
        obtain ⟨t1, f1, b1, HTe, HFe⟩ := move_fin hT6 (HF5.out.trans hF6) (show T.ch < 1000000000 by omega)
        obtain ⟨ch, hch2⟩ : ∃ ch, ch = T.ch := ⟨_, rfl⟩
        rw [← hch2] at t1 HTe HFe
        have hch3 : ch < 1000000000 := by rw [hch2]; exact (show T.ch < 1000000000 by omega)
        clear hT6 hF6 HTK HT5 HF5 hch2
        go_wp2
        go_ret
        rw [HR.out]
        exact ⟨rfl, HTe.out, HFe.out⟩
      · have HR := Lib.hid (show moveF T way tall inn s.data.toList tt u.data.toList = (movingE T way tall n tt u.data.toList, T) from by rw [hR0, if_neg (fun c => c.1 HTF.out), if_pos hm])
        have hmv := Hmv.out
        obtain ⟨mq, hmq⟩ : ∃ mq, mq = movingE T way tall n tt u.data.toList := ⟨_, rfl⟩
        rw [← hmq] at hmv HR hm
        have Hmv := Lib.hid hmv
        have mqb : ((mq : Int) != 0) = true := by simp; omega
        clear hm hmv hR0 hmq
        go_enter Try.func20, Try.ntmps20
        go_wp2_with fail
        refine hlook.mono ?_
        rintro e w1 ⟨rfl, rfl⟩
        clear hlook
        go_wp2_with (first | (refine hdir.mono ?_; rintro e w1 ⟨rfl, rfl⟩; clear hdir) | (at_lookup; refine wpList_lookup_own_ok_int _ rfl _ _ 81 rfl 9 29 .u16 strKeyed Try.underlying81 Try.underlying29 (zeroNum _) _ _ _ rfl hown _ _ rfl (keyStr hu) ?_; intro c hat hwc; rw [Hhas.out]; have hat2 := at_num hat; rw [← HQ.out] at hat2; have HC : c = 0 := hat2; subst HC; clear hat hat2 hwc hown))
        refine hgn.mono ?_
        rintro e w1 ⟨rfl, rfl⟩
        clear hgn
        go_wp2_with fail
        refine Hmv.out.mono ?_
        rintro e w2 ⟨rfl, hb2⟩
        have Hb2 := Lib.hid hb2
        clear hb2
        go_wp2
        go_ret
        rw [HR.out]
        exact ⟨rfl, H.out.below Hb2.out, Fr.ofBelow Hb2.out⟩
    · have tb1 : ((tt : Int) != inn) = true := by simp; omega
      have HTF := Lib.hid htf
      clear htf
      by_cases hfl : 32 ≤ (T.nd tt).L.length
      · have HR := Lib.hid (show moveF T way tall inn s.data.toList tt u.data.toList = (28, T) from by rw [hR0, if_pos ⟨HTF.out, rfl, hfl⟩])
        rw [decide_eq_true hfl] at hfu
        have Hfu := Lib.hid hfu
        clear hfl hfu hR0
        go_enter Try.func20, Try.ntmps20
        go_wp2_with fail
        refine hlook.mono ?_
        rintro e w1 ⟨rfl, rfl⟩
        clear hlook
        go_wp2_with (first | (refine hdir.mono ?_; rintro e w1 ⟨rfl, rfl⟩; clear hdir) | (at_lookup; refine wpList_lookup_own_ok_int _ rfl _ _ 81 rfl 9 29 .u16 strKeyed Try.underlying81 Try.underlying29 (zeroNum _) _ _ _ rfl hown _ _ rfl (keyStr hu) ?_; intro c hat hwc; rw [Hhas.out]; have hat2 := at_num hat; rw [← HQ.out] at hat2; have HC : c = 0 := hat2; subst HC; clear hat hat2 hwc hown))
        refine (Hfu.out _ H.out).mono ?_
        rintro e w1 ⟨rfl, rfl⟩
        go_wp2
        go_ret
        rw [HR.out]
        exact ⟨rfl, H.out, Fr.refl _ _ _ _⟩
      · rw [decide_eq_false hfl] at hfu
        have Hfu := Lib.hid hfu
        have HFL := Lib.hid hfl
        clear hfl hfu
        by_cases hm : movingE T way tall n tt u.data.toList = 0
        · have HR := Lib.hid (show moveF T way tall inn s.data.toList tt u.data.toList = (0, chg T (takeT (giveT T.nd tt u.data.toList n) inn s.data.toList n)) from by rw [hR0, if_neg (fun c => HFL.out c.2.2), if_neg (by rw [hm]; simp), if_neg (by simp)]; rfl)
          have hmv := Hmv.out
          rw [hm] at hmv
          have Hmv := Lib.hid hmv
          have HM := Lib.hid hm
          clear hm hmv hR0
          go_enter Try.func20, Try.ntmps20
          go_wp2_with fail
          refine hlook.mono ?_
          rintro e w1 ⟨rfl, rfl⟩
          clear hlook
          go_wp2_with (first | (refine hdir.mono ?_; rintro e w1 ⟨rfl, rfl⟩; clear hdir) | (at_lookup; refine wpList_lookup_own_ok_int _ rfl _ _ 81 rfl 9 29 .u16 strKeyed Try.underlying81 Try.underlying29 (zeroNum _) _ _ _ rfl hown _ _ rfl (keyStr hu) ?_; intro c hat hwc; rw [Hhas.out]; have hat2 := at_num hat; rw [← HQ.out] at hat2; have HC : c = 0 := hat2; subst HC; clear hat hat2 hwc hown))
          refine (Hfu.out _ H.out).mono ?_
          rintro e w1 ⟨rfl, rfl⟩
          go_wp2_with fail
          refine hgn.mono ?_
          rintro e w1 ⟨rfl, rfl⟩
          clear hgn
          go_wp2_with fail
          refine Hmv.out.mono ?_
          rintro e w2 ⟨rfl, hb2⟩
          have Hb2 := Lib.hid hb2
          clear hb2
          obtain ⟨HGV, HTK⟩ := move_give (H.out.below Hb2.out) hs hu (mid_of HK.out (by have := (hSz n).1; omega) HT2.out HQ.out.symm (by have := (hSz tt).2; omega) (HTN.out HM.out) HI2.out HLK.out (fun e1 e2 => by have := HLK.out; rw [e1, e2, ← HQ.out] at this; cases this))
          go_wp2_with fail
          refine HGV.out.mono ?_
          rintro e w5 ⟨rfl, hT5, hF5⟩
          have HT5 := Lib.hid hT5
          have HF5 := Lib.hid ((Fr.ofBelow Hb2.out).trans hF5)
          clear hT5 hF5 HGV
          go_wp2_with fail
          refine (HTK.out w5 HT5.out).1.mono ?_
          rintro e w6 ⟨rfl, rfl⟩
          go_wp2_with fail
          refine (HTK.out w5 HT5.out).2.mono ?_
          rintro e w6 ⟨rfl, hT6, hF6⟩
          obtain ⟨t1, f1, b1, HTe, HFe⟩ := move_fin hT6 (HF5.out.trans hF6) (show T.ch < 1000000000 by omega)
          obtain ⟨ch, hch2⟩ : ∃ ch, ch = T.ch := ⟨_, rfl⟩
          rw [← hch2] at t1 HTe HFe
          have hch3 : ch < 1000000000 := by rw [hch2]; exact (show T.ch < 1000000000 by omega)
          clear hT6 hF6 HTK HT5 HF5 hch2
          go_wp2
          go_ret
          rw [HR.out]
          exact ⟨rfl, HTe.out, HFe.out⟩
        · have HR := Lib.hid (show moveF T way tall inn s.data.toList tt u.data.toList = (movingE T way tall n tt u.data.toList, T) from by rw [hR0, if_neg (fun c => HFL.out c.2.2), if_pos hm])
          have hmv := Hmv.out
          obtain ⟨mq, hmq⟩ : ∃ mq, mq = movingE T way tall n tt u.data.toList := ⟨_, rfl⟩
          rw [← hmq] at hmv HR hm
          have Hmv := Lib.hid hmv
          have mqb : ((mq : Int) != 0) = true := by simp; omega
          clear hm hmv hR0 hmq
          go_enter Try.func20, Try.ntmps20
          go_wp2_with fail
          refine hlook.mono ?_
          rintro e w1 ⟨rfl, rfl⟩
          clear hlook
          go_wp2_with (first | (refine hdir.mono ?_; rintro e w1 ⟨rfl, rfl⟩; clear hdir) | (at_lookup; refine wpList_lookup_own_ok_int _ rfl _ _ 81 rfl 9 29 .u16 strKeyed Try.underlying81 Try.underlying29 (zeroNum _) _ _ _ rfl hown _ _ rfl (keyStr hu) ?_; intro c hat hwc; rw [Hhas.out]; have hat2 := at_num hat; rw [← HQ.out] at hat2; have HC : c = 0 := hat2; subst HC; clear hat hat2 hwc hown))
          refine (Hfu.out _ H.out).mono ?_
          rintro e w1 ⟨rfl, rfl⟩
          go_wp2_with fail
          refine hgn.mono ?_
          rintro e w1 ⟨rfl, rfl⟩
          clear hgn
          go_wp2_with fail
          refine Hmv.out.mono ?_
          rintro e w2 ⟨rfl, hb2⟩
          have Hb2 := Lib.hid hb2
          clear hb2
          go_wp2
          go_ret
          rw [HR.out]
          exact ⟨rfl, H.out.below Hb2.out, Fr.ofBelow Hb2.out⟩
  · by_cases hyn : y = n
    · have HR := Lib.hid (show moveF T way tall inn s.data.toList tt u.data.toList = (0, T) from by rw [hR0, if_pos (by rw [hyn])])
      subst hyn
      clear hR0
      go_enter Try.func20, Try.ntmps20
      go_wp2_with fail
      refine hlook.mono ?_
      rintro e w1 ⟨rfl, rfl⟩
      clear hlook
      go_wp2_with (first | (refine hdir.mono ?_; rintro e w1 ⟨rfl, rfl⟩; clear hdir) | (at_lookup; refine wpList_lookup_own_ok_int _ rfl _ _ 81 rfl 9 29 .u16 strKeyed Try.underlying81 Try.underlying29 (zeroNum _) _ _ _ rfl hown _ _ rfl (keyStr hu) ?_; intro c hat hwc; rw [Hhas.out]; have hat2 := at_num hat; rw [← HQ.out] at hat2; have HC : c = (y : Int) := hat2; subst HC; clear hat hat2 hwc hown))
      go_ret
      rw [HR.out]
      exact ⟨rfl, H.out, Fr.refl _ _ _ _⟩
    · have yb : ((y : Int) == n) = false := by simp; omega
      rw [if_neg (fun e => hyn (Option.some.inj e)), if_neg (by simp)] at hR0
      have HYN := Lib.hid hyn
      clear hyn
      obtain ⟨bt, hbt⟩ : ∃ bt, ((tt : Int) != inn) = bt := ⟨_, rfl⟩
      by_cases hm : movingE T way tall n tt u.data.toList = 0
      case neg =>
        have HR := Lib.hid (show moveF T way tall inn s.data.toList tt u.data.toList = (movingE T way tall n tt u.data.toList, T) from by rw [hR0, if_pos hm])
        have hmv := Hmv.out
        obtain ⟨mq, hmq⟩ : ∃ mq, mq = movingE T way tall n tt u.data.toList := ⟨_, rfl⟩
        rw [← hmq] at hmv HR hm
        have Hmv := Lib.hid hmv
        have mqb : ((mq : Int) != 0) = true := by simp; omega
        clear hm hmv hR0 hmq
        cases bt
        case false =>
          go_enter Try.func20, Try.ntmps20
          go_wp2_with fail
          refine hlook.mono ?_
          rintro e w1 ⟨rfl, rfl⟩
          clear hlook
          go_wp2_with (first | (refine hdir.mono ?_; rintro e w1 ⟨rfl, rfl⟩; clear hdir) | (at_lookup; refine wpList_lookup_own_ok_int _ rfl _ _ 81 rfl 9 29 .u16 strKeyed Try.underlying81 Try.underlying29 (zeroNum _) _ _ _ rfl hown _ _ rfl (keyStr hu) ?_; intro c hat hwc; rw [Hhas.out]; have hat2 := at_num hat; rw [← HQ.out] at hat2; have HC : c = (y : Int) := hat2; subst HC; clear hat hat2 hwc hown))
          refine hgn.mono ?_
          rintro e w1 ⟨rfl, rfl⟩
          clear hgn
          go_wp2_with fail
          refine Hmv.out.mono ?_
          rintro e w2 ⟨rfl, hb2⟩
          have Hb2 := Lib.hid hb2
          clear hb2
          go_wp2
          go_ret
          rw [HR.out]
          exact ⟨rfl, H.out.below Hb2.out, Fr.ofBelow Hb2.out⟩
        case true =>
          go_enter Try.func20, Try.ntmps20
          go_wp2_with fail
          refine hlook.mono ?_
          rintro e w1 ⟨rfl, rfl⟩
          clear hlook
          go_wp2_with (first | (refine hdir.mono ?_; rintro e w1 ⟨rfl, rfl⟩; clear hdir) | (at_lookup; refine wpList_lookup_own_ok_int _ rfl _ _ 81 rfl 9 29 .u16 strKeyed Try.underlying81 Try.underlying29 (zeroNum _) _ _ _ rfl hown _ _ rfl (keyStr hu) ?_; intro c hat hwc; rw [Hhas.out]; have hat2 := at_num hat; rw [← HQ.out] at hat2; have HC : c = (y : Int) := hat2; subst HC; clear hat hat2 hwc hown))
          refine hgn.mono ?_
          rintro e w1 ⟨rfl, rfl⟩
          clear hgn
          go_wp2_with fail
          refine Hmv.out.mono ?_
          rintro e w2 ⟨rfl, hb2⟩
          have Hb2 := Lib.hid hb2
          clear hb2
          go_wp2
          go_ret
          rw [HR.out]
          exact ⟨rfl, H.out.below Hb2.out, Fr.ofBelow Hb2.out⟩
      have hmv := Hmv.out
      rw [hm] at hmv
      rw [if_neg (by rw [hm]; simp)] at hR0
      have Hmv := Lib.hid hmv
      have HM := Lib.hid hm
      clear hm hmv
      have hdr := fun (w1 : World) (hb : Below w.heap.size w w1) => drop_any (H.out.below hb) htt u hu (decide ((T.nd n).kd = 2)) hL (by omega)
      obtain ⟨dd, hdd⟩ : ∃ dd, dd = decide ((T.nd n).kd = 2) := ⟨_, rfl⟩
      rw [← hdd] at hdr hR0
      have HDD := Lib.hid hdd
      have kb : ((kk : Int) == 2) = dd := by rw [hdd, HKK.out]; by_cases e : (T.nd n).kd = 2 <;> simp [e]; omega
      clear hdd
      by_cases hdz : (dropF T tt u.data.toList dd).1 = 0
      · have HR := Lib.hid (show moveF T way tall inn s.data.toList tt u.data.toList = (0, chg (dropF T tt u.data.toList dd).2 (takeT (giveT (dropF T tt u.data.toList dd).2.nd tt u.data.toList n) inn s.data.toList n)) from by rw [hR0, if_neg (fun c => c.2 hdz)]; rfl)
        have HMID := Lib.hid (mid_drop hSz HK.out HT2.out HI2.out HLK.out HQ.out.symm HYN.out (HTN.out HM.out) hdz)
        have hDch : (dropF T tt u.data.toList dd).2.ch ≤ T.ch + 1 := by
          unfold dropF; split
          · exact Nat.le_succ _
          · split
            · exact Nat.le_succ _
            · exact Nat.le_refl _
        obtain ⟨D, hD⟩ : ∃ D, D = dropF T tt u.data.toList dd := ⟨_, rfl⟩
        rw [← hD] at HR HMID hDch hdz hdr
        obtain ⟨d1, D2⟩ := D
        have hdz : d1 = 0 := hdz
        subst hdz
        have HDR := Lib.hid hdr
        clear hdr hD hR0
        cases bt
        case false =>
          go_enter Try.func20, Try.ntmps20
          go_wp2_with fail
          refine hlook.mono ?_
          rintro e w1 ⟨rfl, rfl⟩
          clear hlook
          go_wp2_with (first | (refine hdir.mono ?_; rintro e w1 ⟨rfl, rfl⟩; clear hdir) | (at_lookup; refine wpList_lookup_own_ok_int _ rfl _ _ 81 rfl 9 29 .u16 strKeyed Try.underlying81 Try.underlying29 (zeroNum _) _ _ _ rfl hown _ _ rfl (keyStr hu) ?_; intro c hat hwc; rw [Hhas.out]; have hat2 := at_num hat; rw [← HQ.out] at hat2; have HC : c = (y : Int) := hat2; subst HC; clear hat hat2 hwc hown))
          refine hgn.mono ?_
          rintro e w1 ⟨rfl, rfl⟩
          clear hgn
          go_wp2_with fail
          refine Hmv.out.mono ?_
          rintro e w2 ⟨rfl, hb2⟩
          have Hb2 := Lib.hid hb2
          clear hb2
          have a1 := ndK (H.out.below Hb2.out) HK.out
          rw [← HKK.out] at a1
          go_wp2_with fail
          refine (HDR.out w2 Hb2.out).mono ?_
          rintro e w3 ⟨rfl, hT3, hF3⟩
          have HT3 := Lib.hid hT3
          have HF3 := Lib.hid ((Fr.ofBelow Hb2.out).trans hF3)
          clear hT3 hF3
          obtain ⟨HGV, HTK⟩ := move_give HT3.out hs hu HMID.out
          go_wp2_with fail
          refine HGV.out.mono ?_
          rintro e w5 ⟨rfl, hT5, hF5⟩
          have HT5 := Lib.hid hT5
          have HF5 := Lib.hid (HF3.out.trans hF5)
          clear hT5 hF5 HGV
          go_wp2_with fail
          refine (HTK.out w5 HT5.out).1.mono ?_
          rintro e w6 ⟨rfl, rfl⟩
          go_wp2_with fail
          refine (HTK.out w5 HT5.out).2.mono ?_
          rintro e w6 ⟨rfl, hT6, hF6⟩
          obtain ⟨t1, f1, b1, HTe, HFe⟩ := move_fin hT6 (HF5.out.trans hF6) (show D2.ch < 1000000000 from by have : D2.ch ≤ T.ch + 1 := hDch; omega)
          obtain ⟨ch, hch2⟩ : ∃ ch, ch = D2.ch := ⟨_, rfl⟩
          rw [← hch2] at t1 HTe HFe
          have hch3 : ch < 1000000000 := by rw [hch2]; exact (show D2.ch < 1000000000 from by have : D2.ch ≤ T.ch + 1 := hDch; omega)
          clear hT6 hF6 HTK HT5 HF5 hch2
          go_wp2
          go_ret
          rw [HR.out]
          exact ⟨rfl, HTe.out, HFe.out⟩
        case true =>
          go_enter Try.func20, Try.ntmps20
          go_wp2_with fail
          refine hlook.mono ?_
          rintro e w1 ⟨rfl, rfl⟩
          clear hlook
          go_wp2_with (first | (refine hdir.mono ?_; rintro e w1 ⟨rfl, rfl⟩; clear hdir) | (at_lookup; refine wpList_lookup_own_ok_int _ rfl _ _ 81 rfl 9 29 .u16 strKeyed Try.underlying81 Try.underlying29 (zeroNum _) _ _ _ rfl hown _ _ rfl (keyStr hu) ?_; intro c hat hwc; rw [Hhas.out]; have hat2 := at_num hat; rw [← HQ.out] at hat2; have HC : c = (y : Int) := hat2; subst HC; clear hat hat2 hwc hown))
          refine hgn.mono ?_
          rintro e w1 ⟨rfl, rfl⟩
          clear hgn
          go_wp2_with fail
          refine Hmv.out.mono ?_
          rintro e w2 ⟨rfl, hb2⟩
          have Hb2 := Lib.hid hb2
          clear hb2
          have a1 := ndK (H.out.below Hb2.out) HK.out
          rw [← HKK.out] at a1
          go_wp2_with fail
          refine (HDR.out w2 Hb2.out).mono ?_
          rintro e w3 ⟨rfl, hT3, hF3⟩
          have HT3 := Lib.hid hT3
          have HF3 := Lib.hid ((Fr.ofBelow Hb2.out).trans hF3)
          clear hT3 hF3
          obtain ⟨HGV, HTK⟩ := move_give HT3.out hs hu HMID.out
          go_wp2_with fail
          refine HGV.out.mono ?_
          rintro e w5 ⟨rfl, hT5, hF5⟩
          have HT5 := Lib.hid hT5
          have HF5 := Lib.hid (HF3.out.trans hF5)
          clear hT5 hF5 HGV
          go_wp2_with fail
          refine (HTK.out w5 HT5.out).1.mono ?_
          rintro e w6 ⟨rfl, rfl⟩
          go_wp2_with fail
          refine (HTK.out w5 HT5.out).2.mono ?_
          rintro e w6 ⟨rfl, hT6, hF6⟩
          obtain ⟨t1, f1, b1, HTe, HFe⟩ := move_fin hT6 (HF5.out.trans hF6) (show D2.ch < 1000000000 from by have : D2.ch ≤ T.ch + 1 := hDch; omega)
          obtain ⟨ch, hch2⟩ : ∃ ch, ch = D2.ch := ⟨_, rfl⟩
          rw [← hch2] at t1 HTe HFe
          have hch3 : ch < 1000000000 := by rw [hch2]; exact (show D2.ch < 1000000000 from by have : D2.ch ≤ T.ch + 1 := hDch; omega)
          clear hT6 hF6 HTK HT5 HF5 hch2
          go_wp2
          go_ret
          rw [HR.out]
          exact ⟨rfl, HTe.out, HFe.out⟩
      · have HR := Lib.hid (show moveF T way tall inn s.data.toList tt u.data.toList = ((dropF T tt u.data.toList dd).1, T) from by rw [hR0, if_pos ⟨rfl, hdz⟩])
        have hD2 : (dropF T tt u.data.toList dd).2 = T := by
          unfold dropF at hdz ⊢
          split
          · rfl
          · split
            · rfl
            · rename_i h1 h2; rw [if_neg h1, if_neg h2] at hdz; exact absurd rfl hdz
        obtain ⟨D, hD⟩ : ∃ D, D = dropF T tt u.data.toList dd := ⟨_, rfl⟩
        rw [← hD] at HR hdz hdr hD2
        obtain ⟨d1, D2⟩ := D
        have HD2 : Hid (D2 = T) := hD2
        have hdz : d1 ≠ 0 := hdz
        have db : ((d1 : Int) != 0) = true := by simp; omega
        have HDR := Lib.hid hdr
        clear hdr hD hR0 hdz hD2
        cases bt
        case false =>
          go_enter Try.func20, Try.ntmps20
          go_wp2_with fail
          refine hlook.mono ?_
          rintro e w1 ⟨rfl, rfl⟩
          clear hlook
          go_wp2_with (first | (refine hdir.mono ?_; rintro e w1 ⟨rfl, rfl⟩; clear hdir) | (at_lookup; refine wpList_lookup_own_ok_int _ rfl _ _ 81 rfl 9 29 .u16 strKeyed Try.underlying81 Try.underlying29 (zeroNum _) _ _ _ rfl hown _ _ rfl (keyStr hu) ?_; intro c hat hwc; rw [Hhas.out]; have hat2 := at_num hat; rw [← HQ.out] at hat2; have HC : c = (y : Int) := hat2; subst HC; clear hat hat2 hwc hown))
          refine hgn.mono ?_
          rintro e w1 ⟨rfl, rfl⟩
          clear hgn
          go_wp2_with fail
          refine Hmv.out.mono ?_
          rintro e w2 ⟨rfl, hb2⟩
          have Hb2 := Lib.hid hb2
          clear hb2
          have a1 := ndK (H.out.below Hb2.out) HK.out
          rw [← HKK.out] at a1
          go_wp2_with fail
          refine (HDR.out w2 Hb2.out).mono ?_
          rintro e w3 ⟨rfl, hT3, hF3⟩
          have HT3 := Lib.hid hT3
          have HF3 := Lib.hid ((Fr.ofBelow Hb2.out).trans hF3)
          clear hT3 hF3
          go_wp2
          go_ret
          rw [HR.out]
          exact ⟨rfl, HT3.out.eqT HD2.out, HF3.out⟩
        case true =>
          go_enter Try.func20, Try.ntmps20
          go_wp2_with fail
          refine hlook.mono ?_
          rintro e w1 ⟨rfl, rfl⟩
          clear hlook
          go_wp2_with (first | (refine hdir.mono ?_; rintro e w1 ⟨rfl, rfl⟩; clear hdir) | (at_lookup; refine wpList_lookup_own_ok_int _ rfl _ _ 81 rfl 9 29 .u16 strKeyed Try.underlying81 Try.underlying29 (zeroNum _) _ _ _ rfl hown _ _ rfl (keyStr hu) ?_; intro c hat hwc; rw [Hhas.out]; have hat2 := at_num hat; rw [← HQ.out] at hat2; have HC : c = (y : Int) := hat2; subst HC; clear hat hat2 hwc hown))
          refine hgn.mono ?_
          rintro e w1 ⟨rfl, rfl⟩
          clear hgn
          go_wp2_with fail
          refine Hmv.out.mono ?_
          rintro e w2 ⟨rfl, hb2⟩
          have Hb2 := Lib.hid hb2
          clear hb2
          have a1 := ndK (H.out.below Hb2.out) HK.out
          rw [← HKK.out] at a1
          go_wp2_with fail
          refine (HDR.out w2 Hb2.out).mono ?_
          rintro e w3 ⟨rfl, hT3, hF3⟩
          have HT3 := Lib.hid hT3
          have HF3 := Lib.hid ((Fr.ofBelow Hb2.out).trans hF3)
          clear hT3 hF3
          go_wp2
          go_ret
          rw [HR.out]
          exact ⟨rfl, HT3.out.eqT HD2.out, HF3.out⟩
end
end Go.Proofs.Ytdlglllidolggaa.In
