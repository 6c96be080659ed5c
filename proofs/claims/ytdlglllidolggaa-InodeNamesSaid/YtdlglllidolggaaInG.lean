/- fresh; give; leave; take. -/
import Derived.Test.YtdlglllidolggaaInF
namespace Go.Proofs.Ytdlglllidolggaa.In
open Go.RowKit Go.Maps Go.WideMaps
def freshM (k : Nat) (text : ByteArray) : NdM := ⟨k, [], [], 0, if k = 3 then text else ⟨#[]⟩, 0, 0⟩
/-- What fresh answers: a node in a block of its own. -/
def FreshP (w : World) (n k : Nat) (text : ByteArray) (e : Ending) (w' : World) : Prop :=
  ∃ g m, e = .returned (tP g) ∧ NodeR w' g n (freshM k text) m ∧ w.heap.size ≤ g ∧ w.heap.size ≤ m ∧ Below w.heap.size w w'
theorem fresh_nd {w : World} {g n k m : Nat} {text : ByteArray} (h : Bk w g 83 (ndCells n (freshM k text) (.slice none 0 0) (mvOf k m))) (hm : k = 2 → NMp w m []) : NodeR w g n (freshM k text) m :=
  ⟨⟨_, h, none, 0, rfl, Nat.le_refl _, TRd.nil _ _ _⟩, hm, fun _ => rfl⟩
set_option maxHeartbeats 1000000 in
theorem fresh_any (w : World) (n k : Nat) (hk : k ≤ 255) (text : ByteArray) : Calls Try.prog 36 #[.int .u16 n, .int .u8 k, .string text] w (FreshP w n k text) := by
  by_cases h2 : k = 2
  · subst h2
    have hmm := @run_makeMap Try.prog
    go_enter Try.func36, Try.ntmps36
    go_wp2
    go_ret
    refine ⟨w.heap.size, w.heap.size + 1, rfl, ?_, Nat.le_refl _, by omega, ?_⟩
    · refine fresh_nd ?_ (fun _ => ?_)
      · exact (Bk.new w _ _ rfl).alloc _
      · have := World.ownsMap_made (H := Unit) (w.alloc (.cells #[.int .u16 n, .int .u8 2, .slice none 0 0, .map (some (w.heap.size + 1)), .int .u16 0, .string ⟨#[]⟩, .int .i64 0, .int .i64 0] 83)) Try.prog 9 (plainElem Try.prog 29)
        rwa [show (w.alloc (.cells #[.int .u16 n, .int .u8 2, .slice none 0 0, .map (some (w.heap.size + 1)), .int .u16 0, .string ⟨#[]⟩, .int .i64 0, .int .i64 0] 83)).heap.size = w.heap.size + 1 from by simp] at this
    · exact ((Below.refl _ _).alloc (Nat.le_refl _) _).alloc (by simp) _
  by_cases h3 : k = 3
  · subst h3
    clear h2
    go_enter Try.func36, Try.ntmps36
    go_wp2
    go_ret
    refine ⟨w.heap.size, w.heap.size, rfl, fresh_nd ?_ (fun h => by cases h), Nat.le_refl _, Nat.le_refl _, (Below.refl _ _).alloc (Nat.le_refl _) _⟩
    exact Bk.new w _ _ rfl
  · have e2 : ((k : Int) == 2) = false := by simp; omega
    have e3 : ((k : Int) == 3) = false := by simp; omega
    have H2 := Lib.hid h2
    have H3 := Lib.hid h3
    clear h2 h3
    go_enter Try.func36, Try.ntmps36
    go_wp2
    go_ret
    refine ⟨w.heap.size, w.heap.size, rfl, fresh_nd ?_ (fun h => absurd h H2.out), Nat.le_refl _, Nat.le_refl _, (Below.refl _ _).alloc (Nat.le_refl _) _⟩
    exact Bk.new w _ _ (by simp [ndCells, freshM, mvOf, H2.out, H3.out])
section
variable {w w' : World} {B tb A : Nat} {T : TrM} {nb mb : Nat → Nat}
theorem TabR.setSame (h : TabR w B tb T A nb mb) {n : Nat} (hn : (T.nd n).kd ≠ 0) (x' : NdM) (hk : x'.kd = (T.nd n).kd) (hl : Loose x') (hd : x'.data = (T.nd n).data) (hL : x'.L = (T.nd n).L) (j : Nat) (v : Value) (hc : ∀ dv, (ndCells n (T.nd n) dv (mvOf (T.nd n).kd (mb n))).set j v = ndCells n x' dv (mvOf x'.kd (mb n))) :
    TabR (w.setCell ⟨nb n, j, none⟩ v) B tb { T with nd := upd T.nd n x' } A nb mb :=
  h.setN hn x' hk hl ((h.node n hn).set j v x' hc hd hL hk) (only_set w (nb n) j v) (.inl rfl)
/-- Its names are others. -/
theorem TabR.setL (h : TabR w B tb T A nb mb) {n : Nat} (h2 : (T.nd n).kd = 2) (L : Es) (hl : L.length ≤ 1000) (hg : w.grownBy w' (some (mb n))) (hm : NMp w' (mb n) L) :
    TabR w' B tb { T with nd := upd T.nd n { T.nd n with L := L } } A nb mb := by
  have hn : (T.nd n).kd ≠ 0 := by rw [h2]; decide
  have hN := h.node n hn
  have hne : mb n ≠ nb n := om_ne (hN.names h2) hN.tyb
  obtain ⟨dv, hc, hd⟩ := hN.cells
  have l := h.ls n
  refine h.setN hn { T.nd n with L := L } rfl ⟨l.kd, l.links, l.held, l.par, hl, l.data, l.text⟩ ⟨⟨dv, hc.grown hg (fun e => hne (Option.some.inj e).symm), hd.same hg.size (fun b k => hg.block b k.lt (fun e => om_ne (hN.names h2) k (Option.some.inj e).symm))⟩, fun _ => hm, fun k => absurd h2 k⟩ hg (.inr ⟨rfl, h2⟩)
theorem TabR.links (h : TabR w B tb T A nb mb) {n : Nat} (hn : (T.nd n).kd ≠ 0) (l : Nat) (hl : l ≤ 1000) (v : Int) (hv : v = (l : Int)) :
    TabR (w.setCell ⟨nb n, 6, none⟩ (.int .i64 v)) B tb { T with nd := upd T.nd n { T.nd n with links := l } } A nb mb := by
  subst hv
  have o := h.ls n
  exact h.setSame hn { T.nd n with links := l } rfl ⟨o.kd, hl, o.held, o.par, o.len, o.data, o.text⟩ rfl rfl 6 _ (fun _ => rfl)
theorem TabR.held (h : TabR w B tb T A nb mb) {n : Nat} (hn : (T.nd n).kd ≠ 0) (l : Nat) (hl : l ≤ 1000000000) (v : Int) (hv : v = (l : Int)) :
    TabR (w.setCell ⟨nb n, 7, none⟩ (.int .i64 v)) B tb { T with nd := upd T.nd n { T.nd n with held := l } } A nb mb := by
  subst hv
  have o := h.ls n
  exact h.setSame hn { T.nd n with held := l } rfl ⟨o.kd, o.links, hl, o.par, o.len, o.data, o.text⟩ rfl rfl 7 _ (fun _ => rfl)
theorem TabR.parent (h : TabR w B tb T A nb mb) {n : Nat} (hn : (T.nd n).kd ≠ 0) (l : Nat) (hl : l ≤ 65535) :
    TabR (w.setCell ⟨nb n, 4, none⟩ (.int .u16 l)) B tb { T with nd := upd T.nd n { T.nd n with par := l } } A nb mb := by
  have o := h.ls n
  exact h.setSame hn { T.nd n with par := l } rfl ⟨o.kd, o.links, o.held, hl, o.len, o.data, o.text⟩ rfl rfl 4 _ (fun _ => rfl)
theorem TabR.eqT {T' : TrM} (h : TabR w B tb T A nb mb) (e : T = T') : TabR w B tb T' A nb mb := e ▸ h
theorem TabR.give1 (h : TabR w B tb T A nb mb) {n : Nat} (hn : (T.nd n).kd ≠ 0) (hl : (T.nd n).links < 1000) :
    TabR (w.setCell ⟨nb n, 6, none⟩ (.int .i64 ((T.nd n).links + 1))) B tb { T with nd := upd T.nd n { T.nd n with links := (T.nd n).links + 1 } } A nb mb ∧ FrI B w (w.setCell ⟨nb n, 6, none⟩ (.int .i64 ((T.nd n).links + 1))) :=
  ⟨h.links hn _ (by omega) _ (by simp), FrI.nd h hn 6 _⟩
theorem TabR.give2 (h : TabR w B tb T A nb mb) {n : Nat} (hn : (T.nd n).kd ≠ 0) (hl : (T.nd n).links < 1000) (i : Nat) (hi : i ≤ 65535) :
    TabR ((w.setCell ⟨nb n, 6, none⟩ (.int .i64 ((T.nd n).links + 1))).setCell ⟨nb n, 4, none⟩ (.int .u16 i)) B tb { T with nd := upd T.nd n { T.nd n with links := (T.nd n).links + 1, par := i } } A nb mb ∧ FrI B w ((w.setCell ⟨nb n, 6, none⟩ (.int .i64 ((T.nd n).links + 1))).setCell ⟨nb n, 4, none⟩ (.int .u16 i)) := by
  have h1 := h.give1 hn hl
  have hn1 : (({ T with nd := upd T.nd n { T.nd n with links := (T.nd n).links + 1 } } : TrM).nd n).kd ≠ 0 := by show (upd T.nd n _ n).kd ≠ 0; rw [upd_same]; exact hn
  refine ⟨(h1.1.parent hn1 i hi).eqT ?_, h1.2.trans (FrI.nd h1.1 hn1 4 _)⟩
  show ({ T with nd := upd (upd T.nd n _) n _ } : TrM) = _
  rw [upd_twice]
  simp only [upd_same]
def GiveP (w : World) (B tb A : Nat) (nb mb : Nat → Nat) (T' : TrM) (e : Ending) (w' : World) : Prop := e = .returned (.tuple #[]) ∧ TabR w' B tb T' A nb mb ∧ FrI B w w'
theorem plainNum {n : Nat} (hn : n ≤ 65535) : plainElem (H := Unit) Try.prog 29 (.int .u16 n) = some (.lit (.int .u16 n), []) := by
  refine plainElem_int Try.underlying29 ?_
  show (decide ((0 : Int) ≤ (n : Int)) && decide ((n : Int) ≤ (65535 : Int))) = true
  rw [decide_eq_true (by omega), decide_eq_true (by omega)]; rfl
set_option maxRecDepth 100000 in
set_option maxHeartbeats 2000000 in
theorem give_any (h : TabR w B tb T A nb mb) {i n : Nat} (hi : (T.nd i).kd = 2) (hn : (T.nd n).kd ≠ 0) (s : ByteArray) (hs : s.size ≤ maxLen) (hlk : lk s.data.toList (T.nd i).L = none) (hL : (T.nd i).L.length < 1000) (hl : (T.nd n).links < 1000) :
    Calls Try.prog 41 #[tP (nb i), .string s, tP (nb n)] w (GiveP w B tb A nb mb { T with nd := giveT T.nd i s.data.toList n }) := by
  have hi0 : (T.nd i).kd ≠ 0 := by rw [hi]; decide
  have hown := (h.node i hi0).names hi
  have hcm := ndN h hi
  have hc0 := nd0 h hn
  have hin : i ≤ 65535 := by have := (h.rowYes hi0).1; have := h.lim; omega
  have hnn : n ≤ 65535 := by have := (h.rowYes hn).1; have := h.lim; omega
  have Hput := Lib.hid (nD_put hlk n)
  have Hlen := Lib.hid (insE_len (s.data.toList, n) (T.nd i).L)
  have hlen : (T.nd i).L.length < maxLen := by unfold maxLen; omega
  clear hlk
  go_enter Try.func41, Try.ntmps41
  go_wp2
  refine wp_region_still_tail 9 (by kernel_rfl) (by kernel_rfl) ?_
  simp only [List.take_succ_cons, List.take_zero, List.drop_succ_cons, List.drop_zero]
  change wpStill _ _ (World.drew _) (fun a' => wpList _ _ _ _ a' (World.drew _)) _ _
  repeat still_step
  refine wpStill_nil ?_
  refine wpList_mapUpdate_own _ rfl _ _ _ 81 rfl 9 29 strKeyed Try.underlying81 (plainElem Try.prog 29) (mb i) (T.nd i).L.length (nD (T.nd i).L) rfl hown.drew hlen _ _ (.string s.data.toList) rfl rfl (keyStr hs) (.lit (.int .u16 n)) [] (plainNum hnn) ?_
  intro w1 hown1 hg1
  rw [Hput.out, ← Hlen.out] at hown1
  obtain ⟨T1, hT1⟩ : ∃ T1 : TrM, T1 = { T with nd := upd T.nd i { T.nd i with L := insE (s.data.toList, n) (T.nd i).L } } := ⟨_, rfl⟩
  have h1 : TabR w1 B tb T1 A nb mb := by rw [hT1]; exact h.drew.setL hi _ (by rw [Hlen.out]; omega) hg1 hown1
  have hf1 := Lib.hid (show FrI B w w1 from (Fr.ofBelow (Below.refl _ w).drew).trans (FrI.map h.drew hi hg1))
  have k1 : ∀ k, (T1.nd k).kd = (T.nd k).kd ∧ (T1.nd k).links = (T.nd k).links := fun k => by
    rw [hT1]; show (upd T.nd i _ k).kd = _ ∧ (upd T.nd i _ k).links = _
    unfold upd; split
    · rename_i e; rw [e]; exact ⟨rfl, rfl⟩
    · exact ⟨rfl, rfl⟩
  have hn1 : (T1.nd n).kd ≠ 0 := by rw [(k1 n).1]; exact hn
  have hi1 : (T1.nd i).kd ≠ 0 := by rw [(k1 i).1]; exact hi0
  have hfin : giveT T.nd i s.data.toList n = upd T1.nd n { T1.nd n with links := (T1.nd n).links + 1, par := if (T1.nd n).kd = 2 then i else (T1.nd n).par } := by rw [hT1]; rfl
  have hlimT : T1.lim = T.lim ∧ T1.ch = T.ch := by rw [hT1]; exact ⟨rfl, rfl⟩
  have hl1 : (T1.nd n).links < 1000 := by rw [(k1 n).2]; exact hl
  have Hfin := Lib.hid hfin
  have HT := Lib.hid hlimT
  have a6 := ndL h1 hn1
  have a1 := ndK h1 hn1
  have a4 := ndP h1 hn1
  have a0 := nd0 h1 hi1
  have f6 := h1.fzN hn1 6
  have f4 := h1.fzN hn1 4
  have hb1 := (h1.node n hn1).lt
  have G1 := Lib.hid (h1.give1 hn1 hl1)
  have G2 := Lib.hid (h1.give2 hn1 hl1 i hin)
  obtain ⟨l, hll⟩ : ∃ l, l = (T1.nd n).links := ⟨_, rfl⟩
  obtain ⟨kk, hkk⟩ : ∃ kk, kk = (T1.nd n).kd := ⟨_, rfl⟩
  rw [← hll] at a6 hl1
  rw [← hkk] at a1
  have Hl := Lib.hid hll
  have Hk := Lib.hid hkk
  clear hfin hlimT h1 hT1 k1 hn1 hi1 hll hkk hown1 hg1 hown hcm hc0 h hi hn hi0
  have eT : ∀ f : Nat → NdM, ({ T1 with nd := f } : TrM) = { T with nd := f } := fun f => by rw [show T1 = ⟨T1.nd, T1.lim, T1.ch⟩ from rfl, HT.out.1, HT.out.2]
  have ET := Lib.hid eT
  clear eT
  by_cases e2 : kk = 2
  · have He := Lib.hid e2
    subst e2
    go_wp2
    go_end0
    have g := G2.out
    rw [← Hl.out] at g
    refine ⟨rfl, g.1.eqT ?_, hf1.out.trans g.2⟩
    rw [ET.out, Hfin.out, ← Hk.out, if_pos rfl, Hl.out]
  · have e3 : ((kk : Int) == 2) = false := by simp; omega
    have He := Lib.hid e2
    clear e2
    go_wp2
    go_end0
    have g := G1.out
    rw [← Hl.out] at g
    refine ⟨rfl, g.1.eqT ?_, hf1.out.trans g.2⟩
    rw [ET.out, Hfin.out, ← Hk.out, if_neg He.out, Hl.out]
end
end Go.Proofs.Ytdlglllidolggaa.In
