/- leave; take. -/
import Derived.Test.YtdlglllidolggaaInG
import Derived.StillTailTactics
namespace Go.Proofs.Ytdlglllidolggaa.In
open Go.RowKit Go.Maps Go.WideMaps
section
variable {w w' : World} {B tb A : Nat} {T : TrM} {nb mb : Nat → Nat}
set_option maxRecDepth 100000 in
set_option maxHeartbeats 1000000 in
theorem leave_any (h : TabR w B tb T A nb mb) {n : Nat} (hn : (T.nd n).kd ≠ 0) :
    Calls Try.prog 60 #[tP tb, tP (nb n)] w (GiveP w B tb A nb mb { T with nd := leaveT T.nd n }) := by
  have a6 := ndL h hn
  have a7 := ndH h hn
  obtain ⟨hn1, hn0, hr⟩ := h.rowYes hn
  have hl := h.lim
  by_cases e1 : (T.nd n).links = 0
  · by_cases e2 : (T.nd n).held = 0
    · have hE : leaveT T.nd n = upd T.nd n ndZ := by unfold leaveT; rw [if_pos ⟨e1, e2⟩]
      rw [hE]
      rw [e1] at a6
      rw [e2] at a7
      have G := Lib.hid (show TabR w.drew B tb T A nb mb from h.drew)
      have a0 := nd0 h hn
      have c0 := h.c0
      have fA := h.fzA n
      have hlt := h.row.lt
      obtain ⟨N, hN⟩ : ∃ N, N = T.lim + 1 := ⟨_, rfl⟩
      rw [← hN] at c0
      have hb1 : n < N := by omega
      have hb2 : N ≤ 300 := by omega
      have hr2 : w.drew.cell? ⟨A, n, none⟩ = _ := hr
      have fA2 : w.drew.frozen? ⟨A, n, none⟩ = false := fA
      clear h hn e1 e2 hE hN hl
      go_enter Try.func60, Try.ntmps60
      go_wp2
      go_still_tail 9, (by kernel_rfl)
      go_wp2
      go_end0
      exact ⟨rfl, G.out.gone n hn1, (Fr.ofBelow (Below.refl _ w).drew).trans (FrI.row G.out n _)⟩
    · have hE : leaveT T.nd n = T.nd := by unfold leaveT; rw [if_neg (fun k => e2 k.2)]
      rw [hE]
      rw [e1] at a6
      have q : (((T.nd n).held : Int) == 0) = false := by simp; omega
      have G := Lib.hid h
      clear h hn e1 e2 hE hr
      go_enter Try.func60, Try.ntmps60
      go_wp2
      go_end0
      exact ⟨rfl, G.out, Fr.refl _ _ _ _⟩
  · have hE : leaveT T.nd n = T.nd := by unfold leaveT; rw [if_neg (fun k => e1 k.1)]
    rw [hE]
    have q : (((T.nd n).links : Int) == 0) = false := by simp; omega
    have G := Lib.hid h
    clear h hn e1 hE hr
    go_enter Try.func60, Try.ntmps60
    go_wp2
    go_end0
    exact ⟨rfl, G.out, Fr.refl _ _ _ _⟩
/-- Behind the delete. -/
theorem take_mid (h : TabR w B tb T A nb mb) {i n : Nat} (hi : (T.nd i).kd = 2) (hn : (T.nd n).kd ≠ 0) (s : Bs) (hl : 1 ≤ (T.nd n).links) {w1 : World} {k : Nat}
    (hown1 : w1.ownsMap Try.prog 9 (plainElem Try.prog 29) (mb i) k ((nD (T.nd i).L).del (.string s))) (hturn : w.mapTurned w1 (mb i)) :
    ∃ l : Nat, 1 ≤ l ∧ l ≤ 1000 ∧ (1 : Int) ≤ l ∧ w1.cell? ⟨nb n, 6, none⟩ = some (.int .i64 l) ∧ w1.frozen? ⟨nb n, 6, none⟩ = false ∧ nb n < w1.heap.size ∧ Hid (FrI B w (w1.setCell ⟨nb n, 6, none⟩ (.int .i64 ((l : Int) - 1)))) ∧
      Hid (Calls Try.prog 60 #[tP tb, tP (nb n)] (w1.setCell ⟨nb n, 6, none⟩ (.int .i64 ((l : Int) - 1))) (GiveP (w1.setCell ⟨nb n, 6, none⟩ (.int .i64 ((l : Int) - 1))) B tb A nb mb { T with nd := takeT T.nd i s n })) := by
  have hll := h.ls n
  have hg1 := hturn.grown
  rw [nD_del] at hown1
  obtain ⟨T1, hT1⟩ : ∃ T1 : TrM, T1 = { T with nd := upd T.nd i { T.nd i with L := delE s (T.nd i).L } } := ⟨_, rfl⟩
  have hle := delE_len s (T.nd i).L
  have hli := (h.ls i).len
  have h1 : TabR w1 B tb T1 A nb mb := by rw [hT1]; exact h.setL hi _ (by omega) hg1 (nmp_of hown1)
  have hf1 := FrI.map h hi hg1
  have k1 : ∀ k, (T1.nd k).kd = (T.nd k).kd ∧ (T1.nd k).links = (T.nd k).links := fun k => by
    rw [hT1]; show (upd T.nd i _ k).kd = _ ∧ (upd T.nd i _ k).links = _
    unfold upd; split
    · rename_i e; rw [e]; exact ⟨rfl, rfl⟩
    · exact ⟨rfl, rfl⟩
  have hn1 : (T1.nd n).kd ≠ 0 := by rw [(k1 n).1]; exact hn
  have hl1 : 1 ≤ (T1.nd n).links ∧ (T1.nd n).links ≤ 1000 := by rw [(k1 n).2]; exact ⟨hl, hll.links⟩
  have h2 := h1.links hn1 ((T1.nd n).links - 1) (by omega) (((T1.nd n).links : Int) - 1) (by omega)
  obtain ⟨T2, hT2⟩ : ∃ T2 : TrM, T2 = { T1 with nd := upd T1.nd n { T1.nd n with links := (T1.nd n).links - 1 } } := ⟨_, rfl⟩
  rw [← hT2] at h2
  have hn2 : (T2.nd n).kd ≠ 0 := by rw [hT2]; show (upd T1.nd n _ n).kd ≠ 0; rw [upd_same]; exact hn1
  have hfin : { T2 with nd := leaveT T2.nd n } = { T with nd := takeT T.nd i s n } := by rw [hT2, hT1]; rfl
  have hlv := leave_any h2 hn2
  rw [hfin] at hlv
  exact ⟨(T1.nd n).links, hl1.1, hl1.2, by omega, ndL h1 hn1, h1.fzN hn1 6, (h1.node n hn1).lt, Fr.trans hf1 (FrI.nd h1 hn1 6 _), hlv⟩
set_option maxRecDepth 100000 in
set_option maxHeartbeats 2000000 in
theorem take_any (h : TabR w B tb T A nb mb) {i n : Nat} (hi : (T.nd i).kd = 2) (hn : (T.nd n).kd ≠ 0) (s : ByteArray) (hs : s.size ≤ maxLen) (hlk : lk s.data.toList (T.nd i).L = some n) (hl : 1 ≤ (T.nd n).links) :
    Calls Try.prog 53 #[tP tb, tP (nb i), .string s] w (GiveP w B tb A nb mb { T with nd := takeT T.nd i s.data.toList n }) := by
  have hi0 : (T.nd i).kd ≠ 0 := by rw [hi]; decide
  have hown := (h.node i hi0).names hi
  have hcm := ndN h hi
  have hg := get_yes h hn
  have Hlk := Lib.hid hlk
  have Hl := Lib.hid hl
  have Hi := Lib.hid hi
  clear hlk hl hi hi0
  go_enter Try.func53, Try.ntmps53
  go_wp2_with (at_lookup; refine wpList_lookup_own_int _ rfl _ _ 81 rfl 9 29 .u16 strKeyed Try.underlying81 Try.underlying29 (zeroNum _) _ _ _ rfl hown _ _ rfl (keyStr hs) ?_; intro c hat hwc; have HC := (at_num hat).trans (by rw [Hlk.out]; rfl : _ = (n : Int)); subst HC; clear hat hwc)
  refine hg.mono ?_
  rintro e w1 ⟨rfl, rfl⟩
  clear hg
  go_wp2_with (at_delete; refine wpList_delete_own _ rfl _ _ 81 9 rfl 29 strKeyed Try.underlying81 (plainElem Try.prog 29) (mb i) _ _ rfl hown _ _ rfl (keyStr hs) ?_; intro w1 hown1 hturn; obtain ⟨l, l1, l2, l3, a6, f6, hb1, HF1, HLV⟩ := take_mid h Hi.out hn _ Hl.out hown1 hturn; clear hown1 hturn hown hcm)
  refine HLV.out.mono ?_
  rintro e w2 ⟨rfl, hT, hF⟩
  have HT := Lib.hid hT
  have HF := Lib.hid (HF1.out.trans hF)
  clear hT hF
  go_wp2
  go_end0
  exact ⟨rfl, HT.out, HF.out⟩
end
end Go.Proofs.Ytdlglllidolggaa.In
