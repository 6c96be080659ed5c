/- The document's at, Look, Name, Len. -/
import Derived.Test.YtdlglllidolggaaRtD
import Derived.WalkSpells
namespace Go.Proofs.Ytdlglllidolggaa.In
open Go.RowKit Go.Maps Go.WideElems
section
variable {w w' : World} {B tb A k c g : Nat} {T : TrM} {mv nx : Value} {df lf : Nat → Value}
theorem toL (s : ByteArray) : s.toList = s.data.toList := ByteArray.toList_eq s
set_option maxHeartbeats 1000000 in
theorem at_any {b o : Nat} {lv : Value} {L : Es} (hc : w.cell? ⟨b, o + 2, none⟩ = some lv) (hE : ERd w lv L) (hL : L.length ≤ 1000) (s : ByteArray) :
    Calls Try.prog 56 #[.pointer (some ⟨b, o, none⟩), .string s] w fun e w' => e = .returned (.int .i64 (atF s.data.toList L)) ∧ w = w' := by
  obtain ⟨A1, c1, rfl, h1, h2, h3⟩ := hE
  have HR := Lib.hid h3.rd
  obtain ⟨N, hN⟩ : ∃ N, N = L.length := ⟨_, rfl⟩
  have HN := Lib.hid hN
  rw [← hN] at hc hL
  clear h1 h2 h3 hN
  go_enter Try.func56, Try.ntmps56
  go_wp2
  go_loop [5] (fun i => ∃ j : Nat, j ≤ N ∧ i = .int .i64 j ∧ ∀ m x, m < j → L[m]? = some x → x.1 ≠ s.data.toList) (fun i => N - (intOf i).toNat)
  case atStart => exact ⟨0, by omega, rfl, fun m _ h => absurd h (by omega)⟩
  case round =>
    obtain ⟨j, hj, rfl, hgood⟩ := hrel
    have Hg := Lib.hid hgood
    clear hgood
    by_cases hlt : j < N
    · obtain ⟨x, hx⟩ : ∃ x, L[j]? = some x := ⟨L[j]'(by rw [← HN.out]; exact hlt), List.getElem?_eq_getElem _⟩
      obtain ⟨bb, q, hA, _, hcc⟩ := HR.out.pos (by rw [← HN.out]; omega)
      have hcell := hcc _ _ (en_at hx).1
      subst hA
      obtain ⟨y, hy⟩ : ∃ y : ByteArray, y = ⟨x.1.toArray⟩ := ⟨_, rfl⟩
      rw [← hy] at hcell
      have Hy := Lib.hid (show y.toList = x.1 by rw [toL, hy])
      have Hx := Lib.hid hx
      clear hx hcc hy
      by_cases e : x.1 = s.data.toList
      · have eb : (y.toList == s.toList) = true := by rw [Hy.out, toL, e]; simp
        have eb2 : y.toList = s.toList := by rw [Hy.out, toL, e]
        have Hf := Lib.hid (atF_some Hx.out e Hg.out)
        clear e
        go_wp2
        go_ret
        exact ⟨by rw [Hf.out]; rfl, rfl⟩
      · have eb2 : ¬ y.toList = s.toList := by rw [Hy.out, toL]; exact e
        have eb : (y.toList == s.toList) = false := by simpa using eb2
        have Hn := Lib.hid (show ∀ m z, m < j + 1 → L[m]? = some z → z.1 ≠ s.data.toList from fun m z hm hz => by
          by_cases e2 : m = j
          · subst e2; rw [Hx.out] at hz; cases hz; exact e
          · exact Hg.out m z (by omega) hz)
        clear e
        go_wp2
        go_round
        case rel => exact ⟨j + 1, by omega, by go_num, Hn.out⟩
        case measure => simp [intOf]; omega
    · have Hf := Lib.hid (atF_none (s := s.data.toList) (L := L) (fun e he => by
        obtain ⟨m, hm⟩ := List.mem_iff_getElem?.1 he
        exact Hg.out m e (by have := (List.getElem?_eq_some_iff.1 hm).1; have := HN.out; omega) hm))
      go_wp2
      go_ret
      exact ⟨by rw [Hf.out]; rfl, rfl⟩
set_option maxRecDepth 100000 in
set_option maxHeartbeats 1000000 in
theorem rname_any (s : ByteArray) (w : World) (hm : s.size ≤ maxLen) : Calls Try.prog 16 #[.string s] w (SaysName s w) := by
  unfold maxLen at hm
  have Hn := Lib.hid (fun (h : ∃ i, ∃ h : i < s.size, ¬ okB (s[i]'h).toNat) => says_no (s := s) (w := w) (w' := w) (fun k => by obtain ⟨i, hi, hn⟩ := h; exact hn (k.2.2.2.2 i hi)) (Below.refl _ _))
  have Hlen := Lib.hid (fun (h : ¬ (1 ≤ s.size ∧ s.size ≤ 14)) => says_no (s := s) (w := w) (w' := w) (fun k => h ⟨k.1, k.2.1⟩) (Below.refl _ _))
  go_enter Try.func16, Try.ntmps16
  go_wp2
  go_loop [3] (fun i => ∃ j : Nat, j ≤ s.size ∧ i = .int .i64 j ∧ ∀ i (h : i < s.size), i < j → okB (s[i]'h).toNat) (fun i => s.size - (intOf i).toNat)
  case atStart => exact ⟨0, by omega, rfl, fun i _ h => absurd h (by omega)⟩
  case round =>
    obtain ⟨j, hj, rfl, hgood⟩ := hrel
    have Hg := Lib.hid hgood
    clear hgood
    by_cases hlt : j < s.size
    · obtain ⟨x, hx⟩ : ∃ x, x = (s[j]'hlt).toNat := ⟨_, rfl⟩
      have HX := Lib.hid hx
      clear hx
      by_cases hl : okB (s[j]'hlt).toNat
      · have Hx := Lib.hid (show ∀ i (h : i < s.size), i < j + 1 → okB (s[i]'h).toNat from fun i hi hlt2 => by
          by_cases e : i = j
          · subst e; exact hl
          · exact Hg.out i hi (by omega))
        have c1 : ¬ ((s[j]'hlt).toNat : Int) < 33 := by have := hl.1; omega
        have c2 : ¬ (126 : Int) < ((s[j]'hlt).toNat : Int) := by have := hl.2.1; omega
        have c3 : (((s[j]'hlt).toNat : Int) == 47) = false := by have := hl.2.2.1; simp; omega
        have c4 : (((s[j]'hlt).toNat : Int) == 35) = false := by have := hl.2.2.2; simp; omega
        clear hl
        go_wp2
        go_round
        case rel => exact ⟨j + 1, by omega, by go_num, Hx.out⟩
        case measure => simp [intOf]; omega
      · have Hbad := Lib.hid (show ∃ i, ∃ h : i < s.size, ¬ okB (s[i]'h).toNat from ⟨j, hlt, hl⟩)
        have Hl := Lib.hid hl
        clear hl
        by_cases c1 : ((s[j]'hlt).toNat : Int) < 33
        · go_wp2
          go_ret
          exact Hn.out Hbad.out
        by_cases c2 : (126 : Int) < ((s[j]'hlt).toNat : Int)
        · go_wp2
          go_ret
          exact Hn.out Hbad.out
        by_cases c3 : (((s[j]'hlt).toNat : Int) == 47) = true
        · go_wp2
          go_ret
          exact Hn.out Hbad.out
        have d3 : (((s[j]'hlt).toNat : Int) == 47) = false := by simpa using c3
        have d4 : (((s[j]'hlt).toNat : Int) == 35) = true := by
          have h1 := Hl.out
          unfold okB at h1
          simp at c3 ⊢
          omega
        clear c3
        go_wp2
        go_ret
        exact Hn.out Hbad.out
    · have Hall := Lib.hid (show allB s from fun i hi => Hg.out i hi (by omega))
      clear hj
      by_cases h1 : 1 ≤ s.size ∧ s.size ≤ 14
      · by_cases q1 : s = ⟨#[46]⟩
        · subst q1
          have Hf := Lib.hid (says_no (s := ⟨#[46]⟩) (w := w) (w' := w) (fun h => h.2.2.1 rfl) (Below.refl _ _))
          have z1 : ¬ j < 1 := hlt
          have z2 : (1 : Int) ≤ (j : Int) := by omega
          clear h1 hlt
          go_wp2
          go_ret
          exact Hf.out
        by_cases q2 : s = ⟨#[46, 46]⟩
        · subst q2
          have Hf := Lib.hid (says_no (s := ⟨#[46, 46]⟩) (w := w) (w' := w) (fun h => h.2.2.2.1 rfl) (Below.refl _ _))
          have z1 : ¬ j < 2 := hlt
          have z2 : (2 : Int) ≤ (j : Int) := by omega
          clear h1 hlt q1
          go_wp2
          go_ret
          exact Hf.out
        have Hy := Lib.hid (says_yes (s := s) (w := w) (w' := w) ⟨h1.1, h1.2, q1, q2, Hall.out⟩ (Below.refl _ _))
        have r1 : ¬ s.toList = [46] := fun e => q1 (eq_of_list (by rw [← toL]; exact e))
        have r2 : (s.toList == [46]) = false := by simpa using r1
        have r3 : ¬ s.toList = [46, 46] := fun e => q2 (eq_of_list (by rw [← toL]; exact e))
        have r4 : (s.toList == [46, 46]) = false := by simpa using r3
        have l1 : (1 : Int) ≤ s.size := by omega
        have l2 : (s.size : Int) ≤ 14 := by omega
        clear q1 q2 h1
        go_wp2
        go_ret
        exact Hy.out
      · have Hf := Lib.hid (Hlen.out h1)
        by_cases l0 : 1 ≤ s.size
        · have l1 : (1 : Int) ≤ s.size := by omega
          have l2 : ¬ (s.size : Int) ≤ 14 := by omega
          clear h1
          go_wp2
          go_ret
          exact Hf.out
        · have l1 : ¬ (1 : Int) ≤ s.size := by omega
          clear h1
          go_wp2
          go_ret
          exact Hf.out
/-! How many there are. -/
def cntN (T : TrM) (k : Nat) : Nat := ((List.range k).filter fun n => decide ((T.nd n).kd ≠ 0)).length
theorem cnt_succ (T : TrM) (k : Nat) : cntN T (k + 1) = cntN T k + if (T.nd k).kd = 0 then 0 else 1 := by
  unfold cntN
  rw [List.range_succ, List.filter_append, List.length_append]
  by_cases h : (T.nd k).kd = 0 <;> simp [h]
theorem cnt_le (T : TrM) (k : Nat) : cntN T k ≤ k := by
  unfold cntN; have := List.length_filter_le (fun n => decide ((T.nd n).kd ≠ 0)) (List.range k); simpa using this
set_option maxHeartbeats 1000000 in
theorem rlen_any (h : RtR w B tb T A k c mv nx df lf) :
    Calls Try.prog 17 #[tP tb] w fun e w' => e = .returned (.int .i64 (cntN T k)) ∧ w = w' := by
  have c0 := h.c0
  have hk := h.kk
  have hl := h.lim
  have hk2 : k ≤ 300 := by omega
  have H := Lib.hid h
  clear h hk hl
  go_enter Try.func17, Try.ntmps17
  go_wp2
  go_loop [3, 4] (fun v i => ∃ j : Nat, j ≤ k ∧ i = .int .i64 j ∧ v = .int .i64 (cntN T j)) (fun _ i => k - (intOf i).toNat)
  case atStart => exact ⟨0, by omega, rfl, rfl⟩
  case round =>
    obtain ⟨j, hj, rfl, rfl⟩ := hrel
    have hcl := cnt_le T j
    have hcs := cnt_succ T j
    obtain ⟨m, hm⟩ : ∃ m, m = cntN T j := ⟨_, rfl⟩
    rw [← hm] at hcl hcs ⊢
    have HM := Lib.hid hm
    have HS := Lib.hid hcs
    clear hm hcs
    by_cases hlt : j < k
    · have a0 := (H.out.cells7 hlt).1
      have hkd : (T.nd j).kd ≤ 3 := (H.out.ls j).kd
      obtain ⟨q, hq⟩ : ∃ q, q = (T.nd j).kd := ⟨_, rfl⟩
      rw [← hq] at a0 hkd
      have HQ := Lib.hid hq
      clear hq
      by_cases q0 : q = 0
      · have z : ¬ (0 : Int) < (q : Int) := by omega
        have Hr := Lib.hid (show cntN T (j + 1) = m by rw [HS.out, if_pos (by rw [← HQ.out]; exact q0)]; rfl)
        clear q0
        go_wp2
        go_round
        case rel => exact ⟨j + 1, by omega, by go_num, by rw [Hr.out]⟩
        case measure => simp [intOf]; omega
      · have z : (0 : Int) < (q : Int) := by omega
        have z2 : 0 < q := by omega
        have Hr := Lib.hid (show cntN T (j + 1) = m + 1 by rw [HS.out, if_neg (by rw [← HQ.out]; exact q0)])
        clear q0
        go_wp2
        go_round
        case rel => exact ⟨j + 1, by omega, by go_num, by rw [Hr.out]; go_num⟩
        case measure => simp [intOf]; omega
    · obtain rfl : j = k := by omega
      clear hlt hj
      go_wp2
      go_ret
      exact ⟨by rw [← HM.out]; rfl, rfl⟩
end
end Go.Proofs.Ytdlglllidolggaa.In
