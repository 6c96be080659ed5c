/- Paths and ports of a policy, one by one: the program's way. -/
import Derived.Test.YtonpakndocgndaaGreatDoorRuleW
namespace Go.Proofs.YtonpakndocgndaaGreatDoor
open Go.RowKit
/-- The first things of a slice. -/
theorem Rd.take {α : Type} {f : α → List Value} {w : World} {z n : Nat} {A : Option Addr} {l : List α} (h : Rd w z n A (l.flatMap f)) (hf : ∀ x, (f x).length = z) (hz : 0 < z) (hl : l.length = n) (k : Nat) (hk : k ≤ n) : Rd w z k A ((l.take k).flatMap f) := by
  refine ⟨by rw [flatz_len f z hf, List.length_take, hl, Nat.min_eq_left hk], ?_⟩
  rcases Nat.eq_zero_or_pos k with h0 | h0
  · exact .inl h0
  · right
    obtain ⟨b, o, e, hb, hc⟩ := h.pos (by omega)
    refine ⟨b, o, e, hb, fun j u hu => hc j u ?_⟩
    have hj : j = j / z * z + j % z := by rw [Nat.mul_comm]; exact (Nat.div_add_mod j z).symm
    have hm : j % z < z := Nat.mod_lt _ hz
    rw [hj, flatz f z hf hz _ _ _ hm] at hu ⊢
    obtain ⟨x, hx, hv⟩ := Option.bind_eq_some_iff.1 hu
    rw [List.getElem?_take] at hx
    split at hx
    · rw [hx]; exact hv
    · cases hx
theorem two_cells {α : Type} {f : α → List Value} {w : World} {b o k : Nat} {l : List α} {x : α} {v0 v1 : Value} (hc : ∀ k x, l[k]? = some x → ∀ j v, (f x)[j]? = some v → w.cell? ⟨b, o + (k * 2 + j), none⟩ = some v) (h : l[k]? = some x) (hf : f x = [v0, v1]) :
    w.cell? ⟨b, o + k * 2, none⟩ = some v0 ∧ w.cell? ⟨b, o + k * 2 + 1, none⟩ = some v1 :=
  ⟨by have := hc k x h 0 v0 (by rw [hf]; rfl); simpa using this, by have := hc k x h 1 v1 (by rw [hf]; rfl); simpa [Nat.add_assoc] using this⟩
theorem one_alloc (w : World) (o : Obj) : Below w.heap.size w (w.alloc o) := (Below.refl _ _).alloc (Nat.le_refl _) _
set_option maxRecDepth 100000 in
theorem closPath (y c : Bs) (r bb : Nat) (w : World) (hc : w.cell? ⟨bb, 0, none⟩ = some (.string ⟨c.toArray⟩)) (hb : bb < w.heap.size) : Calls Tryz.prog 44 #[.agg #[.string ⟨y.toArray⟩, .int .u16 r], .pointer (some ⟨bb, 0, none⟩)] w (BoolPost (decide (y = c)) w) := by
  have HB := Lib.hid (show Below w.heap.size w (w.alloc (.cells #[.string ⟨y.toArray⟩, .int .u16 r] 49)) from (Below.refl _ _).alloc (Nat.le_refl _) _)
  by_cases he : y = c
  · rw [decide_eq_true he]
    subst he
    go_enter Tryz.func44, Tryz.ntmps44
    go_wp2_with fail
    go_ret
    exact ⟨rfl, HB.out⟩
  · rw [decide_eq_false he]
    have g : (y == c) = false := by simpa using he
    clear he
    go_enter Tryz.func44, Tryz.ntmps44
    go_wp2_with fail
    go_ret
    exact ⟨rfl, HB.out⟩
def IxPath (l : List (Bs × Nat)) (c : Bs) (w : World) (e : Ending) (w' : World) : Prop := (∃ v : Int, e = .returned (.int .i64 v) ∧ decide (0 ≤ v) = l.any fun y => decide (y.1 = c)) ∧ Below w.heap.size w w'
set_option maxHeartbeats 1000000 in
set_option maxRecDepth 100000 in
theorem indexPath (l : List (Bs × Nat)) (A : Option Addr) (n cap bb : Nat) (c : Bs) (w : World) (hn : l.length = n) (hr : Rd w 2 n A (l.flatMap pathC)) (hc : w.cell? ⟨bb, 0, none⟩ = some (.string ⟨c.toArray⟩)) (hb : bb < w.heap.size) (hm : n ≤ 70000) :
    Calls Tryz.prog 57 #[.slice A n cap, .func (.func 44) #[] #[.pointer (some ⟨bb, 0, none⟩)]] w (IxPath l c w) := by
  have HR := Lib.hid hr
  have HN := Lib.hid hn
  have HC := Lib.hid hc
  clear hr hc
  go_enter Tryz.func57, Tryz.ntmps57
  go_wp2_with fail
  go_loopw [8] (fun iv wr => ∃ k : Nat, iv = .int .i64 k ∧ k ≤ n ∧ Hid (((l.take k).any fun y => decide (y.1 = c)) = false) ∧ Hid (Below w.heap.size w wr)) (fun iv _ => n - (intOf iv).toNat)
  case atStart => exact ⟨0, rfl, Nat.zero_le _, rfl, Below.refl _ _⟩
  case round =>
    obtain ⟨k, rfl, hk, HT, HB⟩ := hrel
    have hbr : bb < wr.heap.size := Nat.lt_of_lt_of_le hb HB.out.size
    by_cases hlt : k < n
    · obtain ⟨x, hx⟩ : ∃ x, l[k]? = some x := ⟨_, List.getElem?_eq_getElem (by omega)⟩
      obtain ⟨b, o, rfl, hbl, hcell⟩ := (HR.out.below HB.out).one (fun _ => rfl) (by omega) (by omega)
      obtain ⟨c0, c1⟩ := two_cells (f := pathC) hcell hx rfl
      have HX := Lib.hid hx
      have hp := closPath x.1 c x.2 bb wr (cell_below HC.out HB.out) hbr
      clear hcell hx
      go_wp2_with fail
      refine hp.mono ?_
      clear hp c0 c1
      rintro e w2 ⟨rfl, hb2⟩
      have HB2 := Lib.hid (HB.out.trans (hb2.mono HB.out.size))
      clear hb2
      cases hq : decide (x.1 = c) with
      | true =>
        have HV := Lib.hid (show decide ((0 : Int) ≤ (k : Int)) = l.any fun y => decide (y.1 = c) by
          rw [decide_eq_true (by omega : (0 : Int) ≤ (k : Int))]
          exact (List.any_eq_true.2 ⟨x, List.mem_of_getElem? HX.out, hq⟩).symm)
        clear hq
        go_wp2_with fail
        go_ret
        exact ⟨⟨_, rfl, HV.out⟩, HB2.out⟩
      | false =>
        have HK := Lib.hid (show ((l.take (k + 1)).any fun y => decide (y.1 = c)) = false by
          rw [List.take_add_one, HX.out, List.any_append, HT.out]; simpa using hq)
        clear hq
        go_wp2_with fail
        go_roundw
        case rel => exact ⟨k + 1, by go_num, by omega, HK, HB2⟩
        case measure => simp [intOf]; omega
    · have HV := Lib.hid (show decide ((0 : Int) ≤ -1) = l.any fun y => decide (y.1 = c) by
        have := HT.out
        rw [List.take_of_length_le (by have := HN.out; omega)] at this
        rw [this]; rfl)
      go_wp2_with fail
      go_ret
      exact ⟨⟨_, rfl, HV.out⟩, HB.out⟩
theorem containsPath (l : List (Bs × Nat)) (A : Option Addr) (n cap bb : Nat) (c : Bs) (w : World) (hn : l.length = n) (hr : Rd w 2 n A (l.flatMap pathC)) (hc : w.cell? ⟨bb, 0, none⟩ = some (.string ⟨c.toArray⟩)) (hb : bb < w.heap.size) (hm : n ≤ 70000) :
    Calls Tryz.prog 43 #[.slice A n cap, .func (.func 44) #[] #[.pointer (some ⟨bb, 0, none⟩)]] w (BoolPost (l.any fun y => decide (y.1 = c)) w) := by
  have hp := indexPath l A n cap bb c w hn hr hc hb hm
  go_enter Tryz.func43, Tryz.ntmps43
  go_wp2_with fail
  refine hp.mono ?_
  clear hp
  rintro e w2 ⟨⟨v, rfl, hv⟩, hb2⟩
  go_wp2_with fail
  go_ret
  refine ⟨?_, hb2⟩
  rw [← hv]
  rfl
set_option maxHeartbeats 4000000 in
set_option maxRecDepth 100000 in
theorem checkPaths (l : List (Bs × Nat)) (v0 v1 v2 v5 : Value) (h : Nat) (A : Option Addr) (n cap : Nat) (w : World) (hn : l.length = n) (hr : Rd w 2 n A (l.flatMap pathC)) (hh : h < 65536) (hx : ∀ x ∈ l, x.1.length ≤ maxLen ∧ x.2 < 65536) (hm : n ≤ 32) (hcap : n ≤ cap) (hE : Env w) :
    Calls Tryz.prog 24 #[.agg #[v0, v1, v2, .int .u16 h, .slice A n cap, v5]] w (RetE (firstE (pathE l h) 0 l) w) := by
  have hbk := Bk.new w 30 #[v0, v1, v2, .int .u16 h, .slice A n cap, v5] (l := [v0, v1, v2, .int .u16 h, .slice A n cap, v5]) rfl
  have hb0 : Below w.heap.size w (w.alloc (.cells #[v0, v1, v2, .int .u16 h, .slice A n cap, v5] 30)) := (Below.refl _ _).alloc (Nat.le_refl _) _
  have HR := Lib.hid (hr.below hb0)
  have HX := Lib.hid hx
  have HN := Lib.hid hn
  have HE := Lib.hid (hE.below hb0)
  clear hr hx hn hE
  go_enter Tryz.func24, Tryz.ntmps24
  go_wp2_with fail
  have hlt0 := hbk.lt
  generalize w.alloc _ = w1 at hbk hb0 hlt0 HR HE ⊢
  have HK := Lib.hid hbk
  have HB0 := Lib.hid hb0
  clear hbk hb0
  go_loopw [8] (fun iv wr => ∃ k : Nat, iv = .int .i64 k ∧ k ≤ n ∧ Hid (firstE (pathE l h) 0 l = firstE (pathE l h) k (l.drop k)) ∧ Hid (Below w1.heap.size w1 wr)) (fun iv _ => n - (intOf iv).toNat)
  case atStart => exact ⟨0, rfl, Nat.zero_le _, rfl, Below.refl _ _⟩
  case round =>
    obtain ⟨k, rfl, hk, HF, HB⟩ := hrel
    by_cases hlt : k < n
    · obtain ⟨x, hx⟩ : ∃ x, l[k]? = some x := ⟨_, List.getElem?_eq_getElem (by have := HN.out; omega)⟩
      have hxok := HX.out x (List.mem_of_getElem? hx)
      obtain ⟨x1, x2⟩ := x
      simp only at hxok
      have HRT := Lib.hid (HR.out.take (fun _ => rfl) (by omega) HN.out k hk)
      obtain ⟨b, o, rfl, hbl, hcell⟩ := (HR.out.below HB.out).one (fun _ => rfl) (by omega) (by omega)
      obtain ⟨c0, c1⟩ := two_cells (f := pathC) hcell hx rfl
      have HXX := Lib.hid hx
      have hbl1 : w.heap.size < wr.heap.size := Nat.lt_of_lt_of_le hlt0 HB.out.size
      clear hcell hx

      have q4 := (HK.out.kept HB.out).cell 4 rfl
      have hpa := fun W E => path_any x1 W hxok.1 E
      go_wp2_with fail
      refine (hpa _ ((HE.out.below HB.out).below (one_alloc wr _))).mono ?_
      clear hpa c0 c1 q4
      rintro e w2 ⟨rfl, hb2⟩
      have hbn := (Bk.new wr 49 #[.string ⟨x1.toArray⟩, .int .u16 x2] (l := [.string ⟨x1.toArray⟩, .int .u16 x2]) rfl).kept hb2
      have n0 := hbn.cell 0 rfl
      have n1 := hbn.cell 1 rfl
      have hnl := hbn.lt
      have HB2 := Lib.hid ((HB.out.alloc HB.out.size (.cells #[.string ⟨x1.toArray⟩, .int .u16 x2] 49)).trans (hb2.mono (by have := HB.out.size; simp; omega)))
      clear hb2 hbn
      cases hp : pathB x1 with
      | false =>
        have HV := Lib.hid (show firstE (pathE l h) 0 l = 203 from HF.out.trans ((firstE_bad (f := pathE l h) HXX.out (by simp [pathE, hp])).trans (by simp [pathE, hp])))
        clear hp
        go_wp2_with fail
        go_ret
        exact ret_of HV.out rfl (HB0.out.trans (HB2.out.mono HB0.out.size))
      | true =>
        have hlx := Nat.lt_of_lt_of_le hlt0 HB2.out.size

        have q0 := (HK.out.kept HB2.out).cell 0 rfl
        have q1 := (HK.out.kept HB2.out).cell 1 rfl
        have q2 := (HK.out.kept HB2.out).cell 2 rfl
        have q3 := (HK.out.kept HB2.out).cell 3 rfl
        have q4 := (HK.out.kept HB2.out).cell 4 rfl
        have q5 := (HK.out.kept HB2.out).cell 5 rfl
        have hgr := fun W => mayGrant_any v0 v1 v2 (.slice (some ⟨b, o, none⟩) n cap) v5 h x2 2047 W hh hxok.2 (by omega)
        go_wp2_with fail
        refine (hgr _).mono ?_
        clear hgr q0 q1 q2 q3 q4 q5
        rintro e w3 ⟨rfl, hb3⟩
        have HB3 := Lib.hid (HB2.out.trans (hb3.mono HB2.out.size))
        have n2 := cell_below n0 hb3
        have hnl3 : wr.heap.size < w3.heap.size := Nat.lt_of_lt_of_le hnl hb3.size
        clear n0 n1 hb3 hnl
        cases hg : grantB h x2 2047 with
        | false =>
          have HV := Lib.hid (show firstE (pathE l h) 0 l = 204 from HF.out.trans ((firstE_bad (f := pathE l h) HXX.out (by simp [pathE, hp, hg])).trans (by simp [pathE, hp, hg])))
          clear hg hp
          go_wp2_with fail
          go_ret
          exact ret_of HV.out rfl (HB0.out.trans (HB3.out.mono HB0.out.size))
        | true =>
          have q4 := (HK.out.kept HB3.out).cell 4 rfl
          have hl3 := Nat.lt_of_lt_of_le hlt0 HB3.out.size
          have hct := Lib.hid (containsPath (l.take k) (some ⟨b, o, none⟩) k cap wr.heap.size x1 w3 (by rw [List.length_take, HN.out]; omega) (HRT.out.below HB3.out) n2 hnl3 (by omega))
          go_wp2_with fail
          refine hct.out.mono ?_
          clear hct q4 n2
          rintro e w4 ⟨rfl, hb4⟩
          have HB4 := Lib.hid (HB3.out.trans (hb4.mono HB3.out.size))
          clear hb4
          cases ha : ((l.take k).any fun y => decide (y.1 = x1)) with
          | true =>
            have he : pathE l h k (x1, x2) = 206 := by unfold pathE; rw [if_neg (by rw [hp]; simp)]; rw [if_neg (by rw [hg]; simp), if_pos ha]
            have HV := Lib.hid (show firstE (pathE l h) 0 l = 206 from HF.out.trans ((firstE_bad (f := pathE l h) HXX.out (by rw [he]; decide)).trans he))
            clear ha hg he hp
            go_wp2_with fail
            go_ret
            exact ret_of HV.out rfl (HB0.out.trans (HB4.out.mono HB0.out.size))
          | false =>
            have he : pathE l h k (x1, x2) = 0 := by unfold pathE; rw [if_neg (by rw [hp]; simp)]; rw [if_neg (by rw [hg]; simp), if_neg (by rw [ha]; simp)]
            have HN2 := Lib.hid (show firstE (pathE l h) 0 l = firstE (pathE l h) (k + 1) (l.drop (k + 1)) from HF.out.trans (firstE_on (f := pathE l h) HXX.out he))
            clear ha hg he hp
            go_wp2_with fail
            go_roundw
            case rel => exact ⟨k + 1, by go_num, by omega, HN2, HB4⟩
            case measure => simp [intOf]; omega
    · have HV := Lib.hid (show firstE (pathE l h) 0 l = 0 from HF.out.trans (firstE_end _ _ (by have := HN.out; omega) _))
      go_wp2_with fail
      go_ret
      exact ret_of HV.out rfl (HB0.out.trans (HB.out.mono HB0.out.size))
set_option maxRecDepth 100000 in
theorem closPort (y c : Nat) (r bb : Nat) (w : World) (hc : w.cell? ⟨bb, 0, none⟩ = some (.int .u16 c)) (hb : bb < w.heap.size) : Calls Tryz.prog 46 #[.agg #[.int .u16 y, .int .u16 r], .pointer (some ⟨bb, 0, none⟩)] w (BoolPost (decide (y = c)) w) := by
  have HB := Lib.hid (show Below w.heap.size w (w.alloc (.cells #[.int .u16 y, .int .u16 r] 51)) from (Below.refl _ _).alloc (Nat.le_refl _) _)
  by_cases he : y = c
  · rw [decide_eq_true he]
    subst he
    go_enter Tryz.func46, Tryz.ntmps46
    go_wp2_with fail
    go_ret
    exact ⟨rfl, HB.out⟩
  · rw [decide_eq_false he]
    have g : ((y : Int) == (c : Int)) = false := by rw [beq_eq_false_iff_ne]; omega
    clear he
    go_enter Tryz.func46, Tryz.ntmps46
    go_wp2_with fail
    go_ret
    exact ⟨rfl, HB.out⟩
def IxPort (l : List (Nat × Nat)) (c : Nat) (w : World) (e : Ending) (w' : World) : Prop := (∃ v : Int, e = .returned (.int .i64 v) ∧ decide (0 ≤ v) = l.any fun y => decide (y.1 = c)) ∧ Below w.heap.size w w'
set_option maxHeartbeats 1000000 in
set_option maxRecDepth 100000 in
theorem indexPort (l : List (Nat × Nat)) (A : Option Addr) (n cap bb : Nat) (c : Nat) (w : World) (hn : l.length = n) (hr : Rd w 2 n A (l.flatMap portC)) (hc : w.cell? ⟨bb, 0, none⟩ = some (.int .u16 c)) (hb : bb < w.heap.size) (hm : n ≤ 70000) :
    Calls Tryz.prog 58 #[.slice A n cap, .func (.func 46) #[] #[.pointer (some ⟨bb, 0, none⟩)]] w (IxPort l c w) := by
  have HR := Lib.hid hr
  have HN := Lib.hid hn
  have HC := Lib.hid hc
  clear hr hc
  go_enter Tryz.func58, Tryz.ntmps58
  go_wp2_with fail
  go_loopw [8] (fun iv wr => ∃ k : Nat, iv = .int .i64 k ∧ k ≤ n ∧ Hid (((l.take k).any fun y => decide (y.1 = c)) = false) ∧ Hid (Below w.heap.size w wr)) (fun iv _ => n - (intOf iv).toNat)
  case atStart => exact ⟨0, rfl, Nat.zero_le _, rfl, Below.refl _ _⟩
  case round =>
    obtain ⟨k, rfl, hk, HT, HB⟩ := hrel
    have hbr : bb < wr.heap.size := Nat.lt_of_lt_of_le hb HB.out.size
    by_cases hlt : k < n
    · obtain ⟨x, hx⟩ : ∃ x, l[k]? = some x := ⟨_, List.getElem?_eq_getElem (by omega)⟩
      obtain ⟨b, o, rfl, hbl, hcell⟩ := (HR.out.below HB.out).one (fun _ => rfl) (by omega) (by omega)
      obtain ⟨c0, c1⟩ := two_cells (f := portC) hcell hx rfl
      have HX := Lib.hid hx
      have hp := closPort x.1 c x.2 bb wr (cell_below HC.out HB.out) hbr
      clear hcell hx
      go_wp2_with fail
      refine hp.mono ?_
      clear hp c0 c1
      rintro e w2 ⟨rfl, hb2⟩
      have HB2 := Lib.hid (HB.out.trans (hb2.mono HB.out.size))
      clear hb2
      cases hq : decide (x.1 = c) with
      | true =>
        have HV := Lib.hid (show decide ((0 : Int) ≤ (k : Int)) = l.any fun y => decide (y.1 = c) by
          rw [decide_eq_true (by omega : (0 : Int) ≤ (k : Int))]
          exact (List.any_eq_true.2 ⟨x, List.mem_of_getElem? HX.out, hq⟩).symm)
        clear hq
        go_wp2_with fail
        go_ret
        exact ⟨⟨_, rfl, HV.out⟩, HB2.out⟩
      | false =>
        have HK := Lib.hid (show ((l.take (k + 1)).any fun y => decide (y.1 = c)) = false by
          rw [List.take_add_one, HX.out, List.any_append, HT.out]; simpa using hq)
        clear hq
        go_wp2_with fail
        go_roundw
        case rel => exact ⟨k + 1, by go_num, by omega, HK, HB2⟩
        case measure => simp [intOf]; omega
    · have HV := Lib.hid (show decide ((0 : Int) ≤ -1) = l.any fun y => decide (y.1 = c) by
        have := HT.out
        rw [List.take_of_length_le (by have := HN.out; omega)] at this
        rw [this]; rfl)
      go_wp2_with fail
      go_ret
      exact ⟨⟨_, rfl, HV.out⟩, HB.out⟩
theorem containsPort (l : List (Nat × Nat)) (A : Option Addr) (n cap bb : Nat) (c : Nat) (w : World) (hn : l.length = n) (hr : Rd w 2 n A (l.flatMap portC)) (hc : w.cell? ⟨bb, 0, none⟩ = some (.int .u16 c)) (hb : bb < w.heap.size) (hm : n ≤ 70000) :
    Calls Tryz.prog 45 #[.slice A n cap, .func (.func 46) #[] #[.pointer (some ⟨bb, 0, none⟩)]] w (BoolPost (l.any fun y => decide (y.1 = c)) w) := by
  have hp := indexPort l A n cap bb c w hn hr hc hb hm
  go_enter Tryz.func45, Tryz.ntmps45
  go_wp2_with fail
  refine hp.mono ?_
  clear hp
  rintro e w2 ⟨⟨v, rfl, hv⟩, hb2⟩
  go_wp2_with fail
  go_ret
  refine ⟨?_, hb2⟩
  rw [← hv]
  rfl
set_option maxHeartbeats 4000000 in
set_option maxRecDepth 100000 in
theorem checkPorts (l : List (Nat × Nat)) (v0 v1 v2 v4 : Value) (h : Nat) (A : Option Addr) (n cap : Nat) (w : World) (hn : l.length = n) (hr : Rd w 2 n A (l.flatMap portC)) (hh : h < 65536) (hx : ∀ x ∈ l, x.1 < 65536 ∧ x.2 < 65536) (hm : n ≤ 32) (hcap : n ≤ cap) :
    Calls Tryz.prog 25 #[.agg #[v0, v1, v2, .int .u16 h, v4, .slice A n cap]] w (RetE (firstE (portE l h) 0 l) w) := by
  have hbk := Bk.new w 30 #[v0, v1, v2, .int .u16 h, v4, .slice A n cap] (l := [v0, v1, v2, .int .u16 h, v4, .slice A n cap]) rfl
  have hb0 : Below w.heap.size w (w.alloc (.cells #[v0, v1, v2, .int .u16 h, v4, .slice A n cap] 30)) := (Below.refl _ _).alloc (Nat.le_refl _) _
  have HR := Lib.hid (hr.below hb0)
  have HX := Lib.hid hx
  have HN := Lib.hid hn
  clear hr hx hn
  go_enter Tryz.func25, Tryz.ntmps25
  go_wp2_with fail
  have hlt0 := hbk.lt
  generalize w.alloc _ = w1 at hbk hb0 hlt0 HR ⊢
  have HK := Lib.hid hbk
  have HB0 := Lib.hid hb0
  clear hbk hb0
  go_loopw [8] (fun iv wr => ∃ k : Nat, iv = .int .i64 k ∧ k ≤ n ∧ Hid (firstE (portE l h) 0 l = firstE (portE l h) k (l.drop k)) ∧ Hid (Below w1.heap.size w1 wr)) (fun iv _ => n - (intOf iv).toNat)
  case atStart => exact ⟨0, rfl, Nat.zero_le _, rfl, Below.refl _ _⟩
  case round =>
    obtain ⟨k, rfl, hk, HF, HB⟩ := hrel
    by_cases hlt : k < n
    · obtain ⟨x, hx⟩ : ∃ x, l[k]? = some x := ⟨_, List.getElem?_eq_getElem (by have := HN.out; omega)⟩
      have hxok := HX.out x (List.mem_of_getElem? hx)
      obtain ⟨x1, x2⟩ := x
      simp only at hxok
      have HRT := Lib.hid (HR.out.take (fun _ => rfl) (by omega) HN.out k hk)
      obtain ⟨b, o, rfl, hbl, hcell⟩ := (HR.out.below HB.out).one (fun _ => rfl) (by omega) (by omega)
      obtain ⟨c0, c1⟩ := two_cells (f := portC) hcell hx rfl
      have HXX := Lib.hid hx
      have hbl1 : w.heap.size < wr.heap.size := Nat.lt_of_lt_of_le hlt0 HB.out.size
      clear hcell hx

      have q5 := (HK.out.kept HB.out).cell 5 rfl
      clear q5
      have q0 := (HK.out.kept HB.out).cell 0 rfl
      have q1 := (HK.out.kept HB.out).cell 1 rfl
      have q2 := (HK.out.kept HB.out).cell 2 rfl
      have q3 := (HK.out.kept HB.out).cell 3 rfl
      have q4 := (HK.out.kept HB.out).cell 4 rfl
      have q5 := (HK.out.kept HB.out).cell 5 rfl
      have hgr := fun W => mayGrant_any v0 v1 v2 v4 (.slice (some ⟨b, o, none⟩) n cap) h x2 49152 W hh hxok.2 (by omega)
      go_wp2_with fail
      refine (hgr _).mono ?_
      clear hgr q0 q1 q2 q3 q4 q5
      rintro e w3 ⟨rfl, hb3⟩
      have HB3 := Lib.hid ((HB.out.alloc HB.out.size (.cells #[.int .u16 x1, .int .u16 x2] 51)).trans (hb3.mono (by have := HB.out.size; simp; omega)))
      have hbn := (Bk.new wr 51 #[.int .u16 x1, .int .u16 x2] (l := [.int .u16 x1, .int .u16 x2]) rfl).kept hb3
      have n2 := hbn.cell 0 rfl
      have hnl3 := hbn.lt
      clear c0 c1 hbn hb3
      cases hg : grantB h x2 49152 with
      | false =>
        have HV := Lib.hid (show firstE (portE l h) 0 l = 204 from HF.out.trans ((firstE_bad (f := portE l h) HXX.out (by simp [portE, hg])).trans (by simp [portE, hg])))
        clear hg
        go_wp2_with fail
        go_ret
        exact ret_of HV.out rfl (HB0.out.trans (HB3.out.mono HB0.out.size))
      | true =>
        have q5 := (HK.out.kept HB3.out).cell 5 rfl
        have hl3 := Nat.lt_of_lt_of_le hlt0 HB3.out.size
        have hct := Lib.hid (containsPort (l.take k) (some ⟨b, o, none⟩) k cap wr.heap.size x1 w3 (by rw [List.length_take, HN.out]; omega) (HRT.out.below HB3.out) n2 hnl3 (by omega))
        go_wp2_with fail
        refine hct.out.mono ?_
        clear hct q5 n2
        rintro e w4 ⟨rfl, hb4⟩
        have HB4 := Lib.hid (HB3.out.trans (hb4.mono HB3.out.size))
        clear hb4
        cases ha : ((l.take k).any fun y => decide (y.1 = x1)) with
        | true =>
          have he : portE l h k (x1, x2) = 206 := by unfold portE; rw [if_neg (by rw [hg]; simp), if_pos ha]
          have HV := Lib.hid (show firstE (portE l h) 0 l = 206 from HF.out.trans ((firstE_bad (f := portE l h) HXX.out (by rw [he]; decide)).trans he))
          clear ha hg he
          go_wp2_with fail
          go_ret
          exact ret_of HV.out rfl (HB0.out.trans (HB4.out.mono HB0.out.size))
        | false =>
          have he : portE l h k (x1, x2) = 0 := by unfold portE; rw [if_neg (by rw [hg]; simp), if_neg (by rw [ha]; simp)]
          have HN2 := Lib.hid (show firstE (portE l h) 0 l = firstE (portE l h) (k + 1) (l.drop (k + 1)) from HF.out.trans (firstE_on (f := portE l h) HXX.out he))
          clear ha hg he
          go_wp2_with fail
          go_roundw
          case rel => exact ⟨k + 1, by go_num, by omega, HN2, HB4⟩
          case measure => simp [intOf]; omega
    · have HV := Lib.hid (show firstE (portE l h) 0 l = 0 from HF.out.trans (firstE_end _ _ (by have := HN.out; omega) _))
      go_wp2_with fail
      go_ret
      exact ret_of HV.out rfl (HB0.out.trans (HB.out.mono HB0.out.size))
end Go.Proofs.YtonpakndocgndaaGreatDoor
