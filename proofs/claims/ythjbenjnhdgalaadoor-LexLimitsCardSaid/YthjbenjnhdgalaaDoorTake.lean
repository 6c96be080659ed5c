/- The bytes of a kind from a place on: how a word is cut. -/
import Derived.Test.YthjbenjnhdgalaaDoorBytesP
import Derived.Test.YthjbenjnhdgalaaDoorTxtB
import Derived.Deep.LoopGhost
import Derived.WalkMore
namespace Go.Proofs.YthjbenjnhdgalaaDoor
open Go.RowKit
theorem str_index (s : ByteArray) (k : Nat) (h : k < s.size) (W : World) : (Instr.index 9 (.string s) (.int .i64 (k : Int))).run Tryd.prog W = .ok (.int .u8 ((s[k]'h).toNat : Int)) W := by
  simp [go_sem, h]
theorem idx_at (s : Bs) (k : Nat) (c : UInt8) (h : s[k]? = some c) (W : World) : (Instr.index 9 (.string ⟨s.toArray⟩) (.int .i64 (k : Int))).run Tryd.prog W = .ok (.int .u8 (c.toNat : Int)) W := by
  obtain ⟨h1, h2⟩ := List.getElem?_eq_some_iff.1 h
  have := str_index ⟨s.toArray⟩ k (by rw [Lib.size_eq]; simpa using h1) W
  rw [this]
  have e : (⟨s.toArray⟩ : ByteArray)[k]'(by rw [Lib.size_eq]; simpa using h1) = s[k]'h1 := rfl
  rw [e, h2]
theorem tw_get {p : Nat → Bool} {u : Bs} {j : Nat} (h : j < (tw p u).length) : ∃ c, u[j]? = some c ∧ p c.toNat = true := by
  refine ⟨(tw p u)[j], ?_, tw_all p u _ (List.getElem_mem h)⟩
  have h1 : (tw p u ++ dw p u)[j]? = u[j]? := by rw [tw_dw]
  rw [List.getElem?_append_left h] at h1
  rw [← h1, List.getElem?_eq_getElem h]
theorem dw_head {p : Nat → Bool} (u : Bs) {c : UInt8} {r : Bs} (h : dw p u = c :: r) : p c.toNat = false := by
  unfold dw at h
  induction u with
  | nil => simp at h
  | cons x u ih =>
    rw [List.dropWhile_cons] at h
    split at h
    · exact ih h
    · rename_i hx; simp only [List.cons.injEq] at h; obtain ⟨rfl, _⟩ := h; simpa using hx
theorem tw_end {p : Nat → Bool} (u : Bs) : (u.length = (tw p u).length) ∨ ∃ c, u[(tw p u).length]? = some c ∧ p c.toNat = false := by
  cases hd : dw p u with
  | nil => left; have := congrArg List.length (tw_dw p u); rw [hd] at this; simpa using this.symm
  | cons c r =>
    right
    refine ⟨c, ?_, dw_head u hd⟩
    have h1 : (tw p u ++ dw p u)[(tw p u).length]? = u[(tw p u).length]? := by rw [tw_dw]
    rw [← h1, hd, List.getElem?_append_right (Nat.le_refl _)]
    simp
theorem ext_tw (p : Nat → Bool) (s : Bs) (a : Nat) : (⟨s.toArray⟩ : ByteArray).extract a (a + (tw p (s.drop a)).length) = ⟨(tw p (s.drop a)).toArray⟩ := by
  apply ByteArray.ext
  apply Array.toList_inj.1
  rw [Lib.extract_data]
  have h : s.drop a = tw p (s.drop a) ++ dw p (s.drop a) := (tw_dw p _).symm
  have e : ((⟨s.toArray⟩ : ByteArray).data.toList) = s := rfl
  rw [e]
  generalize tw p (s.drop a) = t at h
  rw [Nat.add_sub_cancel_left, h]
  simp
def TakePost (p : Nat → Bool) (s : Bs) (a ba : Nat) (w : World) (e : Ending) (w' : World) : Prop :=
  e = .returned (.string ⟨(tw p (s.drop a)).toArray⟩) ∧ Bk w' ba 3 [.int .i64 ((a + (tw p (s.drop a)).length : Nat) : Int)] ∧ w.grownBy w' (some ba)
set_option maxHeartbeats 1000000 in
theorem take_parts (s : Bs) (a ba bt : Nat) (w : World) (hs : s.length ≤ 70000) (ha : a ≤ s.length) (hA : Bk w ba 3 [.int .i64 (a : Int)]) (hT : Bk w bt 9 [.string ⟨s.toArray⟩]) (hne : bt ≠ ba)
    (hM : ∀ (c : Nat) (W : World), c < 256 → Calls Tryd.prog 45 #[.int .u8 c] W (Says (isP c) W)) :
    Calls Tryd.prog 43 #[.func (.func 45) #[] #[], .pointer (some ⟨ba, 0, none⟩), .pointer (some ⟨bt, 0, none⟩)] w (TakePost (isP) s a ba w) := by
  obtain ⟨n, hn⟩ : ∃ n, n = (tw (isP) (s.drop a)).length := ⟨_, rfl⟩
  have Hnl := Lib.hid (show a + n ≤ s.length by have := tw_len (isP) (s.drop a); rw [List.length_drop] at this; omega)
  have Hget := Lib.hid (show ∀ j, j < n → ∃ c, s[a + j]? = some c ∧ (isP) c.toNat = true from fun j hj => by
    obtain ⟨c, h1, h2⟩ := tw_get (hn ▸ hj)
    rw [List.getElem?_drop] at h1
    exact ⟨c, h1, h2⟩)
  have Hend := Lib.hid (show s.length = a + n ∨ ∃ c, s[a + n]? = some c ∧ (isP) c.toNat = false by
    have := tw_end (p := isP) (s.drop a)
    rw [← hn, List.length_drop, List.getElem?_drop] at this
    exact this.imp (fun h => by omega) id)
  have Hx := Lib.hid (ext_tw (isP) s a)
  have hsz : (⟨s.toArray⟩ : ByteArray).size = s.length := by rw [Lib.size_eq]
  unfold TakePost
  rw [← hn] at Hx ⊢
  have HM := Lib.hid hM
  have HA := Lib.hid hA
  have HT := Lib.hid hT
  have Hne := Lib.hid hne
  have hcA := hA.cell 0 rfl
  have hcT := hT.cell 0 rfl
  have Hn := Lib.hid hn
  clear hA hT hM hn hne
  go_enter Tryd.func43, Tryd.ntmps43
  go_wp2_with fail
  clear hcA hcT
  go_loopg [] n (fun g wx => ∃ m : Nat, Hid (m + g = a + n) ∧ a ≤ m ∧ Hid (Bk wx ba 3 [.int .i64 (m : Int)]) ∧ Hid (w.grownBy wx (some ba)))
  case atStart => exact ⟨a, rfl, Nat.le_refl _, HA.out, only_refl _ _⟩
  case round =>
    obtain ⟨m, hm, ham, Hb, Hg⟩ := hrel
    have hcA := Hb.out.cell 0 rfl
    have hcT := (HT.out.grown Hg.out (fun e => Hne.out (Option.some.inj e))).cell 0 rfl
    have hfA := Hb.out.fz 0
    cases gk with
    | zero =>
      obtain ⟨q, hq⟩ : ∃ q, q = a + n := ⟨_, rfl⟩
      obtain rfl : m = q := by have := hm.out; omega
      rw [← hq] at Hend Hx
      have Hq := Lib.hid hq
      clear hq
      have hms : m ≤ s.length := by have := Hq.out; have := Hnl.out; omega
      rcases Hend.out with he | ⟨c, hc, hpc⟩
      · have hlt : ¬ m < s.length := by omega
        have hA1 := Hx.out
        go_wp2_with fail
        go_ret
        exact ⟨rfl, by rw [← Hq.out]; exact Hb.out, Hg.out⟩
      · have hidx := fun W => idx_at s m c hc W
        have hlt : m < s.length := (List.getElem?_eq_some_iff.1 hc).1
        have Hm := Lib.hid (fun W => HM.out c.toNat W c.toNat_lt)
        rw [hpc] at Hm
        clear hc hpc
        go_wp2_with fail
        refine (Hm.out _).mono ?_
        rintro e w' ⟨rfl, rfl⟩
        go_wp2_with fail
        go_ret
        exact ⟨by rw [← Hx.out]; rfl, by rw [← Hq.out]; exact Hb.out, Hg.out⟩
    | succ g =>
      obtain ⟨j, hj⟩ : ∃ j, m = a + j := ⟨m - a, by omega⟩
      obtain ⟨c, hc, hpc⟩ := Hget.out j (by have := hm.out; omega)
      rw [← hj] at hc
      have hidx := fun W => idx_at s m c hc W
      clear hj
      have hlt : m < s.length := (List.getElem?_eq_some_iff.1 hc).1
      have Hm := Lib.hid (fun W => HM.out c.toNat W c.toNat_lt)
      rw [hpc] at Hm
      clear hc hpc
      go_wp2_with fail
      refine (Hm.out _).mono ?_
      rintro e w' ⟨rfl, rfl⟩
      go_wp2_with fail
      go_roundg g
      case rel => exact ⟨m + 1, by have := hm.out; show m + 1 + g = a + n; omega, by omega, Hb.out.set 0 _, only_trans Hg.out (only_set _ _ _ _)⟩
      case measure => omega
set_option maxHeartbeats 1000000 in
theorem take_has (k : Nat) (s : Bs) (a ba bt : Nat) (w : World) (hs : s.length ≤ 70000) (ha : a ≤ s.length) (hA : Bk w ba 3 [.int .i64 (a : Int)]) (hT : Bk w bt 9 [.string ⟨s.toArray⟩]) (hne : bt ≠ ba)
    (hM : ∀ (c : Nat) (W : World), c < 256 → Calls Tryd.prog 47 #[.int .u8 k, .int .u8 c] W (Says (hasB k c) W)) :
    Calls Tryd.prog 43 #[.func (.func 47) #[.int .u8 k] #[], .pointer (some ⟨ba, 0, none⟩), .pointer (some ⟨bt, 0, none⟩)] w (TakePost (hasB k) s a ba w) := by
  obtain ⟨n, hn⟩ : ∃ n, n = (tw (hasB k) (s.drop a)).length := ⟨_, rfl⟩
  have Hnl := Lib.hid (show a + n ≤ s.length by have := tw_len (hasB k) (s.drop a); rw [List.length_drop] at this; omega)
  have Hget := Lib.hid (show ∀ j, j < n → ∃ c, s[a + j]? = some c ∧ (hasB k) c.toNat = true from fun j hj => by
    obtain ⟨c, h1, h2⟩ := tw_get (hn ▸ hj)
    rw [List.getElem?_drop] at h1
    exact ⟨c, h1, h2⟩)
  have Hend := Lib.hid (show s.length = a + n ∨ ∃ c, s[a + n]? = some c ∧ (hasB k) c.toNat = false by
    have := tw_end (p := hasB k) (s.drop a)
    rw [← hn, List.length_drop, List.getElem?_drop] at this
    exact this.imp (fun h => by omega) id)
  have Hx := Lib.hid (ext_tw (hasB k) s a)
  have hsz : (⟨s.toArray⟩ : ByteArray).size = s.length := by rw [Lib.size_eq]
  unfold TakePost
  rw [← hn] at Hx ⊢
  have HM := Lib.hid hM
  have HA := Lib.hid hA
  have HT := Lib.hid hT
  have Hne := Lib.hid hne
  have hcA := hA.cell 0 rfl
  have hcT := hT.cell 0 rfl
  have Hn := Lib.hid hn
  clear hA hT hM hn hne
  go_enter Tryd.func43, Tryd.ntmps43
  go_wp2_with fail
  clear hcA hcT
  go_loopg [] n (fun g wx => ∃ m : Nat, Hid (m + g = a + n) ∧ a ≤ m ∧ Hid (Bk wx ba 3 [.int .i64 (m : Int)]) ∧ Hid (w.grownBy wx (some ba)))
  case atStart => exact ⟨a, rfl, Nat.le_refl _, HA.out, only_refl _ _⟩
  case round =>
    obtain ⟨m, hm, ham, Hb, Hg⟩ := hrel
    have hcA := Hb.out.cell 0 rfl
    have hcT := (HT.out.grown Hg.out (fun e => Hne.out (Option.some.inj e))).cell 0 rfl
    have hfA := Hb.out.fz 0
    cases gk with
    | zero =>
      obtain ⟨q, hq⟩ : ∃ q, q = a + n := ⟨_, rfl⟩
      obtain rfl : m = q := by have := hm.out; omega
      rw [← hq] at Hend Hx
      have Hq := Lib.hid hq
      clear hq
      have hms : m ≤ s.length := by have := Hq.out; have := Hnl.out; omega
      rcases Hend.out with he | ⟨c, hc, hpc⟩
      · have hlt : ¬ m < s.length := by omega
        have hA1 := Hx.out
        go_wp2_with fail
        go_ret
        exact ⟨rfl, by rw [← Hq.out]; exact Hb.out, Hg.out⟩
      · have hidx := fun W => idx_at s m c hc W
        have hlt : m < s.length := (List.getElem?_eq_some_iff.1 hc).1
        have Hm := Lib.hid (fun W => HM.out c.toNat W c.toNat_lt)
        rw [hpc] at Hm
        clear hc hpc
        go_wp2_with fail
        refine (Hm.out _).mono ?_
        rintro e w' ⟨rfl, rfl⟩
        go_wp2_with fail
        go_ret
        exact ⟨by rw [← Hx.out]; rfl, by rw [← Hq.out]; exact Hb.out, Hg.out⟩
    | succ g =>
      obtain ⟨j, hj⟩ : ∃ j, m = a + j := ⟨m - a, by omega⟩
      obtain ⟨c, hc, hpc⟩ := Hget.out j (by have := hm.out; omega)
      rw [← hj] at hc
      have hidx := fun W => idx_at s m c hc W
      clear hj
      have hlt : m < s.length := (List.getElem?_eq_some_iff.1 hc).1
      have Hm := Lib.hid (fun W => HM.out c.toNat W c.toNat_lt)
      rw [hpc] at Hm
      clear hc hpc
      go_wp2_with fail
      refine (Hm.out _).mono ?_
      rintro e w' ⟨rfl, rfl⟩
      go_wp2_with fail
      go_roundg g
      case rel => exact ⟨m + 1, by have := hm.out; show m + 1 + g = a + n; omega, by omega, Hb.out.set 0 _, only_trans Hg.out (only_set _ _ _ _)⟩
      case measure => omega
end Go.Proofs.YthjbenjnhdgalaaDoor
