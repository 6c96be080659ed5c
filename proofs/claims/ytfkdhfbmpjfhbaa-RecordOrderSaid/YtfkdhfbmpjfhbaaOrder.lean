/- However actions are put together, the first of the strongest kind counts. -/
import Derived.Test.YtfkdhfbmpjfhbaaAct
import Derived.Test.YtfkdhfbmpjfhbaaBk
import Derived.OpenShut
import Derived.ChangeSlices
namespace Go.Proofs.Ytfkdhfbmpjfhbaa
open Go.RowKit
/-- Numbers that stand in a block from a place on. -/
def Nums (w : World) (b o : Nat) (l : List Nat) : Prop := ∀ (j x : Nat), l[j]? = some x → w.cell? ⟨b, o + j, none⟩ = some (.int .u32 x)
theorem Nums.at_ {w : World} {b o : Nat} {l : List Nat} (h : Nums w b o l) (j : Nat) (hj : j < l.length) : ∃ x, l[j]? = some x ∧ w.cell? ⟨b, o + j, none⟩ = some (.int .u32 x) :=
  ⟨l[j], List.getElem?_eq_getElem hj, h j _ (List.getElem?_eq_getElem hj)⟩
theorem Nums.take {w : World} {b o : Nat} {l : List Nat} (h : Nums w b o l) (k : Nat) : Nums w b o (l.take k) := fun j x hx => by
  rw [List.getElem?_take] at hx
  split at hx
  · exact h j x hx
  · cases hx
theorem Nums.drop {w : World} {b o : Nat} {l : List Nat} (h : Nums w b o l) (k : Nat) : Nums w b (o + k) (l.drop k) := fun j x hx => by
  rw [List.getElem?_drop] at hx
  rw [Nat.add_assoc]; exact h _ x hx
theorem take_more {l : List Nat} {k x : Nat} (h : l[k]? = some x) : l.take (k + 1) = l.take k ++ [x] := by
  obtain ⟨h1, h2⟩ := List.getElem?_eq_some_iff.1 h
  rw [List.take_succ_eq_append_getElem h1, h2]
theorem take_ne {l : List Nat} (h : 0 < l.length) (k : Nat) : l.take (k + 1) ≠ [] := by
  intro e
  have h1 := congrArg List.length e
  rw [List.length_take, List.length_nil] at h1
  omega
set_option maxRecDepth 100000 in
set_option maxHeartbeats 1000000 in
theorem fold_any (l : List Nat) (m b o cap : Nat) (w : World) (hl : l.length = m + 1) (hok : ∀ x ∈ l, x < 4294967296) (hr : Nums w b o l) (hm : m < 40) (hc : m + 1 ≤ cap) :
    Calls Try.prog 19 #[.slice (some ⟨b, o, none⟩) (m + 1) cap] w fun e w' => e = .returned (.int .u32 (foldS l : Nat)) ∧ w = w' := by
  obtain ⟨a, ha, hca⟩ := hr.at_ 0 (by omega)
  rw [Nat.add_zero] at hca
  have Hl := Lib.hid hl
  have Hok := Lib.hid hok
  have Hr := Lib.hid hr
  have H1 := Lib.hid (show foldS (l.take 1) = a by
    rw [take_more ha, List.take_zero]; rfl)
  clear hl hok hr ha
  by_cases h1 : cap = 1
  · subst h1
    obtain rfl : m = 0 := by omega
    have He := Lib.hid (show foldS l = a by
      rw [← H1.out, List.take_of_length_le (by have := Hl.out; omega)])
    go_enter Try.func19, Try.ntmps19
    go_wp2_with fail
    go_loop [3, 12] (fun v i => v = .int .u32 a ∧ i = .int .i64 0) (fun _ _ => 0)
    case atStart => exact ⟨rfl, rfl⟩
    case round =>
      obtain ⟨rfl, rfl⟩ := hrel
      go_wp2_with fail
      go_ret
      exact ⟨by rw [He.out]; rfl, rfl⟩
  · go_enter Try.func19, Try.ntmps19
    go_wp2_with fail
    go_loop [3, 12] (fun v i => ∃ k y : Nat, k ≤ m ∧ i = .int .i64 k ∧ v = .int .u32 y ∧ Hid (y = foldS (l.take (k + 1)))) (fun _ i => m - (intOf i).toNat)
    case atStart => exact ⟨0, a, by omega, rfl, rfl, Lib.hid H1.out.symm⟩
    case round =>
      obtain ⟨k, y, hk, rfl, rfl, Hy⟩ := hrel
      by_cases hlt : k < m
      · obtain ⟨x, hx, hcx⟩ := Hr.out.at_ (k + 1) (by have := Hl.out; omega)
        have hxl := Hok.out x (List.mem_of_getElem? hx)
        have hyl : y < 4294967296 := by
          rw [Hy.out]
          exact foldS_lt (fun z hz => Hok.out z (List.mem_of_mem_take hz)) (take_ne (by have := Hl.out; omega) k)
        have hs : foldS (l.take (k + 1 + 1)) = stg y x := by
          rw [take_more hx, foldS_snoc _ _ (take_ne (by have := Hl.out; omega) k), Hy.out]
        have hcx' : w.cell? ⟨b, o + 1 + k, none⟩ = some (.int .u32 x) := by rw [Nat.add_assoc, Nat.add_comm 1 k]; exact hcx
        have C := Lib.hid (fun w => stronger_any y x w hyl hxl)
        have Hs := Lib.hid hs
        clear hx hs hcx
        go_wp2_with fail
        refine (C.out _).mono ?_
        rintro e w' ⟨rfl, rfl⟩
        go_wp2_with fail
        go_round
        case rel => exact ⟨k + 1, _, by omega, by go_num, rfl, Lib.hid Hs.out.symm⟩
        case measure => simp [intOf]; omega
      · obtain rfl : k = m := by omega
        have He := Lib.hid (show foldS l = y by
          rw [Hy.out, List.take_of_length_le (by have := Hl.out; omega)])
        go_wp2_with fail
        go_ret
        exact ⟨by rw [He.out]; rfl, rfl⟩
/-- What is asked of the list at a place ahead of the first of the strongest, and there. -/
theorem first_of (l : List Nat) (hn : l ≠ []) : ∃ j, j < l.length ∧ l[j]? = some (foldS l) ∧ ∀ (i x : Nat), i < j → l[i]? = some x → strN x < strN (foldS l) := by
  obtain ⟨j, h1, h2, _⟩ := foldS_first l hn
  exact ⟨j, (List.getElem?_eq_some_iff.1 h1).1, h1, h2⟩
set_option maxRecDepth 100000 in
set_option maxHeartbeats 2000000 in
theorem order_any (l : List Nat) (n b o cap c : Nat) (w : World) (hl : l.length = n) (hok : ∀ x ∈ l, x < 4294967296) (hr : Nums w b o l) (h0 : 0 < n) (h40 : n ≤ 40) (hc : n ≤ cap) (hcut : c < 256) :
    Calls Try.prog 6 #[.slice (some ⟨b, o, none⟩) n cap, .int .u8 c] w (Yes w) := by
  have hne : l ≠ [] := by intro e; rw [e] at hl; simp at hl; omega
  obtain ⟨j, hj, hja, hfirst⟩ := first_of l hne
  have hall := @stg_all l hne
  have Hfold := Lib.hid (show ∀ w', Nums w' b o l → Calls Try.prog 19 #[.slice (some ⟨b, o, none⟩) n cap] w' fun e w'' => e = .returned (.int .u32 (foldS l : Nat)) ∧ w' = w'' from fun w' hw => by
    obtain ⟨m, rfl⟩ : ∃ m, n = m + 1 := ⟨n - 1, by omega⟩
    exact fold_any l m b o cap w' hl hok hw (by omega) hc)
  have hAlt := foldS_lt hok hne
  obtain ⟨q, hq⟩ : ∃ q, q = c % n := ⟨_, rfl⟩
  have hqn : q < n := by rw [hq]; exact Nat.mod_lt _ h0
  have hqi : (c : Int) % (n : Int) = q := by rw [hq]; rfl
  have Hparts := Lib.hid (show 0 < q → ∀ w', Nums w' b o l → (Calls Try.prog 19 #[.slice (some ⟨b, o, none⟩) q cap] w' fun e w'' => e = .returned (.int .u32 (foldS (l.take q) : Nat)) ∧ w' = w'') ∧
      (Calls Try.prog 19 #[.slice (some ⟨b, o + q, none⟩) (n - q) (cap - q)] w' fun e w'' => e = .returned (.int .u32 (foldS (l.drop q) : Nat)) ∧ w' = w'') ∧
      (Calls Try.prog 17 #[.int .u32 (foldS (l.take q) : Nat), .int .u32 (foldS (l.drop q) : Nat)] w' fun e w'' => e = .returned (.int .u32 (foldS l : Nat)) ∧ w' = w'') from fun hq0 w' hw => by
    refine ⟨?_, ?_, ?_⟩
    · obtain ⟨m, rfl⟩ : ∃ m, q = m + 1 := ⟨q - 1, by omega⟩
      exact fold_any (l.take (m + 1)) m b o cap w' (by simp; omega) (fun x hx => hok x (List.mem_of_mem_take hx)) (hw.take _) (by omega) (by omega)
    · obtain ⟨m, hm⟩ : ∃ m, n - q = m + 1 := ⟨n - q - 1, by omega⟩
      rw [hm]
      exact fold_any (l.drop q) m b (o + q) (cap - q) w' (by simp; omega) (fun x hx => hok x (List.mem_of_mem_drop hx)) (hw.drop _) (by omega) (by omega)
    · have h1 : l.take q ≠ [] := by
        intro e; have := congrArg List.length e; rw [List.length_take, List.length_nil] at this; omega
      have h2 : l.drop q ≠ [] := by
        intro e; have := congrArg List.length e; rw [List.length_drop, List.length_nil] at this; omega
      have h3 := foldS_append _ _ h1 h2
      rw [List.take_append_drop] at h3
      rw [h3]
      exact stronger_any _ _ w' (foldS_lt (fun x hx => hok x (List.mem_of_mem_take hx)) h1) (foldS_lt (fun x hx => hok x (List.mem_of_mem_drop hx)) h2))
  obtain ⟨A, hA⟩ : ∃ A, A = foldS l := ⟨_, rfl⟩
  rw [← hA] at hja hfirst hall hAlt Hfold Hparts
  obtain ⟨f1, hf1⟩ : ∃ f, f = foldS (l.take q) := ⟨_, rfl⟩
  obtain ⟨f2, hf2⟩ : ∃ f, f = foldS (l.drop q) := ⟨_, rfl⟩
  rw [← hf1, ← hf2] at Hparts
  have Hl := Lib.hid hl
  have Hok := Lib.hid hok
  have Hr := Lib.hid hr
  have Hj := Lib.hid hja
  have Hfirst := Lib.hid hfirst
  have Hall := Lib.hid (fun x hx => @hall x hx)
  have hjn : j < n := by omega
  have KA := Lib.hid (fun w => kind_any A w hAlt)
  have Hq := Lib.hid hq
  have hg1 : ((n : Int) == 0) = false := by simp; omega
  have hg2 : ¬ (40 : Int) < (n : Int) := by omega
  have hg3 : (n : Int) ≤ 40 := by omega
  clear hl hok hr hja hfirst hall hA hf1 hf2 hq hne hj
  go_enter Try.func6, Try.ntmps6
  go_wp2_with fail
  refine (awake_any _).mono ?_
  rintro e1 w' ⟨rfl, rfl⟩
  go_wp2_with fail
  refine (Hfold.out _ Hr.out).mono ?_
  rintro e1 w' ⟨rfl, rfl⟩
  go_wp2_with fail
  go_loop [25] (fun i => ∃ k : Nat, k ≤ j ∧ i = .int .i64 k) (fun i => n - (intOf i).toNat)
  case atStart => exact ⟨0, by omega, rfl⟩
  case round =>
    obtain ⟨k, hk, rfl⟩ := hrel
    have hkn : k < n := by omega
    obtain ⟨x, hx, hcx⟩ := Hr.out.at_ k (by have := Hl.out; omega)
    have hxl := Hok.out x (List.mem_of_getElem? hx)
    have hst := Hall.out x (List.mem_of_getElem? hx)
    have C := Lib.hid (fun w => stronger_any A x w hAlt hxl)
    rw [hst] at C
    clear hst
    by_cases hlt : k < j
    · have hs := Hfirst.out k x hlt hx
      have hxA : ((x : Int) == (A : Int)) = false := by
        have : x ≠ A := fun e => by subst e; omega
        simp; omega
      have Kx := Lib.hid (fun w => kind_any x w hxl)
      obtain ⟨k1, hk1⟩ : ∃ y, y = kdOf (strN x) := ⟨_, rfl⟩
      obtain ⟨k2, hk2⟩ : ∃ y, y = kdOf (strN A) := ⟨_, rfl⟩
      have hkk : ((k1 : Int) == (k2 : Int)) = false := by
        have : k1 ≠ k2 := fun e => by
          rw [hk1, hk2] at e
          have := kd_inj (strN_le x) (strN_le A) e
          omega
        simp; omega
      rw [← hk1] at Kx
      rw [← hk2] at KA
      clear hs hx hk1 hk2
      go_wp2_with fail
      refine (C.out _).mono ?_
      rintro e1 w' ⟨rfl, rfl⟩
      go_wp2_with fail
      refine (Kx.out _).mono ?_
      rintro e1 w' ⟨rfl, rfl⟩
      go_wp2_with fail
      refine (KA.out _).mono ?_
      rintro e1 w' ⟨rfl, rfl⟩
      go_wp2_with fail
      go_round
      case rel => exact ⟨k + 1, by omega, by go_num⟩
      case measure => simp [intOf]; omega
    · obtain rfl : k = j := by omega
      obtain rfl : x = A := by
        have h1 := Hj.out
        rw [hx] at h1
        injection h1
      clear hx
      go_wp2_with fail
      refine (C.out _).mono ?_
      rintro e1 w' ⟨rfl, rfl⟩
      rcases (by omega : q = 0 ∨ 0 < q) with hz | hz
      · subst hz
        go_wp2_with fail
        go_ret
        exact ⟨rfl, Below.refl _ _⟩
      · have P1 := Lib.hid (fun k => quiet_l (Hparts.out hz (w.drewN k) (show Nums (w.drewN k) b o l from Hr.out)).1)
        have P2 := Lib.hid (fun k => quiet_l (Hparts.out hz (w.drewN k) (show Nums (w.drewN k) b o l from Hr.out)).2.1)
        have P3 := Lib.hid (fun k => quiet_l (Hparts.out hz (w.drewN k) (show Nums (w.drewN k) b o l from Hr.out)).2.2)
        have hb0 : ((q : Int) == 0) = false := by simp; omega
        have hcq : ¬ cap = q := by omega
        have hqc : q ≤ cap := by omega
        have hqn2 : q ≤ n := by omega
        go_wp2_with fail
        go_quiet ((first | (go_at_call 17; with_reducible exact P3.out _) | (go_at_call 19; with_reducible exact P1.out _) | (go_at_call 19; with_reducible exact P2.out _)))
        go_wp2_with fail
        go_ret
        exact ⟨rfl, below_drewN (Below.refl _ _) _⟩
set_option maxRecDepth 100000 in
theorem order_long (n : Nat) (a : Addr) (cap c : Nat) (w : World) (h40 : 40 < n) : Calls Try.prog 6 #[.slice (some a) n cap, .int .u8 c] w (Yes w) := by
  have hg2 : (40 : Int) < (n : Int) := by omega
  go_enter Try.func6, Try.ntmps6
  go_wp2_with fail
  refine (awake_any _).mono ?_
  rintro e1 w' ⟨rfl, rfl⟩
  go_wp2_with fail
  go_ret
  exact ⟨rfl, Below.refl _ _⟩
set_option maxRecDepth 100000 in
theorem order_none (A : Option Addr) (cap c : Nat) (w : World) : Calls Try.prog 6 #[.slice A 0 cap, .int .u8 c] w (Yes w) := by
  go_enter Try.func6, Try.ntmps6
  go_wp2_with fail
  refine (awake_any _).mono ?_
  rintro e1 w' ⟨rfl, rfl⟩
  go_wp2_with fail
  go_ret
  exact ⟨rfl, Below.refl _ _⟩
end Go.Proofs.Ytfkdhfbmpjfhbaa
