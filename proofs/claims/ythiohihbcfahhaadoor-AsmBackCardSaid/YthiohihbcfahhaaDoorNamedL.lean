/- A line by its word. -/
import Derived.Test.YthiohihbcfahhaaDoorTabW
import Derived.LoopTactic
import Derived.OwnWalk
import Derived.Outline
namespace Go.Proofs.YthiohihbcfahhaaDoor
open Go.RowKit
theorem toList_dataA (s : ByteArray) : s.toList = s.data.toList := ByteArray.toList_eq s
theorem cell_lt' {w : World} {b o : Nat} {v : Value} (h : w.cell? ⟨b, o, none⟩ = some v) : b < w.heap.size := by
  rcases Nat.lt_or_ge b w.heap.size with h' | h'
  · exact h'
  · simp [World.cell?, Array.getElem?_eq_none h'] at h
def NoHit (s : Bs) (k : Nat) : Prop := ∀ j, j < k → (lnAt j).w ≠ s
theorem noHit_step {s : Bs} {k : Nat} (h : NoHit s k) (h2 : (lnAt k).w ≠ s) : NoHit s (k + 1) := fun j hj => by
  rcases (by omega : j < k ∨ j = k) with hj | rfl
  · exact h j hj
  · exact h2
theorem find_at {p : Ln → Bool} : ∀ (T : List Ln) (k : Nat) (x : Ln), T[k]? = some x → p x = true → (∀ j y, j < k → T[j]? = some y → p y = false) → T.find? p = some x
  | [], k, x, h, _, _ => by simp at h
  | y :: T, 0, x, h, hp, _ => by simp at h; subst h; simp [hp]
  | y :: T, k + 1, x, h, hp, hn => by
    have h0 := hn 0 y (by omega) rfl
    simp only [List.find?_cons, h0]
    exact find_at T k x (by simpa using h) hp (fun j z hj hz => hn (j + 1) z (by omega) (by simpa using hz))
theorem find_none {p : Ln → Bool} (T : List Ln) (h : ∀ (j : Nat) (y : Ln), T[j]? = some y → p y = false) : T.find? p = none := by
  rw [List.find?_eq_none]
  intro x hx
  obtain ⟨j, hj⟩ := List.mem_iff_getElem?.1 hx
  simp [h j x hj]
theorem lnAt_of {j : Nat} {y : Ln} (h : tab[j]? = some y) : y = lnAt j := by
  unfold lnAt; rw [List.getD, h]; rfl
theorem named_hit {s : Bs} {k : Nat} (hr : s ≠ rawL.w) (hk : k < 41) (hn : NoHit s k) (h : (lnAt k).w = s) : named s = some (lnAt k) := by
  unfold named
  rw [if_neg hr]
  exact find_at tab k _ (lnAt_get k hk) (by simp [h]) (fun j y hj hy => by rw [lnAt_of hy]; simpa using hn j hj)
theorem named_miss {s : Bs} (hr : s ≠ rawL.w) (hn : NoHit s 41) : named s = none := by
  unfold named
  rw [if_neg hr]
  exact find_none tab (fun j y hy => by
    have : j < 41 := by
      have := (List.getElem?_eq_some_iff.1 hy).1
      rw [tab_len] at this; exact this
    rw [lnAt_of hy]; simpa using hn j this)
theorem named_ok {s : Bs} {l : Ln} (h : named s = some l) : l.c < 65536 ∧ l.s < 5 := by
  unfold named at h
  split at h
  · cases h; decide
  · have := tab_ok l (List.mem_of_find?_eq_some h); omega
def NamedPost (s : Bs) (w : World) (e : Ending) (w' : World) : Prop :=
  (match named s with
  | some l => e = .returned (.tuple #[.agg #[.string ⟨l.w.toArray⟩, .int .u16 l.c, .int .u8 l.s], .bool true])
  | none => e = .returned (.tuple #[.agg #[.string ⟨#[]⟩, .int .u16 0, .int .u8 0], .bool false])) ∧ Below w.heap.size w w'
theorem sizeLn : (Tryd.prog.info? 81).map (·.size) = some 3 := by kernel_rfl
theorem named_ret {s : Bs} {l : Ln} {b : Bool} {w W : World} {tmps : Array Value} (hp : tmps.getD 2 undef = .pointer (some ⟨w.heap.size, 0, none⟩)) (hq : tmps.getD 3 undef = .bool b)
    (hA : Bk W w.heap.size 81 [.string ⟨l.w.toArray⟩, .int .u16 l.c, .int .u8 l.s]) (hB : Below w.heap.size w W)
    (h : (named s = some l ∧ b = true) ∨ (named s = none ∧ b = false ∧ l = noL)) :
    bodyPost Tryd.prog Tryd.f47 (NamedPost s w) .ret { tmps, defers := [] } W := by
  have hr : (results Tryd.f47 tmps).run Tryd.prog W = .ok (.tuple #[.agg #[.string ⟨l.w.toArray⟩, .int .u16 l.c, .int .u8 l.s], .bool b]) W := by
    have k0 := hA.cell 0 rfl
    have k1 := hA.cell 1 rfl
    have k2 := hA.cell 2 rfl
    rw [Array.getD_eq_getD_getElem?] at hp hq
    simp [results, Tryd.results47, go_sem, hp, hq, k0, k1, k2]
  refine bodyPost_ret hr rfl ⟨?_, hB⟩
  rcases h with ⟨h1, rfl⟩ | ⟨h1, rfl, rfl⟩
  · rw [h1]
  · rw [h1]; rfl
set_option maxHeartbeats 1000000 in
theorem lineNamed_any (s : ByteArray) (w : World) (hT : TabAt w) : Calls Tryd.prog 47 #[.string s] w (NamedPost s.data.toList w) := by
  have hz0 := cell_lt' (hT.lines 0 _ rfl)
  have hz1 := cell_lt' (hT.raw 0 _ rfl)
  have c0 := hT.raw 0 _ rfl
  have c1 := hT.raw 1 _ rfl
  have c2 := hT.raw 2 _ rfl
  have HT := Lib.hid hT
  clear hT
  have hA0 : Bk (w.alloc (.cells #[.string ⟨#[]⟩, .int .u16 0, .int .u8 0] 81)) w.heap.size 81 noL.cells := Bk.new w _ _ rfl
  have HA0 := Lib.hid hA0
  clear hA0
  by_cases hr : s.data.toList = rawL.w
  · have hb : (s.toList == rawL.w) = true := by rw [toList_dataA, hr]; simp
    have hnm : named s.data.toList = some rawL := by unfold named; rw [if_pos hr]
    have Hr := Lib.hid hnm
    clear hr hnm
    go_enter Tryd.func47, Tryd.ntmps47
    go_wp2
    exact named_ret (l := rawL) rfl rfl (Bk.new w _ _ rfl) ((Below.refl _ _).alloc (Nat.le_refl _) _) (.inl ⟨Hr.out, rfl⟩)
  · have hb : (s.toList == rawL.w) = false := by rw [toList_dataA]; simpa using hr
    have Hr := Lib.hid hr
    clear hr
    go_enter Tryd.func47, Tryd.ntmps47
    go_wp2_with (refine wpList_load_tab rfl _ rfl rfl (HT.out.below ((Below.refl _ _).alloc (Nat.le_refl _) _)) ?_)
    clear c0 c1 c2 hb hz0 hz1
    go_loopw [12] (fun i wr => ∃ k : Nat, k ≤ 41 ∧ i = .int .i64 k ∧ Hid (NoHit s.data.toList k) ∧ Hid (Bk wr w.heap.size 81 noL.cells) ∧ Hid (Below w.heap.size w wr)) (fun i _ => 41 - (intOf i).toNat)
    case atStart => exact ⟨0, by omega, rfl, fun j hj => absurd hj (by omega), HA0.out, (Below.refl _ _).alloc (Nat.le_refl _) _⟩
    case round =>
      obtain ⟨k, hk, rfl, Hn, HA, HB⟩ := hrel
      by_cases hlt : k < 41
      · have hix := fun w => tab_index w k hlt
        have HAl := Lib.hid (HA.out.alloc (.cells #[.string ⟨(lnAt k).w.toArray⟩, .int .u16 (lnAt k).c, .int .u8 (lnAt k).s] 81))
        have HBl := Lib.hid (HB.out.alloc (Nat.le_trans (Nat.le_refl _) HB.out.size) (.cells #[.string ⟨(lnAt k).w.toArray⟩, .int .u16 (lnAt k).c, .int .u8 (lnAt k).s] 81))
        by_cases heq : (lnAt k).w = s.data.toList
        · have hb : ((lnAt k).w == s.toList) = true := by rw [toList_dataA, heq]; simp
          have Hf := Lib.hid (named_hit Hr.out hlt Hn.out heq)
          clear heq
          have d0 := HAl.out.cell 0 rfl
          have d1 := HAl.out.cell 1 rfl
          have d2 := HAl.out.cell 2 rfl
          have f0 := HAl.out.fz 0
          have f1 := HAl.out.fz 1
          have f2 := HAl.out.fz 2
          go_wp2
          have hR := ((HAl.out.set 0 (.string ⟨(lnAt k).w.toArray⟩)).set 1 (.int .u16 (lnAt k).c)).set 2 (.int .u8 (lnAt k).s)
          exact named_ret (l := lnAt k) rfl rfl hR (((HBl.out.setCell (p := ⟨w.heap.size, 0, none⟩) (Nat.le_refl _) _).setCell (p := ⟨w.heap.size, 1, none⟩) (Nat.le_refl _) _).setCell (p := ⟨w.heap.size, 2, none⟩) (Nat.le_refl _) _) (.inl ⟨Hf.out, rfl⟩)
        · have hb : ((lnAt k).w == s.toList) = false := by rw [toList_dataA]; simpa using heq
          have Hf := Lib.hid (noHit_step Hn.out heq)
          clear heq
          go_wp2
          go_roundw
          case rel => exact ⟨k + 1, by omega, by go_num, Hf.out, HAl.out, HBl.out⟩
          case measure => simp [intOf]; omega
      · obtain rfl : k = 41 := by omega
        have d0 := HA.out.cell 0 rfl
        have d1 := HA.out.cell 1 rfl
        have d2 := HA.out.cell 2 rfl
        have f0 := HA.out.fz 0
        have f1 := HA.out.fz 1
        have f2 := HA.out.fz 2
        go_wp2
        have hR := ((HA.out.set 0 (.string ⟨#[]⟩)).set 1 (.int .u16 0)).set 2 (.int .u8 0)
        exact named_ret (l := noL) rfl rfl hR (((HB.out.setCell (p := ⟨w.heap.size, 0, none⟩) (Nat.le_refl _) _).setCell (p := ⟨w.heap.size, 1, none⟩) (Nat.le_refl _) _).setCell (p := ⟨w.heap.size, 2, none⟩) (Nat.le_refl _) _) (.inr ⟨named_miss Hr.out Hn.out, rfl, rfl⟩)
end Go.Proofs.YthiohihbcfahhaaDoor
