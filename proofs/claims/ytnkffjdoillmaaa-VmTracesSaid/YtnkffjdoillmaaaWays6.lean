/- The document's ways; a word at any place; the traces of none. -/
import Derived.Test.YtnkffjdoillmaaaFollowT
import Derived.Test.YtnkffjdoillmaaaRefs
namespace Go.Proofs.Ytnkffjdoillmaaa
open Go.RowKit
/-- Where an instruction may go on, as numbers. -/
def WaysTo (i : Ins) (a : Nat) (w : World) (e : Ending) (w' : World) : Prop :=
  ∃ A' c', e = .returned (.slice A' (ways i a).length c') ∧ Rd w' 1 (ways i a).length A' (ints (ways i a)) ∧ Below w.heap.size w w'
theorem ints_rd {w : World} {T : TypeId} {cs : Array Value} {l : List Nat} (h : cs.toList = ints l) : Rd (w.alloc (.cells cs T)) 1 l.length (some ⟨w.heap.size, 0, none⟩) (ints l) := by
  have hb := Bk.new (l := ints l) w T cs (by rw [← h])
  exact (hb.seg (B := 0) (by rw [ints_len, Nat.mul_one]) (Nat.zero_le _)).rd
theorem ways_to {i : Ins} {a : Nat} {w w' : World} {ws : List Nat} {A' : Option Addr} {c' : Nat} {v : Value} (hw : ways i a = ws) (hv : v = .slice A' ws.length c') (hr : Rd w' 1 ws.length A' (ints ws)) (hb : Below w.heap.size w w') : WaysTo i a w (.returned v) w' := by
  subst hw hv; exact ⟨A', c', rfl, hr, hb⟩
set_option maxRecDepth 100000 in
set_option maxHeartbeats 1000000 in
theorem refWays_any (i : Ins) (a : Nat) (w : World) (hi : i.ok) (ha : a ≤ 5000) : Calls Try.prog 28 #[.agg #[.int .i64 i.c, .int .i64 i.t, .int .i64 i.f, .int .u32 i.k], .int .i64 a] w (WaysTo i a w) := by
  obtain ⟨h1, h2, h3, h4⟩ := hi
  have HW : Hid (ways i a = (rel i).map fun d => a + 1 + d) := Lib.hid rfl
  have HR : Hid (rel i = if i.c % 8 = 6 then [] else if i.c % 8 ≠ 5 then [0] else if i.c = 5 then [i.k] else [i.t, i.f]) := Lib.hid rfl
  obtain ⟨W, hW⟩ : ∃ W, W = WaysTo i a w := ⟨_, rfl⟩
  rw [← hW]
  have HWd := Lib.hid hW
  clear hW
  by_cases h6 : i.c % 8 = 6
  · have hw : ways i a = [] := by rw [HW.out, HR.out, if_pos h6]; rfl
    have Hw := Lib.hid hw
    have e1 : (i.c : Int) % 8 = 6 := by omega
    obtain ⟨c, t, f, k⟩ := i
    dsimp only at *
    clear h6 hw HR HW
    go_enter Try.func28, Try.ntmps28
    go_wp2_with fail
    rw [HWd.out]
    exact ways_to Hw.out rfl (Rd.nil _ _ _) (one_below _ _)
  by_cases h5 : i.c % 8 = 5
  · by_cases h50 : i.c = 5
    · have hw : ways i a = [a + 1 + i.k] := by rw [HW.out, HR.out, if_neg h6, if_neg (fun h => h h5), if_pos h50]; rfl
      have Hw := Lib.hid hw
      have e1 : (i.c : Int) % 8 = 5 := by omega
      have e2 : ((i.c : Int) == 5) = true := by simp; omega
      obtain ⟨z, hz, hz2⟩ : ∃ z : Nat, (a : Int) + 1 + (i.k : Int) = z ∧ z = a + 1 + i.k := ⟨a + 1 + i.k, by omega, rfl⟩
      rw [← hz2] at Hw
      obtain ⟨c, t, f, k⟩ := i
      dsimp only at *
      clear h6 hw HR HW h5 h50 hz2
      go_enter Try.func28, Try.ntmps28
      go_wp2_with fail
      rw [HWd.out]
      have hr := ints_rd (w := w.alloc (.cells #[.int .i64 c, .int .i64 t, .int .i64 f, .int .u32 k] 79)) (T := 3) (cs := #[.int .i64 z]) (l := [z]) rfl
      have es : (w.alloc (.cells #[.int .i64 c, .int .i64 t, .int .i64 f, .int .u32 k] 79)).heap.size = w.heap.size + 1 := by simp
      rw [es] at hr
      exact ways_to Hw.out rfl hr (two_below _ _ _)
    · have hw : ways i a = [a + 1 + i.t, a + 1 + i.f] := by rw [HW.out, HR.out, if_neg h6, if_neg (fun h => h h5), if_neg h50]; rfl
      have Hw := Lib.hid hw
      have e1 : (i.c : Int) % 8 = 5 := by omega
      have e2 : ((i.c : Int) == 5) = false := by simp; omega
      obtain ⟨z, hz, hz2⟩ : ∃ z : Nat, (a : Int) + 1 + (i.t : Int) = z ∧ z = a + 1 + i.t := ⟨a + 1 + i.t, by omega, rfl⟩
      obtain ⟨y, hy, hy2⟩ : ∃ z : Nat, (a : Int) + 1 + (i.f : Int) = z ∧ z = a + 1 + i.f := ⟨a + 1 + i.f, by omega, rfl⟩
      rw [← hz2, ← hy2] at Hw
      obtain ⟨c, t, f, k⟩ := i
      dsimp only at *
      clear h6 hw HR HW h5 h50 hz2 hy2
      go_enter Try.func28, Try.ntmps28
      go_wp2_with fail
      rw [HWd.out]
      have hr := ints_rd (w := w.alloc (.cells #[.int .i64 c, .int .i64 t, .int .i64 f, .int .u32 k] 79)) (T := 3) (cs := #[.int .i64 z, .int .i64 y]) (l := [z, y]) rfl
      have es : (w.alloc (.cells #[.int .i64 c, .int .i64 t, .int .i64 f, .int .u32 k] 79)).heap.size = w.heap.size + 1 := by simp
      rw [es] at hr
      exact ways_to Hw.out rfl hr (two_below _ _ _)
  · have hw : ways i a = [a + 1] := by rw [HW.out, HR.out, if_neg h6, if_pos h5]; rfl
    have Hw := Lib.hid hw
    have e1 : ((i.c : Int) % 8 == 6) = false := by simp; omega
    have e2 : ((i.c : Int) % 8 == 5) = false := by simp; omega
    have e3 : ((i.c : Int) == 5) = false := by simp; omega
    obtain ⟨z, hz, hz2⟩ : ∃ z : Nat, (a : Int) + 1 = z ∧ z = a + 1 := ⟨a + 1, by omega, rfl⟩
    rw [← hz2] at Hw
    obtain ⟨c, t, f, k⟩ := i
    dsimp only at *
    clear h6 hw HR HW h5 hz2
    go_enter Try.func28, Try.ntmps28
    go_wp2_with fail
    rw [HWd.out]
    have hr := ints_rd (w := w.alloc (.cells #[.int .i64 c, .int .i64 t, .int .i64 f, .int .u32 k] 79)) (T := 3) (cs := #[.int .i64 z]) (l := [z]) rfl
    have es : (w.alloc (.cells #[.int .i64 c, .int .i64 t, .int .i64 f, .int .u32 k] 79)).heap.size = w.heap.size + 1 := by simp
    rw [es] at hr
    exact ways_to Hw.out rfl hr (two_below _ _ _)
/-- A word at any place. -/
theorem word_all (bs : List Nat) (k : Nat) (w : World) (hb : Rec.IsRec bs) (hk : k < 4294967296) : Calls Try.prog 30 #[.agg (Rec.recL bs).toArray, .int .u32 k] w fun e w' => ∃ (x : Nat) (b : Bool), e = .returned (.tuple #[.int .u32 x, .bool b]) ∧ ((k % 4 = 0 ∧ k ≤ 60) → x = recW bs k) ∧ Below w.heap.size w w' := by
  by_cases h : k % 4 = 0 ∧ k ≤ 60
  · refine (Rec.word_yes bs k w hb.1 hb.2 h.1 h.2).mono ?_
    rintro e w' ⟨rfl, h2⟩
    exact ⟨_, _, rfl, fun _ => rfl, h2⟩
  · refine (Rec.word_no (Rec.recL bs) k w hk (by omega)).mono ?_
    rintro e w' ⟨rfl, h2⟩
    exact ⟨0, false, by rfl, fun hh => absurd hh h, h2⟩
set_option maxRecDepth 100000 in
theorem traces_nil (w : World) : Calls Try.prog 27 #[.pointer none, .agg #[.int .u32 0, .int .u32 0, .int .u64 0, .int .u64 0, .int .u64 0, .int .u64 0, .int .u64 0, .int .u64 0, .int .u64 0]] w fun e w' => e = .returned (.slice none 0 0) ∧ Below w.heap.size w w' := by
  have Fo : Hid (∀ (q : Nat) (w : World), Calls Try.prog 38 #[.pointer none, .agg #[.int .u32 0, .int .u32 0, .int .u64 0, .int .u64 0, .int .u64 0, .int .u64 0, .int .u64 0, .int .u64 0, .int .u64 0], .func (.func 53) #[] #[.pointer (some ⟨q, 0, none⟩)]] w fun e w' => e = .returned (.tuple #[.int .u32 2147483648, .int .i64 0]) ∧ w' = w.alloc (.cells #[.int .u32 0, .int .u32 0, .int .u64 0, .int .u64 0, .int .u64 0, .int .u64 0, .int .u64 0, .int .u64 0, .int .u64 0] 39)) := Lib.hid (fun q w => by
    go_enter Try.func38, Try.ntmps38
    go_wp2_with fail
    go_ret2
    exact ⟨rfl, rfl⟩)
  go_enter Try.func27, Try.ntmps27
  go_wp2_with fail
  refine (Fo.out _ _).mono ?_
  rintro e1 w1 ⟨rfl, rfl⟩
  go_wp2_with fail
  go_ret
  exact ⟨rfl, ((one_below w _).alloc (by simp) _).alloc (by simp; omega) _⟩
end Go.Proofs.Ytnkffjdoillmaaa
