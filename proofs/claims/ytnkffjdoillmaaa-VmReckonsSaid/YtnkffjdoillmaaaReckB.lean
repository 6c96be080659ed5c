/- VmReckons: any two numbers, each way of reckoning. -/
import Derived.Test.YtnkffjdoillmaaaAwake6
import Derived.Laws.ShiftsVarLaws
import Derived.OpenShut
namespace Go.Proofs.Ytnkffjdoillmaaa
open Go.RowKit
def oneL (c k x a : Nat) : List Ins := [⟨1, 0, 0, x⟩, ⟨0, 0, 0, a⟩, ⟨c, 0, 0, k⟩, ⟨22, 0, 0, 0⟩]
/-- What comes of it. -/
def outN (op a n : Nat) : Nat := if op = 3 ∧ n = 0 then 0 else reckN op a n
theorem one_run (W : Nat → Nat) (c k x a n op v : Nat) (h4 : c % 8 = 4) (hop : c / 16 = op) (hn : (if c / 8 % 2 = 1 then x else k) = n) (hv : outN op a n = v) : (runN W (oneL c k x a)).2 = v := by
  subst hn hop hv
  unfold outN
  by_cases h0 : c / 16 = 3 ∧ (if c / 8 % 2 = 1 then x else k) = 0
  · rw [if_pos h0]
    simp [runN, oneL, exec, stepN, mc0, ldN, opd, h4, h0]
  · rw [if_neg h0]
    simp [runN, oneL, exec, stepN, mc0, ldN, opd, h4, h0]
theorem one_good {c k x a : Nat} (hk : knownB c = true) (h4 : c % 8 = 4) (hr : rangeB ⟨c, 0, 0, k⟩ = true) : Good (oneL c k x a) := by
  refine good_of (by simp [oneL]) (by simp [oneL]) (fun j hj => ?_) (by simp [oneL, at0]) (fun j hj => ?_)
  · rcases lt4 hj with rfl | rfl | rfl | rfl
    · rfl
    · rfl
    · refine alone_zero.2 ⟨hk, ?_, hr⟩
      simp [jumpB, at0, oneL, h4]
    · exact alone_zero.2 ⟨by simp [at0, oneL, knownB, codesL], by simp [jumpB, at0, oneL], by simp [rangeB, at0, oneL]⟩
  · rcases lt4 hj with rfl | rfl | rfl | rfl
    · rfl
    · rfl
    · simp [takes, at0, oneL]
      omega
    · rfl
theorem one_ok {c k x a : Nat} (h1 : c < 65536) (h2 : k < 4294967296) (h3 : x < 4294967296) (h4 : a < 4294967296) : ∀ i ∈ oneL c k x a, i.ok := by
  intro i hi
  simp only [oneL, List.mem_cons, List.not_mem_nil, or_false] at hi
  rcases hi with rfl | rfl | rfl | rfl <;> simp [Ins.ok] <;> omega
set_option maxRecDepth 100000 in
theorem one_any (c k x a : Nat) (w : World) : Calls Try.prog 22 #[.agg #[.int .u16 c, .int .u8 0, .int .u8 0, .int .u32 k], .int .u32 a, .int .u32 x] w fun e w' => ∃ g, e = .returned (.slice (some ⟨g, 0, none⟩) 4 4) ∧ (Rd w' 4 4 (some ⟨g, 0, none⟩) ((oneL c k x a).flatMap Ins.cells) ∧ Below w.heap.size w w') := by
  go_enter Try.func22, Try.ntmps22
  go_wp2_with fail
  go_ret
  have h := lit_rd (w := w.alloc (.cells #[.int .u16 c, .int .u8 0, .int .u8 0, .int .u32 k] 60)) (T := 60) (cs := #[.int .u16 1, .int .u8 0, .int .u8 0, .int .u32 x, .int .u16 0, .int .u8 0, .int .u8 0, .int .u32 a, .int .u16 c, .int .u8 0, .int .u8 0, .int .u32 k, .int .u16 22, .int .u8 0, .int .u8 0, .int .u32 0]) (oneL c k x a) rfl
  have es : (w.alloc (.cells #[.int .u16 c, .int .u8 0, .int .u8 0, .int .u32 k] 60)).heap.size = w.heap.size + 1 := by simp
  rw [es] at h
  exact ⟨_, rfl, h, two_below _ _ _⟩
theorem load_one (c k x a : Nat) (A : Option Addr) (w : World) (h1 : c < 65536) (h2 : k < 4294967296) (h3 : x < 4294967296) (h4 : a < 4294967296) (h : Rd w 4 4 A ((oneL c k x a).flatMap Ins.cells)) : Calls Try.prog 12 #[.slice A 4 4] w (LoadPost (oneL c k x a) w) :=
  load_any (oneL c k x a) 4 A 4 w rfl (one_ok h1 h2 h3 h4) h (by unfold maxLen; omega)
/-- A filter loaded of such a list, where it may be. -/
theorem run_small (l : List Ins) (v B p b o c : Nat) (w : World) (bs : List Nat) (hb : Rec.IsRec bs) (hR : Rec.recL bs = [.int .u32 (0 : Nat), .int .u32 0, .int .u64 0, .int .u64 0, .int .u64 0, .int .u64 0, .int .u64 0, .int .u64 0, .int .u64 0]) (hF : Fil w B p b o c l 0 0) (g : Good l) (hok : ∀ i ∈ l, i.ok) (hv : (runN (recW bs) l).2 = v) :
    Calls Try.prog 14 #[.pointer (some ⟨p, 0, none⟩), .agg #[.int .u32 0, .int .u32 0, .int .u64 0, .int .u64 0, .int .u64 0, .int .u64 0, .int .u64 0, .int .u64 0, .int .u64 0]] w fun e w' => ∃ n : Nat, e = .returned (.tuple #[.int .u32 v, .int .i64 n]) ∧ w.grownBy w' (some p) := by
  have := run_any bs l B p b o c 0 0 w hF g hok hb (sm40 (by decide)) (sm40 (by decide))
  rw [hR] at this
  refine Calls.mono this ?_
  rintro e w' ⟨he, _, hg⟩
  rw [hv] at he
  exact ⟨_, he, hg⟩
end Go.Proofs.Ytnkffjdoillmaaa
