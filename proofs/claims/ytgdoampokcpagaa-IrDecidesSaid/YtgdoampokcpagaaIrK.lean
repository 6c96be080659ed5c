/- The fixed fact of layer 12: a plan of two rules. -/
import Derived.Test.YtgdoampokcpagaaIrJ
namespace Go.Proofs.Ytgdoampokcpagaa.Ir
open Go.RowKit Go.WideElems Go.Proofs.Ytgdoampokcpagaa.Me
theorem Bk.rdz {w : World} {g t : Nat} {l : List Value} (h : Bk w g t l) {n z : Nat} (hl : l.length = n * z) : Rd w z n (some ⟨g, 0, none⟩) l :=
  ⟨hl, Or.inr ⟨g, 0, rfl, h.lt, fun j u hu => by rw [Nat.zero_add]; exact h.cell j hu⟩⟩
def cA : CondM := ⟨0, 1, 0, 1⟩
def rA : RuleM := ⟨2, 2147418112, []⟩
def rB : RuleM := ⟨2, 2147483648, [cA]⟩
theorem two_sorted {l : List RuleM} (h : Sorted [rA, rB] l) : l = [rB, rA] := by
  have hl := h.len
  match l, hl with
  | [a, b], _ =>
    have ha := h.mem a (by simp)
    have hb := h.mem b (by simp)
    have hs : ¬ ordF b a < 0 := (List.pairwise_cons.1 h.srt).1 b (by simp)
    have h3 := h.stab 2 3
    have h0 := h.stab 2 0
    have e1 : ([rA, rB].filter fun r => decide (r.num = 2 ∧ Rec.strN r.act = 3)) = [rB] := by rfl
    have e0 : ([rA, rB].filter fun r => decide (r.num = 2 ∧ Rec.strN r.act = 0)) = [rA] := by rfl
    rw [e1] at h3
    rw [e0] at h0
    simp only [List.mem_cons, List.not_mem_nil, or_false] at ha hb
    rcases ha with rfl | rfl <;> rcases hb with rfl | rfl
    · have : ([rA, rA].filter fun r => decide (r.num = 2 ∧ Rec.strN r.act = 3)) = [] := by rfl
      rw [this] at h3; cases h3
    · exact absurd (show ordF rB rA < 0 by decide) hs
    · rfl
    · have : ([rB, rB].filter fun r => decide (r.num = 2 ∧ Rec.strN r.act = 0)) = [] := by rfl
      rw [this] at h0; cases h0
theorem of_two : ofF [rB, rA] = [⟨2, [⟨[cA], 2147483648⟩, ⟨[], 2147418112⟩]⟩] := by rfl
theorem map_one {α β : Type} {f : α → β} {l : List α} {y : β} (h : l.map f = [y]) : ∃ c, l = [c] ∧ f c = y := by
  cases l with
  | nil => cases h
  | cons c t =>
    cases t with
    | nil => injection h with h _; exact ⟨c, rfl, h⟩
    | cons _ _ => injection h with _ h; cases h
theorem map_two {α β : Type} {f : α → β} {l : List α} {y z : β} (h : l.map f = [y, z]) : ∃ c d, l = [c, d] ∧ f c = y := by
  cases l with
  | nil => cases h
  | cons c t =>
    injection h with h1 h
    obtain ⟨d, rfl, _⟩ := map_one h
    exact ⟨c, d, rfl, h1⟩
set_option maxHeartbeats 4000000 in
set_option maxRecDepth 100000 in
theorem awake_any (w : World) : Calls Try.prog 6 #[] w (RetB true w) := by
  obtain ⟨W1, hW1⟩ : ∃ W1, W1 = w.alloc (.cells #[.int .i64 0, .int .u8 1, .int .u64 0, .int .u64 1] 66) := ⟨_, rfl⟩
  have s1 : W1.heap.size = w.heap.size + 1 := by rw [hW1]; simp
  obtain ⟨W2, hW2⟩ : ∃ W2, W2 = W1.alloc (.cells #[.int .i64 0, .int .u8 1, .int .u64 0, .int .u64 1] 66) := ⟨_, rfl⟩
  have s2 : W2.heap.size = w.heap.size + 1 + 1 := by rw [hW2]; simp [s1]
  obtain ⟨W3, hW3⟩ : ∃ W3, W3 = W2.alloc (.cells #[.int .u32 2, .int .u32 2147418112, .slice none 0 0, .int .u32 2, .int .u32 2147483648, .slice (some ⟨w.heap.size + 1, 0, none⟩) 1 1] 56) := ⟨_, rfl⟩
  have hk1 : Bk W2 (w.heap.size + 1) 66 cA.cells := by rw [hW2, ← s1]; exact Bk.new _ _ _ rfl
  have hk1' : Bk W3 (w.heap.size + 1) 66 cA.cells := hk1.kept (by rw [hW3]; exact oneb _ _)
  have hk2 : Bk W3 (w.heap.size + 1 + 1) 56 [.int .u32 2, .int .u32 2147418112, .slice none 0 0, .int .u32 2, .int .u32 2147483648, .slice (some ⟨w.heap.size + 1, 0, none⟩) 1 1] := by rw [hW3, ← s2]; exact Bk.new _ _ _ rfl
  have hb3 : Below w.heap.size w W3 := by
    have b1 : Below w.heap.size w W1 := by rw [hW1]; exact oneb _ _
    have b2 : Below w.heap.size W1 W2 := by rw [hW2]; exact (oneb _ _).mono (by omega)
    have b3 : Below w.heap.size W2 W3 := by rw [hW3]; exact (oneb _ _).mono (by omega)
    exact (b1.trans b2).trans b3
  have hR : RRd W3 [⟨rA, none, 0⟩, ⟨rB, some ⟨w.heap.size + 1, 0, none⟩, 1⟩] (some ⟨w.heap.size + 1 + 1, 0, none⟩) := by
    refine ⟨Bk.rdz hk2 rfl, fun x hx => ?_, fun x hx => ?_⟩
    · simp only [List.mem_cons, List.not_mem_nil, or_false] at hx
      rcases hx with rfl | rfl
      · exact Rd.nil _ _ _
      · exact Bk.rdz (n := 1) (z := 4) hk1' rfl
    · simp only [List.mem_cons, List.not_mem_nil, or_false] at hx
      rcases hx with rfl | rfl
      · exact ⟨show (2 : Nat) < 4294967296 by decide, show (2147418112 : Nat) < 4294967296 by decide, by simp [rA], by simp [rA]⟩
      · exact ⟨show (2 : Nat) < 4294967296 by decide, show (2147483648 : Nat) < 4294967296 by decide, by show (1 : Nat) ≤ maxLen; unfold maxLen; omega, fun c hc => by rw [List.mem_singleton.1 hc]; exact ⟨by decide, by decide, by decide, by decide, by decide⟩⟩
  have HO := Lib.hid (of_any ⟨#[]⟩ 0 [⟨rA, none, 0⟩, ⟨rB, some ⟨w.heap.size + 1, 0, none⟩, 1⟩] (some ⟨w.heap.size + 1 + 1, 0, none⟩) 2 2 0 none 0 0 none 0 0 W3 rfl (by omega) hR (fun r hr => by
    simp only [List.mem_cons, List.not_mem_nil, or_false] at hr
    rcases hr with rfl | rfl <;> simp [rA, rB]))
  have HB3 := Lib.hid hb3
  have HW := Lib.hid (And.intro hW1 (And.intro hW2 hW3))
  clear hk1 hk1' hk2 hb3 hR hW1 hW2 hW3 s1 s2
  go_enter Try.func6, Try.ntmps6
  go_wp2_with fail
  rw [← HW.out.1, ← HW.out.2.1, ← HW.out.2.2]
  refine HO.out.mono ?_
  clear HO HW
  rintro e w4 ⟨hb4, l', hS, A, cap, cs, hcs, rfl, hP⟩
  obtain rfl := two_sorted hS
  rw [of_two] at hcs
  have HB4 := Lib.hid (HB3.out.trans (hb4.mono HB3.out.size))
  clear hb4 hS HB3
  obtain ⟨c1, rfl, h1⟩ : ∃ c1, cs = [c1] ∧ c1.m = ⟨2, [⟨[cA], 2147483648⟩, ⟨[], 2147418112⟩]⟩ := map_one hcs
  obtain ⟨cn, brs, cA1, ccap⟩ := c1
  simp only [CaV.m, CaM.mk.injEq] at h1
  obtain ⟨rfl, h1⟩ := h1
  obtain ⟨b1, b2, rfl, h2⟩ : ∃ b1 b2, brs = [b1, b2] ∧ b1.m = ⟨[cA], 2147483648⟩ := map_two h1
  obtain ⟨pb, po, rfl, pl, pc⟩ := hP.row.rd.one (f := CaV.cells) (fun _ => rfl) (by omega) (by simp)
  obtain ⟨p0, p1⟩ := case_cells pc (k := 0) rfl
  obtain ⟨qb, qo, hq, ql, qc⟩ := (hP.brs _ (List.mem_singleton.2 rfl)).rd.one (f := BrV.cells) (fun _ => rfl) (by omega) (by simp)
  simp only at hq
  subst hq
  obtain ⟨q0, q1⟩ := br_cells2 qc (k := 0) rfl
  rw [h2] at q1
  clear pc qc hP hcs h1 h2 p0 q0
  simp only [Nat.zero_mul, Nat.add_zero] at p1 q1
  go_wp2_with fail
  go_ret
  exact ⟨rfl, HB4.out.trans ((oneb _ _).mono HB4.out.size)⟩
end Go.Proofs.Ytgdoampokcpagaa.Ir

