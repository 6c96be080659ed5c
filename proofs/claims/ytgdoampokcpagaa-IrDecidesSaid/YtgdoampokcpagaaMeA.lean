/- The opening fact. -/
import Derived.Test.YtgdoampokcpagaaMeU
namespace Go.Proofs.Ytgdoampokcpagaa.Me
open Go.RowKit Go.WideElems
theorem fail13 (w : World) : Calls Try.prog 30 #[.int .i64 13] w fun e w' => e = .returned (.int .u32 327693) ∧ Below w.heap.size w w' := by
  refine (Rec.fail_any 13 w).mono ?_
  rintro e w' ⟨rfl, rfl⟩
  have h : Rec.clampN 13 = 13 := by decide
  rw [h]
  exact ⟨rfl, Below.refl _ _⟩
theorem set6_g (w : World) (g : Nat) (v0 v1 v2 v3 v4 v5 : Value) : w.grownBy ((((((w.setCell ⟨g, 0, none⟩ v0).setCell ⟨g, 1, none⟩ v1).setCell ⟨g, 2, none⟩ v2).setCell ⟨g, 3, none⟩ v3).setCell ⟨g, 4, none⟩ v4).setCell ⟨g, 5, none⟩ v5) (some g) :=
  only_trans (only_trans (only_trans (only_trans (only_trans (only_set _ g 0 v0) (only_set _ g 1 v1)) (only_set _ g 2 v2)) (only_set _ g 3 v3)) (only_set _ g 4 v4)) (only_set _ g 5 v5)
theorem cell_g6 {w : World} {b o g : Nat} {v v0 v1 v2 v3 v4 v5 : Value} (h : w.cell? ⟨b, o, none⟩ = some v) (hn : b ≠ g) : ((((((w.setCell ⟨g, 0, none⟩ v0).setCell ⟨g, 1, none⟩ v1).setCell ⟨g, 2, none⟩ v2).setCell ⟨g, 3, none⟩ v3).setCell ⟨g, 4, none⟩ v4).setCell ⟨g, 5, none⟩ v5).cell? ⟨b, o, none⟩ = some v := cell_grown h (set6_g w g v0 v1 v2 v3 v4 v5) hn
def AwR (w1 : World) (v : Value) (wx : World) : Prop := ∃ pb g5 g3 : Nat, v = .pointer (some ⟨pb, 0, none⟩) ∧ Hid (Bk wx pb 30 [.string ⟨#[]⟩, .int .u32 2147483648, .slice (some ⟨g5, 0, none⟩) 2 2, .int .u16 0, .slice none 0 0, .slice none 0 0]) ∧ Hid (Bk wx g5 56 [.int .u32 2, .int .u32 2147418112, .slice none 0 0, .int .u32 2, .int .u32 327693, .slice (some ⟨g3, 0, none⟩) 1 1]) ∧ Hid (Bk wx g3 66 [.int .i64 1, .int .u8 7, .int .u64 2, .int .u64 2]) ∧ Hid (Below w1.heap.size w1 wx)
theorem aw_end {w1 w : World} {g7 g5 g3 : Nat} {a0 a1 a2 a3 a4 a5 : Value} (h7 : Bk w g7 30 [a0, a1, a2, a3, a4, a5]) (h5 : Bk w g5 56 [.int .u32 2, .int .u32 2147418112, .slice none 0 0, .int .u32 2, .int .u32 327693, .slice (some ⟨g3, 0, none⟩) 1 1]) (h3 : Bk w g3 66 [.int .i64 1, .int .u8 7, .int .u64 2, .int .u64 2]) (n5 : g7 ≠ g5) (n3 : g7 ≠ g3) (hg : w1.heap.size ≤ g7) (hb : Below w1.heap.size w1 w) :
    AwR w1 (.pointer (some ⟨g7, 0, none⟩)) ((((((w.setCell ⟨g7, 0, none⟩ (.string ⟨#[]⟩)).setCell ⟨g7, 1, none⟩ (.int .u32 2147483648)).setCell ⟨g7, 2, none⟩ (.slice (some ⟨g5, 0, none⟩) 2 2)).setCell ⟨g7, 3, none⟩ (.int .u16 0)).setCell ⟨g7, 4, none⟩ (.slice none 0 0)).setCell ⟨g7, 5, none⟩ (.slice none 0 0)) :=
  ⟨g7, g5, g3, rfl, ((((((h7.set 0 (.string ⟨#[]⟩)).set 1 (.int .u32 2147483648)).set 2 (.slice (some ⟨g5, 0, none⟩) 2 2)).set 3 (.int .u16 0)).set 4 (.slice none 0 0)).set 5 (.slice none 0 0)),
    h5.grown (set6_g w g7 _ _ _ _ _ _) (fun e => n5 (Option.some.inj e).symm), h3.grown (set6_g w g7 _ _ _ _ _ _) (fun e => n3 (Option.some.inj e).symm), hb.grown (set6_g w g7 _ _ _ _ _ _) hb.size (fun k e => by cases e; exact hg)⟩
theorem rd_bk {w : World} {g z n : Nat} {T : TypeId} {l : List Value} (h : Bk w g T l) (hl : l.length = n * z) : Rd w z n (some ⟨g, 0, none⟩) l :=
  ⟨hl, .inr ⟨g, 0, rfl, h.lt, fun j u hu => by rw [Nat.zero_add]; exact h.cell j hu⟩⟩
def awRules (g3 : Nat) : List RuleV := [⟨⟨2, 2147418112, []⟩, none, 0⟩, ⟨⟨2, 327693, [⟨1, 7, 2, 2⟩]⟩, some ⟨g3, 0, none⟩, 1⟩]
def awRec : RcM := ⟨2, 3221225534, 0, 0, 3, 0, 0, 0, 0⟩
theorem aw_says (g3 : Nat) : saysR 2147483648 ((awRules g3).map RuleV.m) awRec = 327693 := by
  show saysR 2147483648 [⟨2, 2147418112, []⟩, ⟨2, 327693, [⟨1, 7, 2, 2⟩]⟩] awRec = 327693
  decide
theorem aw_rrd {w : World} {g5 g3 : Nat} (h5 : Bk w g5 56 [.int .u32 2, .int .u32 2147418112, .slice none 0 0, .int .u32 2, .int .u32 327693, .slice (some ⟨g3, 0, none⟩) 1 1]) (h3 : Bk w g3 66 [.int .i64 1, .int .u8 7, .int .u64 2, .int .u64 2]) : RRd w (awRules g3) (some ⟨g5, 0, none⟩) := by
  refine ⟨rd_bk (l := [.int .u32 2, .int .u32 2147418112, .slice none 0 0, .int .u32 2, .int .u32 327693, .slice (some ⟨g3, 0, none⟩) 1 1]) h5 rfl, fun x hx => ?_, fun x hx => ?_⟩
  · simp only [awRules, List.mem_cons, List.not_mem_nil, or_false] at hx
    rcases hx with rfl | rfl
    · exact Rd.nil _ _ _
    · exact rd_bk (l := [.int .i64 1, .int .u8 7, .int .u64 2, .int .u64 2]) h3 rfl
  · simp only [awRules, List.mem_cons, List.not_mem_nil, or_false] at hx
    rcases hx with rfl | rfl
    · exact ⟨by decide, by decide, by unfold maxLen; decide, fun c hc => by cases hc⟩
    · exact ⟨show 2 < 4294967296 by decide, show 327693 < 4294967296 by decide, show 1 ≤ maxLen by unfold maxLen; decide, fun c hc => by simp only [List.mem_singleton] at hc; subst hc; unfold CondM.ok; decide⟩
theorem awRec_ok : awRec.ok := ⟨by decide, by decide, by decide, by decide, by decide, by decide, by decide, by decide, by decide⟩
end Go.Proofs.Ytgdoampokcpagaa.Me

