/- The laws' opening fact; filters laid as lists. -/
import Derived.Test.YtnkffjdoillmaaaLoad
import Derived.Test.YtnkffjdoillmaaaAwake
namespace Go.Proofs.Ytnkffjdoillmaaa
open Go.RowKit
/-- A list without loads of scratch numbers may be loaded, if each of its instructions may. -/
theorem good_of {l : List Ins} (h0 : 0 < l.length) (h1 : l.length ≤ 4096) (h2 : ∀ a, a < l.length → alone (at0 l a) (l.length - a - 1) = 0) (h3 : (at0 l (l.length - 1)).c % 8 = 6) (h4 : ∀ a, a < l.length → takes (at0 l a) = false) : Good l := by
  refine ⟨h0, h1, fun a i hi => ?_, fun i hi => ?_, fun a i hi ht => ?_⟩
  · have := h2 a (List.getElem?_eq_some_iff.1 hi).1
    rwa [at0_of hi] at this
  · rwa [at0_of hi] at h3
  · have := h4 a (List.getElem?_eq_some_iff.1 hi).1
    rw [at0_of hi, ht] at this
    cases this
theorem sm40 {n : Nat} (h : n ≤ 1000000) : Small40 n := by unfold Small40; omega
theorem lt2 {a : Nat} (h : a < 2) : a = 0 ∨ a = 1 := by omega
theorem lt4 {a : Nat} (h : a < 4) : a = 0 ∨ a = 1 ∨ a = 2 ∨ a = 3 := by omega
/-- A record of a number alone. -/
theorem rec_of (n : Nat) (h : n < 4294967296) : ∃ bs, Rec.IsRec bs ∧ Rec.recL bs = [.int .u32 n, .int .u32 0, .int .u64 0, .int .u64 0, .int .u64 0, .int .u64 0, .int .u64 0, .int .u64 0, .int .u64 0] ∧ recW bs 0 = n := by
  obtain ⟨bs, hl, hb, e0, e1, e2, e3, e4, e5, e6, e7, e8⟩ := Rec.record_bytes n 0 0 0 0 0 0 0 0 h (by decide) (by decide) (by decide) (by decide) (by decide) (by decide) (by decide) (by decide)
  exact ⟨bs, ⟨hl, Rec.small8_of hb⟩, by rw [Rec.recL, e0, e1, e2, e3, e4, e5, e6, e7, e8]; rfl, e0⟩
def awkL : List Ins := [⟨32, 0, 0, 0⟩, ⟨21, 0, 1, 2⟩, ⟨6, 0, 0, 7⟩, ⟨6, 0, 0, 9⟩]
theorem awk_good : Good awkL := good_of (by decide) (by decide) (by decide) (by decide) (by decide)
theorem awk_run {W : Nat → Nat} (h : W 0 = 2) : (runN W awkL).2 = 7 ∧ (runN W awkL).1.length = 3 := by
  simp [runN, awkL, exec, stepN, mc0, ldN, farN, holdsN, opd, h]
theorem awk_ok : ∀ i ∈ awkL, i.ok := by
  intro i hi
  simp only [awkL, List.mem_cons, List.not_mem_nil, or_false] at hi
  rcases hi with rfl | rfl | rfl | rfl <;> simp [Ins.ok]
theorem if_21 : bits .or .u16 (bits .or .u16 5 16) 0 = 21 := by decide
set_option maxRecDepth 100000 in
set_option maxHeartbeats 1000000 in
theorem awake6 (w : World) : Calls Try.prog 10 #[] w (Yes w) := by
  go_enter Try.func10, Try.ntmps10
  go_wp2_with fail
  refine (load_of _ _).mono ?_
  rintro e w1 ⟨rfl, hb1⟩
  go_wp2_with fail
  refine (if_of _ _ _ _ 21 _ if_21).mono ?_
  rintro e w2 ⟨rfl, hb2⟩
  have HB2 := Lib.hid (hb1.trans (hb2.mono hb1.size))
  clear hb1 hb2
  go_wp2_with fail
  refine (return_of _ _).mono ?_
  rintro e w3 ⟨rfl, hb3⟩
  go_wp2_with fail
  refine (return_of _ _).mono ?_
  rintro e w4 ⟨rfl, hb4⟩
  have HB4 := Lib.hid ((HB2.out.trans (hb3.mono HB2.out.size)).trans (hb4.mono (Nat.le_trans HB2.out.size hb3.size)))
  clear hb3 hb4 HB2
  go_wp2_with fail
  refine (load_any awkL 4 _ _ _ rfl awk_ok (lit_rd awkL rfl) (by unfold maxLen; omega)).mono ?_
  rintro e w5 ⟨a, er, hc, hb5, ⟨_, rfl, rfl, p, b, o, c, hp, hb, rfl, hF⟩ | ⟨hn, _⟩⟩
  · have HF := Lib.hid hF
    have HB5 := Lib.hid ((HB4.out.alloc HB4.out.size _).trans (hb5.mono (by have := HB4.out.size; simp; omega)))
    have hps : w.heap.size ≤ p := by have := HB4.out.size; simp at hp; omega
    obtain ⟨bs, hbs, hR, hW⟩ := rec_of 2 (by decide)
    have HX := Lib.hid (awk_run hW)
    have Rn := Lib.hid (fun w' h => run_any bs awkL w5.heap.size p b o c 0 0 w' h awk_good awk_ok hbs (sm40 (by decide)) (sm40 (by decide)))
    rw [hR] at Rn
    unfold RunTo at Rn
    rw [HX.out.1, HX.out.2] at Rn
    clear hc hb5 hp hb hF hbs hR hW HX
    go_wp2_with fail
    refine (Rn.out _ (HF.out.below (one_below _ _))).mono ?_
    rintro e w6 ⟨rfl, hF6, hg6⟩
    have HEnd := Lib.hid (only_below (HB5.out.alloc HB5.out.size _) hg6 (by have := HB5.out.size; simp; omega) hps)
    have c0 : w6.cell? ⟨w5.heap.size, 0, none⟩ = some (.int .i64 0) := by
      have h1 := (Bk.new (l := [.int .i64 0, .int .i64 0]) w5 31 _ rfl)
      have h2 := h1.grown hg6 (fun e => by have := HF.out.lp; cases e; omega)
      exact h2.cell 0 rfl
    have c1 : w6.cell? ⟨w5.heap.size, 1, none⟩ = some (.int .i64 0) := by
      have h1 := (Bk.new (l := [.int .i64 0, .int .i64 0]) w5 31 _ rfl)
      have h2 := h1.grown hg6 (fun e => by have := HF.out.lp; cases e; omega)
      exact h2.cell 1 rfl
    clear hF6 hg6
    go_wp2_with fail
    go_ret
    exact ⟨rfl, HEnd.out⟩
  · exact absurd awk_good hn
end Go.Proofs.Ytnkffjdoillmaaa
