/- What the laws are handed: records, as many as they are. -/
import Derived.Test.YtnkffjdoillmaaaOpen
import Derived.Test.YtnkffjdoillmaaaOpen5
namespace Go.Proofs.Ytnkffjdoillmaaa
set_option maxRecDepth 100000
open Go.ChangeShapes Go.WideShapes Go.ChangeAt Go.RowKit Go.Deep
theorem rec_at : ∀ (l : List (List Nat)) (k j : Nat), j < 9 → (l.flatMap Rec.recL)[k * 9 + j]? = (l[k]?).bind (fun x => (Rec.recL x)[j]?)
  | [], k, j, _ => by simp
  | x :: l, k, j, hj => by
    rw [List.flatMap_cons]
    cases k with
    | zero => rw [List.getElem?_append_left (by simp [Rec.recL]; omega)]; simp
    | succ k =>
      rw [List.getElem?_append_right (by simp [Rec.recL]; omega), show (Rec.recL x).length = 9 from rfl, show (k + 1) * 9 + j - 9 = k * 9 + j from by omega, rec_at l k j hj]
      simp
section
variable {H : Type} {enc : TypeId × Value → H} {w : World} {base : Nat} {spare : Nat → Bool} {held : Bool} {fuel : Nat} {x : DataW H × List MemPlace} {A : Option Addr} {len cap : Nat}
theorem rec_cells {cs : List Value} (hl : cs.length = 9) (hf : DataW.trod enc Try.prog w base spare held fuel 39 cs = some x) : ∃ bs, Rec.IsRec bs ∧ cs = Rec.recL bs := by
  have h8 : Try.prog.cellsOf 35 = 1 := by kernel_rfl
  have h64 : Try.prog.cellsOf 36 = 1 := by kernel_rfl
  have h6 : Try.prog.cellsOf 37 = 6 := by kernel_rfl
  match cs, hl with
  | [c0, c1, c2, c3, c4, c5, c6, c7, c8], _ =>
    obtain ⟨xs, n, _, _, _, hlen, hg⟩ := DataW.trod_struct Try.underlying39 hf
    match xs, hlen with
    | [y0, y1, y2, y3], _ =>
      obtain ⟨n0, rfl, g0⟩ := Rec.u32_of ⟨_, Rec.one_field (hg 0 _ rfl) rfl rfl h8 rfl⟩
      obtain ⟨n1, rfl, g1⟩ := Rec.u32_of ⟨_, Rec.one_field (hg 1 _ rfl) rfl rfl h8 rfl⟩
      obtain ⟨n2, rfl, g2⟩ := Rec.u64_of ⟨_, Rec.one_field (hg 2 _ rfl) rfl rfl h64 rfl⟩
      have h3 : DataW.trod enc Try.prog w base spare held n 37 [c3, c4, c5, c6, c7, c8] = some y3 := by
        have := hg 3 _ rfl
        exact this
      obtain ⟨zs, m, _, _, _, hzl, hz⟩ := DataW.trod_array Try.underlying37 h3
      rw [h64] at hz
      obtain ⟨n3, rfl, g3⟩ := Rec.u64_of (Rec.some_field (i := 0) (by omega) (hz 0 (by omega)))
      obtain ⟨n4, rfl, g4⟩ := Rec.u64_of (Rec.some_field (i := 1) (by omega) (hz 1 (by omega)))
      obtain ⟨n5, rfl, g5⟩ := Rec.u64_of (Rec.some_field (i := 2) (by omega) (hz 2 (by omega)))
      obtain ⟨n6, rfl, g6⟩ := Rec.u64_of (Rec.some_field (i := 3) (by omega) (hz 3 (by omega)))
      obtain ⟨n7, rfl, g7⟩ := Rec.u64_of (Rec.some_field (i := 4) (by omega) (hz 4 (by omega)))
      obtain ⟨n8, rfl, g8⟩ := Rec.u64_of (Rec.some_field (i := 5) (by omega) (hz 5 (by omega)))
      obtain ⟨bs, hl, hb, e0, e1, e2, e3, e4, e5, e6, e7, e8⟩ := Rec.record_bytes n0 n1 n2 n3 n4 n5 n6 n7 n8 g0 g1 g2 g3 g4 g5 g6 g7 g8
      exact ⟨bs, ⟨hl, Rec.small8_of hb⟩, by rw [Rec.recL, e0, e1, e2, e3, e4, e5, e6, e7, e8]⟩
theorem open_records (h : DataW.trod enc Try.prog w base spare held fuel 24 [.slice A len cap] = some x) :
    ∃ l : List (List Nat), l.length = len ∧ (∀ b ∈ l, Rec.IsRec b) ∧ Rd w 9 len A (l.flatMap Rec.recL) ∧ len ≤ maxLen := by
  rcases Go.Deep.open_slice Try.underlying24 h with ⟨hcs, _⟩ | ⟨a, len', cap', m, n, D, Pl, hcs, hb, hl, hm, hmm, hx, hi⟩
  · simp only [List.cons.injEq, Value.slice.injEq, and_true] at hcs
    obtain ⟨rfl, rfl, rfl⟩ := hcs
    exact ⟨[], rfl, by simp, Rd.nil _ _ _, by unfold maxLen; omega⟩
  · simp only [List.cons.injEq, Value.slice.injEq, and_true] at hcs
    obtain ⟨rfl, rfl, rfl⟩ := hcs
    have hle : len ≤ m := by rw [hmm]; split <;> omega
    have hC : Try.prog.cellsOf 39 = 9 := by kernel_rfl
    rw [hC] at hi
    have each : ∀ i, i < len → ∃ y : List Nat, Rec.IsRec y ∧ ∀ j u, (Rec.recL y)[j]? = some u → w.cell? (a.add (i * 9 + j)) = some u := by
      intro i hil
      obtain ⟨cs', hc, ht⟩ := hi i (by omega)
      obtain ⟨_, hcl, hat⟩ := World.cells?_some hc
      obtain ⟨bs, hbs, rfl⟩ := rec_cells hcl ht
      refine ⟨bs, hbs, fun j u hu => ?_⟩
      have hj : j < 9 := by
        have := (List.getElem?_eq_some_iff.1 hu).1
        simpa [Rec.recL] using this
      have h1 := hat j (by simpa using hj)
      rw [Go.Deep.add_add] at h1
      rw [h1]; exact hu
    obtain ⟨l, hl1, hl2⟩ := list_of len each
    refine ⟨l, hl1, fun i hi => ?_, rd_of ?_ (by omega) (fun q u hu => ?_), Nat.le_trans hl hm⟩
    · obtain ⟨j, hj⟩ := List.getElem?_of_mem hi
      exact (hl2 j i hj).1
    · rw [← hl1]; clear hl1 hl2 each hi
      induction l with
      | nil => rfl
      | cons y l ih => simp only [List.flatMap_cons, List.length_append, List.length_cons, ih, show (Rec.recL y).length = 9 from rfl]; omega
    · have hq : q = q / 9 * 9 + q % 9 := by omega
      rw [hq, rec_at l _ _ (by omega)] at hu
      obtain ⟨y, hy, hu⟩ := Option.bind_eq_some_iff.1 hu
      rw [hq]
      exact (hl2 _ y hy).2 _ _ hu
end
end Go.Proofs.Ytnkffjdoillmaaa
