/- What MountPlays is handed: calls, places. -/
import Derived.Test.YtmbgmbheonpamaaMtC
import Derived.Test.YtmbgmbheonpamaaRowU
import Derived.Deep.Slices
import Derived.ChangeArms
import Derived.ChangeSlices
import Derived.DataReads
import Derived.ProofKit
import Derived.ChangeOld
import Derived.SliceStrings
import Derived.OpenShut
namespace Go.Proofs.Ytmbgmbheonpamaa.Mt
set_option maxRecDepth 100000
open Go.ChangeShapes Go.WideShapes Go.ChangeAt Go.RowKit Go.Deep In
theorem list_ofM {α : Type} {Q : Nat → α → Prop} : ∀ (n : Nat), (∀ i, i < n → ∃ x, Q i x) → ∃ l : List α, l.length = n ∧ ∀ i x, l[i]? = some x → Q i x
  | 0, _ => ⟨[], rfl, fun i x h => by simp at h⟩
  | n + 1, h => by
    obtain ⟨l, hl, hq⟩ := list_ofM n (fun i hi => h i (by omega))
    obtain ⟨x, hx⟩ := h n (by omega)
    refine ⟨l ++ [x], by simp [hl], fun i y hy => ?_⟩
    by_cases hi : i < n
    · rw [List.getElem?_append_left (by omega)] at hy; exact hq i y hy
    · have : i = n := by
        have := (List.getElem?_eq_some_iff.1 hy).1
        simp at this; omega
      subst this
      rw [List.getElem?_append_right (by omega), hl] at hy
      simp at hy; subst hy; exact hx
theorem flatzM {α : Type} (f : α → List Value) (z : Nat) (hf : ∀ x, (f x).length = z) (hz : 0 < z) : ∀ (l : List α) (i j : Nat), j < z → (l.flatMap f)[i * z + j]? = (l[i]?).bind (fun x => (f x)[j]?)
  | [], i, j, _ => by simp
  | x :: l, 0, j, hj => by
    rw [List.flatMap_cons, List.getElem?_append_left (by rw [hf]; omega)]; simp
  | x :: l, i + 1, j, hj => by
    rw [List.flatMap_cons, List.getElem?_append_right (by rw [hf, Nat.add_mul]; omega), hf, show (i + 1) * z + j - z = i * z + j from by rw [Nat.add_mul]; omega, flatzM f z hf hz l i j hj]; simp
theorem flatz_lenM {α : Type} (f : α → List Value) (z : Nat) (hf : ∀ x, (f x).length = z) : ∀ l : List α, (l.flatMap f).length = l.length * z
  | [] => by simp
  | x :: l => by rw [List.flatMap_cons, List.length_append, hf, flatz_lenM f z hf l, List.length_cons, Nat.add_mul]; omega
/-- A call. -/
structure AcM where
  kd : Int
  root : Int
  mt : Int
  ino : Int
  am : Int
  ai : Int
  more : Bool
  raw : Bool
def AcM.cells (x : AcM) : List Value := [.int .u8 x.kd, .int .u8 x.root, .int .u8 x.mt, .int .u8 x.ino, .int .i64 x.am, .int .u16 x.ai, .bool x.more, .bool x.raw]
structure AcM.ok (x : AcM) : Prop where
  kd : 0 ≤ x.kd ∧ x.kd ≤ 255
  root : 0 ≤ x.root ∧ x.root ≤ 255
  mt : 0 ≤ x.mt ∧ x.mt ≤ 255
  ino : 0 ≤ x.ino ∧ x.ino ≤ 255
  am : InR x.am
  ai : 0 ≤ x.ai ∧ x.ai ≤ 65535
def plC (p : Pl) : List Value := [.int .i64 p.1, .int .u16 p.2]
def PlOk (p : Pl) : Prop := InR p.1 ∧ 0 ≤ p.2 ∧ p.2 ≤ 65535
def ActsIn (w : World) (A : Option Addr) (n c : Nat) : Prop := ∃ l : List AcM, l.length = n ∧ (∀ x ∈ l, x.ok) ∧ Rd w 8 n A (l.flatMap AcM.cells) ∧ n ≤ maxLen ∧ n ≤ c
def PlsIn (w : World) (A : Option Addr) (n c : Nat) : Prop := ∃ l : List Pl, l.length = n ∧ (∀ x ∈ l, PlOk x) ∧ Rd w 2 n A (l.flatMap plC) ∧ n ≤ maxLen ∧ n ≤ c ∧ (A = none → c = 0)
section
variable {H : Type} {enc : TypeId × Value → H} {w : World} {base : Nat} {spare : Nat → Bool} {held : Bool} {fuel : Nat} {x : DataW H × List MemPlace} {A : Option Addr} {len cap : Nat}
theorem one_fieldM {f : Field} {T k : Nat} {cs : List Value} {v : Value} {y : Option (DataW H × List MemPlace)} (h : DataW.trod enc Try.prog w base spare held fuel f.type ((cs.drop f.offset).take (Try.prog.cellsOf f.type)) = y)
    (hT : f.type = T) (hk : f.offset = k) (hc : Try.prog.cellsOf T = 1) (hv : (cs.drop k).take 1 = [v]) : DataW.trod enc Try.prog w base spare held fuel T [v] = y := by
  subst hT hk
  rwa [hc, hv] at h
theorem two_fieldM {f : Field} {T k : Nat} {cs : List Value} {v u : Value} {y : Option (DataW H × List MemPlace)} (h : DataW.trod enc Try.prog w base spare held fuel f.type ((cs.drop f.offset).take (Try.prog.cellsOf f.type)) = y)
    (hT : f.type = T) (hk : f.offset = k) (hc : Try.prog.cellsOf T = 2) (hv : (cs.drop k).take 2 = [v, u]) : DataW.trod enc Try.prog w base spare held fuel T [v, u] = y := by
  subst hT hk
  rwa [hc, hv] at h
theorem u8_ofM {v : Value} (h : ∃ y, DataW.trod enc Try.prog w base spare held fuel 5 [v] = some y) : ∃ n : Int, v = .int .u8 n ∧ 0 ≤ n ∧ n ≤ 255 := by
  obtain ⟨y, h⟩ := h
  obtain ⟨n, e, _, g⟩ := DataW.trod_int Try.underlying5 h
  have b := bounds_u8 g
  simp only [List.cons.injEq, and_true] at e
  exact ⟨n, e, by omega, by omega⟩
theorem bool_ofM {v : Value} (h : ∃ y, DataW.trod enc Try.prog w base spare held fuel 4 [v] = some y) : ∃ b : Bool, v = .bool b := by
  obtain ⟨y, h⟩ := h
  obtain ⟨n, e, _⟩ := DataW.trod_bool Try.underlying4 h
  simp only [List.cons.injEq, and_true] at e
  exact ⟨n, e⟩
theorem pl_ofM {v u : Value} (h : ∃ y, DataW.trod enc Try.prog w base spare held fuel 74 [v, u] = some y) : ∃ p : Pl, PlOk p ∧ v = .int .i64 p.1 ∧ u = .int .u16 p.2 := by
  obtain ⟨y, ht⟩ := h
  obtain ⟨xs, n', _, _, _, hxl, hf⟩ := DataW.trod_struct Try.underlying74 ht
  obtain ⟨y0, y1, rfl⟩ : ∃ v0 v1, xs = [v0, v1] := by
    match xs, hxl with
    | [v0, v1], _ => exact ⟨v0, v1, rfl⟩
  have h64 : Try.prog.cellsOf 3 = 1 := by kernel_rfl
  have h16 : Try.prog.cellsOf 28 = 1 := by kernel_rfl
  obtain ⟨n0, e0, _, g0⟩ := DataW.trod_int Try.underlying3 (one_fieldM (hf 0 _ rfl) rfl rfl h64 rfl)
  obtain ⟨n1, e1, _, g1⟩ := DataW.trod_int Try.underlying28 (one_fieldM (hf 1 _ rfl) rfl rfl h16 rfl)
  simp only [List.cons.injEq, and_true] at e0 e1
  have b0 := bounds_i64 g0
  have b1 := bounds_u16 g1
  exact ⟨(n0, n1), ⟨⟨by show -9223372036854775808 ≤ n0; omega, by show n0 ≤ 9223372036854775807; omega⟩, by show 0 ≤ n1; omega, by show n1 ≤ 65535; omega⟩, e0, e1⟩
theorem open_acts (h : DataW.trod enc Try.prog w base spare held fuel 69 [.slice A len cap] = some x) : ActsIn w A len cap := by
  rcases Go.Deep.open_slice Try.underlying69 h with ⟨hcs, _⟩ | ⟨a, len', cap', m, n, D, Pl, hcs, hb, hl, hm, hmm, hx, hi⟩
  · simp only [List.cons.injEq, Value.slice.injEq, and_true] at hcs
    obtain ⟨rfl, rfl, rfl⟩ := hcs
    exact ⟨[], rfl, by simp, Rd.nil _ _ _, by unfold maxLen; omega, Nat.le_refl _⟩
  · simp only [List.cons.injEq, Value.slice.injEq, and_true] at hcs
    obtain ⟨rfl, rfl, rfl⟩ := hcs
    have hle : len ≤ m := by rw [hmm]; split <;> omega
    have hC : Try.prog.cellsOf 76 = 8 := by kernel_rfl
    have hC8 : Try.prog.cellsOf 5 = 1 := by kernel_rfl
    have hCb : Try.prog.cellsOf 4 = 1 := by kernel_rfl
    have hCp : Try.prog.cellsOf 74 = 2 := by kernel_rfl
    rw [hC] at hi
    have each : ∀ i, i < len → ∃ y : AcM, y.ok ∧ ∀ j u, y.cells[j]? = some u → w.cell? (a.add (i * 8 + j)) = some u := by
      intro i hil
      obtain ⟨cs', hc, ht⟩ := hi i (by omega)
      obtain ⟨_, hcl, hat⟩ := World.cells?_some hc
      obtain ⟨xs, n', _, _, _, hxl, hf⟩ := DataW.trod_struct Try.underlying76 ht
      obtain ⟨v0, v1, v2, v3, v4, v5, v6, v7, rfl⟩ : ∃ v0 v1 v2 v3 v4 v5 v6 v7, cs' = [v0, v1, v2, v3, v4, v5, v6, v7] := by
        match cs', hcl with
        | [v0, v1, v2, v3, v4, v5, v6, v7], _ => exact ⟨v0, v1, v2, v3, v4, v5, v6, v7, rfl⟩
      obtain ⟨y0, y1, y2, y3, y4, y5, y6, rfl⟩ : ∃ v0 v1 v2 v3 v4 v5 v6, xs = [v0, v1, v2, v3, v4, v5, v6] := by
        match xs, hxl with
        | [v0, v1, v2, v3, v4, v5, v6], _ => exact ⟨v0, v1, v2, v3, v4, v5, v6, rfl⟩
      obtain ⟨n0, rfl, g0⟩ := u8_ofM ⟨_, one_fieldM (hf 0 _ rfl) rfl rfl hC8 rfl⟩
      obtain ⟨n1, rfl, g1⟩ := u8_ofM ⟨_, one_fieldM (hf 1 _ rfl) rfl rfl hC8 rfl⟩
      obtain ⟨n2, rfl, g2⟩ := u8_ofM ⟨_, one_fieldM (hf 2 _ rfl) rfl rfl hC8 rfl⟩
      obtain ⟨n3, rfl, g3⟩ := u8_ofM ⟨_, one_fieldM (hf 3 _ rfl) rfl rfl hC8 rfl⟩
      obtain ⟨q, gq, rfl, rfl⟩ := pl_ofM ⟨_, two_fieldM (hf 4 _ rfl) rfl rfl hCp rfl⟩
      obtain ⟨b5, rfl⟩ := bool_ofM ⟨_, one_fieldM (hf 5 _ rfl) rfl rfl hCb rfl⟩
      obtain ⟨b6, rfl⟩ := bool_ofM ⟨_, one_fieldM (hf 6 _ rfl) rfl rfl hCb rfl⟩
      refine ⟨⟨n0, n1, n2, n3, q.1, q.2, b5, b6⟩, ⟨g0, g1, g2, g3, gq.1, gq.2⟩, fun j u hu => ?_⟩
      have hj : j < 8 := by
        have := (List.getElem?_eq_some_iff.1 hu).1
        simpa [AcM.cells] using this
      have h1 := hat j (by simpa using hj)
      rw [Go.Deep.add_add] at h1
      rw [h1]; exact hu
    obtain ⟨l, hl1, hl2⟩ := list_ofM len each
    refine ⟨l, hl1, fun i hi => ?_, rd_of ?_ (by omega) fun q u hu => ?_, by omega, hl⟩
    · obtain ⟨j, hj⟩ := List.getElem?_of_mem hi
      exact (hl2 j i hj).1
    · rw [flatz_lenM AcM.cells 8 (fun _ => rfl), hl1]
    · have hq : q = q / 8 * 8 + q % 8 := by omega
      rw [hq, flatzM AcM.cells 8 (fun _ => rfl) (by omega) l _ _ (by omega)] at hu
      obtain ⟨y, hy, hu⟩ := Option.bind_eq_some_iff.1 hu
      rw [hq]
      exact (hl2 _ y hy).2 _ _ hu
theorem open_pls (h : DataW.trod enc Try.prog w base spare held fuel 70 [.slice A len cap] = some x) : PlsIn w A len cap := by
  rcases Go.Deep.open_slice Try.underlying70 h with ⟨hcs, _⟩ | ⟨a, len', cap', m, n, D, Pl, hcs, hb, hl, hm, hmm, hx, hi⟩
  · simp only [List.cons.injEq, Value.slice.injEq, and_true] at hcs
    obtain ⟨rfl, rfl, rfl⟩ := hcs
    exact ⟨[], rfl, by simp, Rd.nil _ _ _, by unfold maxLen; omega, Nat.le_refl _, fun _ => rfl⟩
  · simp only [List.cons.injEq, Value.slice.injEq, and_true] at hcs
    obtain ⟨rfl, rfl, rfl⟩ := hcs
    have hle : len ≤ m := by rw [hmm]; split <;> omega
    have hC : Try.prog.cellsOf 74 = 2 := by kernel_rfl
    rw [hC] at hi
    have each : ∀ i, i < len → ∃ y : Mt.Pl, PlOk y ∧ ∀ j u, (plC y)[j]? = some u → w.cell? (a.add (i * 2 + j)) = some u := by
      intro i hil
      obtain ⟨cs', hc, ht⟩ := hi i (by omega)
      obtain ⟨_, hcl, hat⟩ := World.cells?_some hc
      obtain ⟨v0, v1, rfl⟩ : ∃ v0 v1, cs' = [v0, v1] := by
        match cs', hcl with
        | [v0, v1], _ => exact ⟨v0, v1, rfl⟩
      obtain ⟨q, gq, rfl, rfl⟩ := pl_ofM ⟨_, ht⟩
      refine ⟨q, gq, fun j u hu => ?_⟩
      have hj : j < 2 := by
        have := (List.getElem?_eq_some_iff.1 hu).1
        simpa [plC] using this
      have h1 := hat j (by simpa using hj)
      rw [Go.Deep.add_add] at h1
      rw [h1]; exact hu
    obtain ⟨l, hl1, hl2⟩ := list_ofM len each
    refine ⟨l, hl1, fun i hi => ?_, rd_of ?_ (by omega) fun q u hu => ?_, by omega, hl, fun e => by cases e⟩
    · obtain ⟨j, hj⟩ := List.getElem?_of_mem hi
      exact (hl2 j i hj).1
    · rw [flatz_lenM plC 2 (fun _ => rfl), hl1]
    · have hq : q = q / 2 * 2 + q % 2 := by omega
      rw [hq, flatzM plC 2 (fun _ => rfl) (by omega) l _ _ (by omega)] at hu
      obtain ⟨y, hy, hu⟩ := Option.bind_eq_some_iff.1 hu
      rw [hq]
      exact (hl2 _ y hy).2 _ _ hu
end
end Go.Proofs.Ytmbgmbheonpamaa.Mt
