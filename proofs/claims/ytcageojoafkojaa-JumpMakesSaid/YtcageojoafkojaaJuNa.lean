/- JumpNames: names are names alone, walked. -/
import Derived.Test.YtcageojoafkojaaJuPa
namespace Go.Proofs.Ytcageojoafkojaa.Ju
open Go.RowKit Go.Maps Go.WideMaps Go.WideElems Go.ChangeMaps
/-- A part whose names are small numbers. -/
structure Sml (q : PtM) : Prop where
  kd : q.kd ≤ 4
  to1 : 0 ≤ q.to
  to2 : q.to ≤ 120
  el1 : 0 ≤ q.el
  el2 : q.el ≤ 120
  i : q.i.ok
theorem Sml.ok {q : PtM} (h : Sml q) : q.ok := by
  obtain ⟨h0, h1, h2, h3, h4, h5⟩ := h
  exact ⟨by omega, by omega, by omega, by omega, by omega, h5⟩
theorem sml_i {a b c d : Nat} (h1 : a < 65536) (h2 : b < 256) (h3 : c < 256) (h4 : d < 4294967296) : Ins.ok ⟨a, b, c, d⟩ := ⟨h1, h2, h3, h4⟩
theorem sml_mk {kd t e : Nat} {i : Ins} (h0 : kd ≤ 4) (h1 : t ≤ 120) (h2 : e ≤ 120) (hi : i.ok) : Sml ⟨kd, (t : Int), (e : Int), i⟩ := ⟨h0, by show (0 : Int) ≤ (t : Int); omega, by show (t : Int) ≤ 120; omega, by show (0 : Int) ≤ (e : Int); omega, by show (e : Int) ≤ 120; omega, hi⟩
theorem zI_ok : zI.ok := sml_i (by omega) (by omega) (by omega) (by omega)
theorem way_lt (h : Nat) : wayN h ≤ 64 := by
  unfold wayN
  split
  · omega
  · split
    · omega
    · split <;> omega
theorem one_sml {i : Nat} (hi : i < 20) (p : SmP) : ∀ q ∈ oneF i p, Sml q := by
  intro q hq
  unfold oneF at hq
  split at hq
  · rw [List.mem_singleton] at hq; subst hq
    exact sml_mk (t := 0) (e := 0) (by omega) (by omega) (by omega) (sml_i (by omega) (by omega) (by omega) (by omega))
  · split at hq
    · rw [List.mem_singleton] at hq; subst hq
      exact sml_mk (e := 0) (by omega) (by omega) (by omega) zI_ok
    · simp only [List.mem_cons, List.not_mem_nil, or_false] at hq
      rcases hq with rfl | rfl
      · have := way_lt (p.how % 4)
        exact sml_mk (by omega) (by unfold toF; split <;> omega) (by unfold elF; split <;> omega) (sml_i (by omega) (by omega) (by omega) (by omega))
      · exact sml_mk (e := 0) (by omega) (by omega) (by omega) zI_ok
theorem sm_sml : ∀ (t : List SmP) (i : Nat), i + t.length ≤ 20 → ∀ q ∈ smF i t, Sml q
  | [], _, _, q, hq => by cases hq
  | p :: t, i, h, q, hq => by
    rw [List.length_cons] at h
    rcases List.mem_append.1 (show q ∈ oneF i p ++ smF (i + 1) t from hq) with h1 | h1
    · exact one_sml (by omega) p q h1
    · exact sm_sml t (i + 1) (by omega) q h1
theorem rest_sml (pad : Nat) : ∀ m n : Nat, n + m ≤ 7 → ∀ q ∈ restF pad n m, Sml q
  | 0, n, _, q, hq => by
    rw [show restF pad n 0 = [retP 9] from rfl, List.mem_singleton] at hq; subst hq
    exact sml_mk (t := 0) (e := 0) (by omega) (by omega) (by omega) (sml_i (by omega) (by omega) (by omega) (by omega))
  | m + 1, n, h, q, hq => by
    rcases List.mem_append.1 (show q ∈ placeF pad n ++ restF pad (n + 1) m from hq) with h1 | h1
    · rcases List.mem_append.1 (show q ∈ List.replicate pad maskP ++ endP n from h1) with h2 | h2
      · rw [List.eq_of_mem_replicate h2]
        exact sml_mk (t := 0) (e := 0) (by omega) (by omega) (by omega) (sml_i (by omega) (by omega) (by omega) (by omega))
      · unfold endP at h2
        rcases List.mem_cons.1 h2 with rfl | h3
        · exact sml_mk (e := 0) (by omega) (by omega) (by omega) zI_ok
        · split at h3
          · rw [List.mem_singleton] at h3; subst h3
            exact sml_mk (t := 0) (e := 0) (by omega) (by omega) (by omega) (sml_i (by omega) (by omega) (by omega) (by omega))
          · cases h3
    · exact rest_sml pad m (n + 1) (by omega) q h1
theorem parts_sml (l : List SmP) (pad : Nat) : ∀ q ∈ partsF l pad, Sml q := fun q hq => by
  rcases List.mem_append.1 (show q ∈ smF 0 (l.take 20) ++ restF pad 1 6 from hq) with h1 | h1
  · exact sm_sml _ 0 (by rw [List.length_take]; omega) q h1
  · exact rest_sml pad 6 1 (by omega) q h1
theorem sm_len : ∀ (t : List SmP) (i : Nat), (smF i t).length ≤ 2 * t.length
  | [], _ => by simp [smF]
  | p :: t, i => by
    have := sm_len t (i + 1)
    rw [show smF i (p :: t) = oneF i p ++ smF (i + 1) t from rfl, List.length_append, List.length_cons]
    have h1 : (oneF i p).length ≤ 2 := by
      unfold oneF
      split
      · simp
      · split <;> simp
    omega
theorem rest_len (pad : Nat) : ∀ m n : Nat, (restF pad n m).length ≤ 1 + m * (pad + 2)
  | 0, n => by simp [restF]
  | m + 1, n => by
    have := rest_len pad m (n + 1)
    rw [show restF pad n (m + 1) = placeF pad n ++ restF pad (n + 1) m from rfl, List.length_append]
    have h1 : (placeF pad n).length ≤ pad + 2 := by
      unfold placeF endP
      rw [List.length_append, List.length_replicate, List.length_cons]
      split <;> simp
    rw [Nat.succ_mul]
    omega
theorem parts_len (l : List SmP) (pad : Nat) : (partsF l pad).length ≤ 41 + 6 * (pad + 2) := by
  have h1 := sm_len (l.take 20) 0
  have h2 := rest_len pad 6 1
  have h3 : (l.take 20).length ≤ 20 := by rw [List.length_take]; omega
  rw [show partsF l pad = smF 0 (l.take 20) ++ restF pad 1 6 from rfl, List.length_append]
  omega
theorem four_at {w : World} {b o k : Nat} {l : List Ins} {x : Ins} (hc : ∀ k x, l[k]? = some x → ∀ j v, (Ins.cells x)[j]? = some v → w.cell? ⟨b, o + (k * 4 + j), none⟩ = some v) (h : l[k]? = some x) :
    w.cell? ⟨b, o + k * 4, none⟩ = some (.int .u16 x.c) ∧ w.cell? ⟨b, o + k * 4 + 1, none⟩ = some (.int .u8 x.t) ∧ w.cell? ⟨b, o + k * 4 + 2, none⟩ = some (.int .u8 x.f) ∧ w.cell? ⟨b, o + k * 4 + 3, none⟩ = some (.int .u32 x.k) := by
  have hj := fun j v hv => hc k x h j v hv
  simp only [← Nat.add_assoc] at hj
  exact ⟨hj 0 _ rfl, hj 1 _ rfl, hj 2 _ rfl, hj 3 _ rfl⟩
theorem neq_ins (a b c d : Int) (w : World) : (binOp .neq 122 (.agg #[.int .u16 a, .int .u8 b, .int .u8 c, .int .u32 d]) (.agg #[.int .u16 a, .int .u8 b, .int .u8 c, .int .u32 d])).run Try.prog w = .ok (.bool false) w := by
  rw [run_neq_struct, run_equalIn_agg w 9999 _ _ _ (by simp [Program.fieldsOf, Try.underlying122]) (by kernel_rfl)]
  simp [Op.eqFields, Program.fieldsOf, Try.underlying122, go_sem]
theorem own_rdP {w : World} {B n : Nat} {A : Option Addr} {c : Nat} {xs : List Value} (h : w.ownsRow B 125 7 (.slice A n c) n xs) : Rd w 7 n A xs := by
  obtain ⟨A9, c9, e, _, h, _⟩ := own_typed h
  cases e
  exact h.rd
theorem own_rdI {w : World} {B n : Nat} {A : Option Addr} {c : Nat} {xs : List Value} (h : w.ownsRow B 122 4 (.slice A n c) n xs) : Rd w 4 n A xs := by
  obtain ⟨A9, c9, e, _, h, _⟩ := own_typed h
  cases e
  exact h.rd
theorem ren_ok {q : PtM} (h : Sml q) {m : Nat} (hm : m ≤ 5) : (renP (fun x => 7000 - x * (m : Int)) q).ok := by
  obtain ⟨h0, h1, h2, h3, h4, h5⟩ := h
  have a1 : 0 ≤ q.to * (m : Int) := Int.mul_nonneg h1 (by omega)
  have a2 : q.to * (m : Int) ≤ 120 * 5 := Int.mul_le_mul h2 (by omega) (by omega) (by omega)
  have b1 : 0 ≤ q.el * (m : Int) := Int.mul_nonneg h3 (by omega)
  have b2 : q.el * (m : Int) ≤ 120 * 5 := Int.mul_le_mul h4 (by omega) (by omega) (by omega)
  unfold renP
  refine ⟨by show q.kd < 256; omega, ?_, ?_, ?_, ?_, h5⟩ <;> simp only <;> split <;> omega
theorem ren_both {f : Int → Int} (hf : ∀ x y, f x = f y → x = y) (l : List PtM) : (makeF (l.map (renP f))).1 = (makeF l).1 ∧ (makeF (l.map (renP f))).2.ins = (makeF l).2.ins := by
  rw [make_ren hf l]
  exact ⟨rfl, rfl⟩
theorem VR.set_own {w W : World} {v v' : Value} {s : List PtM} {xb j : Nat} (h : VR w W v s) (hx : ∀ g, v.ownBlock = some g → g ≠ xb) (hw : w.heap.size ≤ xb) : VR w (W.setCell ⟨xb, j, none⟩ v') v s := by
  have hs := only_set W xb j v'
  exact ⟨h.bel.grown hs h.bel.size (fun r e => by injection e with e; omega), own_keep h.row hs (fun b hb e => hx b hb e)⟩
end Go.Proofs.Ytcageojoafkojaa.Ju

