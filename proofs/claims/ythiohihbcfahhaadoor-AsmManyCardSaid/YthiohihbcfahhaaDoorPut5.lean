/- The laws' programs: codes, small instructions, lists of them. -/
import Derived.Test.YthiohihbcfahhaaDoorRefKnown
import Derived.Test.YthiohihbcfahhaaDoorCells
import Derived.Test.YthiohihbcfahhaaDoorSeg
import Derived.Test.YthiohihbcfahhaaDoorRow
import Derived.StillTailTactics
namespace Go.Proofs.YthiohihbcfahhaaDoor
open Go.RowKit
/-- All codes below a number. -/
def codesTo (k : Nat) : List Nat := (List.range k).filter knownB
theorem codesTo_yes {k : Nat} (h : knownB k = true) : codesTo (k + 1) = codesTo k ++ [k] := by
  unfold codesTo; rw [List.range_succ, List.filter_append]; simp [h]
theorem codesTo_no {k : Nat} (h : knownB k = false) : codesTo (k + 1) = codesTo k := by
  unfold codesTo; rw [List.range_succ, List.filter_append]; simp [h]
theorem codesTo_len (k : Nat) : (codesTo k).length ≤ k := by
  have := List.length_filter_le knownB (List.range k)
  simpa [codesTo] using this
theorem codesTo_lt {k c : Nat} (h : c ∈ codesTo k) : c < k := by
  unfold codesTo at h
  simpa using (List.mem_filter.1 h).1
theorem codesTo_pos : 0 < (codesTo 256).length := by
  have : (32 : Nat) ∈ codesTo 256 := by
    unfold codesTo; exact List.mem_filter.2 ⟨by simp, by rfl⟩
  exact List.length_pos_of_mem this
def u16v (l : List Nat) : List Value := l.map fun (x : Nat) => Value.int .u16 x
theorem u16v_one (l : List Nat) : ∀ u ∈ u16v l, u.oneCell' = true := by
  intro u hu
  obtain ⟨x, _, rfl⟩ := List.mem_map.1 hu
  rfl
theorem infoU16 : (Tryd.prog.info? 35).map (fun i => (i.zero, i.size, i.bytes)) = some (some (.int .u16 0), 1, 2) := by kernel_rfl
theorem one_new (w : World) (T : TypeId) (v : Value) (j : Nat) (u : Value) (h : [v][j]? = some u) : (w.alloc (.cells #[v] T)).cell? ((⟨w.heap.size, 0, none⟩ : Addr).add j) = some u := by
  have hj : j < 1 := by simpa using (List.getElem?_eq_some_iff.1 h).1
  obtain rfl : j = 0 := by omega
  simp at h; subst h; simp [Addr.add]
def CodesPost (w : World) (e : Ending) (w' : World) : Prop :=
  ∃ A cp, e = .returned (.slice A (codesTo 256).length cp) ∧ Seg w' w.heap.size 1 (codesTo 256).length A (u16v (codesTo 256)) ∧ Below w.heap.size w w'
set_option maxRecDepth 100000 in
set_option maxHeartbeats 2000000 in
theorem codes_any (w : World) : Calls Tryd.prog 36 #[] w (CodesPost w) := by
  obtain ⟨i0, hi, hz0, hz1, hz2⟩ := info_parts infoU16
  go_enter Tryd.func36, Tryd.ntmps36
  go_wp2_with fail
  go_loopw [1, 3] (fun v i wr => ∃ k m : Nat, k ≤ 256 ∧ m ≤ k ∧ i = .int .u16 k ∧ Hid (m = (codesTo k).length) ∧ Hid (wr.ownsRow w.heap.size 35 1 v m (u16v (codesTo k))) ∧ Hid (Below w.heap.size w wr)) (fun _ i _ => 256 - (intOf i).toNat)
  case atStart => exact ⟨0, 0, by omega, by omega, rfl, rfl, World.ownsRow_nil _ _ _ _, Below.refl _ _⟩
  case round =>
    obtain ⟨k, m, hk, hmk, rfl, Hm, Hown, Hb⟩ := hrel
    by_cases hlt : k < 256
    · have Kn := Lib.hid (fun w => refKnown_any k w (by omega))
      obtain ⟨bb, hbb⟩ : ∃ bb, bb = knownB k := ⟨_, rfl⟩
      unfold KnownPost at Kn
      rw [← hbb] at Kn
      have Hbb := Lib.hid hbb
      clear hbb
      go_wp2_with fail
      refine (Kn.out _).mono ?_
      rintro e w2 ⟨rfl, hb2⟩
      have Hown2 := Lib.hid (own_below Hown.out hb2)
      have Hb2 := Lib.hid (Hb.out.trans (hb2.mono Hb.out.size))
      clear hb2
      cases bb with
      | false =>
        have HE := Lib.hid (show codesTo (k + 1) = codesTo k from codesTo_no Hbb.out.symm)
        go_wp2_with fail
        go_roundw
        case rel => exact ⟨k + 1, m, by omega, by omega, by go_num, Lib.hid (by rw [HE.out]; exact Hm.out), Lib.hid (by rw [HE.out]; exact Hown2.out), Hb2⟩
        case measure => simp [intOf]; omega
      | true =>
        have HE := Lib.hid (show codesTo (k + 1) = codesTo k ++ [k] from codesTo_yes Hbb.out.symm)
        have Hnews := Lib.hid (one_new w2 35 (.int .u16 k))
        have Hsz := Lib.hid Hb2.out.size
        go_wp2_with (at_builtin; refine wpList_append_own _ rfl (.tmp 9) (.tmp 11) 76 rfl w.heap.size 35 i0 _ 1 2 Tryd.underlying76 hi hz0 hz1 hz2 rfl (by decide) _ m (u16v (codesTo k)) rfl (Hown2.out.alloc _) ⟨w2.heap.size, 0, none⟩ 1 1 [.int .u16 k] rfl rfl Hnews.out (by simp [Value.oneCell']) (by unfold maxLen; omega) (by omega) (Nat.le_trans Hsz.out (by simp)) ?_; intro v' w4 hown' hgrow _; have Hown4 := Lib.hid (show w4.ownsRow w.heap.size 35 1 v' (m + 1) (u16v (codesTo (k + 1))) from by rw [HE.out]; unfold u16v; rw [List.map_append]; exact hown'); have Hb4 := Lib.hid ((Hb2.out.alloc Hsz.out _).grown hgrow (Nat.le_trans Hsz.out (by simp)) (fun k hk => (Hown2.out.lt k hk).1)); clear hown' hgrow)
        go_roundw
        case rel => exact ⟨k + 1, m + 1, by omega, by omega, by go_num, Lib.hid (by rw [HE.out, List.length_append, ← Hm.out]; rfl), Hown4, Hb4⟩
        case measure => simp [intOf]; omega
    · obtain rfl : k = 256 := by omega
      go_wp2_with fail
      obtain ⟨A, cp, rfl, _, hs⟩ := own_seg Hown.out
      go_ret
      rw [Hm.out] at *
      exact ⟨A, cp, rfl, hs, Hb.out⟩
/-- A small instruction: its numbers, any one, whether that is meant. -/
structure Sml where
  c : Nat
  t : Nat
  f : Nat
  k : Nat
  any : Ins
  raw : Bool
def Sml.ok (s : Sml) : Prop := s.c < 256 ∧ s.t < 256 ∧ s.f < 256 ∧ s.k < 256 ∧ s.any.ok
def Sml.cells (s : Sml) : List Value := [.int .u8 s.c, .int .u8 s.t, .int .u8 s.f, .int .u8 s.k, .int .u16 s.any.c, .int .u8 s.any.t, .int .u8 s.any.f, .int .u32 s.any.k, .bool s.raw]
theorem sml_len (l : List Sml) : (l.flatMap Sml.cells).length = l.length * 9 := by
  induction l with
  | nil => rfl
  | cons i l ih => simp only [List.flatMap_cons, List.length_append, List.length_cons, ih, Sml.cells]; simp; omega
theorem sml_at : ∀ (l : List Sml) (k j : Nat), j < 9 → (l.flatMap Sml.cells)[k * 9 + j]? = (l[k]?).bind (fun x => x.cells[j]?)
  | [], k, j, _ => by simp
  | x :: l, k, j, hj => by
    rw [List.flatMap_cons]
    cases k with
    | zero => rw [List.getElem?_append_left (by simp [Sml.cells]; omega)]; simp
    | succ k =>
      rw [List.getElem?_append_right (by simp [Sml.cells]; omega), show (x.cells).length = 9 from rfl, show (k + 1) * 9 + j - 9 = k * 9 + j from by omega, sml_at l k j hj]
      simp
def SmlPost (w : World) (e : Ending) (w' : World) : Prop := ∃ x : Ins, x.ok ∧ e = .returned (.agg #[.int .u16 x.c, .int .u8 x.t, .int .u8 x.f, .int .u32 x.k]) ∧ Below w.heap.size w w'
theorem sml_box {w w2 : World} {T c t f k ac at' af ak : Nat} {raw : Bool} {o : Obj} (hb : Below ((w.alloc (.cells #[.int .u8 c, .int .u8 t, .int .u8 f, .int .u8 k, .int .u16 ac, .int .u8 at', .int .u8 af, .int .u32 ak, .bool raw] T)).alloc o).heap.size ((w.alloc (.cells #[.int .u8 c, .int .u8 t, .int .u8 f, .int .u8 k, .int .u16 ac, .int .u8 at', .int .u8 af, .int .u32 ak, .bool raw] T)).alloc o) w2) :
    (w2.cell? ⟨w.heap.size, 0, none⟩ = some (.int .u8 c) ∧ w2.cell? ⟨w.heap.size, 1, none⟩ = some (.int .u8 t) ∧ w2.cell? ⟨w.heap.size, 2, none⟩ = some (.int .u8 f) ∧ w2.cell? ⟨w.heap.size, 3, none⟩ = some (.int .u8 k)) ∧ Below w.heap.size w w2 := by
  have h := ((Bk.new w T #[.int .u8 c, .int .u8 t, .int .u8 f, .int .u8 k, .int .u16 ac, .int .u8 at', .int .u8 af, .int .u32 ak, .bool raw] rfl).alloc o).kept hb
  exact ⟨⟨h.cell 0 rfl, h.cell 1 rfl, h.cell 2 rfl, h.cell 3 rfl⟩, (((Below.refl _ _).alloc (Nat.le_refl _) _).alloc (by simp) _).trans (hb.mono (by simp; omega))⟩
theorem sml_ans {w w2 : World} {T c t f k ac at' af ak : Nat} {raw : Bool} (hb : Below ((w.alloc (.cells #[.int .u8 c, .int .u8 t, .int .u8 f, .int .u8 k, .int .u16 ac, .int .u8 at', .int .u8 af, .int .u32 ak, .bool raw] T)).alloc (.cells #[.int .u16 0, .int .u8 0, .int .u8 0, .int .u32 0] 38)).heap.size ((w.alloc (.cells #[.int .u8 c, .int .u8 t, .int .u8 f, .int .u8 k, .int .u16 ac, .int .u8 at', .int .u8 af, .int .u32 ak, .bool raw] T)).alloc (.cells #[.int .u16 0, .int .u8 0, .int .u8 0, .int .u32 0] 38)) w2) :
    Bk w2 (w.heap.size + 1) 38 [.int .u16 0, .int .u8 0, .int .u8 0, .int .u32 0] := by
  have h := (Bk.new (w.alloc (.cells #[.int .u8 c, .int .u8 t, .int .u8 f, .int .u8 k, .int .u16 ac, .int .u8 at', .int .u8 af, .int .u32 ak, .bool raw] T)) 38 #[.int .u16 0, .int .u8 0, .int .u8 0, .int .u32 0] rfl).kept hb
  rw [World.size_alloc] at h
  exact h
theorem cell_lt' {w : World} {b o : Nat} {v : Value} (h : w.cell? ⟨b, o, none⟩ = some v) : b < w.heap.size := by
  unfold World.cell? at h
  split at h
  · rename_i h2; exact (Array.getElem?_eq_some_iff.1 h2).1
  · cases h
theorem nine_cells {w : World} {S : List Sml} {b o k : Nat} {x : Sml} (h : ∀ j u, (S.flatMap Sml.cells)[j]? = some u → w.cell? ⟨b, o + j, none⟩ = some u) (hx : S[k]? = some x) :
    w.cell? ⟨b, o + k * 9, none⟩ = some (.int .u8 x.c) ∧ w.cell? ⟨b, o + k * 9 + 1, none⟩ = some (.int .u8 x.t) ∧ w.cell? ⟨b, o + k * 9 + 2, none⟩ = some (.int .u8 x.f) ∧ w.cell? ⟨b, o + k * 9 + 3, none⟩ = some (.int .u8 x.k) ∧
    w.cell? ⟨b, o + k * 9 + 4, none⟩ = some (.int .u16 x.any.c) ∧ w.cell? ⟨b, o + k * 9 + 5, none⟩ = some (.int .u8 x.any.t) ∧ w.cell? ⟨b, o + k * 9 + 6, none⟩ = some (.int .u8 x.any.f) ∧ w.cell? ⟨b, o + k * 9 + 7, none⟩ = some (.int .u32 x.any.k) ∧ w.cell? ⟨b, o + k * 9 + 8, none⟩ = some (.bool x.raw) := by
  have hh : ∀ j, j < 9 → ∀ u, x.cells[j]? = some u → w.cell? ⟨b, o + k * 9 + j, none⟩ = some u := fun j hj u hu => by
    rw [Nat.add_assoc]; exact h _ _ (by rw [sml_at S k j hj, hx]; exact hu)
  exact ⟨hh 0 (by omega) _ rfl, hh 1 (by omega) _ rfl, hh 2 (by omega) _ rfl, hh 3 (by omega) _ rfl, hh 4 (by omega) _ rfl, hh 5 (by omega) _ rfl, hh 6 (by omega) _ rfl, hh 7 (by omega) _ rfl, hh 8 (by omega) _ rfl⟩
theorem grow_ok {L : List Ins} {m : Nat} {X : Ins} (h : L.length = m ∧ (∀ i ∈ L, i.ok)) (hX : X.ok) : (L ++ [X]).length = m + 1 ∧ (∀ i ∈ L ++ [X], i.ok) := by
  refine ⟨by simp [h.1], fun i hi => ?_⟩
  rcases List.mem_append.1 hi with h1 | h1
  · exact h.2 i h1
  · simp at h1; subst h1; exact hX
def ProgPost (ends : Nat) (w : World) (e : Ending) (w' : World) : Prop :=
  ∃ (L : List Ins) (A : Option Addr) (cp : Nat), e = .returned (.slice A L.length cp) ∧ L.length ≤ cp ∧ Seg w' w.heap.size 4 L.length A (L.flatMap Ins.cells) ∧ (∀ i ∈ L, i.ok) ∧ L.length ≤ 65 ∧ ends % 6 ≤ L.length ∧ Below w.heap.size w w'
theorem sizeIns : (Tryd.prog.info? 38).map (·.size) = some 4 := by kernel_rfl
theorem small_ret {w W : World} {C t4 f4 Kn : Nat} {K : Int} {tmps : Array Value} (hp : tmps.getD 2 undef = .pointer (some ⟨w.heap.size + 1, 0, none⟩)) (hA : Bk W (w.heap.size + 1) 38 [.int .u16 0, .int .u8 0, .int .u8 0, .int .u32 0]) (hB : Below w.heap.size w W) (hK : K = (Kn : Int)) (hn : C < 65536 ∧ t4 < 256 ∧ f4 < 256) (hk : Kn < 4294967296) :
    bodyPost Tryd.prog Tryd.f22 (SmlPost w) .ret { tmps, defers := [] } ((((W.setCell ⟨w.heap.size + 1, 0, none⟩ (.int .u16 C)).setCell ⟨w.heap.size + 1, 1, none⟩ (.int .u8 t4)).setCell ⟨w.heap.size + 1, 2, none⟩ (.int .u8 f4)).setCell ⟨w.heap.size + 1, 3, none⟩ (.int .u32 K)).drew := by
  subst hK
  have h := ((((hA.set 0 (.int .u16 C)).set 1 (.int .u8 t4)).set 2 (.int .u8 f4)).set 3 (.int .u32 Kn)).drew
  have hb := ((((hB.setCell (p := ⟨w.heap.size + 1, 0, none⟩) (by simp) (.int .u16 C)).setCell (p := ⟨w.heap.size + 1, 1, none⟩) (by simp) (.int .u8 t4)).setCell (p := ⟨w.heap.size + 1, 2, none⟩) (by simp) (.int .u8 f4)).setCell (p := ⟨w.heap.size + 1, 3, none⟩) (by simp) (.int .u32 Kn)).drew
  exact bodyPost_ret (v := .agg #[.int .u16 C, .int .u8 t4, .int .u8 f4, .int .u32 Kn]) (results_cell_row Tryd.results22 tmps _ _ _ #[.int .u16 C, .int .u8 t4, .int .u8 f4, .int .u32 Kn] (0, 0) _ hp h Tryd.underlying38 rfl sizeIns) rfl ⟨⟨C, t4, f4, Kn⟩, ⟨hn.1, hn.2.1, hn.2.2, hk⟩, rfl, hb⟩
set_option maxRecDepth 100000 in
set_option maxHeartbeats 2000000 in
theorem small_any (s : Sml) (w : World) (hs : s.ok) : Calls Tryd.prog 22 #[.agg #[.int .u8 s.c, .int .u8 s.t, .int .u8 s.f, .int .u8 s.k, .int .u16 s.any.c, .int .u8 s.any.t, .int .u8 s.any.f, .int .u32 s.any.k, .bool s.raw]] w (SmlPost w) := by
  obtain ⟨c, t, f, k, ⟨ac, at', af, ak⟩, raw⟩ := s
  obtain ⟨h1, h2, h3, h4, h5⟩ := hs
  dsimp only at *
  have Hok := Lib.hid h5
  clear h5
  cases raw with
  | true =>
    go_enter Tryd.func22, Tryd.ntmps22
    have HE := Lib.hid (((Below.refl w.heap.size w).alloc (Nat.le_refl _) (.cells #[.int .u8 c, .int .u8 t, .int .u8 f, .int .u8 k, .int .u16 ac, .int .u8 at', .int .u8 af, .int .u32 ak, .bool true] 57)).alloc (by simp) (.cells #[.int .u16 ac, .int .u8 at', .int .u8 af, .int .u32 ak] 38))
    go_wp2_with fail
    exact bodyPost_ret (v := .agg #[.int .u16 ac, .int .u8 at', .int .u8 af, .int .u32 ak]) (by simp [results, Tryd.results22, go_sem]) rfl ⟨⟨ac, at', af, ak⟩, Hok.out, rfl, HE.out⟩
  | false =>
    go_enter Tryd.func22, Tryd.ntmps22
    go_wp2_with fail
    refine (codes_any _).mono ?_
    rintro e w2 ⟨A, cp, rfl, hseg, hb2⟩
    obtain ⟨M, hM⟩ : ∃ M, M = (codesTo 256).length := ⟨_, rfl⟩
    have hM0 : 0 < M := hM ▸ codesTo_pos
    have hM1 : M ≤ 256 := hM ▸ codesTo_len 256
    rw [← hM] at hseg ⊢
    obtain ⟨q, hq⟩ : ∃ q, q = c % M := ⟨_, rfl⟩
    have hqM : q < M := by rw [hq]; exact Nat.mod_lt _ hM0
    obtain ⟨C, hC⟩ : ∃ C, (codesTo 256)[q]? = some C := ⟨_, List.getElem?_eq_getElem (by omega)⟩
    have hCl : C < 256 := codesTo_lt (List.mem_of_getElem? hC)
    obtain ⟨b, o, rfl, _, hbl, hcs⟩ := hseg.pos hM0
    have cC : w2.cell? ⟨b, o + q, none⟩ = some (.int .u16 C) := hcs q _ (by simp [u16v, hC])
    have HX := Lib.hid (sml_box hb2)
    have HAn := Lib.hid (sml_ans hb2)
    obtain ⟨q0, q1, q2, q3⟩ := (sml_box hb2).1
    obtain ⟨t4, ht4⟩ : ∃ x, x = t % 4 := ⟨_, rfl⟩
    obtain ⟨f4, hf4⟩ : ∃ x, x = f % 4 := ⟨_, rfl⟩
    obtain ⟨k16, hk16⟩ : ∃ x, x = k % 16 := ⟨_, rfl⟩
    obtain ⟨k3, hk3⟩ : ∃ x, x = k % 3 := ⟨_, rfl⟩
    obtain ⟨k4, hk4⟩ : ∃ x, x = k % 4 := ⟨_, rfl⟩
    obtain ⟨k31, hk31⟩ : ∃ x, x = k % 31 := ⟨_, rfl⟩
    have Cl := Lib.hid (fun w => class_any C w (by omega))
    have m1 : Int.tmod (c : Int) (M : Int) = q := by rw [Int.tmod_eq_emod_of_nonneg (by omega), hq]; rfl
    have m2 : Int.tmod (t : Int) 4 = t4 := by rw [Int.tmod_eq_emod_of_nonneg (by omega)]; omega
    have m3 : Int.tmod (f : Int) 4 = f4 := by rw [Int.tmod_eq_emod_of_nonneg (by omega)]; omega
    have w1 : IntKind.i64.wrap (q : Int) = q := IntWalk.i64_in _ (by omega)
    have w2' : IntKind.u8.wrap (t4 : Int) = t4 := IntWalk.u8_in _ (by omega)
    have w3' : IntKind.u8.wrap (f4 : Int) = f4 := IntWalk.u8_in _ (by omega)
    have w4' : IntKind.i64.wrap (c : Int) = c := IntWalk.i64_in _ (by omega)
    have w5' : IntKind.u32.wrap (k : Int) = k := IntWalk.u32_in _ (by omega)
    have d0 : ((M : Int) == 0) = false := by simp; omega
    have x16 : (k : Int) % 16 = k16 := by omega
    have x3 : (k : Int) % 3 = k3 := by omega
    have x4 : (k : Int) % 4 = k4 := by omega
    have x31 : (k : Int) % 31 = k31 := by omega
    have y16 : k16 < 16 := by omega
    have y3 : k3 < 3 := by omega
    have y4 : k4 < 4 := by omega
    have y31 : k31 < 31 := by omega
    have z4 : t4 < 4 := by omega
    have zf4 : f4 < 4 := by omega
    have hal := (Below.refl w2.heap.size w2).alloc (Nat.le_refl _) (.cells #[.int .u16 0, .int .u8 0, .int .u8 0, .int .u32 0] 38)
    have hbx : w.heap.size < w2.heap.size := (cell_lt' q0)
    have p0 := (hal.cell (p := ⟨w.heap.size, 0, none⟩) hbx).trans q0
    have p1 := (hal.cell (p := ⟨w.heap.size, 1, none⟩) hbx).trans q1
    have p2 := (hal.cell (p := ⟨w.heap.size, 2, none⟩) hbx).trans q2
    have p3 := (hal.cell (p := ⟨w.heap.size, 3, none⟩) hbx).trans q3
    have pC := (hal.cell (p := ⟨b, o + q, none⟩) hbl).trans cC
    have hMn : ¬ M = 0 := by omega
    clear hal hM hq hC hcs hseg hb2 ht4 hf4 hk16 hk3 hk4 hk31
    go_wp2_with fail
    go_region
    clear q0 q1 q2 cC p0 p1 p2 pC m1 m2 m3 w1 w2' w3' w4' d0 hMn
    have A0 := fun (o : Obj) => (HAn.out.alloc o).cell 0 rfl
    have A1 := fun (o : Obj) => (HAn.out.alloc o).cell 1 rfl
    have A2 := fun (o : Obj) => (HAn.out.alloc o).cell 2 rfl
    have A3 := fun (o : Obj) => (HAn.out.alloc o).cell 3 rfl
    have F0 := fun (o : Obj) => (HAn.out.alloc o).fz 0
    have F1 := fun (o : Obj) => (HAn.out.alloc o).fz 1
    have F2 := fun (o : Obj) => (HAn.out.alloc o).fz 2
    have F3 := fun (o : Obj) => (HAn.out.alloc o).fz 3
    have HB2 := Lib.hid (HX.out.2.alloc HX.out.2.size (.cells #[.int .u16 0, .int .u8 0, .int .u8 0, .int .u32 0] 38))
    have HW := Lib.hid (fun (o : Obj) => And.intro (HAn.out.alloc o) (HX.out.2.alloc HX.out.2.size o))
    have HN := Lib.hid (And.intro (show C < 65536 by omega) (And.intro (show t4 < 256 by omega) (show f4 < 256 by omega)))
    have HK := Lib.hid (And.intro (show k < 4294967296 by omega) (And.intro (show k3 < 4294967296 by omega) (And.intro (show k4 < 4294967296 by omega) (And.intro (show k16 * 4 < 4294967296 by omega) (show 1 + k31 < 4294967296 by omega)))))
    go_wp2_with (go_at_call 37; refine (Cl.out _).mono ?_; rintro e w' ⟨rfl, rfl⟩)
    all_goals first
      | exact small_ret (Kn := k3) rfl (HW.out _).1 (HW.out _).2 rfl HN.out HK.out.2.1
      | exact small_ret (Kn := k4) rfl (HW.out _).1 (HW.out _).2 rfl HN.out HK.out.2.2.1
      | exact small_ret (Kn := k) rfl (HW.out _).1 (HW.out _).2 rfl HN.out HK.out.1
      | exact small_ret (Kn := k16 * 4) rfl (HW.out _).1 (HW.out _).2 rfl HN.out HK.out.2.2.2.1
      | exact small_ret (Kn := 1 + k31) rfl (HW.out _).1 (HW.out _).2 rfl HN.out HK.out.2.2.2.2
end Go.Proofs.YthiohihbcfahhaaDoor

