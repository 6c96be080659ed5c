/- JumpNames: names are names alone, walked. -/
import Derived.Test.YtjgackejkkglcaaJuPa
namespace Go.Proofs.Ytjgackejkkglcaa.Ju
open Go.RowKit Go.Maps Go.WideMaps Go.WideElems Go.ChangeMaps
/-- A part whose names are small numbers. -/
structure Sml (q : PtM) : Prop where
  kd : q.kd ≤ 4
  to1 : 0 ≤ q.to
  to2 : q.to ≤ 120
  el1 : 0 ≤ q.el
  el2 : q.el ≤ 120
  i : q.i.ok
theorem Sml.ok {q : PtM} (h : Sml q) : q.ok := by
  obtain ⟨h0, h1, h2, h3, h4, h5⟩ := h
  exact ⟨by omega, by omega, by omega, by omega, by omega, h5⟩
theorem sml_i {a b c d : Nat} (h1 : a < 65536) (h2 : b < 256) (h3 : c < 256) (h4 : d < 4294967296) : Ins.ok ⟨a, b, c, d⟩ := ⟨h1, h2, h3, h4⟩
theorem sml_mk {kd t e : Nat} {i : Ins} (h0 : kd ≤ 4) (h1 : t ≤ 120) (h2 : e ≤ 120) (hi : i.ok) : Sml ⟨kd, (t : Int), (e : Int), i⟩ := ⟨h0, by show (0 : Int) ≤ (t : Int); omega, by show (t : Int) ≤ 120; omega, by show (0 : Int) ≤ (e : Int); omega, by show (e : Int) ≤ 120; omega, hi⟩
theorem zI_ok : zI.ok := sml_i (by omega) (by omega) (by omega) (by omega)
theorem way_lt (h : Nat) : wayN h ≤ 64 := by
  unfold wayN
  split
  · omega
  · split
    · omega
    · split <;> omega
theorem one_sml {i : Nat} (hi : i < 20) (p : SmP) : ∀ q ∈ oneF i p, Sml q := by
  intro q hq
  unfold oneF at hq
  split at hq
  · rw [List.mem_singleton] at hq; subst hq
    exact sml_mk (t := 0) (e := 0) (by omega) (by omega) (by omega) (sml_i (by omega) (by omega) (by omega) (by omega))
  · split at hq
    · rw [List.mem_singleton] at hq; subst hq
      exact sml_mk (e := 0) (by omega) (by omega) (by omega) zI_ok
    · simp only [List.mem_cons, List.not_mem_nil, or_false] at hq
      rcases hq with rfl | rfl
      · have := way_lt (p.how % 4)
        exact sml_mk (by omega) (by unfold toF; split <;> omega) (by unfold elF; split <;> omega) (sml_i (by omega) (by omega) (by omega) (by omega))
      · exact sml_mk (e := 0) (by omega) (by omega) (by omega) zI_ok
theorem sm_sml : ∀ (t : List SmP) (i : Nat), i + t.length ≤ 20 → ∀ q ∈ smF i t, Sml q
  | [], _, _, q, hq => by cases hq
  | p :: t, i, h, q, hq => by
    rw [List.length_cons] at h
    rcases List.mem_append.1 (show q ∈ oneF i p ++ smF (i + 1) t from hq) with h1 | h1
    · exact one_sml (by omega) p q h1
    · exact sm_sml t (i + 1) (by omega) q h1
theorem rest_sml (pad : Nat) : ∀ m n : Nat, n + m ≤ 7 → ∀ q ∈ restF pad n m, Sml q
  | 0, n, _, q, hq => by
    rw [show restF pad n 0 = [retP 9] from rfl, List.mem_singleton] at hq; subst hq
    exact sml_mk (t := 0) (e := 0) (by omega) (by omega) (by omega) (sml_i (by omega) (by omega) (by omega) (by omega))
  | m + 1, n, h, q, hq => by
    rcases List.mem_append.1 (show q ∈ placeF pad n ++ restF pad (n + 1) m from hq) with h1 | h1
    · rcases List.mem_append.1 (show q ∈ List.replicate pad maskP ++ endP n from h1) with h2 | h2
      · rw [List.eq_of_mem_replicate h2]
        exact sml_mk (t := 0) (e := 0) (by omega) (by omega) (by omega) (sml_i (by omega) (by omega) (by omega) (by omega))
      · unfold endP at h2
        rcases List.mem_cons.1 h2 with rfl | h3
        · exact sml_mk (e := 0) (by omega) (by omega) (by omega) zI_ok
        · split at h3
          · rw [List.mem_singleton] at h3; subst h3
            exact sml_mk (t := 0) (e := 0) (by omega) (by omega) (by omega) (sml_i (by omega) (by omega) (by omega) (by omega))
          · cases h3
    · exact rest_sml pad m (n + 1) (by omega) q h1
theorem parts_sml (l : List SmP) (pad : Nat) : ∀ q ∈ partsF l pad, Sml q := fun q hq => by
  rcases List.mem_append.1 (show q ∈ smF 0 (l.take 20) ++ restF pad 1 6 from hq) with h1 | h1
  · exact sm_sml _ 0 (by rw [List.length_take]; omega) q h1
  · exact rest_sml pad 6 1 (by omega) q h1
theorem sm_len : ∀ (t : List SmP) (i : Nat), (smF i t).length ≤ 2 * t.length
  | [], _ => by simp [smF]
  | p :: t, i => by
    have := sm_len t (i + 1)
    rw [show smF i (p :: t) = oneF i p ++ smF (i + 1) t from rfl, List.length_append, List.length_cons]
    have h1 : (oneF i p).length ≤ 2 := by
      unfold oneF
      split
      · simp
      · split <;> simp
    omega
theorem rest_len (pad : Nat) : ∀ m n : Nat, (restF pad n m).length ≤ 1 + m * (pad + 2)
  | 0, n => by simp [restF]
  | m + 1, n => by
    have := rest_len pad m (n + 1)
    rw [show restF pad n (m + 1) = placeF pad n ++ restF pad (n + 1) m from rfl, List.length_append]
    have h1 : (placeF pad n).length ≤ pad + 2 := by
      unfold placeF endP
      rw [List.length_append, List.length_replicate, List.length_cons]
      split <;> simp
    rw [Nat.succ_mul]
    omega
theorem parts_len (l : List SmP) (pad : Nat) : (partsF l pad).length ≤ 41 + 6 * (pad + 2) := by
  have h1 := sm_len (l.take 20) 0
  have h2 := rest_len pad 6 1
  have h3 : (l.take 20).length ≤ 20 := by rw [List.length_take]; omega
  rw [show partsF l pad = smF 0 (l.take 20) ++ restF pad 1 6 from rfl, List.length_append]
  omega
theorem four_at {w : World} {b o k : Nat} {l : List Ins} {x : Ins} (hc : ∀ k x, l[k]? = some x → ∀ j v, (Ins.cells x)[j]? = some v → w.cell? ⟨b, o + (k * 4 + j), none⟩ = some v) (h : l[k]? = some x) :
    w.cell? ⟨b, o + k * 4, none⟩ = some (.int .u16 x.c) ∧ w.cell? ⟨b, o + k * 4 + 1, none⟩ = some (.int .u8 x.t) ∧ w.cell? ⟨b, o + k * 4 + 2, none⟩ = some (.int .u8 x.f) ∧ w.cell? ⟨b, o + k * 4 + 3, none⟩ = some (.int .u32 x.k) := by
  have hj := fun j v hv => hc k x h j v hv
  simp only [← Nat.add_assoc] at hj
  exact ⟨hj 0 _ rfl, hj 1 _ rfl, hj 2 _ rfl, hj 3 _ rfl⟩
theorem neq_ins (a b c d : Int) (w : World) : (binOp .neq 53 (.agg #[.int .u16 a, .int .u8 b, .int .u8 c, .int .u32 d]) (.agg #[.int .u16 a, .int .u8 b, .int .u8 c, .int .u32 d])).run Try.prog w = .ok (.bool false) w := by
  rw [run_neq_struct, run_equalIn_agg w 9999 _ _ _ (by simp [Program.fieldsOf, Try.underlying53]) (by kernel_rfl)]
  simp [Op.eqFields, Program.fieldsOf, Try.underlying53, go_sem]
theorem own_rdP {w : World} {B n : Nat} {A : Option Addr} {c : Nat} {xs : List Value} (h : w.ownsRow B 57 7 (.slice A n c) n xs) : Rd w 7 n A xs := by
  obtain ⟨A9, c9, e, _, h, _⟩ := own_typed h
  cases e
  exact h.rd
theorem own_rdI {w : World} {B n : Nat} {A : Option Addr} {c : Nat} {xs : List Value} (h : w.ownsRow B 53 4 (.slice A n c) n xs) : Rd w 4 n A xs := by
  obtain ⟨A9, c9, e, _, h, _⟩ := own_typed h
  cases e
  exact h.rd
theorem ren_ok {q : PtM} (h : Sml q) {m : Nat} (hm : m ≤ 5) : (renP (fun x => 7000 - x * (m : Int)) q).ok := by
  obtain ⟨h0, h1, h2, h3, h4, h5⟩ := h
  have a1 : 0 ≤ q.to * (m : Int) := Int.mul_nonneg h1 (by omega)
  have a2 : q.to * (m : Int) ≤ 120 * 5 := Int.mul_le_mul h2 (by omega) (by omega) (by omega)
  have b1 : 0 ≤ q.el * (m : Int) := Int.mul_nonneg h3 (by omega)
  have b2 : q.el * (m : Int) ≤ 120 * 5 := Int.mul_le_mul h4 (by omega) (by omega) (by omega)
  unfold renP
  refine ⟨by show q.kd < 256; omega, ?_, ?_, ?_, ?_, h5⟩ <;> simp only <;> split <;> omega
theorem ren_both {f : Int → Int} (hf : ∀ x y, f x = f y → x = y) (l : List PtM) : (makeF (l.map (renP f))).1 = (makeF l).1 ∧ (makeF (l.map (renP f))).2.ins = (makeF l).2.ins := by
  rw [make_ren hf l]
  exact ⟨rfl, rfl⟩
theorem VR.set_own {w W : World} {v v' : Value} {s : List PtM} {xb j : Nat} (h : VR w W v s) (hx : ∀ g, v.ownBlock = some g → g ≠ xb) (hw : w.heap.size ≤ xb) : VR w (W.setCell ⟨xb, j, none⟩ v') v s := by
  have hs := only_set W xb j v'
  exact ⟨h.bel.grown hs h.bel.size (fun r e => by injection e with e; omega), own_keep h.row hs (fun b hb e => hx b hb e)⟩
set_option maxHeartbeats 16000000 in
set_option maxRecDepth 100000 in
theorem names_any (l : List SmP) (n : Nat) (A : Option Addr) (cap pd bb0 : Nat) (w : World) (hl : l.length = n) (hn : n ≤ maxLen) (hpd : pd < 256) (hbb : bb0 < 256) (hok : ∀ p ∈ l, p.ok) (hr : Rd w 6 n A (l.flatMap SmP.cells)) :
    Calls Try.prog 7 #[.slice A n cap, .int .u8 pd, .int .u8 bb0] w (RetB true w) := by
  obtain ⟨p3, hp3⟩ : ∃ p3, p3 = pd % 3 := ⟨_, rfl⟩
  have ep3 : (pd : Int) % 3 = p3 := by omega
  obtain ⟨b5, hb5⟩ : ∃ b5, b5 = bb0 % 5 := ⟨_, rfl⟩
  have eb5 : (bb0 : Int) % 5 = b5 := by omega
  obtain ⟨mm, hmm⟩ : ∃ mm, mm = 1 + b5 := ⟨_, rfl⟩
  have emm : (1 : Int) + (b5 : Int) = mm := by omega
  have hm1 : 1 ≤ mm ∧ mm ≤ 5 := by omega
  have hb55 : b5 < 5 := by omega
  have hp33 : p3 < 3 := by omega
  have HP := Lib.hid (fun W (h : Below w.heap.size w W) => parts_any l n A cap p3 W hl hn (by omega) hok (hr.below h))
  obtain ⟨whole, hwh⟩ : ∃ x, x = partsF l p3 := ⟨_, rfl⟩
  rw [← hwh] at HP
  have HSm := Lib.hid (show ∀ q ∈ whole, Sml q by rw [hwh]; exact parts_sml l p3)
  have HMk := Lib.hid (show (makeF whole).1 = 0 by rw [hwh]; exact got_parts l p3 (by omega))
  have hwl : whole.length ≤ 100 := by rw [hwh]; have := parts_len l p3; omega
  obtain ⟨ff, hff⟩ : ∃ ff : Int → Int, ff = fun x => 7000 - x * (mm : Int) := ⟨_, rfl⟩
  have HFF := Lib.hid hff
  have HRn := Lib.hid (ren_both (f := ff) (by rw [hff]; exact ren_inj (by omega)) whole)
  have HRo := Lib.hid (show ∀ q ∈ whole.map (renP ff), q.ok from fun q hq => by
    obtain ⟨q0, h1, rfl⟩ := List.mem_map.1 hq
    rw [hff]; exact ren_ok (HSm.out q0 h1) hm1.2)
  clear hwh hff hp3 hb5 hmm hl hn hok hr
  obtain ⟨N, hN⟩ : ∃ N, N = whole.length := ⟨_, rfl⟩
  have HN := Lib.hid hN
  have hN100 : N ≤ 100 := by omega
  clear hwl
  go_enter Try.func7, Try.ntmps7
  go_wp2_with fail
  refine (awake_any _).mono ?_
  rintro e w1 ⟨rfl, hb1⟩
  have HB := Lib.hid hb1
  clear hb1
  go_wp2_with fail
  refine (HP.out _ HB.out).mono ?_
  rintro e w2 ⟨A1, c1, rfl, hr2, hb2⟩
  rw [← hN] at hr2 ⊢
  have HX := Lib.hid (own_rdP hr2)
  have HB := Lib.hid (HB.out.trans (hb2.mono HB.out.size))
  clear hb2 hr2 hN
  go_wp2_with fail
  go_loopw [8, 25] (fun yv iv wz => ∃ (i : Nat) (s : List PtM) (B : Option Addr) (c9 : Nat), iv = .int .i64 i ∧ yv = .slice B s.length c9 ∧ i ≤ N ∧ s.length = i ∧ Hid (VR w2 wz (.slice B s.length c9) s) ∧ Hid (s = (whole.take i).map (renP ff))) (fun _ iv _ => N - (intOf iv).toNat)
  case atStart => exact ⟨0, [], none, 0, rfl, rfl, Nat.zero_le _, rfl, Lib.hid ⟨Below.refl _ _, World.ownsRow_nil _ _ _ _⟩, Lib.hid rfl⟩
  case round =>
    rename World => wz
    obtain ⟨i, s, B, c9, rfl, rfl, hi, hsl, HA, HF⟩ := hrel
    by_cases hlt : i < N
    · obtain ⟨q, hq⟩ : ∃ q, whole[i]? = some q := ⟨_, List.getElem?_eq_getElem (by have := HN.out; omega)⟩
      obtain ⟨b, o, hA, hbl, hcell⟩ := (HX.out.below HA.out.bel).one (fun _ => rfl) (by omega) (by omega)
      obtain ⟨c0, c1', c2, c3, c4, c5, c6⟩ := seven_cells hcell hq
      subst hA
      have HQ := Lib.hid hq
      have HS := Lib.hid (HSm.out q (List.mem_of_getElem? hq))
      have i0 : (0 : Int) ≤ (i : Int) := by omega
      have i1 : (i : Int) < (N : Int) := by omega
      clear hcell hq
      go_upto_region 8 with fail
      have hb4 := oneb wz (.cells #[.int .u8 q.kd, .int .i64 q.to, .int .i64 q.el, .int .u16 q.i.c, .int .u8 q.i.t, .int .u8 q.i.f, .int .u32 q.i.k] 57)
      have hk := Bk.new wz 57 #[.int .u8 q.kd, .int .i64 q.to, .int .i64 q.el, .int .u16 q.i.c, .int .u8 q.i.t, .int .u8 q.i.f, .int .u32 q.i.k] (l := [.int .u8 q.kd, .int .i64 q.to, .int .i64 q.el, .int .u16 q.i.c, .int .u8 q.i.t, .int .u8 q.i.f, .int .u32 q.i.k]) rfl
      have hvx : ∀ g, (Value.slice B s.length c9).ownBlock = some g → g ≠ wz.heap.size := fun g hg => by have h1 := own_ge HA.out.row g hg; omega
      have hxb : w2.heap.size ≤ wz.heap.size := HA.out.bel.size
      generalize World.alloc wz _ = w4 at hb4 hk ⊢
      generalize wz.heap.size = xb at hk hvx hxb ⊢
      have HVX := Lib.hid hvx
      have HXB := Lib.hid hxb
      have HA := Lib.hid (HA.out.kept hb4)
      have HX := Lib.hid hk
      clear c0 c1' c2 c3 c4 c5 c6 hbl hb4 hk hvx hxb
      have y0 := HX.out.cell 0 rfl
      have y1 := HX.out.cell 1 rfl
      have y2 := HX.out.cell 2 rfl
      have y3 := HX.out.cell 3 rfl
      have y4 := HX.out.cell 4 rfl
      have y5 := HX.out.cell 5 rfl
      have y6 := HX.out.cell 6 rfl
      have yl := HX.out.lt
      have z1 := HX.out.fz 1
      have z2 := HX.out.fz 2
      by_cases h2 : q.kd = 2
      · have e2 : ((q.kd : Int) != 2) = false := by rw [h2]; rfl
        have e3 : ((q.kd : Int) == 3) = false := by rw [h2]; rfl
        have HFn := Lib.hid (show s ++ [(⟨q.kd, q.to, q.el, q.i⟩ : PtM)] = (whole.take (i + 1)).map (renP ff) by rw [List.take_add_one, HQ.out, List.map_append, HF.out]; show _ = _ ++ [renP ff q]; rw [HFF.out]; unfold renP; rw [if_pos h2, if_neg (by omega)])
        have HA5 := HA
        clear h2 HF
        go_wp2_with (at_builtin; refine VR.push rfl (.tmp 53) (.tmp 55) rfl ⟨q.kd, q.to, q.el, q.i⟩ HA5 #[.int .u8 q.kd, .int .i64 q.to, .int .i64 q.el, .int .u16 q.i.c, .int .u8 q.i.t, .int .u8 q.i.f, .int .u32 q.i.k] rfl rfl (by omega) rfl ?_; clear HA5; intro A7 c7 w7 HA7)
        go_roundw
        case rel => exact ⟨i + 1, _, A7, c7, by go_num, by rw [List.length_append, hsl]; rfl, by omega, by rw [List.length_append, hsl]; rfl, by rw [List.length_append]; exact HA7, HFn⟩
        case measure => simp [intOf]; omega
      by_cases h3 : q.kd = 3
      · obtain ⟨x1, hx1⟩ : ∃ x1, q.to * (mm : Int) = x1 := ⟨_, rfl⟩
        have x10 : 0 ≤ x1 := by rw [← hx1]; exact Int.mul_nonneg HS.out.to1 (by omega)
        have x11 : x1 ≤ 600 := by rw [← hx1]; exact Int.mul_le_mul HS.out.to2 (by omega) (by omega) (by omega) (c := 120) (d := 5)
        obtain ⟨t1, ht1⟩ : ∃ t1, 7000 - x1 = t1 := ⟨_, rfl⟩
        obtain ⟨x2, hx2⟩ : ∃ x2, q.el * (mm : Int) = x2 := ⟨_, rfl⟩
        have x20 : 0 ≤ x2 := by rw [← hx2]; exact Int.mul_nonneg HS.out.el1 (by omega)
        have x21 : x2 ≤ 600 := by rw [← hx2]; exact Int.mul_le_mul HS.out.el2 (by omega) (by omega) (by omega) (c := 120) (d := 5)
        obtain ⟨t2, ht2⟩ : ∃ t2, 7000 - x2 = t2 := ⟨_, rfl⟩
        have e2 : ((q.kd : Int) != 2) = true := by rw [h3]; rfl
        have e3 : ((q.kd : Int) == 3) = true := by rw [h3]; rfl
        have HFn := Lib.hid (show s ++ [(⟨q.kd, t1, t2, q.i⟩ : PtM)] = (whole.take (i + 1)).map (renP ff) by rw [List.take_add_one, HQ.out, List.map_append, HF.out]; show _ = _ ++ [renP ff q]; rw [HFF.out]; unfold renP; rw [if_neg h2, if_pos h3, ← ht1, ← hx1, ← ht2, ← hx2])
        clear h2 h3 HF
        go_upto_region 10 with fail
        clear y0 y1 y2 y3 y4 y5 y6 yl z1 z2
        have hx5 : Bk (w4.setCell ⟨xb, 1, none⟩ (.int .i64 t1)) xb 57 [.int .u8 q.kd, .int .i64 t1, .int .i64 q.el, .int .u16 q.i.c, .int .u8 q.i.t, .int .u8 q.i.f, .int .u32 q.i.k] := HX.out.set 1 (.int .i64 t1)
        have ha5 := HA.out.set_own (v' := .int .i64 t1) (j := 1) HVX.out HXB.out
        generalize World.setCell w4 _ _ = w5 at hx5 ha5 ⊢
        have HX := Lib.hid hx5
        clear HA
        have HA := Lib.hid ha5
        clear hx5 ha5
        have y0 := HX.out.cell 0 rfl
        have y1 := HX.out.cell 1 rfl
        have y2 := HX.out.cell 2 rfl
        have y3 := HX.out.cell 3 rfl
        have y4 := HX.out.cell 4 rfl
        have y5 := HX.out.cell 5 rfl
        have y6 := HX.out.cell 6 rfl
        have yl := HX.out.lt
        have z1 := HX.out.fz 1
        have z2 := HX.out.fz 2
        go_upto_region 12 with fail
        clear y0 y1 y2 y3 y4 y5 y6 yl z1 z2
        have hx5 : Bk (w5.setCell ⟨xb, 2, none⟩ (.int .i64 t2)) xb 57 [.int .u8 q.kd, .int .i64 t1, .int .i64 t2, .int .u16 q.i.c, .int .u8 q.i.t, .int .u8 q.i.f, .int .u32 q.i.k] := HX.out.set 2 (.int .i64 t2)
        have ha5 := HA.out.set_own (v' := .int .i64 t2) (j := 2) HVX.out HXB.out
        generalize World.setCell w5 _ _ = w6 at hx5 ha5 ⊢
        have HX := Lib.hid hx5
        clear HA
        have HA := Lib.hid ha5
        clear hx5 ha5
        have y0 := HX.out.cell 0 rfl
        have y1 := HX.out.cell 1 rfl
        have y2 := HX.out.cell 2 rfl
        have y3 := HX.out.cell 3 rfl
        have y4 := HX.out.cell 4 rfl
        have y5 := HX.out.cell 5 rfl
        have y6 := HX.out.cell 6 rfl
        have yl := HX.out.lt
        have HA5 := HA
        clear HA
        go_wp2_with (at_builtin; refine VR.push rfl (.tmp 53) (.tmp 55) rfl ⟨q.kd, t1, t2, q.i⟩ HA5 #[.int .u8 q.kd, .int .i64 t1, .int .i64 t2, .int .u16 q.i.c, .int .u8 q.i.t, .int .u8 q.i.f, .int .u32 q.i.k] rfl rfl (by omega) rfl ?_; clear HA5; intro A7 c7 w7 HA7)
        go_roundw
        case rel => exact ⟨i + 1, _, A7, c7, by go_num, by rw [List.length_append, hsl]; rfl, by omega, by rw [List.length_append, hsl]; rfl, by rw [List.length_append]; exact HA7, HFn⟩
        case measure => simp [intOf]; omega
      obtain ⟨x1, hx1⟩ : ∃ x1, q.to * (mm : Int) = x1 := ⟨_, rfl⟩
      have x10 : 0 ≤ x1 := by rw [← hx1]; exact Int.mul_nonneg HS.out.to1 (by omega)
      have x11 : x1 ≤ 600 := by rw [← hx1]; exact Int.mul_le_mul HS.out.to2 (by omega) (by omega) (by omega) (c := 120) (d := 5)
      obtain ⟨t1, ht1⟩ : ∃ t1, 7000 - x1 = t1 := ⟨_, rfl⟩
      have e2 : ((q.kd : Int) != 2) = true := by rw [bne_iff_ne]; omega
      have e3 : ((q.kd : Int) == 3) = false := by rw [beq_eq_false_iff_ne]; omega
      have HFn := Lib.hid (show s ++ [(⟨q.kd, t1, q.el, q.i⟩ : PtM)] = (whole.take (i + 1)).map (renP ff) by rw [List.take_add_one, HQ.out, List.map_append, HF.out]; show _ = _ ++ [renP ff q]; rw [HFF.out]; unfold renP; rw [if_neg h2, if_neg h3, ← ht1, ← hx1])
      clear h2 h3 HF
      go_upto_region 10 with fail
      clear y0 y1 y2 y3 y4 y5 y6 yl z1 z2
      have hx5 : Bk (w4.setCell ⟨xb, 1, none⟩ (.int .i64 t1)) xb 57 [.int .u8 q.kd, .int .i64 t1, .int .i64 q.el, .int .u16 q.i.c, .int .u8 q.i.t, .int .u8 q.i.f, .int .u32 q.i.k] := HX.out.set 1 (.int .i64 t1)
      have ha5 := HA.out.set_own (v' := .int .i64 t1) (j := 1) HVX.out HXB.out
      generalize World.setCell w4 _ _ = w5 at hx5 ha5 ⊢
      have HX := Lib.hid hx5
      clear HA
      have HA := Lib.hid ha5
      clear hx5 ha5
      have y0 := HX.out.cell 0 rfl
      have y1 := HX.out.cell 1 rfl
      have y2 := HX.out.cell 2 rfl
      have y3 := HX.out.cell 3 rfl
      have y4 := HX.out.cell 4 rfl
      have y5 := HX.out.cell 5 rfl
      have y6 := HX.out.cell 6 rfl
      have yl := HX.out.lt
      have HA5 := HA
      clear HA
      go_wp2_with (at_builtin; refine VR.push rfl (.tmp 53) (.tmp 55) rfl ⟨q.kd, t1, q.el, q.i⟩ HA5 #[.int .u8 q.kd, .int .i64 t1, .int .i64 q.el, .int .u16 q.i.c, .int .u8 q.i.t, .int .u8 q.i.f, .int .u32 q.i.k] rfl rfl (by omega) rfl ?_; clear HA5; intro A7 c7 w7 HA7)
      go_roundw
      case rel => exact ⟨i + 1, _, A7, c7, by go_num, by rw [List.length_append, hsl]; rfl, by omega, by rw [List.length_append, hsl]; rfl, by rw [List.length_append]; exact HA7, HFn⟩
      case measure => simp [intOf]; omega
    · obtain rfl : i = N := by omega
      have hse : s = whole.map (renP ff) := by rw [HF.out, HN.out, List.take_length]
      have HX := Lib.hid (HX.out.below HA.out.bel)
      have HY := Lib.hid (show Rd wz 7 i B ((whole.map (renP ff)).flatMap PtM.cells) by have h := own_rdP HA.out.row; rw [hsl] at h; rw [← hse]; exact h)
      have HB := Lib.hid (HB.out.trans (HA.out.bel.mono HB.out.size))
      have hsl2 : (whole.map (renP ff)).length = i := by rw [← hse, hsl]
      obtain ⟨ins, hins⟩ : ∃ ins, ins = (makeF whole).2.ins := ⟨_, rfl⟩
      have HM1 := Lib.hid (make_any whole i A1 c1 wz HN.out.symm (by omega) (fun q hq => (HSm.out q hq).ok) HX.out)
      have HM2 := Lib.hid (fun W (h : Below wz.heap.size wz W) => make_any (whole.map (renP ff)) i B c9 W hsl2 (by omega) HRo.out (HY.out.below h))
      obtain ⟨k, hk⟩ : ∃ k, k = ins.length := ⟨_, rfl⟩
      have HK := Lib.hid hk
      have HI := Lib.hid hins
      have hk4 : k ≤ 4096 := by rw [hk, hins]; exact make_len _ HMk.out
      clear HA HF HX HY hse hk hins hsl2
      go_wp2_with fail
      refine HM1.out.mono ?_
      rintro e w8 ⟨hb8, hm, _⟩
      obtain ⟨v, hr, rfl⟩ := hm HMk.out
      rw [← HI.out, ← HK.out] at hr
      obtain ⟨Aa, ca, rfl, _⟩ := own_typed hr
      have HRa := Lib.hid (own_rdI hr)
      have HB8 := Lib.hid hb8
      clear hm hr hb8 HM1
      go_wp2_with fail
      refine (HM2.out _ HB8.out).mono ?_
      rintro e w10 ⟨hb9, hm, _⟩
      obtain ⟨v, hr, rfl⟩ := hm (HRn.out.1.trans HMk.out)
      rw [HRn.out.2, ← HI.out, ← HK.out] at hr
      obtain ⟨Ab, cb, rfl, _⟩ := own_typed hr
      have HRb := Lib.hid (own_rdI hr)
      have HRa := Lib.hid (HRa.out.below hb9)
      have HB := Lib.hid (HB.out.trans ((HB8.out.trans (hb9.mono HB8.out.size)).mono HB.out.size))
      have ekk : ((k : Int) != (k : Int)) = false := by simp
      clear hm hr hb9 HM2 HB8
      go_wp2_with fail
      go_loopw [83] (fun iv wz => ∃ i : Nat, i ≤ k ∧ iv = .int .i64 i ∧ Hid (Below w10.heap.size w10 wz)) (fun iv _ => k - (intOf iv).toNat)
      case atStart => exact ⟨0, by omega, rfl, Lib.hid (Below.refl _ _)⟩
      case round =>
        rename World => wz
        obtain ⟨i, hi, rfl, HB9⟩ := hrel
        by_cases hlt : i < k
        · obtain ⟨q, hq⟩ : ∃ q, ins[i]? = some q := ⟨_, List.getElem?_eq_getElem (by have := HK.out; omega)⟩
          obtain ⟨ba, oa, hA, hba, hca⟩ := (HRa.out.below HB9.out).one (fun _ => rfl) (by omega) (by omega)
          obtain ⟨bb, ob, hA2, hbb2, hcb⟩ := (HRb.out.below HB9.out).one (fun _ => rfl) (by omega) (by omega)
          obtain ⟨a0, a1, a2, a3⟩ := four_at hca hq
          obtain ⟨d0, d1, d2, d3⟩ := four_at hcb hq
          subst hA
          subst hA2
          have HmkS : Hid ((fun W => W.cell? ⟨ba, oa + i * 4, none⟩ = some (.int .u16 q.c) ∧ W.cell? ⟨ba, oa + i * 4 + 1, none⟩ = some (.int .u8 q.t) ∧ W.cell? ⟨ba, oa + i * 4 + 2, none⟩ = some (.int .u8 q.f) ∧ W.cell? ⟨ba, oa + i * 4 + 3, none⟩ = some (.int .u32 q.k) ∧ W.cell? ⟨bb, ob + i * 4, none⟩ = some (.int .u16 q.c) ∧ W.cell? ⟨bb, ob + i * 4 + 1, none⟩ = some (.int .u8 q.t) ∧ W.cell? ⟨bb, ob + i * 4 + 2, none⟩ = some (.int .u8 q.f) ∧ W.cell? ⟨bb, ob + i * 4 + 3, none⟩ = some (.int .u32 q.k) ∧ ba < W.heap.size ∧ bb < W.heap.size) wz.drew) := Lib.hid ⟨a0, a1, a2, a3, d0, d1, d2, d3, hba, hbb2⟩
          have i0 : (0 : Int) ≤ (i : Int) := by omega
          have i1 : (i : Int) < (k : Int) := by omega
          have hQ : ∀ W : World, (binOp .neq 53 (.agg #[.int .u16 q.c, .int .u8 q.t, .int .u8 q.f, .int .u32 q.k]) (.agg #[.int .u16 q.c, .int .u8 q.t, .int .u8 q.f, .int .u32 q.k])).run Try.prog W = .ok (.bool false) W := fun W => neq_ins _ _ _ _ W
          clear hca hcb hq a0 a1 a2 a3 d0 d1 d2 d3 hba hbb2
          go_upto_region 21 with fail
          refine wp_region_held_drew (S := (fun W => W.cell? ⟨ba, oa + i * 4, none⟩ = some (.int .u16 q.c) ∧ W.cell? ⟨ba, oa + i * 4 + 1, none⟩ = some (.int .u8 q.t) ∧ W.cell? ⟨ba, oa + i * 4 + 2, none⟩ = some (.int .u8 q.f) ∧ W.cell? ⟨ba, oa + i * 4 + 3, none⟩ = some (.int .u32 q.k) ∧ W.cell? ⟨bb, ob + i * 4, none⟩ = some (.int .u16 q.c) ∧ W.cell? ⟨bb, ob + i * 4 + 1, none⟩ = some (.int .u8 q.t) ∧ W.cell? ⟨bb, ob + i * 4 + 2, none⟩ = some (.int .u8 q.f) ∧ W.cell? ⟨bb, ob + i * 4 + 3, none⟩ = some (.int .u32 q.k) ∧ ba < W.heap.size ∧ bb < W.heap.size)) (by kernel_rfl) ?_ (fun hHeld0 => ?_)
          · exact HmkS.out
          refine wpAnyH_take (i := 0) (v := ?_) (by first | (simp only [List.getElem?_toArray, List.getElem?_cons_zero] <;> rfl) | rfl) (by kernel_rfl) (by kernel_rfl) (by kernel_rfl) (by exact fun _ _ _ h => h) (Or.inl ⟨by rfl, ?_⟩) hHeld0 ?_
          rotate_left 1
          · intro w hSw
            try dsimp only at hSw
            (go_simp) <;> (with_reducible rfl)
          try simp only [Act.put, List.setIfInBounds_toArray, List.set_cons_zero, List.set_cons_succ]
          refine wpAnyH_take (i := 1) (v := ?_) (by first | (simp only [List.getElem?_toArray, List.getElem?_cons_succ, List.getElem?_cons_zero] <;> rfl) | rfl) (by kernel_rfl) (by kernel_rfl) (by kernel_rfl) (by exact fun _ _ _ h => h) (Or.inl ⟨by rfl, ?_⟩) hHeld0 ?_
          rotate_left 1
          · intro w hSw
            try dsimp only at hSw
            (go_simp) <;> (with_reducible rfl)
          try simp only [Act.put, List.setIfInBounds_toArray, List.set_cons_zero, List.set_cons_succ]
          refine wpAnyH_take (i := 2) (v := ?_) (by first | (simp only [List.getElem?_toArray, List.getElem?_cons_succ, List.getElem?_cons_zero] <;> rfl) | rfl) (by kernel_rfl) (by kernel_rfl) (by kernel_rfl) (by exact fun _ _ _ h => h) (Or.inl ⟨by rfl, ?_⟩) hHeld0 ?_
          rotate_left 1
          · intro w hSw
            try dsimp only at hSw
            (go_simp) <;> (with_reducible rfl)
          try simp only [Act.put, List.setIfInBounds_toArray, List.set_cons_zero, List.set_cons_succ]
          refine wpAnyH_take (i := 3) (v := ?_) (by first | (simp only [List.getElem?_toArray, List.getElem?_cons_succ, List.getElem?_cons_zero] <;> rfl) | rfl) (by kernel_rfl) (by kernel_rfl) (by kernel_rfl) (by exact fun _ _ _ h => h) (Or.inl ⟨by rfl, ?_⟩) hHeld0 ?_
          rotate_left 1
          · intro w hSw
            try dsimp only at hSw
            (go_simp) <;> (with_reducible rfl)
          try simp only [Act.put, List.setIfInBounds_toArray, List.set_cons_zero, List.set_cons_succ]
          refine wpAnyH_take (i := 4) (v := ?_) (by first | (simp only [List.getElem?_toArray, List.getElem?_cons_succ, List.getElem?_cons_zero] <;> rfl) | rfl) (by kernel_rfl) (by kernel_rfl) (by kernel_rfl) (by exact fun _ _ _ h => h) (Or.inl ⟨by rfl, ?_⟩) hHeld0 ?_
          rotate_left 1
          · intro w hSw
            try dsimp only at hSw
            (go_simp) <;> (with_reducible rfl)
          try simp only [Act.put, List.setIfInBounds_toArray, List.set_cons_zero, List.set_cons_succ]
          refine wpAnyH_take (i := 5) (v := ?_) (by first | (simp only [List.getElem?_toArray, List.getElem?_cons_succ, List.getElem?_cons_zero] <;> rfl) | rfl) (by kernel_rfl) (by kernel_rfl) (by kernel_rfl) (by exact fun _ _ _ h => h) (Or.inl ⟨by rfl, ?_⟩) hHeld0 ?_
          rotate_left 1
          · intro w hSw
            try dsimp only at hSw
            (go_simp) <;> (with_reducible rfl)
          try simp only [Act.put, List.setIfInBounds_toArray, List.set_cons_zero, List.set_cons_succ]
          refine wpAnyH_take (i := 6) (v := ?_) (by first | (simp only [List.getElem?_toArray, List.getElem?_cons_succ, List.getElem?_cons_zero] <;> rfl) | rfl) (by kernel_rfl) (by kernel_rfl) (by kernel_rfl) (by exact fun _ _ _ h => h) (Or.inl ⟨by rfl, ?_⟩) hHeld0 ?_
          rotate_left 1
          · intro w hSw
            try dsimp only at hSw
            (go_simp) <;> (with_reducible rfl)
          try simp only [Act.put, List.setIfInBounds_toArray, List.set_cons_zero, List.set_cons_succ]
          refine wpAnyH_take (i := 7) (v := ?_) (by first | (simp only [List.getElem?_toArray, List.getElem?_cons_succ, List.getElem?_cons_zero] <;> rfl) | rfl) (by kernel_rfl) (by kernel_rfl) (by kernel_rfl) (by exact fun _ _ _ h => h) (Or.inl ⟨by rfl, ?_⟩) hHeld0 ?_
          rotate_left 1
          · intro w hSw
            try dsimp only at hSw
            (go_simp) <;> (with_reducible rfl)
          try simp only [Act.put, List.setIfInBounds_toArray, List.set_cons_zero, List.set_cons_succ]
          refine wpAnyH_take (i := 8) (v := ?_) (by first | (simp only [List.getElem?_toArray, List.getElem?_cons_succ, List.getElem?_cons_zero] <;> rfl) | rfl) (by kernel_rfl) (by kernel_rfl) (by kernel_rfl) (by exact fun _ _ _ h => h) (Or.inl ⟨by rfl, ?_⟩) hHeld0 ?_
          rotate_left 1
          · intro w hSw
            try dsimp only at hSw
            (go_simp) <;> (with_reducible rfl)
          try simp only [Act.put, List.setIfInBounds_toArray, List.set_cons_zero, List.set_cons_succ]
          refine wpAnyH_done (by kernel_rfl) ?_ _
          clear hHeld0
          have HBn := Lib.hid (HB9.out.trans (show Below w10.heap.size wz wz.drew from (Below.refl _ _).drew))
          go_wp2_with fail
          go_roundw
          case rel => exact ⟨i + 1, by omega, by go_num, HBn⟩
          case measure => simp [intOf]; omega
        · have i1 : ¬ (i : Int) < (k : Int) := by omega
          go_wp2_with fail
          go_ret
          exact ⟨rfl, HB.out.trans (HB9.out.mono HB.out.size)⟩
end Go.Proofs.Ytjgackejkkglcaa.Ju
