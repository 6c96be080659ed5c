/- The law's parts, walked. -/
import Derived.Test.YtcageojoafkojaaJuS
import Derived.Deep.RegionWith
import Derived.BigCall
import Derived.Deep.CutRange
import Derived.Deep.CutBlock
namespace Go.Proofs.Ytcageojoafkojaa.Ju
open Go.RowKit Go.Maps Go.WideMaps Go.WideElems Go.ChangeMaps
theorem six_cells {w : World} {b o k : Nat} {l : List SmP} {x : SmP} (hc : ∀ k x, l[k]? = some x → ∀ j v, (SmP.cells x)[j]? = some v → w.cell? ⟨b, o + (k * 6 + j), none⟩ = some v) (h : l[k]? = some x) :
    w.cell? ⟨b, o + k * 6, none⟩ = some (.int .u8 x.kd) ∧ w.cell? ⟨b, o + k * 6 + 1, none⟩ = some (.int .u8 x.tt) ∧ w.cell? ⟨b, o + k * 6 + 2, none⟩ = some (.int .u8 x.el) ∧ w.cell? ⟨b, o + k * 6 + 3, none⟩ = some (.int .u8 x.how) ∧ w.cell? ⟨b, o + k * 6 + 4, none⟩ = some (.int .u8 x.k) ∧ w.cell? ⟨b, o + k * 6 + 5, none⟩ = some (.int .u16 x.pad) := by
  have hj := fun j v hv => hc k x h j v hv
  simp only [← Nat.add_assoc] at hj
  exact ⟨hj 0 _ rfl, hj 1 _ rfl, hj 2 _ rfl, hj 3 _ rfl, hj 4 _ rfl, hj 5 _ rfl⟩
/-- Parts put behind. -/
theorem VR.run {w W : World} {v : Value} {s : List PtM} (h : VR w W v s) (q : List PtM) (m : Nat) (hm : q.length = m) (h1 : 0 < m) (h2 : m ≤ 2) (hl : s.length ≤ 5000) (cs : Array Value) (hcs : cs = (q.flatMap PtM.cells).toArray) (ty : TypeId) :
    ∃ A c wb, (Builtin.append_ #[65, 65] ty #[v, .slice (some ⟨W.heap.size, 0, none⟩) m m]).run Try.prog (W.alloc (.cells cs 125)) = .ok (.slice A (s.length + m) c) wb ∧ VR w wb (.slice A (s.length + m) c) (s ++ q) ∧ (W.alloc (.cells cs 125)).grownBy wb v.ownBlock := by
  obtain ⟨i0, hi, hz0, hz1, hz2⟩ := info_parts infoPart
  have hb := oneb W (.cells cs 125)
  have hk := h.kept hb
  have hB : Bk (W.alloc (.cells cs 125)) W.heap.size 125 (q.flatMap PtM.cells) := Bk.new W _ _ hcs
  have hone : ∀ u ∈ q.flatMap PtM.cells, u.oneCell' = true := fun u hu => by
    obtain ⟨p, _, hp⟩ := List.mem_flatMap.1 hu
    exact pt_one p u hp
  obtain ⟨v', wb, hr, ho, hg, _, hat⟩ := run_append_own_at (P := Try.prog) (W.alloc (.cells cs 125)) w.heap.size 65 ty 125 i0 _ 7 32 Try.underlying65 hi hz0 hz1 hz2 rfl (by decide) v s.length _ hk.row ⟨W.heap.size, 0, none⟩ m m (q.flatMap PtM.cells) (by rw [flatz_len PtM.cells 7 (fun _ => rfl), hm]) (fun j u hu => by rw [addr_at, Nat.zero_add]; exact hB.cell j hu) hone (by unfold maxLen; omega) (by omega) hk.bel.size
  obtain ⟨A, c, e, _⟩ := own_typed ho
  subst e
  exact ⟨A, c, wb, hr, ⟨hk.bel.grown hg hk.bel.size (fun r e => (own_ge hk.row r e).1), by rw [List.flatMap_append, List.length_append, hm]; exact ho⟩, hg⟩
theorem VR.push {w W : World} {v : Value} {s : List PtM} {ops : Array Oper} {rest : List Oper} {o : Oper} {a : Act} {Q : Exit → Act → World → Prop} (hgd : o.guard = none) (so xo : Operand) (ho : o.op = .call { callee := .builtin .append, args := #[so, xo], argTypes := #[65, 65] }) (q : PtM) (h : Hid (VR w W v s)) (cs : Array Value)
    (hs : a.eval so = v) (hx : a.eval xo = .slice (some ⟨W.heap.size, 0, none⟩) 1 1) (hl : s.length ≤ 5000) (hcs : cs = q.cells.toArray)
    (K : ∀ A c w6, Hid (VR w w6 (.slice A (s.length + 1) c) (s ++ [q])) → wpList Try.prog ops Q rest (a.put o.dst (.slice A (s.length + 1) c)) w6) : wpList Try.prog ops Q (o :: rest) a (W.alloc (.cells cs 125)) := by
  have hb := oneb W (.cells cs 125)
  have hk := h.out.kept hb
  refine append_one hgd so xo 65 125 ho _ 7 32 infoPart Try.underlying65 rfl (by decide) (by decide) w.heap.size _ s.length (s.flatMap PtM.cells) hs hk.row W.heap.size q.cells hx rfl (Bk.new W _ _ hcs) (pt_one q) (by omega) hk.bel.size ?_
  intro v' w6 hown hgrow _
  have h6 := hk.more (q := q) hown hgrow
  obtain ⟨A, c, e⟩ := h6.slice
  subst e
  rw [List.length_append] at h6 ⊢
  exact K A c w6 (Lib.hid h6)
theorem sm_step {l : List SmP} {i : Nat} {p : SmP} (h : l[i]? = some p) (h20 : i < 20) : smF i ((l.take 20).drop i) = oneF i p ++ smF (i + 1) ((l.take 20).drop (i + 1)) := by
  have e : (l.take 20)[i]? = some p := by rw [List.getElem?_take, if_pos h20]; exact h
  obtain ⟨h1, h2⟩ := List.getElem?_eq_some_iff.1 e
  rw [List.drop_eq_getElem_cons h1, h2]; rfl
theorem sm_done {l : List SmP} {i : Nat} (h : l.length ≤ i ∨ 20 ≤ i) : smF i ((l.take 20).drop i) = [] := by
  rw [List.drop_of_length_le (by rw [List.length_take]; omega)]; rfl
theorem way_or {h : Nat} (hh : h < 4) : bits .or .u16 (bits .or .u16 5 (wayN h : Nat)) 0 = ((wayN h + 5 : Nat) : Int) := by
  match h, hh with
  | 0, _ => decide
  | 1, _ => decide
  | 2, _ => decide
  | 3, _ => decide
theorem way_at {h : Nat} (hh : h < 4) : ([.int .u16 16, .int .u16 32, .int .u16 48, .int .u16 64] : List Value)[h]? = some (.int .u16 (wayN h : Nat)) := by
  match h, hh with
  | 0, _ => rfl
  | 1, _ => rfl
  | 2, _ => rfl
  | 3, _ => rfl
set_option maxRecDepth 100000 in
theorem mask_of (k : Int) (w : World) : Calls Try.prog 43 #[.int .u32 k] w fun e w' => e = .returned (.agg #[.int .u16 84, .int .u8 0, .int .u8 0, .int .u32 k]) ∧ Below w.heap.size w w' := by
  go_enter Try.func43, Try.ntmps43
  go_wp2
  exact bodyPost_ret (v := .agg #[.int .u16 84, .int .u8 0, .int .u8 0, .int .u32 k]) (by simp [results, Try.results43, go_sem]) rfl ⟨rfl, (Below.refl _ _).alloc (Nat.le_refl _) _⟩
set_option maxHeartbeats 16000000 in
set_option maxRecDepth 100000 in
theorem parts_any (l : List SmP) (n : Nat) (A : Option Addr) (cap pad : Nat) (w : World) (hl : l.length = n) (hn : n ≤ maxLen) (hp : pad ≤ 260) (hok : ∀ p ∈ l, p.ok) (hr : Rd w 6 n A (l.flatMap SmP.cells)) :
    Calls Try.prog 16 #[.slice A n cap, .int .i64 pad] w (ClP2 (partsF l pad) w) := by
  have HR := Lib.hid hr
  have HL := Lib.hid hl
  have HOK := Lib.hid hok
  have HN := Lib.hid hn
  unfold maxLen at hn
  obtain ⟨whole, hwh⟩ : ∃ x, x = partsF l pad := ⟨_, rfl⟩
  rw [← hwh]
  have HWH := Lib.hid hwh
  clear hwh
  have hb1 := oneb w (.cells #[.int .u16 16, .int .u16 32, .int .u16 48, .int .u16 64] 25)
  have hk := Bk.new w 25 #[.int .u16 16, .int .u16 32, .int .u16 48, .int .u16 64] (l := [.int .u16 16, .int .u16 32, .int .u16 48, .int .u16 64]) rfl
  clear hr hl hok
  go_enter Try.func16, Try.ntmps16
  go_upto_block 0 with fail
  generalize World.alloc w _ = w1 at hb1 hk ⊢
  generalize hgb : w.heap.size = gb at hk ⊢
  have HGB := Lib.hid hgb
  have HB1 := Lib.hid hb1
  have HK := Lib.hid hk
  clear hgb hb1 hk
  go_cut [5, 7, 8, 9, 10, 11] from 14 to 86 (fun sv _ _ _ _ _ wx => ∃ (s : List PtM) (B : Option Addr) (c9 : Nat), sv = .slice B s.length c9 ∧ s.length ≤ 40 ∧ Hid (VR w1 wx (.slice B s.length c9) s) ∧ Hid (s = smF 0 (l.take 20)))
  case first =>
    go_wp2_with fail
    go_loopw [5, 16] (fun sv iv wz => ∃ (i : Nat) (s : List PtM) (B : Option Addr) (c9 : Nat), iv = .int .i64 i ∧ sv = .slice B s.length c9 ∧ i ≤ n ∧ i ≤ 20 ∧ s.length ≤ 2 * i ∧ Hid (VR w1 wz (.slice B s.length c9) s) ∧ Hid (s ++ smF i ((l.take 20).drop i) = smF 0 (l.take 20))) (fun _ iv _ => n - (intOf iv).toNat)
    case atStart => exact ⟨0, [], none, 0, rfl, rfl, Nat.zero_le _, by omega, Nat.le_refl _, ⟨Below.refl _ _, World.ownsRow_nil _ _ _ _⟩, Lib.hid rfl⟩
    case round =>
      rename World => wz
      obtain ⟨i, s, B, c9, rfl, rfl, hi, hi20, hli, HA, HF⟩ := hrel
      by_cases hlt : i < n
      · skip
        obtain ⟨p, hp⟩ : ∃ p, l[i]? = some p := ⟨_, List.getElem?_eq_getElem (by have := HL.out; omega)⟩
        obtain ⟨b, o, hA, hbl, hcell⟩ := (HR.out.below (HB1.out.trans (HA.out.bel.mono HB1.out.size))).one (fun _ => rfl) (by omega) (by omega)
        obtain ⟨c0, c1, c2, c3, c4, c5⟩ := six_cells hcell hp
        subst hA
        have i0 : (0 : Int) ≤ (i : Int) := by omega
        have i1 : (i : Int) < (n : Int) := by omega
        by_cases h20 : 20 ≤ i
        · have HFe := Lib.hid (show s = smF 0 (l.take 20) by rw [← HF.out, sm_done (Or.inr h20), List.append_nil])
          clear hcell hp
          go_wp2_with fail
          go_meet
          case rel => exact ⟨s, B, c9, rfl, by omega, Lib.hid (HA.out.kept (oneb wz _)), HFe⟩
        have hstep := sm_step hp (by omega)
        obtain ⟨k1, k2, k3, k4, k5, k6⟩ := HOK.out p (List.mem_of_getElem? hp)
        have HST := Lib.hid hstep
        clear hcell hp hstep
        go_upto_region 7 with fail
        have hb2 := oneb wz (.cells #[.int .u8 p.kd, .int .u8 p.tt, .int .u8 p.el, .int .u8 p.how, .int .u8 p.k, .int .u16 p.pad] 128)
        have hk := Bk.new wz 128 #[.int .u8 p.kd, .int .u8 p.tt, .int .u8 p.el, .int .u8 p.how, .int .u8 p.k, .int .u16 p.pad] (l := p.cells) rfl
        have hvx : ∀ g, (Value.slice B s.length c9).ownBlock = some g → g ≠ wz.heap.size ∧ g ≠ gb := fun g hg => by have h1 := own_ge HA.out.row g hg; have h2 := HK.out.lt; exact ⟨by omega, by omega⟩
        generalize World.alloc wz _ = w4 at hb2 hk ⊢
        generalize wz.heap.size = xb at hk hvx ⊢
        have HVX := Lib.hid hvx
        clear hvx
        have HW := Lib.hid ((HK.out.kept HA.out.bel).kept hb2)
        have HA := Lib.hid (HA.out.kept hb2)
        have HX := Lib.hid hk
        clear c0 c1 c2 c3 c4 c5 hbl hb2 hk
        have HmkS : Hid (∀ W, Below w4.heap.size w4 W → (fun W => W.cell? ⟨xb, 1, none⟩ = some (.int .u8 p.tt) ∧ W.cell? ⟨xb, 2, none⟩ = some (.int .u8 p.el) ∧ xb < W.heap.size) W) := Lib.hid (fun W h => ⟨(HX.out.kept h).cell 1 rfl, (HX.out.kept h).cell 2 rfl, (HX.out.kept h).lt⟩)
        obtain ⟨t6, ht6⟩ : ∃ t6, t6 = p.tt % 6 := ⟨_, rfl⟩
        have et6 : (p.tt : Int).tmod 6 = t6 := by rw [Int.tmod_eq_emod_of_nonneg (by omega)]; omega
        have et6b : (p.tt : Int) % 6 = t6 := by omega
        obtain ⟨e6, he6⟩ : ∃ e6, e6 = p.el % 6 := ⟨_, rfl⟩
        have ee6 : (p.el : Int).tmod 6 = e6 := by rw [Int.tmod_eq_emod_of_nonneg (by omega)]; omega
        have ee6b : (p.el : Int) % 6 = e6 := by omega
        have ht5 : t6 < 6 := by omega
        have he5 : e6 < 6 := by omega
        obtain ⟨tn, htn⟩ : ∃ tn, tn = 1 + t6 := ⟨_, rfl⟩
        have etn : IntKind.u8.wrap (tn : Int) = tn := by rw [IntKind.wrap_u8]; omega
        have etn3 : (1 : Int) + (t6 : Int) = tn := by omega
        have etn2 : IntKind.i64.wrap (tn : Int) = tn := by rw [IntKind.wrap_i64]; omega
        obtain ⟨en, hen⟩ : ∃ en, en = 1 + e6 := ⟨_, rfl⟩
        have een : IntKind.u8.wrap (en : Int) = en := by rw [IntKind.wrap_u8]; omega
        have een3 : (1 : Int) + (e6 : Int) = en := by omega
        have een2 : IntKind.i64.wrap (en : Int) = en := by rw [IntKind.wrap_i64]; omega
        have HT6 := Lib.hid ht6
        have HE6 := Lib.hid he6
        have HTN := Lib.hid htn
        have HEN := Lib.hid hen
        clear ht6 he6 htn hen
        refine wp_region_held_drew (S := (fun W => W.cell? ⟨xb, 1, none⟩ = some (.int .u8 p.tt) ∧ W.cell? ⟨xb, 2, none⟩ = some (.int .u8 p.el) ∧ xb < W.heap.size)) (by kernel_rfl) ?_ (fun hHeld0 => ?_)
        · exact HmkS.out _ (Below.refl _ _).drew
        refine wpAnyH_take (i := 0) (v := ?_) (by first | (simp only [List.getElem?_toArray, List.getElem?_cons_zero] <;> rfl) | rfl) (by kernel_rfl) (by kernel_rfl) (by kernel_rfl) (by exact fun _ _ _ h => h) (Or.inl ⟨by rfl, ?_⟩) hHeld0 ?_
        rotate_left 1
        · intro w hSw
          try dsimp only at hSw
          (go_simp) <;> (with_reducible rfl)
        try simp only [Act.put, List.setIfInBounds_toArray, List.set_cons_zero, List.set_cons_succ]
        refine wpAnyH_take (i := 1) (v := ?_) (by first | (simp only [List.getElem?_toArray, List.getElem?_cons_succ, List.getElem?_cons_zero] <;> rfl) | rfl) (by kernel_rfl) (by kernel_rfl) (by kernel_rfl) (by exact fun _ _ _ h => h) (Or.inl ⟨by rfl, ?_⟩) hHeld0 ?_
        rotate_left 1
        · intro w hSw
          try dsimp only at hSw
          (go_simp) <;> (with_reducible rfl)
        try simp only [Act.put, List.setIfInBounds_toArray, List.set_cons_zero, List.set_cons_succ]
        refine wpAnyH_take (i := 2) (v := ?_) (by first | (simp only [List.getElem?_toArray, List.getElem?_cons_succ, List.getElem?_cons_zero] <;> rfl) | rfl) (by kernel_rfl) (by kernel_rfl) (by kernel_rfl) (by exact fun _ _ _ h => h) (Or.inl ⟨by rfl, ?_⟩) hHeld0 ?_
        rotate_left 1
        · intro w hSw
          try dsimp only at hSw
          (go_simp) <;> (with_reducible rfl)
        try simp only [Act.put, List.setIfInBounds_toArray, List.set_cons_zero, List.set_cons_succ]
        refine wpAnyH_take (i := 3) (v := ?_) (by first | (simp only [List.getElem?_toArray, List.getElem?_cons_succ, List.getElem?_cons_zero] <;> rfl) | rfl) (by kernel_rfl) (by kernel_rfl) (by kernel_rfl) (by exact fun _ _ _ h => h) (Or.inl ⟨by rfl, ?_⟩) hHeld0 ?_
        rotate_left 1
        · intro w hSw
          try dsimp only at hSw
          (go_simp) <;> (with_reducible rfl)
        try simp only [Act.put, List.setIfInBounds_toArray, List.set_cons_zero, List.set_cons_succ]
        refine wpAnyH_take (i := 4) (v := ?_) (by first | (simp only [List.getElem?_toArray, List.getElem?_cons_succ, List.getElem?_cons_zero] <;> rfl) | rfl) (by kernel_rfl) (by kernel_rfl) (by kernel_rfl) (by exact fun _ _ _ h => h) (Or.inl ⟨by rfl, ?_⟩) hHeld0 ?_
        rotate_left 1
        · intro w hSw
          try dsimp only at hSw
          (go_simp) <;> (with_reducible rfl)
        try simp only [Act.put, List.setIfInBounds_toArray, List.set_cons_zero, List.set_cons_succ]
        refine wpAnyH_take (i := 5) (v := ?_) (by first | (simp only [List.getElem?_toArray, List.getElem?_cons_succ, List.getElem?_cons_zero] <;> rfl) | rfl) (by kernel_rfl) (by kernel_rfl) (by kernel_rfl) (by exact fun _ _ _ h => h) (Or.inl ⟨by rfl, ?_⟩) hHeld0 ?_
        rotate_left 1
        · intro w hSw
          try dsimp only at hSw
          (go_simp) <;> (with_reducible rfl)
        try simp only [Act.put, List.setIfInBounds_toArray, List.set_cons_zero, List.set_cons_succ]
        refine wpAnyH_take (i := 6) (v := ?_) (by first | (simp only [List.getElem?_toArray, List.getElem?_cons_succ, List.getElem?_cons_zero] <;> rfl) | rfl) (by kernel_rfl) (by kernel_rfl) (by kernel_rfl) (by exact fun _ _ _ h => h) (Or.inl ⟨by rfl, ?_⟩) hHeld0 ?_
        rotate_left 1
        · intro w hSw
          try dsimp only at hSw
          (go_simp) <;> (with_reducible rfl)
        try simp only [Act.put, List.setIfInBounds_toArray, List.set_cons_zero, List.set_cons_succ]
        refine wpAnyH_take (i := 7) (v := ?_) (by first | (simp only [List.getElem?_toArray, List.getElem?_cons_succ, List.getElem?_cons_zero] <;> rfl) | rfl) (by kernel_rfl) (by kernel_rfl) (by kernel_rfl) (by exact fun _ _ _ h => h) (Or.inl ⟨by rfl, ?_⟩) hHeld0 ?_
        rotate_left 1
        · intro w hSw
          try dsimp only at hSw
          (go_simp) <;> (with_reducible rfl)
        try simp only [Act.put, List.setIfInBounds_toArray, List.set_cons_zero, List.set_cons_succ]
        refine wpAnyH_take (i := 8) (v := ?_) (by first | (simp only [List.getElem?_toArray, List.getElem?_cons_succ, List.getElem?_cons_zero] <;> rfl) | rfl) (by kernel_rfl) (by kernel_rfl) (by kernel_rfl) (by exact fun _ _ _ h => h) (Or.inl ⟨by rfl, ?_⟩) hHeld0 ?_
        rotate_left 1
        · intro w hSw
          try dsimp only at hSw
          (go_simp) <;> (with_reducible rfl)
        try simp only [Act.put, List.setIfInBounds_toArray, List.set_cons_zero, List.set_cons_succ]
        refine wpAnyH_take (i := 9) (v := ?_) (by first | (simp only [List.getElem?_toArray, List.getElem?_cons_succ, List.getElem?_cons_zero] <;> rfl) | rfl) (by kernel_rfl) (by kernel_rfl) (by kernel_rfl) (by exact fun _ _ _ h => h) (Or.inl ⟨by rfl, ?_⟩) hHeld0 ?_
        rotate_left 1
        · intro w hSw
          try dsimp only at hSw
          (go_simp) <;> (with_reducible rfl)
        try simp only [Act.put, List.setIfInBounds_toArray, List.set_cons_zero, List.set_cons_succ]
        refine wpAnyH_take (i := 10) (v := ?_) (by first | (simp only [List.getElem?_toArray, List.getElem?_cons_succ, List.getElem?_cons_zero] <;> rfl) | rfl) (by kernel_rfl) (by kernel_rfl) (by kernel_rfl) (by exact fun _ _ _ h => h) (Or.inl ⟨by rfl, ?_⟩) hHeld0 ?_
        rotate_left 1
        · intro w hSw
          try dsimp only at hSw
          (go_simp) <;> (with_reducible rfl)
        try simp only [Act.put, List.setIfInBounds_toArray, List.set_cons_zero, List.set_cons_succ]
        refine wpAnyH_take (i := 11) (v := ?_) (by first | (simp only [List.getElem?_toArray, List.getElem?_cons_succ, List.getElem?_cons_zero] <;> rfl) | rfl) (by kernel_rfl) (by kernel_rfl) (by kernel_rfl) (by exact fun _ _ _ h => h) (Or.inl ⟨by rfl, ?_⟩) hHeld0 ?_
        rotate_left 1
        · intro w hSw
          try dsimp only at hSw
          (go_simp) <;> (with_reducible rfl)
        try simp only [Act.put, List.setIfInBounds_toArray, List.set_cons_zero, List.set_cons_succ]
        refine wpAnyH_done (by kernel_rfl) ?_ _
        clear hHeld0 HmkS
        have HBn := Lib.hid (show Below w4.heap.size w4 w4.drew from (Below.refl _ _).drew)
        generalize w4.drew = w5 at HBn ⊢
        have HX := Lib.hid (HX.out.kept HBn.out)
        have HW := Lib.hid (HW.out.kept HBn.out)
        have HA := Lib.hid (HA.out.kept HBn.out)
        clear HBn
        have x0 := HX.out.cell 0 rfl
        have x1 := HX.out.cell 1 rfl
        have x2 := HX.out.cell 2 rfl
        have x3 := HX.out.cell 3 rfl
        have x4 := HX.out.cell 4 rfl
        have x5 := HX.out.cell 5 rfl
        have xl := HX.out.lt
        obtain ⟨m5, hm5⟩ : ∃ m5, m5 = p.kd % 5 := ⟨_, rfl⟩
        have em5 : (p.kd : Int) % 5 = m5 := by omega
        by_cases h0 : m5 = 0
        · have b0 : ((m5 : Int) == 0) = true := by rw [h0]; rfl
          obtain ⟨k16, hk16⟩ : ∃ k16, k16 = p.k % 16 := ⟨_, rfl⟩
          have ek16 : (p.k : Int) % 16 = k16 := by omega
          obtain ⟨kk, hkk⟩ : ∃ kk, kk = k16 * 4 := ⟨_, rfl⟩
          have ekk : (k16 : Int) * 4 = kk := by omega
          have hk15 : k16 < 16 := by omega
          have HO := Lib.hid (show oneF i p = [⟨2, 0, 0, ⟨32, 0, 0, kk⟩⟩] by unfold oneF; rw [if_pos (by omega), hkk, hk16]; rfl)
          have HFn := Lib.hid (show (s ++ [⟨2, 0, 0, ⟨32, 0, 0, kk⟩⟩]) ++ smF (i + 1) ((l.take 20).drop (i + 1)) = smF 0 (l.take 20) by rw [← HF.out, HST.out, HO.out, List.append_assoc])
          clear hk16 hkk h0 hm5
          go_wp2_with fail
          refine (load_of _ _).mono ?_
          clear x0 x1 x2 x3 x4 x5 xl
          rintro e w6 ⟨rfl, hb6⟩
          have HA := Lib.hid (HA.out.kept hb6)
          clear hb6
          go_wp2_with (at_builtin; refine VR.push rfl (.tmp 69) (.tmp 77) rfl (⟨2, 0, 0, ⟨32, 0, 0, kk⟩⟩) HA #[.int .u8 2, .int .i64 0, .int .i64 0, .int .u16 32, .int .u8 0, .int .u8 0, .int .u32 kk] rfl rfl (by omega) rfl ?_; clear HA; intro A7 c7 w7 HA)
          go_roundw
          case rel => exact ⟨i + 1, _, A7, c7, by go_num, by rw [List.length_append]; rfl, by omega, by omega, by rw [List.length_append]; simp only [List.length_cons, List.length_nil]; omega, by rw [List.length_append]; exact HA, HFn⟩
          case measure => simp [intOf]; omega
        have b0 : ((m5 : Int) == 0) = false := by rw [beq_eq_false_iff_ne]; omega
        by_cases h1 : m5 = 1
        · have b1 : ((m5 : Int) == 1) = true := by rw [h1]; rfl
          have HO := Lib.hid (show oneF i p = [⟨4, (tn : Int), 0, ⟨0, 0, 0, 0⟩⟩] by unfold oneF; rw [if_neg (by omega), if_pos (by omega), ← HT6.out, ← HTN.out]; rfl)
          have HFn := Lib.hid (show (s ++ [⟨4, (tn : Int), 0, ⟨0, 0, 0, 0⟩⟩]) ++ smF (i + 1) ((l.take 20).drop (i + 1)) = smF 0 (l.take 20) by rw [← HF.out, HST.out, HO.out, List.append_assoc])
          clear h0 h1 hm5
          go_wp2_with (at_builtin; refine VR.push rfl (.tmp 81) (.tmp 84) rfl (⟨4, (tn : Int), 0, ⟨0, 0, 0, 0⟩⟩) HA #[.int .u8 4, .int .i64 tn, .int .i64 0, .int .u16 0, .int .u8 0, .int .u8 0, .int .u32 0] rfl rfl (by omega) rfl ?_; clear HA; intro A7 c7 w7 HA)
          go_roundw
          case rel => exact ⟨i + 1, _, A7, c7, by go_num, by rw [List.length_append]; rfl, by omega, by omega, by rw [List.length_append]; simp only [List.length_cons, List.length_nil]; omega, by rw [List.length_append]; exact HA, HFn⟩
          case measure => simp [intOf]; omega
        have b1 : ((m5 : Int) == 1) = false := by rw [beq_eq_false_iff_ne]; omega
        obtain ⟨on, hon⟩ : ∃ on, on = 100 + i := ⟨_, rfl⟩
        have eon : (100 : Int) + (i : Int) = on := by omega
        obtain ⟨tz, hto⟩ : ∃ tz, tz = toF i p := ⟨_, rfl⟩
        obtain ⟨eo, heo⟩ : ∃ eo, eo = elF i p := ⟨_, rfl⟩
        obtain ⟨m2, hm2⟩ : ∃ m2, m2 = p.kd % 2 := ⟨_, rfl⟩
        have em2 : (p.kd : Int) % 2 = m2 := by omega
        obtain ⟨m3, hm3⟩ : ∃ m3, m3 = p.kd % 3 := ⟨_, rfl⟩
        have em3 : (p.kd : Int) % 3 = m3 := by omega
        obtain ⟨h4, hh4⟩ : ∃ h4, h4 = p.how % 4 := ⟨_, rfl⟩
        have eh4 : (p.how : Int).tmod 4 = h4 := by rw [Int.tmod_eq_emod_of_nonneg (by omega)]; omega
        obtain ⟨k4, hk4⟩ : ∃ k4, k4 = p.k % 4 := ⟨_, rfl⟩
        have ek4 : (p.k : Int).tmod 4 = k4 := by rw [Int.tmod_eq_emod_of_nonneg (by omega)]; omega
        have ek43 : (p.k : Int) % 4 = k4 := by omega
        have eh43 : (p.how : Int) % 4 = h4 := by omega
        have ek42 : IntKind.u32.wrap (k4 : Int) = k4 := by rw [IntKind.wrap_u32]; omega
        obtain ⟨wy, hwy⟩ : ∃ wy, wy = wayN h4 := ⟨_, rfl⟩
        obtain ⟨cw, hwcN⟩ : ∃ cw, cw = wy + 5 := ⟨_, rfl⟩
        have hh44 : h4 < 4 := by omega
        have HH4 := Lib.hid hh44
        have HWY := Lib.hid hwy.symm
        have hwc : bits .or .u16 (bits .or .u16 5 (wy : Int)) 0 = (cw : Int) := by rw [hwcN, hwy]; exact way_or hh44
        have HWAT : Hid (∀ W, Below w5.heap.size w5 W → W.cell? ⟨gb, h4, none⟩ = some (.int .u16 wy)) := Lib.hid (fun W h => by rw [hwy]; exact (HW.out.kept h).cell h4 (way_at hh44))
        have hwat := HW.out.cell h4 (way_at hh44)
        have hwl := HW.out.lt
        rw [← hwy] at hwat
        have HO := Lib.hid (show oneF i p = [⟨3, (tz : Int), (eo : Int), ⟨cw, 0, 0, k4⟩⟩, ⟨1, (on : Int), 0, ⟨0, 0, 0, 0⟩⟩] by unfold oneF; rw [if_neg (by omega), if_neg (by omega), hto, heo, hwcN, hwy, hh4, hk4, hon]; rfl)
        have HFn := Lib.hid (show (s ++ [⟨3, (tz : Int), (eo : Int), ⟨cw, 0, 0, k4⟩⟩, ⟨1, (on : Int), 0, ⟨0, 0, 0, 0⟩⟩]) ++ smF (i + 1) ((l.take 20).drop (i + 1)) = smF 0 (l.take 20) by rw [← HF.out, HST.out, HO.out, List.append_assoc])
        have q40 : (0 : Int) ≤ (h4 : Int) := by omega
        have q41 : (h4 : Int) < 4 := by omega
        have hk44 : k4 < 4 := by omega
        have hto2 : (m2 = 1 ∧ m3 = 0 → tz = on) ∧ (¬ (m2 = 1 ∧ m3 = 0) → tz = tn) := by rw [hto, HTN.out, HT6.out, hm2, hm3, hon]; unfold toF; constructor <;> intro h; exact if_pos h; exact if_neg h
        have heo2 : (m2 = 0 → eo = on) ∧ (¬ m2 = 0 → eo = en) := by rw [heo, HEN.out, HE6.out, hm2, hon]; unfold elF; constructor <;> intro h; exact if_pos h; exact if_neg h
        have hm22 : m2 < 2 := by omega
        have HON := Lib.hid hon
        clear hon
        clear hto heo hm2 hm3 hh4 hk4 hwy hwcN hm5
        go_upto_if 41 with fail
        go_cut [9, 10] from 42 to 47 (fun s9 s10 wx => s9 = .int .i64 (tz : Int) ∧ s10 = .int .i64 (eo : Int) ∧ wx = w5)
        case first =>
          by_cases c2 : m2 = 0
          · have d2 : ((m2 : Int) == 0) = true := by rw [c2]; rfl
            have f1 := hto2.2 (by omega)
            have f2 := heo2.1 c2
            have F12 := Lib.hid (And.intro f1 f2)
            clear hto2 heo2 f1 f2 c2
            go_wp2_with fail
            go_meet
            case rel => exact ⟨by rw [F12.out.1], by rw [F12.out.2], rfl⟩
          have d2 : ((m2 : Int) == 0) = false := by rw [beq_eq_false_iff_ne]; omega
          by_cases c3 : m3 = 0
          · have d3 : ((m3 : Int) == 0) = true := by rw [c3]; rfl
            have f1 := hto2.1 (by omega)
            have f2 := heo2.2 c2
            have F12 := Lib.hid (And.intro f1 f2)
            clear hto2 heo2 f1 f2 c2 c3
            go_wp2_with fail
            go_meet
            case rel => exact ⟨by rw [F12.out.1], by rw [F12.out.2], rfl⟩
          have d3 : ((m3 : Int) == 0) = false := by rw [beq_eq_false_iff_ne]; omega
          have f1 := hto2.2 (by omega)
          have f2 := heo2.2 c2
          have F12 := Lib.hid (And.intro f1 f2)
          clear hto2 heo2 f1 f2 c2 c3
          go_wp2_with fail
          go_meet
          case rel => exact ⟨by rw [F12.out.1], by rw [F12.out.2], rfl⟩
        case rest =>
          obtain ⟨rfl, rfl, hwx⟩ := hcut
          rw [hwx]
          clear hwx hto2 heo2
          go_upto_region 14 with fail
          clear x0 x1 x2 x3 x4 x5 xl hwat hwl
          have HmkS : Hid (∀ W, Below w5.heap.size w5 W → (fun W => W.cell? ⟨xb, 3, none⟩ = some (.int .u8 p.how) ∧ W.cell? ⟨xb, 4, none⟩ = some (.int .u8 p.k) ∧ W.cell? ⟨gb, h4, none⟩ = some (.int .u16 wy) ∧ xb < W.heap.size ∧ gb < W.heap.size) W) := Lib.hid (fun W h => ⟨(HX.out.kept h).cell 3 rfl, (HX.out.kept h).cell 4 rfl, HWAT.out _ h, (HX.out.kept h).lt, (HW.out.kept h).lt⟩)
          have HBv := Lib.hid (show Below w5.heap.size w5 w5.drew from (Below.refl _ _).drew)
          refine wp_region_held_drew (S := (fun W => W.cell? ⟨xb, 3, none⟩ = some (.int .u8 p.how) ∧ W.cell? ⟨xb, 4, none⟩ = some (.int .u8 p.k) ∧ W.cell? ⟨gb, h4, none⟩ = some (.int .u16 wy) ∧ xb < W.heap.size ∧ gb < W.heap.size)) (by kernel_rfl) ?_ (fun hHeld0 => ?_)
          · exact HmkS.out _ HBv.out
          refine wpAnyH_take (i := 0) (v := ?_) (by first | (simp only [List.getElem?_toArray, List.getElem?_cons_zero] <;> rfl) | rfl) (by kernel_rfl) (by kernel_rfl) (by kernel_rfl) (by exact fun _ _ _ h => h) (Or.inl ⟨by rfl, ?_⟩) hHeld0 ?_
          rotate_left 1
          · intro w hSw
            try dsimp only at hSw
            (go_simp) <;> (with_reducible rfl)
          try simp only [Act.put, List.setIfInBounds_toArray, List.set_cons_zero, List.set_cons_succ]
          refine wpAnyH_take (i := 1) (v := ?_) (by first | (simp only [List.getElem?_toArray, List.getElem?_cons_succ, List.getElem?_cons_zero] <;> rfl) | rfl) (by kernel_rfl) (by kernel_rfl) (by kernel_rfl) (by exact fun _ _ _ h => h) (Or.inl ⟨by rfl, ?_⟩) hHeld0 ?_
          rotate_left 1
          · intro w hSw
            try dsimp only at hSw
            (go_simp) <;> (with_reducible rfl)
          try simp only [Act.put, List.setIfInBounds_toArray, List.set_cons_zero, List.set_cons_succ]
          refine wpAnyH_take (i := 2) (v := ?_) (by first | (simp only [List.getElem?_toArray, List.getElem?_cons_succ, List.getElem?_cons_zero] <;> rfl) | rfl) (by kernel_rfl) (by kernel_rfl) (by kernel_rfl) (by exact fun _ _ _ h => h) (Or.inl ⟨by rfl, ?_⟩) hHeld0 ?_
          rotate_left 1
          · intro w hSw
            try dsimp only at hSw
            (go_simp) <;> (with_reducible rfl)
          try simp only [Act.put, List.setIfInBounds_toArray, List.set_cons_zero, List.set_cons_succ]
          refine wpAnyH_take (i := 3) (v := ?_) (by first | (simp only [List.getElem?_toArray, List.getElem?_cons_succ, List.getElem?_cons_zero] <;> rfl) | rfl) (by kernel_rfl) (by kernel_rfl) (by kernel_rfl) (by exact fun _ _ _ h => h) (Or.inl ⟨by rfl, ?_⟩) hHeld0 ?_
          rotate_left 1
          · intro w hSw
            try dsimp only at hSw
            (go_simp) <;> (with_reducible rfl)
          try simp only [Act.put, List.setIfInBounds_toArray, List.set_cons_zero, List.set_cons_succ]
          refine wpAnyH_take (i := 4) (v := ?_) (by first | (simp only [List.getElem?_toArray, List.getElem?_cons_succ, List.getElem?_cons_zero] <;> rfl) | rfl) (by kernel_rfl) (by kernel_rfl) (by kernel_rfl) (by exact fun _ _ _ h => h) (Or.inl ⟨by rfl, ?_⟩) hHeld0 ?_
          rotate_left 1
          · intro w hSw
            try dsimp only at hSw
            (go_simp) <;> (with_reducible rfl)
          try simp only [Act.put, List.setIfInBounds_toArray, List.set_cons_zero, List.set_cons_succ]
          refine wpAnyH_take (i := 5) (v := ?_) (by first | (simp only [List.getElem?_toArray, List.getElem?_cons_succ, List.getElem?_cons_zero] <;> rfl) | rfl) (by kernel_rfl) (by kernel_rfl) (by kernel_rfl) (by exact fun _ _ _ h => h) (Or.inl ⟨by rfl, ?_⟩) hHeld0 ?_
          rotate_left 1
          · intro w hSw
            try dsimp only at hSw
            (go_simp) <;> (with_reducible rfl)
          try simp only [Act.put, List.setIfInBounds_toArray, List.set_cons_zero, List.set_cons_succ]
          refine wpAnyH_take (i := 6) (v := ?_) (by first | (simp only [List.getElem?_toArray, List.getElem?_cons_succ, List.getElem?_cons_zero] <;> rfl) | rfl) (by kernel_rfl) (by kernel_rfl) (by kernel_rfl) (by exact fun _ _ _ h => h) (Or.inl ⟨by rfl, ?_⟩) hHeld0 ?_
          rotate_left 1
          · intro w hSw
            try dsimp only at hSw
            (go_simp) <;> (with_reducible rfl)
          try simp only [Act.put, List.setIfInBounds_toArray, List.set_cons_zero, List.set_cons_succ]
          refine wpAnyH_take (i := 7) (v := ?_) (by first | (simp only [List.getElem?_toArray, List.getElem?_cons_succ, List.getElem?_cons_zero] <;> rfl) | rfl) (by kernel_rfl) (by kernel_rfl) (by kernel_rfl) (by exact fun _ _ _ h => h) (Or.inl ⟨by rfl, ?_⟩) hHeld0 ?_
          rotate_left 1
          · intro w hSw
            try dsimp only at hSw
            (go_simp) <;> (with_reducible rfl)
          try simp only [Act.put, List.setIfInBounds_toArray, List.set_cons_zero, List.set_cons_succ]
          refine wpAnyH_take (i := 8) (v := ?_) (by first | (simp only [List.getElem?_toArray, List.getElem?_cons_succ, List.getElem?_cons_zero] <;> rfl) | rfl) (by kernel_rfl) (by kernel_rfl) (by kernel_rfl) (by exact fun _ _ _ h => h) (Or.inl ⟨by rfl, ?_⟩) hHeld0 ?_
          rotate_left 1
          · intro w hSw
            try dsimp only at hSw
            (go_simp) <;> (with_reducible rfl)
          try simp only [Act.put, List.setIfInBounds_toArray, List.set_cons_zero, List.set_cons_succ]
          refine wpAnyH_take (i := 9) (v := ?_) (by first | (simp only [List.getElem?_toArray, List.getElem?_cons_succ, List.getElem?_cons_zero] <;> rfl) | rfl) (by kernel_rfl) (by kernel_rfl) (by kernel_rfl) (by exact fun _ _ _ h => h) (Or.inl ⟨by rfl, ?_⟩) hHeld0 ?_
          rotate_left 1
          · intro w hSw
            try dsimp only at hSw
            (go_simp) <;> (with_reducible rfl)
          try simp only [Act.put, List.setIfInBounds_toArray, List.set_cons_zero, List.set_cons_succ]
          refine wpAnyH_take (i := 10) (v := ?_) (by first | (simp only [List.getElem?_toArray, List.getElem?_cons_succ, List.getElem?_cons_zero] <;> rfl) | rfl) (by kernel_rfl) (by kernel_rfl) (by kernel_rfl) (by exact fun _ _ _ h => h) (Or.inl ⟨by rfl, ?_⟩) hHeld0 ?_
          rotate_left 1
          · intro w hSw
            try dsimp only at hSw
            (go_simp) <;> (with_reducible rfl)
          try simp only [Act.put, List.setIfInBounds_toArray, List.set_cons_zero, List.set_cons_succ]
          refine wpAnyH_take (i := 11) (v := ?_) (by first | (simp only [List.getElem?_toArray, List.getElem?_cons_succ, List.getElem?_cons_zero] <;> rfl) | rfl) (by kernel_rfl) (by kernel_rfl) (by kernel_rfl) (by exact fun _ _ _ h => h) (Or.inl ⟨by rfl, ?_⟩) hHeld0 ?_
          rotate_left 1
          · intro w hSw
            try dsimp only at hSw
            (go_simp) <;> (with_reducible rfl)
          try simp only [Act.put, List.setIfInBounds_toArray, List.set_cons_zero, List.set_cons_succ]
          refine wpAnyH_take (i := 12) (v := ?_) (by first | (simp only [List.getElem?_toArray, List.getElem?_cons_succ, List.getElem?_cons_zero] <;> rfl) | rfl) (by kernel_rfl) (by kernel_rfl) (by kernel_rfl) (by exact fun _ _ _ h => h) (Or.inl ⟨by rfl, ?_⟩) hHeld0 ?_
          rotate_left 1
          · intro w hSw
            try dsimp only at hSw
            (go_simp) <;> (with_reducible rfl)
          try simp only [Act.put, List.setIfInBounds_toArray, List.set_cons_zero, List.set_cons_succ]
          refine wpAnyH_take (i := 15) (v := ?_) (by first | (simp only [List.getElem?_toArray, List.getElem?_cons_succ, List.getElem?_cons_zero] <;> rfl) | rfl) (by kernel_rfl) (by kernel_rfl) (by kernel_rfl) (by exact fun _ _ _ h => h) (Or.inl ⟨by rfl, ?_⟩) hHeld0 ?_
          rotate_left 1
          · intro w hSw
            try dsimp only at hSw
            (go_simp) <;> (with_reducible rfl)
          try simp only [Act.put, List.setIfInBounds_toArray, List.set_cons_zero, List.set_cons_succ]
          refine wpAnyH_take (i := 16) (v := ?_) (by first | (simp only [List.getElem?_toArray, List.getElem?_cons_succ, List.getElem?_cons_zero] <;> rfl) | rfl) (by kernel_rfl) (by kernel_rfl) (by kernel_rfl) (by exact fun _ _ _ h => h) (Or.inl ⟨by rfl, ?_⟩) hHeld0 ?_
          rotate_left 1
          · intro w hSw
            try dsimp only at hSw
            (go_simp) <;> (with_reducible rfl)
          try simp only [Act.put, List.setIfInBounds_toArray, List.set_cons_zero, List.set_cons_succ]
          refine wpAnyH_ready (rs := [13]) (by kernel_rfl) (by simp) ?_
          refine AllReadyH.cons (by first | (simp only [List.getElem?_toArray, List.getElem?_cons_succ, List.getElem?_cons_zero] <;> rfl) | rfl) (fun K hK => ?_) ?_
          · go_simp
            refine (if_of wy k4 0 0 cw _ hwc).mono ?_
            rintro e vh1 ⟨rfl, hbb⟩
            have HBn := Lib.hid (HBv.out.trans (hbb.mono HBv.out.size))
            clear hbb
            refine hK.out _ _ (HmkS.out _ HBn.out) (fun hHeld1 => ?_)
            clear hK K
            have HBv := HBn
            clear HBn hHeld0
            try simp only [Act.put, List.setIfInBounds_toArray, List.set_cons_zero, List.set_cons_succ]
            refine wpAnyH_take (i := 14) (v := ?_) (by first | (simp only [List.getElem?_toArray, List.getElem?_cons_succ, List.getElem?_cons_zero] <;> rfl) | rfl) (by kernel_rfl) (by kernel_rfl) (by kernel_rfl) (by exact fun _ _ _ h => h) (Or.inl ⟨by rfl, ?_⟩) hHeld1 ?_
            rotate_left 1
            · intro w hSw
              try dsimp only at hSw
              (go_simp) <;> (with_reducible rfl)
            try simp only [Act.put, List.setIfInBounds_toArray, List.set_cons_zero, List.set_cons_succ]
            refine wpAnyH_ready (rs := [17]) (by kernel_rfl) (by simp) ?_
            refine AllReadyH.cons (by first | (simp only [List.getElem?_toArray, List.getElem?_cons_succ, List.getElem?_cons_zero] <;> rfl) | rfl) (fun K hK => ?_) ?_
            · go_simp
              have HBn := Lib.hid (HBv.out.trans ((oneb vh1 (.cells #[.int .u8 3, .int .i64 tz, .int .i64 eo, .int .u16 cw, .int .u8 0, .int .u8 0, .int .u32 k4, .int .u8 1, .int .i64 on, .int .i64 0, .int .u16 0, .int .u8 0, .int .u8 0, .int .u32 0] 125)).mono HBv.out.size))
              have HA7 := Lib.hid (HA.out.kept HBv.out)
              obtain ⟨A8, c8, wb, hr8, hV8, hg8⟩ := HA7.out.run [⟨3, tz, eo, ⟨cw, 0, 0, k4⟩⟩, ⟨1, on, 0, ⟨0, 0, 0, 0⟩⟩] 2 rfl (by omega) (by omega) (by omega) #[.int .u8 3, .int .i64 tz, .int .i64 eo, .int .u16 cw, .int .u8 0, .int .u8 0, .int .u32 k4, .int .u8 1, .int .i64 on, .int .i64 0, .int .u16 0, .int .u8 0, .int .u8 0, .int .u32 0] rfl 65
              have HV8 := Lib.hid hV8
              have HX8 := Lib.hid ((HX.out.kept HBn.out).grown hg8 (fun e => (HVX.out _ e.symm).1 rfl))
              have HW8 := Lib.hid ((HW.out.kept HBn.out).grown hg8 (fun e => (HVX.out _ e.symm).2 rfl))
              clear hV8 hg8 HA7
              refine hK.out _ _ (HmkS.out _ HBn.out) (fun hHeld2 => ?_)
              clear hK K
              have HBv := HBn
              clear HBn hHeld1
              try simp only [Act.put, List.setIfInBounds_toArray, List.set_cons_zero, List.set_cons_succ]
              refine wpAnyH_ready (rs := [18]) (by kernel_rfl) (by simp) ?_
              refine AllReadyH.cons (by first | (simp only [List.getElem?_toArray, List.getElem?_cons_succ, List.getElem?_cons_zero] <;> rfl) | rfl) (fun K hK => ?_) ?_
              · skip
                refine op_append (.tmp 48) (.tmp 65) 65 rfl _ _ _ wb rfl rfl hr8 ?_
                refine hK.out _ _ ⟨HX8.out.cell 3 rfl, HX8.out.cell 4 rfl, HWY.out ▸ HW8.out.cell h4 (way_at HH4.out), HX8.out.lt, HW8.out.lt⟩ (fun hHeld3 => ?_)
                clear hK K hr8 hHeld2 HmkS
                try simp only [Act.put, List.setIfInBounds_toArray, List.set_cons_zero, List.set_cons_succ]
                refine wpAnyH_take (i := 19) (v := ?_) (by first | (simp only [List.getElem?_toArray, List.getElem?_cons_succ, List.getElem?_cons_zero] <;> rfl) | rfl) (by kernel_rfl) (by kernel_rfl) (by kernel_rfl) (by exact fun _ _ _ h => h) (Or.inl ⟨by rfl, ?_⟩) hHeld3 ?_
                rotate_left 1
                · intro w hSw
                  try dsimp only at hSw
                  (go_simp) <;> (with_reducible rfl)
                try simp only [Act.put, List.setIfInBounds_toArray, List.set_cons_zero, List.set_cons_succ]
                refine wpAnyH_done (by kernel_rfl) ?_ _
                clear hHeld3
                go_wp2_with fail
                go_roundw
                case rel => exact ⟨i + 1, s ++ [⟨3, tz, eo, ⟨cw, 0, 0, k4⟩⟩, ⟨1, on, 0, ⟨0, 0, 0, 0⟩⟩], A8, c8, by go_num, by rw [List.length_append]; rfl, by omega, by omega, by rw [List.length_append]; simp only [List.length_cons, List.length_nil]; omega, by rw [List.length_append]; exact HV8, HFn⟩
                case measure => simp [intOf]; omega
              exact AllReadyH.nil
            exact AllReadyH.nil
          exact AllReadyH.nil
      · have HFe := Lib.hid (show s = smF 0 (l.take 20) by rw [← HF.out, sm_done (Or.inl (by have := HL.out; omega)), List.append_nil])
        go_wp2_with fail
        go_meet
        case rel => exact ⟨s, B, c9, rfl, by omega, HA, HFe⟩
  case rest =>
    rename World => wx
    obtain ⟨s, B, c9, rfl, hs40, HA, HF⟩ := hcut
    have HF1 := Lib.hid (show s ++ restF pad 1 6 = whole by rw [HF.out, HWH.out]; rfl)
    clear HF
    go_wp2_with fail
    go_loopw [5, 12] (fun sv nv wz => ∃ (m : Nat) (s : List PtM) (B : Option Addr) (c9 : Nat), nv = .int .i64 m ∧ sv = .slice B s.length c9 ∧ 1 ≤ m ∧ m ≤ 7 ∧ s.length ≤ 40 + m * 262 ∧ Hid (VR w1 wz (.slice B s.length c9) s) ∧ Hid (s ++ restF pad m (7 - m) = whole)) (fun _ iv _ => 7 - (intOf iv).toNat)
    case atStart => exact ⟨1, s, B, c9, rfl, rfl, by omega, by omega, by omega, HA, HF1⟩
    case round =>
      clear HA HF1 hs40
      rename World => wz
      obtain ⟨m, s2, B2, c2, rfl, rfl, hm1, hm7, hs2, HA, HF⟩ := hrel
      by_cases hlt : m ≤ 6
      · have j1 : (m : Int) ≤ 6 := by omega
        have HF3 := Lib.hid (show s2 ++ (List.replicate pad maskP ++ (endP m ++ restF pad (m + 1) (7 - (m + 1)))) = whole by
          rw [← HF.out, show 7 - m = (7 - (m + 1)) + 1 from by omega]; show _ = s2 ++ (placeF pad m ++ restF pad (m + 1) (7 - (m + 1))); unfold placeF; rw [List.append_assoc])
        clear HF
        go_wp2_with fail
        go_loopw [5, 92] (fun sv iv wy => ∃ (q : Nat) (s : List PtM) (B : Option Addr) (c9 : Nat), iv = .int .i64 q ∧ sv = .slice B s.length c9 ∧ q ≤ pad ∧ s.length ≤ 40 + m * 262 + q ∧ Hid (VR w1 wy (.slice B s.length c9) s) ∧ Hid (s ++ (List.replicate (pad - q) maskP ++ (endP m ++ restF pad (m + 1) (7 - (m + 1)))) = whole)) (fun _ iv _ => pad - (intOf iv).toNat)
        case atStart => exact ⟨0, s2, B2, c2, rfl, rfl, by omega, by omega, HA, HF3⟩
        case round =>
          clear HA HF3
          rename World => wy
          obtain ⟨q, s3, B3, c3, rfl, rfl, hq, hs3, HA, HF⟩ := hrel
          by_cases hqt : q < pad
          · have HFn := Lib.hid (show (s3 ++ [⟨2, 0, 0, ⟨84, 0, 0, 255⟩⟩]) ++ (List.replicate (pad - (q + 1)) maskP ++ (endP m ++ restF pad (m + 1) (7 - (m + 1)))) = whole by
              rw [← HF.out, show pad - q = (pad - (q + 1)) + 1 from by omega, List.replicate_succ, List.append_assoc]; rfl)
            go_wp2_with fail
            refine (mask_of _ _).mono ?_
            rintro e w6 ⟨rfl, hb6⟩
            have HA := Lib.hid (HA.out.kept hb6)
            clear hb6
            go_wp2_with (at_builtin; refine VR.push rfl (.tmp 94) (.tmp 97) rfl (⟨2, 0, 0, ⟨84, 0, 0, 255⟩⟩) HA #[.int .u8 2, .int .i64 0, .int .i64 0, .int .u16 84, .int .u8 0, .int .u8 0, .int .u32 255] rfl rfl (by omega) rfl ?_; clear HA; intro A7 c7 w7 HA)
            go_roundw
            case rel => exact ⟨q + 1, _, A7, c7, by go_num, by rw [List.length_append]; rfl, by omega, by rw [List.length_append]; simp only [List.length_cons, List.length_nil]; omega, by rw [List.length_append]; exact HA, HFn⟩
            case measure => simp [intOf]; omega
          · have HF2 := Lib.hid (show s3 ++ (endP m ++ restF pad (m + 1) (7 - (m + 1))) = whole by rw [← HF.out, show pad - q = 0 from by omega]; rfl)
            clear HF
            obtain ⟨z2, hz2⟩ : ∃ z2, z2 = m % 2 := ⟨_, rfl⟩
            have ez2 : (m : Int) % 2 = z2 := by omega
            by_cases hev : z2 = 0
            · have b2 : ((z2 : Int) == 0) = true := by rw [hev]; rfl
              have HFn := Lib.hid (show ((s3 ++ [⟨1, (m : Int), 0, ⟨0, 0, 0, 0⟩⟩]) ++ [⟨2, 0, 0, ⟨6, 0, 0, m⟩⟩]) ++ restF pad (m + 1) (7 - (m + 1)) = whole by
                rw [← HF2.out]; unfold endP; rw [if_pos (by omega), List.append_assoc, List.append_assoc]; rfl)
              clear hev hz2
              go_wp2_with (at_builtin; refine VR.push rfl (.tmp 100) (.tmp 103) rfl (⟨1, (m : Int), 0, ⟨0, 0, 0, 0⟩⟩) HA #[.int .u8 1, .int .i64 m, .int .i64 0, .int .u16 0, .int .u8 0, .int .u8 0, .int .u32 0] rfl rfl (by omega) rfl ?_; clear HA; intro A7 c7 w7 HA)
              rw [show s3.length + 1 = (s3 ++ [(⟨1, (m : Int), 0, ⟨0, 0, 0, 0⟩⟩ : PtM)]).length from by rw [List.length_append]; rfl] at HA ⊢
              refine (return_of _ _).mono ?_
              rintro e w8 ⟨rfl, hb8⟩
              have HA := Lib.hid (HA.out.kept hb8)
              clear hb8
              obtain ⟨s4, hs4⟩ : ∃ s4, s4 = s3 ++ [(⟨1, (m : Int), 0, ⟨0, 0, 0, 0⟩⟩ : PtM)] := ⟨_, rfl⟩
              have hs4l : s4.length ≤ 40 + m * 262 + 261 := by rw [hs4, List.length_append]; simp only [List.length_cons, List.length_nil]; omega
              rw [← hs4] at HA HFn ⊢
              clear hs4
              go_wp2_with (at_builtin; refine VR.push rfl (.tmp 108) (.tmp 113) rfl (⟨2, 0, 0, ⟨6, 0, 0, m⟩⟩) HA #[.int .u8 2, .int .i64 0, .int .i64 0, .int .u16 6, .int .u8 0, .int .u8 0, .int .u32 m] rfl rfl (by omega) rfl ?_; clear HA; intro A7 c7 w9 HA)
              go_roundw
              case rel => exact ⟨m + 1, _, A7, c7, by go_num, by rw [List.length_append]; rfl, by omega, by omega, by rw [List.length_append]; simp only [List.length_cons, List.length_nil]; omega, by rw [List.length_append]; exact HA, HFn⟩
              case measure => simp [intOf]; omega
            · have b2 : ((z2 : Int) == 0) = false := by rw [beq_eq_false_iff_ne]; omega
              have HFn := Lib.hid (show (s3 ++ [⟨1, (m : Int), 0, ⟨0, 0, 0, 0⟩⟩]) ++ restF pad (m + 1) (7 - (m + 1)) = whole by
                rw [← HF2.out]; unfold endP; rw [if_neg (by omega), List.append_assoc]; rfl)
              clear hev hz2
              go_wp2_with (at_builtin; refine VR.push rfl (.tmp 100) (.tmp 103) rfl (⟨1, (m : Int), 0, ⟨0, 0, 0, 0⟩⟩) HA #[.int .u8 1, .int .i64 m, .int .i64 0, .int .u16 0, .int .u8 0, .int .u8 0, .int .u32 0] rfl rfl (by omega) rfl ?_; clear HA; intro A7 c7 w7 HA)
              go_roundw
              case rel => exact ⟨m + 1, _, A7, c7, by go_num, by rw [List.length_append]; rfl, by omega, by omega, by rw [List.length_append]; simp only [List.length_cons, List.length_nil]; omega, by rw [List.length_append]; exact HA, HFn⟩
              case measure => simp [intOf]; omega
      · have HFe := Lib.hid (show s2 ++ [⟨2, 0, 0, ⟨6, 0, 0, 9⟩⟩] = whole by rw [← HF.out, show 7 - m = 0 from by omega]; rfl)
        have j1 : ¬ (m : Int) ≤ 6 := by omega
        clear HF
        go_wp2_with fail
        refine (return_of _ _).mono ?_
        rintro e w8 ⟨rfl, hb8⟩
        have HA := Lib.hid (HA.out.kept hb8)
        clear hb8
        go_wp2_with (at_builtin; refine VR.push rfl (.tmp 115) (.tmp 118) rfl (⟨2, 0, 0, ⟨6, 0, 0, 9⟩⟩) HA #[.int .u8 2, .int .i64 0, .int .i64 0, .int .u16 6, .int .u8 0, .int .u8 0, .int .u32 9] rfl rfl (by omega) rfl ?_; clear HA; intro A7 c7 w9 HA)
        go_ret
        have hlen : s2.length + 1 = whole.length := by rw [← HFe.out, List.length_append]; rfl
        rw [HFe.out] at HA
        rw [hlen] at HA ⊢
        exact ⟨_, _, rfl, own_base HA.out.row (by have := HB1.out.size; omega), HB1.out.trans (HA.out.bel.mono HB1.out.size)⟩
end Go.Proofs.Ytcageojoafkojaa.Ju

