/- A line's words as an instruction. -/
import Derived.Test.YthiohihbcfahhaaDoorSaid
import Derived.Test.YthiohihbcfahhaaDoorNumber
import Derived.Deep.RegionWith
import Derived.Deep.RegionHeld3
import Derived.Outline
namespace Go.Proofs.YthiohihbcfahhaaDoor
open Go.RowKit
theorem tail_slice (b o n : Nat) (h : 1 ≤ n) (W : World) : (Instr.slice 68 (.slice (some ⟨b, o, none⟩) n n) (some (.int .i64 1)) none none).run Tryd.prog W = .ok (.slice (some (if n = 1 then ⟨b, o, none⟩ else ⟨b, o + 1, none⟩)) (n - 1) (n - 1)) W := by
  have h1 : (1 : Int) ≤ (n : Int) := by omega
  have hu := Tryd.underlying68
  by_cases hn : n = 1
  · subst hn
    simp [go_sem, Instr.slice]
  · have hne : ¬ n = 1 := hn
    simp [go_sem, hn, h1, Instr.slice]
def zI : Ins := ⟨0, 0, 0, 0⟩
def ParsedPost (ws : List Bs) (w : World) (e : Ending) (w' : World) : Prop :=
  e = .returned (.tuple #[.agg #[.int .u16 (parsed ws).1.c, .int .u8 (parsed ws).1.t, .int .u8 (parsed ws).1.f, .int .u32 (parsed ws).1.k], .int .i64 ((parsed ws).2 : Nat)]) ∧ Below w.heap.size w w'
theorem parsed_ret {ws : List Bs} {w W : World} {tmps : Array Value} {x y : Ins} {e : Nat} (hp : tmps.getD 2 undef = .pointer (some ⟨w.heap.size, 0, none⟩)) (hq : tmps.getD 3 undef = .int .i64 (e : Int))
    (hA : Bk W w.heap.size 38 y.cells) (hB : Below w.heap.size w W) (h : parsed ws = (x, e)) :
    bodyPost Tryd.prog Tryd.f29 (ParsedPost ws w) .ret { tmps, defers := [] } ((((W.setCell ⟨w.heap.size, 0, none⟩ (.int .u16 x.c)).setCell ⟨w.heap.size, 1, none⟩ (.int .u8 x.t)).setCell ⟨w.heap.size, 2, none⟩ (.int .u8 x.f)).setCell ⟨w.heap.size, 3, none⟩ (.int .u32 x.k)) := by
  have hA' := only_cells (j := x) hA
  have hB' := (((hB.setCell (p := ⟨w.heap.size, 0, none⟩) (Nat.le_refl _) (.int .u16 x.c)).setCell (p := ⟨w.heap.size, 1, none⟩) (Nat.le_refl _) (.int .u8 x.t)).setCell (p := ⟨w.heap.size, 2, none⟩) (Nat.le_refl _) (.int .u8 x.f)).setCell (p := ⟨w.heap.size, 3, none⟩) (Nat.le_refl _) (.int .u32 x.k)
  generalize ((((W.setCell ⟨w.heap.size, 0, none⟩ (.int .u16 x.c)).setCell ⟨w.heap.size, 1, none⟩ (.int .u8 x.t)).setCell ⟨w.heap.size, 2, none⟩ (.int .u8 x.f)).setCell ⟨w.heap.size, 3, none⟩ (.int .u32 x.k)) = W2 at hA' hB'
  have hr : (results Tryd.f29 tmps).run Tryd.prog W2 = .ok (.tuple #[.agg #[.int .u16 x.c, .int .u8 x.t, .int .u8 x.f, .int .u32 x.k], .int .i64 (e : Int)]) W2 := by
    have k0 := hA'.cell 0 rfl
    have k1 := hA'.cell 1 rfl
    have k2 := hA'.cell 2 rfl
    have k3 := hA'.cell 3 rfl
    rw [Array.getD_eq_getD_getElem?] at hp hq
    simp [results, Tryd.results29, go_sem, hp, hq, k0, k1, k2, k3]
  exact bodyPost_ret hr rfl ⟨by rw [h], hB'⟩
theorem strs_at {ws : List Bs} {k : Nat} {x : Bs} (h : ws[k]? = some x) : (strs ws)[k]? = some (.string ⟨x.toArray⟩) := by simp [strs, h]
theorem setAll_none {ns : List Bs} {fs : List Nat} {k : Nat} {x : Bs} {f : Nat} {i : Ins} (h1 : ns[k]? = some x) (h2 : fs[k]? = some f) (h : number x = none) : setAll (ns.drop k) (fs.drop k) i = (zI, 202) := by
  obtain ⟨a1, e1⟩ := List.getElem?_eq_some_iff.1 h1
  obtain ⟨a2, e2⟩ := List.getElem?_eq_some_iff.1 h2
  rw [List.drop_eq_getElem_cons a1, List.drop_eq_getElem_cons a2, e1, e2, setAll, h]
  rfl
theorem setAll_far {ns : List Bs} {fs : List Nat} {k : Nat} {x : Bs} {f v : Nat} {i : Ins} (h1 : ns[k]? = some x) (h2 : fs[k]? = some f) (h : number x = some v) (hv : most f < v) : setAll (ns.drop k) (fs.drop k) i = (zI, 204) := by
  obtain ⟨a1, e1⟩ := List.getElem?_eq_some_iff.1 h1
  obtain ⟨a2, e2⟩ := List.getElem?_eq_some_iff.1 h2
  rw [List.drop_eq_getElem_cons a1, List.drop_eq_getElem_cons a2, e1, e2, setAll, h]
  simp only
  rw [if_pos hv]
  rfl
theorem setAll_in {ns : List Bs} {fs : List Nat} {k : Nat} {x : Bs} {f v : Nat} {i : Ins} (h1 : ns[k]? = some x) (h2 : fs[k]? = some f) (h : number x = some v) (hv : ¬ most f < v) : setAll (ns.drop k) (fs.drop k) i = setAll (ns.drop (k + 1)) (fs.drop (k + 1)) (setF f i v) := by
  obtain ⟨a1, e1⟩ := List.getElem?_eq_some_iff.1 h1
  obtain ⟨a2, e2⟩ := List.getElem?_eq_some_iff.1 h2
  rw [List.drop_eq_getElem_cons a1, List.drop_eq_getElem_cons a2, e1, e2, setAll, h]
  simp only
  rw [if_neg hv]
structure ParR (w : World) (g : Nat) (F : Option Addr) (fs : List Nat) (left : Ins) (wr : World) : Prop where
  ans : Bk wr w.heap.size 38 zI.cells
  left : Bk wr g 38 left.cells
  fld : Seg wr 0 1 fs.length F (u8s fs)
  far : fs.length ≠ 0 → ∀ a, F = some a → a.block < g
  gt : w.heap.size < g
  bel : Below w.heap.size w wr
theorem ParR.kept {w wr w' : World} {g : Nat} {F : Option Addr} {fs : List Nat} {left : Ins} (h : ParR w g F fs left wr) (hb : Below wr.heap.size wr w') : ParR w g F fs left w' :=
  ⟨h.ans.kept hb, h.left.kept hb, h.fld.below hb, h.far, h.gt, h.bel.trans (hb.mono h.bel.size)⟩
theorem ParR.put {w wr : World} {g : Nat} {F : Option Addr} {fs : List Nat} {left : Ins} (h : ParR w g F fs left wr) (j : Ins) : ParR w g F fs j ((((wr.setCell ⟨g, 0, none⟩ (.int .u16 j.c)).setCell ⟨g, 1, none⟩ (.int .u8 j.t)).setCell ⟨g, 2, none⟩ (.int .u8 j.f)).setCell ⟨g, 3, none⟩ (.int .u32 j.k)) := by
  have hg := put_grown wr g j
  have hgt := h.gt
  have hsz := h.bel.size
  refine ⟨h.ans.grown hg (fun e => by have := Option.some.inj e; omega), only_cells h.left, Seg.grownO h.fld hg (fun hn a ha e => by have := h.far hn a ha; have := Option.some.inj e; omega), h.far, h.gt, only_below h.bel hg hsz (by omega)⟩
set_option maxRecDepth 100000 in
set_option maxHeartbeats 4000000 in
theorem parsed_any (ws : List Bs) (b o : Nat) (w : World) (hne : ws ≠ []) (hn : ws.length ≤ 100000) (hl : ∀ x ∈ ws, x.length ≤ 100000) (hR : Rd w 1 ws.length (some ⟨b, o, none⟩) (strs ws)) (hE : Env w) :
    Calls Tryd.prog 29 #[.slice (some ⟨b, o, none⟩) ws.length ws.length] w (ParsedPost ws w) := by
  obtain ⟨x, ns, rfl⟩ : ∃ x ns, ws = x :: ns := by
    cases ws with
    | nil => exact absurd rfl hne
    | cons x ns => exact ⟨x, ns, rfl⟩
  obtain ⟨b', o', hbo, hbs, hcell⟩ := hR.pos (by simp)
  cases hbo
  have HE := Lib.hid hE
  have HL := Lib.hid hl
  have HC := Lib.hid hcell
  have hbs' : b < w.heap.size := hbs
  have c0 : w.cell? ⟨b, o, none⟩ = some (.string ⟨x.toArray⟩) := hcell 0 _ (strs_at (k := 0) (x := x) rfl)
  have HZ := Lib.hid (Bk.new w 38 #[.int .u16 0, .int .u8 0, .int .u8 0, .int .u32 0] (l := zI.cells) rfl)
  clear hE hl hcell hR hne
  cases hnm : named x with
  | none =>
    have HP := Lib.hid (show parsed (x :: ns) = (zI, 202) by unfold parsed; simp only; rw [hnm]; rfl)
    have hnamed := fun W (hT : TabAt W) => lineNamed_any ⟨x.toArray⟩ W hT
    unfold NamedPost at hnamed
    simp only [hnm] at hnamed
    have HN := Lib.hid hnamed
    clear hnm hnamed
    go_enter Tryd.func29, Tryd.ntmps29
    go_wp2_with fail
    refine (HN.out _ (HE.out.tab.below ((Below.refl _ _).alloc (Nat.le_refl _) _))).mono ?_
    rintro e w1 ⟨rfl, hb1⟩
    have HA := Lib.hid ((HZ.out.kept hb1).alloc (.cells #[.string ⟨#[]⟩, .int .u16 0, .int .u8 0] 81))
    have HB := Lib.hid ((((Below.refl w.heap.size w).alloc (Nat.le_refl _) (.cells #[.int .u16 0, .int .u8 0, .int .u8 0, .int .u32 0] 38)).trans (hb1.mono (by simp))).alloc (by have := hb1.size; simp at this; omega) (.cells #[.string ⟨#[]⟩, .int .u16 0, .int .u8 0] 81))
    clear hb1
    have d0 := HA.out.cell 0 rfl
    have d1 := HA.out.cell 1 rfl
    have d2 := HA.out.cell 2 rfl
    have d3 := HA.out.cell 3 rfl
    have f0 := HA.out.fz 0
    have f1 := HA.out.fz 1
    have f2 := HA.out.fz 2
    have f3 := HA.out.fz 3
    go_wp2_with fail
    exact parsed_ret (x := zI) rfl rfl HA.out HB.out HP.out
  | some l =>
    have hlok := named_ok hnm
    have HP := Lib.hid (show parsed (x :: ns) = if ns.length ≠ (flds l.s).length then (zI, 203) else setAll ns (flds l.s) ⟨l.c, 0, 0, 0⟩ by unfold parsed; simp only; rw [hnm]; rfl)
    have hnamed := fun W (hT : TabAt W) => lineNamed_any ⟨x.toArray⟩ W hT
    unfold NamedPost at hnamed
    simp only [hnm] at hnamed
    have HN := Lib.hid hnamed
    have hsl := fun W => tail_slice b o (ns.length + 1) (by omega) W
    obtain ⟨N, hN⟩ : ∃ N, N = (if ns.length + 1 = 1 then (⟨b, o, none⟩ : Addr) else ⟨b, o + 1, none⟩) := ⟨_, rfl⟩
    rw [← hN, show ns.length + 1 - 1 = ns.length by omega] at hsl
    have HNd := Lib.hid hN
    clear hnm hnamed hN
    go_enter Tryd.func29, Tryd.ntmps29
    go_wp2_with fail
    refine (HN.out _ (HE.out.tab.below ((Below.refl _ _).alloc (Nat.le_refl _) _))).mono ?_
    rintro e w1 ⟨rfl, hb1⟩
    have HA := Lib.hid ((HZ.out.kept hb1).alloc (.cells #[.string ⟨l.w.toArray⟩, .int .u16 l.c, .int .u8 l.s] 81))
    have HB := Lib.hid ((((Below.refl w.heap.size w).alloc (Nat.le_refl _) (.cells #[.int .u16 0, .int .u8 0, .int .u8 0, .int .u32 0] 38)).trans (hb1.mono (by simp))).alloc (by have := hb1.size; simp at this; omega) (.cells #[.string ⟨l.w.toArray⟩, .int .u16 l.c, .int .u8 l.s] 81))
    have HLn := Lib.hid (Bk.new w1 81 #[.string ⟨l.w.toArray⟩, .int .u16 l.c, .int .u8 l.s] (l := l.cells) rfl)
    have hgl : w.heap.size < w1.heap.size := (HZ.out.kept hb1).lt
    clear hb1
    go_wp2_with fail
    revert HA HB HLn hgl
    generalize w1.alloc (.cells #[.string ⟨l.w.toArray⟩, .int .u16 l.c, .int .u8 l.s] 81) = w2
    generalize w1.heap.size = gl
    intro HA HB HLn hgl
    have e2 := HLn.out.cell 2 rfl
    have HS : Hid (∀ w', Below w2.heap.size w2 w' → (fun w' => w'.cell? ⟨gl, 2, none⟩ = some (.int .u8 l.s) ∧ Hid (Below w2.heap.size w2 w')) w') := Lib.hid (fun w' hb => ⟨(HLn.out.kept hb).cell 2 rfl, hb⟩)
    refine wp_region_held_drew (S := (fun w' => w'.cell? ⟨gl, 2, none⟩ = some (.int .u8 l.s) ∧ Hid (Below w2.heap.size w2 w'))) (by kernel_rfl) ?_ (fun hHeld0 => ?_)
    · exact HS.out _ (Below.refl _ _).drew
    refine wpAnyH_take (i := 0) (v := ?_) (by first | (simp only [List.getElem?_toArray, List.getElem?_cons_zero] <;> rfl) | rfl) (by kernel_rfl) (by kernel_rfl) (by kernel_rfl) (by exact fun _ _ _ h => h) (Or.inl ⟨by rfl, ?_⟩) hHeld0 ?_
    rotate_left 1
    · intro w hSw
      try dsimp only at hSw
      (go_simp) <;> (with_reducible rfl)
    try simp only [Act.put, List.setIfInBounds_toArray, List.set_cons_zero, List.set_cons_succ]
    refine wpAnyH_take (i := 1) (v := ?_) (by first | (simp only [List.getElem?_toArray, List.getElem?_cons_succ, List.getElem?_cons_zero] <;> rfl) | rfl) (by kernel_rfl) (by kernel_rfl) (by kernel_rfl) (by exact fun _ _ _ h => h) (Or.inl ⟨by rfl, ?_⟩) hHeld0 ?_
    rotate_left 1
    · intro w hSw
      try dsimp only at hSw
      (go_simp) <;> (with_reducible rfl)
    try simp only [Act.put, List.setIfInBounds_toArray, List.set_cons_zero, List.set_cons_succ]
    refine wpAnyH_take (i := 2) (v := ?_) (by first | (simp only [List.getElem?_toArray, List.getElem?_cons_succ, List.getElem?_cons_zero] <;> rfl) | rfl) (by kernel_rfl) (by kernel_rfl) (by kernel_rfl) (by exact fun _ _ _ h => h) (Or.inl ⟨by rfl, ?_⟩) hHeld0 ?_
    rotate_left 1
    · intro w hSw
      try dsimp only at hSw
      (go_simp) <;> (with_reducible rfl)
    try simp only [Act.put, List.setIfInBounds_toArray, List.set_cons_zero, List.set_cons_succ]
    refine wpAnyH_take (i := 3) (v := ?_) (by first | (simp only [List.getElem?_toArray, List.getElem?_cons_succ, List.getElem?_cons_zero] <;> rfl) | rfl) (by kernel_rfl) (by kernel_rfl) (by kernel_rfl) (by exact fun _ _ _ h => h) (Or.inl ⟨by rfl, ?_⟩) hHeld0 ?_
    rotate_left 1
    · intro w hSw
      try dsimp only at hSw
      (go_simp) <;> (with_reducible rfl)
    try simp only [Act.put, List.setIfInBounds_toArray, List.set_cons_zero, List.set_cons_succ]
    refine wpAnyH_ready (rs := [4]) (by kernel_rfl) (by simp) ?_
    refine AllReadyH.cons (by first | (simp only [List.getElem?_toArray, List.getElem?_cons_succ, List.getElem?_cons_zero] <;> rfl) | rfl) (fun K hK => ?_) AllReadyH.nil
    go_simp
    refine (fields_any l.s _ hlok.2).mono ?_; rintro e wa ⟨F, cp, rfl, hcp, hseg, hba⟩
    go_wp2_with fail
    refine hK.out _ _ ?_ (fun hHeld1 => ?_)
    · (try dsimp only)
      exact HS.out _ (step2 hba hHeld0)
    clear hK K hHeld0
    try simp only [Act.put, List.setIfInBounds_toArray, List.set_cons_zero, List.set_cons_succ]
    refine wpAnyH_take (i := 5) (v := ?_) (by first | (simp only [List.getElem?_toArray, List.getElem?_cons_succ, List.getElem?_cons_zero] <;> rfl) | rfl) (by kernel_rfl) (by kernel_rfl) (by kernel_rfl) (by exact fun _ _ _ h => h) (Or.inl ⟨by rfl, ?_⟩) hHeld1 ?_
    rotate_left 1
    · intro w hSw
      try dsimp only at hSw
      (go_simp) <;> (with_reducible rfl)
    try simp only [Act.put, List.setIfInBounds_toArray, List.set_cons_zero, List.set_cons_succ]
    refine wpAnyH_take (i := 6) (v := ?_) (by first | (simp only [List.getElem?_toArray, List.getElem?_cons_succ, List.getElem?_cons_zero] <;> rfl) | rfl) (by kernel_rfl) (by kernel_rfl) (by kernel_rfl) (by exact fun _ _ _ h => h) (Or.inl ⟨by rfl, ?_⟩) hHeld1 ?_
    rotate_left 1
    · intro w hSw
      try dsimp only at hSw
      (go_simp) <;> (with_reducible rfl)
    try simp only [Act.put, List.setIfInBounds_toArray, List.set_cons_zero, List.set_cons_succ]
    refine wpAnyH_done (by kernel_rfl) ?_ _
    have HAr := Lib.hid (HA.out.kept (hHeld1).2.out)
    have HBr := Lib.hid (HB.out.trans ((hHeld1).2.out.mono HB.out.size))
    have HLr := Lib.hid (HLn.out.kept (hHeld1).2.out)
    clear HA HB HLn HS e2
    clear hHeld1
    have hszd : w2.drew.heap.size ≤ wa.heap.size := hba.size
    have hwlt : w.heap.size < wa.heap.size := HAr.out.lt
    have HF := Lib.hid hseg.mono0
    have HFar := Lib.hid (show (flds l.s).length ≠ 0 → ∀ a, F = some a → a.block < wa.heap.size from fun hn a ha => by
      obtain ⟨b, o, e, _, hl, _⟩ := hseg.pos (by omega)
      rw [ha] at e
      obtain rfl := Option.some.inj e
      exact hl)
    clear hseg hba hcp
    by_cases hlen : ns.length = (flds l.s).length
    · have HP2 := Lib.hid (show parsed (x :: ns) = setAll (ns.drop 0) ((flds l.s).drop 0) ⟨l.c, 0, 0, 0⟩ by rw [HP.out, if_neg (by simpa using hlen)]; rfl)
      have hg1 : ((ns.length : Int) != ((flds l.s).length : Int)) = false := by rw [hlen]; simp
      have d1 := HLr.out.cell 1 rfl
      have HPar := Lib.hid (show ParR w wa.heap.size F (flds l.s) ⟨l.c, 0, 0, 0⟩ (wa.alloc (.cells #[.int .u16 l.c, .int .u8 0, .int .u8 0, .int .u32 0] 38)) from
        ⟨HAr.out.alloc _, Bk.new wa _ _ rfl, Seg.below HF.out ((Below.refl _ _).alloc (Nat.le_refl _) _), HFar.out, hwlt, HBr.out.alloc HBr.out.size _⟩)
      have hfl := flds_le l.s
      have Hlen := Lib.hid hlen
      clear hlen HAr HBr HLr HF HFar
      go_wp2_with fail
      generalize hgg : wa.heap.size = g at *
      go_loopw [39] (fun c wr => ∃ (k : Nat) (left : Ins), k ≤ (flds l.s).length ∧ c = .int .i64 k ∧ left.ok ∧ Hid (parsed (x :: ns) = setAll (ns.drop k) ((flds l.s).drop k) left) ∧ Hid (ParR w g F (flds l.s) left wr)) (fun c _ => (flds l.s).length - (intOf c).toNat)
      case atStart => exact ⟨0, ⟨l.c, 0, 0, 0⟩, by omega, rfl, ⟨hlok.1, by show 0 < _; omega, by show 0 < _; omega, by show 0 < _; omega⟩, HP2.out, HPar.out⟩
      case round =>
        obtain ⟨k, left, hk, rfl, hlo, HD, HT⟩ := hrel
        by_cases hlt : k < (flds l.s).length
        · obtain ⟨f, hf⟩ : ∃ f, (flds l.s)[k]? = some f := ⟨_, List.getElem?_eq_getElem hlt⟩
          obtain ⟨y, hy⟩ : ∃ y, ns[k]? = some y := ⟨_, List.getElem?_eq_getElem (by have := Hlen.out; omega)⟩
          obtain ⟨fb, fo, rfl, _, hfb, hfc⟩ := Seg.pos HT.out.fld (by omega)
          have c1 := hfc k _ (u8s_at hf)
          have hNe : N = ⟨b, o + 1, none⟩ := by rw [HNd.out, if_neg (by have := Hlen.out; omega)]
          subst hNe
          have c2 : wr.cell? ⟨b, o + 1 + k, none⟩ = some (.string ⟨y.toArray⟩) := by
            have h1 := HC.out (k + 1) (.string ⟨y.toArray⟩) (strs_at (by simpa using hy))
            rw [show o + (k + 1) = o + 1 + k by omega] at h1
            exact (HT.out.bel.cell (p := ⟨b, o + 1 + k, none⟩) hbs').trans h1
          have hyl : y.length ≤ 100000 := HL.out y (List.mem_cons_of_mem _ (List.mem_of_getElem? hy))
          have hkn : k < ns.length := by have := Hlen.out; omega
          have hf4 := flds_lt _ _ (List.mem_of_getElem? hf)
          clear hfc
          cases hnum : number y with
          | none =>
            have HD2 := Lib.hid (HD.out.trans (setAll_none hy hf hnum))
            have hnb := fun W E => number_any ⟨y.toArray⟩ W (by rw [Lib.size_eq]; simpa using hyl) E
            unfold NumPost at hnb
            simp only [hnum] at hnb
            have Hnb := Lib.hid hnb
            clear hnb hnum hy hf
            go_wp2_with fail
            refine (Hnb.out _ (HE.out.below HT.out.bel)).mono ?_
            rintro e w5 ⟨rfl, hb5⟩
            have HT5 := Lib.hid (HT.out.kept hb5)
            clear hb5
            have d0 := HT5.out.ans.cell 0 rfl
            have d1 := HT5.out.ans.cell 1 rfl
            have d2 := HT5.out.ans.cell 2 rfl
            have d3 := HT5.out.ans.cell 3 rfl
            have f0 := HT5.out.ans.fz 0
            have f1 := HT5.out.ans.fz 1
            have f2 := HT5.out.ans.fz 2
            have f3 := HT5.out.ans.fz 3
            go_wp2_with fail
            exact parsed_ret (x := zI) rfl rfl HT5.out.ans HT5.out.bel HD2.out
          | some v =>
            have hnb := fun W E => number_any ⟨y.toArray⟩ W (by rw [Lib.size_eq]; simpa using hyl) E
            unfold NumPost at hnb
            simp only [hnum] at hnb
            have Hnb := Lib.hid hnb
            clear hnb
            by_cases hv : most f < v
            · have HD2 := Lib.hid (HD.out.trans (setAll_far hy hf hnum hv))
              clear hnum hy hf
              go_wp2_with fail
              refine (Hnb.out _ (HE.out.below HT.out.bel)).mono ?_
              rintro e w5 ⟨rfl, hb5⟩
              have HT5 := Lib.hid (HT.out.kept hb5)
              clear hb5
              go_wp2_with fail
              refine (most_any f _ hf4).mono ?_
              rintro e w6 ⟨rfl, rfl⟩
              have d0 := HT5.out.ans.cell 0 rfl
              have d1 := HT5.out.ans.cell 1 rfl
              have d2 := HT5.out.ans.cell 2 rfl
              have d3 := HT5.out.ans.cell 3 rfl
              have f0 := HT5.out.ans.fz 0
              have f1 := HT5.out.ans.fz 1
              have f2 := HT5.out.ans.fz 2
              have f3 := HT5.out.ans.fz 3
              go_wp2_with fail
              exact parsed_ret (x := zI) rfl rfl HT5.out.ans HT5.out.bel HD2.out
            · have HD2 := Lib.hid (HD.out.trans (setAll_in hy hf hnum hv))
              have Hok := Lib.hid (setF_ok hlo (show v ≤ most f by omega))
              have Hlo := Lib.hid hlo
              clear hnum hy hf hlo
              go_wp2_with fail
              refine (Hnb.out _ (HE.out.below HT.out.bel)).mono ?_
              rintro e w5 ⟨rfl, hb5⟩
              have HT5 := Lib.hid (HT.out.kept hb5)
              clear hb5
              go_wp2_with fail
              refine (most_any f _ hf4).mono ?_
              rintro e w6 ⟨rfl, rfl⟩
              have d0 := HT5.out.left.cell 0 rfl
              have d1 := HT5.out.left.cell 1 rfl
              have d2 := HT5.out.left.cell 2 rfl
              have d3 := HT5.out.left.cell 3 rfl
              go_wp2_with fail
              refine (set_any f left v _ hf4 Hlo.out (by omega)).mono ?_
              rintro e w7 ⟨rfl, hb7⟩
              have HT7 := Lib.hid (HT5.out.kept hb7)
              clear hb7 d0 d1 d2 d3
              have d0 := HT7.out.left.cell 0 rfl
              have d1 := HT7.out.left.cell 1 rfl
              have d2 := HT7.out.left.cell 2 rfl
              have d3 := HT7.out.left.cell 3 rfl
              have f0 := HT7.out.left.fz 0
              have f1 := HT7.out.left.fz 1
              have f2 := HT7.out.left.fz 2
              have f3 := HT7.out.left.fz 3
              go_wp2_with fail
              go_roundw
              case rel => exact ⟨k + 1, setF f left v, by omega, by go_num, Hok.out, HD2.out, HT7.out.put _⟩
              case measure => simp [intOf]; omega
        · obtain rfl : k = (flds l.s).length := by omega
          have HD2 := Lib.hid (show parsed (x :: ns) = (left, 0) by rw [HD.out, List.drop_eq_nil_of_le (Nat.le_refl _)]; cases ns.drop (flds l.s).length <;> rfl)
          have d0 := HT.out.left.cell 0 rfl
          have d1 := HT.out.left.cell 1 rfl
          have d2 := HT.out.left.cell 2 rfl
          have d3 := HT.out.left.cell 3 rfl
          have e0 := HT.out.ans.cell 0 rfl
          have e1 := HT.out.ans.cell 1 rfl
          have e2 := HT.out.ans.cell 2 rfl
          have e3 := HT.out.ans.cell 3 rfl
          have f0 := HT.out.ans.fz 0
          have f1 := HT.out.ans.fz 1
          have f2 := HT.out.ans.fz 2
          have f3 := HT.out.ans.fz 3
          go_wp2_with fail
          exact parsed_ret (x := left) rfl rfl HT.out.ans HT.out.bel HD2.out
    · have HP2 := Lib.hid (show parsed (x :: ns) = (zI, 203) by rw [HP.out, if_pos (by simpa using hlen)])
      have hg1 : ((ns.length : Int) != ((flds l.s).length : Int)) = true := by simp; omega
      have d0 := HAr.out.cell 0 rfl
      have d1 := HAr.out.cell 1 rfl
      have d2 := HAr.out.cell 2 rfl
      have d3 := HAr.out.cell 3 rfl
      have f0 := HAr.out.fz 0
      have f1 := HAr.out.fz 1
      have f2 := HAr.out.fz 2
      have f3 := HAr.out.fz 3
      clear hlen
      go_wp2_with fail
      exact parsed_ret (x := zI) rfl rfl HAr.out HBr.out HP2.out
end Go.Proofs.YthiohihbcfahhaaDoor
