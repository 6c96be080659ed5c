/- VmRuns: any filter that may be loaded, any records: what it says, in how many steps. -/
import Derived.Test.YtnkffjdoillmaaaFree
import Derived.Test.YtnkffjdoillmaaaRefRun
import Derived.Test.YtnkffjdoillmaaaPool
import Derived.Test.YtnkffjdoillmaaaAwake6
import Derived.Test.YtnkffjdoillmaaaLongest
import Derived.Deep.RegionHeld3
namespace Go.Proofs.Ytnkffjdoillmaaa
open Go.RowKit
theorem Chk.one {l : List Ins} {a e a' e' : Nat} (h : Chk l a e) (k : Chk l a' e') : a' = a ∧ e' = e := by
  cases h with
  | none h0 => exact k.of_none h0
  | many h0 => exact k.of_many h0
  | each _ i _ h0 h1 h2 h3 h4 h5 => exact k.of_each h0 h1 h2 h3 h4 h5
  | ends i h0 h1 h2 h3 h4 => exact k.of_ends h0 h1 h2 h3 h4
  | scr _ i h0 h1 h2 h3 h4 h5 h6 h7 => exact k.of_scr h0 h1 h2 h3 h4 h5 h6 h7
  | good g => exact k.of_good g
/-- The nine cells of a record, as numbers. -/
theorem nine2 (bs : List Nat) : ∃ v0 v1 v2 v3 v4 v5 v6 v7 v8 : Int, Rec.recL bs = [.int .u32 v0, .int .u32 v1, .int .u64 v2, .int .u64 v3, .int .u64 v4, .int .u64 v5, .int .u64 v6, .int .u64 v7, .int .u64 v8] := ⟨_, _, _, _, _, _, _, _, _, rfl⟩
theorem nine_at2 {w : World} {rs : List (List Nat)} {b o k : Nat} {bs : List Nat} (h : ∀ j u, (rs.flatMap Rec.recL)[j]? = some u → w.cell? ⟨b, o + j, none⟩ = some u) (hx : rs[k]? = some bs) (hat : ∀ (l : List (List Nat)) (k j : Nat), j < 9 → (l.flatMap Rec.recL)[k * 9 + j]? = (l[k]?).bind (fun x => (Rec.recL x)[j]?)) {j : Nat} (hj : j < 9) {u : Value} (hu : (Rec.recL bs)[j]? = some u) : w.cell? ⟨b, o + k * 9 + j, none⟩ = some u := by
  rw [Nat.add_assoc]; exact h _ _ (by rw [hat rs k j hj, hx]; exact hu)
/-- One of the three lists, as the law holds it. -/
def OneOf (w : World) (g j : Nat) : Prop := ∃ (X : List Ins) (n : Nat) (A : Option Addr) (cp : Nat), X.length = n ∧ n ≤ 65536 ∧ (∀ i ∈ X, i.ok) ∧ Rd w 4 n A (X.flatMap Ins.cells) ∧ w.cell? ⟨g, j, none⟩ = some (.slice A n cp)
/-- What stays in the inner loop. -/
structure In6 (w4 wr : World) (B p b o c : Nat) (X : List Ins) (n : Nat) (A : Option Addr) (k st : Nat) : Prop where
  f : Fil wr B p b o c X k st
  rd : Rd wr 4 n A (X.flatMap Ins.cells)
  bel : Below w4.heap.size w4 wr
  lp : w4.heap.size ≤ p
section
variable {w4 wr w' : World} {B p b o c n k st k' st' : Nat} {X : List Ins} {A : Option Addr}
theorem In6.kept (h : In6 w4 wr B p b o c X n A k st) (hb : Below wr.heap.size wr w') : In6 w4 w' B p b o c X n A k st := ⟨h.f.below (hb.mono h.f.le), h.rd.below hb, h.bel.trans (hb.mono h.bel.size), h.lp⟩
end
theorem rd_other {w w' : World} {z n q : Nat} {A : Option Addr} {xs : List Value} (h : Rd w z n A xs) (hg : w.grownBy w' (some q)) (hA : ∀ b o, A = some ⟨b, o, none⟩ → b ≠ q) : Rd w' z n A xs :=
  ⟨h.len, h.at_.imp id fun ⟨b, o, e, hl, hc⟩ => ⟨b, o, e, Nat.lt_of_lt_of_le hl hg.size, fun j u hu => by
    rw [← hc j u hu]
    unfold World.cell?
    rw [hg.block b hl (fun h => hA b o e (by cases h; rfl))]⟩⟩
set_option maxRecDepth 100000 in
set_option maxHeartbeats 16000000 in
theorem walk_runs6 (l : List Ins) (S : List Sml) (rs : List (List Nat)) (ln sn rn : Nat) (lA sA rA : Option Addr) (lc sc rc ends : Nat) (w : World) (hl : l.length = ln) (hlok : ∀ i ∈ l, i.ok) (hlr : Rd w 4 ln lA (l.flatMap Ins.cells))
    (hS : S.length = sn) (hSok : ∀ i ∈ S, i.ok) (hSr : Rd w 9 sn sA (S.flatMap Sml.cells)) (hm : sn ≤ maxLen) (he : ends < 256)
    (hR : rs.length = rn) (hRok : ∀ b ∈ rs, Rec.IsRec b) (hRr : Rd w 9 rn rA (rs.flatMap Rec.recL)) (hat : ∀ (l : List (List Nat)) (k j : Nat), j < 9 → (l.flatMap Rec.recL)[k * 9 + j]? = (l[k]?).bind (fun x => (Rec.recL x)[j]?)) :
    Calls Try.prog 3 #[.slice lA ln lc, .slice sA sn sc, .int .u8 ends, .slice rA rn rc] w (Yes w) := by
  have PR := Lib.hid (fun w' E (hE : E < 256) (hb : Below w.heap.size w w') => program_any S sn sA sc E w' hS hSok (hSr.below hb) hm hE)
  have HLl := Lib.hid (And.intro hl (And.intro hlok hlr))
  have HR := Lib.hid (And.intro hR (And.intro hRok hRr))
  have Hat := Lib.hid hat
  clear hl hlok hlr hS hSok hSr hR hRok hRr hat hm
  go_enter Try.func3, Try.ntmps3
  go_wp2_with fail
  refine (awake6 _).mono ?_
  rintro e w1 ⟨rfl, hb1⟩
  have HB1 := Lib.hid hb1
  clear hb1
  by_cases h100 : 100 < ln
  · have e1 : decide ((100 : Int) < ln) = true := by simp; omega
    go_wp2_with fail
    go_ret
    exact ⟨rfl, HB1.out⟩
  have e1 : decide ((100 : Int) < ln) = false := by simp; omega
  by_cases h20 : 20 < rn
  · have e2 : decide ((20 : Int) < rn) = true := by simp; omega
    go_wp2_with fail
    go_ret
    exact ⟨rfl, HB1.out⟩
  have e2 : decide ((20 : Int) < rn) = false := by simp; omega
  go_wp2_with fail
  refine (PR.out _ ends he HB1.out).mono ?_
  rintro e w2 ⟨L, A, cp, rfl, hcp, hseg, hLok, hL65, _, hb2⟩
  have HB2 := Lib.hid (HB1.out.trans (hb2.mono HB1.out.size))
  obtain ⟨N, hN⟩ : ∃ N, N = L.length := ⟨_, rfl⟩
  rw [← hN] at hseg hL65 hcp ⊢
  have HL2 := Lib.hid (And.intro hN.symm (And.intro hLok hseg.rd))
  clear hb2 hseg hLok hN HB1 e1 e2
  go_wp2_with fail
  refine (PR.out _ 5 (by omega) HB2.out).mono ?_
  rintro e w3 ⟨M, C, cm, rfl, hcm, hseg, hMok, hM65, _, hb3⟩
  have HB3 := Lib.hid (HB2.out.trans (hb3.mono HB2.out.size))
  obtain ⟨K, hK⟩ : ∃ K, K = M.length := ⟨_, rfl⟩
  rw [← hK] at hseg hM65 hcm ⊢
  have h4 := one_below w3 (.cells #[.slice lA ln lc, .slice A N cp, .slice C K cm] 22)
  obtain ⟨w4, hw4⟩ : ∃ w4, w4 = w3.alloc (.cells #[.slice lA ln lc, .slice A N cp, .slice C K cm] 22) := ⟨_, rfl⟩
  rw [← hw4] at h4
  have hbk := Bk.new w3 22 #[.slice lA ln lc, .slice A N cp, .slice C K cm] rfl
  rw [← hw4] at hbk
  have H3 := Lib.hid (show ∀ j, j < 3 → OneOf w4 w3.heap.size j from fun j hj => by
    rcases (by omega : j = 0 ∨ j = 1 ∨ j = 2) with rfl | rfl | rfl
    · exact ⟨l, ln, lA, lc, HLl.out.1, by omega, HLl.out.2.1, (HLl.out.2.2.below HB3.out).below h4, hbk.cell 0 rfl⟩
    · exact ⟨L, N, A, cp, HL2.out.1, by omega, HL2.out.2.1, (HL2.out.2.2.below hb3).below h4, hbk.cell 1 rfl⟩
    · exact ⟨M, K, C, cm, hK.symm, by omega, hMok, hseg.rd.below h4, hbk.cell 2 rfl⟩)
  have HB4 := Lib.hid (HB3.out.trans (h4.mono HB3.out.size))
  have Hsz := Lib.hid (show w4.heap.size = w3.heap.size + 1 by rw [hw4]; simp)
  clear h4 hbk hb3 hseg hMok hM65 hL65 hcm hcp hK HB3 HB2 HL2 HLl PR h100 he
  go_wp2_with fail
  rw [← hw4]
  clear hw4
  go_loopw [40] (fun i wr => ∃ k : Nat, k ≤ 3 ∧ i = .int .i64 k ∧ Hid (Below w4.heap.size w4 wr)) (fun i _ => 3 - (intOf i).toNat)
  case atStart => exact ⟨0, by omega, rfl, Lib.hid (Below.refl _ _)⟩
  case round =>
    obtain ⟨k, hk, rfl, Hb⟩ := hrel
    by_cases hlt : k < 3
    · obtain ⟨X, n, A', cp', hX, hn, hXok, hXr, hcell⟩ := H3.out k hlt
      have q0 : wr.cell? ⟨w3.heap.size, k, none⟩ = some (.slice A' n cp') := by
        rw [Hb.out.cell (p := ⟨w3.heap.size, k, none⟩) (by have := Hsz.out; show w3.heap.size < _; omega)]; exact hcell
      have HXr := Lib.hid (hXr.below Hb.out)
      have HX := Lib.hid (And.intro hX hXok)
      have HA := Lib.hid (show ∀ b o, A' = some ⟨b, o, none⟩ → 0 < n → b < w4.heap.size from fun b o e h0 => by
        obtain ⟨b', o', e', hl, _⟩ := hXr.pos h0
        rw [e] at e'; cases e'; exact hl)
      have hnm : n ≤ maxLen := by unfold maxLen; omega
      clear hcell hX hXok hXr
      go_wp2_with fail
      refine (load_any X n A' cp' _ HX.out.1 HX.out.2 HXr.out hnm).mono ?_
      rintro e w5 ⟨a, er, hck, hb5, hor⟩
      have HCk := Lib.hid hck
      have HB5 := Lib.hid (Hb.out.trans (hb5.mono Hb.out.size))
      have HX5 := Lib.hid (HXr.out.below hb5)
      have hl5 := Lib.hid hb5.size
      rcases hor with ⟨hg, rfl, rfl, p, b, o, c, hp, hbp, rfl, hF⟩ | ⟨hng, her, rfl⟩
      · have HG := Lib.hid hg
        have HF := Lib.hid hF
        have Hp := Lib.hid (show w4.heap.size ≤ p from Nat.le_trans Hb.out.size hp)
        clear hck hb5 hg hp hbp hF HXr
        go_wp2_with fail
        have HW := Lib.hid ((Bk.new (l := [.int .i64 0, .int .i64 0]) w5 31 _ rfl))
        have HBx := Lib.hid (HB5.out.alloc HB5.out.size (.cells #[.int .i64 0, .int .i64 0] 31))
        have HXx := Lib.hid (HX5.out.below (one_below w5 (.cells #[.int .i64 0, .int .i64 0] 31)))
        have HFx := Lib.hid (HF.out.below (one_below w5 (.cells #[.int .i64 0, .int .i64 0] 31)))
        have Hlx := Lib.hid (show w5.heap.size < (w5.alloc (.cells #[.int .i64 0, .int .i64 0] 31)).heap.size by simp)
        revert HW HBx HXx HFx Hlx
        generalize w5.alloc (.cells #[.int .i64 0, .int .i64 0] 31) = wx
        intro HW HBx HXx HFx Hlx
        have Ck := Lib.hid (fun w' hb => check_any X n A' cp' w' HX.out.1 HX.out.2 (HXx.out.below hb) hnm)
        have HS := Lib.hid (show ∀ w', Below wx.heap.size wx w' → (w'.cell? ⟨w5.heap.size, 0, none⟩ = some (.int .i64 0) ∧ w'.cell? ⟨w5.heap.size, 1, none⟩ = some (.int .i64 0)) ∧ Hid (Below wx.heap.size wx w') from fun w' h => ⟨⟨(HW.out.kept h).cell 0 rfl, (HW.out.kept h).cell 1 rfl⟩, h⟩)
        have hud : undef = Value.tuple #[] := rfl
        refine wp_region_held_drew (S := (fun w' => (w'.cell? ⟨w5.heap.size, 0, none⟩ = some (.int .i64 0) ∧ w'.cell? ⟨w5.heap.size, 1, none⟩ = some (.int .i64 0)) ∧ Hid (Below wx.heap.size wx w'))) (by kernel_rfl) ?_ (fun hHeld0 => ?_)
        · exact HS.out _ (Below.refl _ _).drew
        refine wpAnyH_take (i := 0) (v := ?_) (by first | (simp only [List.getElem?_toArray, List.getElem?_cons_zero] <;> rfl) | rfl) (by kernel_rfl) (by kernel_rfl) (by kernel_rfl) (by exact fun _ _ _ h => h) (Or.inl ⟨by rfl, ?_⟩) hHeld0 ?_
        rotate_left 1
        · intro w hSw
          try dsimp only at hSw
          (go_simp) <;> (with_reducible rfl)
        try simp only [Act.put, List.setIfInBounds_toArray, List.set_cons_zero, List.set_cons_succ]
        refine wpAnyH_take (i := 1) (v := ?_) (by first | (simp only [List.getElem?_toArray, List.getElem?_cons_succ, List.getElem?_cons_zero] <;> rfl) | rfl) (by kernel_rfl) (by kernel_rfl) (by kernel_rfl) (by exact fun _ _ _ h => h) (Or.inl ⟨by rfl, ?_⟩) hHeld0 ?_
        rotate_left 1
        · intro w hSw
          try dsimp only at hSw
          (go_simp) <;> (with_reducible rfl)
        try simp only [Act.put, List.setIfInBounds_toArray, List.set_cons_zero, List.set_cons_succ]
        refine wpAnyH_ready (rs := [2]) (by kernel_rfl) (by simp) ?_
        refine AllReadyH.cons (by first | (simp only [List.getElem?_toArray, List.getElem?_cons_succ, List.getElem?_cons_zero] <;> rfl) | rfl) (fun K hK => ?_) AllReadyH.nil
        go_simp
        refine (Ck.out _ (Rec.step1 hHeld0)).mono ?_; rintro e wa ⟨a2, er2, rfl, hc2, hba⟩; obtain ⟨rfl, rfl⟩ := Chk.one HCk.out hc2; clear hc2
        go_wp2_with fail
        refine hK.out _ _ ?_ (fun hHeld1 => ?_)
        · (try dsimp only)
          exact HS.out _ (Rec.step2 hba hHeld0)
        clear hK K hHeld0
        try simp only [Act.put, List.setIfInBounds_toArray, List.set_cons_zero, List.set_cons_succ]
        refine wpAnyH_take (i := 3) (v := ?_) (by first | (simp only [List.getElem?_toArray, List.getElem?_cons_succ, List.getElem?_cons_zero] <;> rfl) | rfl) (by kernel_rfl) (by kernel_rfl) (by kernel_rfl) (by exact fun _ _ _ h => h) (Or.inl ⟨by rfl, ?_⟩) hHeld1 ?_
        rotate_left 1
        · intro w hSw
          try dsimp only at hSw
          (go_simp) <;> (with_reducible rfl)
        try simp only [Act.put, List.setIfInBounds_toArray, List.set_cons_zero, List.set_cons_succ]
        refine wpAnyH_take (i := 4) (v := ?_) (by first | (simp only [List.getElem?_toArray, List.getElem?_cons_succ, List.getElem?_cons_zero] <;> rfl) | rfl) (by kernel_rfl) (by kernel_rfl) (by kernel_rfl) (by exact fun _ _ _ h => h) (Or.inl ⟨by rfl, ?_⟩) hHeld1 ?_
        rotate_left 1
        · intro w hSw
          try dsimp only at hSw
          (go_simp) <;> (with_reducible rfl)
        try simp only [Act.put, List.setIfInBounds_toArray, List.set_cons_zero, List.set_cons_succ]
        refine wpAnyH_take (i := 5) (v := ?_) (by first | (simp only [List.getElem?_toArray, List.getElem?_cons_succ, List.getElem?_cons_zero] <;> rfl) | rfl) (by kernel_rfl) (by kernel_rfl) (by kernel_rfl) (by exact fun _ _ _ h => h) (Or.inl ⟨by rfl, ?_⟩) hHeld1 ?_
        rotate_left 1
        · intro w hSw
          try dsimp only at hSw
          (go_simp) <;> (with_reducible rfl)
        try simp only [Act.put, List.setIfInBounds_toArray, List.set_cons_zero, List.set_cons_succ]
        refine wpAnyH_take (i := 6) (v := ?_) (by first | (simp only [List.getElem?_toArray, List.getElem?_cons_succ, List.getElem?_cons_zero] <;> rfl) | rfl) (by kernel_rfl) (by kernel_rfl) (by kernel_rfl) (by exact fun _ _ _ h => h) (Or.inl ⟨by rfl, ?_⟩) hHeld1 ?_
        rotate_left 1
        · intro w hSw
          try dsimp only at hSw
          (go_simp) <;> (with_reducible rfl)
        try simp only [Act.put, List.setIfInBounds_toArray, List.set_cons_zero, List.set_cons_succ]
        refine wpAnyH_take (i := 7) (v := ?_) (by first | (simp only [List.getElem?_toArray, List.getElem?_cons_succ, List.getElem?_cons_zero] <;> rfl) | rfl) (by kernel_rfl) (by kernel_rfl) (by kernel_rfl) (by exact fun _ _ _ h => h) (Or.inl ⟨by rfl, ?_⟩) hHeld1 ?_
        rotate_left 1
        · intro w hSw
          try dsimp only at hSw
          (go_simp) <;> (with_reducible rfl)
        try simp only [Act.put, List.setIfInBounds_toArray, List.set_cons_zero, List.set_cons_succ]
        refine wpAnyH_take (i := 8) (v := ?_) (by first | (simp only [List.getElem?_toArray, List.getElem?_cons_succ, List.getElem?_cons_zero] <;> rfl) | rfl) (by kernel_rfl) (by kernel_rfl) (by kernel_rfl) (by exact fun _ _ _ h => h) (Or.inl ⟨by rfl, ?_⟩) hHeld1 ?_
        rotate_left 1
        · intro w hSw
          try dsimp only at hSw
          (go_simp) <;> (with_reducible rfl)
        try simp only [Act.put, List.setIfInBounds_toArray, List.set_cons_zero, List.set_cons_succ]
        refine wpAnyH_take (i := 9) (v := ?_) (by first | (simp only [List.getElem?_toArray, List.getElem?_cons_succ, List.getElem?_cons_zero] <;> rfl) | rfl) (by kernel_rfl) (by kernel_rfl) (by kernel_rfl) (by exact fun _ _ _ h => h) (Or.inl ⟨by rfl, ?_⟩) hHeld1 ?_
        rotate_left 1
        · intro w hSw
          try dsimp only at hSw
          (go_simp) <;> (with_reducible rfl)
        try simp only [Act.put, List.setIfInBounds_toArray, List.set_cons_zero, List.set_cons_succ]
        refine wpAnyH_take (i := 10) (v := ?_) (by first | (simp only [List.getElem?_toArray, List.getElem?_cons_succ, List.getElem?_cons_zero] <;> rfl) | rfl) (by kernel_rfl) (by kernel_rfl) (by kernel_rfl) (by exact fun _ _ _ h => h) (Or.inl ⟨by rfl, ?_⟩) hHeld1 ?_
        rotate_left 1
        · intro w hSw
          try dsimp only at hSw
          (go_simp) <;> (with_reducible rfl)
        try simp only [Act.put, List.setIfInBounds_toArray, List.set_cons_zero, List.set_cons_succ]
        refine wpAnyH_take (i := 11) (v := ?_) (by first | (simp only [List.getElem?_toArray, List.getElem?_cons_succ, List.getElem?_cons_zero] <;> rfl) | rfl) (by kernel_rfl) (by kernel_rfl) (by kernel_rfl) (by exact fun _ _ _ h => h) (Or.inl ⟨by rfl, ?_⟩) hHeld1 ?_
        rotate_left 1
        · intro w hSw
          try dsimp only at hSw
          (go_simp) <;> (with_reducible rfl)
        try simp only [Act.put, List.setIfInBounds_toArray, List.set_cons_zero, List.set_cons_succ]
        refine wpAnyH_done (by kernel_rfl) ?_ _
        have HQ := Lib.hid (Rec.step1 hHeld1)
        clear hHeld1 Ck HS
        rw [← hud]
        clear hud
        have HI := Lib.hid (show In6 w4 wa w5.heap.size p b o c X n A' 0 0 from ⟨HFx.out.below (HQ.out.mono HFx.out.le), HXx.out.below HQ.out, HBx.out.trans (HQ.out.mono HBx.out.size), Hp.out⟩)
        have Hnp := Lib.hid (show 0 < n from by have := HG.out.pos; have := HX.out.1; omega)
        have HA2 := Lib.hid (fun b' o' (e : A' = some ⟨b', o', none⟩) => show b' ≠ p from by have := HA.out b' o' e Hnp.out; have := Hp.out; omega)
        clear HW HBx HXx HFx Hlx HQ HF HX5 HB5 q0
        go_wp2_with fail
        go_loopw [13, 65] (fun st i wr => ∃ j s : Nat, j ≤ rn ∧ i = .int .i64 j ∧ st = .int .i64 s ∧ s ≤ 5000 * j ∧ Hid (In6 w4 wr w5.heap.size p b o c X n A' j s)) (fun _ i _ => rn - (intOf i).toNat)
        case atStart => exact ⟨0, 0, by omega, rfl, rfl, by omega, HI⟩
        case round =>
          obtain ⟨j, st, hj, rfl, rfl, hst, HM⟩ := hrel
          clear HI
          by_cases hjl : j < rn
          · obtain ⟨bs, hbx⟩ : ∃ bs, rs[j]? = some bs := ⟨_, List.getElem?_eq_getElem (by have := HR.out.1; omega)⟩
            have hbs := HR.out.2.1 bs (List.mem_of_getElem? hbx)
            obtain ⟨bR, oR, hAR, hbl, hcells⟩ := (HR.out.2.2.below (HB4.out.trans (HM.out.bel.mono HB4.out.size))).pos (by omega)
            subst hAR
            obtain ⟨v0, v1, v2, v3, v4, v5, v6, v7, v8, hv⟩ := nine2 bs
            have nn := fun (j' : Nat) (hj : j' < 9) (u : Value) (hu : (Rec.recL bs)[j']? = some u) => nine_at2 hcells hbx Hat.out hj hu
            rw [hv] at nn
            have q0 := nn 0 (by omega) _ rfl
            have q1 := nn 1 (by omega) _ rfl
            have q2 := nn 2 (by omega) _ rfl
            have q3 := nn 3 (by omega) _ rfl
            have q4 := nn 4 (by omega) _ rfl
            have q5 := nn 5 (by omega) _ rfl
            have q6 := nn 6 (by omega) _ rfl
            have q7 := nn 7 (by omega) _ rfl
            have q8 := nn 8 (by omega) _ rfl
            rw [Nat.add_zero] at q0
            obtain ⟨x, hx⟩ : ∃ x, x = (runN (recW bs) X).2 := ⟨_, rfl⟩
            obtain ⟨nn2, hn2⟩ : ∃ n, n = (runN (recW bs) X).1.length := ⟨_, rfl⟩
            have hn65 : nn2 ≤ 4096 := by rw [hn2]; exact Nat.le_trans (run_len _ _) HG.out.many
            have hlg : nn2 ≤ lg X 0 := by rw [hn2]; exact run_lg HG.out
            have R1 := Lib.hid (fun w' r s h h1 h2 => run_any bs X w5.heap.size p b o c r s w' h HG.out HX.out.2 hbs (sm40 (n := r) h1) (sm40 (n := s) h2))
            have Rrn := Lib.hid (fun A1 c1 w' h => refRun_any bs X n A1 c1 w' HX.out.1 HG.out HX.out.2 hbs h)
            have Rf1 := Lib.hid (fun w' => Rec.ref_any bs w' hbs.2)
            unfold RunTo at R1
            unfold RefTo at Rrn
            rw [← hx, ← hn2] at R1 Rrn
            rw [hv] at R1 Rf1
            have hBk := Bk.new (l := [.int .u32 v0, .int .u32 v1, .int .u64 v2, .int .u64 v3, .int .u64 v4, .int .u64 v5, .int .u64 v6, .int .u64 v7, .int .u64 v8]) wr 39 _ rfl
            have hal := one_below wr (.cells [.int .u32 v0, .int .u32 v1, .int .u64 v2, .int .u64 v3, .int .u64 v4, .int .u64 v5, .int .u64 v6, .int .u64 v7, .int .u64 v8].toArray 39)
            have HQ1 := Lib.hid (HM.out.kept hal)
            have hge := HM.out.f.le
            have hge1 := HM.out.f.lp
            have HBk := Lib.hid hBk
            have Hhlg := Lib.hid hlg
            clear nn hcells hbx hbs hx hn2 hal hv HM hBk hlg
            go_wp2_with fail
            refine (R1.out _ _ _ HQ1.out.f (by omega) (by omega)).mono ?_
            rintro e wx ⟨rfl, hf, hg⟩
            have hBk2 := HBk.out.grown hg (fun e => by cases e; omega)
            have HQ2 := Lib.hid (show In6 w4 wx w5.heap.size p b o c X n A' (j + 1) (st + nn2) from
              ⟨hf, rd_other HQ1.out.rd hg HA2.out, only_below HQ1.out.bel hg HQ1.out.bel.size Hp.out, Hp.out⟩)
            obtain ⟨gR, hgR⟩ : ∃ gR, gR = wr.heap.size := ⟨_, rfl⟩
            rw [← hgR] at hBk2
            have HBk2 := Lib.hid hBk2
            have HgR := Lib.hid hgR
            clear hf hg HQ1 HBk q0 q1 q2 q3 q4 q5 q6 q7 q8 hbl hBk2 hgR
            have Rfs := Lib.hid (fun w' hb => refs_any X n A' cp' w' HX.out.1 HX.out.2 (HQ2.out.rd.below hb) hn)
            have HS := Lib.hid (show ∀ w', Below wx.heap.size wx w' → (Instr.loadAt 39 (.pointer (some ⟨gR, 0, none⟩))).run Try.prog w' = .ok (.agg [.int .u32 v0, .int .u32 v1, .int .u64 v2, .int .u64 v3, .int .u64 v4, .int .u64 v5, .int .u64 v6, .int .u64 v7, .int .u64 v8].toArray) w' ∧ Hid (Below wx.heap.size wx w') from fun w' h => ⟨Rec.ld_rec (HBk2.out.kept h) rfl, h⟩)
            go_wp2_with fail
            rw [← HgR.out]
            refine wp_region_held_drew (S := (fun w' => (Instr.loadAt 39 (.pointer (some ⟨gR, 0, none⟩))).run Try.prog w' = .ok (.agg [.int .u32 v0, .int .u32 v1, .int .u64 v2, .int .u64 v3, .int .u64 v4, .int .u64 v5, .int .u64 v6, .int .u64 v7, .int .u64 v8].toArray) w' ∧ Hid (Below wx.heap.size wx w'))) (by kernel_rfl) ?_ (fun hHeld0 => ?_)
            · exact HS.out _ (Below.refl _ _).drew
            refine wpAnyH_take (i := 0) (v := ?_) (by first | (simp only [List.getElem?_toArray, List.getElem?_cons_zero] <;> rfl) | rfl) (by kernel_rfl) (by kernel_rfl) (by kernel_rfl) (by exact fun _ _ _ h => h) (Or.inl ⟨by rfl, ?_⟩) hHeld0 ?_
            rotate_left 1
            · intro w hSw
              try dsimp only at hSw
              (go_simp) <;> (with_reducible rfl)
            try simp only [Act.put, List.setIfInBounds_toArray, List.set_cons_zero, List.set_cons_succ]
            refine wpAnyH_take (i := 2) (v := ?_) (by first | (simp only [List.getElem?_toArray, List.getElem?_cons_succ, List.getElem?_cons_zero] <;> rfl) | rfl) (by kernel_rfl) (by kernel_rfl) (by kernel_rfl) (by exact fun _ _ _ h => h) (Or.inl ⟨by rfl, ?_⟩) hHeld0 ?_
            rotate_left 1
            · intro w hSw
              refine Eq.trans (Rec.exec_load rfl rfl (hSw.1)) ?_
              with_reducible rfl
            try simp only [Act.put, List.setIfInBounds_toArray, List.set_cons_zero, List.set_cons_succ]
            refine wpAnyH_ready (rs := [1]) (by kernel_rfl) (by simp) ?_
            refine AllReadyH.cons (by first | (simp only [List.getElem?_toArray, List.getElem?_cons_succ, List.getElem?_cons_zero] <;> rfl) | rfl) (fun K hK => ?_) AllReadyH.nil
            go_simp
            refine (Rfs.out _ (Rec.step1 hHeld0)).mono ?_; rintro e wa ⟨A1, c1, rfl, hr1, hba⟩
            go_wp2_with fail
            refine hK.out _ _ ?_ (fun hHeld1 => ?_)
            · (try dsimp only)
              exact HS.out _ (Rec.step2 hba hHeld0)
            clear hK K hHeld0
            try simp only [Act.put, List.setIfInBounds_toArray, List.set_cons_zero, List.set_cons_succ]
            refine wpAnyH_ready (rs := [3]) (by kernel_rfl) (by simp) ?_
            refine AllReadyH.cons (by first | (simp only [List.getElem?_toArray, List.getElem?_cons_succ, List.getElem?_cons_zero] <;> rfl) | rfl) (fun K hK => ?_) AllReadyH.nil
            go_simp
            refine (Rf1.out _).mono ?_; rintro e wb ⟨rfl, hbb⟩
            go_wp2_with fail
            refine hK.out _ _ ?_ (fun hHeld2 => ?_)
            · (try dsimp only)
              exact HS.out _ (Rec.step2 hbb hHeld1)
            clear hK K hHeld1
            try simp only [Act.put, List.setIfInBounds_toArray, List.set_cons_zero, List.set_cons_succ]
            refine wpAnyH_ready (rs := [4]) (by kernel_rfl) (by simp) ?_
            refine AllReadyH.cons (by first | (simp only [List.getElem?_toArray, List.getElem?_cons_succ, List.getElem?_cons_zero] <;> rfl) | rfl) (fun K hK => ?_) AllReadyH.nil
            go_simp
            refine (Rrn.out _ _ _ (hr1.below hbb)).mono ?_; rintro e wc ⟨rfl, hbc⟩
            go_wp2_with fail
            refine hK.out _ _ ?_ (fun hHeld3 => ?_)
            · (try dsimp only)
              exact HS.out _ (Rec.step2 hbc hHeld2)
            clear hK K hHeld2
            try simp only [Act.put, List.setIfInBounds_toArray, List.set_cons_zero, List.set_cons_succ]
            refine wpAnyH_take (i := 5) (v := ?_) (by first | (simp only [List.getElem?_toArray, List.getElem?_cons_succ, List.getElem?_cons_zero] <;> rfl) | rfl) (by kernel_rfl) (by kernel_rfl) (by kernel_rfl) (by exact fun _ _ _ h => h) (Or.inl ⟨by rfl, ?_⟩) hHeld3 ?_
            rotate_left 1
            · intro w hSw
              try dsimp only at hSw
              (go_simp) <;> (with_reducible rfl)
            try simp only [Act.put, List.setIfInBounds_toArray, List.set_cons_zero, List.set_cons_succ]
            refine wpAnyH_take (i := 6) (v := ?_) (by first | (simp only [List.getElem?_toArray, List.getElem?_cons_succ, List.getElem?_cons_zero] <;> rfl) | rfl) (by kernel_rfl) (by kernel_rfl) (by kernel_rfl) (by exact fun _ _ _ h => h) (Or.inl ⟨by rfl, ?_⟩) hHeld3 ?_
            rotate_left 1
            · intro w hSw
              try dsimp only at hSw
              (go_simp) <;> (with_reducible rfl)
            try simp only [Act.put, List.setIfInBounds_toArray, List.set_cons_zero, List.set_cons_succ]
            refine wpAnyH_take (i := 7) (v := ?_) (by first | (simp only [List.getElem?_toArray, List.getElem?_cons_succ, List.getElem?_cons_zero] <;> rfl) | rfl) (by kernel_rfl) (by kernel_rfl) (by kernel_rfl) (by exact fun _ _ _ h => h) (Or.inl ⟨by rfl, ?_⟩) hHeld3 ?_
            rotate_left 1
            · intro w hSw
              try dsimp only at hSw
              (go_simp) <;> (with_reducible rfl)
            try simp only [Act.put, List.setIfInBounds_toArray, List.set_cons_zero, List.set_cons_succ]
            refine wpAnyH_take (i := 8) (v := ?_) (by first | (simp only [List.getElem?_toArray, List.getElem?_cons_succ, List.getElem?_cons_zero] <;> rfl) | rfl) (by kernel_rfl) (by kernel_rfl) (by kernel_rfl) (by exact fun _ _ _ h => h) (Or.inl ⟨by rfl, ?_⟩) hHeld3 ?_
            rotate_left 1
            · intro w hSw
              try dsimp only at hSw
              (go_simp) <;> (with_reducible rfl)
            try simp only [Act.put, List.setIfInBounds_toArray, List.set_cons_zero, List.set_cons_succ]
            refine wpAnyH_take (i := 9) (v := ?_) (by first | (simp only [List.getElem?_toArray, List.getElem?_cons_succ, List.getElem?_cons_zero] <;> rfl) | rfl) (by kernel_rfl) (by kernel_rfl) (by kernel_rfl) (by exact fun _ _ _ h => h) (Or.inl ⟨by rfl, ?_⟩) hHeld3 ?_
            rotate_left 1
            · intro w hSw
              try dsimp only at hSw
              (go_simp) <;> (with_reducible rfl)
            try simp only [Act.put, List.setIfInBounds_toArray, List.set_cons_zero, List.set_cons_succ]
            refine wpAnyH_done (by kernel_rfl) ?_ _
            have HQ3 := Lib.hid (Rec.step1 hHeld3)
            have HI3 := Lib.hid (HQ2.out.kept HQ3.out)
            have Lg := Lib.hid (longest_any X n A' cp' wc HX.out.1 HX.out.2 HI3.out.rd hnm)
            clear hHeld3 HQ2 HBk2 HS Rfs Rrn Rf1 R1 HQ3
            have hd : ¬ lg X 0 < nn2 := by have := Hhlg.out; omega
            go_wp2_with fail
            refine Lg.out.mono ?_
            rintro e wd ⟨nl, rfl, hbd, hlg1, _⟩
            obtain rfl : nl = lg X 0 := hlg1 HG.out
            have HI4 := Lib.hid (HI3.out.kept hbd)
            obtain ⟨gl, hgl⟩ : ∃ gl, gl = lg X 0 := ⟨_, rfl⟩
            rw [← hgl] at hd ⊢
            clear hbd hlg1 HI3 hgl
            go_wp2_with fail
            go_roundw
            case rel => exact ⟨j + 1, st + nn2, by omega, by go_num, by go_num, by omega, HI4⟩
            case measure => simp [intOf]; omega
          · obtain rfl : j = rn := by omega
            have Ct := Lib.hid (counts_any wr _ _ _ _ _ _ _ _ HM.out.f)
            have Ln := Lib.hid (len_any wr _ _ _ _ _ _ _ _ HM.out.f)
            have In := Lib.hid (insns_any wr _ _ _ _ _ _ _ _ HM.out.f (by have := HX.out.1; omega))
            have HXl := Lib.hid HX.out.1
            rw [HX.out.1] at Ln
            unfold ClonePost at In
            rw [HX.out.1] at In
            go_wp2_with fail
            refine Ct.out.mono ?_
            rintro e w6 ⟨rfl, rfl⟩
            go_wp2_with (go_at_call 20; refine Ln.out.mono ?_; rintro e w' ⟨rfl, rfl⟩)
            refine In.out.mono ?_
            rintro e w7 ⟨A7, c7, rfl, hs7, hb7⟩
            have HB7 := Lib.hid (HM.out.bel.trans (hb7.mono HM.out.bel.size))
            clear hs7 hb7
            go_wp2_with fail
            go_roundw
            case rel => exact ⟨k + 1, by omega, by go_num, HB7⟩
            case measure => simp [intOf]; omega
      · have e1 : ((er : Int) == 0) = false := by simp; omega
        have e2 : ((er : Int) != 0) = true := by simp; omega
        clear hck hb5 hng her HXr
        go_wp2_with fail
        have HW := Lib.hid ((Bk.new (l := [.int .i64 a, .int .i64 er]) w5 31 _ rfl))
        have HBx := Lib.hid (HB5.out.alloc HB5.out.size (.cells #[.int .i64 a, .int .i64 er] 31))
        have HXx := Lib.hid (HX5.out.below (one_below w5 (.cells #[.int .i64 a, .int .i64 er] 31)))
        have Hlx := Lib.hid (show w5.heap.size < (w5.alloc (.cells #[.int .i64 a, .int .i64 er] 31)).heap.size by simp)
        revert HW HBx HXx Hlx
        generalize w5.alloc (.cells #[.int .i64 a, .int .i64 er] 31) = wx
        intro HW HBx HXx Hlx
        have Ck := Lib.hid (fun w' hb => check_any X n A' cp' w' HX.out.1 HX.out.2 (HXx.out.below hb) hnm)
        have HS := Lib.hid (show ∀ w', Below wx.heap.size wx w' → (w'.cell? ⟨w5.heap.size, 0, none⟩ = some (.int .i64 a) ∧ w'.cell? ⟨w5.heap.size, 1, none⟩ = some (.int .i64 er)) ∧ Hid (Below wx.heap.size wx w') from fun w' h => ⟨⟨(HW.out.kept h).cell 0 rfl, (HW.out.kept h).cell 1 rfl⟩, h⟩)
        have hud : undef = Value.tuple #[] := rfl
        refine wp_region_held_drew (S := (fun w' => (w'.cell? ⟨w5.heap.size, 0, none⟩ = some (.int .i64 a) ∧ w'.cell? ⟨w5.heap.size, 1, none⟩ = some (.int .i64 er)) ∧ Hid (Below wx.heap.size wx w'))) (by kernel_rfl) ?_ (fun hHeld0 => ?_)
        · exact HS.out _ (Below.refl _ _).drew
        refine wpAnyH_take (i := 0) (v := ?_) (by first | (simp only [List.getElem?_toArray, List.getElem?_cons_zero] <;> rfl) | rfl) (by kernel_rfl) (by kernel_rfl) (by kernel_rfl) (by exact fun _ _ _ h => h) (Or.inl ⟨by rfl, ?_⟩) hHeld0 ?_
        rotate_left 1
        · intro w hSw
          try dsimp only at hSw
          (go_simp) <;> (with_reducible rfl)
        try simp only [Act.put, List.setIfInBounds_toArray, List.set_cons_zero, List.set_cons_succ]
        refine wpAnyH_take (i := 1) (v := ?_) (by first | (simp only [List.getElem?_toArray, List.getElem?_cons_succ, List.getElem?_cons_zero] <;> rfl) | rfl) (by kernel_rfl) (by kernel_rfl) (by kernel_rfl) (by exact fun _ _ _ h => h) (Or.inl ⟨by rfl, ?_⟩) hHeld0 ?_
        rotate_left 1
        · intro w hSw
          try dsimp only at hSw
          (go_simp) <;> (with_reducible rfl)
        try simp only [Act.put, List.setIfInBounds_toArray, List.set_cons_zero, List.set_cons_succ]
        refine wpAnyH_ready (rs := [2]) (by kernel_rfl) (by simp) ?_
        refine AllReadyH.cons (by first | (simp only [List.getElem?_toArray, List.getElem?_cons_succ, List.getElem?_cons_zero] <;> rfl) | rfl) (fun K hK => ?_) AllReadyH.nil
        go_simp
        refine (Ck.out _ (Rec.step1 hHeld0)).mono ?_; rintro e wa ⟨a2, er2, rfl, hc2, hba⟩; obtain ⟨rfl, rfl⟩ := Chk.one HCk.out hc2; clear hc2
        go_wp2_with fail
        refine hK.out _ _ ?_ (fun hHeld1 => ?_)
        · (try dsimp only)
          exact HS.out _ (Rec.step2 hba hHeld0)
        clear hK K hHeld0
        try simp only [Act.put, List.setIfInBounds_toArray, List.set_cons_zero, List.set_cons_succ]
        refine wpAnyH_take (i := 3) (v := ?_) (by first | (simp only [List.getElem?_toArray, List.getElem?_cons_succ, List.getElem?_cons_zero] <;> rfl) | rfl) (by kernel_rfl) (by kernel_rfl) (by kernel_rfl) (by exact fun _ _ _ h => h) (Or.inl ⟨by rfl, ?_⟩) hHeld1 ?_
        rotate_left 1
        · intro w hSw
          try dsimp only at hSw
          (go_simp) <;> (with_reducible rfl)
        try simp only [Act.put, List.setIfInBounds_toArray, List.set_cons_zero, List.set_cons_succ]
        refine wpAnyH_take (i := 4) (v := ?_) (by first | (simp only [List.getElem?_toArray, List.getElem?_cons_succ, List.getElem?_cons_zero] <;> rfl) | rfl) (by kernel_rfl) (by kernel_rfl) (by kernel_rfl) (by exact fun _ _ _ h => h) (Or.inl ⟨by rfl, ?_⟩) hHeld1 ?_
        rotate_left 1
        · intro w hSw
          try dsimp only at hSw
          (go_simp) <;> (with_reducible rfl)
        try simp only [Act.put, List.setIfInBounds_toArray, List.set_cons_zero, List.set_cons_succ]
        refine wpAnyH_take (i := 5) (v := ?_) (by first | (simp only [List.getElem?_toArray, List.getElem?_cons_succ, List.getElem?_cons_zero] <;> rfl) | rfl) (by kernel_rfl) (by kernel_rfl) (by kernel_rfl) (by exact fun _ _ _ h => h) (Or.inl ⟨by rfl, ?_⟩) hHeld1 ?_
        rotate_left 1
        · intro w hSw
          try dsimp only at hSw
          (go_simp) <;> (with_reducible rfl)
        try simp only [Act.put, List.setIfInBounds_toArray, List.set_cons_zero, List.set_cons_succ]
        refine wpAnyH_take (i := 6) (v := ?_) (by first | (simp only [List.getElem?_toArray, List.getElem?_cons_succ, List.getElem?_cons_zero] <;> rfl) | rfl) (by kernel_rfl) (by kernel_rfl) (by kernel_rfl) (by exact fun _ _ _ h => h) (Or.inl ⟨by rfl, ?_⟩) hHeld1 ?_
        rotate_left 1
        · intro w hSw
          try dsimp only at hSw
          (go_simp) <;> (with_reducible rfl)
        try simp only [Act.put, List.setIfInBounds_toArray, List.set_cons_zero, List.set_cons_succ]
        refine wpAnyH_take (i := 7) (v := ?_) (by first | (simp only [List.getElem?_toArray, List.getElem?_cons_succ, List.getElem?_cons_zero] <;> rfl) | rfl) (by kernel_rfl) (by kernel_rfl) (by kernel_rfl) (by exact fun _ _ _ h => h) (Or.inl ⟨by rfl, ?_⟩) hHeld1 ?_
        rotate_left 1
        · intro w hSw
          try dsimp only at hSw
          (go_simp) <;> (with_reducible rfl)
        try simp only [Act.put, List.setIfInBounds_toArray, List.set_cons_zero, List.set_cons_succ]
        refine wpAnyH_take (i := 8) (v := ?_) (by first | (simp only [List.getElem?_toArray, List.getElem?_cons_succ, List.getElem?_cons_zero] <;> rfl) | rfl) (by kernel_rfl) (by kernel_rfl) (by kernel_rfl) (by exact fun _ _ _ h => h) (Or.inl ⟨by rfl, ?_⟩) hHeld1 ?_
        rotate_left 1
        · intro w hSw
          try dsimp only at hSw
          (go_simp) <;> (with_reducible rfl)
        try simp only [Act.put, List.setIfInBounds_toArray, List.set_cons_zero, List.set_cons_succ]
        refine wpAnyH_take (i := 9) (v := ?_) (by first | (simp only [List.getElem?_toArray, List.getElem?_cons_succ, List.getElem?_cons_zero] <;> rfl) | rfl) (by kernel_rfl) (by kernel_rfl) (by kernel_rfl) (by exact fun _ _ _ h => h) (Or.inl ⟨by rfl, ?_⟩) hHeld1 ?_
        rotate_left 1
        · intro w hSw
          try dsimp only at hSw
          (go_simp) <;> (with_reducible rfl)
        try simp only [Act.put, List.setIfInBounds_toArray, List.set_cons_zero, List.set_cons_succ]
        refine wpAnyH_take (i := 10) (v := ?_) (by first | (simp only [List.getElem?_toArray, List.getElem?_cons_succ, List.getElem?_cons_zero] <;> rfl) | rfl) (by kernel_rfl) (by kernel_rfl) (by kernel_rfl) (by exact fun _ _ _ h => h) (Or.inl ⟨by rfl, ?_⟩) hHeld1 ?_
        rotate_left 1
        · intro w hSw
          try dsimp only at hSw
          (go_simp) <;> (with_reducible rfl)
        try simp only [Act.put, List.setIfInBounds_toArray, List.set_cons_zero, List.set_cons_succ]
        refine wpAnyH_take (i := 11) (v := ?_) (by first | (simp only [List.getElem?_toArray, List.getElem?_cons_succ, List.getElem?_cons_zero] <;> rfl) | rfl) (by kernel_rfl) (by kernel_rfl) (by kernel_rfl) (by exact fun _ _ _ h => h) (Or.inl ⟨by rfl, ?_⟩) hHeld1 ?_
        rotate_left 1
        · intro w hSw
          try dsimp only at hSw
          (go_simp) <;> (with_reducible rfl)
        try simp only [Act.put, List.setIfInBounds_toArray, List.set_cons_zero, List.set_cons_succ]
        refine wpAnyH_done (by kernel_rfl) ?_ _
        have HQ := Lib.hid (Rec.step1 hHeld1)
        have HBq := Lib.hid (HBx.out.trans (HQ.out.mono HBx.out.size))
        rw [← hud]
        clear hHeld1 Ck HS HW HBx HXx Hlx HQ q0 hud
        go_wp2_with fail
        go_roundw
        case rel => exact ⟨k + 1, by omega, by go_num, HBq⟩
        case measure => simp [intOf]; omega
    · go_wp2_with fail
      go_ret
      exact ⟨rfl, HB4.out.trans (Hb.out.mono HB4.out.size)⟩
theorem walk_vmRuns6 (lA : Option Addr) (ln lc : Nat) (sA : Option Addr) (sn sc : Nat) (ends : Int) (rA : Option Addr) (rn rc : Nat) (w : World)
    (h : ∃ l : List Ins, l.length = ln ∧ (∀ i ∈ l, i.ok) ∧ Rd w 4 ln lA (l.flatMap Ins.cells)) (h0 : ∃ l : List Sml, l.length = sn ∧ (∀ i ∈ l, i.ok) ∧ Rd w 9 sn sA (l.flatMap Sml.cells) ∧ sn ≤ maxLen) (h1 : (Lit.int .u8 ends).wf = true)
    (h2 : ∃ l : List (List Nat), l.length = rn ∧ (∀ b ∈ l, Rec.IsRec b) ∧ Rd w 9 rn rA (l.flatMap Rec.recL) ∧ rn ≤ maxLen) (hat : ∀ (l : List (List Nat)) (k j : Nat), j < 9 → (l.flatMap Rec.recL)[k * 9 + j]? = (l[k]?).bind (fun x => (Rec.recL x)[j]?)) :
    Calls Try.prog 3 #[.slice lA ln lc, .slice sA sn sc, .int .u8 ends, .slice rA rn rc] w (Yes w) := by
  obtain ⟨l, g1, g2, g3⟩ := h
  obtain ⟨S, hl, hok, hr, hm⟩ := h0
  obtain ⟨rs, hl2, hok2, hr2, _⟩ := h2
  obtain ⟨l1, u1⟩ := bounds_u8 h1
  obtain ⟨n1, rfl⟩ := Int.eq_ofNat_of_zero_le l1
  exact walk_runs6 l S rs ln sn rn lA sA rA lc sc rc n1 w g1 g2 g3 hl hok hr hm (by omega) hl2 hok2 hr2 hat
end Go.Proofs.Ytnkffjdoillmaaa
