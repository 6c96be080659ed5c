/- VmStrips: any filter: stripped, or with more behind it, it says the same in as many steps. -/
import Derived.Test.YtnkffjdoillmaaaAwake6
import Derived.Test.YtnkffjdoillmaaaVmS
import Derived.Test.YtnkffjdoillmaaaPool
import Derived.Test.YtnkffjdoillmaaaStrip
import Derived.Test.YtnkffjdoillmaaaScratch
import Derived.OpenShut
namespace Go.Proofs.Ytnkffjdoillmaaa
open Go.RowKit
theorem snoc_ok {l : List Ins} {k : Nat} (h : ∀ i ∈ l, i.ok) (hk : k < 4294967296) : ∀ i ∈ l ++ [ret k], i.ok := by
  intro i hi
  rcases List.mem_append.1 hi with h1 | h1
  · exact h i h1
  · simp at h1; subst h1; exact ⟨by show 6 < 65536; omega, by show 0 < 256; omega, by show 0 < 256; omega, hk⟩
/-- The nine cells of a record, as numbers. -/
theorem nine (bs : List Nat) : ∃ v0 v1 v2 v3 v4 v5 v6 v7 v8 : Int, Rec.recL bs = [.int .u32 v0, .int .u32 v1, .int .u64 v2, .int .u64 v3, .int .u64 v4, .int .u64 v5, .int .u64 v6, .int .u64 v7, .int .u64 v8] := ⟨_, _, _, _, _, _, _, _, _, rfl⟩
theorem nine_at {w : World} {rs : List (List Nat)} {b o k : Nat} {bs : List Nat} (h : ∀ j u, (rs.flatMap Rec.recL)[j]? = some u → w.cell? ⟨b, o + j, none⟩ = some u) (hx : rs[k]? = some bs) (hat : ∀ (l : List (List Nat)) (k j : Nat), j < 9 → (l.flatMap Rec.recL)[k * 9 + j]? = (l[k]?).bind (fun x => (Rec.recL x)[j]?)) {j : Nat} (hj : j < 9) {u : Value} (hu : (Rec.recL bs)[j]? = some u) : w.cell? ⟨b, o + k * 9 + j, none⟩ = some u := by
  rw [Nat.add_assoc]; exact h _ _ (by rw [hat rs k j hj, hx]; exact hu)
/-- Three filters, each by itself. -/
structure Three (w wr : World) (B p1 b1 o1 c1 p2 b2 o2 c2 p3 b3 o3 c3 : Nat) (l1 l2 l3 : List Ins) (r s1 s2 s3 : Nat) : Prop where
  f1 : Fil wr B p1 b1 o1 c1 l1 r s1
  f2 : Fil wr B p2 b2 o2 c2 l2 r s2
  f3 : Fil wr B p3 b3 o3 c3 l3 r s3
  bel : Below w.heap.size w wr
theorem run_len' {W : Nat → Nat} {l : List Ins} (h : l.length ≤ 4096) : (runN W l).1.length ≤ 4096 := Nat.le_trans (run_len W l) h
set_option maxRecDepth 100000 in
set_option maxHeartbeats 8000000 in
theorem walk_strips6 (S : List Sml) (rs : List (List Nat)) (sn rn : Nat) (sA rA : Option Addr) (sc rc more : Nat) (w : World) (hS : S.length = sn) (hSok : ∀ i ∈ S, i.ok) (hSr : Rd w 9 sn sA (S.flatMap Sml.cells)) (hm : sn ≤ maxLen)
    (hR : rs.length = rn) (hRok : ∀ b ∈ rs, Rec.IsRec b) (hRr : Rd w 9 rn rA (rs.flatMap Rec.recL)) (hat : ∀ (l : List (List Nat)) (k j : Nat), j < 9 → (l.flatMap Rec.recL)[k * 9 + j]? = (l[k]?).bind (fun x => (Rec.recL x)[j]?)) (hk : more < 4294967296) :
    Calls Try.prog 7 #[.slice sA sn sc, .int .u32 more, .slice rA rn rc] w (Yes w) := by
  obtain ⟨i0, hi, hz0, hz1, hz2⟩ := info_parts infoIns
  have PR := Lib.hid (fun w' (hb : Below w.heap.size w w') => program_any S sn sA sc 5 w' hS hSok (hSr.below hb) hm (by omega))
  have HR := Lib.hid (And.intro hR (And.intro hRok hRr))
  have Hat := Lib.hid hat
  have Hk := Lib.hid hk
  clear hS hSok hSr hR hRok hRr hat hk hm
  go_enter Try.func7, Try.ntmps7
  go_wp2_with fail
  refine (awake6 _).mono ?_
  rintro e w1 ⟨rfl, hb1⟩
  have HB1 := Lib.hid hb1
  clear hb1
  by_cases h20 : 20 < rn
  · have e1 : decide ((20 : Int) < rn) = true := by simp; omega
    go_wp2_with fail
    go_ret
    exact ⟨rfl, HB1.out⟩
  have e1 : decide ((20 : Int) < rn) = false := by simp; omega
  go_wp2_with fail
  refine (PR.out _ HB1.out).mono ?_
  rintro e w2 ⟨L, A, cp, rfl, hcp, hseg, hLok, hL65, _, hb2⟩
  have HB2 := Lib.hid (HB1.out.trans (hb2.mono HB1.out.size))
  obtain ⟨N, hN⟩ : ∃ N, N = L.length := ⟨_, rfl⟩
  rw [← hN] at hseg hL65 hcp ⊢
  have HL2 := Lib.hid hseg.rd
  have HN := Lib.hid hN.symm
  have Hok := Lib.hid hLok
  have hm64 : N ≤ maxLen := by unfold maxLen; omega
  clear hb2 hseg hLok hN PR HB1 hcp e1
  go_wp2_with fail
  refine (load_any L N A cp _ HN.out Hok.out HL2.out hm64).mono ?_
  rintro e w3 ⟨a3, er3, _, hb3, ⟨g, rfl, rfl, p1, b1, o1, c1, hp1, hb1, rfl, hF1⟩ | ⟨_, her, rfl⟩⟩
  · have G := Lib.hid g
    have HF1 := Lib.hid hF1
    have HB3 := Lib.hid (HB2.out.trans (hb3.mono HB2.out.size))
    have HL3 := Lib.hid (HL2.out.below hb3)
    have HX1 := Lib.hid (show w.heap.size ≤ p1 ∧ p1 < w3.heap.size ∧ b1 < w3.heap.size ∧ b1 ≠ p1 from ⟨Nat.le_trans HB2.out.size hp1, hF1.lp, hF1.lb, hF1.ne⟩)
    clear g hF1 hb3 hp1 hb1 HL2 HB2
    have Hw4 := Lib.hid (one_below w3 (.cells #[.int .i64 0, .int .i64 0] 31))
    go_wp2_with fail
    refine (strip_any L N A cp _ HN.out Hok.out (HL3.out.below Hw4.out) (by omega)).mono ?_
    rintro e w5 ⟨hb5, y, A5, cp5, rfl, hs5, hy5, hyg, _⟩
    obtain rfl : y = stripL L := hyg G.out
    have HB5 := Lib.hid ((HB3.out.trans (Hw4.out.mono HB3.out.size)).trans (hb5.mono (Nat.le_trans HB3.out.size Hw4.out.size)))
    have hb35 := Hw4.out.trans (hb5.mono Hw4.out.size)
    have HL5 := Lib.hid (HL3.out.below hb35)
    have HF5 := Lib.hid (HF1.out.below hb35)
    have HS5 := Lib.hid hs5.rd
    have Hy5 := Lib.hid hy5
    have Hn5 := Lib.hid (show (stripL L).length ≤ 65 by rw [len_strip G.out]; have := cnt_le (R := rb L) L.length; have := HN.out; omega)
    have H35 := Lib.hid (Nat.le_trans Hw4.out.size hb5.size)
    obtain ⟨M, hM⟩ : ∃ M, M = (stripL L).length := ⟨_, rfl⟩
    rw [← hM] at HS5 Hn5 ⊢
    have HM := Lib.hid hM.symm
    clear hb5 hs5 hy5 hyg hb35 hM HL3 HB3 Hw4 HF1
    go_wp2_with fail
    refine (load_any (stripL L) M A5 cp5 _ HM.out Hy5.out HS5.out (by have := Hn5.out; unfold maxLen; omega)).mono ?_
    rintro e w6 ⟨a6, er6, _, hb6, ⟨_, rfl, rfl, p2, b2, o2, c2, hp2, hb2, rfl, hF2⟩ | ⟨hbad, _⟩⟩
    · have HB6 := Lib.hid (HB5.out.trans (hb6.mono HB5.out.size))
      have HL6 := Lib.hid (HL5.out.below hb6)
      have HF6 := Lib.hid (HF5.out.below (hb6.mono HF5.out.le))
      have HG6 := Lib.hid hF2
      have HX2 := Lib.hid (show w3.heap.size ≤ p2 ∧ w3.heap.size ≤ b2 ∧ p2 < w6.heap.size ∧ b2 < w6.heap.size ∧ b2 ≠ p2 from ⟨Nat.le_trans H35.out (by simpa using hp2), Nat.le_trans H35.out (by simpa using hb2), hF2.lp, hF2.lb, hF2.ne⟩)
      have H36 := Lib.hid (Nat.le_trans H35.out hb6.size)
      have Hy := Lib.hid Hy5.out
      clear hb6 hF2 hp2 hb2 HL5 HF5 HS5 Hy5 HB5 H35
      obtain ⟨b, o, rfl, hbl, hcells⟩ := HL6.out.pos (by have := G.out.pos; have := HN.out; omega)
      have es : (w6.alloc (.cells #[.int .i64 0, .int .i64 0] 31)).heap.size = w6.heap.size + 1 := by simp
      have own0 := World.ownsRow_lit (base := w6.heap.size + 1) (e := 60) (size := 4) (w6.alloc (.cells #[.int .i64 0, .int .i64 0] 31)) #[] 0 (by simp) (by unfold maxLen; omega) rfl
      rw [es] at own0
      have Hown := Lib.hid own0
      have hA := one_below (w6.alloc (.cells #[.int .i64 0, .int .i64 0] 31)) (.cells #[] 60)
      rw [es] at hA
      have Hw7 := Lib.hid hA
      have hA2 := two_below w6 (.cells #[.int .i64 0, .int .i64 0] 31) (.cells #[] 60)
      have Hc3 := Lib.hid (show ∀ j u, (L.flatMap Ins.cells)[j]? = some u → ((w6.alloc (.cells #[.int .i64 0, .int .i64 0] 31)).alloc (.cells #[] 60)).cell? ((⟨b, o, none⟩ : Addr).add j) = some u from fun j u hu => by
        rw [add_at', ← hcells j u hu]
        exact hA2.cell (p := ⟨b, o + j, none⟩) hbl)
      have Hlen := Lib.hid (show (L.flatMap Ins.cells).length = N * 4 by rw [flat_len, HN.out])
      have Hone := Lib.hid (flat_one L)
      have hsz : w6.heap.size + 1 ≤ ((w6.alloc (.cells #[.int .i64 0, .int .i64 0] 31)).alloc (.cells #[] 60)).heap.size := by simp
      clear hcells own0 hA hA2
      go_wp2_with (at_builtin; refine wpList_append_own _ rfl (.tmp 44) (.tmp 45) 22 rfl (w6.heap.size + 1) 60 i0 _ 4 8 Try.underlying22 hi hz0 hz1 hz2 rfl (by decide) _ 0 [] rfl Hown.out ⟨b, o, none⟩ N cp (L.flatMap Ins.cells) rfl Hlen.out Hc3.out Hone.out (by unfold maxLen; omega) (by omega) hsz ?_; intro v4 w8 hown4 hg4 _)
      have hb4 : Below (w6.heap.size + 1) (w6.alloc (.cells #[.int .i64 0, .int .i64 0] 31)) w8 := Hw7.out.grown hg4 hsz (fun k hk => by cases hk; exact Nat.le_refl _)
      have hz8 : w6.heap.size + 1 ≤ w8.heap.size := by have := hb4.size; rwa [es] at this
      have Hown4 := Lib.hid (show w8.ownsRow (w6.heap.size + 1) 60 4 v4 N (L.flatMap Ins.cells) from by simpa using hown4)
      have Hb4 := Lib.hid hb4
      clear hown4 hg4 hb4 Hown Hc3
      refine (return_of _ _).mono ?_
      rintro e w9 ⟨rfl, hb9⟩
      have Hown5 := Lib.hid (own_below Hown4.out hb9)
      have Hb5 := Lib.hid (Hb4.out.trans (hb9.mono hz8))
      have hz9 : w6.heap.size + 1 ≤ w9.heap.size := Nat.le_trans hz8 hb9.size
      have Hnews := Lib.hid (four_new w9 60 6 0 0 more)
      have Hs5 := Lib.hid (show w6.heap.size + 1 ≤ (w9.alloc (.cells #[.int .u16 (6 : Nat), .int .u8 (0 : Nat), .int .u8 (0 : Nat), .int .u32 more] 60)).heap.size by simp; omega)
      clear hb9 Hown4 Hb4
      go_wp2_with (at_builtin; refine wpList_append_own _ rfl (.tmp 46) (.tmp 49) 22 rfl (w6.heap.size + 1) 60 i0 _ 4 8 Try.underlying22 hi hz0 hz1 hz2 rfl (by decide) _ N (L.flatMap Ins.cells) rfl (Hown5.out.alloc _) ⟨w9.heap.size, 0, none⟩ 1 1 (Ins.cells ⟨6, 0, 0, more⟩) rfl rfl Hnews.out (cells_one _) (by unfold maxLen; omega) (by omega) Hs5.out ?_; intro v6 w10 hown6 hg6 _; obtain ⟨Am, cm, rfl, _, hs6⟩ := own_seg hown6)
      have hb10 : Below (w6.heap.size + 1) (w6.alloc (.cells #[.int .i64 0, .int .i64 0] 31)) w10 := (Hb5.out.alloc hz9 _).grown hg6 Hs5.out (fun k hk => (Hown5.out.lt k hk).1)
      have HM6 := Lib.hid (show Rd w10 4 (N + 1) Am ((L ++ [ret more]).flatMap Ins.cells) from by rw [List.flatMap_append]; simpa [ret] using hs6.rd)
      have HB10 := Lib.hid hb10
      have HW10 := Lib.hid ((Bk.new (l := [.int .i64 0, .int .i64 0]) w6 31 _ rfl).below hb10 (Nat.lt_succ_self _))
      have HZ10 := Lib.hid (show w6.heap.size + 1 ≤ w10.heap.size by have := hb10.size; rwa [es] at this)
      have HC10 := Lib.hid ((one_below w6 (.cells #[.int .i64 0, .int .i64 0] 31)).trans (hb10.mono (Nat.le_succ _)))
      clear hown6 hg6 hs6 hb10 Hown5 Hb5 Hnews Hs5 hbl Hw7 hz8 hz9 hsz es
      have hlen : (L ++ [ret more]).length = N + 1 := by rw [List.length_append, HN.out]; rfl
      refine (load_any (L ++ [ret more]) (N + 1) Am cm _ hlen (snoc_ok Hok.out Hk.out) HM6.out (by unfold maxLen; omega)).mono ?_
      rintro e w11 ⟨a11, er11, _, hb11, ⟨_, rfl, rfl, p3, b3, o3, c3, hp3, hb3', rfl, hF3⟩ | ⟨hbad, _⟩⟩
      · have HW11 := Lib.hid (HW10.out.kept hb11)
        have d0 := HW11.out.cell 0 rfl
        have d1 := HW11.out.cell 1 rfl
        have hlt6 := HW11.out.lt
        have HT := Lib.hid (show Three w (w11.alloc (.cells #[.int .i64 0, .int .i64 0] 31)) w11.heap.size p1 b1 o1 c1 p2 b2 o2 c2 p3 b3 o3 c3 L (stripL L) (L ++ [ret more]) 0 0 0 0 from by
          have h610 := HC10.out
          have h611 := h610.trans (hb11.mono h610.size)
          have hz : w11.heap.size ≤ (w11.alloc (.cells #[.int .i64 0, .int .i64 0] 31)).heap.size := by simp
          have hal := one_below w11 (.cells #[.int .i64 0, .int .i64 0] 31)
          refine ⟨?_, ?_, hF3.below hal, ?_⟩
          · exact (((HF6.out.below (h611.mono HF6.out.le)).more (Nat.le_trans (HF6.out.le) h611.size) (Nat.le_refl _)).below hal)
          · exact ((HG6.out.below h611).more h611.size (Nat.le_refl _)).below hal
          · exact ((HB6.out.trans (h611.mono HB6.out.size)).alloc (Nat.le_trans HB6.out.size h611.size) _))
        have HX3 := Lib.hid (show w6.heap.size ≤ p3 ∧ w6.heap.size ≤ b3 ∧ b3 ≠ p3 from ⟨by have := HZ10.out; omega, by have := HZ10.out; omega, hF3.ne⟩)
        have HRr := Lib.hid (show Rd w11 9 rn rA (rs.flatMap Rec.recL) from by
          have h610 := HC10.out
          exact HR.out.2.2.below (HB6.out.trans ((h610.trans (hb11.mono h610.size)).mono HB6.out.size)))
        clear hb11 hp3 hb3' hF3 HM6 HC10 HZ10 HW10 HF6 HG6 HB6 HL6
        go_wp2_with fail
        clear d0 d1 hlt6
        go_loopw [64] (fun i wr => ∃ k s1 s2 s3 : Nat, k ≤ rn ∧ i = .int .i64 k ∧ s1 ≤ 100 * k ∧ s2 ≤ 100 * k ∧ s3 ≤ 100 * k ∧ Hid (Three w wr w11.heap.size p1 b1 o1 c1 p2 b2 o2 c2 p3 b3 o3 c3 L (stripL L) (L ++ [ret more]) k s1 s2 s3)) (fun i _ => rn - (intOf i).toNat)
        case atStart => exact ⟨0, 0, 0, 0, by omega, rfl, by omega, by omega, by omega, HT⟩
        case round =>
          obtain ⟨k, s1, s2, s3, hk, rfl, hs1, hs2, hs3, HQ⟩ := hrel
          clear HT HRr HW11
          by_cases hlt : k < rn
          · obtain ⟨bs, hbx⟩ : ∃ bs, rs[k]? = some bs := ⟨_, List.getElem?_eq_getElem (by have := HR.out.1; omega)⟩
            have hbs := HR.out.2.1 bs (List.mem_of_getElem? hbx)
            obtain ⟨bR, oR, rfl, hbl, hcells⟩ := (HR.out.2.2.below HQ.out.bel).pos (by omega)
            obtain ⟨v0, v1, v2, v3, v4, v5, v6, v7, v8, hv⟩ := nine bs
            have nn := fun (j : Nat) (hj : j < 9) (u : Value) (hu : (Rec.recL bs)[j]? = some u) => nine_at hcells hbx Hat.out hj hu
            rw [hv] at nn
            have q0 := nn 0 (by omega) _ rfl
            have q1 := nn 1 (by omega) _ rfl
            have q2 := nn 2 (by omega) _ rfl
            have q3 := nn 3 (by omega) _ rfl
            have q4 := nn 4 (by omega) _ rfl
            have q5 := nn 5 (by omega) _ rfl
            have q6 := nn 6 (by omega) _ rfl
            have q7 := nn 7 (by omega) _ rfl
            have q8 := nn 8 (by omega) _ rfl
            rw [Nat.add_zero] at q0
            obtain ⟨x, hx⟩ : ∃ x, x = (runN (recW bs) L).2 := ⟨_, rfl⟩
            obtain ⟨n, hn⟩ : ∃ n, n = (runN (recW bs) L).1.length := ⟨_, rfl⟩
            have hn65 : n ≤ 65 := by rw [hn]; exact Nat.le_trans (run_len _ _) (by have := HN.out; omega)
            have hst := strip_run (W := recW bs) G.out
            rw [← hx, ← hn] at hst
            have hbh := behind_run (W := recW bs) G.out more
            have hk20 : k ≤ 20 := by omega
            have R1 := Lib.hid (fun w' r s h h1 h2 => run_any bs L w11.heap.size p1 b1 o1 c1 r s w' h G.out Hok.out hbs (sm40 (n := r) h1) (sm40 (n := s) h2))
            have R2 := Lib.hid (fun w' r s h h1 h2 => run_any bs (stripL L) w11.heap.size p2 b2 o2 c2 r s w' h (strip_good G.out) Hy.out hbs (sm40 (n := r) h1) (sm40 (n := s) h2))
            have R3 := Lib.hid (fun w' r s h h1 h2 => run_any bs (L ++ [ret more]) w11.heap.size p3 b3 o3 c3 r s w' h (behind_good G.out more (by have := HN.out; omega)) (snoc_ok Hok.out Hk.out) hbs (sm40 (n := r) h1) (sm40 (n := s) h2))
            unfold RunTo at R1 R2 R3
            rw [← hx, ← hn] at R1
            rw [hst.1, hst.2] at R2
            rw [hbh, ← hx, ← hn] at R3
            rw [hv] at R1 R2 R3
            have hBk := Lib.hid (Bk.new (l := [.int .u32 v0, .int .u32 v1, .int .u64 v2, .int .u64 v3, .int .u64 v4, .int .u64 v5, .int .u64 v6, .int .u64 v7, .int .u64 v8]) wr 39 _ rfl)
            have hal := one_below wr (.cells [.int .u32 v0, .int .u32 v1, .int .u64 v2, .int .u64 v3, .int .u64 v4, .int .u64 v5, .int .u64 v6, .int .u64 v7, .int .u64 v8].toArray 39)
            have HQ1 := Lib.hid (show Fil (wr.alloc (.cells [.int .u32 v0, .int .u32 v1, .int .u64 v2, .int .u64 v3, .int .u64 v4, .int .u64 v5, .int .u64 v6, .int .u64 v7, .int .u64 v8].toArray 39)) w11.heap.size p1 b1 o1 c1 L k s1 ∧ Fil (wr.alloc (.cells [.int .u32 v0, .int .u32 v1, .int .u64 v2, .int .u64 v3, .int .u64 v4, .int .u64 v5, .int .u64 v6, .int .u64 v7, .int .u64 v8].toArray 39)) w11.heap.size p2 b2 o2 c2 (stripL L) k s2 ∧ Fil (wr.alloc (.cells [.int .u32 v0, .int .u32 v1, .int .u64 v2, .int .u64 v3, .int .u64 v4, .int .u64 v5, .int .u64 v6, .int .u64 v7, .int .u64 v8].toArray 39)) w11.heap.size p3 b3 o3 c3 (L ++ [ret more]) k s3 ∧ Below w.heap.size w (wr.alloc (.cells [.int .u32 v0, .int .u32 v1, .int .u64 v2, .int .u64 v3, .int .u64 v4, .int .u64 v5, .int .u64 v6, .int .u64 v7, .int .u64 v8].toArray 39)) from
              ⟨HQ.out.f1.below (hal.mono HQ.out.f1.le), HQ.out.f2.below (hal.mono HQ.out.f2.le), HQ.out.f3.below (hal.mono HQ.out.f3.le), HQ.out.bel.trans (hal.mono HQ.out.bel.size)⟩)
            have hge := HQ.out.f1.le
            have hge1 := HQ.out.f1.lp
            have hge2 := HQ.out.f2.lp
            clear nn hcells hbx hbs hx hn hst hbh hal hv HQ
            go_wp2_with fail
            refine (R1.out _ _ _ HQ1.out.1 (by omega) (by omega)).mono ?_
            rintro e w12 ⟨rfl, hf, hg⟩
            have hBk2 := Lib.hid (hBk.out.grown hg (fun e => by cases e; omega))
            have HQ2 := Lib.hid (show Fil w12 w11.heap.size p1 b1 o1 c1 L (k + 1) (s1 + n) ∧ Fil w12 w11.heap.size p2 b2 o2 c2 (stripL L) k s2 ∧ Fil w12 w11.heap.size p3 b3 o3 c3 (L ++ [ret more]) k s3 ∧ Below w.heap.size w w12 from
              ⟨hf, HQ1.out.2.1.other hg (by have := HX1.out; have := HX2.out; omega) (by have := HX1.out; have := HX2.out; omega), HQ1.out.2.2.1.other hg (by have := HX1.out; have := HX3.out; have := H36.out; omega) (by have := HX1.out; have := HX3.out; have := H36.out; omega), only_below HQ1.out.2.2.2 hg HQ1.out.2.2.2.size HX1.out.1⟩)
            clear hf hg HQ1 hBk q0 q1 q2 q3 q4 q5 q6 q7 q8 hbl
            have hl9 := Lib.hid (show ([.int .u32 v0, .int .u32 v1, .int .u64 v2, .int .u64 v3, .int .u64 v4, .int .u64 v5, .int .u64 v6, .int .u64 v7, .int .u64 v8] : List Value).length = 9 from rfl)
            go_wp2_with (refine Rec.ld_any hBk2.out rfl _ rfl rfl Try.underlying39 Rec.size9 hl9.out ?_)
            refine (R2.out _ _ _ HQ2.out.2.1 (by omega) (by omega)).mono ?_
            rintro e w13 ⟨rfl, hf, hg⟩
            have hBk3 := Lib.hid (hBk2.out.grown hg (fun e => by cases e; omega))
            have HQ3 := Lib.hid (show Fil w13 w11.heap.size p1 b1 o1 c1 L (k + 1) (s1 + n) ∧ Fil w13 w11.heap.size p2 b2 o2 c2 (stripL L) (k + 1) (s2 + n) ∧ Fil w13 w11.heap.size p3 b3 o3 c3 (L ++ [ret more]) k s3 ∧ Below w.heap.size w w13 from
              ⟨HQ2.out.1.other hg (by have := HX1.out; have := HX2.out; omega) (by have := HX1.out; have := HX2.out; omega), hf, HQ2.out.2.2.1.other hg (by have := HX2.out; have := HX3.out; omega) (by have := HX2.out; have := HX3.out; omega), only_below HQ2.out.2.2.2 hg HQ2.out.2.2.2.size (by have := HX1.out; have := HX2.out; omega)⟩)
            clear hf hg HQ2 hBk2
            go_wp2_with (refine Rec.ld_any hBk3.out rfl _ rfl rfl Try.underlying39 Rec.size9 hl9.out ?_)
            refine (R3.out _ _ _ HQ3.out.2.2.1 (by omega) (by omega)).mono ?_
            rintro e w14 ⟨rfl, hf, hg⟩
            have HQ4 := Lib.hid (show Three w w14 w11.heap.size p1 b1 o1 c1 p2 b2 o2 c2 p3 b3 o3 c3 L (stripL L) (L ++ [ret more]) (k + 1) (s1 + n) (s2 + n) (s3 + n) from
              ⟨HQ3.out.1.other hg (by have := HX1.out; have := HX3.out; have := H36.out; omega) (by have := HX1.out; have := HX3.out; have := H36.out; omega), HQ3.out.2.1.other hg (by have := HX2.out; have := HX3.out; omega) (by have := HX2.out; have := HX3.out; omega), hf, only_below HQ3.out.2.2.2 hg HQ3.out.2.2.2.size (by have := HX1.out; have := HX3.out; have := H36.out; omega)⟩)
            clear hf hg HQ3 hBk3
            go_wp2_with fail
            go_roundw
            case rel => exact ⟨k + 1, s1 + n, s2 + n, s3 + n, by omega, by go_num, by omega, by omega, by omega, HQ4⟩
            case measure => simp [intOf]; omega
          · go_wp2_with fail
            go_ret
            exact ⟨rfl, HQ.out.bel⟩
      · exact absurd (behind_good G.out more (by have := HN.out; omega)) hbad
    · exact absurd (strip_good G.out) hbad
  · have e1 : ((er3 : Int) == 0) = false := by simp; omega
    have e2 : ((er3 : Int) != 0) = true := by simp; omega
    have HB3 := Lib.hid ((HB2.out.trans (hb3.mono HB2.out.size)).alloc (Nat.le_trans HB2.out.size hb3.size) (.cells #[.int .i64 a3, .int .i64 er3] 31))
    clear hb3 HB2 HL2
    go_wp2_with fail
    all_goals
      go_ret
      exact ⟨rfl, HB3.out⟩
theorem walk_vmStrips6 (sA : Option Addr) (sn sc : Nat) (more : Int) (rA : Option Addr) (rn rc : Nat) (w : World)
    (h0 : ∃ l : List Sml, l.length = sn ∧ (∀ i ∈ l, i.ok) ∧ Rd w 9 sn sA (l.flatMap Sml.cells) ∧ sn ≤ maxLen) (h1 : (Lit.int .u32 more).wf = true)
    (h2 : ∃ l : List (List Nat), l.length = rn ∧ (∀ b ∈ l, Rec.IsRec b) ∧ Rd w 9 rn rA (l.flatMap Rec.recL) ∧ rn ≤ maxLen) (hat : ∀ (l : List (List Nat)) (k j : Nat), j < 9 → (l.flatMap Rec.recL)[k * 9 + j]? = (l[k]?).bind (fun x => (Rec.recL x)[j]?)) :
    Calls Try.prog 7 #[.slice sA sn sc, .int .u32 more, .slice rA rn rc] w (Yes w) := by
  obtain ⟨S, hl, hok, hr, hm⟩ := h0
  obtain ⟨rs, hl2, hok2, hr2, _⟩ := h2
  obtain ⟨l1, u1⟩ := bounds_u32 h1
  obtain ⟨n1, rfl⟩ := Int.eq_ofNat_of_zero_le l1
  exact walk_strips6 S rs sn rn sA rA sc rc n1 w hl hok hr hm hl2 hok2 hr2 hat (by omega)
end Go.Proofs.Ytnkffjdoillmaaa
