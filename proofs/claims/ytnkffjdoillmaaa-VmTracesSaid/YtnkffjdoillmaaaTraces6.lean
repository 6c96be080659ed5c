/- VmTraces: the run step by step. -/
import Derived.Test.YtnkffjdoillmaaaWays6
import Derived.Test.YtnkffjdoillmaaaVmS
import Derived.Test.YtnkffjdoillmaaaPool
import Derived.Test.YtnkffjdoillmaaaAwake6
import Derived.Deep.RegionHeld3
namespace Go.Proofs.Ytnkffjdoillmaaa
open Go.RowKit
/-- The nine cells of a record, as numbers. -/
theorem nine3 (bs : List Nat) : ∃ v0 v1 v2 v3 v4 v5 v6 v7 v8 : Int, Rec.recL bs = [.int .u32 v0, .int .u32 v1, .int .u64 v2, .int .u64 v3, .int .u64 v4, .int .u64 v5, .int .u64 v6, .int .u64 v7, .int .u64 v8] := ⟨_, _, _, _, _, _, _, _, _, rfl⟩
theorem nine_at3 {w : World} {rs : List (List Nat)} {b o k : Nat} {bs : List Nat} (h : ∀ j u, (rs.flatMap Rec.recL)[j]? = some u → w.cell? ⟨b, o + j, none⟩ = some u) (hx : rs[k]? = some bs) (hat : ∀ (l : List (List Nat)) (k j : Nat), j < 9 → (l.flatMap Rec.recL)[k * 9 + j]? = (l[k]?).bind (fun x => (Rec.recL x)[j]?)) {j : Nat} (hj : j < 9) {u : Value} (hu : (Rec.recL bs)[j]? = some u) : w.cell? ⟨b, o + k * 9 + j, none⟩ = some u := by
  rw [Nat.add_assoc]; exact h _ _ (by rw [hat rs k j hj, hx]; exact hu)
theorem rd_other' {w w' : World} {z n q : Nat} {A : Option Addr} {xs : List Value} (h : Rd w z n A xs) (hg : w.grownBy w' (some q)) (hA : ∀ b o, A = some ⟨b, o, none⟩ → b ≠ q) : Rd w' z n A xs :=
  ⟨h.len, h.at_.imp id fun ⟨b, o, e, hl, hc⟩ => ⟨b, o, e, Nat.lt_of_lt_of_le hl hg.size, fun j u hu => by
    rw [← hc j u hu]
    unfold World.cell?
    rw [hg.block b hl (fun h => hA b o e (by cases h; rfl))]⟩⟩
/-- What stays from record to record. -/
structure TIn (w wr : World) (B p b o c : Nat) (L : List Ins) (N : Nat) (A : Option Addr) (k st : Nat) : Prop where
  f : Fil wr B p b o c L k st
  rd : Rd wr 4 N A (L.flatMap Ins.cells)
  bel : Below w.heap.size w wr
  lp : w.heap.size ≤ p
section
variable {w wr w' : World} {B p b o c N k st : Nat} {L : List Ins} {A : Option Addr}
theorem TIn.kept (h : TIn w wr B p b o c L N A k st) (hb : Below wr.heap.size wr w') : TIn w w' B p b o c L N A k st := ⟨h.f.below (hb.mono h.f.le), h.rd.below hb, h.bel.trans (hb.mono h.bel.size), h.lp⟩
end
theorem ways_two (i : Ins) (a : Nat) : (ways i a).length ≤ 2 := by
  unfold ways rel
  rw [List.length_map]
  split
  · simp
  · split
    · simp
    · split <;> simp
theorem three_cells {w : World} {ts : List (Nat × Nat × Nat)} {b o j : Nat} {t : Nat × Nat × Nat} (h : ∀ j u, (ts.flatMap trV)[j]? = some u → w.cell? ⟨b, o + j, none⟩ = some u) (hx : ts[j]? = some t) :
    w.cell? ⟨b, o + j * 3, none⟩ = some (.int .i64 t.1) ∧ w.cell? ⟨b, o + j * 3 + 1, none⟩ = some (.int .u32 t.2.1) ∧ w.cell? ⟨b, o + j * 3 + 2, none⟩ = some (.int .u32 t.2.2) := by
  have hh : ∀ r, r < 3 → ∀ u, (trV t)[r]? = some u → w.cell? ⟨b, o + j * 3 + r, none⟩ = some u := fun r hr u hu => by
    rw [Nat.add_assoc]; exact h _ _ (by rw [tr_at ts j r hr, hx]; exact hu)
  exact ⟨hh 0 (by omega) _ rfl, hh 1 (by omega) _ rfl, hh 2 (by omega) _ rfl⟩
set_option maxRecDepth 100000 in
set_option maxHeartbeats 16000000 in
theorem walk_traces6 (S : List Sml) (rs : List (List Nat)) (sn rn : Nat) (sA rA : Option Addr) (sc rc : Nat) (w : World) (hS : S.length = sn) (hSok : ∀ i ∈ S, i.ok) (hSr : Rd w 9 sn sA (S.flatMap Sml.cells)) (hm : sn ≤ maxLen)
    (hR : rs.length = rn) (hRok : ∀ b ∈ rs, Rec.IsRec b) (hRr : Rd w 9 rn rA (rs.flatMap Rec.recL)) (hat : ∀ (l : List (List Nat)) (k j : Nat), j < 9 → (l.flatMap Rec.recL)[k * 9 + j]? = (l[k]?).bind (fun x => (Rec.recL x)[j]?)) :
    Calls Try.prog 9 #[.slice sA sn sc, .slice rA rn rc] w (Yes w) := by
  have PR := Lib.hid (fun w' (hb : Below w.heap.size w w') => program_any S sn sA sc 5 w' hS hSok (hSr.below hb) hm (by omega))
  have HR := Lib.hid (And.intro hR (And.intro hRok hRr))
  have Hat := Lib.hid hat
  clear hS hSok hSr hR hRok hRr hat hm
  go_enter Try.func9, Try.ntmps9
  go_wp2_with fail
  refine (awake6 _).mono ?_
  rintro e w1 ⟨rfl, hb1⟩
  have HB1 := Lib.hid hb1
  clear hb1
  by_cases h20 : 20 < rn
  · have e1 : decide ((20 : Int) < rn) = true := by simp; omega
    go_wp2_with fail
    go_ret
    exact ⟨rfl, HB1.out⟩
  have e1 : decide ((20 : Int) < rn) = false := by simp; omega
  go_wp2_with fail
  refine (PR.out _ HB1.out).mono ?_
  rintro e w2 ⟨L, A, cp, rfl, hcp, hseg, hLok, hL65, _, hb2⟩
  have HB2 := Lib.hid (HB1.out.trans (hb2.mono HB1.out.size))
  obtain ⟨N, hN⟩ : ∃ N, N = L.length := ⟨_, rfl⟩
  rw [← hN] at hseg hL65 hcp ⊢
  have HL2 := Lib.hid hseg.rd
  have HN := Lib.hid hN.symm
  have Hok := Lib.hid hLok
  have hm64 : N ≤ maxLen := by unfold maxLen; omega
  clear hb2 hseg hLok hN PR HB1 hcp e1
  go_wp2_with fail
  refine (load_any L N A cp _ HN.out Hok.out HL2.out hm64).mono ?_
  rintro e w3 ⟨a3, er3, _, hb3, ⟨g, rfl, rfl, p, b, o, c1, hp, hb, rfl, hF⟩ | ⟨_, her, rfl⟩⟩
  · have G := Lib.hid g
    have HI := Lib.hid (show TIn w (w3.alloc (.cells #[.int .i64 0, .int .i64 0] 31)) w3.heap.size p b o c1 L N A 0 0 from ⟨hF.below (one_below w3 (.cells #[.int .i64 0, .int .i64 0] 31)), (HL2.out.below hb3).below (one_below w3 (.cells #[.int .i64 0, .int .i64 0] 31)), (HB2.out.trans (hb3.mono HB2.out.size)).alloc (Nat.le_trans HB2.out.size hb3.size) _, Nat.le_trans HB2.out.size hp⟩)
    have HA2 := Lib.hid (show ∀ b' o', A = some ⟨b', o', none⟩ → b' ≠ p from fun b' o' e => by
      obtain ⟨b2, o2, e2, hl, _⟩ := HL2.out.pos (by have := g.pos; have := HN.out; omega)
      rw [e] at e2; cases e2; omega)
    clear g hF hb3 hp hb HL2 HB2
    go_wp2_with fail
    go_loopw [43] (fun i wr => ∃ k st : Nat, k ≤ rn ∧ i = .int .i64 k ∧ st ≤ 10000 * k ∧ Hid (TIn w wr w3.heap.size p b o c1 L N A (2 * k) st)) (fun i _ => rn - (intOf i).toNat)
    case atStart => exact ⟨0, 0, by omega, rfl, by omega, HI⟩
    case round =>
      obtain ⟨rk, st, hk, rfl, hst, HM⟩ := hrel
      clear HI
      by_cases hlt : rk < rn
      · obtain ⟨bs, hbx⟩ : ∃ bs, rs[rk]? = some bs := ⟨_, List.getElem?_eq_getElem (by have := HR.out.1; omega)⟩
        have hbs := HR.out.2.1 bs (List.mem_of_getElem? hbx)
        obtain ⟨bR, oR, hAR, hbl, hcells⟩ := (HR.out.2.2.below HM.out.bel).pos (by omega)
        subst hAR
        obtain ⟨v0, v1, v2, v3, v4, v5, v6, v7, v8, hv⟩ := nine3 bs
        have nn := fun (j' : Nat) (hj : j' < 9) (u : Value) (hu : (Rec.recL bs)[j']? = some u) => nine_at3 hcells hbx Hat.out hj hu
        rw [hv] at nn
        have q0 := nn 0 (by omega) _ rfl
        have q1 := nn 1 (by omega) _ rfl
        have q2 := nn 2 (by omega) _ rfl
        have q3 := nn 3 (by omega) _ rfl
        have q4 := nn 4 (by omega) _ rfl
        have q5 := nn 5 (by omega) _ rfl
        have q6 := nn 6 (by omega) _ rfl
        have q7 := nn 7 (by omega) _ rfl
        have q8 := nn 8 (by omega) _ rfl
        rw [Nat.add_zero] at q0
        have hT := tr_run (W := recW bs) G.out
        have hml := run_len (recW bs) L
        obtain ⟨act, hact⟩ : ∃ x, x = (runN (recW bs) L).2 := ⟨_, rfl⟩
        obtain ⟨ts, hts⟩ : ∃ n, n = (runN (recW bs) L).1 := ⟨_, rfl⟩
        have T1 := Lib.hid (fun w' r s h h1 h2 => traces_any bs L w3.heap.size p b o c1 r s w' h G.out Hok.out hbs (sm40 (n := r) h1) (sm40 (n := s) h2))
        have R1 := Lib.hid (fun w' r s h h1 h2 => run_any bs L w3.heap.size p b o c1 r s w' h G.out Hok.out hbs (sm40 (n := r) h1) (sm40 (n := s) h2))
        have Wd1 := Lib.hid (fun k w hk => word_all bs k w hbs hk)
        unfold TracesTo at T1
        unfold RunTo at R1
        rw [← hact, ← hts] at R1
        rw [← hts] at T1
        rw [← hact, ← hts] at hT
        rw [← hts] at hml
        rw [hv] at T1 R1 Wd1
        obtain ⟨m, hmd⟩ : ∃ m, m = ts.length := ⟨_, rfl⟩
        rw [← hmd] at T1 R1 hml
        have hm0 : 0 < m := by obtain ⟨_, a0, x0, tl, h0⟩ := hT; rw [hmd, h0]; simp
        have hm65 : m ≤ 65 := by have := HN.out; omega
        have HT := Lib.hid hT
        have Hmd := Lib.hid hmd
        have HBk0 := Lib.hid (Bk.new (l := [.int .u32 v0, .int .u32 v1, .int .u64 v2, .int .u64 v3, .int .u64 v4, .int .u64 v5, .int .u64 v6, .int .u64 v7, .int .u64 v8]) wr 39 _ rfl)
        have hal := one_below wr (.cells [.int .u32 v0, .int .u32 v1, .int .u64 v2, .int .u64 v3, .int .u64 v4, .int .u64 v5, .int .u64 v6, .int .u64 v7, .int .u64 v8].toArray 39)
        have HQ1 := Lib.hid (HM.out.kept hal)
        have hge := HM.out.f.le
        have hge1 := HM.out.f.lp
        clear nn hcells hbx hbs hact hts hT hml hal hv HM hmd
        go_wp2_with fail
        refine (T1.out _ _ _ HQ1.out.f (by omega) (by omega)).mono ?_
        rintro e w6 ⟨A6, c6, rfl, hs6, hf6, hg6⟩
        obtain ⟨bx, ox, rfl, hbx0, _, _⟩ := hs6.pos hm0
        have HBk1 := Lib.hid (HBk0.out.grown hg6 (fun e => by cases e; omega))
        have HQ2 := Lib.hid (show TIn w w6 w3.heap.size p b o c1 L N A (2 * rk + 1) (st + m) from ⟨hf6, rd_other' HQ1.out.rd hg6 HA2.out, only_below HQ1.out.bel hg6 HQ1.out.bel.size HQ1.out.lp, HQ1.out.lp⟩)
        have Hs6 := Lib.hid hs6
        have hpb : p < (wr.alloc (.cells [.int .u32 v0, .int .u32 v1, .int .u64 v2, .int .u64 v3, .int .u64 v4, .int .u64 v5, .int .u64 v6, .int .u64 v7, .int .u64 v8].toArray 39)).heap.size := by simp; omega
        have hlR0 := Lib.hid (show ([.int .u32 v0, .int .u32 v1, .int .u64 v2, .int .u64 v3, .int .u64 v4, .int .u64 v5, .int .u64 v6, .int .u64 v7, .int .u64 v8] : List Value).length = 9 from rfl)
        clear hs6 hf6 hg6 HQ1 HBk0 q0 q1 q2 q3 q4 q5 q6 q7 q8 hbl hbx0
        go_wp2_with (refine Rec.ld_any HBk1.out rfl _ rfl rfl Try.underlying39 Rec.size9 hlR0.out ?_)
        refine (R1.out _ _ _ HQ2.out.f (by omega) (by omega)).mono ?_
        rintro e w7 ⟨rfl, hf7, hg7⟩
        have HBk := Lib.hid (HBk1.out.grown hg7 (fun e => by cases e; omega))
        have HQ3 := Lib.hid (show TIn w w7 w3.heap.size p b o c1 L N A (2 * (rk + 1)) (st + m + m) from ⟨by have := hf7; rwa [show 2 * rk + 1 + 1 = 2 * (rk + 1) by omega] at this, rd_other' HQ2.out.rd hg7 HA2.out, only_below HQ2.out.bel hg7 HQ2.out.bel.size HQ2.out.lp, HQ2.out.lp⟩)
        have Hs7 := Lib.hid (Hs6.out.grown hg7 hpb)
        obtain ⟨bx', ox', ebx, _, hbxl, hcx⟩ := Hs7.out.pos hm0
        simp only [Option.some.injEq, Addr.mk.injEq, and_true] at ebx
        obtain ⟨rfl, rfl⟩ := ebx
        have Hcx := Lib.hid hcx
        have z0 : w7.cell? ⟨bx, ox, none⟩ = some (.int .i64 0) := by
          obtain ⟨_, a0, x0, tl, h0⟩ := HT.out
          exact hcx 0 _ (by rw [h0]; rfl)
        have em : ((m : Int) == 0) = false := by simp; omega
        have gR : wr.heap.size < w7.heap.size := HBk.out.lt
        obtain ⟨gr, hgr⟩ : ∃ gr, gr = wr.heap.size := ⟨_, rfl⟩
        rw [← hgr] at HBk gR
        have Hgr := Lib.hid hgr
        clear hf7 hg7 HQ2 HBk1 Hs6 Hs7 hcx hpb hgr
        go_wp2_with fail
        clear em z0
        rw [← Hgr.out]
        go_loopw [74] (fun i wi => ∃ j : Nat, j ≤ m ∧ i = .int .i64 j ∧ Hid (Below w7.heap.size w7 wi)) (fun i _ => m - (intOf i).toNat)
        case atStart => exact ⟨0, by omega, rfl, Lib.hid (Below.refl _ _)⟩
        case round =>
          obtain ⟨j, hj, rfl, Hb⟩ := hrel
          by_cases hjl : j < m
          · obtain ⟨⟨tp, ta, tx⟩, htt⟩ : ∃ t, ts[j]? = some t := ⟨_, List.getElem?_eq_getElem (by have := Hmd.out; omega)⟩
            obtain ⟨i, hi, h32, h1, hnx, hend⟩ := HT.out.1 j _ htt
            obtain ⟨r0, r1, r2⟩ := three_cells Hcx.out htt
            dsimp only at r0 r1 r2 hi h32 h1 hnx hend
            have hkp : ∀ o', wr.cell? ⟨bx, o', none⟩ = w7.cell? ⟨bx, o', none⟩ := fun o' => Hb.out.cell (p := ⟨bx, o', none⟩) hbxl
            rw [← hkp] at r0 r1 r2
            have htp : tp < N := by have := (List.getElem?_eq_some_iff.1 hi).1; have := HN.out; omega
            obtain ⟨bl, ol, hAl, hbl, hcl⟩ := (HQ3.out.rd.below Hb.out).pos (by omega)
            subst hAl
            obtain ⟨q0, q1, q2, q3⟩ := four_cells hcl hi
            have hio := Hok.out i (List.mem_of_getElem? hi)
            obtain ⟨hk1, _, hk3⟩ := alone_zero.1 (G.out.each _ _ hi)
            have Rf := Lib.hid (fun w => lawRef_any i w hio)
            have Wy := Lib.hid (fun w => refWays_any i tp w hio (by omega))
            have Wd := Lib.hid (fun w => Wd1.out i.k w hio.2.2.2)
            have Cl := Lib.hid (fun w => class_any i.c w hio.1)
            have hcb := hio.1
            have H32 := Lib.hid (show i.c = 32 → (i.k % 4 = 0 ∧ i.k ≤ 60) ∧ recW bs i.k = ta from fun h => ⟨by simpa [rangeB, h] using hk3, (h32 h).symm⟩)
            have H1 := Lib.hid h1
            have Hnx := Lib.hid hnx
            have Hend0 := Lib.hid hend
            have hcc : i.c ∈ codesL := by simpa [knownB] using hk1
            simp only [codesL, List.mem_cons, List.not_mem_nil, or_false] at hcc
            have HBx7 := Lib.hid ((Hb.out.alloc Hb.out.size (.cells #[.int .i64 tp, .int .u32 ta, .int .u32 tx] 75)).alloc (Nat.le_trans Hb.out.size (by simp)) (.cells #[.int .u16 i.c, .int .u8 i.t, .int .u8 i.f, .int .u32 i.k] 60))
            have HBT := Lib.hid ((Bk.new (l := [.int .i64 tp, .int .u32 ta, .int .u32 tx]) wr 75 _ rfl).alloc (.cells #[.int .u16 i.c, .int .u8 i.t, .int .u8 i.f, .int .u32 i.k] 60))
            have hbi := Bk.new (l := Ins.cells i) (wr.alloc (.cells #[.int .i64 tp, .int .u32 ta, .int .u32 tx] 75)) 60 #[.int .u16 i.c, .int .u8 i.t, .int .u8 i.f, .int .u32 i.k] rfl
            rw [show (wr.alloc (.cells #[.int .i64 tp, .int .u32 ta, .int .u32 tx] 75)).heap.size = wr.heap.size + 1 by simp] at hbi
            have HBI := Lib.hid hbi
            obtain ⟨m', hm'⟩ : ∃ m', m = m' + 1 := ⟨m - 1, by omega⟩
            have hm1 : (m : Int) - 1 = m' := by omega
            have Hm' := Lib.hid hm'
            obtain ⟨c, t, f, k⟩ := i
            dsimp only at *
            clear hkp hcl hi hio hk1 hk3 h32 h1 hnx hend hbi hm'
            have Hcc := Lib.hid hcc
            clear hcc
            go_wp2_with fail
            revert HBx7 HBT HBI
            generalize (wr.alloc (.cells #[.int .i64 tp, .int .u32 ta, .int .u32 tx] 75)).alloc (.cells #[.int .u16 c, .int .u8 t, .int .u8 f, .int .u32 k] 60) = wx
            intro HBx7 HBT HBI
            obtain ⟨gT, hgT⟩ : ∃ gT, gT = wr.heap.size := ⟨_, rfl⟩
            rw [show wr.heap.size + 1 = gT + 1 by rw [hgT]] at HBI
            rw [← hgT] at HBT
            have HgT := Lib.hid hgT
            clear r0 r1 r2 q0 q1 q2 q3 hbl hgT
            obtain ⟨gI, hgI⟩ : ∃ gI, gI = gT + 1 := ⟨_, rfl⟩
            rw [← hgI] at HBI
            have HS := Lib.hid (show ∀ w', Below wx.heap.size wx w' → (((w'.cell? ⟨gI, 0, none⟩ = some (.int .u16 c) ∧ w'.cell? ⟨gI, 1, none⟩ = some (.int .u8 t)) ∧ (w'.cell? ⟨gI, 2, none⟩ = some (.int .u8 f) ∧ w'.cell? ⟨gI, 3, none⟩ = some (.int .u32 k))) ∧ w'.cell? ⟨gT, 0, none⟩ = some (.int .i64 tp)) ∧ Hid (Below wx.heap.size wx w') from fun w' h => ⟨⟨⟨⟨(HBI.out.kept h).cell 0 rfl, (HBI.out.kept h).cell 1 rfl⟩, ⟨(HBI.out.kept h).cell 2 rfl, (HBI.out.kept h).cell 3 rfl⟩⟩, (HBT.out.kept h).cell 0 rfl⟩, h⟩)
            rw [← HgT.out, ← hgI]
            have HgI := Lib.hid hgI
            clear hgI
            refine wp_region_held_drew (S := (fun w' => (((w'.cell? ⟨gI, 0, none⟩ = some (.int .u16 c) ∧ w'.cell? ⟨gI, 1, none⟩ = some (.int .u8 t)) ∧ (w'.cell? ⟨gI, 2, none⟩ = some (.int .u8 f) ∧ w'.cell? ⟨gI, 3, none⟩ = some (.int .u32 k))) ∧ w'.cell? ⟨gT, 0, none⟩ = some (.int .i64 tp)) ∧ Hid (Below wx.heap.size wx w'))) (by kernel_rfl) ?_ (fun hHeld0 => ?_)
            · exact HS.out _ (Below.refl _ _).drew
            refine wpAnyH_take (i := 0) (v := ?_) (by first | (simp only [List.getElem?_toArray, List.getElem?_cons_zero] <;> rfl) | rfl) (by kernel_rfl) (by kernel_rfl) (by kernel_rfl) (by exact fun _ _ _ h => h) (Or.inl ⟨by rfl, ?_⟩) hHeld0 ?_
            rotate_left 1
            · intro w hSw
              try dsimp only at hSw
              (go_simp) <;> (with_reducible rfl)
            try simp only [Act.put, List.setIfInBounds_toArray, List.set_cons_zero, List.set_cons_succ]
            refine wpAnyH_take (i := 2) (v := ?_) (by first | (simp only [List.getElem?_toArray, List.getElem?_cons_succ, List.getElem?_cons_zero] <;> rfl) | rfl) (by kernel_rfl) (by kernel_rfl) (by kernel_rfl) (by exact fun _ _ _ h => h) (Or.inl ⟨by rfl, ?_⟩) hHeld0 ?_
            rotate_left 1
            · intro w hSw
              try dsimp only at hSw
              (go_simp) <;> (with_reducible rfl)
            try simp only [Act.put, List.setIfInBounds_toArray, List.set_cons_zero, List.set_cons_succ]
            refine wpAnyH_take (i := 3) (v := ?_) (by first | (simp only [List.getElem?_toArray, List.getElem?_cons_succ, List.getElem?_cons_zero] <;> rfl) | rfl) (by kernel_rfl) (by kernel_rfl) (by kernel_rfl) (by exact fun _ _ _ h => h) (Or.inl ⟨by rfl, ?_⟩) hHeld0 ?_
            rotate_left 1
            · intro w hSw
              try dsimp only at hSw
              (go_simp) <;> (with_reducible rfl)
            try simp only [Act.put, List.setIfInBounds_toArray, List.set_cons_zero, List.set_cons_succ]
            refine wpAnyH_ready (rs := [1]) (by kernel_rfl) (by simp) ?_
            refine AllReadyH.cons (by first | (simp only [List.getElem?_toArray, List.getElem?_cons_succ, List.getElem?_cons_zero] <;> rfl) | rfl) (fun K hK => ?_) AllReadyH.nil
            go_simp
            refine (Rf.out _).mono ?_; rintro e wa ⟨rfl, hba⟩
            go_wp2_with fail
            refine hK.out _ _ ?_ (fun hHeld1 => ?_)
            · (try dsimp only)
              exact HS.out _ (Rec.step2 hba hHeld0)
            clear hK K hHeld0
            try simp only [Act.put, List.setIfInBounds_toArray, List.set_cons_zero, List.set_cons_succ]
            refine wpAnyH_ready (rs := [4]) (by kernel_rfl) (by simp) ?_
            refine AllReadyH.cons (by first | (simp only [List.getElem?_toArray, List.getElem?_cons_succ, List.getElem?_cons_zero] <;> rfl) | rfl) (fun K hK => ?_) AllReadyH.nil
            go_simp
            refine (Wy.out _).mono ?_; rintro e wb ⟨A8, c8, rfl, hr8, hbb⟩
            go_wp2_with fail
            refine hK.out _ _ ?_ (fun hHeld2 => ?_)
            · (try dsimp only)
              exact HS.out _ (Rec.step2 hbb hHeld1)
            clear hK K hHeld1
            try simp only [Act.put, List.setIfInBounds_toArray, List.set_cons_zero, List.set_cons_succ]
            refine wpAnyH_take (i := 5) (v := ?_) (by first | (simp only [List.getElem?_toArray, List.getElem?_cons_succ, List.getElem?_cons_zero] <;> rfl) | rfl) (by kernel_rfl) (by kernel_rfl) (by kernel_rfl) (by exact fun _ _ _ h => h) (Or.inl ⟨by rfl, ?_⟩) hHeld2 ?_
            rotate_left 1
            · intro w hSw
              try dsimp only at hSw
              (go_simp) <;> (with_reducible rfl)
            try simp only [Act.put, List.setIfInBounds_toArray, List.set_cons_zero, List.set_cons_succ]
            refine wpAnyH_done (by kernel_rfl) ?_ _
            have HQb := Lib.hid (Rec.step1 hHeld2)
            clear hHeld2 HS Rf Wy
            by_cases hlast : j = m'
            · have eL : ((j : Int) == (m' : Int)) = true := by simp; omega
              have Hend := Lib.hid (show (c = 6 ∧ act = k) ∨ (c = 22 ∧ act = ta) ∨ ((c = 52 ∨ c = 60) ∧ act = 0) from by
                obtain ⟨g1, g2, g3⟩ := Hend0.out (by have := Hmd.out; have := Hm'.out; omega)
                have := Hcc.out
                by_cases h6 : c % 8 = 6
                · rcases (by omega : c = 6 ∨ c = 22) with e | e
                  · exact .inl ⟨e, g1 e⟩
                  · exact .inr (.inl ⟨e, g2 e⟩)
                · exact .inr (.inr (g3 h6)))
              clear Hend0 Hcc Hnx H32 H1
              have HBw := Lib.hid (HBk.out.kept ((HBx7.out).trans ((HQb.out).mono HBx7.out.size)))
              have d0 := (HBI.out.kept HQb.out).cell 0 rfl
              have d3 := (HBI.out.kept HQb.out).cell 3 rfl
              have hlR := Lib.hid (show ([.int .u32 v0, .int .u32 v1, .int .u64 v2, .int .u64 v3, .int .u64 v4, .int .u64 v5, .int .u64 v6, .int .u64 v7, .int .u64 v8] : List Value).length = 9 from rfl)
              go_wp2_with (refine Rec.ld_any HBw.out rfl _ rfl rfl Try.underlying39 Rec.size9 hlR.out ?_)
              refine (Wd.out _).mono ?_
              rintro e wc ⟨wv, wok, rfl, hwv, hbc⟩
              have hQc := HQb.out.trans (hbc.mono HQb.out.size)
              have HQc := Lib.hid hQc
              have HEnd := Lib.hid (HBx7.out.trans (hQc.mono HBx7.out.size))
              clear d0 d3 hbc hQc
              have d0 := (HBI.out.kept HQc.out).cell 0 rfl
              have d3 := (HBI.out.kept HQc.out).cell 3 rfl
              have u1 := (HBT.out.kept HQc.out).cell 1 rfl
              have u2 := (HBT.out.kept HQc.out).cell 2 rfl
              rcases Hend.out with ⟨hc6, hak⟩ | ⟨hc22, haa⟩ | ⟨hc5, ha0⟩
              · obtain rfl : act = k := hak
                have e6 : ((c : Int) == 6) = true := by simp; omega
                have e22 : ((c : Int) == 22) = false := by simp; omega
                have e32 : ((c : Int) == 32) = false := by simp; omega
                have e1 : ((c : Int) == 1) = false := by simp; omega
                have hr6 : c % 8 = 6 := by omega
                rw [hr6] at Cl
                clear hwv hc6 hr6
                go_wp2_with (go_at_call 31; refine (Cl.out _).mono ?_; rintro e2 w2 ⟨rfl, rfl⟩)
                go_roundw
                case rel => exact ⟨j + 1, by omega, by go_num, HEnd⟩
                case measure => simp [intOf]; omega
              · obtain rfl : act = ta := haa
                have e6 : ((c : Int) == 6) = false := by simp; omega
                have e22 : ((c : Int) == 22) = true := by simp; omega
                have e32 : ((c : Int) == 32) = false := by simp; omega
                have e1 : ((c : Int) == 1) = false := by simp; omega
                have hr6 : c % 8 = 6 := by omega
                rw [hr6] at Cl
                clear hwv hc22 hr6
                go_wp2_with (go_at_call 31; refine (Cl.out _).mono ?_; rintro e2 w2 ⟨rfl, rfl⟩)
                go_roundw
                case rel => exact ⟨j + 1, by omega, by go_num, HEnd⟩
                case measure => simp [intOf]; omega
              · have ea : ((act : Int) != 0) = false := by simp; omega
                have e6 : ((c : Int) == 6) = false := by simp; omega
                have e22 : ((c : Int) == 22) = false := by simp; omega
                have e32 : ((c : Int) == 32) = false := by simp; omega
                have e1 : ((c : Int) == 1) = false := by simp; omega
                have hr6 : c % 8 = 4 := by omega
                rw [hr6] at Cl
                have hAn : bits .andNot .u16 (c : Int) 8 = 52 := by rw [andNot8 c (by omega), show c - 8 * (c / 8 % 2) = 52 by omega]; rfl
                clear hwv hc5 hr6 ha0
                go_wp2_with (go_at_call 31; refine (Cl.out _).mono ?_; rintro e2 w2 ⟨rfl, rfl⟩)
                go_roundw
                case rel => exact ⟨j + 1, by omega, by go_num, HEnd⟩
                case measure => simp [intOf]; omega
            · have eL : ((j : Int) == (m' : Int)) = false := by simp; omega
              obtain ⟨⟨np, na, nx⟩, hnt⟩ : ∃ t, ts[j + 1]? = some t := ⟨_, List.getElem?_eq_getElem (by have := Hmd.out; have := Hm'.out; omega)⟩
              have hin := Hnx.out _ hnt
              dsimp only at hin
              obtain ⟨n0, _, _⟩ := three_cells Hcx.out hnt
              dsimp only at n0
              have Hn6 := Lib.hid (show c ≠ 6 ∧ c ≠ 22 from by
                constructor <;> (intro h; simp [ways, rel, h] at hin))
              have n1 : wb.cell? ⟨bx, ox + (j + 1) * 3, none⟩ = some (.int .i64 np) := by
                rw [(HBx7.out.trans (HQb.out.mono HBx7.out.size)).cell (p := ⟨bx, ox + (j + 1) * 3, none⟩) hbxl]; exact n0
              obtain ⟨ws, hws⟩ : ∃ ws, ws = ways ⟨c, t, f, k⟩ tp := ⟨_, rfl⟩
              rw [← hws] at hr8 hin ⊢
              obtain ⟨nw, hnw⟩ : ∃ nw, nw = ws.length := ⟨_, rfl⟩
              rw [← hnw] at hr8 ⊢
              have Hr8 := Lib.hid hr8
              have Hin := Lib.hid hin
              have Hnw := Lib.hid hnw
              have Hws := Lib.hid hws
              have hj1 : j + 1 < m := by have := Hm'.out; omega
              have hnw2 : nw ≤ 2 := by rw [Hnw.out, Hws.out]; exact ways_two _ _
              clear Hend0 Hcc Hnx n0 hnt hws hnw hr8 hin hba hbb
              have Hm1 := Lib.hid hm1
              clear hm1
              go_wp2_with fail
              go_loop [18, 98] (fun fd i => ∃ (q : Nat) (bb : Bool), q ≤ nw ∧ i = .int .i64 q ∧ fd = .bool bb ∧ Hid (bb = true ↔ np ∈ ws.take q)) (fun _ i => nw - (intOf i).toNat)
              case atStart => exact ⟨0, false, by omega, rfl, rfl, Lib.hid (by simp)⟩
              case round =>
                obtain ⟨q, bb, hq, rfl, rfl, HQb2⟩ := hrel
                by_cases hqn : q < nw
                · obtain ⟨to, hto⟩ : ∃ to, ws[q]? = some to := ⟨_, List.getElem?_eq_getElem (by have := Hnw.out; omega)⟩
                  obtain ⟨b8, o8, hA8, _, hc8⟩ := Hr8.out.pos (by omega)
                  subst hA8
                  have y0 := hc8 q _ (ints_at hto)
                  have Htk := Lib.hid (show ws.take (q + 1) = ws.take q ++ [to] from take_snoc' ws q to hto)
                  clear hc8 hto
                  cases bb
                  · by_cases htn : to = np
                    · subst htn
                      have HE := Lib.hid (show true = true ↔ to ∈ ws.take (q + 1) from ⟨fun _ => by rw [Htk.out]; simp, fun _ => rfl⟩)
                      go_wp2_with fail
                      go_round
                      case rel => exact ⟨q + 1, true, by omega, by go_num, rfl, HE⟩
                      case measure => simp [intOf]; omega
                    · have et : ((to : Int) == (np : Int)) = false := by rw [beq_nat]; simpa using htn
                      have HE := Lib.hid (show false = true ↔ np ∈ ws.take (q + 1) from ⟨fun h => by (cases h), fun h => by
                        rw [Htk.out] at h
                        rcases List.mem_append.1 h with h | h
                        · exact HQb2.out.2 h
                        · simp at h; exact absurd h.symm htn⟩)
                      clear htn
                      go_wp2_with fail
                      go_round
                      case rel => exact ⟨q + 1, false, by omega, by go_num, rfl, HE⟩
                      case measure => simp [intOf]; omega
                  · have HE := Lib.hid (show true = true ↔ np ∈ ws.take (q + 1) from ⟨fun _ => by rw [Htk.out]; exact List.mem_append_left _ (HQb2.out.1 rfl), fun _ => rfl⟩)
                    go_wp2_with fail
                    go_round
                    case rel => exact ⟨q + 1, true, by omega, by go_num, rfl, HE⟩
                    case measure => simp [intOf]; omega
                · obtain rfl : q = nw := by omega
                  obtain rfl : bb = true := HQb2.out.2 (by rw [List.take_of_length_le (by have := Hnw.out; omega)]; exact Hin.out)
                  clear HQb2 n1
                  have HBw := Lib.hid (HBk.out.kept ((HBx7.out).trans ((HQb.out).mono HBx7.out.size)))
                  have d0 := (HBI.out.kept HQb.out).cell 0 rfl
                  have d3 := (HBI.out.kept HQb.out).cell 3 rfl
                  have hlR := Lib.hid (show ([.int .u32 v0, .int .u32 v1, .int .u64 v2, .int .u64 v3, .int .u64 v4, .int .u64 v5, .int .u64 v6, .int .u64 v7, .int .u64 v8] : List Value).length = 9 from rfl)
                  go_wp2_with (refine Rec.ld_any HBw.out rfl _ rfl rfl Try.underlying39 Rec.size9 hlR.out ?_)
                  refine (Wd.out _).mono ?_
                  rintro e wc ⟨wv, wok, rfl, hwv, hbc⟩
                  have hQc := HQb.out.trans (hbc.mono HQb.out.size)
                  have HQc := Lib.hid hQc
                  have HEnd := Lib.hid (HBx7.out.trans (hQc.mono HBx7.out.size))
                  clear d0 d3 hbc hQc
                  have d0 := (HBI.out.kept HQc.out).cell 0 rfl
                  have d3 := (HBI.out.kept HQc.out).cell 3 rfl
                  have u1 := (HBT.out.kept HQc.out).cell 1 rfl
                  have u2 := (HBT.out.kept HQc.out).cell 2 rfl
                  by_cases h32 : c = 32
                  · have hwq : wv = ta := by rw [hwv (H32.out h32).1, (H32.out h32).2]
                    subst hwq
                    have e6 : ((c : Int) == 6) = false := by simp; omega
                    have e22 : ((c : Int) == 22) = false := by simp; omega
                    have e32 : ((c : Int) == 32) = true := by simp; omega
                    have e1 : ((c : Int) == 1) = false := by simp; omega
                    clear hwv h32
                    go_wp2_with (go_at_call 31; refine (Cl.out _).mono ?_; rintro e2 w2 ⟨rfl, rfl⟩)
                    go_roundw
                    case rel => exact ⟨j + 1, by omega, by go_num, HEnd⟩
                    case measure => simp [intOf]; omega
                  · by_cases h1 : c = 1
                    · have hxk : tx = k := H1.out h1
                      subst hxk
                      have e6 : ((c : Int) == 6) = false := by simp; omega
                      have e22 : ((c : Int) == 22) = false := by simp; omega
                      have e32 : ((c : Int) == 32) = false := by simp; omega
                      have e1 : ((c : Int) == 1) = true := by simp; omega
                      clear hwv h32 h1
                      go_wp2_with (go_at_call 31; refine (Cl.out _).mono ?_; rintro e2 w2 ⟨rfl, rfl⟩)
                      go_roundw
                      case rel => exact ⟨j + 1, by omega, by go_num, HEnd⟩
                      case measure => simp [intOf]; omega
                    · have e6 : ((c : Int) == 6) = false := by have := Hn6.out; simp; omega
                      have e22 : ((c : Int) == 22) = false := by have := Hn6.out; simp; omega
                      have e32 : ((c : Int) == 32) = false := by simp; omega
                      have e1 : ((c : Int) == 1) = false := by simp; omega
                      clear hwv h32 h1
                      go_wp2_with (go_at_call 31; refine (Cl.out _).mono ?_; rintro e2 w2 ⟨rfl, rfl⟩)
                      go_roundw
                      case rel => exact ⟨j + 1, by omega, by go_num, HEnd⟩
                      case measure => simp [intOf]; omega
          · obtain rfl : j = m := by omega
            have HI4 := Lib.hid (HQ3.out.kept Hb.out)
            have Ct := Lib.hid (counts_any wr _ _ _ _ _ _ _ _ HI4.out.f)
            obtain ⟨z, hz, hz2⟩ : ∃ z : Nat, (2 : Int) * (rk : Int) + 2 = z ∧ z = 2 * (rk + 1) := ⟨2 * (rk + 1), by omega, rfl⟩
            rw [← hz2] at Ct
            clear hz2
            go_wp2_with fail
            refine Ct.out.mono ?_
            rintro e w9 ⟨rfl, rfl⟩
            go_wp2_with fail
            go_roundw
            case rel => exact ⟨rk + 1, st + j + j, by omega, by go_num, by omega, HI4⟩
            case measure => simp [intOf]; omega
      · obtain rfl : rk = rn := by omega
        go_wp2_with fail
        refine (traces_nil _).mono ?_
        rintro e w9 ⟨rfl, hb9⟩
        have HB9 := Lib.hid (HM.out.bel.trans (hb9.mono HM.out.bel.size))
        clear hb9
        go_wp2_with fail
        go_ret
        exact ⟨rfl, HB9.out⟩
  · have e1 : ((er3 : Int) == 0) = false := by simp; omega
    have e2 : ((er3 : Int) != 0) = true := by simp; omega
    have HB3 := Lib.hid ((HB2.out.trans (hb3.mono HB2.out.size)).alloc (Nat.le_trans HB2.out.size hb3.size) (.cells #[.int .i64 a3, .int .i64 er3] 31))
    clear hb3 HB2 HL2
    go_wp2_with fail
    all_goals
      go_ret
      exact ⟨rfl, HB3.out⟩
theorem walk_vmTraces6 (sA : Option Addr) (sn sc : Nat) (rA : Option Addr) (rn rc : Nat) (w : World)
    (h0 : ∃ l : List Sml, l.length = sn ∧ (∀ i ∈ l, i.ok) ∧ Rd w 9 sn sA (l.flatMap Sml.cells) ∧ sn ≤ maxLen)
    (h2 : ∃ l : List (List Nat), l.length = rn ∧ (∀ b ∈ l, Rec.IsRec b) ∧ Rd w 9 rn rA (l.flatMap Rec.recL) ∧ rn ≤ maxLen) (hat : ∀ (l : List (List Nat)) (k j : Nat), j < 9 → (l.flatMap Rec.recL)[k * 9 + j]? = (l[k]?).bind (fun x => (Rec.recL x)[j]?)) :
    Calls Try.prog 9 #[.slice sA sn sc, .slice rA rn rc] w (Yes w) := by
  obtain ⟨S, hl, hok, hr, hm⟩ := h0
  obtain ⟨rs, hl2, hok2, hr2, _⟩ := h2
  exact walk_traces6 S rs sn rn sA rA sc rc w hl hok hr hm hl2 hok2 hr2 hat
end Go.Proofs.Ytnkffjdoillmaaa
