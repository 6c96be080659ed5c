/- MountPlays: the walk. -/
import Derived.Test.YtmbgmbheonpamaaRmU
import Derived.Test.YtmbgmbheonpamaaBkW
import Derived.Test.YtmbgmbheonpamaaMtO
import Derived.Deep.CutBlock
import Derived.Lib.AppendZeros
namespace Go.Proofs.Ytmbgmbheonpamaa.Mt
open Go.RowKit Go.Maps Go.WideElems In
theorem RmR.mono {w : World} {B B' tb A c : Nat} {nv lv cv : Value} {M : Ms} {last : Int} (h : RmR w B tb nv lv cv M last A c) (hB : B' ≤ B) : RmR w B' tb nv lv cv M last A c :=
  ⟨h.tab, own_monoM h.row hB, Nat.le_trans hB h.hB, h.sm, h.fit, h.last⟩
def RNewM (w : World) (e : Ending) (w' : World) : Prop := ∃ tb nv lv cv, e = .returned (.pointer (some ⟨tb, 0, none⟩)) ∧ Rmt w' w.heap.size tb nv lv cv [⟨0, 0, 0, 1, 0⟩] 0 ∧ Below w.heap.size w w'
set_option maxHeartbeats 1000000 in
theorem rnewm_any (w : World) : Calls Try.prog 10 #[.int .i64 1] w (RNewM w) := by
  go_enter Try.func10, Try.ntmps10
  go_wp2_with fail
  go_ret
  generalize hw1 : World.alloc w _ = w1
  have hb1 : Below w.heap.size w w1 := by rw [← hw1]; exact oneb _ _
  have s1 : w1.heap.size = w.heap.size + 1 := by rw [← hw1]; exact World.size_alloc _ _
  clear hw1
  rw [← s1]
  generalize hw2 : World.alloc w1 _ = w2
  have hA : Bk w2 w1.heap.size 94 (rmC ⟨0, 0, 0, 1, 0⟩) := by rw [← hw2]; exact Bk.new w1 _ _ rfl
  have hb2 : Below w.heap.size w w2 := by rw [← hw2]; exact hb1.alloc hb1.size _
  have s2 : w2.heap.size = w1.heap.size + 1 := by rw [← hw2]; exact World.size_alloc _ _
  clear hw2
  rw [← s2]
  generalize hw3 : World.alloc w2 _ = w3
  have hA3 : Bk w3 w1.heap.size 94 (rmC ⟨0, 0, 0, 1, 0⟩) := by rw [← hw3]; exact hA.alloc _
  have hb3 : Below w.heap.size w w3 := by rw [← hw3]; exact hb2.alloc hb2.size _
  have hT : Bk w3 w2.heap.size 56 [.slice (some ⟨w.heap.size, 0, none⟩) 2 2, .int .i64 1, .slice (some ⟨w1.heap.size, 0, none⟩) 1 1, .int .i64 1, .int .i64 0] := by rw [← hw3]; exact Bk.new w2 _ _ rfl
  refine ⟨w2.heap.size, _, _, _, rfl, ⟨w1.heap.size, 1, hT, bk_own hA3 rfl (by decide) (by omega), by omega, fun m hm => ?_, fit_new, by decide⟩, hb3⟩
  simp at hm; subst hm; exact ⟨by decide, ⟨by decide, by decide⟩, by decide, by decide, by decide⟩
/-- The place that a call speaks of; the directory. -/
def acPl (x : AcM) : Pl := if x.raw = true then (x.am, x.ai) else (x.mt % 6, 1 + x.ino % 6)
theorem acPl_ok {x : AcM} (h : x.ok) : InR (acPl x).1 ∧ 0 ≤ (acPl x).2 ∧ (acPl x).2 ≤ 65535 := by
  unfold acPl
  have h1 := h.mt
  have h2 := h.ino
  split
  · exact ⟨h.am, h.ai⟩
  · exact ⟨⟨by show -9223372036854775808 ≤ x.mt % 6; omega, by show x.mt % 6 ≤ 9223372036854775807; omega⟩, by show 0 ≤ 1 + x.ino % 6; omega, by show 1 + x.ino % 6 ≤ 65535; omega⟩
theorem infoPl : (Try.prog.info? 74).map (fun i => (i.zero, i.size, i.bytes)) = some (some (.agg #[.int .i64 0, .int .u16 0]), 2, 16) := by kernel_rfl
theorem pl_ones (l : List Pl) : ∀ u ∈ l.flatMap plC, u.oneCell' = true := fun u hu => by
  obtain ⟨x, _, hx⟩ := List.mem_flatMap.1 hu
  simp only [plC, List.mem_cons, List.not_mem_nil, or_false] at hx
  rcases hx with rfl | rfl <;> rfl
theorem seen_small {M : Ms} (hs : ∀ m ∈ M, Sm m) : ∀ (k : Nat) (p : Pl), 0 ≤ p.2 ∧ p.2 ≤ 65535 → 0 ≤ (seenN k M p).2 ∧ (seenN k M p).2 ≤ 65535
  | 0, p, h => h
  | k + 1, p, h => by
    unfold seenN
    cases e : M.find? (stB p) with
    | none => exact h
    | some m => exact seen_small hs k m.top (hs m (List.mem_of_find?_eq_some e)).root
theorem down_small {M : Ms} (hs : ∀ m ∈ M, Sm m) (p : Pl) : 0 ≤ ((downF M p).getD (0, 0)).2 ∧ ((downF M p).getD (0, 0)).2 ≤ 65535 := by
  unfold downF
  cases e : M.find? (isId p.1) with
  | none => exact ⟨Int.le_refl 0, by show (0 : Int) ≤ 65535; decide⟩
  | some m =>
    dsimp only
    split
    · exact (hs m (List.mem_of_find?_eq_some e)).ai
    · exact ⟨Int.le_refl 0, by show (0 : Int) ≤ 65535; decide⟩
theorem hold_le {M : Ms} {n k : Int} {more : Bool} (_ : 0 ≤ k) (h : ∀ m ∈ M, m.held ≤ k) : ∀ m ∈ holdF M n more, m.held ≤ k + 1 := by
  intro m hm
  unfold holdF at hm
  cases hf : M.find? (isId n) with
  | none => rw [hf] at hm; have := h m hm; omega
  | some q =>
    rw [hf] at hm
    have hq := h q (List.mem_of_find?_eq_some hf)
    have key : ∀ (i : Nat) (v : Int), v ≤ k + 1 → ∀ x ∈ heldM M i q v, x.held ≤ k + 1 := fun i v hv x hx => by
      rcases List.mem_or_eq_of_mem_set hx with hx | rfl
      · have := h x hx; omega
      · exact hv
    dsimp only at hm
    split at hm
    · exact key _ _ (by omega) m hm
    · split at hm
      · have := h m hm; omega
      · exact key _ _ (by omega) m hm
theorem bind_le {M : Ms} {k : Int} {id root : Int} {p : Pl} {c : Prop} [Decidable c] (_ : 0 ≤ k) (h : ∀ m ∈ M, m.held ≤ k) : ∀ m ∈ (if c then bindF M id root p else M), m.held ≤ k + 1 := by
  intro m hm
  split at hm
  · rcases List.mem_append.1 hm with hm | hm
    · have := h m hm; omega
    · simp at hm; subst hm; show (0 : Int) ≤ k + 1; omega
  · have := h m hm; omega
theorem cut_le {M : Ms} {k : Int} {j : Nat} {c : Prop} [Decidable c] (h : ∀ m ∈ M, m.held ≤ k) : ∀ m ∈ (if c then cutF M j else M), m.held ≤ k + 1 := by
  intro m hm
  split at hm
  · have := h m ((List.eraseIdx_sublist M j).subset hm); omega
  · have := h m hm; omega
theorem neqMt (m : MtM) (W : World) : (binOp .neq 90 (.agg #[.int .i64 m.id, .int .i64 m.am, .int .u16 m.ai, .int .u16 m.root, .int .i64 m.held]) (.agg #[.int .i64 m.id, .int .i64 m.am, .int .u16 m.ai, .int .u16 m.root, .int .i64 m.held])).run Try.prog W = .ok (.bool false) W := by
  rw [run_neq_struct, run_equalIn_agg W 9999 _ _ _ (by simp [Program.fieldsOf, Try.underlying90]) (by kernel_rfl)]
  simp [Op.eqFields, Program.fieldsOf, Try.underlying90, go_sem]
theorem fit_find {M : Ms} {last : Int} (hf : Fit M last) {i : Nat} {m : MtM} (hi : M[i]? = some m) : M.find? (isId m.id) = some m :=
  (find_at hi (decide_eq_true rfl) fun j x hj hx => by
    have h1 := (List.pairwise_iff_getElem.1 hf.ids) j i (List.getElem?_eq_some_iff.1 hx).1 (List.getElem?_eq_some_iff.1 hi).1 hj
    rw [(List.getElem?_eq_some_iff.1 hx).2, (List.getElem?_eq_some_iff.1 hi).2] at h1
    exact decide_eq_false (by omega)).1
set_option maxRecDepth 100000 in
set_option maxHeartbeats 16000000 in
theorem walk_mountPlays (x0 : Option Addr) (len0 cap0 : Nat) (x1 : Option Addr) (len1 cap1 : Nat) (w : World) (h0 : ActsIn w x0 len0 cap0) (h1 : PlsIn w x1 len1 cap1) :
    Calls Try.prog 5 #[.slice x0 len0 cap0, .slice x1 len1 cap1] w (BoP true w) := by
  obtain ⟨l, hl, hlok, hrd, hlen, _⟩ := h0
  obtain ⟨ps, hps, hpok, hprd, hplen, hpcap, hpn⟩ := h1
  have HL := Lib.hid hl
  have HLk := Lib.hid hlok
  have HP := Lib.hid hps
  have HPk := Lib.hid hpok
  unfold maxLen at hlen hplen
  have HR := Lib.hid hrd
  have HRp := Lib.hid hprd
  have HPn := Lib.hid hpn
  clear hl hlok hrd hps hpok hprd hpn
  by_cases hbig : 20 < len1
  · have g1 : (20 : Int) < (len1 : Int) := by omega
    go_enter Try.func5, Try.ntmps5
    go_wp2_with fail
    refine (awake_any w).mono ?_
    rintro e w1 ⟨rfl, hb1⟩
    have HB := Lib.hid hb1
    clear hb1
    go_wp2_with fail
    go_ret
    exact ⟨rfl, HB.out⟩
  have g1 : ¬ (20 : Int) < (len1 : Int) := by omega
  go_enter Try.func5, Try.ntmps5
  go_wp2_with fail
  refine (awake_any w).mono ?_
  rintro e w1 ⟨rfl, hb1⟩
  have HB := Lib.hid hb1
  have HR1 := Lib.hid (HR.out.below hb1)
  have HRp1 := Lib.hid (HRp.out.below hb1)
  clear hb1 HR HRp
  go_wp2_with fail
  refine (new_any w1).mono ?_
  rintro e w2 ⟨tb, A2, c2, rfl, hm2, hb2⟩
  have HM2 := Lib.hid (show Mtb w2 w1.heap.size tb [⟨0, 0, 0, 1, 0⟩] 0 from ⟨A2, c2, hm2⟩)
  have HB2 := Lib.hid hb2
  clear hm2 hb2
  go_wp2_with fail
  refine (rnewm_any w2).mono ?_
  rintro e w3 ⟨tr, nv, lv, cv, rfl, ⟨A3, c3, hm3⟩, hb3⟩
  have HR3 := Lib.hid (show Rmt w3 w1.heap.size tr nv lv cv [⟨0, 0, 0, 1, 0⟩] 0 from ⟨A3, c3, hm3.mono HB2.out.size⟩)
  have HM3 := Lib.hid (HM2.out.below hb3)
  have HB3 := Lib.hid (HB2.out.trans (hb3.mono HB2.out.size))
  clear hm3 hb3 HM2 HB2
  go_wp2_with fail
  go_loopw [37] (fun iv wx => ∃ (i : Nat) (M : Ms) (last : Int), iv = .int .i64 i ∧ i ≤ len0 ∧ i ≤ 80 ∧ Hid (Mtb wx w1.heap.size tb M last) ∧ Hid (Rmt wx w1.heap.size tr nv lv cv M last) ∧ Hid (last ≤ i) ∧ Hid (∀ m ∈ M, m.held ≤ i) ∧ Hid (Below w1.heap.size w1 wx)) (fun iv _ => len0 - (intOf iv).toNat)
  case atStart => exact ⟨0, _, _, rfl, by omega, by omega, HM3.out, HR3.out, by show (0 : Int) ≤ ((0 : Nat) : Int); omega, fun m hm => by simp at hm; subst hm; show (0 : Int) ≤ ((0 : Nat) : Int); omega, HB3.out⟩
  case round =>
    obtain ⟨i, M, last, rfl, hi, hi80, HM, HRr, Hla, Hhe, HC⟩ := hrel
    by_cases hlt : i < len0
    · obtain ⟨x, hx⟩ : ∃ x, l[i]? = some x := ⟨_, List.getElem?_eq_getElem (by rw [HL.out]; exact hlt)⟩
      have hxok := HLk.out x (List.mem_of_getElem? hx)
      obtain ⟨bx, ox, rfl, hbx, hcx⟩ := (HR1.out.below HC.out).pos (by omega)
      have cx := fun j v (hj : j < 8) (hv : x.cells[j]? = some v) => hcx (i * 8 + j) v (by rw [flatzM AcM.cells 8 (fun _ => rfl) (by omega) _ _ _ hj, hx]; exact hv)
      have x0 := cx 0 _ (by omega) rfl
      have x1' := cx 1 _ (by omega) rfl
      have x2 := cx 2 _ (by omega) rfl
      have x3 := cx 3 _ (by omega) rfl
      have x4 := cx 4 _ (by omega) rfl
      have x5 := cx 5 _ (by omega) rfl
      have x6 := cx 6 _ (by omega) rfl
      have x7 := cx 7 _ (by omega) rfl
      simp only [← Nat.add_assoc, Nat.add_zero] at x0 x1' x2 x3 x4 x5 x6 x7
      clear cx hcx hx
      by_cases h80 : i < 80
      · have g80 : ¬ (80 : Int) ≤ (i : Int) := by omega
        obtain ⟨am0, am1⟩ := hxok.mt
        obtain ⟨ai0, ai1⟩ := hxok.ino
        obtain ⟨ar0, ar1⟩ := hxok.root
        obtain ⟨ak0, ak1⟩ := hxok.kd
        have e0 : 0 ≤ x.mt % 6 := by omega
        have e1 : x.mt % 6 ≤ 5 := by omega
        have e2 : 0 ≤ x.ino % 6 := by omega
        have e3 : x.ino % 6 ≤ 5 := by omega
        have e4 : 0 ≤ x.root % 6 := by omega
        have e5 : x.root % 6 ≤ 5 := by omega
        have e6 : 0 ≤ x.kd % 8 := by omega
        have e7 : x.kd % 8 ≤ 7 := by omega
        go_upto_if 55 with fail
        have hsz : (wr.alloc (.cells #[.int .u8 x.kd, .int .u8 x.root, .int .u8 x.mt, .int .u8 x.ino, .int .i64 x.am, .int .u16 x.ai, .bool x.more, .bool x.raw] 76)).heap.size = wr.heap.size + 1 := World.size_alloc _ _
        have hbA := twob wr (.cells #[.int .u8 x.kd, .int .u8 x.root, .int .u8 x.mt, .int .u8 x.ino, .int .i64 x.am, .int .u16 x.ai, .bool x.more, .bool x.raw] 76) (.cells #[.int .i64 (x.mt % 6), .int .u16 (1 + x.ino % 6)] 74)
        have hkA : Bk ((wr.alloc (.cells #[.int .u8 x.kd, .int .u8 x.root, .int .u8 x.mt, .int .u8 x.ino, .int .i64 x.am, .int .u16 x.ai, .bool x.more, .bool x.raw] 76)).alloc (.cells #[.int .i64 (x.mt % 6), .int .u16 (1 + x.ino % 6)] 74)) wr.heap.size 76 x.cells := (Bk.new wr _ _ rfl).alloc _
        have hkP : Bk ((wr.alloc (.cells #[.int .u8 x.kd, .int .u8 x.root, .int .u8 x.mt, .int .u8 x.ino, .int .i64 x.am, .int .u16 x.ai, .bool x.more, .bool x.raw] 76)).alloc (.cells #[.int .i64 (x.mt % 6), .int .u16 (1 + x.ino % 6)] 74)) (wr.heap.size + 1) 74 [.int .i64 (x.mt % 6), .int .u16 (1 + x.ino % 6)] := by rw [← hsz]; exact Bk.new _ _ _ rfl
        generalize World.alloc (World.alloc wr _) _ = wa at hbA hkA hkP ⊢
        have HMa := Lib.hid (HM.out.below hbA)
        have HRa := Lib.hid (HRr.out.below hbA)
        have HCa := Lib.hid (HC.out.trans (hbA.mono HC.out.size))
        have HkA := Lib.hid hkA
        have HkP := Lib.hid hkP
        obtain ⟨ab, hab⟩ : ∃ ab, ab = wr.heap.size := ⟨_, rfl⟩
        have Hab := Lib.hid (show w1.heap.size ≤ ab by rw [hab]; exact HC.out.size)
        rw [← hab] at HkA HkP ⊢
        clear hab hsz hbA hkA hkP HM HRr HC x0 x1' x2 x3 x4 x5 x6 x7
        go_cut [] from 41 to 57 (fun wx => Hid (Bk wx (ab + 1) 74 [.int .i64 (acPl x).1, .int .u16 (acPl x).2]) ∧ Hid (Bk wx ab 76 x.cells) ∧ Hid (Mtb wx w1.heap.size tb M last) ∧ Hid (Rmt wx w1.heap.size tr nv lv cv M last) ∧ Hid (Below w1.heap.size w1 wx))
        case first =>
          cases hraw : x.raw with
          | false =>
            have hp : acPl x = (x.mt % 6, 1 + x.ino % 6) := by unfold acPl; rw [hraw]; rfl
            have Hp := Lib.hid hp
            clear hp
            go_wp2_with fail
            go_meet
            case rel => exact ⟨by rw [Hp.out]; exact HkP, HkA, HMa, HRa, HCa⟩
          | true =>
            have hp : acPl x = (x.am, x.ai) := by unfold acPl; rw [hraw]; rfl
            have Hp := Lib.hid hp
            have y4 := HkA.out.cell 4 (v := .int .i64 x.am) rfl
            have y5 := HkA.out.cell 5 (v := .int .u16 x.ai) rfl
            have yl := HkA.out.lt
            obtain ⟨l0, k0, k1, f0, f1⟩ := Bk.all2 HkP.out
            have hgr := put2_grown wa (ab + 1) (.int .i64 x.am) (.int .u16 x.ai)
            have HN1 := Lib.hid (show Bk (put2 wa (ab + 1) (.int .i64 x.am) (.int .u16 x.ai)) (ab + 1) 74 [.int .i64 (acPl x).1, .int .u16 (acPl x).2] by rw [hp]; exact put2_bk _ _ HkP.out)
            have HN2 := Lib.hid (HkA.out.grown hgr (fun e => by have := Option.some.inj e; omega))
            have HN3 := Lib.hid (show Mtb (put2 wa (ab + 1) (.int .i64 x.am) (.int .u16 x.ai)) w1.heap.size tb M last from by
              obtain ⟨A5, c5, h5⟩ := HMa.out
              refine ⟨A5, c5, h5.same fun b q => hgr.block b ?_ ?_⟩
              · rcases q with q | q <;> exact q.lt
              · intro e; cases e
                rcases q with q | q
                · exact q.ne (bk_tyb HkP.out) (by decide) rfl
                · exact q.ne (bk_tyb HkP.out) (by decide) rfl)
            have HN4 := Lib.hid (show Rmt (put2 wa (ab + 1) (.int .i64 x.am) (.int .u16 x.ai)) w1.heap.size tr nv lv cv M last from by
              obtain ⟨A5, c5, h5⟩ := HRa.out
              refine ⟨A5, c5, h5.same fun b q => hgr.block b ?_ ?_⟩
              · rcases q with q | q <;> exact q.lt
              · intro e; cases e
                rcases q with q | q
                · exact q.ne (bk_tyb HkP.out) (by decide) rfl
                · exact q.ne (bk_tyb HkP.out) (by decide) rfl)
            have HN5 := Lib.hid (below_new HCa.out hgr (by have := Hab.out; omega))
            clear hp hgr
            go_wp2_with fail
            go_meet
            case rel => exact ⟨HN1, HN2, HN3, HN4, HN5⟩
        case rest =>
          obtain ⟨HkP, HkA, HMc, HRc, HCc⟩ := hcut
          obtain ⟨pl, p0, p1, -, -⟩ := Bk.all2 HkP.out
          have y0 := HkA.out.cell 0 (v := .int .u8 x.kd) rfl
          have y1 := HkA.out.cell 1 (v := .int .u8 x.root) rfl
          have y6 := HkA.out.cell 6 (v := .bool x.more) rfl
          have yl := HkA.out.lt
          go_upto_block 2 with fail
          have HXok := Lib.hid hxok
          go_cut [12, 13, 14, 15] from 66 to 116 (fun _ _ _ _ wx => ∃ (M' : Ms) (last' : Int), Hid (Mtb wx w1.heap.size tb M' last') ∧ Hid (Rmt wx w1.heap.size tr nv lv cv M' last') ∧ Hid (last' ≤ (i : Int) + 1) ∧ Hid (∀ m ∈ M', m.held ≤ (i : Int) + 1) ∧ Hid (Below w1.heap.size w1 wx))
          case first =>
            clear hxok
            by_cases q4 : x.kd % 8 < 4
            · skip
              have g4 : x.kd % 8 < 4 := q4
              obtain ⟨A5, c5, h5⟩ := HMc.out
              have hbd := bind_pl h5 (1 + x.root % 6) (by omega) (acPl x) (acPl_ok HXok.out) (by have := Hla.out; omega) rfl rfl
              unfold BindP at hbd
              obtain ⟨E, hE⟩ : ∃ E, E = bindE M (acPl x) := ⟨_, rfl⟩
              have HE := Lib.hid hE
              rw [← hE] at hbd
              obtain ⟨nn, hnn⟩ : ∃ nn, nn = (if E = 0 then last + 1 else 0) := ⟨_, rfl⟩
              rw [← hnn] at hbd
              have Hnn := Lib.hid hnn
              have HBd := Lib.hid hbd
              clear hbd h5 hE hnn
              go_wp2_with fail
              refine HBd.out.mono ?_
              rintro e w5 ⟨rfl, hm5, hf5⟩
              have HM5 := Lib.hid hm5
              have HR5 := Lib.hid (HRc.out.other hf5 (by decide) (by decide))
              have HC5 := Lib.hid (HCc.out.trans (hf5.below HCc.out.size))
              have HkP5 := Lib.hid (hf5.bk HkP.out (by decide))
              clear hm5 hf5 HBd y0 y1 y6 yl pl p0 p1
              obtain ⟨pl, p0, p1, -, -⟩ := Bk.all2 HkP5.out
              have hrf := fun W => ref_any (acPl x) (acPl_ok HXok.out).2 W
              unfold plV at hrf
              go_wp2_with fail
              refine (hrf _).mono ?_
              rintro e w6 ⟨rfl, hb6⟩
              have HR6 := Lib.hid (HR5.out.below hb6)
              have HM6 := Lib.hid (HM5.out.below hb6)
              have HC6 := Lib.hid (HC5.out.trans (hb6.mono HC5.out.size))
              unfold rpV
              clear hb6 hrf pl p0 p1
              obtain ⟨A6, c6, h6⟩ := HR6.out
              have hrb := rbind_any h6 (1 + x.root % 6) (by omega) (acPl x) (acPl_ok HXok.out) (by have := Hla.out; omega)
              unfold RBindP at hrb
              rw [← HE.out, ← Hnn.out] at hrb
              have HRb := Lib.hid hrb
              unfold rpV at HRb
              clear hrb h6
              go_wp2_with fail
              refine HRb.out.mono ?_
              rintro e w7 ⟨rfl, hr7, hf7⟩
              have HR7 := Lib.hid hr7
              have HM7 := Lib.hid (HM6.out.other hf7 (by decide) (by decide))
              have HC7 := Lib.hid (HC6.out.trans (hf7.below HC6.out.size))
              clear hr7 hf7 HRb
              go_wp2_with fail
              go_meet
              case rel => exact ⟨_, _, HM7, HR7, Lib.hid (by have := Hla.out; split <;> omega), bind_le (by omega) Hhe.out, HC7⟩
            by_cases q6 : x.kd % 8 < 6
            · skip
              have g4 : ¬ x.kd % 8 < 4 := q4
              have g6 : x.kd % 8 < 6 := q6
              obtain ⟨E, hE⟩ : ∃ E, E = dropE M (acPl x) := ⟨_, rfl⟩
              have HE := Lib.hid hE
              clear hE
              go_wp2_with fail
              clear y0 y1 y6 yl pl p0 p1
              have HMv := Lib.hid (HMc.out.below (Below.refl _ _).drew)
              have HRv := Lib.hid (HRc.out.below (Below.refl _ _).drew)
              have HCv := Lib.hid (HCc.out.drew)
              have HkPv := Lib.hid HkP.out.drew
              have HkAv := Lib.hid HkA.out.drew
              refine wp_region_held_drew (S := (fun W => W.cell? ⟨ab + 1, 0, none⟩ = some (.int .i64 (acPl x).1) ∧ W.cell? ⟨ab + 1, 1, none⟩ = some (.int .u16 (acPl x).2))) (by kernel_rfl) ?_ (fun hHeld0 => ?_)
              · exact ⟨HkPv.out.cell 0 rfl, HkPv.out.cell 1 rfl⟩
              generalize World.drew wc = vh0 at hHeld0 HMv HRv HCv HkPv HkAv ⊢
              refine wpAnyH_take (i := 0) (v := ?_) (by first | (simp only [List.getElem?_toArray, List.getElem?_cons_zero] <;> rfl) | rfl) (by kernel_rfl) (by kernel_rfl) (by kernel_rfl) (by exact fun _ _ _ h => h) (Or.inl ⟨by rfl, ?_⟩) hHeld0 ?_
              rotate_left 1
              · intro w hSw
                try dsimp only at hSw
                (go_simp) <;> (with_reducible rfl)
              try simp only [Act.put, List.setIfInBounds_toArray, List.set_cons_zero, List.set_cons_succ]
              refine wpAnyH_take (i := 1) (v := ?_) (by first | (simp only [List.getElem?_toArray, List.getElem?_cons_succ, List.getElem?_cons_zero] <;> rfl) | rfl) (by kernel_rfl) (by kernel_rfl) (by kernel_rfl) (by exact fun _ _ _ h => h) (Or.inl ⟨by rfl, ?_⟩) hHeld0 ?_
              rotate_left 1
              · intro w hSw
                try dsimp only at hSw
                (go_simp) <;> (with_reducible rfl)
              try simp only [Act.put, List.setIfInBounds_toArray, List.set_cons_zero, List.set_cons_succ]
              refine wpAnyH_take (i := 3) (v := ?_) (by first | (simp only [List.getElem?_toArray, List.getElem?_cons_succ, List.getElem?_cons_zero] <;> rfl) | rfl) (by kernel_rfl) (by kernel_rfl) (by kernel_rfl) (by exact fun _ _ _ h => h) (Or.inl ⟨by rfl, ?_⟩) hHeld0 ?_
              rotate_left 1
              · intro w hSw
                try dsimp only at hSw
                (go_simp) <;> (with_reducible rfl)
              try simp only [Act.put, List.setIfInBounds_toArray, List.set_cons_zero, List.set_cons_succ]
              refine wpAnyH_take (i := 4) (v := ?_) (by first | (simp only [List.getElem?_toArray, List.getElem?_cons_succ, List.getElem?_cons_zero] <;> rfl) | rfl) (by kernel_rfl) (by kernel_rfl) (by kernel_rfl) (by exact fun _ _ _ h => h) (Or.inl ⟨by rfl, ?_⟩) hHeld0 ?_
              rotate_left 1
              · intro w hSw
                try dsimp only at hSw
                (go_simp) <;> (with_reducible rfl)
              try simp only [Act.put, List.setIfInBounds_toArray, List.set_cons_zero, List.set_cons_succ]
              refine wpAnyH_ready (rs := [2]) (by kernel_rfl) (by simp) ?_
              refine AllReadyH.cons (by first | (simp only [List.getElem?_toArray, List.getElem?_cons_succ, List.getElem?_cons_zero] <;> rfl) | rfl) (fun K hK => ?_) ?_
              · skip
                go_simp
                obtain ⟨A5, c5, h5⟩ := HMv.out
                refine (drop_any h5 (acPl x)).mono ?_
                rintro e vh1 ⟨rfl, hm5, hf5⟩
                have HM5 := Lib.hid hm5
                have HR5 := Lib.hid (HRv.out.other hf5 (by decide) (by decide))
                have HC5 := Lib.hid (HCv.out.trans (hf5.below HCv.out.size))
                have HkP5 := Lib.hid (hf5.bk HkPv.out (by decide))
                rw [← HE.out]
                refine hK.out _ _ ⟨HkP5.out.cell 0 rfl, HkP5.out.cell 1 rfl⟩ (fun hHeld1 => ?_)
                clear hK K hHeld0 h5 hm5 hf5
                try simp only [Act.put, List.setIfInBounds_toArray, List.set_cons_zero, List.set_cons_succ]
                refine wpAnyH_ready (rs := [5]) (by kernel_rfl) (by simp) ?_
                refine AllReadyH.cons (by first | (simp only [List.getElem?_toArray, List.getElem?_cons_succ, List.getElem?_cons_zero] <;> rfl) | rfl) (fun K hK => ?_) ?_
                · skip
                  go_simp
                  refine (ref_any (acPl x) (acPl_ok HXok.out).2 _).mono ?_
                  rintro e vh2 ⟨rfl, hb6⟩
                  have HR6 := Lib.hid (HR5.out.below hb6)
                  have HM6 := Lib.hid (HM5.out.below hb6)
                  have HC6 := Lib.hid (HC5.out.trans (hb6.mono HC5.out.size))
                  have HkP6 := Lib.hid (HkP5.out.kept hb6)
                  unfold rpV
                  refine hK.out _ _ ⟨HkP6.out.cell 0 rfl, HkP6.out.cell 1 rfl⟩ (fun hHeld2 => ?_)
                  clear hK K hHeld1 hb6
                  try simp only [Act.put, List.setIfInBounds_toArray, List.set_cons_zero, List.set_cons_succ]
                  refine wpAnyH_ready (rs := [6]) (by kernel_rfl) (by simp) ?_
                  refine AllReadyH.cons (by first | (simp only [List.getElem?_toArray, List.getElem?_cons_succ, List.getElem?_cons_zero] <;> rfl) | rfl) (fun K hK => ?_) ?_
                  · skip
                    go_simp
                    obtain ⟨A6, c6, h6⟩ := HR6.out
                    refine (runm_any h6 (acPl x)).mono ?_
                    rintro e vh3 ⟨rfl, hr7, hf7⟩
                    have HR7 := Lib.hid hr7
                    have HM7 := Lib.hid (HM6.out.other hf7 (by decide) (by decide))
                    have HC7 := Lib.hid (HC6.out.trans (hf7.below HC6.out.size))
                    have HkP7 := Lib.hid (hf7.bk HkP6.out (by decide))
                    rw [← HE.out]
                    refine hK.out _ _ ⟨HkP7.out.cell 0 rfl, HkP7.out.cell 1 rfl⟩ (fun hHeld3 => ?_)
                    clear hK K hHeld2 h6 hr7 hf7
                    try simp only [Act.put, List.setIfInBounds_toArray, List.set_cons_zero, List.set_cons_succ]
                    refine wpAnyH_take (i := 7) (v := ?_) (by first | (simp only [List.getElem?_toArray, List.getElem?_cons_succ, List.getElem?_cons_zero] <;> rfl) | rfl) (by kernel_rfl) (by kernel_rfl) (by kernel_rfl) (by exact fun _ _ _ h => h) (Or.inl ⟨by rfl, ?_⟩) hHeld3 ?_
                    rotate_left 1
                    · intro w hSw
                      try dsimp only at hSw
                      (go_simp) <;> (with_reducible rfl)
                    try simp only [Act.put, List.setIfInBounds_toArray, List.set_cons_zero, List.set_cons_succ]
                    refine wpAnyH_done (by kernel_rfl) ?_ _
                    rename World => w8
                    clear hHeld3
                    go_wp2_with fail
                    go_meet
                    case rel => exact ⟨_, _, HM7, HR7, Lib.hid (by have := Hla.out; omega), cut_le Hhe.out, HC7⟩
                  exact AllReadyH.nil
                exact AllReadyH.nil
              exact AllReadyH.nil
            · skip
              have g4 : ¬ x.kd % 8 < 4 := q4
              have g6 : ¬ x.kd % 8 < 6 := q6
              obtain ⟨E, hE⟩ : ∃ E, E = holdE M (acPl x).1 x.more := ⟨_, rfl⟩
              have HE := Lib.hid hE
              clear hE
              go_wp2_with fail
              clear y0 y1 y6 yl pl p0 p1
              have HMv := Lib.hid (HMc.out.below (Below.refl _ _).drew)
              have HRv := Lib.hid (HRc.out.below (Below.refl _ _).drew)
              have HCv := Lib.hid (HCc.out.drew)
              have HkPv := Lib.hid HkP.out.drew
              have HkAv := Lib.hid HkA.out.drew
              refine wp_region_held_drew (S := (fun W => W.cell? ⟨ab + 1, 0, none⟩ = some (.int .i64 (acPl x).1) ∧ W.cell? ⟨ab, 6, none⟩ = some (.bool x.more))) (by kernel_rfl) ?_ (fun hHeld0 => ?_)
              · exact ⟨HkPv.out.cell 0 rfl, HkAv.out.cell 6 rfl⟩
              generalize World.drew wc = vh0 at hHeld0 HMv HRv HCv HkPv HkAv ⊢
              refine wpAnyH_take (i := 0) (v := ?_) (by first | (simp only [List.getElem?_toArray, List.getElem?_cons_zero] <;> rfl) | rfl) (by kernel_rfl) (by kernel_rfl) (by kernel_rfl) (by exact fun _ _ _ h => h) (Or.inl ⟨by rfl, ?_⟩) hHeld0 ?_
              rotate_left 1
              · intro w hSw
                try dsimp only at hSw
                (go_simp) <;> (with_reducible rfl)
              try simp only [Act.put, List.setIfInBounds_toArray, List.set_cons_zero, List.set_cons_succ]
              refine wpAnyH_take (i := 1) (v := ?_) (by first | (simp only [List.getElem?_toArray, List.getElem?_cons_succ, List.getElem?_cons_zero] <;> rfl) | rfl) (by kernel_rfl) (by kernel_rfl) (by kernel_rfl) (by exact fun _ _ _ h => h) (Or.inl ⟨by rfl, ?_⟩) hHeld0 ?_
              rotate_left 1
              · intro w hSw
                try dsimp only at hSw
                (go_simp) <;> (with_reducible rfl)
              try simp only [Act.put, List.setIfInBounds_toArray, List.set_cons_zero, List.set_cons_succ]
              refine wpAnyH_take (i := 2) (v := ?_) (by first | (simp only [List.getElem?_toArray, List.getElem?_cons_succ, List.getElem?_cons_zero] <;> rfl) | rfl) (by kernel_rfl) (by kernel_rfl) (by kernel_rfl) (by exact fun _ _ _ h => h) (Or.inl ⟨by rfl, ?_⟩) hHeld0 ?_
              rotate_left 1
              · intro w hSw
                try dsimp only at hSw
                (go_simp) <;> (with_reducible rfl)
              try simp only [Act.put, List.setIfInBounds_toArray, List.set_cons_zero, List.set_cons_succ]
              refine wpAnyH_take (i := 3) (v := ?_) (by first | (simp only [List.getElem?_toArray, List.getElem?_cons_succ, List.getElem?_cons_zero] <;> rfl) | rfl) (by kernel_rfl) (by kernel_rfl) (by kernel_rfl) (by exact fun _ _ _ h => h) (Or.inl ⟨by rfl, ?_⟩) hHeld0 ?_
              rotate_left 1
              · intro w hSw
                try dsimp only at hSw
                (go_simp) <;> (with_reducible rfl)
              try simp only [Act.put, List.setIfInBounds_toArray, List.set_cons_zero, List.set_cons_succ]
              refine wpAnyH_take (i := 4) (v := ?_) (by first | (simp only [List.getElem?_toArray, List.getElem?_cons_succ, List.getElem?_cons_zero] <;> rfl) | rfl) (by kernel_rfl) (by kernel_rfl) (by kernel_rfl) (by exact fun _ _ _ h => h) (Or.inl ⟨by rfl, ?_⟩) hHeld0 ?_
              rotate_left 1
              · intro w hSw
                try dsimp only at hSw
                (go_simp) <;> (with_reducible rfl)
              try simp only [Act.put, List.setIfInBounds_toArray, List.set_cons_zero, List.set_cons_succ]
              refine wpAnyH_take (i := 6) (v := ?_) (by first | (simp only [List.getElem?_toArray, List.getElem?_cons_succ, List.getElem?_cons_zero] <;> rfl) | rfl) (by kernel_rfl) (by kernel_rfl) (by kernel_rfl) (by exact fun _ _ _ h => h) (Or.inl ⟨by rfl, ?_⟩) hHeld0 ?_
              rotate_left 1
              · intro w hSw
                try dsimp only at hSw
                (go_simp) <;> (with_reducible rfl)
              try simp only [Act.put, List.setIfInBounds_toArray, List.set_cons_zero, List.set_cons_succ]
              refine wpAnyH_take (i := 7) (v := ?_) (by first | (simp only [List.getElem?_toArray, List.getElem?_cons_succ, List.getElem?_cons_zero] <;> rfl) | rfl) (by kernel_rfl) (by kernel_rfl) (by kernel_rfl) (by exact fun _ _ _ h => h) (Or.inl ⟨by rfl, ?_⟩) hHeld0 ?_
              rotate_left 1
              · intro w hSw
                try dsimp only at hSw
                (go_simp) <;> (with_reducible rfl)
              try simp only [Act.put, List.setIfInBounds_toArray, List.set_cons_zero, List.set_cons_succ]
              refine wpAnyH_take (i := 8) (v := ?_) (by first | (simp only [List.getElem?_toArray, List.getElem?_cons_succ, List.getElem?_cons_zero] <;> rfl) | rfl) (by kernel_rfl) (by kernel_rfl) (by kernel_rfl) (by exact fun _ _ _ h => h) (Or.inl ⟨by rfl, ?_⟩) hHeld0 ?_
              rotate_left 1
              · intro w hSw
                try dsimp only at hSw
                (go_simp) <;> (with_reducible rfl)
              try simp only [Act.put, List.setIfInBounds_toArray, List.set_cons_zero, List.set_cons_succ]
              refine wpAnyH_take (i := 9) (v := ?_) (by first | (simp only [List.getElem?_toArray, List.getElem?_cons_succ, List.getElem?_cons_zero] <;> rfl) | rfl) (by kernel_rfl) (by kernel_rfl) (by kernel_rfl) (by exact fun _ _ _ h => h) (Or.inl ⟨by rfl, ?_⟩) hHeld0 ?_
              rotate_left 1
              · intro w hSw
                try dsimp only at hSw
                (go_simp) <;> (with_reducible rfl)
              try simp only [Act.put, List.setIfInBounds_toArray, List.set_cons_zero, List.set_cons_succ]
              refine wpAnyH_take (i := 10) (v := ?_) (by first | (simp only [List.getElem?_toArray, List.getElem?_cons_succ, List.getElem?_cons_zero] <;> rfl) | rfl) (by kernel_rfl) (by kernel_rfl) (by kernel_rfl) (by exact fun _ _ _ h => h) (Or.inl ⟨by rfl, ?_⟩) hHeld0 ?_
              rotate_left 1
              · intro w hSw
                try dsimp only at hSw
                (go_simp) <;> (with_reducible rfl)
              try simp only [Act.put, List.setIfInBounds_toArray, List.set_cons_zero, List.set_cons_succ]
              refine wpAnyH_ready (rs := [5]) (by kernel_rfl) (by simp) ?_
              refine AllReadyH.cons (by first | (simp only [List.getElem?_toArray, List.getElem?_cons_succ, List.getElem?_cons_zero] <;> rfl) | rfl) (fun K hK => ?_) ?_
              · skip
                go_simp
                obtain ⟨A5, c5, h5⟩ := HMv.out
                refine (hold_any h5 (acPl x).1 x.more (fun m hm => by have := Hhe.out m hm; omega)).mono ?_
                rintro e vh1 ⟨rfl, hm5, hf5⟩
                have HM5 := Lib.hid hm5
                have HR5 := Lib.hid (HRv.out.other hf5 (by decide) (by decide))
                have HC5 := Lib.hid (HCv.out.trans (hf5.below HCv.out.size))
                have HkP5 := Lib.hid (hf5.bk HkPv.out (by decide))
                have HkA5 := Lib.hid (hf5.bk HkAv.out (by decide))
                rw [← HE.out]
                refine hK.out _ _ ⟨HkP5.out.cell 0 rfl, HkA5.out.cell 6 rfl⟩ (fun hHeld1 => ?_)
                clear hK K hHeld0 h5 hm5 hf5
                try simp only [Act.put, List.setIfInBounds_toArray, List.set_cons_zero, List.set_cons_succ]
                refine wpAnyH_ready (rs := [11]) (by kernel_rfl) (by simp) ?_
                refine AllReadyH.cons (by first | (simp only [List.getElem?_toArray, List.getElem?_cons_succ, List.getElem?_cons_zero] <;> rfl) | rfl) (fun K hK => ?_) ?_
                · skip
                  go_simp
                  obtain ⟨A6, c6, h6⟩ := HR5.out
                  refine (rhold_any h6 (acPl x).1 x.more (fun m hm => by have := Hhe.out m hm; omega)).mono ?_
                  rintro e vh2 ⟨rfl, hr7, hf7⟩
                  have HR7 := Lib.hid hr7
                  have HM7 := Lib.hid (HM5.out.other hf7 (by decide) (by decide))
                  have HC7 := Lib.hid (HC5.out.trans (hf7.below HC5.out.size))
                  have HkP7 := Lib.hid (hf7.bk HkP5.out (by decide))
                  have HkA7 := Lib.hid (hf7.bk HkA5.out (by decide))
                  rw [← HE.out]
                  refine hK.out _ _ ⟨HkP7.out.cell 0 rfl, HkA7.out.cell 6 rfl⟩ (fun hHeld2 => ?_)
                  clear hK K hHeld1 h6 hr7 hf7
                  try simp only [Act.put, List.setIfInBounds_toArray, List.set_cons_zero, List.set_cons_succ]
                  refine wpAnyH_take (i := 12) (v := ?_) (by first | (simp only [List.getElem?_toArray, List.getElem?_cons_succ, List.getElem?_cons_zero] <;> rfl) | rfl) (by kernel_rfl) (by kernel_rfl) (by kernel_rfl) (by exact fun _ _ _ h => h) (Or.inl ⟨by rfl, ?_⟩) hHeld2 ?_
                  rotate_left 1
                  · intro w hSw
                    try dsimp only at hSw
                    (go_simp) <;> (with_reducible rfl)
                  try simp only [Act.put, List.setIfInBounds_toArray, List.set_cons_zero, List.set_cons_succ]
                  refine wpAnyH_done (by kernel_rfl) ?_ _
                  rename World => w8
                  clear hHeld2
                  go_wp2_with fail
                  go_meet
                  case rel => exact ⟨_, _, HM7, HR7, Lib.hid (by have := Hla.out; omega), hold_le (by omega) Hhe.out, HC7⟩
                exact AllReadyH.nil
              exact AllReadyH.nil
          case rest =>
            clear y0 y1 y6 yl pl p0 p1 HMc HRc HCc HkP HkA hxok Hla Hhe
            obtain ⟨M2, last2, HM2', HR2', Hla2, Hhe2, HC2'⟩ := hcut
            rename World => wc
            obtain ⟨A5, c5, h5⟩ := HM2'.out
            have hl := list_any h5
            have hlen5 := h5.fit.len
            have HFit := Lib.hid h5.fit
            unfold LsP at hl
            obtain ⟨N, hN⟩ : ∃ N, N = M2.length := ⟨_, rfl⟩
            have HN := Lib.hid hN
            rw [← hN] at hl hlen5
            clear h5 hN
            go_wp2_with fail
            refine hl.mono ?_
            rintro e w5 ⟨A6, c6, rfl, ho6, hb6⟩
            have HM5 := Lib.hid (HM2'.out.below hb6)
            have HR5 := Lib.hid (HR2'.out.below hb6)
            have HC5 := Lib.hid (HC2'.out.trans (hb6.mono HC2'.out.size))
            obtain ⟨Aq, cq, eq6, _, hrq, htq, _⟩ := own_typed ho6
            cases eq6
            have HO := Lib.hid hrq.rd
            clear ho6 hb6 hl hrq htq
            obtain ⟨A7, c7, h7⟩ := HR5.out
            have z2 := h7.c2
            rw [← HN.out] at z2
            have zl := h7.tab.lt
            clear h7
            go_wp2_with fail
            clear z2 zl
            go_loopw [129] (fun jv wx => ∃ j : Nat, jv = .int .i64 j ∧ j ≤ N ∧ Hid (Rd wx 5 N (some ⟨A6, 0, none⟩) (M2.flatMap mtC)) ∧ Hid (Mtb wx w1.heap.size tb M2 last2) ∧ Hid (Rmt wx w1.heap.size tr nv lv cv M2 last2) ∧ Hid (Below w1.heap.size w1 wx)) (fun jv _ => N - (intOf jv).toNat)
            case atStart => exact ⟨0, rfl, by omega, HO.out, HM5.out, HR5.out, HC5.out⟩
            case round =>
              rename World => wj
              obtain ⟨j, rfl, hj, HOj, HMj, HRj, HCj⟩ := hrel
              by_cases hjl : j < N
              · obtain ⟨m, hm⟩ : ∃ m, M2[j]? = some m := ⟨_, List.getElem?_eq_getElem (by rw [← HN.out]; exact hjl)⟩
                obtain ⟨bq, oq, eA, hbq, hcq⟩ := HOj.out.pos (by omega)
                cases eA
                have cq5 := fun k v (hk : k < 5) (hv : (mtC m)[k]? = some v) => hcq (j * 5 + k) v (by rw [flat5 mtC (fun _ => rfl) _ _ _ hk, hm]; exact hv)
                have m0 := cq5 0 _ (by omega) rfl
                have m1 := cq5 1 _ (by omega) rfl
                have m2 := cq5 2 _ (by omega) rfl
                have m3 := cq5 3 _ (by omega) rfl
                have m4 := cq5 4 _ (by omega) rfl
                simp only [Nat.zero_add, Nat.add_zero] at m0 m1 m2 m3 m4
                have Hm := Lib.hid hm
                have HFm := Lib.hid (fit_find HFit.out hm)
                have hsm : Sm m := by obtain ⟨_, _, hq⟩ := HMj.out; exact hq.sm m (List.mem_of_getElem? hm)
                have Hsm := Lib.hid hsm
                obtain ⟨hr0, hr1⟩ := hsm.root
                obtain ⟨ha0, ha1⟩ := hsm.ai
                clear cq5 hcq hm hsm
                obtain ⟨Wa, hWa⟩ : ∃ Wa, Wa = wj.alloc (.cells #[.int .i64 m.id, .int .i64 m.am, .int .u16 m.ai, .int .u16 m.root, .int .i64 m.held] 90) := ⟨_, rfl⟩
                have hba : Below wj.heap.size wj Wa := by rw [hWa]; exact oneb _ _
                have HkX := Lib.hid (show Bk Wa wj.heap.size 90 (mtC m) by rw [hWa]; exact Bk.new _ _ _ rfl)
                have HMa := Lib.hid (HMj.out.below hba)
                have HRa := Lib.hid (HRj.out.below hba)
                have HCa := Lib.hid (HCj.out.trans (hba.mono HCj.out.size))
                have HOa := Lib.hid (HOj.out.below hba)
                obtain ⟨A8, c8, h8⟩ := HMa.out
                have hgt := get_any h8 m.id
                unfold GetP at hgt
                rw [HFm.out] at hgt
                unfold mtV at hgt
                dsimp only [Option.getD_some, Option.isSome_some] at hgt
                have HGt := Lib.hid hgt
                clear h8 hgt hba
                go_wp2_with fail
                rw [← hWa]
                refine HGt.out.mono ?_
                rintro e w8 ⟨rfl, hb8⟩
                have HkX8 := Lib.hid (HkX.out.kept hb8)
                have HM8 := Lib.hid (HMa.out.below hb8)
                have HR8 := Lib.hid (HRa.out.below hb8)
                have HC8 := Lib.hid (HCa.out.trans (hb8.mono HCa.out.size))
                have HO8 := Lib.hid (HOa.out.below hb8)
                obtain ⟨xb, hxb⟩ : ∃ xb, xb = wj.heap.size := ⟨_, rfl⟩
                rw [← hxb] at HkX8 ⊢
                clear hb8 HGt HMa HRa HCa HOa HkX hWa hxb m0 m1 m2 m3 m4
                obtain ⟨A9, c9, h9⟩ := HR8.out
                have H9 := Lib.hid (h9.below (oneb w8 (.cells #[.int .i64 m.id, .int .i64 m.am, .int .u16 m.ai, .int .u16 m.root, .int .i64 m.held] 90)))
                have z2 := H9.out.c2
                rw [← HN.out] at z2
                have zl := H9.out.tab.lt
                have zA := H9.out.tyA.lt
                obtain ⟨r0, r1, r2, r3, r4⟩ := H9.out.cells5 Hm.out
                clear h9
                go_upto_region 33 with fail
                have hbT := twob w8 (.cells #[.int .i64 m.id, .int .i64 m.am, .int .u16 m.ai, .int .u16 m.root, .int .i64 m.held] 90) (.cells #[.int .i64 m.id, .int .i64 m.root, .int .i64 m.am, .int .i64 m.ai, .int .i64 m.held] 94)
                have hsz := World.size_alloc w8 (.cells #[.int .i64 m.id, .int .i64 m.am, .int .u16 m.ai, .int .u16 m.root, .int .i64 m.held] 90)
                have hkY : Bk ((w8.alloc (.cells #[.int .i64 m.id, .int .i64 m.am, .int .u16 m.ai, .int .u16 m.root, .int .i64 m.held] 90)).alloc (.cells #[.int .i64 m.id, .int .i64 m.root, .int .i64 m.am, .int .i64 m.ai, .int .i64 m.held] 94)) w8.heap.size 90 (mtC m) := (Bk.new w8 _ _ rfl).alloc _
                have hkZ : Bk ((w8.alloc (.cells #[.int .i64 m.id, .int .i64 m.am, .int .u16 m.ai, .int .u16 m.root, .int .i64 m.held] 90)).alloc (.cells #[.int .i64 m.id, .int .i64 m.root, .int .i64 m.am, .int .i64 m.ai, .int .i64 m.held] 94)) (w8.heap.size + 1) 94 (rmC m) := by rw [← hsz]; exact Bk.new _ _ _ rfl
                clear z2 zl zA r0 r1 r2 r3 r4 H9 hsz
                generalize World.alloc (World.alloc w8 _) _ = w9 at hbT hkY hkZ ⊢
                have HkX9 := Lib.hid (HkX8.out.kept hbT)
                have HkY := Lib.hid hkY
                have HkZ := Lib.hid hkZ
                have HM9 := Lib.hid (HM8.out.below hbT)
                have HR9 := Lib.hid (HR8.out.below hbT)
                have HC9 := Lib.hid (HC8.out.trans (hbT.mono HC8.out.size))
                have HO9 := Lib.hid (HO8.out.below hbT)
                obtain ⟨yb, hyb⟩ : ∃ yb, yb = w8.heap.size := ⟨_, rfl⟩
                rw [← hyb] at HkY HkZ ⊢
                clear hbT hkY hkZ hyb HkX8 HM8 HR8 HC8 HO8
                have HmkS := Lib.hid (fun (W : World) (hb : Below w9.heap.size w9 W) => (⟨(HkX9.out.kept hb).cell 0 rfl, (HkX9.out.kept hb).cell 1 rfl, (HkX9.out.kept hb).cell 2 rfl, (HkX9.out.kept hb).cell 3 rfl, (HkX9.out.kept hb).cell 4 rfl, (HkY.out.kept hb).cell 0 rfl, (HkY.out.kept hb).cell 1 rfl, (HkY.out.kept hb).cell 2 rfl, (HkY.out.kept hb).cell 3 rfl, (HkY.out.kept hb).cell 4 rfl, (HkZ.out.kept hb).cell 0 rfl, (HkZ.out.kept hb).cell 1 rfl, (HkZ.out.kept hb).cell 2 rfl, (HkZ.out.kept hb).cell 3 rfl, (HkZ.out.kept hb).cell 4 rfl⟩ : W.cell? ⟨xb, 0, none⟩ = some (.int .i64 m.id) ∧ W.cell? ⟨xb, 1, none⟩ = some (.int .i64 m.am) ∧ W.cell? ⟨xb, 2, none⟩ = some (.int .u16 m.ai) ∧ W.cell? ⟨xb, 3, none⟩ = some (.int .u16 m.root) ∧ W.cell? ⟨xb, 4, none⟩ = some (.int .i64 m.held) ∧ W.cell? ⟨yb, 0, none⟩ = some (.int .i64 m.id) ∧ W.cell? ⟨yb, 1, none⟩ = some (.int .i64 m.am) ∧ W.cell? ⟨yb, 2, none⟩ = some (.int .u16 m.ai) ∧ W.cell? ⟨yb, 3, none⟩ = some (.int .u16 m.root) ∧ W.cell? ⟨yb, 4, none⟩ = some (.int .i64 m.held) ∧ W.cell? ⟨yb + 1, 0, none⟩ = some (.int .i64 m.id) ∧ W.cell? ⟨yb + 1, 1, none⟩ = some (.int .i64 m.root) ∧ W.cell? ⟨yb + 1, 2, none⟩ = some (.int .i64 m.am) ∧ W.cell? ⟨yb + 1, 3, none⟩ = some (.int .i64 m.ai) ∧ W.cell? ⟨yb + 1, 4, none⟩ = some (.int .i64 m.held)))
                have HBv := Lib.hid (Below.refl w9.heap.size w9).drew
                have hneq := fun W => neqMt m W
                have hneqr := fun W => neqRPl m.am m.ai m.am m.ai W false (by simp)
                have hb1 : (m.id != m.id) = false := by simp
                have hb2 : (m.root != m.root) = false := by simp
                have hb3 : (m.held != m.held) = false := by simp
                have hwr : IntKind.i64.wrap m.root = m.root := by rw [IntKind.wrap_i64]; omega
                refine wp_region_held_drew (S := (fun W => W.cell? ⟨xb, 0, none⟩ = some (.int .i64 m.id) ∧ W.cell? ⟨xb, 1, none⟩ = some (.int .i64 m.am) ∧ W.cell? ⟨xb, 2, none⟩ = some (.int .u16 m.ai) ∧ W.cell? ⟨xb, 3, none⟩ = some (.int .u16 m.root) ∧ W.cell? ⟨xb, 4, none⟩ = some (.int .i64 m.held) ∧ W.cell? ⟨yb, 0, none⟩ = some (.int .i64 m.id) ∧ W.cell? ⟨yb, 1, none⟩ = some (.int .i64 m.am) ∧ W.cell? ⟨yb, 2, none⟩ = some (.int .u16 m.ai) ∧ W.cell? ⟨yb, 3, none⟩ = some (.int .u16 m.root) ∧ W.cell? ⟨yb, 4, none⟩ = some (.int .i64 m.held) ∧ W.cell? ⟨yb + 1, 0, none⟩ = some (.int .i64 m.id) ∧ W.cell? ⟨yb + 1, 1, none⟩ = some (.int .i64 m.root) ∧ W.cell? ⟨yb + 1, 2, none⟩ = some (.int .i64 m.am) ∧ W.cell? ⟨yb + 1, 3, none⟩ = some (.int .i64 m.ai) ∧ W.cell? ⟨yb + 1, 4, none⟩ = some (.int .i64 m.held))) (by kernel_rfl) ?_ (fun hHeld0 => ?_)
                · exact HmkS.out _ (Below.refl _ _).drew
                generalize World.drew w9 = vh0 at hHeld0 HBv ⊢
                refine wpAnyH_take (i := 0) (v := ?_) (by first | (simp only [List.getElem?_toArray, List.getElem?_cons_zero] <;> rfl) | rfl) (by kernel_rfl) (by kernel_rfl) (by kernel_rfl) (by exact fun _ _ _ h => h) (Or.inl ⟨by rfl, ?_⟩) hHeld0 ?_
                rotate_left 1
                · intro w hSw
                  try dsimp only at hSw
                  (go_simp) <;> (with_reducible rfl)
                try simp only [Act.put, List.setIfInBounds_toArray, List.set_cons_zero, List.set_cons_succ]
                refine wpAnyH_take (i := 1) (v := ?_) (by first | (simp only [List.getElem?_toArray, List.getElem?_cons_succ, List.getElem?_cons_zero] <;> rfl) | rfl) (by kernel_rfl) (by kernel_rfl) (by kernel_rfl) (by exact fun _ _ _ h => h) (Or.inl ⟨by rfl, ?_⟩) hHeld0 ?_
                rotate_left 1
                · intro w hSw
                  try dsimp only at hSw
                  (go_simp) <;> (with_reducible rfl)
                try simp only [Act.put, List.setIfInBounds_toArray, List.set_cons_zero, List.set_cons_succ]
                refine wpAnyH_take (i := 2) (v := ?_) (by first | (simp only [List.getElem?_toArray, List.getElem?_cons_succ, List.getElem?_cons_zero] <;> rfl) | rfl) (by kernel_rfl) (by kernel_rfl) (by kernel_rfl) (by exact fun _ _ _ h => h) (Or.inl ⟨by rfl, ?_⟩) hHeld0 ?_
                rotate_left 1
                · intro w hSw
                  try dsimp only at hSw
                  (go_simp) <;> (with_reducible rfl)
                try simp only [Act.put, List.setIfInBounds_toArray, List.set_cons_zero, List.set_cons_succ]
                refine wpAnyH_take (i := 3) (v := ?_) (by first | (simp only [List.getElem?_toArray, List.getElem?_cons_succ, List.getElem?_cons_zero] <;> rfl) | rfl) (by kernel_rfl) (by kernel_rfl) (by kernel_rfl) (by exact fun _ _ _ h => h) (Or.inl ⟨by rfl, ?_⟩) hHeld0 ?_
                rotate_left 1
                · intro w hSw
                  try dsimp only at hSw
                  (go_simp) <;> (with_reducible rfl)
                try simp only [Act.put, List.setIfInBounds_toArray, List.set_cons_zero, List.set_cons_succ]
                refine wpAnyH_take (i := 4) (v := ?_) (by first | (simp only [List.getElem?_toArray, List.getElem?_cons_succ, List.getElem?_cons_zero] <;> rfl) | rfl) (by kernel_rfl) (by kernel_rfl) (by kernel_rfl) (by exact fun _ _ _ h => h) (Or.inl ⟨by rfl, ?_⟩) hHeld0 ?_
                rotate_left 1
                · intro w hSw
                  try dsimp only at hSw
                  (go_simp) <;> (with_reducible rfl)
                try simp only [Act.put, List.setIfInBounds_toArray, List.set_cons_zero, List.set_cons_succ]
                refine wpAnyH_take (i := 5) (v := ?_) (by first | (simp only [List.getElem?_toArray, List.getElem?_cons_succ, List.getElem?_cons_zero] <;> rfl) | rfl) (by kernel_rfl) (by kernel_rfl) (by kernel_rfl) (by exact fun _ _ _ h => h) (Or.inl ⟨by rfl, ?_⟩) hHeld0 ?_
                rotate_left 1
                · intro w hSw
                  try dsimp only at hSw
                  (go_simp) <;> (with_reducible rfl)
                try simp only [Act.put, List.setIfInBounds_toArray, List.set_cons_zero, List.set_cons_succ]
                refine wpAnyH_take (i := 6) (v := ?_) (by first | (simp only [List.getElem?_toArray, List.getElem?_cons_succ, List.getElem?_cons_zero] <;> rfl) | rfl) (by kernel_rfl) (by kernel_rfl) (by kernel_rfl) (by exact fun _ _ _ h => h) (Or.inl ⟨by rfl, ?_⟩) hHeld0 ?_
                rotate_left 1
                · intro w hSw
                  try dsimp only at hSw
                  (go_simp) <;> (with_reducible rfl)
                try simp only [Act.put, List.setIfInBounds_toArray, List.set_cons_zero, List.set_cons_succ]
                refine wpAnyH_take (i := 7) (v := ?_) (by first | (simp only [List.getElem?_toArray, List.getElem?_cons_succ, List.getElem?_cons_zero] <;> rfl) | rfl) (by kernel_rfl) (by kernel_rfl) (by kernel_rfl) (by exact fun _ _ _ h => h) (Or.inl ⟨by rfl, ?_⟩) hHeld0 ?_
                rotate_left 1
                · intro w hSw
                  try dsimp only at hSw
                  (go_simp) <;> (with_reducible rfl)
                try simp only [Act.put, List.setIfInBounds_toArray, List.set_cons_zero, List.set_cons_succ]
                refine wpAnyH_take (i := 8) (v := ?_) (by first | (simp only [List.getElem?_toArray, List.getElem?_cons_succ, List.getElem?_cons_zero] <;> rfl) | rfl) (by kernel_rfl) (by kernel_rfl) (by kernel_rfl) (by exact fun _ _ _ h => h) (Or.inl ⟨by rfl, ?_⟩) hHeld0 ?_
                rotate_left 1
                · intro w hSw
                  try dsimp only at hSw
                  (go_simp) <;> (with_reducible rfl)
                try simp only [Act.put, List.setIfInBounds_toArray, List.set_cons_zero, List.set_cons_succ]
                refine wpAnyH_take (i := 9) (v := ?_) (by first | (simp only [List.getElem?_toArray, List.getElem?_cons_succ, List.getElem?_cons_zero] <;> rfl) | rfl) (by kernel_rfl) (by kernel_rfl) (by kernel_rfl) (by exact fun _ _ _ h => h) (Or.inl ⟨by rfl, ?_⟩) hHeld0 ?_
                rotate_left 1
                · intro w hSw
                  try dsimp only at hSw
                  (go_simp) <;> (with_reducible rfl)
                try simp only [Act.put, List.setIfInBounds_toArray, List.set_cons_zero, List.set_cons_succ]
                refine wpAnyH_take (i := 10) (v := ?_) (by first | (simp only [List.getElem?_toArray, List.getElem?_cons_succ, List.getElem?_cons_zero] <;> rfl) | rfl) (by kernel_rfl) (by kernel_rfl) (by kernel_rfl) (by exact fun _ _ _ h => h) (Or.inl ⟨by rfl, ?_⟩) hHeld0 ?_
                rotate_left 1
                · intro w hSw
                  try dsimp only at hSw
                  (go_simp) <;> (with_reducible rfl)
                try simp only [Act.put, List.setIfInBounds_toArray, List.set_cons_zero, List.set_cons_succ]
                refine wpAnyH_take (i := 11) (v := ?_) (by first | (simp only [List.getElem?_toArray, List.getElem?_cons_succ, List.getElem?_cons_zero] <;> rfl) | rfl) (by kernel_rfl) (by kernel_rfl) (by kernel_rfl) (by exact fun _ _ _ h => h) (Or.inl ⟨by rfl, ?_⟩) hHeld0 ?_
                rotate_left 1
                · intro w hSw
                  try dsimp only at hSw
                  (go_simp) <;> (with_reducible rfl)
                try simp only [Act.put, List.setIfInBounds_toArray, List.set_cons_zero, List.set_cons_succ]
                refine wpAnyH_take (i := 12) (v := ?_) (by first | (simp only [List.getElem?_toArray, List.getElem?_cons_succ, List.getElem?_cons_zero] <;> rfl) | rfl) (by kernel_rfl) (by kernel_rfl) (by kernel_rfl) (by exact fun _ _ _ h => h) (Or.inl ⟨by rfl, ?_⟩) hHeld0 ?_
                rotate_left 1
                · intro w hSw
                  try dsimp only at hSw
                  (go_simp) <;> (with_reducible rfl)
                try simp only [Act.put, List.setIfInBounds_toArray, List.set_cons_zero, List.set_cons_succ]
                refine wpAnyH_take (i := 13) (v := ?_) (by first | (simp only [List.getElem?_toArray, List.getElem?_cons_succ, List.getElem?_cons_zero] <;> rfl) | rfl) (by kernel_rfl) (by kernel_rfl) (by kernel_rfl) (by exact fun _ _ _ h => h) (Or.inl ⟨by rfl, ?_⟩) hHeld0 ?_
                rotate_left 1
                · intro w hSw
                  try dsimp only at hSw
                  (go_simp) <;> (with_reducible rfl)
                try simp only [Act.put, List.setIfInBounds_toArray, List.set_cons_zero, List.set_cons_succ]
                refine wpAnyH_take (i := 14) (v := ?_) (by first | (simp only [List.getElem?_toArray, List.getElem?_cons_succ, List.getElem?_cons_zero] <;> rfl) | rfl) (by kernel_rfl) (by kernel_rfl) (by kernel_rfl) (by exact fun _ _ _ h => h) (Or.inl ⟨by rfl, ?_⟩) hHeld0 ?_
                rotate_left 1
                · intro w hSw
                  try dsimp only at hSw
                  (go_simp) <;> (with_reducible rfl)
                try simp only [Act.put, List.setIfInBounds_toArray, List.set_cons_zero, List.set_cons_succ]
                refine wpAnyH_take (i := 15) (v := ?_) (by first | (simp only [List.getElem?_toArray, List.getElem?_cons_succ, List.getElem?_cons_zero] <;> rfl) | rfl) (by kernel_rfl) (by kernel_rfl) (by kernel_rfl) (by exact fun _ _ _ h => h) (Or.inl ⟨by rfl, ?_⟩) hHeld0 ?_
                rotate_left 1
                · intro w hSw
                  try dsimp only at hSw
                  (go_simp) <;> (with_reducible rfl)
                try simp only [Act.put, List.setIfInBounds_toArray, List.set_cons_zero, List.set_cons_succ]
                refine wpAnyH_take (i := 16) (v := ?_) (by first | (simp only [List.getElem?_toArray, List.getElem?_cons_succ, List.getElem?_cons_zero] <;> rfl) | rfl) (by kernel_rfl) (by kernel_rfl) (by kernel_rfl) (by exact fun _ _ _ h => h) (Or.inl ⟨by rfl, ?_⟩) hHeld0 ?_
                rotate_left 1
                · intro w hSw
                  try dsimp only at hSw
                  (go_simp) <;> (with_reducible rfl)
                try simp only [Act.put, List.setIfInBounds_toArray, List.set_cons_zero, List.set_cons_succ]
                refine wpAnyH_take (i := 17) (v := ?_) (by first | (simp only [List.getElem?_toArray, List.getElem?_cons_succ, List.getElem?_cons_zero] <;> rfl) | rfl) (by kernel_rfl) (by kernel_rfl) (by kernel_rfl) (by exact fun _ _ _ h => h) (Or.inl ⟨by rfl, ?_⟩) hHeld0 ?_
                rotate_left 1
                · intro w hSw
                  try dsimp only at hSw
                  (go_simp) <;> (with_reducible rfl)
                try simp only [Act.put, List.setIfInBounds_toArray, List.set_cons_zero, List.set_cons_succ]
                refine wpAnyH_take (i := 18) (v := ?_) (by first | (simp only [List.getElem?_toArray, List.getElem?_cons_succ, List.getElem?_cons_zero] <;> rfl) | rfl) (by kernel_rfl) (by kernel_rfl) (by kernel_rfl) (by exact fun _ _ _ h => h) (Or.inl ⟨by rfl, ?_⟩) hHeld0 ?_
                rotate_left 1
                · intro w hSw
                  try dsimp only at hSw
                  (go_simp) <;> (with_reducible rfl)
                try simp only [Act.put, List.setIfInBounds_toArray, List.set_cons_zero, List.set_cons_succ]
                refine wpAnyH_take (i := 19) (v := ?_) (by first | (simp only [List.getElem?_toArray, List.getElem?_cons_succ, List.getElem?_cons_zero] <;> rfl) | rfl) (by kernel_rfl) (by kernel_rfl) (by kernel_rfl) (by exact fun _ _ _ h => h) (Or.inl ⟨by rfl, ?_⟩) hHeld0 ?_
                rotate_left 1
                · intro w hSw
                  try dsimp only at hSw
                  (go_simp) <;> (with_reducible rfl)
                try simp only [Act.put, List.setIfInBounds_toArray, List.set_cons_zero, List.set_cons_succ]
                refine wpAnyH_take (i := 20) (v := ?_) (by first | (simp only [List.getElem?_toArray, List.getElem?_cons_succ, List.getElem?_cons_zero] <;> rfl) | rfl) (by kernel_rfl) (by kernel_rfl) (by kernel_rfl) (by exact fun _ _ _ h => h) (Or.inl ⟨by rfl, ?_⟩) hHeld0 ?_
                rotate_left 1
                · intro w hSw
                  try dsimp only at hSw
                  (go_simp) <;> (with_reducible rfl)
                try simp only [Act.put, List.setIfInBounds_toArray, List.set_cons_zero, List.set_cons_succ]
                refine wpAnyH_take (i := 21) (v := ?_) (by first | (simp only [List.getElem?_toArray, List.getElem?_cons_succ, List.getElem?_cons_zero] <;> rfl) | rfl) (by kernel_rfl) (by kernel_rfl) (by kernel_rfl) (by exact fun _ _ _ h => h) (Or.inl ⟨by rfl, ?_⟩) hHeld0 ?_
                rotate_left 1
                · intro w hSw
                  try dsimp only at hSw
                  (go_simp) <;> (with_reducible rfl)
                try simp only [Act.put, List.setIfInBounds_toArray, List.set_cons_zero, List.set_cons_succ]
                refine wpAnyH_take (i := 22) (v := ?_) (by first | (simp only [List.getElem?_toArray, List.getElem?_cons_succ, List.getElem?_cons_zero] <;> rfl) | rfl) (by kernel_rfl) (by kernel_rfl) (by kernel_rfl) (by exact fun _ _ _ h => h) (Or.inl ⟨by rfl, ?_⟩) hHeld0 ?_
                rotate_left 1
                · intro w hSw
                  try dsimp only at hSw
                  (go_simp) <;> (with_reducible rfl)
                try simp only [Act.put, List.setIfInBounds_toArray, List.set_cons_zero, List.set_cons_succ]
                refine wpAnyH_take (i := 23) (v := ?_) (by first | (simp only [List.getElem?_toArray, List.getElem?_cons_succ, List.getElem?_cons_zero] <;> rfl) | rfl) (by kernel_rfl) (by kernel_rfl) (by kernel_rfl) (by exact fun _ _ _ h => h) (Or.inl ⟨by rfl, ?_⟩) hHeld0 ?_
                rotate_left 1
                · intro w hSw
                  try dsimp only at hSw
                  (go_simp) <;> (with_reducible rfl)
                try simp only [Act.put, List.setIfInBounds_toArray, List.set_cons_zero, List.set_cons_succ]
                refine wpAnyH_take (i := 24) (v := ?_) (by first | (simp only [List.getElem?_toArray, List.getElem?_cons_succ, List.getElem?_cons_zero] <;> rfl) | rfl) (by kernel_rfl) (by kernel_rfl) (by kernel_rfl) (by exact fun _ _ _ h => h) (Or.inl ⟨by rfl, ?_⟩) hHeld0 ?_
                rotate_left 1
                · intro w hSw
                  try dsimp only at hSw
                  (go_simp) <;> (with_reducible rfl)
                try simp only [Act.put, List.setIfInBounds_toArray, List.set_cons_zero, List.set_cons_succ]
                refine wpAnyH_take (i := 26) (v := ?_) (by first | (simp only [List.getElem?_toArray, List.getElem?_cons_succ, List.getElem?_cons_zero] <;> rfl) | rfl) (by kernel_rfl) (by kernel_rfl) (by kernel_rfl) (by exact fun _ _ _ h => h) (Or.inl ⟨by rfl, ?_⟩) hHeld0 ?_
                rotate_left 1
                · intro w hSw
                  try dsimp only at hSw
                  (go_simp) <;> (with_reducible rfl)
                try simp only [Act.put, List.setIfInBounds_toArray, List.set_cons_zero, List.set_cons_succ]
                refine wpAnyH_take (i := 27) (v := ?_) (by first | (simp only [List.getElem?_toArray, List.getElem?_cons_succ, List.getElem?_cons_zero] <;> rfl) | rfl) (by kernel_rfl) (by kernel_rfl) (by kernel_rfl) (by exact fun _ _ _ h => h) (Or.inl ⟨by rfl, ?_⟩) hHeld0 ?_
                rotate_left 1
                · intro w hSw
                  try dsimp only at hSw
                  (go_simp) <;> (with_reducible rfl)
                try simp only [Act.put, List.setIfInBounds_toArray, List.set_cons_zero, List.set_cons_succ]
                refine wpAnyH_ready (rs := [25]) (by kernel_rfl) (by simp) ?_
                refine AllReadyH.cons (by first | (simp only [List.getElem?_toArray, List.getElem?_cons_succ, List.getElem?_cons_zero] <;> rfl) | rfl) (fun K hK => ?_) ?_
                · skip
                  go_simp
                  refine (ref_any (m.am, m.ai) ⟨ha0, ha1⟩ _).mono ?_
                  rintro e vh1 ⟨rfl, hb6⟩
                  have HBn := Lib.hid (HBv.out.trans (hb6.mono HBv.out.size))
                  unfold rpV
                  dsimp only
                  refine hK.out _ _ (HmkS.out _ HBn.out) (fun hHeld1 => ?_)
                  clear hK K hHeld0 hb6 HBv
                  have HBv := HBn
                  clear HBn
                  try simp only [Act.put, List.setIfInBounds_toArray, List.set_cons_zero, List.set_cons_succ]
                  refine wpAnyH_take (i := 28) (v := ?_) (by first | (simp only [List.getElem?_toArray, List.getElem?_cons_succ, List.getElem?_cons_zero] <;> rfl) | rfl) (by kernel_rfl) (by kernel_rfl) (by kernel_rfl) (by exact fun _ _ _ h => h) (Or.inl ⟨by rfl, ?_⟩) hHeld1 ?_
                  rotate_left 1
                  · intro w hSw
                    try dsimp only at hSw
                    (go_simp) <;> (with_reducible rfl)
                  try simp only [Act.put, List.setIfInBounds_toArray, List.set_cons_zero, List.set_cons_succ]
                  refine wpAnyH_take (i := 29) (v := ?_) (by first | (simp only [List.getElem?_toArray, List.getElem?_cons_succ, List.getElem?_cons_zero] <;> rfl) | rfl) (by kernel_rfl) (by kernel_rfl) (by kernel_rfl) (by exact fun _ _ _ h => h) (Or.inl ⟨by rfl, ?_⟩) hHeld1 ?_
                  rotate_left 1
                  · intro w hSw
                    try dsimp only at hSw
                    (go_simp) <;> (with_reducible rfl)
                  try simp only [Act.put, List.setIfInBounds_toArray, List.set_cons_zero, List.set_cons_succ]
                  refine wpAnyH_take (i := 30) (v := ?_) (by first | (simp only [List.getElem?_toArray, List.getElem?_cons_succ, List.getElem?_cons_zero] <;> rfl) | rfl) (by kernel_rfl) (by kernel_rfl) (by kernel_rfl) (by exact fun _ _ _ h => h) (Or.inl ⟨by rfl, ?_⟩) hHeld1 ?_
                  rotate_left 1
                  · intro w hSw
                    try dsimp only at hSw
                    (go_simp) <;> (with_reducible rfl)
                  try simp only [Act.put, List.setIfInBounds_toArray, List.set_cons_zero, List.set_cons_succ]
                  refine wpAnyH_take (i := 31) (v := ?_) (by first | (simp only [List.getElem?_toArray, List.getElem?_cons_succ, List.getElem?_cons_zero] <;> rfl) | rfl) (by kernel_rfl) (by kernel_rfl) (by kernel_rfl) (by exact fun _ _ _ h => h) (Or.inl ⟨by rfl, ?_⟩) hHeld1 ?_
                  rotate_left 1
                  · intro w hSw
                    try dsimp only at hSw
                    (go_simp) <;> (with_reducible rfl)
                  try simp only [Act.put, List.setIfInBounds_toArray, List.set_cons_zero, List.set_cons_succ]
                  refine wpAnyH_take (i := 32) (v := ?_) (by first | (simp only [List.getElem?_toArray, List.getElem?_cons_succ, List.getElem?_cons_zero] <;> rfl) | rfl) (by kernel_rfl) (by kernel_rfl) (by kernel_rfl) (by exact fun _ _ _ h => h) (Or.inl ⟨by rfl, ?_⟩) hHeld1 ?_
                  rotate_left 1
                  · intro w hSw
                    try dsimp only at hSw
                    (go_simp) <;> (with_reducible rfl)
                  try simp only [Act.put, List.setIfInBounds_toArray, List.set_cons_zero, List.set_cons_succ]
                  refine wpAnyH_take (i := 33) (v := ?_) (by first | (simp only [List.getElem?_toArray, List.getElem?_cons_succ, List.getElem?_cons_zero] <;> rfl) | rfl) (by kernel_rfl) (by kernel_rfl) (by kernel_rfl) (by exact fun _ _ _ h => h) (Or.inl ⟨by rfl, ?_⟩) hHeld1 ?_
                  rotate_left 1
                  · intro w hSw
                    try dsimp only at hSw
                    (go_simp) <;> (with_reducible rfl)
                  try simp only [Act.put, List.setIfInBounds_toArray, List.set_cons_zero, List.set_cons_succ]
                  refine wpAnyH_take (i := 34) (v := ?_) (by first | (simp only [List.getElem?_toArray, List.getElem?_cons_succ, List.getElem?_cons_zero] <;> rfl) | rfl) (by kernel_rfl) (by kernel_rfl) (by kernel_rfl) (by exact fun _ _ _ h => h) (Or.inl ⟨by rfl, ?_⟩) hHeld1 ?_
                  rotate_left 1
                  · intro w hSw
                    try dsimp only at hSw
                    (go_simp) <;> (with_reducible rfl)
                  try simp only [Act.put, List.setIfInBounds_toArray, List.set_cons_zero, List.set_cons_succ]
                  refine wpAnyH_take (i := 35) (v := ?_) (by first | (simp only [List.getElem?_toArray, List.getElem?_cons_succ, List.getElem?_cons_zero] <;> rfl) | rfl) (by kernel_rfl) (by kernel_rfl) (by kernel_rfl) (by exact fun _ _ _ h => h) (Or.inl ⟨by rfl, ?_⟩) hHeld1 ?_
                  rotate_left 1
                  · intro w hSw
                    try dsimp only at hSw
                    (go_simp) <;> (with_reducible rfl)
                  try simp only [Act.put, List.setIfInBounds_toArray, List.set_cons_zero, List.set_cons_succ]
                  refine wpAnyH_take (i := 36) (v := ?_) (by first | (simp only [List.getElem?_toArray, List.getElem?_cons_succ, List.getElem?_cons_zero] <;> rfl) | rfl) (by kernel_rfl) (by kernel_rfl) (by kernel_rfl) (by exact fun _ _ _ h => h) (Or.inl ⟨by rfl, ?_⟩) hHeld1 ?_
                  rotate_left 1
                  · intro w hSw
                    try dsimp only at hSw
                    (go_simp) <;> (with_reducible rfl)
                  try simp only [Act.put, List.setIfInBounds_toArray, List.set_cons_zero, List.set_cons_succ]
                  refine wpAnyH_done (by kernel_rfl) ?_ _
                  rename World => wz
                  clear hHeld1
                  have HMz := Lib.hid (HM9.out.below HBv.out)
                  have HRz := Lib.hid (HR9.out.below HBv.out)
                  have HCz := Lib.hid (HC9.out.trans (HBv.out.mono HC9.out.size))
                  have HOz := Lib.hid (HO9.out.below HBv.out)
                  clear HmkS HBv hneq hneqr hb1 hb2 hb3
                  go_wp2_with fail
                  go_roundw
                  case rel => exact ⟨j + 1, by go_num, by omega, HOz, HMz, HRz, HCz⟩
                  case measure => simp [intOf]; omega
                exact AllReadyH.nil
              · go_wp2_with fail
                go_roundw
                case rel => exact ⟨i + 1, M2, last2, by go_num, by omega, by omega, HMj, HRj, Lib.hid (by have := Hla2.out; push_cast; omega), Lib.hid (fun m hm => by have := Hhe2.out m hm; push_cast; omega), HCj⟩
                case measure => simp [intOf]; omega
      · have g80 : (80 : Int) ≤ (i : Int) := by omega
        go_upto_region 37 with fail
        have HMf := Lib.hid (HM.out.below (oneb wr (.cells #[.int .u8 x.kd, .int .u8 x.root, .int .u8 x.mt, .int .u8 x.ino, .int .i64 x.am, .int .u16 x.ai, .bool x.more, .bool x.raw] 76)))
        have HRf := Lib.hid (HRr.out.below (oneb wr (.cells #[.int .u8 x.kd, .int .u8 x.root, .int .u8 x.mt, .int .u8 x.ino, .int .i64 x.am, .int .u16 x.ai, .bool x.more, .bool x.raw] 76)))
        have HCf := Lib.hid (HC.out.trans ((oneb wr (.cells #[.int .u8 x.kd, .int .u8 x.root, .int .u8 x.mt, .int .u8 x.ino, .int .i64 x.am, .int .u16 x.ai, .bool x.more, .bool x.raw] 76)).mono HC.out.size))
        have HPf := Lib.hid (HRp1.out.below HCf.out)
        clear HM HRr HC Hla Hhe hxok x0 x1' x2 x3 x4 x5 x6 x7
        generalize World.alloc wr _ = wf at HMf HRf HCf HPf ⊢
        have HQ0 := Lib.hid (World.ownsRow_lit (base := wf.heap.size) (e := 74) (size := 2) wf #[.int .i64 0, .int .u16 0, .int .i64 0, .int .u16 3, .int .i64 1, .int .u16 2, .int .i64 2, .int .u16 1] 4 (Nat.le_refl _) (by unfold maxLen; omega) rfl)
        obtain ⟨L, hL⟩ : ∃ L, L = 4 + len1 := ⟨_, rfl⟩
        obtain ⟨v', wb, hr, ho, hg, hat⟩ := run_list8 70 70 74 _ 2 16 infoPl Try.underlying70 rfl (by decide) (by decide) wf.heap.size _ 4 _ HQ0.out x1 len1 cap1 (ps.flatMap plC) (HPf.out.below (oneb wf (.cells #[.int .i64 0, .int .u16 0, .int .i64 0, .int .u16 3, .int .i64 1, .int .u16 2, .int .i64 2, .int .u16 1] 74))) (pl_ones ps) (by omega) (oneb wf (.cells #[.int .i64 0, .int .u16 0, .int .i64 0, .int .u16 3, .int .i64 1, .int .u16 2, .int .i64 2, .int .u16 1] 74)).size
        rw [← hL] at ho
        obtain ⟨Av, cav, rfl, _, htq, _, _⟩ := own_typed ho
        obtain ⟨qa, rfl⟩ := own_someM ho (by omega)
        have HQb := Lib.hid (show Rd wb 2 L (some ⟨qa, 0, none⟩) ((([(0, 0), (0, 3), (1, 2), (2, 1)] : List Pl) ++ ps).flatMap plC) by rw [List.flatMap_append]; exact htq.rd)
        have hbb : Below wf.heap.size wf wb := (oneb wf (.cells #[.int .i64 0, .int .u16 0, .int .i64 0, .int .u16 3, .int .i64 1, .int .u16 2, .int .i64 2, .int .u16 1] 74)).grown hg (oneb wf (.cells #[.int .i64 0, .int .u16 0, .int .i64 0, .int .u16 3, .int .i64 1, .int .u16 2, .int .i64 2, .int .u16 1] 74)).size (fun q hq => by cases hq; exact Nat.le_refl _)
        have HMb := Lib.hid (HMf.out.below hbb)
        have HRb := Lib.hid (HRf.out.below hbb)
        have HCb := Lib.hid (HCf.out.trans (hbb.mono HCf.out.size))
        have HLL := Lib.hid hL
        have hLb : L ≤ 24 := by omega
        clear hL ho htq hbb hat hg HQ0
        go_wp2_with (at_builtin; refine Lib.wpList_append_run _ rfl (.tmp 191) (.tmp 192) 70 70 rfl _ _ rfl rfl _ wb hr ?_)
        clear hr HMf HRf HCf HPf
        go_loopw [195] (fun jv wx => ∃ j : Nat, jv = .int .i64 j ∧ j ≤ L ∧ Hid (Rd wx 2 L (some ⟨qa, 0, none⟩) ((([(0, 0), (0, 3), (1, 2), (2, 1)] : List Pl) ++ ps).flatMap plC)) ∧ Hid (Mtb wx w1.heap.size tb M last) ∧ Hid (Rmt wx w1.heap.size tr nv lv cv M last) ∧ Hid (Below w1.heap.size w1 wx)) (fun jv _ => L - (intOf jv).toNat)
        case atStart => exact ⟨0, rfl, by omega, HQb.out, HMb.out, HRb.out, HCb.out⟩
        case round =>
          rename World => wj
          clear HQb HMb HRb HCb
          obtain ⟨j, rfl, hj, HQj, HMj, HRj, HCj⟩ := hrel
          by_cases hjl : j < L
          · obtain ⟨q, hq⟩ : ∃ q, (([(0, 0), (0, 3), (1, 2), (2, 1)] : List Pl) ++ ps)[j]? = some q := ⟨_, List.getElem?_eq_getElem (by rw [List.length_append, HP.out]; show j < 4 + len1; rw [← HLL.out]; exact hjl)⟩
            have Hqok := Lib.hid (show PlOk q by
              rcases List.mem_append.1 (List.mem_of_getElem? hq) with h | h
              · simp only [List.mem_cons, List.not_mem_nil, or_false] at h
                rcases h with rfl | rfl | rfl | rfl <;> exact ⟨⟨by decide, by decide⟩, by decide, by decide⟩
              · exact HPk.out q h)
            obtain ⟨hq0, hq1⟩ := Hqok.out.2
            obtain ⟨bq, oq, eA, hbq, hcq⟩ := HQj.out.pos (by omega)
            cases eA
            have cq := fun k v (hk : k < 2) (hv : (plC q)[k]? = some v) => hcq (j * 2 + k) v (by rw [flatzM plC 2 (fun _ => rfl) (by omega) _ _ _ hk, hq]; exact hv)
            have m0 := cq 0 _ (by omega) rfl
            have m1 := cq 1 _ (by omega) rfl
            simp only [Nat.zero_add, Nat.add_zero] at m0 m1
            clear cq hcq hq
            obtain ⟨Wa, hWa⟩ : ∃ Wa, Wa = wj.alloc (.cells #[.int .i64 q.1, .int .u16 q.2] 74) := ⟨_, rfl⟩
            have hba : Below wj.heap.size wj Wa := by rw [hWa]; exact oneb _ _
            have HkP := Lib.hid (show Bk Wa wj.heap.size 74 [.int .i64 q.1, .int .u16 q.2] by rw [hWa]; exact Bk.new _ _ _ rfl)
            have HMa := Lib.hid (HMj.out.below hba)
            have HRa := Lib.hid (HRj.out.below hba)
            have HCa := Lib.hid (HCj.out.trans (hba.mono HCj.out.size))
            have HQa := Lib.hid (HQj.out.below hba)
            obtain ⟨A8, c8, h8⟩ := HMa.out
            have Hsm := Lib.hid h8.sm
            have hdn := down_any h8 q
            obtain ⟨dd, hdd⟩ : ∃ dd, dd = downF M q := ⟨_, rfl⟩
            have hdok := down_small h8.sm q
            have hsok := seen_small h8.sm 20 q Hqok.out.2
            unfold DownP plV at hdn
            rw [← hdd] at hdn hdok
            obtain ⟨da, hda⟩ : ∃ da, da = (dd.getD (0, 0)).1 := ⟨_, rfl⟩
            obtain ⟨db, hdb⟩ : ∃ db, db = (dd.getD (0, 0)).2 := ⟨_, rfl⟩
            obtain ⟨ds, hds⟩ : ∃ ds, ds = dd.isSome := ⟨_, rfl⟩
            rw [← hda, ← hdb, ← hds] at hdn
            rw [← hdb] at hdok
            have Hdd := Lib.hid hdd
            have Hda := Lib.hid hda
            have Hdb := Lib.hid hdb
            have Hds := Lib.hid hds
            have Hdok := Lib.hid (show 0 ≤ ((da, db) : Pl).2 ∧ ((da, db) : Pl).2 ≤ 65535 from hdok)
            have HDn := Lib.hid hdn
            obtain ⟨pb, hpb⟩ : ∃ pb, pb = wj.heap.size := ⟨_, rfl⟩
            rw [← hpb] at HkP
            have Hpb := Lib.hid hpb
            clear h8 hdn hdd hda hdb hds hba hpb
            go_wp2_with fail
            rw [← hWa, ← Hpb.out]
            refine HDn.out.mono ?_
            rintro e w4 ⟨rfl, hb4⟩
            have hb4' := hb4.trans ((oneb w4 (.cells #[.int .i64 da, .int .u16 db] 74)).mono hb4.size)
            have HkP4 := Lib.hid (HkP.out.kept hb4')
            have HkD := Lib.hid (Bk.new w4 74 #[.int .i64 da, .int .u16 db] (l := [.int .i64 da, .int .u16 db]) rfl)
            have HM4 := Lib.hid (HMa.out.below hb4')
            have HR4 := Lib.hid (HRa.out.below hb4')
            have HC4 := Lib.hid (HCa.out.trans (hb4'.mono HCa.out.size))
            have HQ4 := Lib.hid (HQa.out.below hb4')
            have hrf := fun W => ref_any q Hqok.out.2 W
            unfold plV at hrf
            obtain ⟨pl, p0, p1, -, -⟩ := Bk.all2 HkP4.out
            obtain ⟨db4, hdb4⟩ : ∃ db4, db4 = w4.heap.size := ⟨_, rfl⟩
            rw [← hdb4] at HkD
            have Hdb4 := Lib.hid hdb4
            clear hb4 hb4' HDn HkP HMa HRa HCa HQa hWa m0 m1 hdb4
            go_wp2_with fail
            rw [← Hdb4.out]
            refine (hrf _).mono ?_
            rintro e w5 ⟨rfl, hb5⟩
            have HkP5 := Lib.hid (HkP4.out.kept hb5)
            have HkD5 := Lib.hid (HkD.out.kept hb5)
            have HM5 := Lib.hid (HM4.out.below hb5)
            have HR5 := Lib.hid (HR4.out.below hb5)
            have HC5 := Lib.hid (HC4.out.trans (hb5.mono HC4.out.size))
            have HQ5 := Lib.hid (HQ4.out.below hb5)
            obtain ⟨A9, c9, h9⟩ := HR5.out
            have hrd := rdown_any h9 q
            unfold RDownP at hrd
            rw [← Hdd.out, ← Hds.out] at hrd
            unfold rpV at hrd ⊢
            rw [← Hda.out, ← Hdb.out] at hrd
            have HRd := Lib.hid hrd
            clear hb5 hrf pl p0 p1 h9 hrd HkP4 HkD HM4 HR4 HC4 HQ4
            go_wp2_with fail
            refine HRd.out.mono ?_
            rintro e w6 ⟨rfl, hb6⟩
            have hb6' := hb6.trans ((oneb w6 (.cells #[.int .i64 da, .int .i64 db] 81)).mono hb6.size)
            have HkP8 := Lib.hid (HkP5.out.kept hb6')
            have HkD8 := Lib.hid (HkD5.out.kept hb6')
            have HkE8 := Lib.hid (Bk.new w6 81 #[.int .i64 da, .int .i64 db] (l := [.int .i64 da, .int .i64 db]) rfl)
            have HM8 := Lib.hid (HM5.out.below hb6')
            have HR8 := Lib.hid (HR5.out.below hb6')
            have HC8 := Lib.hid (HC5.out.trans (hb6'.mono HC5.out.size))
            have HQ8 := Lib.hid (HQ5.out.below hb6')
            obtain ⟨db6, hdb6⟩ : ∃ db6, db6 = w6.heap.size := ⟨_, rfl⟩
            rw [← hdb6] at HkE8
            have Hdb6 := Lib.hid hdb6
            clear hb6 hb6' HRd HkP5 HkD5 HM5 HR5 HC5 HQ5 hdb6
            go_upto_region 42 with fail
            rw [← Hdb6.out]
            generalize World.alloc w6 _ = w8 at HkP8 HkD8 HkE8 HM8 HR8 HC8 HQ8 ⊢
            obtain ⟨Aq, cq, HMq'⟩ := HM8.out
            have HMq := Lib.hid HMq'
            obtain ⟨Ar, cr, HRq'⟩ := HR8.out
            have HRq := Lib.hid HRq'
            obtain ⟨s1, hs1⟩ : ∃ s, s = (seenF M q).1 := ⟨_, rfl⟩
            obtain ⟨s2, hs2⟩ : ∃ s, s = (seenF M q).2 := ⟨_, rfl⟩
            have Hs1 := Lib.hid hs1
            have Hs2 := Lib.hid hs2
            have Hsok := Lib.hid (show 0 ≤ ((s1, s2) : Pl).2 ∧ ((s1, s2) : Pl).2 ≤ 65535 by show 0 ≤ s2 ∧ s2 ≤ 65535; rw [hs2]; exact hsok)
            obtain ⟨ub, hub⟩ : ∃ ub, ub = M.any (usB q.2) := ⟨_, rfl⟩
            have Hub := Lib.hid hub
            have hneq := fun W => neqRPl s1 s2 s1 s2 W false (by simp)
            have hneqd := fun W => neqRPl da db da db W false (by simp)
            have hbd : (ds != ds) = false := by simp
            have hbu : (ub != ub) = false := by simp
            have hwq : IntKind.i64.wrap q.2 = q.2 := by rw [IntKind.wrap_i64]; omega
            have HmkS := Lib.hid (fun (W : World) (hb : Below w8.heap.size w8 W) => (⟨(HkP8.out.kept hb).cell 0 rfl, (HkP8.out.kept hb).cell 1 rfl, (HkD8.out.kept hb).cell 0 rfl, (HkD8.out.kept hb).cell 1 rfl, (HkE8.out.kept hb).cell 0 rfl, (HkE8.out.kept hb).cell 1 rfl⟩ : W.cell? ⟨pb, 0, none⟩ = some (.int .i64 q.1) ∧ W.cell? ⟨pb, 1, none⟩ = some (.int .u16 q.2) ∧ W.cell? ⟨db4, 0, none⟩ = some (.int .i64 da) ∧ W.cell? ⟨db4, 1, none⟩ = some (.int .u16 db) ∧ W.cell? ⟨db6, 0, none⟩ = some (.int .i64 da) ∧ W.cell? ⟨db6, 1, none⟩ = some (.int .i64 db)))
            have HBv := Lib.hid (Below.refl w8.heap.size w8).drew
            clear HMq' HRq' hs1 hs2 hub hsok hdok
            refine wp_region_held_drew (S := (fun W => W.cell? ⟨pb, 0, none⟩ = some (.int .i64 q.1) ∧ W.cell? ⟨pb, 1, none⟩ = some (.int .u16 q.2) ∧ W.cell? ⟨db4, 0, none⟩ = some (.int .i64 da) ∧ W.cell? ⟨db4, 1, none⟩ = some (.int .u16 db) ∧ W.cell? ⟨db6, 0, none⟩ = some (.int .i64 da) ∧ W.cell? ⟨db6, 1, none⟩ = some (.int .i64 db))) (by kernel_rfl) ?_ (fun hHeld0 => ?_)
            · exact HmkS.out _ (Below.refl _ _).drew
            generalize World.drew w8 = vh0 at hHeld0 HBv ⊢
            refine wpAnyH_take (i := 0) (v := ?_) (by first | (simp only [List.getElem?_toArray, List.getElem?_cons_zero] <;> rfl) | rfl) (by kernel_rfl) (by kernel_rfl) (by kernel_rfl) (by exact fun _ _ _ h => h) (Or.inl ⟨by rfl, ?_⟩) hHeld0 ?_
            rotate_left 1
            · intro w hSw
              try dsimp only at hSw
              (go_simp) <;> (with_reducible rfl)
            try simp only [Act.put, List.setIfInBounds_toArray, List.set_cons_zero, List.set_cons_succ]
            refine wpAnyH_take (i := 1) (v := ?_) (by first | (simp only [List.getElem?_toArray, List.getElem?_cons_succ, List.getElem?_cons_zero] <;> rfl) | rfl) (by kernel_rfl) (by kernel_rfl) (by kernel_rfl) (by exact fun _ _ _ h => h) (Or.inl ⟨by rfl, ?_⟩) hHeld0 ?_
            rotate_left 1
            · intro w hSw
              try dsimp only at hSw
              (go_simp) <;> (with_reducible rfl)
            try simp only [Act.put, List.setIfInBounds_toArray, List.set_cons_zero, List.set_cons_succ]
            refine wpAnyH_take (i := 4) (v := ?_) (by first | (simp only [List.getElem?_toArray, List.getElem?_cons_succ, List.getElem?_cons_zero] <;> rfl) | rfl) (by kernel_rfl) (by kernel_rfl) (by kernel_rfl) (by exact fun _ _ _ h => h) (Or.inl ⟨by rfl, ?_⟩) hHeld0 ?_
            rotate_left 1
            · intro w hSw
              try dsimp only at hSw
              (go_simp) <;> (with_reducible rfl)
            try simp only [Act.put, List.setIfInBounds_toArray, List.set_cons_zero, List.set_cons_succ]
            refine wpAnyH_take (i := 5) (v := ?_) (by first | (simp only [List.getElem?_toArray, List.getElem?_cons_succ, List.getElem?_cons_zero] <;> rfl) | rfl) (by kernel_rfl) (by kernel_rfl) (by kernel_rfl) (by exact fun _ _ _ h => h) (Or.inl ⟨by rfl, ?_⟩) hHeld0 ?_
            rotate_left 1
            · intro w hSw
              try dsimp only at hSw
              (go_simp) <;> (with_reducible rfl)
            try simp only [Act.put, List.setIfInBounds_toArray, List.set_cons_zero, List.set_cons_succ]
            refine wpAnyH_ready (rs := [2]) (by kernel_rfl) (by simp) ?_
            refine AllReadyH.cons (by first | (simp only [List.getElem?_toArray, List.getElem?_cons_succ, List.getElem?_cons_zero] <;> rfl) | rfl) (fun K hK => ?_) ?_
            · skip
              go_simp
              refine (seen_any (HMq.out.below HBv.out) q).mono ?_
              rintro e vh1 ⟨rfl, hbq⟩
              have HBn := Lib.hid (HBv.out.trans (hbq.mono HBv.out.size))
              unfold plV
              rw [← Hs1.out, ← Hs2.out]
              refine hK.out _ _ (HmkS.out _ HBn.out) (fun hHeld1 => ?_)
              clear hK K hHeld0 hbq HBv
              have HBv := HBn
              clear HBn
              try simp only [Act.put, List.setIfInBounds_toArray, List.set_cons_zero, List.set_cons_succ]
              refine wpAnyH_ready (rs := [3]) (by kernel_rfl) (by simp) ?_
              refine AllReadyH.cons (by first | (simp only [List.getElem?_toArray, List.getElem?_cons_succ, List.getElem?_cons_zero] <;> rfl) | rfl) (fun K hK => ?_) ?_
              · skip
                go_simp
                refine (ref_any (s1, s2) Hsok.out _).mono ?_
                rintro e vh2 ⟨rfl, hbq⟩
                have HBn := Lib.hid (HBv.out.trans (hbq.mono HBv.out.size))
                unfold rpV
                dsimp only
                refine hK.out _ _ (HmkS.out _ HBn.out) (fun hHeld2 => ?_)
                clear hK K hHeld1 hbq HBv
                have HBv := HBn
                clear HBn
                try simp only [Act.put, List.setIfInBounds_toArray, List.set_cons_zero, List.set_cons_succ]
                refine wpAnyH_ready (rs := [6]) (by kernel_rfl) (by simp) ?_
                refine AllReadyH.cons (by first | (simp only [List.getElem?_toArray, List.getElem?_cons_succ, List.getElem?_cons_zero] <;> rfl) | rfl) (fun K hK => ?_) ?_
                · skip
                  go_simp
                  refine (ref_any q Hqok.out.2 _).mono ?_
                  rintro e vh3 ⟨rfl, hbq⟩
                  have HBn := Lib.hid (HBv.out.trans (hbq.mono HBv.out.size))
                  unfold rpV
                  refine hK.out _ _ (HmkS.out _ HBn.out) (fun hHeld3 => ?_)
                  clear hK K hHeld2 hbq HBv
                  have HBv := HBn
                  clear HBn
                  try simp only [Act.put, List.setIfInBounds_toArray, List.set_cons_zero, List.set_cons_succ]
                  refine wpAnyH_ready (rs := [7]) (by kernel_rfl) (by simp) ?_
                  refine AllReadyH.cons (by first | (simp only [List.getElem?_toArray, List.getElem?_cons_succ, List.getElem?_cons_zero] <;> rfl) | rfl) (fun K hK => ?_) ?_
                  · skip
                    go_simp
                    refine (rseen_any (HRq.out.below HBv.out) q).mono ?_
                    rintro e vh4 ⟨rfl, hbq⟩
                    have HBn := Lib.hid (HBv.out.trans (hbq.mono HBv.out.size))
                    unfold rpV
                    rw [← Hs1.out, ← Hs2.out]
                    refine hK.out _ _ (HmkS.out _ HBn.out) (fun hHeld4 => ?_)
                    clear hK K hHeld3 hbq HBv
                    have HBv := HBn
                    clear HBn
                    try simp only [Act.put, List.setIfInBounds_toArray, List.set_cons_zero, List.set_cons_succ]
                    refine wpAnyH_take (i := 8) (v := ?_) (by first | (simp only [List.getElem?_toArray, List.getElem?_cons_succ, List.getElem?_cons_zero] <;> rfl) | rfl) (by kernel_rfl) (by kernel_rfl) (by kernel_rfl) (by exact fun _ _ _ h => h) (Or.inl ⟨by rfl, ?_⟩) hHeld4 ?_
                    rotate_left 1
                    · intro w hSw
                      try dsimp only at hSw
                      (go_simp) <;> (with_reducible rfl)
                    try simp only [Act.put, List.setIfInBounds_toArray, List.set_cons_zero, List.set_cons_succ]
                    refine wpAnyH_take (i := 9) (v := ?_) (by first | (simp only [List.getElem?_toArray, List.getElem?_cons_succ, List.getElem?_cons_zero] <;> rfl) | rfl) (by kernel_rfl) (by kernel_rfl) (by kernel_rfl) (by exact fun _ _ _ h => h) (Or.inl ⟨by rfl, ?_⟩) hHeld4 ?_
                    rotate_left 1
                    · intro w hSw
                      try dsimp only at hSw
                      (go_simp) <;> (with_reducible rfl)
                    try simp only [Act.put, List.setIfInBounds_toArray, List.set_cons_zero, List.set_cons_succ]
                    refine wpAnyH_take (i := 10) (v := ?_) (by first | (simp only [List.getElem?_toArray, List.getElem?_cons_succ, List.getElem?_cons_zero] <;> rfl) | rfl) (by kernel_rfl) (by kernel_rfl) (by kernel_rfl) (by exact fun _ _ _ h => h) (Or.inl ⟨by rfl, ?_⟩) hHeld4 ?_
                    rotate_left 1
                    · intro w hSw
                      try dsimp only at hSw
                      (go_simp) <;> (with_reducible rfl)
                    try simp only [Act.put, List.setIfInBounds_toArray, List.set_cons_zero, List.set_cons_succ]
                    refine wpAnyH_take (i := 11) (v := ?_) (by first | (simp only [List.getElem?_toArray, List.getElem?_cons_succ, List.getElem?_cons_zero] <;> rfl) | rfl) (by kernel_rfl) (by kernel_rfl) (by kernel_rfl) (by exact fun _ _ _ h => h) (Or.inl ⟨by rfl, ?_⟩) hHeld4 ?_
                    rotate_left 1
                    · intro w hSw
                      try dsimp only at hSw
                      (go_simp) <;> (with_reducible rfl)
                    try simp only [Act.put, List.setIfInBounds_toArray, List.set_cons_zero, List.set_cons_succ]
                    refine wpAnyH_take (i := 12) (v := ?_) (by first | (simp only [List.getElem?_toArray, List.getElem?_cons_succ, List.getElem?_cons_zero] <;> rfl) | rfl) (by kernel_rfl) (by kernel_rfl) (by kernel_rfl) (by exact fun _ _ _ h => h) (Or.inl ⟨by rfl, ?_⟩) hHeld4 ?_
                    rotate_left 1
                    · intro w hSw
                      try dsimp only at hSw
                      (go_simp) <;> (with_reducible rfl)
                    try simp only [Act.put, List.setIfInBounds_toArray, List.set_cons_zero, List.set_cons_succ]
                    refine wpAnyH_take (i := 13) (v := ?_) (by first | (simp only [List.getElem?_toArray, List.getElem?_cons_succ, List.getElem?_cons_zero] <;> rfl) | rfl) (by kernel_rfl) (by kernel_rfl) (by kernel_rfl) (by exact fun _ _ _ h => h) (Or.inl ⟨by rfl, ?_⟩) hHeld4 ?_
                    rotate_left 1
                    · intro w hSw
                      try dsimp only at hSw
                      (go_simp) <;> (with_reducible rfl)
                    try simp only [Act.put, List.setIfInBounds_toArray, List.set_cons_zero, List.set_cons_succ]
                    refine wpAnyH_take (i := 14) (v := ?_) (by first | (simp only [List.getElem?_toArray, List.getElem?_cons_succ, List.getElem?_cons_zero] <;> rfl) | rfl) (by kernel_rfl) (by kernel_rfl) (by kernel_rfl) (by exact fun _ _ _ h => h) (Or.inl ⟨by rfl, ?_⟩) hHeld4 ?_
                    rotate_left 1
                    · intro w hSw
                      try dsimp only at hSw
                      (go_simp) <;> (with_reducible rfl)
                    try simp only [Act.put, List.setIfInBounds_toArray, List.set_cons_zero, List.set_cons_succ]
                    refine wpAnyH_take (i := 15) (v := ?_) (by first | (simp only [List.getElem?_toArray, List.getElem?_cons_succ, List.getElem?_cons_zero] <;> rfl) | rfl) (by kernel_rfl) (by kernel_rfl) (by kernel_rfl) (by exact fun _ _ _ h => h) (Or.inl ⟨by rfl, ?_⟩) hHeld4 ?_
                    rotate_left 1
                    · intro w hSw
                      try dsimp only at hSw
                      (go_simp) <;> (with_reducible rfl)
                    try simp only [Act.put, List.setIfInBounds_toArray, List.set_cons_zero, List.set_cons_succ]
                    refine wpAnyH_take (i := 17) (v := ?_) (by first | (simp only [List.getElem?_toArray, List.getElem?_cons_succ, List.getElem?_cons_zero] <;> rfl) | rfl) (by kernel_rfl) (by kernel_rfl) (by kernel_rfl) (by exact fun _ _ _ h => h) (Or.inl ⟨by rfl, ?_⟩) hHeld4 ?_
                    rotate_left 1
                    · intro w hSw
                      try dsimp only at hSw
                      (go_simp) <;> (with_reducible rfl)
                    try simp only [Act.put, List.setIfInBounds_toArray, List.set_cons_zero, List.set_cons_succ]
                    refine wpAnyH_ready (rs := [16]) (by kernel_rfl) (by simp) ?_
                    refine AllReadyH.cons (by first | (simp only [List.getElem?_toArray, List.getElem?_cons_succ, List.getElem?_cons_zero] <;> rfl) | rfl) (fun K hK => ?_) ?_
                    · skip
                      go_simp
                      refine (ref_any (da, db) Hdok.out _).mono ?_
                      rintro e vh5 ⟨rfl, hbq⟩
                      have HBn := Lib.hid (HBv.out.trans (hbq.mono HBv.out.size))
                      unfold rpV
                      dsimp only
                      refine hK.out _ _ (HmkS.out _ HBn.out) (fun hHeld5 => ?_)
                      clear hK K hHeld4 hbq HBv
                      have HBv := HBn
                      clear HBn
                      try simp only [Act.put, List.setIfInBounds_toArray, List.set_cons_zero, List.set_cons_succ]
                      refine wpAnyH_take (i := 18) (v := ?_) (by first | (simp only [List.getElem?_toArray, List.getElem?_cons_succ, List.getElem?_cons_zero] <;> rfl) | rfl) (by kernel_rfl) (by kernel_rfl) (by kernel_rfl) (by exact fun _ _ _ h => h) (Or.inl ⟨by rfl, ?_⟩) hHeld5 ?_
                      rotate_left 1
                      · intro w hSw
                        try dsimp only at hSw
                        (go_simp) <;> (with_reducible rfl)
                      try simp only [Act.put, List.setIfInBounds_toArray, List.set_cons_zero, List.set_cons_succ]
                      refine wpAnyH_take (i := 19) (v := ?_) (by first | (simp only [List.getElem?_toArray, List.getElem?_cons_succ, List.getElem?_cons_zero] <;> rfl) | rfl) (by kernel_rfl) (by kernel_rfl) (by kernel_rfl) (by exact fun _ _ _ h => h) (Or.inl ⟨by rfl, ?_⟩) hHeld5 ?_
                      rotate_left 1
                      · intro w hSw
                        try dsimp only at hSw
                        (go_simp) <;> (with_reducible rfl)
                      try simp only [Act.put, List.setIfInBounds_toArray, List.set_cons_zero, List.set_cons_succ]
                      refine wpAnyH_take (i := 20) (v := ?_) (by first | (simp only [List.getElem?_toArray, List.getElem?_cons_succ, List.getElem?_cons_zero] <;> rfl) | rfl) (by kernel_rfl) (by kernel_rfl) (by kernel_rfl) (by exact fun _ _ _ h => h) (Or.inl ⟨by rfl, ?_⟩) hHeld5 ?_
                      rotate_left 1
                      · intro w hSw
                        try dsimp only at hSw
                        (go_simp) <;> (with_reducible rfl)
                      try simp only [Act.put, List.setIfInBounds_toArray, List.set_cons_zero, List.set_cons_succ]
                      refine wpAnyH_take (i := 21) (v := ?_) (by first | (simp only [List.getElem?_toArray, List.getElem?_cons_succ, List.getElem?_cons_zero] <;> rfl) | rfl) (by kernel_rfl) (by kernel_rfl) (by kernel_rfl) (by exact fun _ _ _ h => h) (Or.inl ⟨by rfl, ?_⟩) hHeld5 ?_
                      rotate_left 1
                      · intro w hSw
                        try dsimp only at hSw
                        (go_simp) <;> (with_reducible rfl)
                      try simp only [Act.put, List.setIfInBounds_toArray, List.set_cons_zero, List.set_cons_succ]
                      refine wpAnyH_take (i := 22) (v := ?_) (by first | (simp only [List.getElem?_toArray, List.getElem?_cons_succ, List.getElem?_cons_zero] <;> rfl) | rfl) (by kernel_rfl) (by kernel_rfl) (by kernel_rfl) (by exact fun _ _ _ h => h) (Or.inl ⟨by rfl, ?_⟩) hHeld5 ?_
                      rotate_left 1
                      · intro w hSw
                        try dsimp only at hSw
                        (go_simp) <;> (with_reducible rfl)
                      try simp only [Act.put, List.setIfInBounds_toArray, List.set_cons_zero, List.set_cons_succ]
                      refine wpAnyH_take (i := 23) (v := ?_) (by first | (simp only [List.getElem?_toArray, List.getElem?_cons_succ, List.getElem?_cons_zero] <;> rfl) | rfl) (by kernel_rfl) (by kernel_rfl) (by kernel_rfl) (by exact fun _ _ _ h => h) (Or.inl ⟨by rfl, ?_⟩) hHeld5 ?_
                      rotate_left 1
                      · intro w hSw
                        try dsimp only at hSw
                        (go_simp) <;> (with_reducible rfl)
                      try simp only [Act.put, List.setIfInBounds_toArray, List.set_cons_zero, List.set_cons_succ]
                      refine wpAnyH_take (i := 25) (v := ?_) (by first | (simp only [List.getElem?_toArray, List.getElem?_cons_succ, List.getElem?_cons_zero] <;> rfl) | rfl) (by kernel_rfl) (by kernel_rfl) (by kernel_rfl) (by exact fun _ _ _ h => h) (Or.inl ⟨by rfl, ?_⟩) hHeld5 ?_
                      rotate_left 1
                      · intro w hSw
                        try dsimp only at hSw
                        (go_simp) <;> (with_reducible rfl)
                      try simp only [Act.put, List.setIfInBounds_toArray, List.set_cons_zero, List.set_cons_succ]
                      refine wpAnyH_take (i := 26) (v := ?_) (by first | (simp only [List.getElem?_toArray, List.getElem?_cons_succ, List.getElem?_cons_zero] <;> rfl) | rfl) (by kernel_rfl) (by kernel_rfl) (by kernel_rfl) (by exact fun _ _ _ h => h) (Or.inl ⟨by rfl, ?_⟩) hHeld5 ?_
                      rotate_left 1
                      · intro w hSw
                        try dsimp only at hSw
                        (go_simp) <;> (with_reducible rfl)
                      try simp only [Act.put, List.setIfInBounds_toArray, List.set_cons_zero, List.set_cons_succ]
                      refine wpAnyH_take (i := 27) (v := ?_) (by first | (simp only [List.getElem?_toArray, List.getElem?_cons_succ, List.getElem?_cons_zero] <;> rfl) | rfl) (by kernel_rfl) (by kernel_rfl) (by kernel_rfl) (by exact fun _ _ _ h => h) (Or.inl ⟨by rfl, ?_⟩) hHeld5 ?_
                      rotate_left 1
                      · intro w hSw
                        try dsimp only at hSw
                        (go_simp) <;> (with_reducible rfl)
                      try simp only [Act.put, List.setIfInBounds_toArray, List.set_cons_zero, List.set_cons_succ]
                      refine wpAnyH_take (i := 28) (v := ?_) (by first | (simp only [List.getElem?_toArray, List.getElem?_cons_succ, List.getElem?_cons_zero] <;> rfl) | rfl) (by kernel_rfl) (by kernel_rfl) (by kernel_rfl) (by exact fun _ _ _ h => h) (Or.inl ⟨by rfl, ?_⟩) hHeld5 ?_
                      rotate_left 1
                      · intro w hSw
                        try dsimp only at hSw
                        (go_simp) <;> (with_reducible rfl)
                      try simp only [Act.put, List.setIfInBounds_toArray, List.set_cons_zero, List.set_cons_succ]
                      refine wpAnyH_ready (rs := [24]) (by kernel_rfl) (by simp) ?_
                      refine AllReadyH.cons (by first | (simp only [List.getElem?_toArray, List.getElem?_cons_succ, List.getElem?_cons_zero] <;> rfl) | rfl) (fun K hK => ?_) ?_
                      · skip
                        go_simp
                        refine (used_any (HMq.out.below HBv.out) q.2).mono ?_
                        rintro e vh6 ⟨rfl, hbq⟩
                        have HBn := Lib.hid (HBv.out.trans (hbq.mono HBv.out.size))
                        rw [← Hub.out]
                        refine hK.out _ _ (HmkS.out _ HBn.out) (fun hHeld6 => ?_)
                        clear hK K hHeld5 hbq HBv
                        have HBv := HBn
                        clear HBn
                        try simp only [Act.put, List.setIfInBounds_toArray, List.set_cons_zero, List.set_cons_succ]
                        refine wpAnyH_ready (rs := [29]) (by kernel_rfl) (by simp) ?_
                        refine AllReadyH.cons (by first | (simp only [List.getElem?_toArray, List.getElem?_cons_succ, List.getElem?_cons_zero] <;> rfl) | rfl) (fun K hK => ?_) ?_
                        · skip
                          go_simp
                          refine (rused_any (HRq.out.below HBv.out) q.2).mono ?_
                          rintro e w29 ⟨rfl, rfl⟩
                          rw [← Hub.out]
                          refine hK.out _ _ hHeld6 (fun hHeld7 => ?_)
                          clear hK K hHeld6
                          rename World => vh7
                          try simp only [Act.put, List.setIfInBounds_toArray, List.set_cons_zero, List.set_cons_succ]
                          refine wpAnyH_take (i := 30) (v := ?_) (by first | (simp only [List.getElem?_toArray, List.getElem?_cons_succ, List.getElem?_cons_zero] <;> rfl) | rfl) (by kernel_rfl) (by kernel_rfl) (by kernel_rfl) (by exact fun _ _ _ h => h) (Or.inl ⟨by rfl, ?_⟩) hHeld7 ?_
                          rotate_left 1
                          · intro w hSw
                            try dsimp only at hSw
                            (go_simp) <;> (with_reducible rfl)
                          try simp only [Act.put, List.setIfInBounds_toArray, List.set_cons_zero, List.set_cons_succ]
                          refine wpAnyH_take (i := 31) (v := ?_) (by first | (simp only [List.getElem?_toArray, List.getElem?_cons_succ, List.getElem?_cons_zero] <;> rfl) | rfl) (by kernel_rfl) (by kernel_rfl) (by kernel_rfl) (by exact fun _ _ _ h => h) (Or.inl ⟨by rfl, ?_⟩) hHeld7 ?_
                          rotate_left 1
                          · intro w hSw
                            try dsimp only at hSw
                            (go_simp) <;> (with_reducible rfl)
                          try simp only [Act.put, List.setIfInBounds_toArray, List.set_cons_zero, List.set_cons_succ]
                          refine wpAnyH_done (by kernel_rfl) ?_ _
                          rename World => wz
                          clear hHeld7
                          have HMz := Lib.hid (HM8.out.below HBv.out)
                          have HRz := Lib.hid (HR8.out.below HBv.out)
                          have HCz := Lib.hid (HC8.out.trans (HBv.out.mono HC8.out.size))
                          have HQz := Lib.hid (HQ8.out.below HBv.out)
                          clear HmkS HBv hneq hneqd hbd hbu hwq HMq HRq
                          go_wp2_with fail
                          go_roundw
                          case rel => exact ⟨j + 1, by go_num, by omega, HQz, HMz, HRz, HCz⟩
                          case measure => simp [intOf]; omega
                        exact AllReadyH.nil
                      exact AllReadyH.nil
                    exact AllReadyH.nil
                  exact AllReadyH.nil
                exact AllReadyH.nil
              exact AllReadyH.nil
            exact AllReadyH.nil
          · have heq := fun W => eqPl 0 1 0 1 W true rfl
            go_wp2_with fail
            refine (mtop_any wj).mono ?_
            rintro e wt ⟨rfl, hbt⟩
            have HBt := Lib.hid (HB.out.trans ((HCj.out.trans (hbt.mono HCj.out.size)).mono HB.out.size))
            clear hbt
            unfold plV
            go_wp2_with fail
            go_ret
            exact ⟨rfl, HBt.out⟩
    · skip
      go_upto_region 37 with fail
      have HMf := HM
      have HRf := HRr
      have HCf := HC
      have HPf := Lib.hid (HRp1.out.below HCf.out)
      clear HM HRr HC Hla Hhe
      rename World => wf
      have HQ0 := Lib.hid (World.ownsRow_lit (base := wf.heap.size) (e := 74) (size := 2) wf #[.int .i64 0, .int .u16 0, .int .i64 0, .int .u16 3, .int .i64 1, .int .u16 2, .int .i64 2, .int .u16 1] 4 (Nat.le_refl _) (by unfold maxLen; omega) rfl)
      obtain ⟨L, hL⟩ : ∃ L, L = 4 + len1 := ⟨_, rfl⟩
      obtain ⟨v', wb, hr, ho, hg, hat⟩ := run_list8 70 70 74 _ 2 16 infoPl Try.underlying70 rfl (by decide) (by decide) wf.heap.size _ 4 _ HQ0.out x1 len1 cap1 (ps.flatMap plC) (HPf.out.below (oneb wf (.cells #[.int .i64 0, .int .u16 0, .int .i64 0, .int .u16 3, .int .i64 1, .int .u16 2, .int .i64 2, .int .u16 1] 74))) (pl_ones ps) (by omega) (oneb wf (.cells #[.int .i64 0, .int .u16 0, .int .i64 0, .int .u16 3, .int .i64 1, .int .u16 2, .int .i64 2, .int .u16 1] 74)).size
      rw [← hL] at ho
      obtain ⟨Av, cav, rfl, _, htq, _, _⟩ := own_typed ho
      obtain ⟨qa, rfl⟩ := own_someM ho (by omega)
      have HQb := Lib.hid (show Rd wb 2 L (some ⟨qa, 0, none⟩) ((([(0, 0), (0, 3), (1, 2), (2, 1)] : List Pl) ++ ps).flatMap plC) by rw [List.flatMap_append]; exact htq.rd)
      have hbb : Below wf.heap.size wf wb := (oneb wf (.cells #[.int .i64 0, .int .u16 0, .int .i64 0, .int .u16 3, .int .i64 1, .int .u16 2, .int .i64 2, .int .u16 1] 74)).grown hg (oneb wf (.cells #[.int .i64 0, .int .u16 0, .int .i64 0, .int .u16 3, .int .i64 1, .int .u16 2, .int .i64 2, .int .u16 1] 74)).size (fun q hq => by cases hq; exact Nat.le_refl _)
      have HMb := Lib.hid (HMf.out.below hbb)
      have HRb := Lib.hid (HRf.out.below hbb)
      have HCb := Lib.hid (HCf.out.trans (hbb.mono HCf.out.size))
      have HLL := Lib.hid hL
      have hLb : L ≤ 24 := by omega
      clear hL ho htq hbb hat hg HQ0
      go_wp2_with (at_builtin; refine Lib.wpList_append_run _ rfl (.tmp 191) (.tmp 192) 70 70 rfl _ _ rfl rfl _ wb hr ?_)
      clear hr HMf HRf HCf HPf
      go_loopw [195] (fun jv wx => ∃ j : Nat, jv = .int .i64 j ∧ j ≤ L ∧ Hid (Rd wx 2 L (some ⟨qa, 0, none⟩) ((([(0, 0), (0, 3), (1, 2), (2, 1)] : List Pl) ++ ps).flatMap plC)) ∧ Hid (Mtb wx w1.heap.size tb M last) ∧ Hid (Rmt wx w1.heap.size tr nv lv cv M last) ∧ Hid (Below w1.heap.size w1 wx)) (fun jv _ => L - (intOf jv).toNat)
      case atStart => exact ⟨0, rfl, by omega, HQb.out, HMb.out, HRb.out, HCb.out⟩
      case round =>
        rename World => wj
        clear HQb HMb HRb HCb
        obtain ⟨j, rfl, hj, HQj, HMj, HRj, HCj⟩ := hrel
        by_cases hjl : j < L
        · obtain ⟨q, hq⟩ : ∃ q, (([(0, 0), (0, 3), (1, 2), (2, 1)] : List Pl) ++ ps)[j]? = some q := ⟨_, List.getElem?_eq_getElem (by rw [List.length_append, HP.out]; show j < 4 + len1; rw [← HLL.out]; exact hjl)⟩
          have Hqok := Lib.hid (show PlOk q by
            rcases List.mem_append.1 (List.mem_of_getElem? hq) with h | h
            · simp only [List.mem_cons, List.not_mem_nil, or_false] at h
              rcases h with rfl | rfl | rfl | rfl <;> exact ⟨⟨by decide, by decide⟩, by decide, by decide⟩
            · exact HPk.out q h)
          obtain ⟨hq0, hq1⟩ := Hqok.out.2
          obtain ⟨bq, oq, eA, hbq, hcq⟩ := HQj.out.pos (by omega)
          cases eA
          have cq := fun k v (hk : k < 2) (hv : (plC q)[k]? = some v) => hcq (j * 2 + k) v (by rw [flatzM plC 2 (fun _ => rfl) (by omega) _ _ _ hk, hq]; exact hv)
          have m0 := cq 0 _ (by omega) rfl
          have m1 := cq 1 _ (by omega) rfl
          simp only [Nat.zero_add, Nat.add_zero] at m0 m1
          clear cq hcq hq
          obtain ⟨Wa, hWa⟩ : ∃ Wa, Wa = wj.alloc (.cells #[.int .i64 q.1, .int .u16 q.2] 74) := ⟨_, rfl⟩
          have hba : Below wj.heap.size wj Wa := by rw [hWa]; exact oneb _ _
          have HkP := Lib.hid (show Bk Wa wj.heap.size 74 [.int .i64 q.1, .int .u16 q.2] by rw [hWa]; exact Bk.new _ _ _ rfl)
          have HMa := Lib.hid (HMj.out.below hba)
          have HRa := Lib.hid (HRj.out.below hba)
          have HCa := Lib.hid (HCj.out.trans (hba.mono HCj.out.size))
          have HQa := Lib.hid (HQj.out.below hba)
          obtain ⟨A8, c8, h8⟩ := HMa.out
          have Hsm := Lib.hid h8.sm
          have hdn := down_any h8 q
          obtain ⟨dd, hdd⟩ : ∃ dd, dd = downF M q := ⟨_, rfl⟩
          have hdok := down_small h8.sm q
          have hsok := seen_small h8.sm 20 q Hqok.out.2
          unfold DownP plV at hdn
          rw [← hdd] at hdn hdok
          obtain ⟨da, hda⟩ : ∃ da, da = (dd.getD (0, 0)).1 := ⟨_, rfl⟩
          obtain ⟨db, hdb⟩ : ∃ db, db = (dd.getD (0, 0)).2 := ⟨_, rfl⟩
          obtain ⟨ds, hds⟩ : ∃ ds, ds = dd.isSome := ⟨_, rfl⟩
          rw [← hda, ← hdb, ← hds] at hdn
          rw [← hdb] at hdok
          have Hdd := Lib.hid hdd
          have Hda := Lib.hid hda
          have Hdb := Lib.hid hdb
          have Hds := Lib.hid hds
          have Hdok := Lib.hid (show 0 ≤ ((da, db) : Pl).2 ∧ ((da, db) : Pl).2 ≤ 65535 from hdok)
          have HDn := Lib.hid hdn
          obtain ⟨pb, hpb⟩ : ∃ pb, pb = wj.heap.size := ⟨_, rfl⟩
          rw [← hpb] at HkP
          have Hpb := Lib.hid hpb
          clear h8 hdn hdd hda hdb hds hba hpb
          go_wp2_with fail
          rw [← hWa, ← Hpb.out]
          refine HDn.out.mono ?_
          rintro e w4 ⟨rfl, hb4⟩
          have hb4' := hb4.trans ((oneb w4 (.cells #[.int .i64 da, .int .u16 db] 74)).mono hb4.size)
          have HkP4 := Lib.hid (HkP.out.kept hb4')
          have HkD := Lib.hid (Bk.new w4 74 #[.int .i64 da, .int .u16 db] (l := [.int .i64 da, .int .u16 db]) rfl)
          have HM4 := Lib.hid (HMa.out.below hb4')
          have HR4 := Lib.hid (HRa.out.below hb4')
          have HC4 := Lib.hid (HCa.out.trans (hb4'.mono HCa.out.size))
          have HQ4 := Lib.hid (HQa.out.below hb4')
          have hrf := fun W => ref_any q Hqok.out.2 W
          unfold plV at hrf
          obtain ⟨pl, p0, p1, -, -⟩ := Bk.all2 HkP4.out
          obtain ⟨db4, hdb4⟩ : ∃ db4, db4 = w4.heap.size := ⟨_, rfl⟩
          rw [← hdb4] at HkD
          have Hdb4 := Lib.hid hdb4
          clear hb4 hb4' HDn HkP HMa HRa HCa HQa hWa m0 m1 hdb4
          go_wp2_with fail
          rw [← Hdb4.out]
          refine (hrf _).mono ?_
          rintro e w5 ⟨rfl, hb5⟩
          have HkP5 := Lib.hid (HkP4.out.kept hb5)
          have HkD5 := Lib.hid (HkD.out.kept hb5)
          have HM5 := Lib.hid (HM4.out.below hb5)
          have HR5 := Lib.hid (HR4.out.below hb5)
          have HC5 := Lib.hid (HC4.out.trans (hb5.mono HC4.out.size))
          have HQ5 := Lib.hid (HQ4.out.below hb5)
          obtain ⟨A9, c9, h9⟩ := HR5.out
          have hrd := rdown_any h9 q
          unfold RDownP at hrd
          rw [← Hdd.out, ← Hds.out] at hrd
          unfold rpV at hrd ⊢
          rw [← Hda.out, ← Hdb.out] at hrd
          have HRd := Lib.hid hrd
          clear hb5 hrf pl p0 p1 h9 hrd HkP4 HkD HM4 HR4 HC4 HQ4
          go_wp2_with fail
          refine HRd.out.mono ?_
          rintro e w6 ⟨rfl, hb6⟩
          have hb6' := hb6.trans ((oneb w6 (.cells #[.int .i64 da, .int .i64 db] 81)).mono hb6.size)
          have HkP8 := Lib.hid (HkP5.out.kept hb6')
          have HkD8 := Lib.hid (HkD5.out.kept hb6')
          have HkE8 := Lib.hid (Bk.new w6 81 #[.int .i64 da, .int .i64 db] (l := [.int .i64 da, .int .i64 db]) rfl)
          have HM8 := Lib.hid (HM5.out.below hb6')
          have HR8 := Lib.hid (HR5.out.below hb6')
          have HC8 := Lib.hid (HC5.out.trans (hb6'.mono HC5.out.size))
          have HQ8 := Lib.hid (HQ5.out.below hb6')
          obtain ⟨db6, hdb6⟩ : ∃ db6, db6 = w6.heap.size := ⟨_, rfl⟩
          rw [← hdb6] at HkE8
          have Hdb6 := Lib.hid hdb6
          clear hb6 hb6' HRd HkP5 HkD5 HM5 HR5 HC5 HQ5 hdb6
          go_upto_region 42 with fail
          rw [← Hdb6.out]
          generalize World.alloc w6 _ = w8 at HkP8 HkD8 HkE8 HM8 HR8 HC8 HQ8 ⊢
          obtain ⟨Aq, cq, HMq'⟩ := HM8.out
          have HMq := Lib.hid HMq'
          obtain ⟨Ar, cr, HRq'⟩ := HR8.out
          have HRq := Lib.hid HRq'
          obtain ⟨s1, hs1⟩ : ∃ s, s = (seenF M q).1 := ⟨_, rfl⟩
          obtain ⟨s2, hs2⟩ : ∃ s, s = (seenF M q).2 := ⟨_, rfl⟩
          have Hs1 := Lib.hid hs1
          have Hs2 := Lib.hid hs2
          have Hsok := Lib.hid (show 0 ≤ ((s1, s2) : Pl).2 ∧ ((s1, s2) : Pl).2 ≤ 65535 by show 0 ≤ s2 ∧ s2 ≤ 65535; rw [hs2]; exact hsok)
          obtain ⟨ub, hub⟩ : ∃ ub, ub = M.any (usB q.2) := ⟨_, rfl⟩
          have Hub := Lib.hid hub
          have hneq := fun W => neqRPl s1 s2 s1 s2 W false (by simp)
          have hneqd := fun W => neqRPl da db da db W false (by simp)
          have hbd : (ds != ds) = false := by simp
          have hbu : (ub != ub) = false := by simp
          have hwq : IntKind.i64.wrap q.2 = q.2 := by rw [IntKind.wrap_i64]; omega
          have HmkS := Lib.hid (fun (W : World) (hb : Below w8.heap.size w8 W) => (⟨(HkP8.out.kept hb).cell 0 rfl, (HkP8.out.kept hb).cell 1 rfl, (HkD8.out.kept hb).cell 0 rfl, (HkD8.out.kept hb).cell 1 rfl, (HkE8.out.kept hb).cell 0 rfl, (HkE8.out.kept hb).cell 1 rfl⟩ : W.cell? ⟨pb, 0, none⟩ = some (.int .i64 q.1) ∧ W.cell? ⟨pb, 1, none⟩ = some (.int .u16 q.2) ∧ W.cell? ⟨db4, 0, none⟩ = some (.int .i64 da) ∧ W.cell? ⟨db4, 1, none⟩ = some (.int .u16 db) ∧ W.cell? ⟨db6, 0, none⟩ = some (.int .i64 da) ∧ W.cell? ⟨db6, 1, none⟩ = some (.int .i64 db)))
          have HBv := Lib.hid (Below.refl w8.heap.size w8).drew
          clear HMq' HRq' hs1 hs2 hub hsok hdok
          refine wp_region_held_drew (S := (fun W => W.cell? ⟨pb, 0, none⟩ = some (.int .i64 q.1) ∧ W.cell? ⟨pb, 1, none⟩ = some (.int .u16 q.2) ∧ W.cell? ⟨db4, 0, none⟩ = some (.int .i64 da) ∧ W.cell? ⟨db4, 1, none⟩ = some (.int .u16 db) ∧ W.cell? ⟨db6, 0, none⟩ = some (.int .i64 da) ∧ W.cell? ⟨db6, 1, none⟩ = some (.int .i64 db))) (by kernel_rfl) ?_ (fun hHeld0 => ?_)
          · exact HmkS.out _ (Below.refl _ _).drew
          generalize World.drew w8 = vh0 at hHeld0 HBv ⊢
          refine wpAnyH_take (i := 0) (v := ?_) (by first | (simp only [List.getElem?_toArray, List.getElem?_cons_zero] <;> rfl) | rfl) (by kernel_rfl) (by kernel_rfl) (by kernel_rfl) (by exact fun _ _ _ h => h) (Or.inl ⟨by rfl, ?_⟩) hHeld0 ?_
          rotate_left 1
          · intro w hSw
            try dsimp only at hSw
            (go_simp) <;> (with_reducible rfl)
          try simp only [Act.put, List.setIfInBounds_toArray, List.set_cons_zero, List.set_cons_succ]
          refine wpAnyH_take (i := 1) (v := ?_) (by first | (simp only [List.getElem?_toArray, List.getElem?_cons_succ, List.getElem?_cons_zero] <;> rfl) | rfl) (by kernel_rfl) (by kernel_rfl) (by kernel_rfl) (by exact fun _ _ _ h => h) (Or.inl ⟨by rfl, ?_⟩) hHeld0 ?_
          rotate_left 1
          · intro w hSw
            try dsimp only at hSw
            (go_simp) <;> (with_reducible rfl)
          try simp only [Act.put, List.setIfInBounds_toArray, List.set_cons_zero, List.set_cons_succ]
          refine wpAnyH_take (i := 4) (v := ?_) (by first | (simp only [List.getElem?_toArray, List.getElem?_cons_succ, List.getElem?_cons_zero] <;> rfl) | rfl) (by kernel_rfl) (by kernel_rfl) (by kernel_rfl) (by exact fun _ _ _ h => h) (Or.inl ⟨by rfl, ?_⟩) hHeld0 ?_
          rotate_left 1
          · intro w hSw
            try dsimp only at hSw
            (go_simp) <;> (with_reducible rfl)
          try simp only [Act.put, List.setIfInBounds_toArray, List.set_cons_zero, List.set_cons_succ]
          refine wpAnyH_take (i := 5) (v := ?_) (by first | (simp only [List.getElem?_toArray, List.getElem?_cons_succ, List.getElem?_cons_zero] <;> rfl) | rfl) (by kernel_rfl) (by kernel_rfl) (by kernel_rfl) (by exact fun _ _ _ h => h) (Or.inl ⟨by rfl, ?_⟩) hHeld0 ?_
          rotate_left 1
          · intro w hSw
            try dsimp only at hSw
            (go_simp) <;> (with_reducible rfl)
          try simp only [Act.put, List.setIfInBounds_toArray, List.set_cons_zero, List.set_cons_succ]
          refine wpAnyH_ready (rs := [2]) (by kernel_rfl) (by simp) ?_
          refine AllReadyH.cons (by first | (simp only [List.getElem?_toArray, List.getElem?_cons_succ, List.getElem?_cons_zero] <;> rfl) | rfl) (fun K hK => ?_) ?_
          · skip
            go_simp
            refine (seen_any (HMq.out.below HBv.out) q).mono ?_
            rintro e vh1 ⟨rfl, hbq⟩
            have HBn := Lib.hid (HBv.out.trans (hbq.mono HBv.out.size))
            unfold plV
            rw [← Hs1.out, ← Hs2.out]
            refine hK.out _ _ (HmkS.out _ HBn.out) (fun hHeld1 => ?_)
            clear hK K hHeld0 hbq HBv
            have HBv := HBn
            clear HBn
            try simp only [Act.put, List.setIfInBounds_toArray, List.set_cons_zero, List.set_cons_succ]
            refine wpAnyH_ready (rs := [3]) (by kernel_rfl) (by simp) ?_
            refine AllReadyH.cons (by first | (simp only [List.getElem?_toArray, List.getElem?_cons_succ, List.getElem?_cons_zero] <;> rfl) | rfl) (fun K hK => ?_) ?_
            · skip
              go_simp
              refine (ref_any (s1, s2) Hsok.out _).mono ?_
              rintro e vh2 ⟨rfl, hbq⟩
              have HBn := Lib.hid (HBv.out.trans (hbq.mono HBv.out.size))
              unfold rpV
              dsimp only
              refine hK.out _ _ (HmkS.out _ HBn.out) (fun hHeld2 => ?_)
              clear hK K hHeld1 hbq HBv
              have HBv := HBn
              clear HBn
              try simp only [Act.put, List.setIfInBounds_toArray, List.set_cons_zero, List.set_cons_succ]
              refine wpAnyH_ready (rs := [6]) (by kernel_rfl) (by simp) ?_
              refine AllReadyH.cons (by first | (simp only [List.getElem?_toArray, List.getElem?_cons_succ, List.getElem?_cons_zero] <;> rfl) | rfl) (fun K hK => ?_) ?_
              · skip
                go_simp
                refine (ref_any q Hqok.out.2 _).mono ?_
                rintro e vh3 ⟨rfl, hbq⟩
                have HBn := Lib.hid (HBv.out.trans (hbq.mono HBv.out.size))
                unfold rpV
                refine hK.out _ _ (HmkS.out _ HBn.out) (fun hHeld3 => ?_)
                clear hK K hHeld2 hbq HBv
                have HBv := HBn
                clear HBn
                try simp only [Act.put, List.setIfInBounds_toArray, List.set_cons_zero, List.set_cons_succ]
                refine wpAnyH_ready (rs := [7]) (by kernel_rfl) (by simp) ?_
                refine AllReadyH.cons (by first | (simp only [List.getElem?_toArray, List.getElem?_cons_succ, List.getElem?_cons_zero] <;> rfl) | rfl) (fun K hK => ?_) ?_
                · skip
                  go_simp
                  refine (rseen_any (HRq.out.below HBv.out) q).mono ?_
                  rintro e vh4 ⟨rfl, hbq⟩
                  have HBn := Lib.hid (HBv.out.trans (hbq.mono HBv.out.size))
                  unfold rpV
                  rw [← Hs1.out, ← Hs2.out]
                  refine hK.out _ _ (HmkS.out _ HBn.out) (fun hHeld4 => ?_)
                  clear hK K hHeld3 hbq HBv
                  have HBv := HBn
                  clear HBn
                  try simp only [Act.put, List.setIfInBounds_toArray, List.set_cons_zero, List.set_cons_succ]
                  refine wpAnyH_take (i := 8) (v := ?_) (by first | (simp only [List.getElem?_toArray, List.getElem?_cons_succ, List.getElem?_cons_zero] <;> rfl) | rfl) (by kernel_rfl) (by kernel_rfl) (by kernel_rfl) (by exact fun _ _ _ h => h) (Or.inl ⟨by rfl, ?_⟩) hHeld4 ?_
                  rotate_left 1
                  · intro w hSw
                    try dsimp only at hSw
                    (go_simp) <;> (with_reducible rfl)
                  try simp only [Act.put, List.setIfInBounds_toArray, List.set_cons_zero, List.set_cons_succ]
                  refine wpAnyH_take (i := 9) (v := ?_) (by first | (simp only [List.getElem?_toArray, List.getElem?_cons_succ, List.getElem?_cons_zero] <;> rfl) | rfl) (by kernel_rfl) (by kernel_rfl) (by kernel_rfl) (by exact fun _ _ _ h => h) (Or.inl ⟨by rfl, ?_⟩) hHeld4 ?_
                  rotate_left 1
                  · intro w hSw
                    try dsimp only at hSw
                    (go_simp) <;> (with_reducible rfl)
                  try simp only [Act.put, List.setIfInBounds_toArray, List.set_cons_zero, List.set_cons_succ]
                  refine wpAnyH_take (i := 10) (v := ?_) (by first | (simp only [List.getElem?_toArray, List.getElem?_cons_succ, List.getElem?_cons_zero] <;> rfl) | rfl) (by kernel_rfl) (by kernel_rfl) (by kernel_rfl) (by exact fun _ _ _ h => h) (Or.inl ⟨by rfl, ?_⟩) hHeld4 ?_
                  rotate_left 1
                  · intro w hSw
                    try dsimp only at hSw
                    (go_simp) <;> (with_reducible rfl)
                  try simp only [Act.put, List.setIfInBounds_toArray, List.set_cons_zero, List.set_cons_succ]
                  refine wpAnyH_take (i := 11) (v := ?_) (by first | (simp only [List.getElem?_toArray, List.getElem?_cons_succ, List.getElem?_cons_zero] <;> rfl) | rfl) (by kernel_rfl) (by kernel_rfl) (by kernel_rfl) (by exact fun _ _ _ h => h) (Or.inl ⟨by rfl, ?_⟩) hHeld4 ?_
                  rotate_left 1
                  · intro w hSw
                    try dsimp only at hSw
                    (go_simp) <;> (with_reducible rfl)
                  try simp only [Act.put, List.setIfInBounds_toArray, List.set_cons_zero, List.set_cons_succ]
                  refine wpAnyH_take (i := 12) (v := ?_) (by first | (simp only [List.getElem?_toArray, List.getElem?_cons_succ, List.getElem?_cons_zero] <;> rfl) | rfl) (by kernel_rfl) (by kernel_rfl) (by kernel_rfl) (by exact fun _ _ _ h => h) (Or.inl ⟨by rfl, ?_⟩) hHeld4 ?_
                  rotate_left 1
                  · intro w hSw
                    try dsimp only at hSw
                    (go_simp) <;> (with_reducible rfl)
                  try simp only [Act.put, List.setIfInBounds_toArray, List.set_cons_zero, List.set_cons_succ]
                  refine wpAnyH_take (i := 13) (v := ?_) (by first | (simp only [List.getElem?_toArray, List.getElem?_cons_succ, List.getElem?_cons_zero] <;> rfl) | rfl) (by kernel_rfl) (by kernel_rfl) (by kernel_rfl) (by exact fun _ _ _ h => h) (Or.inl ⟨by rfl, ?_⟩) hHeld4 ?_
                  rotate_left 1
                  · intro w hSw
                    try dsimp only at hSw
                    (go_simp) <;> (with_reducible rfl)
                  try simp only [Act.put, List.setIfInBounds_toArray, List.set_cons_zero, List.set_cons_succ]
                  refine wpAnyH_take (i := 14) (v := ?_) (by first | (simp only [List.getElem?_toArray, List.getElem?_cons_succ, List.getElem?_cons_zero] <;> rfl) | rfl) (by kernel_rfl) (by kernel_rfl) (by kernel_rfl) (by exact fun _ _ _ h => h) (Or.inl ⟨by rfl, ?_⟩) hHeld4 ?_
                  rotate_left 1
                  · intro w hSw
                    try dsimp only at hSw
                    (go_simp) <;> (with_reducible rfl)
                  try simp only [Act.put, List.setIfInBounds_toArray, List.set_cons_zero, List.set_cons_succ]
                  refine wpAnyH_take (i := 15) (v := ?_) (by first | (simp only [List.getElem?_toArray, List.getElem?_cons_succ, List.getElem?_cons_zero] <;> rfl) | rfl) (by kernel_rfl) (by kernel_rfl) (by kernel_rfl) (by exact fun _ _ _ h => h) (Or.inl ⟨by rfl, ?_⟩) hHeld4 ?_
                  rotate_left 1
                  · intro w hSw
                    try dsimp only at hSw
                    (go_simp) <;> (with_reducible rfl)
                  try simp only [Act.put, List.setIfInBounds_toArray, List.set_cons_zero, List.set_cons_succ]
                  refine wpAnyH_take (i := 17) (v := ?_) (by first | (simp only [List.getElem?_toArray, List.getElem?_cons_succ, List.getElem?_cons_zero] <;> rfl) | rfl) (by kernel_rfl) (by kernel_rfl) (by kernel_rfl) (by exact fun _ _ _ h => h) (Or.inl ⟨by rfl, ?_⟩) hHeld4 ?_
                  rotate_left 1
                  · intro w hSw
                    try dsimp only at hSw
                    (go_simp) <;> (with_reducible rfl)
                  try simp only [Act.put, List.setIfInBounds_toArray, List.set_cons_zero, List.set_cons_succ]
                  refine wpAnyH_ready (rs := [16]) (by kernel_rfl) (by simp) ?_
                  refine AllReadyH.cons (by first | (simp only [List.getElem?_toArray, List.getElem?_cons_succ, List.getElem?_cons_zero] <;> rfl) | rfl) (fun K hK => ?_) ?_
                  · skip
                    go_simp
                    refine (ref_any (da, db) Hdok.out _).mono ?_
                    rintro e vh5 ⟨rfl, hbq⟩
                    have HBn := Lib.hid (HBv.out.trans (hbq.mono HBv.out.size))
                    unfold rpV
                    dsimp only
                    refine hK.out _ _ (HmkS.out _ HBn.out) (fun hHeld5 => ?_)
                    clear hK K hHeld4 hbq HBv
                    have HBv := HBn
                    clear HBn
                    try simp only [Act.put, List.setIfInBounds_toArray, List.set_cons_zero, List.set_cons_succ]
                    refine wpAnyH_take (i := 18) (v := ?_) (by first | (simp only [List.getElem?_toArray, List.getElem?_cons_succ, List.getElem?_cons_zero] <;> rfl) | rfl) (by kernel_rfl) (by kernel_rfl) (by kernel_rfl) (by exact fun _ _ _ h => h) (Or.inl ⟨by rfl, ?_⟩) hHeld5 ?_
                    rotate_left 1
                    · intro w hSw
                      try dsimp only at hSw
                      (go_simp) <;> (with_reducible rfl)
                    try simp only [Act.put, List.setIfInBounds_toArray, List.set_cons_zero, List.set_cons_succ]
                    refine wpAnyH_take (i := 19) (v := ?_) (by first | (simp only [List.getElem?_toArray, List.getElem?_cons_succ, List.getElem?_cons_zero] <;> rfl) | rfl) (by kernel_rfl) (by kernel_rfl) (by kernel_rfl) (by exact fun _ _ _ h => h) (Or.inl ⟨by rfl, ?_⟩) hHeld5 ?_
                    rotate_left 1
                    · intro w hSw
                      try dsimp only at hSw
                      (go_simp) <;> (with_reducible rfl)
                    try simp only [Act.put, List.setIfInBounds_toArray, List.set_cons_zero, List.set_cons_succ]
                    refine wpAnyH_take (i := 20) (v := ?_) (by first | (simp only [List.getElem?_toArray, List.getElem?_cons_succ, List.getElem?_cons_zero] <;> rfl) | rfl) (by kernel_rfl) (by kernel_rfl) (by kernel_rfl) (by exact fun _ _ _ h => h) (Or.inl ⟨by rfl, ?_⟩) hHeld5 ?_
                    rotate_left 1
                    · intro w hSw
                      try dsimp only at hSw
                      (go_simp) <;> (with_reducible rfl)
                    try simp only [Act.put, List.setIfInBounds_toArray, List.set_cons_zero, List.set_cons_succ]
                    refine wpAnyH_take (i := 21) (v := ?_) (by first | (simp only [List.getElem?_toArray, List.getElem?_cons_succ, List.getElem?_cons_zero] <;> rfl) | rfl) (by kernel_rfl) (by kernel_rfl) (by kernel_rfl) (by exact fun _ _ _ h => h) (Or.inl ⟨by rfl, ?_⟩) hHeld5 ?_
                    rotate_left 1
                    · intro w hSw
                      try dsimp only at hSw
                      (go_simp) <;> (with_reducible rfl)
                    try simp only [Act.put, List.setIfInBounds_toArray, List.set_cons_zero, List.set_cons_succ]
                    refine wpAnyH_take (i := 22) (v := ?_) (by first | (simp only [List.getElem?_toArray, List.getElem?_cons_succ, List.getElem?_cons_zero] <;> rfl) | rfl) (by kernel_rfl) (by kernel_rfl) (by kernel_rfl) (by exact fun _ _ _ h => h) (Or.inl ⟨by rfl, ?_⟩) hHeld5 ?_
                    rotate_left 1
                    · intro w hSw
                      try dsimp only at hSw
                      (go_simp) <;> (with_reducible rfl)
                    try simp only [Act.put, List.setIfInBounds_toArray, List.set_cons_zero, List.set_cons_succ]
                    refine wpAnyH_take (i := 23) (v := ?_) (by first | (simp only [List.getElem?_toArray, List.getElem?_cons_succ, List.getElem?_cons_zero] <;> rfl) | rfl) (by kernel_rfl) (by kernel_rfl) (by kernel_rfl) (by exact fun _ _ _ h => h) (Or.inl ⟨by rfl, ?_⟩) hHeld5 ?_
                    rotate_left 1
                    · intro w hSw
                      try dsimp only at hSw
                      (go_simp) <;> (with_reducible rfl)
                    try simp only [Act.put, List.setIfInBounds_toArray, List.set_cons_zero, List.set_cons_succ]
                    refine wpAnyH_take (i := 25) (v := ?_) (by first | (simp only [List.getElem?_toArray, List.getElem?_cons_succ, List.getElem?_cons_zero] <;> rfl) | rfl) (by kernel_rfl) (by kernel_rfl) (by kernel_rfl) (by exact fun _ _ _ h => h) (Or.inl ⟨by rfl, ?_⟩) hHeld5 ?_
                    rotate_left 1
                    · intro w hSw
                      try dsimp only at hSw
                      (go_simp) <;> (with_reducible rfl)
                    try simp only [Act.put, List.setIfInBounds_toArray, List.set_cons_zero, List.set_cons_succ]
                    refine wpAnyH_take (i := 26) (v := ?_) (by first | (simp only [List.getElem?_toArray, List.getElem?_cons_succ, List.getElem?_cons_zero] <;> rfl) | rfl) (by kernel_rfl) (by kernel_rfl) (by kernel_rfl) (by exact fun _ _ _ h => h) (Or.inl ⟨by rfl, ?_⟩) hHeld5 ?_
                    rotate_left 1
                    · intro w hSw
                      try dsimp only at hSw
                      (go_simp) <;> (with_reducible rfl)
                    try simp only [Act.put, List.setIfInBounds_toArray, List.set_cons_zero, List.set_cons_succ]
                    refine wpAnyH_take (i := 27) (v := ?_) (by first | (simp only [List.getElem?_toArray, List.getElem?_cons_succ, List.getElem?_cons_zero] <;> rfl) | rfl) (by kernel_rfl) (by kernel_rfl) (by kernel_rfl) (by exact fun _ _ _ h => h) (Or.inl ⟨by rfl, ?_⟩) hHeld5 ?_
                    rotate_left 1
                    · intro w hSw
                      try dsimp only at hSw
                      (go_simp) <;> (with_reducible rfl)
                    try simp only [Act.put, List.setIfInBounds_toArray, List.set_cons_zero, List.set_cons_succ]
                    refine wpAnyH_take (i := 28) (v := ?_) (by first | (simp only [List.getElem?_toArray, List.getElem?_cons_succ, List.getElem?_cons_zero] <;> rfl) | rfl) (by kernel_rfl) (by kernel_rfl) (by kernel_rfl) (by exact fun _ _ _ h => h) (Or.inl ⟨by rfl, ?_⟩) hHeld5 ?_
                    rotate_left 1
                    · intro w hSw
                      try dsimp only at hSw
                      (go_simp) <;> (with_reducible rfl)
                    try simp only [Act.put, List.setIfInBounds_toArray, List.set_cons_zero, List.set_cons_succ]
                    refine wpAnyH_ready (rs := [24]) (by kernel_rfl) (by simp) ?_
                    refine AllReadyH.cons (by first | (simp only [List.getElem?_toArray, List.getElem?_cons_succ, List.getElem?_cons_zero] <;> rfl) | rfl) (fun K hK => ?_) ?_
                    · skip
                      go_simp
                      refine (used_any (HMq.out.below HBv.out) q.2).mono ?_
                      rintro e vh6 ⟨rfl, hbq⟩
                      have HBn := Lib.hid (HBv.out.trans (hbq.mono HBv.out.size))
                      rw [← Hub.out]
                      refine hK.out _ _ (HmkS.out _ HBn.out) (fun hHeld6 => ?_)
                      clear hK K hHeld5 hbq HBv
                      have HBv := HBn
                      clear HBn
                      try simp only [Act.put, List.setIfInBounds_toArray, List.set_cons_zero, List.set_cons_succ]
                      refine wpAnyH_ready (rs := [29]) (by kernel_rfl) (by simp) ?_
                      refine AllReadyH.cons (by first | (simp only [List.getElem?_toArray, List.getElem?_cons_succ, List.getElem?_cons_zero] <;> rfl) | rfl) (fun K hK => ?_) ?_
                      · skip
                        go_simp
                        refine (rused_any (HRq.out.below HBv.out) q.2).mono ?_
                        rintro e w29 ⟨rfl, rfl⟩
                        rw [← Hub.out]
                        refine hK.out _ _ hHeld6 (fun hHeld7 => ?_)
                        clear hK K hHeld6
                        rename World => vh7
                        try simp only [Act.put, List.setIfInBounds_toArray, List.set_cons_zero, List.set_cons_succ]
                        refine wpAnyH_take (i := 30) (v := ?_) (by first | (simp only [List.getElem?_toArray, List.getElem?_cons_succ, List.getElem?_cons_zero] <;> rfl) | rfl) (by kernel_rfl) (by kernel_rfl) (by kernel_rfl) (by exact fun _ _ _ h => h) (Or.inl ⟨by rfl, ?_⟩) hHeld7 ?_
                        rotate_left 1
                        · intro w hSw
                          try dsimp only at hSw
                          (go_simp) <;> (with_reducible rfl)
                        try simp only [Act.put, List.setIfInBounds_toArray, List.set_cons_zero, List.set_cons_succ]
                        refine wpAnyH_take (i := 31) (v := ?_) (by first | (simp only [List.getElem?_toArray, List.getElem?_cons_succ, List.getElem?_cons_zero] <;> rfl) | rfl) (by kernel_rfl) (by kernel_rfl) (by kernel_rfl) (by exact fun _ _ _ h => h) (Or.inl ⟨by rfl, ?_⟩) hHeld7 ?_
                        rotate_left 1
                        · intro w hSw
                          try dsimp only at hSw
                          (go_simp) <;> (with_reducible rfl)
                        try simp only [Act.put, List.setIfInBounds_toArray, List.set_cons_zero, List.set_cons_succ]
                        refine wpAnyH_done (by kernel_rfl) ?_ _
                        rename World => wz
                        clear hHeld7
                        have HMz := Lib.hid (HM8.out.below HBv.out)
                        have HRz := Lib.hid (HR8.out.below HBv.out)
                        have HCz := Lib.hid (HC8.out.trans (HBv.out.mono HC8.out.size))
                        have HQz := Lib.hid (HQ8.out.below HBv.out)
                        clear HmkS HBv hneq hneqd hbd hbu hwq HMq HRq
                        go_wp2_with fail
                        go_roundw
                        case rel => exact ⟨j + 1, by go_num, by omega, HQz, HMz, HRz, HCz⟩
                        case measure => simp [intOf]; omega
                      exact AllReadyH.nil
                    exact AllReadyH.nil
                  exact AllReadyH.nil
                exact AllReadyH.nil
              exact AllReadyH.nil
            exact AllReadyH.nil
          exact AllReadyH.nil
        · have heq := fun W => eqPl 0 1 0 1 W true rfl
          go_wp2_with fail
          refine (mtop_any wj).mono ?_
          rintro e wt ⟨rfl, hbt⟩
          have HBt := Lib.hid (HB.out.trans ((HCj.out.trans (hbt.mono HCj.out.size)).mono HB.out.size))
          clear hbt
          unfold plV
          go_wp2_with fail
          go_ret
          exact ⟨rfl, HBt.out⟩
end Go.Proofs.Ytmbgmbheonpamaa.Mt
