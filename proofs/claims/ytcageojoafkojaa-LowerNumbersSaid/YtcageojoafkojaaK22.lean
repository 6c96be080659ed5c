/- What lays code: the search; the whole. -/
import Derived.Test.YtcageojoafkojaaK21
import Derived.WalkArith
import Derived.Test.YtcageojoafkojaaK14
import Derived.Test.YtcageojoafkojaaProg
import Derived.Shelf.SlSortCmp.KitK
import Derived.Sort.WalkB2
import Derived.Sort.WalkB12
import Derived.Deep.LoopGhost
import Derived.Lib.Hide
import Derived.Deep.CutRange
import Derived.Deep.CutBlock
import Derived.Outline
import Derived.Shelf.SlSortCmp.InsertionK
import Derived.Ground.SlsfProg
import Derived.Test.YtcageojoafkojaaK01
import Derived.Laws.AppendOwn
import Derived.Test.YtcageojoafkojaaK15
namespace Go.Proofs.Ytcageojoafkojaa.Lo
open Go.RowKit Go.Maps Go.WideMaps Go.WideElems Go.ChangeMaps Go.Proofs.Ytcageojoafkojaa.Ju Go.Proofs.Ytcageojoafkojaa.Me Go.Proofs.Ytcageojoafkojaa.Ir
set_option maxRecDepth 100000
/-- A plan's cases, as they lie ahead of all that is laid. -/
structure CsIn (w0 : World) (cs : List CaV) (A : Option Addr) : Prop where
  row : Rd w0 2 cs.length A (cs.flatMap CaV.cells)
  brs : ∀ c ∈ cs, BrIn w0 c.brs c.A
theorem case_cellsL {w : World} {b o k : Nat} {l : List CaV} {x : CaV} (hc : ∀ k x, l[k]? = some x → ∀ j v, (CaV.cells x)[j]? = some v → w.cell? ⟨b, o + (k * 2 + j), none⟩ = some v) (h : l[k]? = some x) :
    w.cell? ⟨b, o + k * 2, none⟩ = some (.int .u32 x.num) ∧ w.cell? ⟨b, o + k * 2 + 1, none⟩ = some (.slice x.A x.brs.length x.cap) :=
  ⟨by have := hc k x h 0 _ rfl; simpa using this, by have := hc k x h 1 _ rfl; simpa [Nat.add_assoc] using this⟩
theorem CsIn.drop {w : World} {b o m : Nat} {cs : List CaV} (h : CsIn w cs (some ⟨b, o, none⟩)) (hm : m < cs.length) : CsIn w (cs.drop m) (some ⟨b, o + m * 2, none⟩) := by
  refine ⟨?_, fun c hc => h.brs c (List.mem_of_mem_drop hc)⟩
  refine ⟨by rw [flatz_len CaV.cells 2 (fun _ => rfl)], ?_⟩
  obtain ⟨b', o', e, hb, hc⟩ := h.row.pos (by omega)
  cases e
  refine Or.inr ⟨b, o + m * 2, rfl, hb, fun j u hu => ?_⟩
  rw [Nat.add_assoc]
  refine hc _ _ ?_
  have e : cs.flatMap CaV.cells = (cs.take m).flatMap CaV.cells ++ (cs.drop m).flatMap CaV.cells := by rw [← List.flatMap_append, List.take_append_drop]
  rw [e, List.getElem?_append_right (by rw [flatz_len CaV.cells 2 (fun _ => rfl), List.length_take]; omega), flatz_len CaV.cells 2 (fun _ => rfl), List.length_take]
  rw [show m * 2 + j - min m cs.length * 2 = j from by rw [Nat.min_eq_left (by omega)]; omega]
  exact hu
theorem CsIn.take {w : World} {b o m : Nat} {cs : List CaV} (h : CsIn w cs (some ⟨b, o, none⟩)) (hm : m < cs.length) : CsIn w (cs.take m) (some ⟨b, o, none⟩) := by
  refine ⟨?_, fun c hc => h.brs c (List.mem_of_mem_take hc)⟩
  refine ⟨by rw [flatz_len CaV.cells 2 (fun _ => rfl)], ?_⟩
  obtain ⟨b', o', e, hb, hc⟩ := h.row.pos (by omega)
  cases e
  refine Or.inr ⟨b, o, rfl, hb, fun j u hu => hc _ _ ?_⟩
  have e : cs.flatMap CaV.cells = (cs.take m).flatMap CaV.cells ++ (cs.drop m).flatMap CaV.cells := by rw [← List.flatMap_append, List.take_append_drop]
  rw [e, List.getElem?_append_left (List.getElem?_eq_some_iff.1 hu).1]
  exact hu
theorem search_one {d f k : Nat} {l : List CaM} {c : CaM} (h : l = [c]) : searchL d (f + 1) k l = callL d k c := by
  subst h; rfl
theorem search_two {d f k m : Nat} {l : List CaM} (hm : m = l.length / 2) (h : 2 ≤ l.length) :
    searchL d (f + 1) k l = (ifC 53 (midN l) (k + 1) (k + 2) :: hereP (k + 2) :: ((searchL d f (k + 2) (l.take m)).1 ++ hereP (k + 1) :: (searchL d f (searchL d f (k + 2) (l.take m)).2 (l.drop m)).1), (searchL d f (searchL d f (k + 2) (l.take m)).2 (l.drop m)).2) := by
  subst hm
  conv => lhs; unfold searchL
  rw [if_neg (by omega)]
section
variable {w0 : World} {p B d : Nat}
set_option maxHeartbeats 16000000 in
theorem search_any (f : Nat) : ∀ (cs : List CaV) (A : Option Addr) (n cap : Nat) (w : World) (v : Value) (k : Nat) (s : List PtM), LR w0 w p B v k d s → CsIn w0 cs A → cs.length = n → n ≤ cap → 1 ≤ n → n ≤ f → n ≤ 100000 →
    (s ++ (searchL d f k (cs.map CaV.m)).1).length ≤ 150000 → (searchL d f k (cs.map CaV.m)).2 ≤ 150000 →
    Calls Try.prog 90 #[.pointer (some ⟨p, 0, none⟩), .slice A n cap] w (LQ w0 w p B (searchL d f k (cs.map CaV.m)).2 d (s ++ (searchL d f k (cs.map CaV.m)).1)) := by
  induction f with
  | zero => intro cs A n cap w v k s _ _ _ _ h1 h2; omega
  | succ f ih =>
    intro cs A n cap w v k s h hcs hn hcap h1 hf h100 hl hk
    have HIh := Lib.hid ih
    clear ih
    obtain ⟨b, o, hA, hbl0, -⟩ := hcs.row.pos (by omega)
    subst hA
    have HL := Lib.hid h
    have HO := Lib.hid (Oth.refl p w)
    have HCs := Lib.hid hcs
    have HN := Lib.hid hn
    clear h hcs hbl0
    by_cases hn1 : n = 1
    · obtain ⟨c, hc⟩ : ∃ c, cs[0]? = some c := ⟨_, List.getElem?_eq_getElem (by omega)⟩
      have hcl : cs = [c] := by
        obtain ⟨c', e⟩ := List.length_eq_one_iff.1 (hn.trans hn1)
        rw [e] at hc ⊢
        cases hc; rfl
      have HQ := Lib.hid (show searchL d (f + 1) k (cs.map CaV.m) = callL d k ⟨c.num, c.brs.map BrV.m⟩ from search_one (by rw [hcl]; rfl))
      rw [HQ.out] at hl hk ⊢
      obtain ⟨b', o', e, hbl, hcell⟩ := (HCs.out.row.below HL.out.bel).one (f := CaV.cells) (fun _ => rfl) (by omega) (by omega)
      cases e
      obtain ⟨c0, c1⟩ := case_cellsL hcell hc
      rw [Nat.zero_mul, Nat.add_zero] at c0 c1
      have HCl := Lib.hid (call_any c.num c.brs c.A c.brs.length c.cap HL.out (HCs.out.brs c (List.mem_of_getElem? hc)) rfl hl hk)
      clear hc hcl hcell hl hk hn HQ
      obtain rfl : n = 1 := hn1
      go_enter Try.func90, Try.ntmps90
      go_wp2_with fail
      refine HCl.out.mono ?_
      rintro e w2 ⟨rfl, v2, hr2, ho2⟩
      have HL := Lib.hid hr2
      have HO := Lib.hid ho2
      clear hr2 ho2 c0 c1
      go_wp2_with fail
      go_end0
      exact ⟨rfl, v2, HL.out, HO.out⟩
    · obtain ⟨m, hm⟩ : ∃ m, m = n / 2 := ⟨_, rfl⟩
      have em : (n : Int) / 2 = m := by omega
      have hm1 : 1 ≤ m := by omega
      have hmn : m < n := by omega
      obtain ⟨c, hc⟩ : ∃ c, cs[m]? = some c := ⟨_, List.getElem?_eq_getElem (by omega)⟩
      obtain ⟨k1, hk1⟩ : ∃ z, z = k + 1 := ⟨_, rfl⟩
      obtain ⟨k2, hk2⟩ : ∃ z, z = k1 + 1 := ⟨_, rfl⟩
      have hmid : midN (cs.map CaV.m) = c.num := by
        unfold midN
        rw [List.length_map, hn, ← hm, List.getElem?_map, hc]; rfl
      have hq : searchL d (f + 1) k (cs.map CaV.m) = (ifC 53 c.num k1 k2 :: hereP k2 :: ((searchL d f k2 ((cs.take m).map CaV.m)).1 ++ hereP k1 :: (searchL d f (searchL d f k2 ((cs.take m).map CaV.m)).2 ((cs.drop m).map CaV.m)).1), (searchL d f (searchL d f k2 ((cs.take m).map CaV.m)).2 ((cs.drop m).map CaV.m)).2) := by
        rw [search_two (m := m) (by rw [List.length_map, hn, hm]) (by rw [List.length_map]; omega), hmid, hk2, hk1, List.map_take, List.map_drop]
      rw [hq] at hl hk ⊢
      have l1 := (search_lay d f k2 ((cs.take m).map CaV.m)).le
      have l2 := (search_lay d f (searchL d f k2 ((cs.take m).map CaV.m)).2 ((cs.drop m).map CaV.m)).le
      simp only at hl hk l1 l2 ⊢
      have HLn := Lib.hid (show s.length + (searchL d f k2 ((cs.take m).map CaV.m)).1.length + (searchL d f (searchL d f k2 ((cs.take m).map CaV.m)).2 ((cs.drop m).map CaV.m)).1.length + 3 ≤ 150000 by simp only [List.length_append, List.length_cons] at hl; omega)
      have I1 := Lib.hid (fun W vv s' (hh : LR w0 W p B vv k2 d s') (hs' : s'.length ≤ s.length + 2) => HIh.out (cs.take m) (some ⟨b, o, none⟩) m cap W vv k2 s' hh (HCs.out.take (by omega)) (by rw [List.length_take]; omega) (by omega) hm1 (by omega) (by omega) (by rw [List.length_append]; have := HLn.out; omega) (by omega))
      have I2 := Lib.hid (fun W vv s' (hh : LR w0 W p B vv (searchL d f k2 ((cs.take m).map CaV.m)).2 d s') (hs' : s'.length ≤ s.length + 3 + (searchL d f k2 ((cs.take m).map CaV.m)).1.length) => HIh.out (cs.drop m) (some ⟨b, o + m * 2, none⟩) (n - m) (cap - m) W vv _ s' hh (HCs.out.drop (by omega)) (by rw [List.length_drop]; omega) (by omega) (by omega) (by omega) (by omega) (by rw [List.length_append]; have := HLn.out; omega) (by omega))
      obtain ⟨E1, hE1⟩ : ∃ z, z = searchL d f k2 ((cs.take m).map CaV.m) := ⟨_, rfl⟩
      rw [← hE1] at I1 I2 HLn l1 l2 hk hl ⊢
      obtain ⟨E2, hE2⟩ : ∃ z, z = searchL d f E1.2 ((cs.drop m).map CaV.m) := ⟨_, rfl⟩
      rw [← hE2] at I2 HLn l2 hk hl ⊢
      have hkb : k ≤ 149998 := by omega
      have hsl : s.length ≤ 149990 ∨ True := Or.inr trivial
      have hsl : s.length ≤ 149997 := by have := HLn.out; omega
      have HK1 := Lib.hid hk1
      have HK2 := Lib.hid hk2
      have hk1b : k1 ≤ 149999 := by omega
      have hk2b : k2 ≤ 150000 := by omega
      have HC := Lib.hid hc
      have en1 : ((n : Int) == 1) = false := by rw [beq_eq_false_iff_ne]; omega
      have hcm : ¬ cap = m := by omega
      clear hE1 hE2 hq hl hk l1 l2 hk1 hk2 hmid hc hn HIh hm
      go_enter Try.func90, Try.ntmps90
      go_wp2_with fail
      go_region_with (go_at_call 36; first | (refine (lnew_to HLn.out (by omega) HK2.out).mono ?_; rintro e w3 ⟨rfl, hr3, ho3⟩; have HL := Lib.hid hr3; have HO := Lib.hid (HOn.out.trans ho3); clear hr3 ho3 HLn HOn) | (refine (lnew_to (HL.out.below (Below.refl _ _).drew) (by omega) HK1.out).mono ?_; rintro e w2 ⟨rfl, hr2, ho2⟩; have HLn := Lib.hid hr2; have HOn := Lib.hid ((HO.out.trans (Oth.of (Below.refl _ _).drew)).trans ho2); clear hr2 ho2))
      obtain ⟨b', o', e, hbl, hcell⟩ := (HCs.out.row.below HL.out.bel).one (f := CaV.cells) (fun _ => rfl) (by omega) (by have := HN.out; omega)
      cases e
      obtain ⟨c0, -⟩ := case_cellsL hcell HC.out
      clear hcell
      have HZ := Lib.hid (And.intro c0 hbl)
      clear c0 hbl
      have z0 := HZ.out.1
      have zl := HZ.out.2
      go_wp2_with fail
      go_region_with (go_at_call 89; refine (lif_any 48 c.num k1 k2 (Or.inr (Or.inr rfl)) (HL.out.below (Below.refl _ _).drew) (by first | omega | (simp only [List.length_append, List.length_cons, List.length_nil]; omega))).mono ?_; rintro e w2 ⟨rfl, v2, hr2, ho2⟩; have HL9 := Lib.hid hr2; have HO9 := Lib.hid ((HO.out.trans (Oth.of (Below.refl _ _).drew)).trans ho2); have HD := Lib.hid ((Oth.of (Below.refl _ _).drew).trans ho2); clear hr2 ho2 HL HO; have HL := HL9; have HO := HO9; clear HL9 HO9)
      clear HD z0 zl HZ
      go_wp2_with fail
      refine (lhere_any k2 HL.out (by first | omega | (simp only [List.length_append, List.length_cons, List.length_nil]; omega))).mono ?_
      rintro e w4 ⟨rfl, v4, hr4, ho4⟩
      have HL := Lib.hid hr4
      have HO := Lib.hid (HO.out.trans ho4)
      clear hr4 ho4
      go_wp2_with fail
      refine (I1.out _ _ _ HL.out (by simp only [List.length_append, List.length_cons, List.length_nil]; omega)).mono ?_
      rintro e w5 ⟨rfl, v5, hr5, ho5⟩
      have HL := Lib.hid hr5
      have HO := Lib.hid (HO.out.trans ho5)
      clear hr5 ho5 I1
      go_wp2_with fail
      refine (lhere_any k1 HL.out (by simp only [List.length_append, List.length_cons, List.length_nil]; have := HLn.out; omega)).mono ?_
      rintro e w6 ⟨rfl, v6, hr6, ho6⟩
      have HL := Lib.hid hr6
      have HO := Lib.hid (HO.out.trans ho6)
      clear hr6 ho6
      go_wp2_with fail
      refine (I2.out _ _ _ HL.out (by simp only [List.length_append, List.length_cons, List.length_nil]; omega)).mono ?_
      rintro e w7 ⟨rfl, v7, hr7, ho7⟩
      have HL := Lib.hid hr7
      have HO := Lib.hid (HO.out.trans ho7)
      clear hr7 ho7 I2
      go_wp2_with fail
      go_end0
      exact ⟨rfl, _, by have := HL.out; simpa using this, HO.out⟩
end
end Go.Proofs.Ytcageojoafkojaa.Lo
namespace Go.Proofs.Ytcageojoafkojaa.Lo
open Go.RowKit Go.Maps Go.WideMaps Go.WideElems Go.ChangeMaps Go.Proofs.Ytcageojoafkojaa.Ju Go.Proofs.Ytcageojoafkojaa.Me Go.Proofs.Ytcageojoafkojaa.Ir
set_option maxRecDepth 100000
/-! As many names as places, at most. -/
theorem equal_cnt (k a m v y n : Nat) : (equalL k a m v y n).2 ≤ k + (equalL k a m v y n).1.length := by
  unfold equalL
  split
  · exact Nat.le_add_right _ _
  · simp only [List.length_append, List.length_cons]; omega
theorem above_cnt (k a how v y n : Nat) : (aboveL k a how v y n).2 ≤ k + (aboveL k a how v y n).1.length := by
  unfold aboveL
  split
  · exact Nat.le_add_right _ _
  · simp only [List.length_cons]; omega
theorem ask_cnt (k : Nat) (c : CondM) (y n : Nat) : (ask k c y n).2 ≤ k + (ask k c y n).1.length := by
  unfold ask
  repeat' split
  all_goals first | exact equal_cnt .. | exact above_cnt .. | exact Nat.le_add_right _ _
theorem conds_cnt (b : Nat) : ∀ (l : List CondM) (k : Nat), (condsL b k l).2 ≤ k + (condsL b k l).1.length
  | [], k => Nat.le_add_right _ _
  | c :: l, k => by
    have h1 := ask_cnt (k + 1) c (k + 1) b
    have h2 := conds_cnt b l (ask (k + 1) c (k + 1) b).2
    unfold condsL
    simp only [List.length_append, List.length_cons]
    omega
theorem br_cnt (k : Nat) (b : BrM) : (brL k b).2 ≤ k + (brL k b).1.length := by
  unfold brL
  split
  · exact Nat.le_add_right _ _
  · have := conds_cnt (k + 1) b.conds (k + 1)
    simp only [List.length_append, List.length_cons]
    omega
theorem brs_cnt : ∀ (l : List BrM) (k : Nat), (brsL k l).2 ≤ k + (brsL k l).1.length
  | [], k => Nat.le_add_right _ _
  | b :: l, k => by
    have h1 := br_cnt k b
    have h2 := brs_cnt l (brL k b).2
    unfold brsL
    simp only [List.length_append]
    omega
theorem call_cnt (d k : Nat) (c : CaM) : (callL d k c).2 ≤ k + (callL d k c).1.length := by
  have h := brs_cnt c.brs (k + 2)
  unfold callL
  simp only [List.length_cons, List.length_append, List.length_nil]
  omega
theorem search_cnt (d : Nat) : ∀ (f k : Nat) (l : List CaM), (searchL d f k l).2 ≤ k + (searchL d f k l).1.length
  | 0, k, l => Nat.le_add_right _ _
  | f + 1, k, l => by
    unfold searchL
    split
    · cases l[0]? with
      | none => exact Nat.le_add_right _ _
      | some c => exact call_cnt d k c
    · have h1 := search_cnt d f (k + 2) (l.take (l.length / 2))
      have h2 := search_cnt d f (searchL d f (k + 2) (l.take (l.length / 2))).2 (l.drop (l.length / 2))
      simp only [List.length_cons, List.length_append]
      omega
def LQx (w0 w : World) (p B d : Nat) (s : List PtM) (e : Ending) (w' : World) : Prop := e = .returned (.tuple #[]) ∧ ∃ v2 k2, LR w0 w' p B v2 k2 d s ∧ Oth p w w'
section
variable {w0 w : World} {p B : Nat} {v : Value} {d : Nat} {s : List PtM}
set_option maxHeartbeats 8000000 in
theorem calls_any (cs : List CaV) (A : Option Addr) (n cap : Nat) (h : LR w0 w p B v 2 d s) (hcs : CsIn w0 cs A) (hn : cs.length = n) (hcap : n ≤ cap) (h100 : n ≤ 100000) (hl : (s ++ callsL d (cs.map CaV.m)).length ≤ 65000) :
    Calls Try.prog 61 #[.pointer (some ⟨p, 0, none⟩), .slice A n cap] w (LQx w0 w p B d (s ++ callsL d (cs.map CaV.m))) := by
  have HL := Lib.hid h
  have HO := Lib.hid (Oth.refl p w)
  have hsl : s.length ≤ 65000 := by rw [List.length_append] at hl; omega
  by_cases h0 : n = 0
  · have HQ := Lib.hid (show callsL d (cs.map CaV.m) = [retP d] by
      have : cs = [] := List.eq_nil_of_length_eq_zero (by omega)
      rw [this]; rfl)
    have y2 := h.box.cell 2 rfl
    have yl := h.box.lt
    have e0 : ((n : Int) == 0) = true := by rw [h0]; rfl
    clear h hcs hn hl h0
    go_enter Try.func61, Try.ntmps61
    go_wp2_with fail
    refine (says_any d HL.out (by omega)).mono ?_
    rintro e w2 ⟨rfl, v2, hr2, ho2⟩
    have HL := Lib.hid hr2
    have HO := Lib.hid ho2
    clear hr2 ho2 y2 yl
    go_wp2_with fail
    go_end0
    rw [HQ.out]
    exact ⟨rfl, _, _, HL.out, HO.out⟩
  · have HQ := Lib.hid (show callsL d (cs.map CaV.m) = loadP 0 :: (searchL d n 2 (cs.map CaV.m)).1 by
      unfold callsL
      rw [if_neg (fun e => h0 (by have := congrArg List.length e; rw [List.length_map] at this; simpa [hn] using this)), List.length_map, hn])
    have e0 : ((n : Int) == 0) = false := by rw [beq_eq_false_iff_ne]; omega
    have hcnt := search_cnt d n 2 (cs.map CaV.m)
    have hle : s.length + 1 + (searchL d n 2 (cs.map CaV.m)).1.length ≤ 65000 := by rw [HQ.out] at hl; simp only [List.length_append, List.length_cons] at hl; omega
    have HSe := Lib.hid (fun W vv (hh : LR w0 W p B vv 2 d (s ++ [loadP 0])) => search_any n cs A n cap W vv 2 (s ++ [loadP 0]) hh hcs hn hcap (by omega) (Nat.le_refl _) h100 (by simp only [List.length_append, List.length_cons, List.length_nil]; omega) (by omega))
    clear h hcs hn hl h0 hcnt hle
    go_enter Try.func61, Try.ntmps61
    go_wp2_with fail
    go_region_with (first | (go_at_call 41; refine (load_of _ _).mono ?_; rintro e w1 ⟨rfl, hb1⟩; have HL1 := Lib.hid (HL.out.below ((Below.refl _ _).drew.trans hb1)); have HO1 := Lib.hid (HO.out.trans (Oth.of ((Below.refl _ _).drew.trans hb1))); clear hb1) | (go_at_call 88; refine (lplain_any ⟨32, 0, 0, 0⟩ HL1.out (by omega)).mono ?_; rintro e w2 ⟨rfl, v2, hr2, ho2⟩; have HL := Lib.hid hr2; have HO := Lib.hid (HO1.out.trans ho2); clear hr2 ho2 HL1 HO1))
    go_wp2_with fail
    refine (HSe.out _ _ HL.out).mono ?_
    rintro e w3 ⟨rfl, v3, hr3, ho3⟩
    have HL := Lib.hid hr3
    have HO := Lib.hid (HO.out.trans ho3)
    clear hr3 ho3
    go_wp2_with fail
    go_end0
    rw [HQ.out]
    exact ⟨rfl, _, _, by have := HL.out; rw [List.append_assoc] at this; exact this, HO.out⟩
end
/-- Parts answered. -/
def PtPost (l : List PtM) (w : World) (e : Ending) (w' : World) : Prop := ∃ A c, e = .returned (.slice A l.length c) ∧ Rd w' 7 l.length A (l.flatMap PtM.cells) ∧ Below w.heap.size w w'
theorem CsIn.below {w w' : World} {cs : List CaV} {A : Option Addr} (h : CsIn w cs A) (hb : Below w.heap.size w w') : CsIn w' cs A :=
  ⟨h.row.below hb, fun c hc => ⟨(h.brs c hc).row.below hb, (h.brs c hc).len, fun b hbm => ⟨((h.brs c hc).con b hbm).1.below hb, ((h.brs c hc).con b hbm).2⟩⟩⟩
set_option maxHeartbeats 8000000 in
theorem plan_any (cs : List CaV) (A : Option Addr) (n cap d : Nat) (w : World) (hcs : CsIn w cs A) (hn : cs.length = n) (hcap : n ≤ cap) (h100 : n ≤ 100000) (hl : (planL d (cs.map CaV.m)).length ≤ 65000) :
    Calls Try.prog 24 #[.agg #[.slice A n cap, .int .u32 d]] w (PtPost (planL d (cs.map CaV.m)) w) := by
  have hx := Bk.new w 42 #[.slice A n cap, .int .u32 d] (l := [.slice A n cap, .int .u32 d]) rfl
  have hb0 := oneb w (.cells #[.slice A n cap, .int .u32 d] 42)
  have HCs := Lib.hid hcs
  have HLn := Lib.hid (show (((bitsL 4 4294967295 3221225534 1 2 ++ [hereP 2]) ++ [retP 2147483648]) ++ [hereP 1]).length + (callsL d (cs.map CaV.m)).length ≤ 65000 by
    unfold planL at hl
    simp only [List.length_append, List.length_cons, List.length_nil] at hl ⊢; omega)
  have HPl := Lib.hid (show planL d (cs.map CaV.m) = (((bitsL 4 4294967295 3221225534 1 2 ++ [hereP 2]) ++ [retP 2147483648]) ++ [hereP 1]) ++ callsL d (cs.map CaV.m) by unfold planL; simp)
  have HPn := Lib.hid hl
  obtain ⟨PP, hPP⟩ : ∃ z, z = planL d (cs.map CaV.m) := ⟨_, rfl⟩
  rw [← hPP] at HPl HPn ⊢
  have HN := Lib.hid hn
  clear hcs hn hl hPP
  go_enter Try.func24, Try.ntmps24
  go_upto_region 1 with fail
  generalize World.alloc w _ = w1 at hx hb0 ⊢
  have hxl := hx.lt
  generalize w.heap.size = xb at hx hxl ⊢
  have HX := Lib.hid hx
  have HB0 := Lib.hid hb0
  have y1 := hx.cell 1 rfl
  clear hx hb0
  go_upto_region 2 with fail
  have hk := Bk.new w1 163 #[.int .i64 0, .slice none 0 0, .int .u32 d] (l := [.int .i64 0, .slice none 0 0, .int .u32 d]) rfl
  have hb1 := oneb w1 (.cells #[.int .i64 0, .slice none 0 0, .int .u32 d] 163)
  have hsz : (w1.alloc (.cells #[.int .i64 0, .slice none 0 0, .int .u32 d] 163)).heap.size = w1.heap.size + 1 := by simp
  generalize World.alloc w1 _ = w2 at hk hb1 hsz ⊢
  have hp0 : w.heap.size ≤ w1.heap.size := HB0.out.size
  have HB2 := Lib.hid (HB0.out.trans (hb1.mono HB0.out.size))
  have hL : LR w w2 w1.heap.size (w1.heap.size + 1) (.slice none 0 0) 0 d [] := ⟨hk, World.ownsRow_nil _ _ _ _, by omega, by omega, HB2.out, hp0⟩
  have hne : xb ≠ w1.heap.size := by omega
  have HX := Lib.hid (HX.out.kept hb1)
  generalize w1.heap.size = p at hL hne ⊢
  have HL := Lib.hid hL
  have HNe := Lib.hid hne
  have HO := Lib.hid (Oth.refl p w2)
  clear hk hb1 hsz hp0 hL hne hxl y1 HB0 HB2
  go_wp2_with fail
  refine (lnew_to (k1 := 1) HL.out (by omega) rfl).mono ?_
  rintro e w3 ⟨rfl, hr3, ho3⟩
  have HL := Lib.hid hr3
  have HO := Lib.hid (HO.out.trans ho3)
  clear hr3 ho3
  go_wp2_with fail
  refine (lnew_to (k1 := 2) HL.out (by omega) rfl).mono ?_
  rintro e w4 ⟨rfl, hr3, ho3⟩
  have HL := Lib.hid hr3
  have HO := Lib.hid (HO.out.trans ho3)
  clear hr3 ho3
  go_wp2_with fail
  refine (bits_any 4 4294967295 3221225534 1 2 HL.out (by simp)).mono ?_
  rintro e w5 ⟨rfl, v5, hr5, ho5⟩
  have HL := Lib.hid hr5
  have HO := Lib.hid (HO.out.trans ho5)
  clear hr5 ho5
  go_wp2_with fail
  refine (lhere_any 2 HL.out (by unfold bitsL; simp)).mono ?_
  rintro e w6 ⟨rfl, v6, hr6, ho6⟩
  have HL := Lib.hid hr6
  have HO := Lib.hid (HO.out.trans ho6)
  clear hr6 ho6
  go_wp2_with fail
  refine (says_any 2147483648 HL.out (by unfold bitsL; simp)).mono ?_
  rintro e w7 ⟨rfl, v7, hr7, ho7⟩
  have HL := Lib.hid hr7
  have HO := Lib.hid (HO.out.trans ho7)
  clear hr7 ho7
  go_wp2_with fail
  refine (lhere_any 1 HL.out (by unfold bitsL; simp)).mono ?_
  rintro e w8 ⟨rfl, v8, hr8, ho8⟩
  have HL := Lib.hid hr8
  have HO := Lib.hid (HO.out.trans ho8)
  clear hr8 ho8
  have hx := HO.out.2 _ _ _ (by decide) HNe.out HX.out
  have y0 := hx.cell 0 rfl
  have yl := hx.lt
  clear hx
  go_wp2_with fail
  refine (calls_any cs A n cap HL.out HCs.out HN.out hcap h100 (by have := HLn.out; rw [List.length_append]; simpa using this)).mono ?_
  rintro e w9 ⟨rfl, v9, k9, hr9, ho9⟩
  have HL := Lib.hid (show LR w w9 p (p + 1) v9 k9 d PP by rw [HPl.out]; simpa using hr9)
  clear hr9 ho9 y0 yl
  go_wp2_with fail
  refine (lparts_any HL.out HPn.out).mono ?_
  rintro e w10 ⟨A9, c9, rfl, hrow, hb9⟩
  obtain ⟨A8, c8, e8, _, h8, _⟩ := own_typed hrow
  cases e8
  have HRd := Lib.hid h8.rd
  have HB9 := Lib.hid (HL.out.bel.trans (hb9.mono HL.out.bel.size))
  clear hrow h8 hb9
  go_wp2_with fail
  go_ret
  exact ⟨A9, c9, rfl, HRd.out, HB9.out⟩
end Go.Proofs.Ytcageojoafkojaa.Lo
namespace Go.Proofs.Ytcageojoafkojaa.Ir
open Go.Shelf Go.RowKit Go.Lib Go.Sort
variable {α : Type} [Inhabited α]
/-- What a program says of the types of a sort of rows. -/
structure PF (P : Program) (k : Nat) : Prop where
  mixed : P.follows .mixedOrders = true
  t3 : P.underlying 3 = some (TypeDesc.int IntKind.i64)
  a3 : ∀ w, (isAgg 3).run P w = .ok false w
  z3 : ∀ w, (Go.sizeOf 3).run P w = .ok 1 w
  v3 : ∀ w, (zeroValue 3).run P w = .ok (Value.int IntKind.i64 0) w
  t4 : P.underlying 4 = some (TypeDesc.bool)
  a4 : ∀ w, (isAgg 4).run P w = .ok false w
  z4 : ∀ w, (Go.sizeOf 4).run P w = .ok 1 w
  v4 : ∀ w, (zeroValue 4).run P w = .ok (Value.bool false) w
  t22 : P.underlying 24 = some (TypeDesc.slice 47)
  a22 : ∀ w, (isAgg 24).run P w = .ok false w
  z22 : ∀ w, (Go.sizeOf 24).run P w = .ok 1 w
  v22 : ∀ w, (zeroValue 24).run P w = .ok (Value.slice none 0 0) w
  t25 : P.underlying 113 = some (TypeDesc.func #[47, 47] #[3] false)
  a25 : ∀ w, (isAgg 113).run P w = .ok false w
  z25 : ∀ w, (Go.sizeOf 113).run P w = .ok 1 w
  v25 : ∀ w, (zeroValue 113).run P w = .ok (Value.nilFunc) w
  tu : P.underlying 230 = some (TypeDesc.int IntKind.u64)
  au : ∀ w, (isAgg 230).run P w = .ok false w
  zu : ∀ w, (Go.sizeOf 230).run P w = .ok 1 w
  vu : ∀ w, (zeroValue 230).run P w = .ok (Value.int IntKind.u64 0) w
  aE : ∀ w, (isAgg 47).run P w = .ok true w
  zE : ∀ w, (Go.sizeOf 47).run P w = .ok k w
  fSW : P.funcs[129]? = some Try.f129
  fRO : P.funcs[117]? = some Try.f117
  fSY : P.funcs[94]? = some Try.f94
  fST : P.funcs[65]? = some Try.f65
end Go.Proofs.Ytcageojoafkojaa.Ir
namespace Go.Proofs
open Go.Shelf
end Go.Proofs
namespace Go.Proofs.Ytcageojoafkojaa.Ir
open Go.Shelf Go.RowKit Go.Lib Go.Sort Go.Proofs.Ytcageojoafkojaa.Rec
/-- What comes of a sort: the rules in their order, those of one class as they were. -/
structure Sorted (l l' : List RuleM) : Prop where
  len : l'.length = l.length
  mem : ∀ r ∈ l', r ∈ l
  srt : l'.Pairwise fun x y => ¬ ordF y x < 0
  stab : ∀ n s, l'.filter (fun r => decide (r.num = n ∧ strN r.act = s)) = l.filter (fun r => decide (r.num = n ∧ strN r.act = s))
end Go.Proofs.Ytcageojoafkojaa.Ir
namespace Go.Proofs.Ytcageojoafkojaa.Ir
open Go.RowKit
theorem one_alloc (w : World) (o : Obj) : Below w.heap.size w (w.alloc o) := (Below.refl w.heap.size w).alloc (Nat.le_refl _) o
end Go.Proofs.Ytcageojoafkojaa.Ir
namespace Go.Proofs.Ytcageojoafkojaa.Me
open Go.RowKit Go.WideElems
/-- Rules in memory. -/
structure RRd (w : World) (rules : List RuleV) (A : Option Addr) : Prop where
  r : Rd w 3 rules.length A (rules.flatMap RuleV.cells)
  c : ∀ x ∈ rules, Rd w 4 x.m.conds.length x.A (x.m.conds.flatMap CondM.cells)
  ok : ∀ x ∈ rules, x.m.ok
theorem RRd.below {w w' : World} {rules : List RuleV} {A : Option Addr} (h : RRd w rules A) (hb : Below w.heap.size w w') : RRd w' rules A := ⟨h.r.below hb, fun x hx => (h.c x hx).below hb, h.ok⟩
end Go.Proofs.Ytcageojoafkojaa.Me
namespace Go.Proofs.Ytcageojoafkojaa.Ir
open Go.RowKit Go.WideElems Go.Proofs.Ytcageojoafkojaa.Me
theorem addF_len (l : List BrM) (r : RuleM) : (addF l r).length ≤ l.length + 1 := by
  unfold addF
  split
  · omega
  · split
    · omega
    · simp
/-- The state of 'Of' behind k rules. -/
def InvO (ms : List RuleM) (w4 wr : World) (pb d k : Nat) : Prop :=
  (k = 0 ∧ P0 w4 wr pb d) ∨ (0 < k ∧ ∃ cs num lb g cap vB Bb, (ms.take k).foldl stF none = some (cs.map CaV.m, num, lb.map BrV.m) ∧ PS w4 wr cs num lb g cap vB Bb pb d ∧ lb.length ≤ k ∧ ∃ r, ms[k - 1]? = some r ∧ r.num = num)
theorem InvO.bel {ms : List RuleM} {w4 wr : World} {pb d k : Nat} (h : InvO ms w4 wr pb d k) : Below w4.heap.size w4 wr := by
  rcases h with ⟨_, h⟩ | ⟨_, _, _, _, _, _, _, _, _, h, _⟩
  · exact h.bel
  · exact h.bel
theorem InvO.kept {ms : List RuleM} {w4 wr w' : World} {pb d k : Nat} (h : InvO ms w4 wr pb d k) (hb : Below wr.heap.size wr w') : InvO ms w4 w' pb d k := by
  rcases h with ⟨a, h⟩ | ⟨a, cs, num, lb, g, cap, vB, Bb, b, h, c⟩
  · exact Or.inl ⟨a, h.kept hb⟩
  · exact Or.inr ⟨a, cs, num, lb, g, cap, vB, Bb, b, h.kept hb, c⟩
theorem InvO.more {ms : List RuleM} {w4 wr : World} {pb d k num : Nat} {cs : List CaV} {lb lb' : List BrV} {g cap : Nat} {vB : Value} {Bb : Nat} {r : RuleM} (hr : ms[k]? = some r) (hnum : r.num = num)
    (hst : (ms.take (k + 1)).foldl stF none = some (cs.map CaV.m, num, addF (lb.map BrV.m) r)) (h1 : lb'.map BrV.m = addF (lb.map BrV.m) r) (hlb : lb.length ≤ k) (h2 : PS w4 wr cs num lb' g cap vB Bb pb d) : InvO ms w4 wr pb d (k + 1) := by
  refine Or.inr ⟨by omega, cs, num, lb', g, cap, vB, Bb, by rw [hst, h1], h2, ?_, r, by simpa using hr, hnum⟩
  have := addF_len (lb.map BrV.m) r
  rw [← h1, List.length_map, List.length_map] at this
  omega
theorem PlanR.grown {w w' : World} {A : Option Addr} {cs : List CaV} {r : Nat} (h : PlanR w A cs) (hg : w.grownBy w' (some r)) (ht : TyB w r 42) : PlanR w' A cs :=
  ⟨h.row.grown hg (h.row.off ht (by decide)), fun c hc => (h.brs c hc).grown hg ((h.brs c hc).off ht (by decide)), fun c hc b hb => TRd.grown (h.con c hc b hb) hg (TRd.off (h.con c hc b hb) ht (by decide))⟩
theorem PlanR.below {w w' : World} {A : Option Addr} {cs : List CaV} (h : PlanR w A cs) (hb : Below w.heap.size w w') : PlanR w' A cs :=
  ⟨h.row.below hb, fun c hc => (h.brs c hc).below hb, fun c hc b hb' => (h.con c hc b hb').below hb⟩
theorem st_len' : ∀ (l : List RuleM) (s : Option (List CaM × Nat × List BrM)), (match l.foldl stF s with | some x => x.1.length + 1 | none => 0) ≤ (match s with | some x => x.1.length + 1 | none => 0) + l.length
  | [], s => by simp
  | r :: t, s => by
    have h := st_len' t (stF s r)
    rw [List.foldl_cons, List.length_cons]
    refine Nat.le_trans h ?_
    cases s with
    | none => simp [stF]; omega
    | some x =>
      obtain ⟨cs, num, lb⟩ := x
      by_cases hq : r.num = num
      · have e : stF (some (cs, num, lb)) r = some (cs, num, addF lb r) := if_pos hq
        rw [e]; simp only; omega
      · have e : stF (some (cs, num, lb)) r = some (cs ++ [⟨num, lb⟩], r.num, addF [] r) := if_neg hq
        rw [e]; simp only [List.length_append, List.length_cons, List.length_nil]; omega
end Go.Proofs.Ytcageojoafkojaa.Ir
namespace Go.Proofs.Ytcageojoafkojaa.Me
open Go.RowKit Go.WideElems
/-- Rules in memory, as the document has them. -/
structure RRr (w : World) (rules : List RuleV) (A : Option Addr) : Prop where
  r : Rd w 3 rules.length A (rules.flatMap RuleV.cells)
  c : ∀ x ∈ rules, Rd w 4 x.m.conds.length x.A (x.m.conds.flatMap CondM.rcells)
  ok : ∀ x ∈ rules, x.m.ok
theorem RRr.below {w w' : World} {rules : List RuleV} {A : Option Addr} (h : RRr w rules A) (hb : Below w.heap.size w w') : RRr w' rules A := ⟨h.r.below hb, fun x hx => (h.c x hx).below hb, h.ok⟩
end Go.Proofs.Ytcageojoafkojaa.Me
namespace Go.Proofs.Ytcageojoafkojaa.Ir
open Go.Proofs.Ytcageojoafkojaa.Me
end Go.Proofs.Ytcageojoafkojaa.Ir
namespace Go.Proofs.Ytcageojoafkojaa.Ir
open Go.Proofs.Ytcageojoafkojaa.Me
end Go.Proofs.Ytcageojoafkojaa.Ir
namespace Go.Proofs.Ytcageojoafkojaa.Ir
open Go.RowKit Go.WideElems
theorem casecmp_any (c : CaV) (x : Nat) (w : World) : Calls Try.prog 92 #[.agg #[.int .u32 c.num, .slice c.A c.brs.length c.cap], .int .u32 x] w fun e w' => e = .returned (.int .i64 (if (c.num : Int) < (x : Int) then -1 else if (x : Int) < (c.num : Int) then 1 else 0)) ∧ Below w.heap.size w w' := by
  have hc := compare_any (c.num : Int) (x : Int)
  generalize (if (c.num : Int) < (x : Int) then (-1 : Int) else if (x : Int) < (c.num : Int) then 1 else 0) = r at hc ⊢
  generalize c.brs.length = n
  go_enter Try.func92, Try.ntmps92
  go_wp2_with (go_at_call 66; refine (hc _).mono ?_; rintro e w1 ⟨rfl, rfl⟩)
  go_ret
  exact ⟨rfl, oneb _ _⟩
theorem case_cells {w : World} {b o k : Nat} {l : List CaV} {x : CaV} (hc : ∀ k x, l[k]? = some x → ∀ j v, (CaV.cells x)[j]? = some v → w.cell? ⟨b, o + (k * 2 + j), none⟩ = some v) (h : l[k]? = some x) :
    w.cell? ⟨b, o + k * 2, none⟩ = some (.int .u32 x.num) ∧ w.cell? ⟨b, o + k * 2 + 1, none⟩ = some (.slice x.A x.brs.length x.cap) :=
  ⟨by have := hc k x h 0 _ rfl; simpa using this, by have := hc k x h 1 _ rfl; simpa [Nat.add_assoc] using this⟩
set_option maxHeartbeats 8000000 in
set_option maxRecDepth 100000 in
theorem search_any (cs : List CaV) (n : Nat) (A : Option Addr) (cap x : Nat) (w : World) (hn : cs.length = n) (hl : n ≤ 100000) (hs : ∀ (i j : Nat) (c d : CaV), i < j → cs[i]? = some c → cs[j]? = some d → c.num < d.num) (hR : Rd w 2 n A (cs.flatMap CaV.cells)) :
    Calls Try.prog 91 #[.slice A n cap, .int .u32 x, .func (.func 92) #[] #[]] w fun e w' => Below w.heap.size w w' ∧ ∃ (i : Nat) (f : Bool), e = .returned (.tuple #[.int .i64 i, .bool f]) ∧ (f = true → ∃ c, cs[i]? = some c ∧ c.num = x) ∧ (f = false → ∀ c ∈ cs, c.num ≠ x) := by
  have eg : ∀ args w, (callFunc 92 args).run Try.prog w = .ok (.enter 92 args) w := enters_of Try.func92 (by kernel_rfl) rfl
  have HN := Lib.hid hn
  have HS := Lib.hid hs
  have HR := Lib.hid hR
  clear hn hs hR
  go_enter Try.func91, Try.ntmps91
  go_wp2_with fail
  go_loopw [9, 10] (fun iv jv wr => ∃ i j : Nat, iv = .int .i64 i ∧ jv = .int .i64 j ∧ i ≤ j ∧ j ≤ n ∧ Hid (∀ k c, k < i → cs[k]? = some c → c.num < x) ∧ Hid (∀ k c, j ≤ k → cs[k]? = some c → x ≤ c.num) ∧ Hid (Below w.heap.size w wr)) (fun iv jv _ => (intOf jv).toNat - (intOf iv).toNat)
  case atStart => exact ⟨0, n, rfl, rfl, Nat.zero_le _, Nat.le_refl _, Lib.hid (fun k c h => absurd h (Nat.not_lt_zero k)), Lib.hid (fun k c h hc => by have := (List.getElem?_eq_some_iff.1 hc).1; have := HN.out; omega), Lib.hid (Below.refl _ _)⟩
  case round =>
    obtain ⟨i, j, rfl, rfl, hij, hj, HI, HJ, HB⟩ := hrel
    by_cases hlt : i < j
    · obtain ⟨h, hh⟩ : ∃ h, h = (i + j) / 2 := ⟨_, rfl⟩
      have zh : ((i : Int) + (j : Int)) / 2 = (h : Int) := by omega
      obtain ⟨c, hc⟩ : ∃ c, cs[h]? = some c := ⟨_, List.getElem?_eq_getElem (by have := HN.out; omega)⟩
      obtain ⟨b, o, hA, hbl, hcell⟩ := (HR.out.below HB.out).one (f := CaV.cells) (fun _ => rfl) (by omega) (by omega)
      subst hA
      obtain ⟨c0, c1⟩ := case_cells hcell hc
      have hcl := casecmp_any c x
      have HC := Lib.hid hc
      have hhi : (h : Int) < (n : Int) := by omega
      have hh1 : i ≤ h := by omega
      have hh2 : h < j := by omega
      clear hcell hc
      have tu := Try.underlying230
      have wu : IntKind.u64.wrap ((i : Int) + (j : Int)) = (i : Int) + (j : Int) := by rw [IntKind.wrap_u64]; omega
      clear hh
      go_upto_region 5 with fail
      clear tu wu zh
      by_cases hv : c.num < x
      · rw [if_pos (show (c.num : Int) < (x : Int) by omega)] at hcl
        have HI2 := Lib.hid (show ∀ k c', k < h + 1 → cs[k]? = some c' → c'.num < x from fun k c' hk hc' => by
          by_cases hkh : k = h
          · subst hkh; rw [HC.out] at hc'; cases hc'; exact hv
          · exact Nat.lt_trans (HS.out k h c' c (by omega) hc' HC.out) hv)
        have HCL := Lib.hid hcl
        clear hv hcl
        go_wp2_with (go_at_fn 92; refine (HCL.out _).mono ?_; rintro e w3 ⟨rfl, hb3⟩; have HB3 := Lib.hid (HB.out.trans (hb3.mono HB.out.size)); clear hb3)
        go_roundw
        case rel => exact ⟨h + 1, j, by go_num, rfl, by omega, hj, HI2, HJ, HB3⟩
        case measure => simp [intOf]; omega
      · rw [if_neg (show ¬ (c.num : Int) < (x : Int) by omega)] at hcl
        obtain ⟨r, hr⟩ : ∃ r : Int, r = (if (x : Int) < (c.num : Int) then 1 else 0) := ⟨_, rfl⟩
        rw [← hr] at hcl
        have hr0 : ¬ r < 0 := by rw [hr]; split <;> omega
        have HJ2 := Lib.hid (show ∀ k c', h ≤ k → cs[k]? = some c' → x ≤ c'.num from fun k c' hk hc' => by
          by_cases hkh : k = h
          · subst hkh; rw [HC.out] at hc'; cases hc'; omega
          · have := HS.out h k c c' (by omega) HC.out hc'; omega)
        have HCL := Lib.hid hcl
        clear hv hcl hr
        go_wp2_with (go_at_fn 92; refine (HCL.out _).mono ?_; rintro e w3 ⟨rfl, hb3⟩; have HB3 := Lib.hid (HB.out.trans (hb3.mono HB.out.size)); clear hb3)
        go_roundw
        case rel => exact ⟨i, h, rfl, by go_num, hh1, by omega, HI, HJ2, HB3⟩
        case measure => simp [intOf]; omega
    · obtain rfl : i = j := by omega
      by_cases hin : i < n
      · obtain ⟨c, hc⟩ : ∃ c, cs[i]? = some c := ⟨_, List.getElem?_eq_getElem (by have := HN.out; omega)⟩
        obtain ⟨b, o, hA, hbl, hcell⟩ := (HR.out.below HB.out).one (f := CaV.cells) (fun _ => rfl) (by omega) (by omega)
        subst hA
        obtain ⟨c0, c1⟩ := case_cells hcell hc
        have hge := HJ.out i c (Nat.le_refl _) hc
        have hcl := casecmp_any c x
        rw [if_neg (show ¬ (c.num : Int) < (x : Int) by omega)] at hcl
        obtain ⟨r, hr⟩ : ∃ r : Int, r = (if (x : Int) < (c.num : Int) then 1 else 0) := ⟨_, rfl⟩
        rw [← hr] at hcl
        have HF := Lib.hid (show ((r == 0) = true → ∃ c, cs[i]? = some c ∧ c.num = x) ∧ ((r == 0) = false → ∀ c ∈ cs, c.num ≠ x) by
          refine ⟨fun h => ⟨c, hc, ?_⟩, fun h d hd e => ?_⟩
          · rw [beq_iff_eq, hr] at h
            by_cases hq : (x : Int) < (c.num : Int)
            · rw [if_pos hq] at h; omega
            · omega
          · rw [beq_eq_false_iff_ne, hr] at h
            have hq : (x : Int) < (c.num : Int) := by
              by_cases hq : (x : Int) < (c.num : Int)
              · exact hq
              · rw [if_neg hq] at h; omega
            obtain ⟨k, hk⟩ := List.getElem?_of_mem hd
            rcases Nat.lt_trichotomy k i with h1 | h1 | h1
            · have := HI.out k d h1 hk; omega
            · subst h1; rw [hc] at hk; cases hk; omega
            · have := HS.out i k c d h1 hc hk; omega)
        have HCL := Lib.hid hcl
        clear hcell hc hge hcl hr
        go_wp2_with (go_at_fn 92; refine (HCL.out _).mono ?_; rintro e w3 ⟨rfl, hb3⟩; have HB3 := Lib.hid (HB.out.trans (hb3.mono HB.out.size)); clear hb3)
        go_ret2
        exact ⟨HB3.out, i, r == 0, rfl, HF.out.1, HF.out.2⟩
      · go_wp2_with fail
        go_ret2
        refine ⟨HB.out, i, false, rfl, (fun h => by cases h), fun _ c hc e => ?_⟩
        obtain ⟨k, hk⟩ := List.getElem?_of_mem hc
        have h1 := (List.getElem?_eq_some_iff.1 hk).1
        have h2 := HN.out
        have h3 := HI.out k c (by omega) hk
        omega
end Go.Proofs.Ytcageojoafkojaa.Ir
