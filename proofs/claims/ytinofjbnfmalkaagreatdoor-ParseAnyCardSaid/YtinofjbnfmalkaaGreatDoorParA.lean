/- What answers an argument, a sign: the walks. -/
import Derived.Test.YtinofjbnfmalkaaGreatDoorParV
namespace Go.Proofs.YtinofjbnfmalkaaGreatDoor.Pa
open Go.RowKit Go.WideElems
structure Ev (w : World) (b : Nat) : Prop where
  sg : ∀ i, i < 8 → w.cell? ⟨1, i, none⟩ = some (.string ⟨(sgT.getD i []).toArray⟩)
  nm : Rt.NamesAt w
  ml : ∃ m, w.cell? ⟨3, 0, none⟩ = some (.int .i64 m)
  gb : 1 < b ∧ 0 < b
  gm : 3 < b
theorem Ev.env {w : World} {b : Nat} (h : Ev w b) : Env w := ⟨h.ml, h.sg 7 (by omega)⟩
theorem cell_lt {w : World} {b o : Nat} {v : Value} (h : w.cell? ⟨b, o, none⟩ = some v) : b < w.heap.size := by
  rcases Nat.lt_or_ge b w.heap.size with h' | h'
  · exact h'
  · simp [World.cell?, Array.getElem?_eq_none h'] at h
theorem cell_grow {w w' : World} {b o g : Nat} {v : Value} (h : w.cell? ⟨b, o, none⟩ = some v) (hg : w.grownBy w' (some g)) (hn : b ≠ g) : w'.cell? ⟨b, o, none⟩ = some v := by
  rw [← h]
  unfold World.cell?
  rw [hg.block b (cell_lt h) (fun e => hn (Option.some.inj e))]
theorem Ev.grown {w w' : World} {b g : Nat} (h : Ev w b) (hg : w.grownBy w' (some g)) (hb : b ≤ g) : Ev w' b :=
  ⟨fun i hi => cell_grow (h.sg i hi) hg (by have := h.gb.1; omega), fun i hi => cell_grow (h.nm i hi) hg (by have := h.gb.2; omega), by obtain ⟨m, hm⟩ := h.ml; exact ⟨m, cell_grow hm hg (by have := h.gm; omega)⟩, h.gb, h.gm⟩
theorem Ev.kept {w w' : World} {b : Nat} (h : Ev w b) (hb : Below w.heap.size w w') : Ev w' b :=
  ⟨fun i hi => cell_below (h.sg i hi) hb, h.nm.below hb, by obtain ⟨m, hm⟩ := h.ml; exact ⟨m, cell_below hm hb⟩, h.gb, h.gm⟩
theorem drew_end {w w2 wr : World} {b : Nat} {c : RC} {s : RS} (h : Rb w2 b c s) (hg : w.grownBy w2 (some b)) (hw : ∃ n, wr = w2.drewN n) (nq : Nat) : Rb (wr.drewN nq) b c s ∧ w.grownBy (wr.drewN nq) (some b) ∧ Hid (∃ n, wr.drewN nq = w2.drewN n) := by
  obtain ⟨n0, rfl⟩ := hw
  have hb : Below w2.heap.size w2 ((w2.drewN n0).drewN nq) := below_drewN (below_drewN (Below.refl _ _) n0) nq
  exact ⟨h.kept hb, only_trans hg (gb b hb), n0 + nq, drewN_two _ _ _⟩
theorem Ev.drewN {w : World} {b : Nat} (h : Ev w b) (n : Nat) : Ev (w.drewN n) b := ⟨h.sg, h.nm.drewN n, h.ml, h.gb, h.gm⟩
set_option maxHeartbeats 4000000 in
set_option maxRecDepth 100000 in
theorem sgn_1 (w : World) (h : w.cell? ⟨1, 1, none⟩ = some (.string ⟨#[61, 61]⟩)) : Calls Tryz.prog 90 #[.int .u8 1] w (Same9 (.string ⟨#[61, 61]⟩) w) := by
  go_enter Tryz.func90, Tryz.ntmps90
  go_wp2_with (go_at_call 83; refine (known_any 1 _).mono ?_; rintro e w' ⟨rfl, rfl⟩)
  go_ret
  exact ⟨rfl, rfl⟩
set_option maxHeartbeats 4000000 in
set_option maxRecDepth 100000 in
theorem sgn_2 (w : World) (h : w.cell? ⟨1, 2, none⟩ = some (.string ⟨#[33, 61]⟩)) : Calls Tryz.prog 90 #[.int .u8 2] w (Same9 (.string ⟨#[33, 61]⟩) w) := by
  go_enter Tryz.func90, Tryz.ntmps90
  go_wp2_with (go_at_call 83; refine (known_any 2 _).mono ?_; rintro e w' ⟨rfl, rfl⟩)
  go_ret
  exact ⟨rfl, rfl⟩
set_option maxHeartbeats 4000000 in
set_option maxRecDepth 100000 in
theorem sgn_3 (w : World) (h : w.cell? ⟨1, 3, none⟩ = some (.string ⟨#[60]⟩)) : Calls Tryz.prog 90 #[.int .u8 3] w (Same9 (.string ⟨#[60]⟩) w) := by
  go_enter Tryz.func90, Tryz.ntmps90
  go_wp2_with (go_at_call 83; refine (known_any 3 _).mono ?_; rintro e w' ⟨rfl, rfl⟩)
  go_ret
  exact ⟨rfl, rfl⟩
set_option maxHeartbeats 4000000 in
set_option maxRecDepth 100000 in
theorem sgn_4 (w : World) (h : w.cell? ⟨1, 4, none⟩ = some (.string ⟨#[60, 61]⟩)) : Calls Tryz.prog 90 #[.int .u8 4] w (Same9 (.string ⟨#[60, 61]⟩) w) := by
  go_enter Tryz.func90, Tryz.ntmps90
  go_wp2_with (go_at_call 83; refine (known_any 4 _).mono ?_; rintro e w' ⟨rfl, rfl⟩)
  go_ret
  exact ⟨rfl, rfl⟩
set_option maxHeartbeats 4000000 in
set_option maxRecDepth 100000 in
theorem sgn_5 (w : World) (h : w.cell? ⟨1, 5, none⟩ = some (.string ⟨#[62]⟩)) : Calls Tryz.prog 90 #[.int .u8 5] w (Same9 (.string ⟨#[62]⟩) w) := by
  go_enter Tryz.func90, Tryz.ntmps90
  go_wp2_with (go_at_call 83; refine (known_any 5 _).mono ?_; rintro e w' ⟨rfl, rfl⟩)
  go_ret
  exact ⟨rfl, rfl⟩
set_option maxHeartbeats 4000000 in
set_option maxRecDepth 100000 in
theorem sgn_6 (w : World) (h : w.cell? ⟨1, 6, none⟩ = some (.string ⟨#[62, 61]⟩)) : Calls Tryz.prog 90 #[.int .u8 6] w (Same9 (.string ⟨#[62, 61]⟩) w) := by
  go_enter Tryz.func90, Tryz.ntmps90
  go_wp2_with (go_at_call 83; refine (known_any 6 _).mono ?_; rintro e w' ⟨rfl, rfl⟩)
  go_ret
  exact ⟨rfl, rfl⟩
set_option maxHeartbeats 4000000 in
set_option maxRecDepth 100000 in
theorem sgn_7 (w : World) (h : w.cell? ⟨1, 7, none⟩ = some (.string ⟨#[38]⟩)) : Calls Tryz.prog 90 #[.int .u8 7] w (Same9 (.string ⟨#[38]⟩) w) := by
  go_enter Tryz.func90, Tryz.ntmps90
  go_wp2_with (go_at_call 83; refine (known_any 7 _).mono ?_; rintro e w' ⟨rfl, rfl⟩)
  go_ret
  exact ⟨rfl, rfl⟩
theorem itoa_0 (w : World) : Calls Tryz.prog 193 #[.int .i64 0] w (Same9 (.string ⟨#[48]⟩) w) := by
  refine (Tryz.strconv_Itoa_small 0 (by omega) w).mono ?_
  rintro e w' ⟨rfl, rfl⟩
  exact ⟨by rw [Lib.decDigits]; rfl, rfl⟩
theorem itoa_1 (w : World) : Calls Tryz.prog 193 #[.int .i64 1] w (Same9 (.string ⟨#[49]⟩) w) := by
  refine (Tryz.strconv_Itoa_small 1 (by omega) w).mono ?_
  rintro e w' ⟨rfl, rfl⟩
  exact ⟨by rw [Lib.decDigits]; rfl, rfl⟩
theorem itoa_2 (w : World) : Calls Tryz.prog 193 #[.int .i64 2] w (Same9 (.string ⟨#[50]⟩) w) := by
  refine (Tryz.strconv_Itoa_small 2 (by omega) w).mono ?_
  rintro e w' ⟨rfl, rfl⟩
  exact ⟨by rw [Lib.decDigits]; rfl, rfl⟩
theorem itoa_3 (w : World) : Calls Tryz.prog 193 #[.int .i64 3] w (Same9 (.string ⟨#[51]⟩) w) := by
  refine (Tryz.strconv_Itoa_small 3 (by omega) w).mono ?_
  rintro e w' ⟨rfl, rfl⟩
  exact ⟨by rw [Lib.decDigits]; rfl, rfl⟩
theorem itoa_4 (w : World) : Calls Tryz.prog 193 #[.int .i64 4] w (Same9 (.string ⟨#[52]⟩) w) := by
  refine (Tryz.strconv_Itoa_small 4 (by omega) w).mono ?_
  rintro e w' ⟨rfl, rfl⟩
  exact ⟨by rw [Lib.decDigits]; rfl, rfl⟩
theorem itoa_5 (w : World) : Calls Tryz.prog 193 #[.int .i64 5] w (Same9 (.string ⟨#[53]⟩) w) := by
  refine (Tryz.strconv_Itoa_small 5 (by omega) w).mono ?_
  rintro e w' ⟨rfl, rfl⟩
  exact ⟨by rw [Lib.decDigits]; rfl, rfl⟩
def opG (k : Nat) (t : Bs) : Nat := (([1, 2, 3, 4, 5, 6, 7].drop k).find? fun o => decide (sgT.getD o [] = t)).getD 0
def argG (k : Nat) (t : Bs) : Option Nat := ([0, 1, 2, 3, 4, 5].drop k).find? fun i => decide (t = argT i)
theorem opG_0y {t : Bs} (h : t = [61, 61]) : opG 0 t = 1 := by subst h; rfl
theorem opG_0n {t : Bs} (h : t ≠ [61, 61]) : opG 0 t = opG 1 t := by
  have h2 : ¬ sgT.getD 1 [] = t := fun e => h e.symm
  show (List.find? (fun o => decide (sgT.getD o [] = t)) (1 :: [2, 3, 4, 5, 6, 7])).getD 0 = (List.find? (fun o => decide (sgT.getD o [] = t)) [2, 3, 4, 5, 6, 7]).getD 0
  rw [List.find?_cons_of_neg (by rw [decide_eq_true_eq]; exact h2)]
theorem opG_1y {t : Bs} (h : t = [33, 61]) : opG 1 t = 2 := by subst h; rfl
theorem opG_1n {t : Bs} (h : t ≠ [33, 61]) : opG 1 t = opG 2 t := by
  have h2 : ¬ sgT.getD 2 [] = t := fun e => h e.symm
  show (List.find? (fun o => decide (sgT.getD o [] = t)) (2 :: [3, 4, 5, 6, 7])).getD 0 = (List.find? (fun o => decide (sgT.getD o [] = t)) [3, 4, 5, 6, 7]).getD 0
  rw [List.find?_cons_of_neg (by rw [decide_eq_true_eq]; exact h2)]
theorem opG_2y {t : Bs} (h : t = [60]) : opG 2 t = 3 := by subst h; rfl
theorem opG_2n {t : Bs} (h : t ≠ [60]) : opG 2 t = opG 3 t := by
  have h2 : ¬ sgT.getD 3 [] = t := fun e => h e.symm
  show (List.find? (fun o => decide (sgT.getD o [] = t)) (3 :: [4, 5, 6, 7])).getD 0 = (List.find? (fun o => decide (sgT.getD o [] = t)) [4, 5, 6, 7]).getD 0
  rw [List.find?_cons_of_neg (by rw [decide_eq_true_eq]; exact h2)]
theorem opG_3y {t : Bs} (h : t = [60, 61]) : opG 3 t = 4 := by subst h; rfl
theorem opG_3n {t : Bs} (h : t ≠ [60, 61]) : opG 3 t = opG 4 t := by
  have h2 : ¬ sgT.getD 4 [] = t := fun e => h e.symm
  show (List.find? (fun o => decide (sgT.getD o [] = t)) (4 :: [5, 6, 7])).getD 0 = (List.find? (fun o => decide (sgT.getD o [] = t)) [5, 6, 7]).getD 0
  rw [List.find?_cons_of_neg (by rw [decide_eq_true_eq]; exact h2)]
theorem opG_4y {t : Bs} (h : t = [62]) : opG 4 t = 5 := by subst h; rfl
theorem opG_4n {t : Bs} (h : t ≠ [62]) : opG 4 t = opG 5 t := by
  have h2 : ¬ sgT.getD 5 [] = t := fun e => h e.symm
  show (List.find? (fun o => decide (sgT.getD o [] = t)) (5 :: [6, 7])).getD 0 = (List.find? (fun o => decide (sgT.getD o [] = t)) [6, 7]).getD 0
  rw [List.find?_cons_of_neg (by rw [decide_eq_true_eq]; exact h2)]
theorem opG_5y {t : Bs} (h : t = [62, 61]) : opG 5 t = 6 := by subst h; rfl
theorem opG_5n {t : Bs} (h : t ≠ [62, 61]) : opG 5 t = opG 6 t := by
  have h2 : ¬ sgT.getD 6 [] = t := fun e => h e.symm
  show (List.find? (fun o => decide (sgT.getD o [] = t)) (6 :: [7])).getD 0 = (List.find? (fun o => decide (sgT.getD o [] = t)) [7]).getD 0
  rw [List.find?_cons_of_neg (by rw [decide_eq_true_eq]; exact h2)]
theorem opG_6y {t : Bs} (h : t = [38]) : opG 6 t = 7 := by subst h; rfl
theorem opG_6n {t : Bs} (h : t ≠ [38]) : opG 6 t = opG 7 t := by
  have h2 : ¬ sgT.getD 7 [] = t := fun e => h e.symm
  show (List.find? (fun o => decide (sgT.getD o [] = t)) (7 :: [])).getD 0 = (List.find? (fun o => decide (sgT.getD o [] = t)) []).getD 0
  rw [List.find?_cons_of_neg (by rw [decide_eq_true_eq]; exact h2)]
theorem argG_0y {t : Bs} (h : t = [97, 114, 103, 48]) : argG 0 t = some 0 := by subst h; rfl
theorem argG_0n {t : Bs} (h : t ≠ [97, 114, 103, 48]) : argG 0 t = argG 1 t := by
  have h2 : ¬ t = argT 0 := h
  show List.find? (fun i => decide (t = argT i)) (0 :: [1, 2, 3, 4, 5]) = List.find? (fun i => decide (t = argT i)) [1, 2, 3, 4, 5]
  rw [List.find?_cons_of_neg (by rw [decide_eq_true_eq]; exact h2)]
theorem argG_1y {t : Bs} (h : t = [97, 114, 103, 49]) : argG 1 t = some 1 := by subst h; rfl
theorem argG_1n {t : Bs} (h : t ≠ [97, 114, 103, 49]) : argG 1 t = argG 2 t := by
  have h2 : ¬ t = argT 1 := h
  show List.find? (fun i => decide (t = argT i)) (1 :: [2, 3, 4, 5]) = List.find? (fun i => decide (t = argT i)) [2, 3, 4, 5]
  rw [List.find?_cons_of_neg (by rw [decide_eq_true_eq]; exact h2)]
theorem argG_2y {t : Bs} (h : t = [97, 114, 103, 50]) : argG 2 t = some 2 := by subst h; rfl
theorem argG_2n {t : Bs} (h : t ≠ [97, 114, 103, 50]) : argG 2 t = argG 3 t := by
  have h2 : ¬ t = argT 2 := h
  show List.find? (fun i => decide (t = argT i)) (2 :: [3, 4, 5]) = List.find? (fun i => decide (t = argT i)) [3, 4, 5]
  rw [List.find?_cons_of_neg (by rw [decide_eq_true_eq]; exact h2)]
theorem argG_3y {t : Bs} (h : t = [97, 114, 103, 51]) : argG 3 t = some 3 := by subst h; rfl
theorem argG_3n {t : Bs} (h : t ≠ [97, 114, 103, 51]) : argG 3 t = argG 4 t := by
  have h2 : ¬ t = argT 3 := h
  show List.find? (fun i => decide (t = argT i)) (3 :: [4, 5]) = List.find? (fun i => decide (t = argT i)) [4, 5]
  rw [List.find?_cons_of_neg (by rw [decide_eq_true_eq]; exact h2)]
theorem argG_4y {t : Bs} (h : t = [97, 114, 103, 52]) : argG 4 t = some 4 := by subst h; rfl
theorem argG_4n {t : Bs} (h : t ≠ [97, 114, 103, 52]) : argG 4 t = argG 5 t := by
  have h2 : ¬ t = argT 4 := h
  show List.find? (fun i => decide (t = argT i)) (4 :: [5]) = List.find? (fun i => decide (t = argT i)) [5]
  rw [List.find?_cons_of_neg (by rw [decide_eq_true_eq]; exact h2)]
theorem argG_5y {t : Bs} (h : t = [97, 114, 103, 53]) : argG 5 t = some 5 := by subst h; rfl
theorem argG_5n {t : Bs} (h : t ≠ [97, 114, 103, 53]) : argG 5 t = argG 6 t := by
  have h2 : ¬ t = argT 5 := h
  show List.find? (fun i => decide (t = argT i)) (5 :: []) = List.find? (fun i => decide (t = argT i)) []
  rw [List.find?_cons_of_neg (by rw [decide_eq_true_eq]; exact h2)]
set_option maxHeartbeats 4000000 in
set_option maxRecDepth 100000 in
theorem op_any (b : Nat) (c : RC) (s : RS) (w : World) (h : Rb w b c s) (hs : In s) (hE : Ev w b) :
    Calls Tryz.prog 175 #[.pointer (some ⟨b, 0, none⟩)] w (ValR (.int .u8 (opV s)) b c (tkS 4 s) w) := by
  have Hn := Lib.hid (take_any 4 b c s _ h hs.len)
  have hlt := h.lt
  have hti := hs.nx
  clear h
  obtain ⟨t, ht⟩ : ∃ t, t = nx s := ⟨_, rfl⟩
  have HT : Hid (t = nx s) := Lib.hid ht
  rw [← ht] at Hn hti
  have hn64 := hti.2.1
  have htl := hti.2.2
  have HTI := Lib.hid hti
  clear hti ht
  have HE0 := Lib.hid hE
  clear hE
  go_enter Tryz.func175, Tryz.ntmps175
  go_wp2_with fail
  refine Hn.out.mono ?_
  clear Hn
  rintro e w1 ⟨rfl, hr1, hg1⟩
  have HR1 := Lib.hid hr1
  have HG1 := Lib.hid hg1
  have hlt1 := hr1.lt
  clear hr1 hg1
  unfold tkV
  have HV := Lib.hid (show opV s = opG 0 t.t by unfold opV; rw [← HT.out]; rfl)
  have HE1 := Lib.hid ((HE0.out.grown HG1.out (Nat.le_refl _)).kept (oneb w1 (.cells #[.int .u8 t.k, .string ⟨t.t.toArray⟩, .int .u64 t.n, .int .i64 t.line, .int .i64 t.col] 182)))
  have hbk := (Bk.new w1 182 #[.int .u8 t.k, .string ⟨t.t.toArray⟩, .int .u64 t.n, .int .i64 t.line, .int .i64 t.col] (l := [.int .u8 t.k, .string ⟨t.t.toArray⟩, .int .u64 t.n, .int .i64 t.line, .int .i64 t.col]) rfl)
  have HR2 := Lib.hid (HR1.out.alloc (.cells #[.int .u8 t.k, .string ⟨t.t.toArray⟩, .int .u64 t.n, .int .i64 t.line, .int .i64 t.col] 182))
  have HG2 := Lib.hid (grow_al HG1.out (.cells #[.int .u8 t.k, .string ⟨t.t.toArray⟩, .int .u64 t.n, .int .i64 t.line, .int .i64 t.col] 182))
  go_wp2_with fail
  generalize w1.alloc _ = w2 at hbk HE1 HR2 HG2 ⊢
  have HBK := Lib.hid hbk
  clear hbk
  go_loopw [4] (fun v wr => ∃ k : Nat, k ≤ 7 ∧ v = .int .u8 ((k + 1 : Nat) : Int) ∧ Hid (opV s = opG k t.t) ∧ Hid (∃ n, wr = w2.drewN n)) (fun v _ => 9 - (intOf v).toNat)
  case atStart => exact ⟨0, by omega, rfl, HV.out, 0, rfl⟩
  case round =>
    obtain ⟨k, hk, rfl, HF, HW⟩ := hrel
    have HEr : Hid (Ev wr b) := by obtain ⟨n0, e⟩ := HW.out; rw [e]; exact HE1.out.drewN n0
    have hbr : Bk wr w1.heap.size 182 [.int .u8 t.k, .string ⟨t.t.toArray⟩, .int .u64 t.n, .int .i64 t.line, .int .i64 t.col] := by obtain ⟨n0, e⟩ := HW.out; rw [e]; exact HBK.out.drewN n0
    have r1 := hbr.cell 1 rfl
    have rl := hbr.lt
    have HBR := Lib.hid hbr
    have HEnd := Lib.hid (drew_end HR2.out HG2.out HW.out)
    clear hbr
    rcases (by omega : k = 0 ∨ k = 1 ∨ k = 2 ∨ k = 3 ∨ k = 4 ∨ k = 5 ∨ k = 6 ∨ k = 7) with rfl | rfl | rfl | rfl | rfl | rfl | rfl | rfl
    · by_cases hx : t.t = [61, 61]
      · have g : (([61, 61] : Bs) == t.t) = true := by rw [beq_iff_eq]; exact hx.symm
        have HO := Lib.hid (HF.out.trans (opG_0y hx))
        have hsg := fun n => (HEr.out.drewN n).sg 1 (by omega)
        clear hx hk
        go_wp2_with fail
        go_quiet (first | (go_at_call 90; exact quiet_l (sgn_1 _ (hsg _))))
        go_wp2_with fail
        go_ret
        exact val_of (by rw [HO.out]; rfl) rfl rfl (HEnd.out _).1 (HEnd.out _).2.1
      · have g : (([61, 61] : Bs) == t.t) = false := by rw [beq_eq_false_iff_ne]; exact fun e => hx e.symm
        have HO := Lib.hid (HF.out.trans (opG_0n hx))
        have hsg := fun n => (HEr.out.drewN n).sg 1 (by omega)
        clear hx hk
        go_wp2_with fail
        go_quiet (first | (go_at_call 90; exact quiet_l (sgn_1 _ (hsg _))))
        go_wp2_with fail
        go_roundw
        case rel => exact ⟨0 + 1, by omega, rfl, HO, (HEnd.out _).2.2⟩
        case measure => decide
    · by_cases hx : t.t = [33, 61]
      · have g : (([33, 61] : Bs) == t.t) = true := by rw [beq_iff_eq]; exact hx.symm
        have HO := Lib.hid (HF.out.trans (opG_1y hx))
        have hsg := fun n => (HEr.out.drewN n).sg 2 (by omega)
        clear hx hk
        go_wp2_with fail
        go_quiet (first | (go_at_call 90; exact quiet_l (sgn_2 _ (hsg _))))
        go_wp2_with fail
        go_ret
        exact val_of (by rw [HO.out]; rfl) rfl rfl (HEnd.out _).1 (HEnd.out _).2.1
      · have g : (([33, 61] : Bs) == t.t) = false := by rw [beq_eq_false_iff_ne]; exact fun e => hx e.symm
        have HO := Lib.hid (HF.out.trans (opG_1n hx))
        have hsg := fun n => (HEr.out.drewN n).sg 2 (by omega)
        clear hx hk
        go_wp2_with fail
        go_quiet (first | (go_at_call 90; exact quiet_l (sgn_2 _ (hsg _))))
        go_wp2_with fail
        go_roundw
        case rel => exact ⟨1 + 1, by omega, rfl, HO, (HEnd.out _).2.2⟩
        case measure => decide
    · by_cases hx : t.t = [60]
      · have g : (([60] : Bs) == t.t) = true := by rw [beq_iff_eq]; exact hx.symm
        have HO := Lib.hid (HF.out.trans (opG_2y hx))
        have hsg := fun n => (HEr.out.drewN n).sg 3 (by omega)
        clear hx hk
        go_wp2_with fail
        go_quiet (first | (go_at_call 90; exact quiet_l (sgn_3 _ (hsg _))))
        go_wp2_with fail
        go_ret
        exact val_of (by rw [HO.out]; rfl) rfl rfl (HEnd.out _).1 (HEnd.out _).2.1
      · have g : (([60] : Bs) == t.t) = false := by rw [beq_eq_false_iff_ne]; exact fun e => hx e.symm
        have HO := Lib.hid (HF.out.trans (opG_2n hx))
        have hsg := fun n => (HEr.out.drewN n).sg 3 (by omega)
        clear hx hk
        go_wp2_with fail
        go_quiet (first | (go_at_call 90; exact quiet_l (sgn_3 _ (hsg _))))
        go_wp2_with fail
        go_roundw
        case rel => exact ⟨2 + 1, by omega, rfl, HO, (HEnd.out _).2.2⟩
        case measure => decide
    · by_cases hx : t.t = [60, 61]
      · have g : (([60, 61] : Bs) == t.t) = true := by rw [beq_iff_eq]; exact hx.symm
        have HO := Lib.hid (HF.out.trans (opG_3y hx))
        have hsg := fun n => (HEr.out.drewN n).sg 4 (by omega)
        clear hx hk
        go_wp2_with fail
        go_quiet (first | (go_at_call 90; exact quiet_l (sgn_4 _ (hsg _))))
        go_wp2_with fail
        go_ret
        exact val_of (by rw [HO.out]; rfl) rfl rfl (HEnd.out _).1 (HEnd.out _).2.1
      · have g : (([60, 61] : Bs) == t.t) = false := by rw [beq_eq_false_iff_ne]; exact fun e => hx e.symm
        have HO := Lib.hid (HF.out.trans (opG_3n hx))
        have hsg := fun n => (HEr.out.drewN n).sg 4 (by omega)
        clear hx hk
        go_wp2_with fail
        go_quiet (first | (go_at_call 90; exact quiet_l (sgn_4 _ (hsg _))))
        go_wp2_with fail
        go_roundw
        case rel => exact ⟨3 + 1, by omega, rfl, HO, (HEnd.out _).2.2⟩
        case measure => decide
    · by_cases hx : t.t = [62]
      · have g : (([62] : Bs) == t.t) = true := by rw [beq_iff_eq]; exact hx.symm
        have HO := Lib.hid (HF.out.trans (opG_4y hx))
        have hsg := fun n => (HEr.out.drewN n).sg 5 (by omega)
        clear hx hk
        go_wp2_with fail
        go_quiet (first | (go_at_call 90; exact quiet_l (sgn_5 _ (hsg _))))
        go_wp2_with fail
        go_ret
        exact val_of (by rw [HO.out]; rfl) rfl rfl (HEnd.out _).1 (HEnd.out _).2.1
      · have g : (([62] : Bs) == t.t) = false := by rw [beq_eq_false_iff_ne]; exact fun e => hx e.symm
        have HO := Lib.hid (HF.out.trans (opG_4n hx))
        have hsg := fun n => (HEr.out.drewN n).sg 5 (by omega)
        clear hx hk
        go_wp2_with fail
        go_quiet (first | (go_at_call 90; exact quiet_l (sgn_5 _ (hsg _))))
        go_wp2_with fail
        go_roundw
        case rel => exact ⟨4 + 1, by omega, rfl, HO, (HEnd.out _).2.2⟩
        case measure => decide
    · by_cases hx : t.t = [62, 61]
      · have g : (([62, 61] : Bs) == t.t) = true := by rw [beq_iff_eq]; exact hx.symm
        have HO := Lib.hid (HF.out.trans (opG_5y hx))
        have hsg := fun n => (HEr.out.drewN n).sg 6 (by omega)
        clear hx hk
        go_wp2_with fail
        go_quiet (first | (go_at_call 90; exact quiet_l (sgn_6 _ (hsg _))))
        go_wp2_with fail
        go_ret
        exact val_of (by rw [HO.out]; rfl) rfl rfl (HEnd.out _).1 (HEnd.out _).2.1
      · have g : (([62, 61] : Bs) == t.t) = false := by rw [beq_eq_false_iff_ne]; exact fun e => hx e.symm
        have HO := Lib.hid (HF.out.trans (opG_5n hx))
        have hsg := fun n => (HEr.out.drewN n).sg 6 (by omega)
        clear hx hk
        go_wp2_with fail
        go_quiet (first | (go_at_call 90; exact quiet_l (sgn_6 _ (hsg _))))
        go_wp2_with fail
        go_roundw
        case rel => exact ⟨5 + 1, by omega, rfl, HO, (HEnd.out _).2.2⟩
        case measure => decide
    · by_cases hx : t.t = [38]
      · have g : (([38] : Bs) == t.t) = true := by rw [beq_iff_eq]; exact hx.symm
        have HO := Lib.hid (HF.out.trans (opG_6y hx))
        have hsg := fun n => (HEr.out.drewN n).sg 7 (by omega)
        clear hx hk
        go_wp2_with fail
        go_quiet (first | (go_at_call 90; exact quiet_l (sgn_7 _ (hsg _))))
        go_wp2_with fail
        go_ret
        exact val_of (by rw [HO.out]; rfl) rfl rfl (HEnd.out _).1 (HEnd.out _).2.1
      · have g : (([38] : Bs) == t.t) = false := by rw [beq_eq_false_iff_ne]; exact fun e => hx e.symm
        have HO := Lib.hid (HF.out.trans (opG_6n hx))
        have hsg := fun n => (HEr.out.drewN n).sg 7 (by omega)
        clear hx hk
        go_wp2_with fail
        go_quiet (first | (go_at_call 90; exact quiet_l (sgn_7 _ (hsg _))))
        go_wp2_with fail
        go_roundw
        case rel => exact ⟨6 + 1, by omega, rfl, HO, (HEnd.out _).2.2⟩
        case measure => decide
    · have HO := Lib.hid (HF.out.trans (show opG 7 t.t = 0 from rfl))
      go_wp2_with fail
      go_ret
      exact val_of (by rw [HO.out]; rfl) rfl rfl (HEnd.out 0).1 (HEnd.out 0).2.1
set_option maxHeartbeats 4000000 in
set_option maxRecDepth 100000 in
theorem arg_any (b : Nat) (c : RC) (s : RS) (w : World) (h : Rb w b c s) (hs : In s) :
    Calls Tryz.prog 174 #[.pointer (some ⟨b, 0, none⟩)] w (ValR (.int .i64 (agV s : Nat)) b c (agS s) w) := by
  have Hn := Lib.hid (name_any b c s _ h hs.len)
  have hlt := h.lt
  have hti := hs.nx
  clear h
  obtain ⟨t, ht⟩ : ∃ t, t = nx s := ⟨_, rfl⟩
  have HT : Hid (t = nx s) := Lib.hid ht
  rw [← ht] at Hn hti
  have hn64 := hti.2.1
  have htl := hti.2.2
  have HTI := Lib.hid hti
  clear hti ht
  go_enter Tryz.func174, Tryz.ntmps174
  go_wp2_with fail
  refine Hn.out.mono ?_
  clear Hn
  rintro e w1 ⟨rfl, hr1, hg1⟩
  have HR1 := Lib.hid hr1
  have HG1 := Lib.hid hg1
  have hlt1 := hr1.lt
  clear hr1 hg1
  unfold tkV
  have HV := Lib.hid (show argB (nx s).t = argG 0 t.t by rw [← HT.out]; rfl)
  have hbk := (Bk.new w1 182 #[.int .u8 t.k, .string ⟨t.t.toArray⟩, .int .u64 t.n, .int .i64 t.line, .int .i64 t.col] (l := [.int .u8 t.k, .string ⟨t.t.toArray⟩, .int .u64 t.n, .int .i64 t.line, .int .i64 t.col]) rfl)
  have HR2 := Lib.hid (HR1.out.alloc (.cells #[.int .u8 t.k, .string ⟨t.t.toArray⟩, .int .u64 t.n, .int .i64 t.line, .int .i64 t.col] 182))
  have HG2 := Lib.hid (grow_al HG1.out (.cells #[.int .u8 t.k, .string ⟨t.t.toArray⟩, .int .u64 t.n, .int .i64 t.line, .int .i64 t.col] 182))
  go_wp2_with fail
  generalize w1.alloc _ = w2 at hbk HR2 HG2 ⊢
  have HBK := Lib.hid hbk
  clear hbk
  go_loopw [7] (fun v wr => ∃ k : Nat, k ≤ 6 ∧ v = .int .i64 k ∧ Hid (argB (nx s).t = argG k t.t) ∧ Hid (∃ n, wr = w2.drewN n)) (fun v _ => 7 - (intOf v).toNat)
  case atStart => exact ⟨0, by omega, rfl, HV, 0, rfl⟩
  case round =>
    obtain ⟨k, hk, rfl, HF, HW⟩ := hrel
    have hbr : Bk wr w1.heap.size 182 [.int .u8 t.k, .string ⟨t.t.toArray⟩, .int .u64 t.n, .int .i64 t.line, .int .i64 t.col] := by obtain ⟨n0, e⟩ := HW.out; rw [e]; exact HBK.out.drewN n0
    have r1 := hbr.cell 1 rfl
    have rl := hbr.lt
    have HBR := Lib.hid hbr
    have HEnd := Lib.hid (drew_end HR2.out HG2.out HW.out)
    clear hbr
    rcases (by omega : k = 0 ∨ k = 1 ∨ k = 2 ∨ k = 3 ∨ k = 4 ∨ k = 5 ∨ k = 6) with rfl | rfl | rfl | rfl | rfl | rfl | rfl
    · by_cases hx : t.t = [97, 114, 103, 48]
      · have g : (t.t == ((⟨#[97, 114, 103]⟩ : ByteArray) ++ (⟨#[48]⟩ : ByteArray)).toList) = true := by rw [Rt.toList_data]; rw [beq_iff_eq]; exact hx
        have HO := Lib.hid (HF.out.trans (argG_0y hx))
        clear hx hk
        go_wp2_with fail
        go_quiet (first | (go_at_call 193; exact quiet_l (itoa_0 _)))
        go_wp2_with fail
        go_ret
        exact val_of (by show Value.int .i64 (agV s : Nat) = _; unfold agV; rw [HO.out]; rfl) (by unfold agS; rw [HO.out, if_pos (by rfl)]) rfl (HEnd.out _).1 (HEnd.out _).2.1
      · have g : (t.t == ((⟨#[97, 114, 103]⟩ : ByteArray) ++ (⟨#[48]⟩ : ByteArray)).toList) = false := by rw [Rt.toList_data]; rw [beq_eq_false_iff_ne]; exact hx
        have HO := Lib.hid (HF.out.trans (argG_0n hx))
        clear hx hk
        go_wp2_with fail
        go_quiet (first | (go_at_call 193; exact quiet_l (itoa_0 _)))
        go_wp2_with fail
        go_roundw
        case rel => exact ⟨0 + 1, by omega, rfl, HO, (HEnd.out _).2.2⟩
        case measure => decide
    · by_cases hx : t.t = [97, 114, 103, 49]
      · have g : (t.t == ((⟨#[97, 114, 103]⟩ : ByteArray) ++ (⟨#[49]⟩ : ByteArray)).toList) = true := by rw [Rt.toList_data]; rw [beq_iff_eq]; exact hx
        have HO := Lib.hid (HF.out.trans (argG_1y hx))
        clear hx hk
        go_wp2_with fail
        go_quiet (first | (go_at_call 193; exact quiet_l (itoa_1 _)))
        go_wp2_with fail
        go_ret
        exact val_of (by show Value.int .i64 (agV s : Nat) = _; unfold agV; rw [HO.out]; rfl) (by unfold agS; rw [HO.out, if_pos (by rfl)]) rfl (HEnd.out _).1 (HEnd.out _).2.1
      · have g : (t.t == ((⟨#[97, 114, 103]⟩ : ByteArray) ++ (⟨#[49]⟩ : ByteArray)).toList) = false := by rw [Rt.toList_data]; rw [beq_eq_false_iff_ne]; exact hx
        have HO := Lib.hid (HF.out.trans (argG_1n hx))
        clear hx hk
        go_wp2_with fail
        go_quiet (first | (go_at_call 193; exact quiet_l (itoa_1 _)))
        go_wp2_with fail
        go_roundw
        case rel => exact ⟨1 + 1, by omega, rfl, HO, (HEnd.out _).2.2⟩
        case measure => decide
    · by_cases hx : t.t = [97, 114, 103, 50]
      · have g : (t.t == ((⟨#[97, 114, 103]⟩ : ByteArray) ++ (⟨#[50]⟩ : ByteArray)).toList) = true := by rw [Rt.toList_data]; rw [beq_iff_eq]; exact hx
        have HO := Lib.hid (HF.out.trans (argG_2y hx))
        clear hx hk
        go_wp2_with fail
        go_quiet (first | (go_at_call 193; exact quiet_l (itoa_2 _)))
        go_wp2_with fail
        go_ret
        exact val_of (by show Value.int .i64 (agV s : Nat) = _; unfold agV; rw [HO.out]; rfl) (by unfold agS; rw [HO.out, if_pos (by rfl)]) rfl (HEnd.out _).1 (HEnd.out _).2.1
      · have g : (t.t == ((⟨#[97, 114, 103]⟩ : ByteArray) ++ (⟨#[50]⟩ : ByteArray)).toList) = false := by rw [Rt.toList_data]; rw [beq_eq_false_iff_ne]; exact hx
        have HO := Lib.hid (HF.out.trans (argG_2n hx))
        clear hx hk
        go_wp2_with fail
        go_quiet (first | (go_at_call 193; exact quiet_l (itoa_2 _)))
        go_wp2_with fail
        go_roundw
        case rel => exact ⟨2 + 1, by omega, rfl, HO, (HEnd.out _).2.2⟩
        case measure => decide
    · by_cases hx : t.t = [97, 114, 103, 51]
      · have g : (t.t == ((⟨#[97, 114, 103]⟩ : ByteArray) ++ (⟨#[51]⟩ : ByteArray)).toList) = true := by rw [Rt.toList_data]; rw [beq_iff_eq]; exact hx
        have HO := Lib.hid (HF.out.trans (argG_3y hx))
        clear hx hk
        go_wp2_with fail
        go_quiet (first | (go_at_call 193; exact quiet_l (itoa_3 _)))
        go_wp2_with fail
        go_ret
        exact val_of (by show Value.int .i64 (agV s : Nat) = _; unfold agV; rw [HO.out]; rfl) (by unfold agS; rw [HO.out, if_pos (by rfl)]) rfl (HEnd.out _).1 (HEnd.out _).2.1
      · have g : (t.t == ((⟨#[97, 114, 103]⟩ : ByteArray) ++ (⟨#[51]⟩ : ByteArray)).toList) = false := by rw [Rt.toList_data]; rw [beq_eq_false_iff_ne]; exact hx
        have HO := Lib.hid (HF.out.trans (argG_3n hx))
        clear hx hk
        go_wp2_with fail
        go_quiet (first | (go_at_call 193; exact quiet_l (itoa_3 _)))
        go_wp2_with fail
        go_roundw
        case rel => exact ⟨3 + 1, by omega, rfl, HO, (HEnd.out _).2.2⟩
        case measure => decide
    · by_cases hx : t.t = [97, 114, 103, 52]
      · have g : (t.t == ((⟨#[97, 114, 103]⟩ : ByteArray) ++ (⟨#[52]⟩ : ByteArray)).toList) = true := by rw [Rt.toList_data]; rw [beq_iff_eq]; exact hx
        have HO := Lib.hid (HF.out.trans (argG_4y hx))
        clear hx hk
        go_wp2_with fail
        go_quiet (first | (go_at_call 193; exact quiet_l (itoa_4 _)))
        go_wp2_with fail
        go_ret
        exact val_of (by show Value.int .i64 (agV s : Nat) = _; unfold agV; rw [HO.out]; rfl) (by unfold agS; rw [HO.out, if_pos (by rfl)]) rfl (HEnd.out _).1 (HEnd.out _).2.1
      · have g : (t.t == ((⟨#[97, 114, 103]⟩ : ByteArray) ++ (⟨#[52]⟩ : ByteArray)).toList) = false := by rw [Rt.toList_data]; rw [beq_eq_false_iff_ne]; exact hx
        have HO := Lib.hid (HF.out.trans (argG_4n hx))
        clear hx hk
        go_wp2_with fail
        go_quiet (first | (go_at_call 193; exact quiet_l (itoa_4 _)))
        go_wp2_with fail
        go_roundw
        case rel => exact ⟨4 + 1, by omega, rfl, HO, (HEnd.out _).2.2⟩
        case measure => decide
    · by_cases hx : t.t = [97, 114, 103, 53]
      · have g : (t.t == ((⟨#[97, 114, 103]⟩ : ByteArray) ++ (⟨#[53]⟩ : ByteArray)).toList) = true := by rw [Rt.toList_data]; rw [beq_iff_eq]; exact hx
        have HO := Lib.hid (HF.out.trans (argG_5y hx))
        clear hx hk
        go_wp2_with fail
        go_quiet (first | (go_at_call 193; exact quiet_l (itoa_5 _)))
        go_wp2_with fail
        go_ret
        exact val_of (by show Value.int .i64 (agV s : Nat) = _; unfold agV; rw [HO.out]; rfl) (by unfold agS; rw [HO.out, if_pos (by rfl)]) rfl (HEnd.out _).1 (HEnd.out _).2.1
      · have g : (t.t == ((⟨#[97, 114, 103]⟩ : ByteArray) ++ (⟨#[53]⟩ : ByteArray)).toList) = false := by rw [Rt.toList_data]; rw [beq_eq_false_iff_ne]; exact hx
        have HO := Lib.hid (HF.out.trans (argG_5n hx))
        clear hx hk
        go_wp2_with fail
        go_quiet (first | (go_at_call 193; exact quiet_l (itoa_5 _)))
        go_wp2_with fail
        go_roundw
        case rel => exact ⟨5 + 1, by omega, rfl, HO, (HEnd.out _).2.2⟩
        case measure => decide
    · have HO := Lib.hid (HF.out.trans (show argG 6 t.t = none from rfl))
      have s0 := HBR.out.cell 0 rfl
      have s1 := HBR.out.cell 1 rfl
      have s2 := HBR.out.cell 2 rfl
      have s3 := HBR.out.cell 3 rfl
      have s4 := HBR.out.cell 4 rfl
      have sl := HBR.out.lt
      go_wp2_with fail
      refine (fail_any' b c (nmS s) t 202 _ (HEnd.out 0).1).mono ?_
      rintro e w3 ⟨rfl, hr3, hg3⟩
      have HR3 := Lib.hid hr3
      have HG3 := Lib.hid (only_trans (HEnd.out 0).2.1 hg3)
      clear hr3 hg3
      go_wp2_with fail
      go_ret
      exact val_of (by show Value.int .i64 (agV s : Nat) = _; unfold agV; rw [HO.out]; rfl) (by unfold agS; rw [HO.out, if_neg (by simp), HT.out]) rfl HR3.out HG3.out
end Go.Proofs.YtinofjbnfmalkaaGreatDoor.Pa
