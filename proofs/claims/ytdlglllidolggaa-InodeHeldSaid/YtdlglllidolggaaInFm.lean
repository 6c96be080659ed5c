/- A directory with as many names as may be: the states, as lists. -/
import Derived.Test.YtdlglllidolggaaInX
namespace Go.Proofs.Ytdlglllidolggaa.In
def fulB : Bs := [102, 117, 108, 108]
def othB : Bs := [111, 116, 104, 101, 114]
def na0B : Bs := [110, 97, 48]
def na1B : Bs := [110, 97, 49]
def zzB : Bs := [122, 122]
def morB : Bs := [109, 111, 114, 101]
def movB : Bs := [109, 111, 118, 101, 100]
def nmB (j : Nat) : Bs := [110, UInt8.ofNat (97 + j / 10), UInt8.ofNat (48 + j % 10)]
def fL (i : Nat) : Es := (List.range i).map (fun j => (nmB j, 4 + j))
def fileN : NdM := freshN 1 2 ⟨#[]⟩
def famF (m : Nat) (L1 L2 : Es) (x3 : NdM) (ch : Nat) : TrM :=
  ⟨fun k => if k = 1 then { rootN with L := L1 } else if k = 2 then { freshN 2 1 ⟨#[]⟩ with L := L2 } else if k = 3 then x3 else if 4 ≤ k ∧ k < 4 + m then fileN else ndZ, 100, ch⟩
def l1 : Es := [(fulB, 2), (othB, 3)]
def fT (m : Nat) : TrM := famF m l1 (fL m) fileN (2 + m)
theorem tr_eq {T U : TrM} (h1 : ∀ k, T.nd k = U.nd k) (h2 : T.lim = U.lim) (h3 : T.ch = U.ch) : T = U := by
  cases T; cases U
  simp only [TrM.mk.injEq]
  exact ⟨funext h1, h2, h3⟩
def sA : TrM := madeT (newT 100) 1 fulB 2 ⟨#[]⟩ 2
theorem mk1 : makeF (newT 100) 0 1 fulB 2 ⟨#[]⟩ = (2, 0, sA) := by
  unfold makeF
  rw [if_neg (by decide), if_neg (by decide), show freeF (newT 100) = some 2 from by decide]
  rfl
theorem sA_eq : sA = ⟨fun k => if k = 1 then { rootN with L := [(fulB, 2)] } else if k = 2 then freshN 2 1 ⟨#[]⟩ else ndZ, 100, 1⟩ := by
  refine tr_eq (fun k => ?_) rfl rfl
  unfold sA madeT chg newT
  simp only [upd]
  by_cases h2 : k = 2
  · subst h2; simp
  · by_cases h1 : k = 1
    · subst h1; rfl
    · simp [h1, h2]
theorem mk2 : makeF sA 0 1 othB 1 ⟨#[]⟩ = (3, 0, fT 0) := by
  rw [sA_eq]
  unfold makeF
  rw [if_neg (by decide), if_neg (by decide), show freeF _ = some 3 from by decide]
  simp only []
  rw [if_neg (by decide)]
  refine congrArg _ (congrArg _ (tr_eq (fun k => ?_) rfl rfl))
  unfold madeT chg fT famF
  simp only [upd]
  by_cases h3 : k = 3
  · subst h3; rfl
  · by_cases h1 : k = 1
    · subst h1; rfl
    · by_cases h2 : k = 2
      · subst h2; rfl
      · simp only [if_neg h3, if_neg h1, if_neg h2]
        rw [if_neg (by omega)]
theorem fam_free (m : Nat) (L1 L2 : Es) (x3 : NdM) (hx : x3.kd ≠ 0) (ch : Nat) (hm : m ≤ 90) : freeF (famF m L1 L2 x3 ch) = some (4 + m) := by
  refine free_some ⟨by omega, by show 4 + m ≤ 100; omega⟩ (fun j h1 h2 => ?_) ?_
  · unfold famF
    simp only []
    by_cases e1 : j = 1
    · rw [if_pos e1]; show rootN.kd ≠ 0; decide
    · rw [if_neg e1]
      by_cases e2 : j = 2
      · rw [if_pos e2]; show (freshN 2 1 ⟨#[]⟩).kd ≠ 0; decide
      · rw [if_neg e2]
        by_cases e3 : j = 3
        · rw [if_pos e3]; exact hx
        · rw [if_neg e3, if_pos (by omega)]; decide
  · unfold famF
    simp only []
    rw [if_neg (by omega), if_neg (by omega), if_neg (by omega), if_neg (by omega)]; rfl
theorem fL_none : ∀ i, i < 36 → lk (nmB i) (fL i) = none := by decide
theorem fL_ins : ∀ i, i < 36 → insE (nmB i, 4 + i) (fL i) = fL (i + 1) := by decide
theorem nm_ok : ∀ i, i < 36 → nameB (nmB i) = true := by decide
theorem fL_len (i : Nat) : (fL i).length = i := by simp [fL]
theorem step_ok (i : Nat) (h : i < 32) : makeF (fT i) 0 2 (nmB i) 1 ⟨#[]⟩ = (4 + i, 0, fT (i + 1)) := by
  have hr : roomE (fT i) 2 (nmB i) = 0 := by
    unfold roomE
    rw [if_neg (by have h0 : dirE (fT i) 2 = 0 := rfl; rw [h0]; simp), if_neg (by rw [nm_ok i (by omega)]; simp), if_neg (by show ¬ (lk (nmB i) (fL i)).isSome = true; rw [fL_none i (by omega)]; simp), if_neg (by show ¬ (1 : Nat) = 0; decide), if_neg (by show ¬ 32 ≤ (fL i).length; rw [fL_len]; omega)]
  unfold makeF
  rw [if_neg (by rw [hr]; simp), if_neg (by decide), show freeF (fT i) = some (4 + i) from fam_free _ _ _ _ (by decide) _ (by omega)]
  simp only []
  rw [if_neg (by simp)]
  refine congrArg _ (congrArg _ (tr_eq (fun k => ?_) rfl (by show 2 + i + 1 = 2 + (i + 1); omega)))
  unfold madeT chg
  simp only [upd]
  by_cases e4 : k = 4 + i
  · subst e4
    unfold fT famF
    simp only [if_true]
    rw [if_neg (by omega), if_neg (by omega), if_neg (by omega), if_pos (by omega)]; rfl
  · rw [if_neg e4]
    by_cases e2 : k = 2
    · subst e2
      rw [if_pos rfl]
      show ({ freshN 2 1 ⟨#[]⟩ with L := insE (nmB i, 4 + i) (fL i) } : NdM) = _
      rw [fL_ins i (by omega)]; rfl
    · rw [if_neg e2]
      unfold fT famF
      simp only [if_neg e2]
      by_cases e1 : k = 1
      · rw [if_pos e1, if_pos e1]
      · rw [if_neg e1, if_neg e1]
        by_cases e3 : k = 3
        · rw [if_pos e3, if_pos e3]
        · rw [if_neg e3, if_neg e3]
          by_cases e5 : 4 ≤ k ∧ k < 4 + i
          · rw [if_pos e5, if_pos (by omega)]
          · rw [if_neg e5, if_neg (by omega)]
theorem step_no (i : Nat) (h : 32 ≤ i) (h2 : i < 36) : makeF (fT 32) 0 2 (nmB i) 1 ⟨#[]⟩ = (0, 28, fT 32) := by
  have hr : roomE (fT 32) 2 (nmB i) = 28 := by
    have : ∀ i, i < 36 → 32 ≤ i → roomE (fT 32) 2 (nmB i) = 28 := by decide
    exact this i h2 h
  unfold makeF
  rw [if_pos (by rw [hr]; decide), hr]
/-- What has been tried i times. -/
def fS (i : Nat) : TrM := fT (min i 32)
theorem step_all (i : Nat) (h : i < 36) : makeF (fS i) 0 2 (nmB i) 1 ⟨#[]⟩ = (if i < 32 then 4 + i else 0, if i < 32 then 0 else 28, fS (i + 1)) := by
  unfold fS
  by_cases h2 : i < 32
  · rw [Nat.min_eq_left (by omega), Nat.min_eq_left (by omega), if_pos h2, if_pos h2, step_ok i h2]
  · rw [Nat.min_eq_right (by omega), Nat.min_eq_right (by omega), if_neg h2, if_neg h2, step_no i (by omega) h]
/-! What is moved: a file's name, from one directory to another one. -/
theorem leave_keep {f : Nat → NdM} {n : Nat} (h : (f n).links ≠ 0) : leaveT f n = f := by unfold leaveT; rw [if_neg (fun c => h c.1)]
theorem take_give (f : Nat → NdM) {i tt n : Nat} {s u : Bs} (htn : tt ≠ n) (hin : i ≠ n) (hk : (f n).kd ≠ 2) (hl : 1 ≤ (f n).links) :
    ∀ k, takeT (giveT f tt u n) i s n k = if k = i then { (if i = tt then { f tt with L := insE (u, n) (f tt).L } else f i) with L := delE s (if i = tt then insE (u, n) (f tt).L else (f i).L) } else if k = tt then { f tt with L := insE (u, n) (f tt).L } else f k := by
  intro k
  unfold takeT
  simp only []
  have hg : giveT f tt u n n = { f n with links := (f n).links + 1 } := by
    unfold giveT; simp only [upd, if_neg (Ne.symm htn), if_true, if_neg hk]
  have hgi : giveT f tt u n i = if i = tt then { f tt with L := insE (u, n) (f tt).L } else f i := by
    unfold giveT; simp only [upd, if_neg hin]
  rw [leave_keep (by rw [upd_same, upd_other _ _ (Ne.symm hin), hg]; show (f n).links + 1 - 1 ≠ 0; omega)]
  by_cases a : k = n
  · subst a
    rw [upd_same, upd_other _ _ (Ne.symm hin), hg, if_neg (Ne.symm hin), if_neg (Ne.symm htn)]
    show ({ f k with links := (f k).links + 1 - 1 } : NdM) = f k
    rw [show (f k).links + 1 - 1 = (f k).links from by omega]
  · rw [upd_other _ _ a]
    by_cases b : k = i
    · subst b
      rw [upd_same, if_pos rfl, hgi]
      by_cases c : k = tt
      · rw [if_pos c, if_pos c]
      · rw [if_neg c, if_neg c]
    · rw [upd_other _ _ b, if_neg b]
      unfold giveT
      simp only [upd, if_neg a]
theorem move_plain {T : TrM} {way : List Nat} {tall i tt n : Nat} {s u : Bs} (h1 : lookF T i s = (n, 0)) (h2 : dirE T tt = 0) (h3 : lk u (T.nd tt).L = none) (h4 : tt ≠ i → ¬ 32 ≤ (T.nd tt).L.length) (h5 : movingE T way tall n tt u = 0) :
    moveF T way tall i s tt u = (0, chg T (takeT (giveT T.nd tt u n) i s n)) := by
  unfold moveF
  rw [h1]
  rw [if_neg (by simp), if_neg (by rw [h2]; simp), h3, if_neg (by simp), if_neg (fun c => h4 c.1 c.2.2), if_neg (by rw [h5]; simp), if_neg (by simp)]
  rfl
def m1L (m : Nat) : Es := delE na0B (insE (zzB, 4) (fL m))
def s1 (m : Nat) : TrM := famF m l1 (m1L m) fileN (3 + m)
def x3b : NdM := { fileN with links := 2 }
def m2L (m : Nat) : Es := insE (morB, 3) (m1L m)
def s2 (m : Nat) : TrM := famF m l1 (m2L m) x3b (4 + m)
def m3L (m : Nat) : Es := insE (movB, 3) (m2L m)
def s3 (m : Nat) : TrM := famF m [(fulB, 2)] (m3L m) x3b (5 + m)
theorem fm_five {P : Nat → Prop} (h28 : P 28) (h29 : P 29) (h30 : P 30) (h31 : P 31) (h32 : P 32) (m : Nat) (h1 : 28 ≤ m) (h2 : m ≤ 32) : P m := by
  rcases (by omega : m = 28 ∨ m = 29 ∨ m = 30 ∨ m = 31 ∨ m = 32) with rfl | rfl | rfl | rfl | rfl <;> assumption
theorem mv1 (m : Nat) (h1 : 28 ≤ m) (h2 : m ≤ 32) : moveF (fT m) [] 0 2 na0B 2 zzB = (0, s1 m) := by
  rw [move_plain (n := 4) (fm_five (P := fun m => lookF (fT m) 2 na0B = (4, 0)) (by decide) (by decide) (by decide) (by decide) (by decide) m h1 h2) (by rfl) (fm_five (P := fun m => lk zzB ((fT m).nd 2).L = none) (by decide) (by decide) (by decide) (by decide) (by decide) m h1 h2) (fun h => absurd rfl h) (fm_five (P := fun m => movingE (fT m) [] 0 4 2 zzB = 0) (by decide) (by decide) (by decide) (by decide) (by decide) m h1 h2)]
  refine congrArg _ (tr_eq (fun k => ?_) rfl (by show 2 + m + 1 = 3 + m; omega))
  have e4 : (fT m).nd 4 = fileN := by unfold fT famF; simp only []; rw [if_neg (by decide), if_neg (by decide), if_neg (by decide), if_pos (by omega)]
  show takeT (giveT (fT m).nd 2 zzB 4) 2 na0B 4 k = _
  rw [take_give _ (by decide) (by decide) (by rw [e4]; decide) (by rw [e4]; decide)]
  by_cases e2 : k = 2
  · subst e2; rfl
  · rw [if_neg e2, if_neg e2]
    unfold fT s1 famF
    simp only [if_neg e2]
theorem fm_four {P : Nat → Prop} (h28 : P 28) (h29 : P 29) (h30 : P 30) (h31 : P 31) (m : Nat) (h1 : 28 ≤ m) (h2 : m < 32) : P m := by
  rcases (by omega : m = 28 ∨ m = 29 ∨ m = 30 ∨ m = 31) with rfl | rfl | rfl | rfl <;> assumption
theorem fm_three {P : Nat → Prop} (h28 : P 28) (h29 : P 29) (h30 : P 30) (m : Nat) (h1 : 28 ≤ m) (h2 : m < 31) : P m := by
  rcases (by omega : m = 28 ∨ m = 29 ∨ m = 30) with rfl | rfl | rfl <;> assumption
theorem ad2 (m : Nat) (h1 : 28 ≤ m) (h2 : m < 32) : addF (s1 m) 2 morB 3 = (0, s2 m) := by
  unfold addF
  rw [if_neg (by show ¬ fileN.kd = 0; decide), if_neg (by show ¬ fileN.kd = 2; decide), if_neg (by rw [fm_four (P := fun m => roomE (s1 m) 2 morB = 0) (by decide) (by decide) (by decide) (by decide) m h1 h2]; simp), if_neg (by show ¬ fileN.links = 0; decide), if_neg (by show ¬ 256 ≤ fileN.links; decide)]
  refine congrArg _ (tr_eq (fun k => ?_) rfl (by show 3 + m + 1 = 4 + m; omega))
  unfold addedT chg
  simp only [upd]
  by_cases e3 : k = 3
  · subst e3; rfl
  · rw [if_neg e3]
    by_cases e2 : k = 2
    · subst e2; rfl
    · rw [if_neg e2]
      unfold s1 s2 famF
      simp only [if_neg e2, if_neg e3]
theorem ad2n : addF (s1 32) 2 morB 3 = (28, s1 32) := by
  unfold addF
  rw [if_neg (by decide), if_neg (by decide), if_pos (by decide), show roomE (s1 32) 2 morB = 28 from by decide]
theorem mv3 (m : Nat) (h1 : 28 ≤ m) (h2 : m < 31) : moveF (s2 m) [] 0 1 othB 2 movB = (0, s3 m) := by
  rw [move_plain (n := 3) (by rfl) (by rfl) (fm_three (P := fun m => lk movB ((s2 m).nd 2).L = none) (by decide) (by decide) (by decide) m h1 h2) (fun _ => fm_three (P := fun m => ¬ 32 ≤ ((s2 m).nd 2).L.length) (by decide) (by decide) (by decide) m h1 h2) (by rfl)]
  refine congrArg _ (tr_eq (fun k => ?_) rfl (by show 4 + m + 1 = 5 + m; omega))
  show takeT (giveT (s2 m).nd 2 movB 3) 1 othB 3 k = _
  rw [take_give _ (by decide) (by decide) (by show x3b.kd ≠ 2; decide) (by show 1 ≤ x3b.links; decide)]
  by_cases e1 : k = 1
  · subst e1; rfl
  · rw [if_neg e1]
    by_cases e2 : k = 2
    · subst e2; rfl
    · rw [if_neg e2]
      unfold s2 s3 famF
      simp only [if_neg e2, if_neg e1]
theorem mv3n : moveF (s2 31) [] 0 1 othB 2 movB = (28, s2 31) := by
  have h1 : lookF (s2 31) 1 othB = (3, 0) := by decide
  unfold moveF
  rw [h1]
  rw [if_neg (by simp), if_neg (by decide), if_neg (by decide), if_pos (by decide)]
theorem mv3m : moveF (s1 32) [] 0 1 othB 2 movB = (28, s1 32) := by
  have h1 : lookF (s1 32) 1 othB = (3, 0) := by decide
  unfold moveF
  rw [h1]
  rw [if_neg (by simp), if_neg (by decide), if_neg (by decide), if_pos (by decide)]
theorem mv4 (m : Nat) : (moveF (s3 m) [] 0 1 othB 2 na1B).1 = 2 := by
  have : lookF (s3 m) 1 othB = (0, 2) := rfl
  unfold moveF
  rw [this, if_pos (by simp)]
theorem mv4n : (moveF (s2 31) [] 0 1 othB 2 na1B).1 = 0 := by decide
theorem mv4m : (moveF (s1 32) [] 0 1 othB 2 na1B).1 = 0 := by decide
theorem fam_live {m : Nat} {L1 L2 : Es} {x3 : NdM} {ch : Nat} (h1 : ∀ e ∈ L1, e.2 = 2 ∨ e.2 = 3) (h2 : ∀ e ∈ L2, 3 ≤ e.2 ∧ e.2 < 4 + m) (hx : x3.kd ≠ 0 ∧ 1 ≤ x3.links ∧ x3.L = []) : Live (famF m L1 L2 x3 ch) := by
  have hgood : ∀ k, 2 ≤ k → k < 4 + m → ((famF m L1 L2 x3 ch).nd k).kd ≠ 0 ∧ 1 ≤ ((famF m L1 L2 x3 ch).nd k).links := fun k k1 k2 => by
    unfold famF
    simp only []
    rw [if_neg (by omega)]
    by_cases e2 : k = 2
    · rw [if_pos e2]; exact ⟨by show (freshN 2 1 ⟨#[]⟩).kd ≠ 0; decide, by show 1 ≤ (freshN 2 1 ⟨#[]⟩).links; decide⟩
    · rw [if_neg e2]
      by_cases e3 : k = 3
      · rw [if_pos e3]; exact ⟨hx.1, hx.2.1⟩
      · rw [if_neg e3, if_pos (by omega)]; decide
  intro d e he
  have hL : ((famF m L1 L2 x3 ch).nd d).L = if d = 1 then L1 else if d = 2 then L2 else [] := by
    unfold famF
    simp only []
    by_cases d1 : d = 1
    · rw [if_pos d1, if_pos d1]
    · rw [if_neg d1, if_neg d1]
      by_cases d2 : d = 2
      · rw [if_pos d2, if_pos d2]
      · rw [if_neg d2, if_neg d2]
        by_cases d3 : d = 3
        · rw [if_pos d3]; exact hx.2.2
        · rw [if_neg d3]; split <;> rfl
  rw [hL] at he
  by_cases d1 : d = 1
  · rw [if_pos d1] at he; have := h1 e he; exact hgood _ (by omega) (by omega)
  · rw [if_neg d1] at he
    by_cases d2 : d = 2
    · rw [if_pos d2] at he; have := h2 e he; exact hgood _ (by omega) (by omega)
    · rw [if_neg d2] at he; cases he
theorem fam_sz {m : Nat} {L1 L2 : Es} {x3 : NdM} {ch : Nat} (h1 : L1.length ≤ 32) (h2 : L2.length ≤ 32) (hx : x3.links ≤ 256 ∧ x3.L = []) : Szs (famF m L1 L2 x3 ch) := by
  intro k
  unfold famF
  simp only []
  by_cases d1 : k = 1
  · rw [if_pos d1]; exact ⟨by show rootN.links ≤ 256; decide, h1⟩
  · rw [if_neg d1]
    by_cases d2 : k = 2
    · rw [if_pos d2]; exact ⟨by show (freshN 2 1 ⟨#[]⟩).links ≤ 256; decide, h2⟩
    · rw [if_neg d2]
      by_cases d3 : k = 3
      · rw [if_pos d3]; exact ⟨hx.1, by rw [hx.2]; decide⟩
      · rw [if_neg d3]; split <;> decide
theorem lv0 (m : Nat) (h : m ≤ 32) : Live (fT m) ∧ Szs (fT m) := ⟨fam_live (by decide) (fun e he => by
    obtain ⟨j, hj, rfl⟩ := List.mem_map.1 he
    have := List.mem_range.1 hj
    exact ⟨by show 3 ≤ 4 + j; omega, by show 4 + j < 4 + m; omega⟩) (by decide), fam_sz (by decide) (by rw [fL_len]; exact h) (by decide)⟩
theorem lv1 (m : Nat) (h1 : 28 ≤ m) (h2 : m ≤ 32) : Live (s1 m) ∧ Szs (s1 m) := ⟨fam_live (by decide) (fm_five (P := fun m => ∀ e ∈ m1L m, 3 ≤ e.2 ∧ e.2 < 4 + m) (by decide) (by decide) (by decide) (by decide) (by decide) m h1 h2) (by decide), fam_sz (by decide) (fm_five (P := fun m => (m1L m).length ≤ 32) (by decide) (by decide) (by decide) (by decide) (by decide) m h1 h2) (by decide)⟩
theorem lv2 (m : Nat) (h1 : 28 ≤ m) (h2 : m < 32) : Live (s2 m) ∧ Szs (s2 m) := ⟨fam_live (by decide) (fm_four (P := fun m => ∀ e ∈ m2L m, 3 ≤ e.2 ∧ e.2 < 4 + m) (by decide) (by decide) (by decide) (by decide) m h1 h2) (by decide), fam_sz (by decide) (fm_four (P := fun m => (m2L m).length ≤ 32) (by decide) (by decide) (by decide) (by decide) m h1 h2) (by decide)⟩
theorem lv3 (m : Nat) (h1 : 28 ≤ m) (h2 : m < 31) : Live (s3 m) ∧ Szs (s3 m) := ⟨fam_live (by decide) (fm_three (P := fun m => ∀ e ∈ m3L m, 3 ≤ e.2 ∧ e.2 < 4 + m) (by decide) (by decide) (by decide) m h1 h2) (by decide), fam_sz (by decide) (fm_three (P := fun m => (m3L m).length ≤ 32) (by decide) (by decide) (by decide) m h1 h2) (by decide)⟩
end Go.Proofs.Ytdlglllidolggaa.In
