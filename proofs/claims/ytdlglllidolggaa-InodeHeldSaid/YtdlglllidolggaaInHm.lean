/- What is held: the states, as lists. -/
import Derived.Test.YtdlglllidolggaaInFm
namespace Go.Proofs.Ytdlglllidolggaa.In
def stH (L : Es) (x : NdM) (c : Nat) : TrM := ⟨fun k => if k = 1 then { rootN with L := L } else if k = 2 then x else ndZ, 9, c⟩
def xB : Bs := [120]
def yB : Bs := [121]
def inB : Bs := [105, 110]
theorem stH1 (L : Es) (x : NdM) (c : Nat) : (stH L x c).nd 1 = { rootN with L := L } := rfl
theorem stH2 (L : Es) (x : NdM) (c : Nat) : (stH L x c).nd 2 = x := rfl
theorem stH_upd2 (L : Es) (x y : NdM) (c : Nat) : upd (stH L x c).nd 2 y = (stH L y c).nd := by
  funext k; unfold stH; simp only [upd]
  by_cases h2 : k = 2
  · subst h2; rfl
  · simp [h2]
theorem stH_upd1 (L L' : Es) (x : NdM) (c : Nat) : upd (stH L x c).nd 1 { rootN with L := L' } = (stH L' x c).nd := by
  funext k; unfold stH; simp only [upd]
  by_cases h1 : k = 1
  · subst h1; rfl
  · simp [h1]
theorem newH : newT 9 = stH [] ndZ 0 := by
  refine tr_eq (fun k => ?_) rfl rfl
  unfold newT stH; simp only [upd]
  by_cases h1 : k = 1
  · subst h1; rfl
  · simp [h1]
theorem mkH (s : Bs) (kd : Nat) (hk : kd = 1 ∨ kd = 2) (c : Nat) (hs : roomE (stH [] ndZ c) 1 s = 0) : makeF (stH [] ndZ c) 0 1 s kd ⟨#[]⟩ = (2, 0, stH [(s, 2)] (freshN kd 1 ⟨#[]⟩) (c + 1)) := by
  have hf : freeF (stH [] ndZ c) = some 2 := by
    refine free_some (T := stH [] ndZ c) (k := 2) ⟨by decide, by show 2 ≤ 9; decide⟩ (fun j h1 h2 => ?_) rfl
    obtain rfl : j = 1 := by omega
    show rootN.kd ≠ 0
    decide
  unfold makeF
  rw [if_neg (by rw [hs]; simp), if_neg (by rcases hk with rfl | rfl <;> decide), hf]
  simp only []
  rw [if_neg (by simp)]
  refine congrArg _ (congrArg _ (tr_eq (fun k => ?_) rfl rfl))
  show upd (upd (stH [] ndZ c).nd 1 { rootN with L := [(s, 2)] }) 2 (freshN kd 1 ⟨#[]⟩) k = _
  rw [stH_upd1, stH_upd2]; rfl
theorem holdH (L : Es) (x : NdM) (c : Nat) (hx : x.kd ≠ 0) : holdF (stH L x c) 2 true = (0, stH L { x with held := x.held + 1 } c) := by
  unfold holdF
  rw [if_neg (by rw [stH2]; exact hx), if_pos rfl, stH2, stH_upd2]; rfl
theorem unholdH (y : NdM) (c : Nat) (hy : y.kd ≠ 0) (hl : y.links = 0) (hh : 1 ≤ y.held) : holdF (stH [] y c) 2 false = (0, stH [] (if y.held = 1 then ndZ else { y with held := y.held - 1 }) c) := by
  unfold holdF
  rw [if_neg (by rw [stH2]; exact hy), if_neg (by decide), if_neg (by rw [stH2]; omega), stH2, stH_upd2]
  unfold leaveT
  rw [stH2]
  by_cases e : y.held = 1
  · rw [if_pos ⟨hl, by show y.held - 1 = 0; omega⟩, if_pos e, stH_upd2]; rfl
  · rw [if_neg (fun c => by have : y.held - 1 = 0 := c.2; omega), if_neg e]; rfl
theorem writeH (L : Es) (x : NdM) (c at_ : Nat) (b : List Nat) (hx : x.kd = 1) (hb : at_ + b.length ≤ 1024) : writeF (stH L x c) 2 at_ b = (0, stH L { x with data := over (sized x.data (max x.data.length (at_ + b.length))) at_ b } (c + 1)) := by
  unfold writeF
  have hf : fileE (stH L x c) 2 at_ = 0 := by
    unfold fileE
    rw [if_neg (by rw [stH2, hx]; decide), if_neg (by rw [stH2, hx]; decide), if_neg (by rw [stH2, hx]; omega)]
  rw [if_neg (by rw [hf]; simp), if_neg (by omega), stH2, stH_upd2]; rfl
theorem dropH (s : Bs) (x : NdM) (c : Nat) (dir : Bool) (hx : x.kd = if dir = true then 2 else 1) (hL : x.L = []) (hl : x.links = 1) : dropF (stH [(s, 2)] x c) 1 s dir = (0, stH [] (if x.held = 0 then ndZ else { x with links := 0 }) (c + 1)) := by
  have h1 : lookF (stH [(s, 2)] x c) 1 s = (2, 0) := by
    unfold lookF
    rw [if_pos (show dirE (stH [(s, 2)] x c) 1 = 0 from rfl), stH1]
    show lookR (lk s [(s, 2)]) = _
    simp [lk, lookR]
  have h2 : dropE x dir = 0 := by
    unfold dropE
    cases dir with
    | true => rw [if_neg (fun c => c.2 hx), if_neg (by simp), if_neg (by rw [hL]; simp)]
    | false => rw [if_neg (by simp), if_neg (fun c => by rw [hx] at c; simp at c), if_neg (by rw [hL]; simp)]
  unfold dropF
  rw [h1]
  rw [if_neg (by simp), stH2, if_neg (by rw [h2]; simp)]
  refine congrArg _ (tr_eq (fun k => ?_) rfl rfl)
  show takeT (stH [(s, 2)] x c).nd 1 s 2 k = _
  unfold takeT
  simp only []
  rw [stH1]
  have hd : delE s [(s, 2)] = [] := by simp [delE]
  show leaveT (upd (upd (stH [(s, 2)] x c).nd 1 { rootN with L := delE s [(s, 2)] }) 2 { (upd (stH [(s, 2)] x c).nd 1 { rootN with L := delE s [(s, 2)] }) 2 with links := ((upd (stH [(s, 2)] x c).nd 1 { rootN with L := delE s [(s, 2)] }) 2).links - 1 }) 2 k = _
  rw [hd, stH_upd1, stH2, stH_upd2, hl]
  unfold leaveT
  rw [stH2]
  by_cases e : x.held = 0
  · rw [if_pos ⟨rfl, e⟩, if_pos e, stH_upd2]; rfl
  · rw [if_neg (fun c => e c.2), if_neg e]; rfl
theorem liveH (s : Bs) (x : NdM) (c : Nat) (hx : x.kd ≠ 0) (hl : 1 ≤ x.links) (hL : x.L = []) : Live (stH [(s, 2)] x c) := by
  intro d e he
  unfold stH at he
  simp only [] at he
  by_cases d1 : d = 1
  · rw [if_pos d1] at he
    obtain rfl : e = (s, 2) := by simpa using he
    exact ⟨hx, hl⟩
  · rw [if_neg d1] at he
    by_cases d2 : d = 2
    · rw [if_pos d2, hL] at he; cases he
    · rw [if_neg d2] at he; cases he
/-- A name in what has none, or is gone, or is no directory. -/
theorem inH (y : NdM) (c : Nat) (hy : y.kd = 2 → y.links = 0 ∧ y.L = []) : roomE (stH [] y c) 2 inB = if y.kd = 0 then 2 else if y.kd = 2 then 2 else 20 := by
  by_cases h0 : y.kd = 0
  · rw [if_pos h0]; unfold roomE dirE; rw [stH2]; simp [h0]
  · rw [if_neg h0]
    by_cases h2 : y.kd = 2
    · rw [if_pos h2]
      unfold roomE
      rw [show dirE (stH [] y c) 2 = 0 from by unfold dirE; rw [stH2, if_neg h0, if_pos h2]]
      rw [if_neg (by simp), if_neg (by decide), stH2, (hy h2).2, if_neg (by decide), if_pos (hy h2).1]
    · rw [if_neg h2]; unfold roomE dirE; rw [stH2]; simp [h0, h2]
theorem lastH (c : Nat) : holdF (stH [(yB, 2)] (freshN 1 1 ⟨#[]⟩) c) 2 false = (22, stH [(yB, 2)] (freshN 1 1 ⟨#[]⟩) c) := rfl
theorem over_new (at_ : Nat) (b : List Nat) : over (sized [] (max ([] : List Nat).length (at_ + b.length))) at_ b = List.replicate at_ 0 ++ b := by
  unfold over sized
  simp
end Go.Proofs.Ytdlglllidolggaa.In
