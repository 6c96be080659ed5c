/- The table of mounts in memory; what its closures ask. -/
import Derived.Test.YtmbgmbheonpamaaMtM
import Derived.ChangeKeysEq
import Derived.Laws.StructEq
namespace Go.Proofs.Ytmbgmbheonpamaa.Mt
open Go.RowKit Go.Maps Go.WideElems In
abbrev MT : List TypeId := [90, 149]
abbrev FrM := Fr MT false
def mtC (m : MtM) : List Value := [.int .i64 m.id, .int .i64 m.am, .int .u16 m.ai, .int .u16 m.root, .int .i64 m.held]
def mtV (m : MtM) : Value := .agg #[.int .i64 m.id, .int .i64 m.am, .int .u16 m.ai, .int .u16 m.root, .int .i64 m.held]
def InR (n : Int) : Prop := -9223372036854775808 ≤ n ∧ n ≤ 9223372036854775807
structure Sm (m : MtM) : Prop where
  id : 0 ≤ m.id ∧ m.id ≤ 1000000000
  am : InR m.am
  ai : 0 ≤ m.ai ∧ m.ai ≤ 65535
  root : 0 ≤ m.root ∧ m.root ≤ 65535
  held : 0 ≤ m.held ∧ m.held ≤ 1000000000
structure MtR (w : World) (B tb : Nat) (M : Ms) (last : Int) (A c : Nat) : Prop where
  tab : Bk w tb 149 [.slice (some ⟨A, 0, none⟩) M.length c, .int .i64 last]
  row : w.ownsRow B 90 5 (.slice (some ⟨A, 0, none⟩) M.length c) M.length (M.flatMap mtC)
  hB : B ≤ tb
  sm : ∀ m ∈ M, Sm m
  fit : Fit M last
  last : 0 ≤ last ∧ last ≤ 1000000000
def Mtb (w : World) (B tb : Nat) (M : Ms) (last : Int) : Prop := ∃ A c, MtR w B tb M last A c
theorem flat5 (f : MtM → List Value) (hf : ∀ x, (f x).length = 5) : ∀ (l : Ms) (i j : Nat), j < 5 → (l.flatMap f)[i * 5 + j]? = (l[i]?).bind (fun x => (f x)[j]?)
  | [], i, j, _ => by simp
  | x :: l, 0, j, hj => by
    rw [List.flatMap_cons, List.getElem?_append_left (by rw [hf]; omega)]; simp
  | x :: l, i + 1, j, hj => by
    rw [List.flatMap_cons, List.getElem?_append_right (by rw [hf]; omega), hf, show (i + 1) * 5 + j - 5 = i * 5 + j from by omega, flat5 f hf l i j hj]; simp
theorem len5 (f : MtM → List Value) (hf : ∀ x, (f x).length = 5) : ∀ l : Ms, (l.flatMap f).length = l.length * 5
  | [] => rfl
  | x :: l => by rw [List.flatMap_cons, List.length_append, hf, len5 f hf l, List.length_cons]; omega
section
variable {w w' : World} {B tb A c : Nat} {M : Ms} {last : Int}
theorem MtR.tyA (h : MtR w B tb M last A c) : TyB w A 90 := by
  obtain ⟨_, _, _, _, _, hty, _⟩ := own_typed h.row
  exact hty A rfl
theorem MtR.lt (h : MtR w B tb M last A c) : B < w.heap.size := Nat.lt_of_le_of_lt h.hB h.tab.lt
theorem own_sameM {base : Nat} {e : TypeId} {z n : Nat} {v : Value} {xs : List Value} (h : w.ownsRow base e z v n xs) (hb : ∀ b, v.ownBlock = some b → w'.heap[b]? = w.heap[b]?) : w'.ownsRow base e z v n xs := by
  refine ⟨h.1, h.2.imp id ?_⟩
  rintro ⟨b, cap, cur, e, h1, h2, h3⟩
  refine ⟨b, cap, cur, e, h1, ?_, h3⟩
  rw [hb b (by subst e; rfl)]
  exact h2
theorem MtR.same (h : MtR w B tb M last A c) (hb : ∀ b, (TyB w b 149 ∨ TyB w b 90) → w'.heap[b]? = w.heap[b]?) : MtR w' B tb M last A c :=
  ⟨(hb _ (.inl (bk_tyb h.tab))).trans h.tab, own_sameM h.row (fun b e => by cases e; exact hb _ (.inr h.tyA)), h.hB, h.sm, h.fit, h.last⟩
theorem MtR.below (h : MtR w B tb M last A c) (hb : Below w.heap.size w w') : MtR w' B tb M last A c :=
  h.same fun b q => hb.block _ (by rcases q with q | q <;> exact q.lt)
theorem Mtb.below (h : Mtb w B tb M last) (hb : Below w.heap.size w w') : Mtb w' B tb M last := by obtain ⟨A, c, h⟩ := h; exact ⟨A, c, h.below hb⟩
/-- What another package's calls leave of it. -/
theorem Mtb.other {ts : List TypeId} {m : Bool} {B2 : Nat} (h : Mtb w B tb M last) (hf : Fr ts m B2 w w') (h1 : 149 ∉ ts) (h2 : 90 ∉ ts) : Mtb w' B tb M last := by
  obtain ⟨A, c, h⟩ := h
  refine ⟨A, c, h.same fun b q => ?_⟩
  rcases q with q | q
  · exact hf.tyb q h1
  · exact hf.tyb q h2
theorem MtR.cell (h : MtR w B tb M last A c) {n : Nat} {m : MtM} (hn : M[n]? = some m) (j : Nat) (hj : j < 5) {v : Value} (hv : (mtC m)[j]? = some v) : w.cell? ⟨A, n * 5 + j, none⟩ = some v := by
  have := h.row.cells (g := A) rfl (n * 5 + j) v (by rw [flat5 mtC (fun _ => rfl) _ _ _ hj, hn]; exact hv)
  rwa [addr_at, Nat.zero_add] at this
theorem MtR.cells5 (h : MtR w B tb M last A c) {n : Nat} {m : MtM} (hn : M[n]? = some m) :
    w.cell? ⟨A, n * 5, none⟩ = some (.int .i64 m.id) ∧ w.cell? ⟨A, n * 5 + 1, none⟩ = some (.int .i64 m.am) ∧ w.cell? ⟨A, n * 5 + 2, none⟩ = some (.int .u16 m.ai) ∧ w.cell? ⟨A, n * 5 + 3, none⟩ = some (.int .u16 m.root) ∧ w.cell? ⟨A, n * 5 + 4, none⟩ = some (.int .i64 m.held) :=
  ⟨h.cell hn 0 (by omega) rfl, h.cell hn 1 (by omega) rfl, h.cell hn 2 (by omega) rfl, h.cell hn 3 (by omega) rfl, h.cell hn 4 (by omega) rfl⟩
theorem MtR.fzA (h : MtR w B tb M last A c) (j : Nat) : w.frozen? ⟨A, j, none⟩ = false := h.row.frozenAt j
theorem MtR.c0 (h : MtR w B tb M last A c) : w.cell? ⟨tb, 0, none⟩ = some (.slice (some ⟨A, 0, none⟩) M.length c) := h.tab.cell 0 rfl
theorem MtR.c1 (h : MtR w B tb M last A c) : w.cell? ⟨tb, 1, none⟩ = some (.int .i64 last) := h.tab.cell 1 rfl
theorem MtR.fzT (h : MtR w B tb M last A c) (j : Nat) : w.frozen? ⟨tb, j, none⟩ = false := h.tab.fz j
theorem MtR.kinT (h : MtR w B tb M last A c) : Kin MT false w tb := .inl ⟨_, by simp [MT], bk_tyb h.tab⟩
theorem MtR.kinA (h : MtR w B tb M last A c) : Kin MT false w A := .inl ⟨_, by simp [MT], h.tyA⟩
theorem MtR.hA (h : MtR w B tb M last A c) : B ≤ A := (h.row.lt A rfl).1
theorem MtR.rd (h : MtR w B tb M last A c) : Rd w 5 M.length (some ⟨A, 0, none⟩) (M.flatMap mtC) := by
  obtain ⟨A', c', e, _, hr, _⟩ := own_typed h.row
  cases e
  exact hr.rd
end
/-! What closures ask of a mount. -/
def BoP (b : Bool) (w : World) (e : Ending) (w' : World) : Prop := e = .returned (.bool b) ∧ Below w.heap.size w w'
theorem twob (w : World) (o1 o2 : Obj) : Below w.heap.size w ((w.alloc o1).alloc o2) := (oneb w o1).alloc (oneb w o1).size o2
theorem bool_and (a b : Bool) (h : a = b) : Value.bool a = Value.bool b := by rw [h]
/-- Two places, compared. -/
theorem eqPl (a b x y : Int) (W : World) (q : Bool) (hq : q = decide (a = x ∧ b = y)) : (binOp .eql 74 (.agg #[.int .i64 a, .int .u16 b]) (.agg #[.int .i64 x, .int .u16 y])).run Try.prog W = .ok (.bool q) W := by
  rw [hq]
  simp only [go_sem]
  rw [run_equalIn_agg W 9999 _ _ _ (by simp [Program.fieldsOf, Try.underlying74]) (by kernel_rfl)]
  simp [Op.eqFields, Program.fieldsOf, Try.underlying74, go_sem]
  by_cases h1 : a = x <;> by_cases h2 : b = y <;> simp [h1, h2]
theorem neqPl (a b x y : Int) (W : World) (q : Bool) (hq : q = decide (¬ (a = x ∧ b = y))) : (binOp .neq 74 (.agg #[.int .i64 a, .int .u16 b]) (.agg #[.int .i64 x, .int .u16 y])).run Try.prog W = .ok (.bool q) W := by
  rw [hq]
  rw [run_neq_struct, run_equalIn_agg W 9999 _ _ _ (by simp [Program.fieldsOf, Try.underlying74]) (by kernel_rfl)]
  simp [Op.eqFields, Program.fieldsOf, Try.underlying74, go_sem]
  by_cases h1 : a = x <;> by_cases h2 : b = y <;> simp [h1, h2]
section
variable (m : MtM) (w : World)
theorem stands_any (hs : Sm m) (b : Bool) (hb : b = decide (m.id ≠ 0)) : Calls Try.prog 85 #[mtV m] w (BoP b w) := by
  have e : (m.id != 0) = b := by rw [hb]; simp [bne]; cases h : (m.id == 0) <;> simp_all
  unfold mtV
  obtain ⟨id, am, ai, root, held⟩ := m
  clear hb hs
  dsimp only at e ⊢
  go_enter Try.func85, Try.ntmps85
  go_wp2_with fail
  go_ret
  exact ⟨rfl, oneb _ _⟩
def TopP (m : MtM) (w : World) (e : Ending) (w' : World) : Prop := e = .returned (.agg #[.int .i64 m.id, .int .u16 m.root]) ∧ Below w.heap.size w w'
theorem top_any : Calls Try.prog 86 #[mtV m] w (TopP m w) := by
  unfold mtV
  obtain ⟨id, am, ai, root, held⟩ := m
  dsimp only
  go_enter Try.func86, Try.ntmps86
  go_wp2_with fail
  exact bodyPost_ret (v := .agg #[.int .i64 id, .int .u16 root]) (by simp [results, Try.results86, go_sem]) rfl ⟨rfl, twob _ _ _⟩
theorem cl_index (n : Int) (bb : Nat) (hc : w.cell? ⟨bb, 0, none⟩ = some (.int .i64 n)) (hb : bb < w.heap.size) : Calls Try.prog 97 #[mtV m, .pointer (some ⟨bb, 0, none⟩)] w (BoP (isId n m) w) := by
  obtain ⟨q, hq⟩ : ∃ q, q = isId n m := ⟨_, rfl⟩
  rw [← hq]
  have e : (m.id == n) = q := by rw [hq]; unfold isId; by_cases h : m.id = n <;> simp [h]
  unfold mtV
  obtain ⟨id, am, ai, root, held⟩ := m
  clear hq
  dsimp only at e ⊢
  go_enter Try.func97, Try.ntmps97
  go_wp2_with fail
  go_ret
  exact ⟨rfl, oneb _ _⟩
theorem bx (W : World) (l : List Value) (t : TypeId) (a : Array Value) (h : a = l.toArray) (w2 : World) (hb : Below (W.alloc (.cells a t)).heap.size (W.alloc (.cells a t)) w2) : Bk w2 W.heap.size t l := (Bk.new W t a h).kept hb
theorem cl_standing (p : Pl) (bb : Nat) (hs : Sm m) (hc : w.cell? ⟨bb, 0, none⟩ = some (.int .i64 p.1)) (hc1 : w.cell? ⟨bb, 1, none⟩ = some (.int .u16 p.2)) (hb : bb < w.heap.size) : Calls Try.prog 98 #[mtV m, .pointer (some ⟨bb, 0, none⟩)] w (BoP (stB p m) w) := by
  obtain ⟨x, y⟩ := p
  dsimp only at hc hc1
  by_cases h0 : m.id = 0
  · have hst := fun W => stands_any m W hs false (by rw [h0]; rfl)
    rw [show stB (x, y) m = false from by unfold stB; rw [h0]; simp]
    clear h0
    go_enter Try.func98, Try.ntmps98
    unfold mtV at *
    go_wp2_with fail
    refine (hst _).mono ?_
    rintro e w2 ⟨rfl, hb2⟩
    have Hb := Lib.hid ((oneb w _).trans (hb2.mono (oneb w _).size))
    clear hb2 hst
    go_wp2_with fail
    go_ret
    exact ⟨rfl, Hb.out⟩
  · have hst := fun W => stands_any m W hs true (by simp [h0])
    obtain ⟨q, hq⟩ : ∃ q, q = decide (m.am = x ∧ m.ai = y) := ⟨_, rfl⟩
    rw [show stB (x, y) m = q from by unfold stB; rw [hq]; simp [h0]]
    have heq := fun W => eqPl m.am m.ai x y W q hq
    clear h0 hq
    go_enter Try.func98, Try.ntmps98
    unfold mtV at *
    go_wp2_with fail
    refine (hst _).mono ?_
    rintro e w2 ⟨rfl, hb2⟩
    have hk := bx w (mtC m) _ _ rfl w2 hb2
    have k1 := hk.cell 1 (v := .int .i64 m.am) rfl
    have k2 := hk.cell 2 (v := .int .u16 m.ai) rfl
    have hbw := (oneb w (.cells #[.int .i64 m.id, .int .i64 m.am, .int .u16 m.ai, .int .u16 m.root, .int .i64 m.held] 90)).trans (hb2.mono (oneb w _).size)
    have d0 := (hbw.cell (p := ⟨bb, 0, none⟩) hb).trans hc
    have d1 := (hbw.cell (p := ⟨bb, 1, none⟩) hb).trans hc1
    have Hb := Lib.hid hbw
    clear hb2 hst hk hbw hc hc1
    go_wp2_with fail
    go_ret
    exact ⟨rfl, Hb.out⟩
theorem cl_within (x : Int) (bb : Nat) (hs : Sm m) (hc : w.cell? ⟨bb, 0, none⟩ = some (.int .i64 x)) (hb : bb < w.heap.size) : Calls Try.prog 99 #[mtV m, .pointer (some ⟨bb, 0, none⟩)] w (BoP (inB x m) w) := by
  by_cases h0 : m.id = 0
  · have hst := fun W => stands_any m W hs false (by rw [h0]; rfl)
    rw [show inB x m = false from by unfold inB; rw [h0]; simp]
    clear h0
    go_enter Try.func99, Try.ntmps99
    unfold mtV at *
    go_wp2_with fail
    refine (hst _).mono ?_
    rintro e w2 ⟨rfl, hb2⟩
    have Hb := Lib.hid ((oneb w _).trans (hb2.mono (oneb w _).size))
    clear hb2 hst
    go_wp2_with fail
    go_ret
    exact ⟨rfl, Hb.out⟩
  · have hst := fun W => stands_any m W hs true (by simp [h0])
    obtain ⟨q, hq⟩ : ∃ q, q = decide (m.am = x) := ⟨_, rfl⟩
    rw [show inB x m = q from by unfold inB; rw [hq]; simp [h0]]
    have heq : (m.am == x) = q := by rw [hq]; by_cases h : m.am = x <;> simp [h]
    clear h0 hq
    go_enter Try.func99, Try.ntmps99
    unfold mtV at *
    go_wp2_with fail
    refine (hst _).mono ?_
    rintro e w2 ⟨rfl, hb2⟩
    have hk := bx w (mtC m) _ _ rfl w2 hb2
    have k1 := hk.cell 1 (v := .int .i64 m.am) rfl
    have hbw := (oneb w (.cells #[.int .i64 m.id, .int .i64 m.am, .int .u16 m.ai, .int .u16 m.root, .int .i64 m.held] 90)).trans (hb2.mono (oneb w _).size)
    have d0 := (hbw.cell (p := ⟨bb, 0, none⟩) hb).trans hc
    have Hb := Lib.hid hbw
    clear hb2 hst hk hbw hc
    go_wp2_with fail
    go_ret
    exact ⟨rfl, Hb.out⟩
theorem cl_used (x : Int) (bb : Nat) (hs : Sm m) (hc : w.cell? ⟨bb, 0, none⟩ = some (.int .u16 x)) (hb : bb < w.heap.size) : Calls Try.prog 88 #[mtV m, .pointer (some ⟨bb, 0, none⟩)] w (BoP (usB x m) w) := by
  by_cases hr : m.root = x
  · rw [show usB x m = true from by unfold usB; simp [hr]]
    have heq : (m.root == x) = true := by simp [hr]
    clear hr
    go_enter Try.func88, Try.ntmps88
    unfold mtV at *
    go_wp2_with fail
    go_ret
    exact ⟨rfl, oneb _ _⟩
  have her : (m.root == x) = false := by simp [hr]
  by_cases h0 : m.id = 0
  · have hst := fun W => stands_any m W hs false (by rw [h0]; rfl)
    rw [show usB x m = false from by unfold usB; rw [h0]; simp [hr]]
    clear h0 hr
    go_enter Try.func88, Try.ntmps88
    unfold mtV at *
    go_wp2_with fail
    refine (hst _).mono ?_
    rintro e w2 ⟨rfl, hb2⟩
    have Hb := Lib.hid ((oneb w _).trans (hb2.mono (oneb w _).size))
    clear hb2 hst
    go_wp2_with fail
    go_ret
    exact ⟨rfl, Hb.out⟩
  · have hst := fun W => stands_any m W hs true (by simp [h0])
    obtain ⟨q, hq⟩ : ∃ q, q = decide (m.ai = x) := ⟨_, rfl⟩
    rw [show usB x m = q from by unfold usB; rw [hq]; simp [h0, hr]]
    have heq : (m.ai == x) = q := by rw [hq]; by_cases h : m.ai = x <;> simp [h]
    clear h0 hq hr
    go_enter Try.func88, Try.ntmps88
    unfold mtV at *
    go_wp2_with fail
    refine (hst _).mono ?_
    rintro e w2 ⟨rfl, hb2⟩
    have hk := bx w (mtC m) _ _ rfl w2 hb2
    have k1 := hk.cell 2 (v := .int .u16 m.ai) rfl
    have hbw := (oneb w (.cells #[.int .i64 m.id, .int .i64 m.am, .int .u16 m.ai, .int .u16 m.root, .int .i64 m.held] 90)).trans (hb2.mono (oneb w _).size)
    have d0 := (hbw.cell (p := ⟨bb, 0, none⟩) hb).trans hc
    have Hb := Lib.hid hbw
    clear hb2 hst hk hbw hc
    go_wp2_with fail
    go_ret
    exact ⟨rfl, Hb.out⟩
end
end Go.Proofs.Ytmbgmbheonpamaa.Mt
