/- All: the walk. -/
import Derived.Test.YtnkffjdoillmaaaBackF
import Derived.Test.YtnkffjdoillmaaaNone6
import Derived.Test.YtnkffjdoillmaaaLongest
namespace Go.Proofs.Ytnkffjdoillmaaa
open Go.RowKit Go.Shelf
attribute [local go_sem] Oper.semAt_some
/-- The strongest of what they say, from Allow on. -/
def strongF {n : Nat} (Y : Nat → Nat) (xs : List (At n)) : Nat := xs.foldl (fun a x => Rec.stg a (Y x.1)) 2147418112
theorem strongF_snoc {n : Nat} (Y : Nat → Nat) (xs : List (At n)) (x : At n) : strongF Y (xs ++ [x]) = Rec.stg (strongF Y xs) (Y x.1) := by
  unfold strongF; rw [List.foldl_append]; rfl
theorem strongF_lt {n : Nat} (Y : Nat → Nat) (h : ∀ j, j < n → Y j < 4294967296) (xs : List (At n)) : strongF Y xs < 4294967296 := by
  unfold strongF
  have : ∀ (xs : List (At n)) (a : Nat), a < 4294967296 → xs.foldl (fun a x => Rec.stg a (Y x.1)) a < 4294967296 := by
    intro xs
    induction xs with
    | nil => intro a ha; exact ha
    | cons x xs ih => intro a ha; exact ih _ (Rec.stg_lt ha (h x.1 x.2))
  exact this xs _ (by omega)
theorem Fil.grown {w w' : World} {B p b o c rn st : Nat} {l : List Ins} {row : Option Nat} (h : Fil w B p b o c l rn st) (hg : w.grownBy w' row) (h1 : some p ≠ row) (h2 : some b ≠ row) : Fil w' B p b o c l rn st := by
  have hp := Nat.lt_of_lt_of_le h.lp h.le
  have hb := Nat.lt_of_lt_of_le h.lb h.le
  refine ⟨h.lp, h.lb, h.ne, Nat.le_trans h.le hg.size, (hg.block p hp h1).trans h.bk, fun j u hu => ?_⟩
  rw [← h.cs j u hu]
  unfold World.cell?
  rw [hg.block b hb h2]
/-- A load of a whole block, inside a fence. -/
theorem ld_anyIn {F : Fence} {N : Nat} {w : World} {g t ty n : Nat} {d : Array Field} {l : List Value} {ops : Array Oper} {rest : List Oper} {o : Oper} {a : Act} {Q : Exit → Act → World → Prop}
    (h : Bk w g t l) (hgd : o.guard = none) (x : Operand) (ho : o.op = .load ty x) (hx : a.eval x = .pointer (some ⟨g, 0, none⟩)) (hu : Try.prog.underlying ty = some (.struct d)) (hi : (Try.prog.info? ty).map (·.size) = some n) (hl : l.length = n)
    (hK : wpListIn F N Try.prog ops Q rest (a.put o.dst (.agg l.toArray)) w) : wpListIn F N Try.prog ops Q (o :: rest) a w := by
  refine wpListIn_plain hgd fun K hK' => ?_
  unfold Oper.wpIn
  refine ⟨by simp [Oper.about, ho], ?_⟩
  rw [Oper.semAt_plain F _ _ (by rw [ho]; intro c hc; cases hc)]
  unfold execOp
  simp only [ho, hx, Instr.loadAt, Instr.sureAddr, Sem.run_bind, Sem.run_pure, Result.andThen_ok, run_loadVar_row w g t ty l.toArray (0, 0) _ h hu rfl (by rw [hi, List.size_toArray, hl])]
  exact hK' _ _ hK
/-- Many filters: where they lie, what they are. -/
structure Fils (bs : List Nat) (w : World) (B D b n : Nat) (P q o c : Nat → Nat) (ls : Nat → List Ins) (Y : Nat → Nat) : Prop where
  fil : ∀ j, j < n → Fil w B (P j) (q j) (o j) (c j) (ls j) 0 0
  good : ∀ j, j < n → Good (ls j)
  ok : ∀ j, j < n → ∀ i ∈ ls j, i.ok
  says : ∀ j, j < n → (runN (recW bs) (ls j)).2 = Y j
  few : ∀ j, j < n → (runN (recW bs) (ls j)).1.length ≤ 5000
  lt : ∀ j, j < n → Y j < 4294967296
  pp : ∀ i j, i < n → j < n → i ≠ j → P i ≠ P j
  qp : ∀ i j, i < n → j < n → q i ≠ P j
  pb : ∀ j, j < n → P j ≠ b
  pD : ∀ j, j < n → D ≤ P j
  le : D ≤ w.heap.size
/-- What a round holds. -/
def StF (w : World) (B D b off n cap RB SB BX : Nat) (R : List Value) (P q o c : Nat → Nat) (ls : Nat → List Ins) (Y : Nat → Nat) (pre : List (At n)) (W : World) : Prop :=
  (Bk W RB 39 R ∧ Bk W SB 40 [.int .u32 (strongF Y pre : Nat)] ∧ Bk W BX 63 [.slice (some ⟨b, off, none⟩) n cap]) ∧
  (∀ j, j < n → ∃ rn st, rn ≤ pre.length ∧ st ≤ 5000 * pre.length ∧ Fil W B (P j) (q j) (o j) (c j) (ls j) rn st) ∧ Below D w W
theorem stF_grown {w : World} {B D b off n cap RB SB BX : Nat} {R : List Value} {P q o c : Nat → Nat} {ls : Nat → List Ins} {Y : Nat → Nat} (hg : ∀ j, j < n → Good (ls j)) {pre : List (At n)} {W W' : World} {row : Option Nat} (h : StF w B D b off n cap RB SB BX R P q o c ls Y pre W)
    (hG : W.grownBy W' row) (hrow : ∀ r, row = some r → D ≤ r ∧ ∃ o : Obj, W.heap[r]? = some o ∧ o.isCells = false) (hD : D ≤ W.heap.size) : StF w B D b off n cap RB SB BX R P q o c ls Y pre W' := by
  obtain ⟨⟨h1, h2, h3⟩, h4, h5⟩ := h
  have hno : ∀ g (cs : Array Value) t fr, W.heap[g]? = some (.cells cs t fr) → some g ≠ row := fun g cs t fr hc e => by
    obtain ⟨_, o, ho, hcc⟩ := hrow g e.symm
    rw [hc] at ho; cases ho; cases hcc
  refine ⟨⟨h1.grown hG (hno _ _ _ _ h1), h2.grown hG (hno _ _ _ _ h2), h3.grown hG (hno _ _ _ _ h3)⟩, fun j hj => ?_, h5.grown hG hD (fun k e => (hrow k e).1)⟩
  obtain ⟨rn, st, e1, e2, hf⟩ := h4 j hj
  refine ⟨rn, st, e1, e2, ?_⟩
  refine hf.grown hG (hno _ _ _ _ hf.bk) ?_
  have hl := (hg j (by omega)).pos
  obtain ⟨i, l', hi⟩ : ∃ i l', ls j = i :: l' := by
    cases hls : ls j with
    | nil => rw [hls] at hl; cases hl
    | cons i l' => exact ⟨i, l', rfl⟩
  obtain ⟨ob, ho, hcc⟩ := cells_of_cell (hf.cs 0 (.int .u16 i.c) (by rw [hi]; rfl))
  intro e
  obtain ⟨_, o2, ho2, hc2⟩ := hrow _ e.symm
  rw [ho] at ho2; cases ho2; rw [hcc] at hc2; cases hc2
theorem stF_round {bs : List Nat} {w : World} {B D b off n cap RB SB BX : Nat} {R : List Value} {P q o c : Nat → Nat} {ls : Nat → List Ins} {Y : Nat → Nat} (HF : Fils bs w B D b n P q o c ls Y) {pre : List (At n)} {W W' : World} {x k rn st : Nat} (hx : x < n) (h : StF w B D b off n cap RB SB BX R P q o c ls Y pre W)
    (hrn : rn ≤ pre.length) (hst : st ≤ 5000 * pre.length) (hk : k ≤ 5000) (hR : RB = w.heap.size) (hS : SB = w.heap.size + 1) (hX : BX = w.heap.size + 2) (hB : B ≤ w.heap.size) (hDs : D ≤ w.heap.size) (h2 : Fil W' B (P x) (q x) (o x) (c x) (ls x) (rn + 1) (st + k)) (hg : W.grownBy W' (some (P x))) :
    StF w B D b off n cap RB SB BX R P q o c ls Y (pre ++ [⟨x, hx⟩]) (W'.setCell ⟨SB, 0, none⟩ (.int .u32 (Rec.stg (strongF Y pre) (Y x) : Nat))) := by
  obtain ⟨⟨h1, h3, h4⟩, h5, h6⟩ := h
  have hs := only_set W' SB 0 (.int .u32 (Rec.stg (strongF Y pre) (Y x) : Nat))
  have hp : P x < w.heap.size := Nat.lt_of_lt_of_le (HF.fil x hx).lp hB
  have hW := hg.size
  have hpd := HF.pD x hx
  have hds : D ≤ W.heap.size := Nat.le_trans hDs h6.size
  refine ⟨⟨(h1.grown hg (by simp; omega)).grown hs (by simp; omega), ?_, (h4.grown hg (by simp; omega)).grown hs (by simp; omega)⟩, fun j hj => ?_, (h6.grown hg hds (fun r e => by cases e; exact hpd)).grown hs (by omega) (fun r e => by cases e; omega)⟩
  · rw [strongF_snoc]
    exact (h3.grown hg (by simp; omega)).set 0 _
  · have hpj : P j < w.heap.size := Nat.lt_of_lt_of_le (HF.fil j hj).lp hB
    have hqj : q j < w.heap.size := Nat.lt_of_lt_of_le (HF.fil j hj).lb hB
    by_cases hjx : j = x
    · subst hjx
      exact ⟨rn + 1, st + k, by simp; omega, by simp; omega, h2.grown hs (by simp; omega) (by simp; omega)⟩
    · obtain ⟨rn', st', e1, e2, hf⟩ := h5 j hj
      have n1 := HF.pp j x hj hx hjx
      have n2 := HF.qp j x hj hx
      exact ⟨rn', st', by simp; omega, by simp; omega, (hf.grown hg (by simpa using n1) (by simpa using n2)).grown hs (by simp; omega) (by simp; omega)⟩
theorem fils_below {bs : List Nat} {w w' : World} {B D b n : Nat} {P q o c : Nat → Nat} {ls : Nat → List Ins} {Y : Nat → Nat} (h : Fils bs w B D b n P q o c ls Y) (hb : Below w.heap.size w w') : Fils bs w' B D b n P q o c ls Y :=
  ⟨fun j hj => (h.fil j hj).below (hb.mono (h.fil j hj).le), h.good, h.ok, h.says, h.few, h.lt, h.pp, h.qp, h.pb, h.pD, Nat.le_trans h.le hb.size⟩
set_option maxRecDepth 100000 in
set_option maxHeartbeats 4000000 in
theorem all_any (bs : List Nat) (w : World) (b off n cap B D : Nat) (P q o c : Nat → Nat) (ls : Nat → List Ins) (Y : Nat → Nat) (h0n : 0 < n) (hn : n ≤ 65536) (hF : Fils bs w B D b n P q o c ls Y) (hbs : Rec.IsRec bs)
    (hbl : b < w.heap.size) (hc : ∀ j, j < n → w.cell? ⟨b, off + j, none⟩ = some (.pointer (some ⟨P j, 0, none⟩))) :
    Calls Try.prog 25 #[.slice (some ⟨b, off, none⟩) n cap, .agg (Rec.recL bs).toArray] w (fun e w' => e = .returned (.int .u32 (strongF Y (down h0n n) : Nat)) ∧ Below D w w') := by
  have HR := Lib.hid (recL_len bs)
  have HF := Lib.hid hF
  have Hc := Lib.hid hc
  have hD := hF.le
  have Hr := Lib.hid hbs
  have hBw : B ≤ w.heap.size := (hF.fil 0 h0n).le
  clear hF hc hbs
  refine (callsIn_wide (n := 8)).1 ?_
  refine callsIn_of_wp_marks Try.func25 rfl trivial ?_ rfl
  simp only [Try.ntmps25, List.size_toArray, List.length_cons, List.length_nil, Nat.reduceAdd, Nat.reduceSub, Array.replicate_succ, Array.replicate_zero, List.push_toArray, List.append_toArray, List.nil_append, List.cons_append]
  gi_wp2_with (first | (refine ⟨trivial, ?_⟩; gi_at_call 49; refine (backwardF_in _ _ _ _ _).mono ?_; rintro e w' ⟨rfl, rfl⟩))
  have h1 := Bk.new (l := Rec.recL bs) w 39 (Rec.recL bs).toArray rfl
  have h2 := Bk.new (l := [.int .u32 2147418112]) (w.alloc (.cells (Rec.recL bs).toArray 39)) 40 #[.int .u32 2147418112] rfl
  have h3 := Boxed.new ((w.alloc (.cells (Rec.recL bs).toArray 39)).alloc (.cells #[.int .u32 2147418112] 40)) 63 (.slice (some ⟨b, off, none⟩) n cap)
  have hb := (((Below.refl w.heap.size w).alloc (Nat.le_refl _) (.cells (Rec.recL bs).toArray 39)).alloc (by simp) (.cells #[.int .u32 2147418112] 40)).alloc (by simp; omega) (.cells #[.slice (some ⟨b, off, none⟩) n cap] 63)
  simp only [World.size_alloc] at h2 h3
  have H1 := Lib.hid ((h1.alloc (.cells #[.int .u32 2147418112] 40)).alloc (.cells #[.slice (some ⟨b, off, none⟩) n cap] 63))
  have H2 := Lib.hid (h2.alloc (.cells #[.slice (some ⟨b, off, none⟩) n cap] 63))
  have H3 := Lib.hid h3
  have HB := Lib.hid hb
  have hsz : (((w.alloc (.cells (Rec.recL bs).toArray 39)).alloc (.cells #[.int .u32 2147418112] 40)).alloc (.cells #[.slice (some ⟨b, off, none⟩) n cap] 63)).heap.size = w.heap.size + 3 := by simp
  clear h1 h2 h3 hb
  revert H1 H2 H3 HB hsz
  generalize (((w.alloc (.cells (Rec.recL bs).toArray 39)).alloc (.cells #[.int .u32 2147418112] 40)).alloc (.cells #[.slice (some ⟨b, off, none⟩) n cap] 63)) = W0
  rw [show w.heap.size + 1 + 1 = w.heap.size + 2 from rfl]
  intro H1 H2 H3 HB hsz
  obtain ⟨R, hR⟩ : ∃ R, R = Rec.recL bs := ⟨_, rfl⟩
  have Run := Lib.hid (fun (j : Nat) (hj : j < n) (W : World) (rn st : Nat) (h : Fil W B (P j) (q j) (o j) (c j) (ls j) rn st) (h1 : Small40 rn) (h2 : Small40 st) => run_any bs (ls j) B (P j) (q j) (o j) (c j) rn st W h (HF.out.good j hj) (HF.out.ok j hj) Hr.out h1 h2)
  rw [← hR] at HR H1 Run ⊢
  clear hR
  have hPw : ∀ j, j < n → P j < w.heap.size := fun j hj => by have := (HF.out.fil j hj).lp; omega
  refine wpIn_rangeFunc_ownH rfl (by omega) (gf := 68) (lb := #[.pointer (some ⟨w.heap.size + 2, 0, none⟩)]) rfl trivial (enters_of Try.func68 (by kernel_rfl) rfl)
    (backF_stops 7 (by omega) (w.heap.size + 2) b off n cap h0n hn P W0 (by omega) (by omega) H3.out.cell (fun j hj => (HB.out.cell (p := ⟨b, off + j, none⟩) (by omega)).trans (Hc.out j hj))) KF.trans (kf_put (by omega) (by omega)) (Below.refl _ _) (fun _ => rfl)
    (StF w B D b off n cap w.heap.size (w.heap.size + 1) (w.heap.size + 2) R P q o c ls Y) (fun _ _ _ => False)
    (fun pre X X' row hs hg hr => stF_grown HF.out.good hs hg (fun r e => ⟨by have := (hr r e).1; omega, (hr r e).2⟩) (Nat.le_trans hD hs.2.2.size))
    (fun _ _ _ _ _ hs _ _ => hs)
    ⟨⟨H1.out, H2.out, bk_boxed H3.out⟩, fun j hj => ⟨0, 0, Nat.le_refl _, Nat.zero_le _, (HF.out.fil j hj).below (HB.out.mono hBw)⟩, HB.out.mono hD⟩
    (fun x a' _ => a' = { tmps := #[.slice (some ⟨b, off, none⟩) n cap, .agg R.toArray, undef, .pointer (some ⟨w.heap.size, 0, none⟩), .int .u32 0, .pointer (some ⟨w.heap.size + 1, 0, none⟩), undef, .pointer (some ⟨P x.1, 0, none⟩), undef, undef, .slice (some ⟨b, off, none⟩) n cap, .func (.func 68) #[] #[.pointer (some ⟨w.heap.size + 2, 0, none⟩)], .int .i64 (x.1 : Int), .pointer (some ⟨P x.1, 0, none⟩), undef, undef, undef, undef, undef, undef, undef, undef, undef, undef], defers := [] })
    (fun x a' _ X Z row hs hg hr => hs)
    ?assign ?body ?done ?stop
  case assign =>
    intro L pre x W K hS hK
    unfold handedF
    gi_wp2
    exact hK _ _ (KeepsFrom.of_grownBy (row := none) (World.grownBy.refl _ _) (fun j e => by cases e)) (KF.refl _ _ _) hS rfl
  case body =>
    rintro L pre x a' W hl ⟨r, hr⟩ hS rfl hlt
    obtain ⟨x, hx⟩ := x
    dsimp only
    obtain ⟨rn, st, hrn, hst, fx⟩ := hS.2.1 x hx
    have RunX : Hid (Calls Try.prog 14 #[.pointer (some ⟨P x, 0, none⟩), .agg R.toArray] W fun e W' => ∃ k : Nat, k ≤ 5000 ∧ e = .returned (.tuple #[.int .u32 (Y x), .int .i64 k]) ∧ Fil W' B (P x) (q x) (o x) (c x) (ls x) (rn + 1) (st + k) ∧ W.grownBy W' (some (P x))) :=
      Lib.hid ((Run.out x hx W rn st fx (by unfold Small40; omega) (by unfold Small40; omega)).mono fun e W' ⟨g1, g2, g3⟩ => ⟨_, HF.out.few x hx, by rw [g1, HF.out.says x hx], g2, g3⟩)
    have b1 := Lib.hid hS.1.1
    obtain ⟨z, hz⟩ : ∃ z, z = strongF Y pre := ⟨_, rfl⟩
    have hzl : z < 4294967296 := by rw [hz]; exact strongF_lt Y HF.out.lt _
    have hyl := HF.out.lt x hx
    have b2 := Lib.hid hS.1.2.1
    rw [← hz] at b2
    have Hz := Lib.hid hz
    have HS := Lib.hid hS
    have HX := Lib.hid fx
    have hpx := hPw x hx
    have HN := Lib.hid (And.intro hrn (And.intro hst hlt))
    have HPw := Lib.hid hPw
    clear hS fx hrn hst hlt hz hPw hl hr r
    gi_wp2_with (first | (refine ld_anyIn b1.out rfl _ rfl rfl Try.underlying39 Rec.size9 HR.out ?_) | (refine ⟨trivial, ?_⟩; gi_at_call 14; refine (CallsIn.inRound L (callsIn_wide.2 RunX.out)).mono ?_; rintro e wc ⟨k, hk, rfl, hF2, hg2⟩; have HF2 := Lib.hid hF2; have HG2 := Lib.hid hg2; have b3 := b2.out.grown hg2 (by simp; omega); have c0 := b3.cell 0 rfl; have f0 := b3.fz 0; have St := Lib.hid (Rec.stronger_any z (Y x) wc hzl hyl); clear hF2 hg2) | (refine ⟨trivial, ?_⟩; gi_at_call 50; refine (CallsIn.inRound L (callsIn_wide.2 St.out)).mono ?_; rintro e w' ⟨rfl, rfl⟩))
    have hSt := stF_round HF.out hx HS.out HN.out.1 HN.out.2.1 hk rfl rfl rfl hBw hD HF2.out HG2.out
    rw [← Hz.out] at hSt
    refine ⟨(KeepsFrom.of_grownBy HG2.out (fun j e => by cases e; omega)).trans ((KeepsOthers.setCell _ _ _).from _), ⟨?_, ?_⟩, hSt⟩
    · exact ((only_set wc _ 0 _).block b (by have := HG2.out.size; have := HS.out.2.2.size; omega) (by simp; omega)).trans (HG2.out.block b (by have := HS.out.2.2.size; omega) (by have := HF.out.pb x hx; simp; omega))
    · exact (hSt.1.2.2 : _ = _).trans (HS.out.1.2.2 : _ = _).symm
  case done =>
    rintro D' ys W hD' rfl ⟨⟨b1, b2, b3⟩, _, hbel⟩ hK
    have cX := b2.cell 0 rfl
    gi_wp2
    refine ⟨by simp, .inl ⟨_, _, rfl, run_takeDeferred hK, ?_⟩⟩
    exact ⟨_, results_tmp rfl _ _ _, rfl, hbel.trans (belowK_b (w := w) hD W D' _ _ (by omega) hK rfl rfl)⟩
  case stop =>
    rintro D' c pre W _ _ h _
    exact h.elim
end Go.Proofs.Ytnkffjdoillmaaa
