/- Code that is being made, in memory; asking for names. -/
import Derived.Test.YtcageojoafkojaaK02
namespace Go.Proofs.Ytcageojoafkojaa.Ju
open Go.RowKit Go.Maps Go.WideMaps Go.WideElems Go.ChangeMaps
def bhI (e : Int × Nat) : Int × Int := (e.1, (e.2 : Int))
theorem lk_map (n : Int) : ∀ b : List (Int × Nat), lk n (b.map bhI) = Option.map (fun (v : Nat) => (v : Int)) (lk n b)
  | [] => rfl
  | (m, v) :: b => by
    rw [List.map_cons]
    show lk n ((m, (v : Int)) :: b.map bhI) = _
    rw [lk_cons, lk_cons, lk_map n b]
    by_cases h : m = n <;> simp [h]
/-- Code in block p, its names in block m, its instructions (the last first) in blocks from B on. -/
structure CR (w : World) (p m B : Nat) (v : Value) (c : CdM) : Prop where
  box : Bk w p 133 [v, .map (some m)]
  row : w.ownsRow B 122 4 v c.ins.length (c.ins.reverse.flatMap Ins.cells)
  mp : NMap w 3 m (c.bh.map bhI)
  pB : p < B
  mB : m < B
  pm : p ≠ m
  le : B ≤ w.heap.size
theorem own_ge {w : World} {n : Nat} {e : TypeId} {z : Nat} {v : Value} {xs : List Value} {B : Nat} (h : w.ownsRow B e z v n xs) : ∀ g, v.ownBlock = some g → B ≤ g ∧ g < w.heap.size := by
  intro g hg
  obtain ⟨h1, ⟨h2, h3⟩ | ⟨g', cap, cur, h2, h3, h4, h5⟩⟩ := h
  · subst h2; cases hg
  · subst h2; cases hg; exact ⟨h3, (Array.getElem?_eq_some_iff.1 h4).1⟩
theorem own_base {w : World} {B B' : Nat} {e : TypeId} {z n : Nat} {v : Value} {xs : List Value} (h : w.ownsRow B e z v n xs) (hB : B' ≤ B) : w.ownsRow B' e z v n xs := by
  obtain ⟨h1, h2 | ⟨g, cap, cur, e, h3, h4⟩⟩ := h
  · exact ⟨h1, Or.inl h2⟩
  · exact ⟨h1, Or.inr ⟨g, cap, cur, e, Nat.le_trans hB h3, h4⟩⟩
/-- What a step leaves: all blocks but for the code's, the map's, the row's. -/
structure Fr (p m : Nat) (v v' : Value) (w w' : World) : Prop where
  os : w'.os = w.os
  tape : w'.tape = w.tape
  output : w'.output = w.output
  size : w.heap.size ≤ w'.heap.size
  block : ∀ i, i < w.heap.size → i ≠ p → i ≠ m → some i ≠ v.ownBlock → w'.heap[i]? = w.heap[i]?
  own : v'.ownBlock = v.ownBlock ∨ ∀ g, v'.ownBlock = some g → w.heap.size ≤ g
section
variable {w w' w2 : World} {p m B : Nat} {v v' v2 : Value} {c : CdM}
theorem Fr.refl (p m : Nat) (v : Value) (w : World) : Fr p m v v w w := ⟨rfl, rfl, rfl, Nat.le_refl _, fun _ _ _ _ _ => rfl, Or.inl rfl⟩
theorem Fr.trans (h : Fr p m v v' w w') (k : Fr p m v' v2 w' w2) : Fr p m v v2 w w2 :=
  ⟨k.os.trans h.os, k.tape.trans h.tape, k.output.trans h.output, Nat.le_trans h.size k.size, fun i hi h1 h2 h3 => (k.block i (Nat.lt_of_lt_of_le hi h.size) h1 h2 (fun e => by
    rcases h.own with g | g
    · rw [g] at e; exact h3 e
    · have := g i e.symm; omega)).trans (h.block i hi h1 h2 h3), by
    rcases k.own with g | g
    · rw [g]; exact h.own
    · exact Or.inr fun x hx => Nat.le_trans h.size (g x hx)⟩
theorem Fr.of_below (p m : Nat) (v : Value) (h : Below w.heap.size w w') : Fr p m v v w w' := ⟨h.os, h.tape, h.output, h.size, fun i hi _ _ _ => h.block i hi, Or.inl rfl⟩
theorem Fr.below {N : Nat} (h : Fr p m v v' w w') (hw : N ≤ w.heap.size) (hp : N ≤ p) (hm : N ≤ m) (hv : ∀ g, v.ownBlock = some g → N ≤ g) : Below N w w' :=
  ⟨h.os, h.tape, h.output, h.size, fun i hi => h.block i (by omega) (by omega) (by omega) (fun e => by have := hv i e.symm; omega)⟩
theorem Fr.grown {r : Nat} (v : Value) (h : w.grownBy w' (some r)) (hr : r = p ∨ r = m) : Fr p m v v w w' := ⟨h.os, h.tape, h.output, h.size, fun i hi h1 h2 _ => h.block i hi (fun e => by injection e with e; omega), Or.inl rfl⟩
theorem Bk.fr {g t : Nat} {l : List Value} (h : Bk w g t l) (hF : Fr p m v v' w w') (h1 : g ≠ p) (h2 : g ≠ m) (h3 : some g ≠ v.ownBlock) : Bk w' g t l := (hF.block g h.lt h1 h2 h3).trans h
theorem CR.below (h : CR w p m B v c) (hb : Below w.heap.size w w') : CR w' p m B v c :=
  ⟨h.box.kept hb, own_keepN h.row hb, h.mp.below hb, h.pB, h.mB, h.pm, Nat.le_trans h.le hb.size⟩
theorem CR.drew (h : CR w p m B v c) : CR w.drew p m B v c := h.below (Below.refl _ _).drew
theorem CR.drewN (h : CR w p m B v c) (n : Nat) : CR (w.drewN n) p m B v c := h.below (below_drewN (Below.refl _ _) n)
theorem CR.cells (h : CR w p m B v c) : w.cell? ⟨p, 0, none⟩ = some v ∧ w.cell? ⟨p, 1, none⟩ = some (.map (some m)) ∧ p < w.heap.size ∧ w.frozen? ⟨p, 0, none⟩ = false :=
  ⟨h.box.cell 0 rfl, h.box.cell 1 rfl, h.box.lt, h.box.fz 0⟩
theorem CR.slice (h : CR w p m B v c) : ∃ A cp, v = .slice A c.ins.length cp := by obtain ⟨A, cp, e, _⟩ := own_typed h.row; exact ⟨A, cp, e⟩
end
set_option maxRecDepth 100000 in
/-- 'v, ok := m[k]' at the operation. -/
theorem wpList_lookup_ok {H : Type} {P : Program} (w : World) {ops : Array Oper} {rest : List Oper} {o : Oper} {a : Act} {Q : Exit → Act → World → Prop}
    (hg : o.guard = none) (m x : Operand) (t : TypeId) (hop : o.op = Op.lookup t m x true)
    (k e : TypeId) (K : Keyed P k) (ht : P.underlying t = some (.map k e)) (R : Value → Option (DataW H × List MemPlace)) {z : Value} (hz : (zeroValue e).run P w = .ok z w) {zd : DataW H} {zp : List MemPlace} (hzd : R z = some (zd, zp)) (b n : Nat) (D : DataW H)
    (hm : a.eval m = .map (some b)) (hown : w.ownsMap P k R b n D) (key : Value) (kl : Lit) (hx : a.eval x = key) (hkey : keyOf P k key = some kl) (bb : Bool) (hb : has D kl = bb)
    (hK : ∀ v ps, R v = some (D.atKey kl zd, ps) → wpList P ops Q rest (a.put o.dst (.tuple #[v, .bool bb])) w) :
    wpList P ops Q (o :: rest) a w := by
  refine wpList_plain hg fun K' hK' => ?_
  obtain ⟨v, ps, hrun, hat⟩ := hown.look_ok K ht hz hzd hkey
  rw [hb] at hrun
  unfold Oper.wp
  simp [execOp, hop, hm, hx, hrun, Result.andThen]
  exact hK' _ _ (hK v ps hat)
set_option maxRecDepth 100000 in
/-- What a name's number is, as it stands in a map. -/
theorem NMap.look {w : World} {e : TypeId} {t : TypeId} {m : Nat} {o : List (Int × Int)} (he : Try.prog.underlying e = some (.int .i64)) (ht : Try.prog.underlying t = some (.map 115 e)) (hz : (zeroValue e).run Try.prog w = .ok (.int .i64 0) w) (h : NMap w e m o) {n : Int} (h1 : -9223372036854775808 ≤ n) (h2 : n ≤ 9223372036854775807) :
    (Instr.lookup t (.map (some m)) (.int .i64 n) false).run Try.prog w = .ok (.int .i64 ((lk n o).getD 0)) w := by
  obtain ⟨c, hrun, hat, _⟩ := World.ownsMap.lookup_int h nameKeyed ht he hz (keyOf_int_mk Try.underlying115 (wfI h1 h2))
  rw [mD_at] at hat
  rw [hrun]
  cases hl : lk n o with
  | none => rw [hl] at hat; injection hat with hat; injection hat with _ hat; subst hat; rfl
  | some v => rw [hl] at hat; injection hat with hat; injection hat with _ hat; subst hat; rfl
set_option maxHeartbeats 4000000 in
set_option maxRecDepth 100000 in
theorem there_any (w : World) (p m B : Nat) (v : Value) (c : CdM) (n : Int) (h : CR w p m B v c) (h1 : -9223372036854775808 ≤ n) (h2 : n ≤ 9223372036854775807) :
    Calls Try.prog 99 #[.pointer (some ⟨p, 0, none⟩), .int .i64 n] w fun e w' => e = .returned (.bool (lk n c.bh).isSome) ∧ w' = w := by
  obtain ⟨k0, k1, kl, _⟩ := h.cells
  obtain ⟨bb, hbb⟩ : ∃ bb, bb = (lk n c.bh).isSome := ⟨_, rfl⟩
  have hh : has (mD (c.bh.map bhI)) (.int .i64 n) = bb := by rw [mD_has, lk_map, Option.isSome_map, hbb]
  rw [← hbb]
  have HM := Lib.hid h.mp
  clear h hbb k0
  go_enter Try.func99, Try.ntmps99
  go_wp2_with (at_lookup; go_loud (refine wpList_lookup_ok _ rfl _ _ 131 rfl 115 3 nameKeyed Try.underlying131 (plainElem Try.prog 3) (Try.zeroValue3 _) (zd := .lit (.int .i64 0)) (zp := []) (plainElem_int Try.underlying3 (by decide)) m _ _ rfl HM.out _ (.int .i64 n) rfl (keyOf_int_mk Try.underlying115 (wfI h1 h2)) bb hh ?_); intro v ps hv; clear hv)
  go_ret
  exact ⟨rfl, rfl⟩
set_option maxHeartbeats 4000000 in
set_option maxRecDepth 100000 in
theorem far_any (w : World) (p m B : Nat) (v : Value) (c : CdM) (n : Int) (b : Nat) (h : CR w p m B v c) (h1 : -9223372036854775808 ≤ n) (h2 : n ≤ 9223372036854775807) (hb : lk n c.bh = some b) (hbl : b ≤ c.ins.length) (hl : c.ins.length ≤ 5000) :
    Calls Try.prog 118 #[.pointer (some ⟨p, 0, none⟩), .int .i64 n] w fun e w' => e = .returned (.int .i64 ((c.ins.length - b : Nat) : Int)) ∧ ∃ q, w' = w.drewN q := by
  obtain ⟨A, cp, rfl⟩ := h.slice
  have k0 : ∀ q, (w.drewN q).cell? ⟨p, 0, none⟩ = some (.slice A c.ins.length cp) := fun q => (h.drewN q).cells.1
  have k1 : ∀ q, (w.drewN q).cell? ⟨p, 1, none⟩ = some (.map (some m)) := fun q => (h.drewN q).cells.2.1
  have kl : p < w.heap.size := h.cells.2.2.1
  have hlk : ∀ q, (Instr.lookup 131 (.map (some m)) (.int .i64 n) false).run Try.prog (w.drewN q) = .ok (.int .i64 (b : Int)) (w.drewN q) := fun q => by
    have := NMap.look Try.underlying3 Try.underlying131 (Try.zeroValue3 _) (h.drewN q).mp h1 h2
    rw [lk_map, hb] at this
    exact this
  obtain ⟨z, hz⟩ : ∃ z, z = c.ins.length := ⟨_, rfl⟩
  rw [← hz] at k0 hbl hl ⊢
  have e1 : IntKind.i64.wrap ((z : Int) - (b : Int)) = ((z - b : Nat) : Int) := by rw [IntKind.wrap_i64]; omega
  clear h hb hz
  go_enter Try.func118, Try.ntmps118
  go_upto_region 1 with fail
  go_quiet (fail)
  go_wp2_with fail
  go_ret
  exact ⟨rfl, _, rfl⟩
end Go.Proofs.Ytcageojoafkojaa.Ju
namespace Go.Proofs.Ytcageojoafkojaa.Ju
open Go.RowKit Go.Maps Go.WideMaps Go.WideElems Go.ChangeMaps
theorem one_alloc (w : World) (o : Obj) : Below w.heap.size w (w.alloc o) := (Below.refl w.heap.size w).alloc (Nat.le_refl _) o
def ClP (l : List PtM) (w : World) (e : Ending) (w' : World) : Prop :=
  ∃ A cp, e = .returned (.slice A l.length cp) ∧ w'.ownsRow w.heap.size 125 7 (.slice A l.length cp) l.length (l.flatMap PtM.cells) ∧ Below w.heap.size w w'
set_option maxRecDepth 100000 in
set_option maxHeartbeats 1000000 in
theorem clone_any (l : List PtM) (n : Nat) (A : Option Addr) (cp : Nat) (w : World) (hl : l.length = n) (hr : Rd w 7 n A (l.flatMap PtM.cells)) (hn : n ≤ 65536) (hA : A = none → n = 0) :
    Calls Try.prog 44 #[.slice A n cp] w (ClP l w) := by
  cases A with
  | none =>
    have h0 := hA rfl
    have hnil := fun (w : World) (n c : Nat) => Lib.run_eql_slice_nil (P := Try.prog) w 65 125 none n c 0 0 Try.underlying65
    obtain rfl : l = [] := List.length_eq_zero_iff.1 (by omega)
    clear hr hl hA hn
    go_enter Try.func44, Try.ntmps44
    go_wp2_with fail
    go_ret
    exact ⟨none, 0, rfl, World.ownsRow_nil _ _ _ _, Below.refl _ _⟩
  | some a =>
    obtain ⟨i0, hi, hz0, hz1, hz2⟩ := info_parts infoPart
    have Hl := Lib.hid hl
    have hlen := flatz_len PtM.cells 7 (fun _ => rfl) l
    rw [hl] at hlen
    have Hlen := Lib.hid hlen
    have Hcell := Lib.hid (show ∀ j u, (l.flatMap PtM.cells)[j]? = some u → w.cell? (a.add j) = some u from fun j u hu => by
      rcases Nat.eq_zero_or_pos n with h0 | h0
      · have := (List.getElem?_eq_some_iff.1 hu).1
        rw [hlen, h0] at this; omega
      · obtain ⟨b, o, he, _, hc⟩ := hr.pos h0
        cases he
        rw [show (⟨b, o, none⟩ : Addr).add j = ⟨b, o + j, none⟩ by unfold Addr.add; split <;> simp_all]
        exact hc j u hu)
    have Hblk := Lib.hid (show 0 < n → a.block < w.heap.size from fun h0 => by
      obtain ⟨b, o, he, h1, hc⟩ := hr.pos h0
      cases he
      exact h1)
    clear hl hr hA
    have hnil := fun (w : World) (a : Addr) (n c : Nat) => Lib.run_eql_slice_nil (P := Try.prog) w 65 125 (some a) n c 0 0 Try.underlying65
    go_enter Try.func44, Try.ntmps44
    have Hown := Lib.hid (World.ownsRow_lit (base := w.heap.size) (e := 125) (size := 7) w #[] 0 (Nat.le_refl _) (by unfold maxLen; omega) rfl)
    have Hc2 := Lib.hid (show ∀ j u, (l.flatMap PtM.cells)[j]? = some u → (w.alloc (.cells #[] 125)).cell? (a.add j) = some u from fun j u hu => by
      have h1 := Hcell.out j u hu
      have h2 := Hblk.out (by
        rcases Nat.eq_zero_or_pos n with h0 | h0
        · have := (List.getElem?_eq_some_iff.1 hu).1
          rw [Hlen.out, h0] at this; omega
        · exact h0)
      rw [← h1]
      exact (one_alloc w _).cell (p := a.add j) (by unfold Addr.add; split <;> exact h2))
    have HB1 := Lib.hid (one_alloc w (.cells #[] 125))
    clear hlen
    go_wp2_with (at_builtin; refine wpList_append_own _ rfl (.tmp 5) (.tmp 6) 65 rfl w.heap.size 125 i0 _ 7 32 Try.underlying65 hi hz0 hz1 hz2 rfl (by decide) _ 0 [] rfl Hown.out a n cp (l.flatMap PtM.cells) rfl Hlen.out Hc2.out (fun u hu => by obtain ⟨x, _, hx⟩ := List.mem_flatMap.1 hu; exact pt_one x u hx) (by unfold maxLen; omega) (by omega) HB1.out.size ?_; intro v' w4 hown' hgrow _; obtain ⟨A', c', rfl, hnc', -, -, -⟩ := own_typed hown'; have Hw := Lib.hid hown'; clear hown')
    go_ret
    rw [Nat.zero_add] at *
    have hw := Hw.out
    simp only [List.nil_append] at hw
    exact ⟨A', c', (by rw [Hl.out]; rfl), (by rw [Hl.out]; exact hw), HB1.out.grown hgrow HB1.out.size (fun k hk => by cases hk; exact Nat.le_refl _)⟩
/-! Lists alone. -/
def endN : Nat → List (Int × Int) → Int → Int
  | 0, _, n => n
  | k + 1, o, n => match lk n o with | none => n | some t => endN k o t
/-- Where a way tQ a name leads. -/
def endF (o : List (Int × Int)) (n : Int) : Int := endN (cnt o) o n
def InR (n : Int) : Prop := -9223372036854775808 ≤ n ∧ n ≤ 9223372036854775807
def InO (o : List (Int × Int)) : Prop := ∀ e ∈ o, InR e.1 ∧ InR e.2
theorem lk_in {β : Type} {n : Int} {v : β} : ∀ {o : List (Int × β)}, lk n o = some v → (n, v) ∈ o
  | [], h => by simp [lk] at h
  | (m, u) :: o, h => by
    rw [lk_cons] at h
    split at h
    · rename_i e; subst e; cases h; exact List.mem_cons_self
    · exact List.mem_cons_of_mem _ (lk_in h)
theorem endN_in {o : List (Int × Int)} (ho : InO o) : ∀ (k : Nat) (n : Int), InR n → InR (endN k o n)
  | 0, _, h => h
  | k + 1, n, h => by
    unfold endN
    cases hl : lk n o with
    | none => exact h
    | some t => exact endN_in ho k t (ho _ (lk_in hl)).2
theorem tidy_mD : ∀ o : List (Int × Int), Tidy (mD o)
  | [] => tidy_empty
  | _ :: o => (tidy_mD o).put (show WideAt.IsKeyLit (Lit.int .i64 _) from trivial) _
theorem size_mD : ∀ o : List (Int × Int), Maps.size (mD o) = cnt o
  | [] => rfl
  | (n, v) :: o => by
    rw [mD_cons, size_put (tidy_mD o), mD_has, size_mD o]
    rfl
/-- How many go tQ a name. -/
def gW (n : Int) (W : List (Int × Int)) : Int := (lk n W).getD 0
def cntW (p : PtM) (k : Int) (W : List (Int × Int)) : List (Int × Int) :=
  if p.kd = 3 then (p.el, gW p.el ((p.tQ, gW p.tQ W + k) :: W) + k) :: (p.tQ, gW p.tQ W + k) :: W
  else if p.kd = 4 then (p.tQ, gW p.tQ W + k) :: W else W
/-- All numbers are small. -/
def SmW (b : Nat) (W : List (Int × Int)) : Prop := W.length ≤ b ∧ ∀ e ∈ W, InR e.1 ∧ -(b : Int) ≤ e.2 ∧ e.2 ≤ b
theorem gW_sm {b : Nat} {W : List (Int × Int)} (h : SmW b W) (n : Int) : -(b : Int) ≤ gW n W ∧ gW n W ≤ b := by
  unfold gW
  cases hl : lk n W with
  | none => simp only [Option.getD_none]; omega
  | some v => exact (h.2 _ (lk_in hl)).2
theorem SmW.push {b : Nat} {W : List (Int × Int)} (h : SmW b W) {n k : Int} (hn : InR n) (hk : -1 ≤ k ∧ k ≤ 1) : SmW (b + 1) ((n, gW n W + k) :: W) := by
  have hg := gW_sm h n
  refine ⟨by simp [h.1], fun e he => ?_⟩
  rcases List.mem_cons.1 he with rfl | he
  · exact ⟨hn, by simp only; omega, by simp only; omega⟩
  · have := h.2 e he; exact ⟨this.1, by omega, by omega⟩
theorem cntW_sm {b : Nat} {W : List (Int × Int)} (h : SmW b W) {p : PtM} (hp : p.ok) {k : Int} (hk : -1 ≤ k ∧ k ≤ 1) : SmW (b + 2) (cntW p k W) := by
  unfold cntW
  split
  · exact (h.push ⟨hp.to1, hp.to2⟩ hk).push ⟨hp.el1, hp.el2⟩ hk
  · split
    · have := h.push ⟨hp.to1, hp.to2⟩ hk
      exact ⟨by have := this.1; omega, fun e he => by have := this.2 e he; exact ⟨this.1, by omega, by omega⟩⟩
    · exact ⟨by have := h.1; omega, fun e he => by have := h.2 e he; exact ⟨this.1, by omega, by omega⟩⟩
def endsB (p : PtM) : Bool := decide (p.kd = 4 ∨ p.kd = 2 ∧ p.i.c % 8 = 6)
structure AlM where
  left : List PtM
  ended : Bool
  W : List (Int × Int)
def aliveS (s : AlM) (p : PtM) : AlM :=
  if p.kd = 1 ∧ gW p.tQ s.W = 0 then s
  else if s.ended = true ∧ p.kd ≠ 1 then ⟨s.left, s.ended, cntW p (-1) s.W⟩
  else ⟨s.left ++ [p], endsB p, s.W⟩
def usesW (l : List PtM) : List (Int × Int) := l.foldl (fun W p => cntW p 1 W) []
def aliveF (l : List PtM) : List PtM := (l.foldl aliveS ⟨[], false, usesW l⟩).left
/-- Is a name among those with which parts begin? -/
def cnB (n : Int) : List PtM → Bool
  | [] => false
  | p :: t => if p.kd ≠ 1 then false else if p.tQ = n then true else cnB n t
def leavF : List PtM → List PtM
  | [] => []
  | p :: t => if p.kd = 4 ∧ cnB p.tQ t = true then leavF t else p :: leavF t
def ledP (o : List (Int × Int)) (p : PtM) : PtM :=
  if p.kd = 3 then ⟨p.kd, endF o p.tQ, endF o p.el, p.i⟩ else if p.kd = 4 then ⟨p.kd, endF o p.tQ, p.el, p.i⟩ else p
structure LdM where
  l : List PtM
  o : List (Int × Int)
  nx : PtM
def zPt : PtM := ⟨0, 0, 0, ⟨0, 0, 0, 0⟩⟩
def leadS (s : LdM) (k : Nat) : LdM :=
  match s.l[k]? with
  | none => s
  | some p => if p.kd = 1 then (if s.nx.kd = 4 then ⟨s.l, (p.tQ, s.nx.tQ) :: s.o, s.nx⟩ else s) else ⟨s.l.set k (ledP s.o p), s.o, ledP s.o p⟩
def leadF (l : List PtM) : List PtM := ((List.range l.length).reverse.foldl leadS ⟨l, [], zPt⟩).l
def roundF (l : List PtM) : List PtM := leavF (aliveF (leadF l))
def tidyN : Nat → List PtM → List PtM
  | 0, l => l
  | k + 1, l => if (roundF l).length = l.length then roundF l else tidyN k (roundF l)
def tidyF (l : List PtM) : List PtM := tidyN (l.length + 1) l
theorem leadS_len (s : LdM) (k : Nat) : (leadS s k).l.length = s.l.length := by
  unfold leadS
  split
  · rfl
  · split
    · split <;> rfl
    · simp
theorem leadL_len (ks : List Nat) : ∀ s : LdM, (ks.foldl leadS s).l.length = s.l.length := by
  induction ks with
  | nil => intro s; rfl
  | cons k ks ih => intro s; rw [List.foldl_cons, ih, leadS_len]
theorem leadF_len (l : List PtM) : (leadF l).length = l.length := leadL_len _ _
theorem aliveS_len (s : AlM) (p : PtM) : (aliveS s p).left.length ≤ s.left.length + 1 := by
  unfold aliveS
  split
  · omega
  · split <;> simp
theorem alive_len' (l : List PtM) : ∀ s : AlM, (l.foldl aliveS s).left.length ≤ s.left.length + l.length := by
  induction l with
  | nil => intro s; simp
  | cons p l ih => intro s; have := ih (aliveS s p); have := aliveS_len s p; rw [List.foldl_cons, List.length_cons]; omega
theorem aliveF_len (l : List PtM) : (aliveF l).length ≤ l.length := by have := alive_len' l ⟨[], false, usesW l⟩; simpa [aliveF] using this
theorem leavF_len : ∀ l : List PtM, (leavF l).length ≤ l.length
  | [] => Nat.le_refl _
  | p :: t => by unfold leavF; have := leavF_len t; split <;> simp <;> omega
theorem roundF_len (l : List PtM) : (roundF l).length ≤ l.length := Nat.le_trans (leavF_len _) (Nat.le_trans (aliveF_len _) (Nat.le_of_eq (leadF_len l)))
theorem tidyN_more : ∀ (k j : Nat) (l : List PtM), l.length < k → l.length < j → tidyN k l = tidyN j l
  | 0, _, _, h, _ => by omega
  | _ + 1, 0, _, _, h => by omega
  | k + 1, j + 1, l, h1, h2 => by
    unfold tidyN
    by_cases e : (roundF l).length = l.length
    · rw [if_pos e, if_pos e]
    · rw [if_neg e, if_neg e]
      have := roundF_len l
      exact tidyN_more k j _ (by omega) (by omega)
theorem tidyF_end {l : List PtM} (h : (roundF l).length = l.length) : tidyF l = roundF l := by unfold tidyF tidyN; rw [if_pos h]
theorem tidyF_on {l : List PtM} (h : (roundF l).length ≠ l.length) : tidyF l = tidyF (roundF l) := by
  have := roundF_len l
  unfold tidyF
  rw [tidyN, if_neg h]
  exact tidyN_more _ _ _ (by omega) (by omega)
/-! What may be. -/
theorem led_ok {o : List (Int × Int)} (ho : InO o) {p : PtM} (hp : p.ok) : (ledP o p).ok := by
  have h1 := endN_in ho (cnt o) p.tQ ⟨hp.to1, hp.to2⟩
  have h2 := endN_in ho (cnt o) p.el ⟨hp.el1, hp.el2⟩
  unfold ledP
  split
  · exact ⟨hp.kd, h1.1, h1.2, h2.1, h2.2, hp.i⟩
  · split
    · exact ⟨hp.kd, h1.1, h1.2, hp.el1, hp.el2, hp.i⟩
    · exact hp
structure LdOk (s : LdM) : Prop where
  l : ∀ p ∈ s.l, p.ok
  o : InO s.o
  nx : s.nx.ok
theorem leadS_ok {s : LdM} (h : LdOk s) (k : Nat) : LdOk (leadS s k) := by
  unfold leadS
  split
  · exact h
  · rename_i p hp
    have hpo := h.l p (List.mem_of_getElem? hp)
    split
    · split
      · refine ⟨h.l, fun e he => ?_, h.nx⟩
        rcases List.mem_cons.1 he with rfl | he
        · exact ⟨⟨hpo.to1, hpo.to2⟩, ⟨h.nx.to1, h.nx.to2⟩⟩
        · exact h.o e he
      · exact h
    · refine ⟨fun q hq => ?_, h.o, led_ok h.o hpo⟩
      rcases List.mem_or_eq_of_mem_set hq with hq | rfl
      · exact h.l q hq
      · exact led_ok h.o hpo
theorem zPt_ok : zPt.ok := ⟨by decide, by decide, by decide, by decide, by decide, ⟨by decide, by decide, by decide, by decide⟩⟩
theorem leadL_ok (ks : List Nat) : ∀ {s : LdM}, LdOk s → LdOk (ks.foldl leadS s) := by
  induction ks with
  | nil => intro s h; exact h
  | cons k ks ih => intro s h; exact ih (leadS_ok h k)
theorem leadF_ok {l : List PtM} (h : ∀ p ∈ l, p.ok) : ∀ p ∈ leadF l, p.ok := (leadL_ok _ (s := ⟨l, [], zPt⟩) ⟨h, fun e he => by simp at he, zPt_ok⟩).l
theorem alive_sub (l : List PtM) : ∀ (s : AlM), ∀ p ∈ (l.foldl aliveS s).left, p ∈ s.left ∨ p ∈ l := by
  induction l with
  | nil => intro s p h; exact Or.inl h
  | cons q l ih =>
    intro s p h
    rcases ih _ p h with h | h
    · unfold aliveS at h
      split at h
      · exact Or.inl h
      · split at h
        · exact Or.inl h
        · rcases List.mem_append.1 h with h | h
          · exact Or.inl h
          · exact Or.inr (by rw [List.mem_singleton.1 h]; exact List.mem_cons_self)
    · exact Or.inr (List.mem_cons_of_mem _ h)
theorem aliveF_sub {l : List PtM} {p : PtM} (h : p ∈ aliveF l) : p ∈ l := by
  rcases alive_sub l _ p h with h | h
  · simp at h
  · exact h
theorem leavF_sub : ∀ {l : List PtM} {p : PtM}, p ∈ leavF l → p ∈ l
  | [], _, h => h
  | q :: t, p, h => by
    unfold leavF at h
    split at h
    · exact List.mem_cons_of_mem _ (leavF_sub h)
    · rcases List.mem_cons.1 h with rfl | h
      · exact List.mem_cons_self
      · exact List.mem_cons_of_mem _ (leavF_sub h)
theorem roundF_ok {l : List PtM} (h : ∀ p ∈ l, p.ok) : ∀ p ∈ roundF l, p.ok := fun p hp => leadF_ok h p (aliveF_sub (leavF_sub hp))
end Go.Proofs.Ytcageojoafkojaa.Ju
namespace Go.Proofs.Ytcageojoafkojaa.Ju
open Go.RowKit Go.Maps Go.WideMaps Go.WideElems Go.ChangeMaps
set_option maxHeartbeats 8000000 in
set_option maxRecDepth 100000 in
theorem ends_any (q : PtM) (w : World) (hq : q.ok) : Calls Try.prog 74 #[.agg #[.int .u8 q.kd, .int .i64 q.tQ, .int .i64 q.el, .int .u16 q.i.c, .int .u8 q.i.t, .int .u8 q.i.f, .int .u32 q.i.k]] w fun e w' => e = .returned (.bool (endsB q)) ∧ Below w.heap.size w w' := by
  have HCl := Lib.hid (fun W => class_any q.i.c W hq.i.1)
  obtain ⟨W, hW⟩ : ∃ W, W = w.alloc (.cells #[.int .u8 q.kd, .int .i64 q.tQ, .int .i64 q.el, .int .u16 q.i.c, .int .u8 q.i.t, .int .u8 q.i.f, .int .u32 q.i.k] 125) := ⟨_, rfl⟩
  have hbx : Bk W w.heap.size 125 q.cells := by rw [hW]; exact Bk.new w _ _ rfl
  have hb1 : Below w.heap.size w W := by rw [hW]; exact oneb w _
  have HB := Lib.hid hb1
  have HBx := Lib.hid hbx
  go_enter Try.func74, Try.ntmps74
  go_upto_region 1 with fail
  rw [← hW]
  clear hW hb1 hbx
  generalize hxb : w.heap.size = xb at *
  have HXB := Lib.hid hxb
  clear hxb
  have y0 := HBx.out.cell 0 rfl
  have y3 := HBx.out.cell 3 rfl
  have yl := HBx.out.lt
  obtain ⟨z, hz⟩ : ∃ z, z = q.i.c % 8 := ⟨_, rfl⟩
  rw [← hz] at HCl
  by_cases h4 : q.kd = 4
  · have e4 : ((q.kd : Int) == 4) = true := by rw [h4]; rfl
    have HV := Lib.hid (show endsB q = true by unfold endsB; simp [h4])
    clear h4 hz
    go_wp2_with fail
    go_ret
    rw [HV.out]
    exact ⟨rfl, by rw [HXB.out]; exact HB.out⟩
  have e4 : ((q.kd : Int) == 4) = false := by rw [beq_eq_false_iff_ne]; omega
  by_cases h2 : q.kd = 2
  · have e2 : ((q.kd : Int) == 2) = true := by rw [h2]; rfl
    obtain ⟨bb, hbb⟩ : ∃ bb, bb = decide (z = 6) := ⟨_, rfl⟩
    have e6 : ((z : Int) == 6) = bb := by
      rw [hbb, Bool.eq_iff_iff, beq_iff_eq, decide_eq_true_eq]; omega
    have HV := Lib.hid (show endsB q = bb by unfold endsB; rw [hbb, hz]; simp [h2])
    clear h4 h2 hz hbb
    go_wp2_with fail
    refine (HCl.out _).mono ?_
    rintro e w1 ⟨rfl, rfl⟩
    go_wp2_with fail
    go_ret
    rw [HV.out]
    exact ⟨rfl, by rw [HXB.out]; exact HB.out⟩
  have e2 : ((q.kd : Int) == 2) = false := by rw [beq_eq_false_iff_ne]; omega
  have HV := Lib.hid (show endsB q = false by unfold endsB; simp [h4, h2])
  clear h4 h2 hz
  go_wp2_with fail
  go_ret
  rw [HV.out]
  exact ⟨rfl, by rw [HXB.out]; exact HB.out⟩
set_option maxHeartbeats 8000000 in
set_option maxRecDepth 100000 in
theorem comes_any (l : List PtM) (n : Nat) (A : Option Addr) (cap : Nat) (x : Int) (w : World) (hl : l.length = n) (hn : n ≤ 100000) (hr : Rd w 7 n A (l.flatMap PtM.cells)) :
    Calls Try.prog 72 #[.int .i64 x, .slice A n cap] w fun e w' => e = .returned (.bool (cnB x l)) ∧ Below w.heap.size w w' := by
  have HR := Lib.hid hr
  have HL := Lib.hid hl
  obtain ⟨bb, hbb⟩ : ∃ bb, bb = cnB x l := ⟨_, rfl⟩
  have HB := Lib.hid hbb
  rw [← hbb]
  clear hr hl hbb
  go_enter Try.func72, Try.ntmps72
  go_wp2_with fail
  go_loopw [9] (fun iv wr => ∃ i : Nat, iv = .int .i64 i ∧ i ≤ n ∧ Hid (bb = cnB x (l.drop i)) ∧ Hid (Below w.heap.size w wr)) (fun iv _ => n - (intOf iv).toNat)
  case atStart => exact ⟨0, rfl, Nat.zero_le _, HB, Below.refl _ _⟩
  case round =>
    clear HB
    obtain ⟨i, rfl, hi, HB, HW⟩ := hrel
    by_cases hlt : i < n
    · obtain ⟨q, hq⟩ : ∃ q, l[i]? = some q := ⟨_, List.getElem?_eq_getElem (by have := HL.out; omega)⟩
      obtain ⟨b, o, hA, hbl, hcell⟩ := (HR.out.below HW.out).one (fun _ => rfl) (by omega) (by omega)
      obtain ⟨c0, c1, c2, c3, c4, c5, c6⟩ := seven_cells hcell hq
      subst hA
      have hdr : l.drop i = q :: l.drop (i + 1) := by
        obtain ⟨h1, h2⟩ := List.getElem?_eq_some_iff.1 hq
        rw [List.drop_eq_getElem_cons h1, h2]
      have HD := Lib.hid (show cnB x (l.drop i) = if q.kd ≠ 1 then false else if q.tQ = x then true else cnB x (l.drop (i + 1)) by rw [hdr]; rfl)
      have HB2 := Lib.hid (HW.out.trans ((oneb wr (.cells #[.int .u8 q.kd, .int .i64 q.tQ, .int .i64 q.el, .int .u16 q.i.c, .int .u8 q.i.t, .int .u8 q.i.f, .int .u32 q.i.k] 125)).mono HW.out.size))
      clear hcell hq hdr
      by_cases h1 : q.kd = 1
      · have e1 : ((q.kd : Int) != 1) = false := by rw [h1]; rfl
        by_cases h2 : q.tQ = x
        · have e2 : (q.tQ == x) = true := by rw [h2]; simp
          have HV := Lib.hid (show bb = true by rw [HB.out, HD.out, if_neg (fun h => h h1), if_pos h2])
          clear h1 h2
          go_wp2_with fail
          go_ret
          rw [HV.out]
          exact ⟨rfl, HB2.out⟩
        · have e2 : (q.tQ == x) = false := by rw [beq_eq_false_iff_ne]; exact h2
          have HV := Lib.hid (show bb = cnB x (l.drop (i + 1)) by rw [HB.out, HD.out, if_neg (fun h => h h1), if_neg h2])
          clear h1 h2
          go_wp2_with fail
          go_roundw
          case rel => exact ⟨i + 1, by go_num, by omega, HV, HB2⟩
          case measure => simp [intOf]; omega
      · have e1 : ((q.kd : Int) != 1) = true := by rw [bne_iff_ne]; omega
        have HV := Lib.hid (show bb = false by rw [HB.out, HD.out, if_pos h1])
        clear h1
        go_wp2_with fail
        go_ret
        rw [HV.out]
        exact ⟨rfl, HB2.out⟩
    · have HV := Lib.hid (show bb = false by rw [HB.out, List.drop_of_length_le (by have := HL.out; omega)]; rfl)
      go_wp2_with fail
      go_ret
      rw [HV.out]
      exact ⟨rfl, HW.out⟩
set_option maxRecDepth 100000 in
theorem name_of {v : Value} {t : Int} {d : DataW Unit} {ps : List MemPlace} (h : plainElem Try.prog 115 v = some (d, ps)) (hd : d = .lit (.int .i64 t)) : v = .int .i64 t := by
  obtain ⟨a, rfl, hz, _⟩ := plainElem_int_inv Try.underlying115 h
  injection hz with h1 _
  rw [hd] at h1
  injection h1 with h1
  injection h1 with _ h1
  rw [h1]
set_option maxHeartbeats 8000000 in
set_option maxRecDepth 100000 in
theorem end_any (o : List (Int × Int)) (m : Nat) (x : Int) (w : World) (hm : NMap w 115 m o) (ho : InO o) (hx : InR x) (hc : o.length ≤ 100000) :
    Calls Try.prog 71 #[.map (some m), .int .i64 x] w fun e w' => e = .returned (.int .i64 (endF o x)) ∧ w' = w := by
  have HM := Lib.hid hm
  have HO := Lib.hid ho
  obtain ⟨n, hn⟩ : ∃ n, n = cnt o := ⟨_, rfl⟩
  have hn9 : n ≤ 100000 := by rw [hn]; exact Nat.le_trans (cnt_le o) hc
  have hsz : Maps.size (mD o) = n := by rw [size_mD, hn]
  obtain ⟨y, hy⟩ : ∃ y, y = endF o x := ⟨_, rfl⟩
  have HY := Lib.hid (show y = endN (n - 0) o x by rw [hy, hn]; rfl)
  have HX := Lib.hid hx
  rw [← hy]
  clear hm ho hx hc hn hy
  go_enter Try.func71, Try.ntmps71
  go_wp2_with (at_len; refine wpList_len_own _ rfl _ _ rfl 115 115 Try.underlying181 (plainElem Try.prog 115) m _ _ rfl HM.out ?_; rw [hsz])
  clear hsz
  go_loopw [1, 9] (fun xv iv wr => ∃ (i : Nat) (z : Int), iv = .int .i64 i ∧ xv = .int .i64 z ∧ i ≤ n ∧ Hid (y = endN (n - i) o z) ∧ Hid (InR z) ∧ wr = w) (fun _ iv _ => n - (intOf iv).toNat)
  case atStart => exact ⟨0, x, rfl, rfl, Nat.zero_le _, HY, HX, rfl⟩
  case round =>
    clear HY HX
    obtain ⟨i, z, rfl, rfl, hi, HY, HX, rfl⟩ := hrel
    by_cases hlt : i < n
    · obtain ⟨k, hk⟩ : ∃ k, n - i = k + 1 := ⟨n - i - 1, by omega⟩
      have hk2 : n - (i + 1) = k := by omega
      have HK := Lib.hid (And.intro hk hk2)
      clear hk hk2
      cases hl : lk z o with
      | none =>
        have hh : has (mD o) (.int .i64 z) = false := by rw [mD_has, hl]; rfl
        have HV := Lib.hid (show y = z by rw [HY.out, HK.out.1, endN, hl])
        clear hl
        go_wp2_with (at_lookup; go_loud (refine wpList_lookup_ok _ rfl _ _ 181 rfl 115 115 nameKeyed Try.underlying181 (plainElem Try.prog 115) (Try.zeroValue115 _) (zd := .lit (.int .i64 0)) (zp := []) (plainElem_int Try.underlying115 (by decide)) m _ _ rfl HM.out _ (.int .i64 z) rfl (keyOf_int_mk Try.underlying115 (wfI HX.out.1 HX.out.2)) false hh ?_); intro v ps hv; obtain ⟨cc, rfl, _, _⟩ := plainElem_int_inv Try.underlying115 hv; clear hv)
        go_ret
        rw [HV.out]
        exact ⟨rfl, rfl⟩
      | some t =>
        have hh : has (mD o) (.int .i64 z) = true := by rw [mD_has, hl]; rfl
        have hat := mD_at o z (.lit (.int .i64 0))
        rw [hl] at hat
        have HV := Lib.hid (show y = endN (n - (i + 1)) o t by rw [HY.out, HK.out.1, endN, hl, HK.out.2])
        have HT := Lib.hid (HO.out _ (lk_in hl)).2
        clear hl
        go_wp2_with (at_lookup; go_loud (refine wpList_lookup_ok _ rfl _ _ 181 rfl 115 115 nameKeyed Try.underlying181 (plainElem Try.prog 115) (Try.zeroValue115 _) (zd := .lit (.int .i64 0)) (zp := []) (plainElem_int Try.underlying115 (by decide)) m _ _ rfl HM.out _ (.int .i64 z) rfl (keyOf_int_mk Try.underlying115 (wfI HX.out.1 HX.out.2)) true hh ?_); intro v ps hv; obtain rfl := name_of hv hat; clear hv)
        go_roundw
        case rel => exact ⟨i + 1, t, by go_num, rfl, by omega, HV, HT, by trivial⟩
        case measure => simp [intOf]; omega
    · have HV := Lib.hid (show y = z by rw [HY.out, show n - i = 0 from by omega]; rfl)
      go_wp2_with fail
      go_ret
      rw [HV.out]
      exact ⟨rfl, rfl⟩
end Go.Proofs.Ytcageojoafkojaa.Ju
