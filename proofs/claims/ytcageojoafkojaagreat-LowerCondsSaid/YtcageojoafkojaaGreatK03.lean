/- Code that is being made, in memory; asking for names. -/
import Derived.Test.YtcageojoafkojaaGreatK02
namespace Go.Proofs.YtcageojoafkojaaGreat.Ju
open Go.RowKit Go.Maps Go.WideMaps Go.WideElems Go.ChangeMaps
def bhI (e : Int × Nat) : Int × Int := (e.1, (e.2 : Int))
theorem lk_map (n : Int) : ∀ b : List (Int × Nat), lk n (b.map bhI) = Option.map (fun (v : Nat) => (v : Int)) (lk n b)
  | [] => rfl
  | (m, v) :: b => by
    rw [List.map_cons]
    show lk n ((m, (v : Int)) :: b.map bhI) = _
    rw [lk_cons, lk_cons, lk_map n b]
    by_cases h : m = n <;> simp [h]
/-- Code in block p, its names in block m, its instructions (the last first) in blocks from B on. -/
structure CR (w : World) (p m B : Nat) (v : Value) (c : CdM) : Prop where
  box : Bk w p 103 [v, .map (some m)]
  row : w.ownsRow B 110 4 v c.ins.length (c.ins.reverse.flatMap Ins.cells)
  mp : NMap w 3 m (c.bh.map bhI)
  pB : p < B
  mB : m < B
  pm : p ≠ m
  le : B ≤ w.heap.size
theorem own_ge {w : World} {n : Nat} {e : TypeId} {z : Nat} {v : Value} {xs : List Value} {B : Nat} (h : w.ownsRow B e z v n xs) : ∀ g, v.ownBlock = some g → B ≤ g ∧ g < w.heap.size := by
  intro g hg
  obtain ⟨h1, ⟨h2, h3⟩ | ⟨g', cap, cur, h2, h3, h4, h5⟩⟩ := h
  · subst h2; cases hg
  · subst h2; cases hg; exact ⟨h3, (Array.getElem?_eq_some_iff.1 h4).1⟩
theorem own_base {w : World} {B B' : Nat} {e : TypeId} {z n : Nat} {v : Value} {xs : List Value} (h : w.ownsRow B e z v n xs) (hB : B' ≤ B) : w.ownsRow B' e z v n xs := by
  obtain ⟨h1, h2 | ⟨g, cap, cur, e, h3, h4⟩⟩ := h
  · exact ⟨h1, Or.inl h2⟩
  · exact ⟨h1, Or.inr ⟨g, cap, cur, e, Nat.le_trans hB h3, h4⟩⟩
/-- What a step leaves: all blocks but for the code's, the map's, the row's. -/
structure Fr (p m : Nat) (v v' : Value) (w w' : World) : Prop where
  os : w'.os = w.os
  tape : w'.tape = w.tape
  output : w'.output = w.output
  size : w.heap.size ≤ w'.heap.size
  block : ∀ i, i < w.heap.size → i ≠ p → i ≠ m → some i ≠ v.ownBlock → w'.heap[i]? = w.heap[i]?
  own : v'.ownBlock = v.ownBlock ∨ ∀ g, v'.ownBlock = some g → w.heap.size ≤ g
section
variable {w w' w2 : World} {p m B : Nat} {v v' v2 : Value} {c : CdM}
theorem Fr.refl (p m : Nat) (v : Value) (w : World) : Fr p m v v w w := ⟨rfl, rfl, rfl, Nat.le_refl _, fun _ _ _ _ _ => rfl, Or.inl rfl⟩
theorem Fr.trans (h : Fr p m v v' w w') (k : Fr p m v' v2 w' w2) : Fr p m v v2 w w2 :=
  ⟨k.os.trans h.os, k.tape.trans h.tape, k.output.trans h.output, Nat.le_trans h.size k.size, fun i hi h1 h2 h3 => (k.block i (Nat.lt_of_lt_of_le hi h.size) h1 h2 (fun e => by
    rcases h.own with g | g
    · rw [g] at e; exact h3 e
    · have := g i e.symm; omega)).trans (h.block i hi h1 h2 h3), by
    rcases k.own with g | g
    · rw [g]; exact h.own
    · exact Or.inr fun x hx => Nat.le_trans h.size (g x hx)⟩
theorem Fr.of_below (p m : Nat) (v : Value) (h : Below w.heap.size w w') : Fr p m v v w w' := ⟨h.os, h.tape, h.output, h.size, fun i hi _ _ _ => h.block i hi, Or.inl rfl⟩
theorem Fr.below {N : Nat} (h : Fr p m v v' w w') (hw : N ≤ w.heap.size) (hp : N ≤ p) (hm : N ≤ m) (hv : ∀ g, v.ownBlock = some g → N ≤ g) : Below N w w' :=
  ⟨h.os, h.tape, h.output, h.size, fun i hi => h.block i (by omega) (by omega) (by omega) (fun e => by have := hv i e.symm; omega)⟩
theorem Fr.grown {r : Nat} (v : Value) (h : w.grownBy w' (some r)) (hr : r = p ∨ r = m) : Fr p m v v w w' := ⟨h.os, h.tape, h.output, h.size, fun i hi h1 h2 _ => h.block i hi (fun e => by injection e with e; omega), Or.inl rfl⟩
theorem Bk.fr {g t : Nat} {l : List Value} (h : Bk w g t l) (hF : Fr p m v v' w w') (h1 : g ≠ p) (h2 : g ≠ m) (h3 : some g ≠ v.ownBlock) : Bk w' g t l := (hF.block g h.lt h1 h2 h3).trans h
theorem CR.below (h : CR w p m B v c) (hb : Below w.heap.size w w') : CR w' p m B v c :=
  ⟨h.box.kept hb, own_keepN h.row hb, h.mp.below hb, h.pB, h.mB, h.pm, Nat.le_trans h.le hb.size⟩
theorem CR.drew (h : CR w p m B v c) : CR w.drew p m B v c := h.below (Below.refl _ _).drew
theorem CR.drewN (h : CR w p m B v c) (n : Nat) : CR (w.drewN n) p m B v c := h.below (below_drewN (Below.refl _ _) n)
theorem CR.cells (h : CR w p m B v c) : w.cell? ⟨p, 0, none⟩ = some v ∧ w.cell? ⟨p, 1, none⟩ = some (.map (some m)) ∧ p < w.heap.size ∧ w.frozen? ⟨p, 0, none⟩ = false :=
  ⟨h.box.cell 0 rfl, h.box.cell 1 rfl, h.box.lt, h.box.fz 0⟩
theorem CR.slice (h : CR w p m B v c) : ∃ A cp, v = .slice A c.ins.length cp := by obtain ⟨A, cp, e, _⟩ := own_typed h.row; exact ⟨A, cp, e⟩
end
set_option maxRecDepth 100000 in
/-- 'v, ok := m[k]' at the operation. -/
theorem wpList_lookup_ok {H : Type} {P : Program} (w : World) {ops : Array Oper} {rest : List Oper} {o : Oper} {a : Act} {Q : Exit → Act → World → Prop}
    (hg : o.guard = none) (m x : Operand) (t : TypeId) (hop : o.op = Op.lookup t m x true)
    (k e : TypeId) (K : Keyed P k) (ht : P.underlying t = some (.map k e)) (R : Value → Option (DataW H × List MemPlace)) {z : Value} (hz : (zeroValue e).run P w = .ok z w) {zd : DataW H} {zp : List MemPlace} (hzd : R z = some (zd, zp)) (b n : Nat) (D : DataW H)
    (hm : a.eval m = .map (some b)) (hown : w.ownsMap P k R b n D) (key : Value) (kl : Lit) (hx : a.eval x = key) (hkey : keyOf P k key = some kl) (bb : Bool) (hb : has D kl = bb)
    (hK : ∀ v ps, R v = some (D.atKey kl zd, ps) → wpList P ops Q rest (a.put o.dst (.tuple #[v, .bool bb])) w) :
    wpList P ops Q (o :: rest) a w := by
  refine wpList_plain hg fun K' hK' => ?_
  obtain ⟨v, ps, hrun, hat⟩ := hown.look_ok K ht hz hzd hkey
  rw [hb] at hrun
  unfold Oper.wp
  simp [execOp, hop, hm, hx, hrun, Result.andThen]
  exact hK' _ _ (hK v ps hat)
set_option maxRecDepth 100000 in
/-- What a name's number is, as it stands in a map. -/
theorem NMap.look {w : World} {e : TypeId} {t : TypeId} {m : Nat} {o : List (Int × Int)} (he : Tryz.prog.underlying e = some (.int .i64)) (ht : Tryz.prog.underlying t = some (.map 108 e)) (hz : (zeroValue e).run Tryz.prog w = .ok (.int .i64 0) w) (h : NMap w e m o) {n : Int} (h1 : -9223372036854775808 ≤ n) (h2 : n ≤ 9223372036854775807) :
    (Instr.lookup t (.map (some m)) (.int .i64 n) false).run Tryz.prog w = .ok (.int .i64 ((lk n o).getD 0)) w := by
  obtain ⟨c, hrun, hat, _⟩ := World.ownsMap.lookup_int h nameKeyed ht he hz (keyOf_int_mk Tryz.underlying108 (wfI h1 h2))
  rw [mD_at] at hat
  rw [hrun]
  cases hl : lk n o with
  | none => rw [hl] at hat; injection hat with hat; injection hat with _ hat; subst hat; rfl
  | some v => rw [hl] at hat; injection hat with hat; injection hat with _ hat; subst hat; rfl
set_option maxHeartbeats 4000000 in
set_option maxRecDepth 100000 in
theorem there_any (w : World) (p m B : Nat) (v : Value) (c : CdM) (n : Int) (h : CR w p m B v c) (h1 : -9223372036854775808 ≤ n) (h2 : n ≤ 9223372036854775807) :
    Calls Tryz.prog 75 #[.pointer (some ⟨p, 0, none⟩), .int .i64 n] w fun e w' => e = .returned (.bool (lk n c.bh).isSome) ∧ w' = w := by
  obtain ⟨k0, k1, kl, _⟩ := h.cells
  obtain ⟨bb, hbb⟩ : ∃ bb, bb = (lk n c.bh).isSome := ⟨_, rfl⟩
  have hh : has (mD (c.bh.map bhI)) (.int .i64 n) = bb := by rw [mD_has, lk_map, Option.isSome_map, hbb]
  rw [← hbb]
  have HM := Lib.hid h.mp
  clear h hbb k0
  go_enter Tryz.func75, Tryz.ntmps75
  go_wp2_with (at_lookup; go_loud (refine wpList_lookup_ok _ rfl _ _ 101 rfl 108 3 nameKeyed Tryz.underlying101 (plainElem Tryz.prog 3) (Tryz.zeroValue3 _) (zd := .lit (.int .i64 0)) (zp := []) (plainElem_int Tryz.underlying3 (by decide)) m _ _ rfl HM.out _ (.int .i64 n) rfl (keyOf_int_mk Tryz.underlying108 (wfI h1 h2)) bb hh ?_); intro v ps hv; clear hv)
  go_ret
  exact ⟨rfl, rfl⟩
set_option maxHeartbeats 4000000 in
set_option maxRecDepth 100000 in
theorem far_any (w : World) (p m B : Nat) (v : Value) (c : CdM) (n : Int) (b : Nat) (h : CR w p m B v c) (h1 : -9223372036854775808 ≤ n) (h2 : n ≤ 9223372036854775807) (hb : lk n c.bh = some b) (hbl : b ≤ c.ins.length) (hl : c.ins.length ≤ 5000) :
    Calls Tryz.prog 95 #[.pointer (some ⟨p, 0, none⟩), .int .i64 n] w fun e w' => e = .returned (.int .i64 ((c.ins.length - b : Nat) : Int)) ∧ ∃ q, w' = w.drewN q := by
  obtain ⟨A, cp, rfl⟩ := h.slice
  have k0 : ∀ q, (w.drewN q).cell? ⟨p, 0, none⟩ = some (.slice A c.ins.length cp) := fun q => (h.drewN q).cells.1
  have k1 : ∀ q, (w.drewN q).cell? ⟨p, 1, none⟩ = some (.map (some m)) := fun q => (h.drewN q).cells.2.1
  have kl : p < w.heap.size := h.cells.2.2.1
  have hlk : ∀ q, (Instr.lookup 101 (.map (some m)) (.int .i64 n) false).run Tryz.prog (w.drewN q) = .ok (.int .i64 (b : Int)) (w.drewN q) := fun q => by
    have := NMap.look Tryz.underlying3 Tryz.underlying101 (Tryz.zeroValue3 _) (h.drewN q).mp h1 h2
    rw [lk_map, hb] at this
    exact this
  obtain ⟨z, hz⟩ : ∃ z, z = c.ins.length := ⟨_, rfl⟩
  rw [← hz] at k0 hbl hl ⊢
  have e1 : IntKind.i64.wrap ((z : Int) - (b : Int)) = ((z - b : Nat) : Int) := by rw [IntKind.wrap_i64]; omega
  clear h hb hz
  go_enter Tryz.func95, Tryz.ntmps95
  go_upto_region 1 with fail
  go_quiet (fail)
  go_wp2_with fail
  go_ret
  exact ⟨rfl, _, rfl⟩
end Go.Proofs.YtcageojoafkojaaGreat.Ju
namespace Go.Proofs.YtcageojoafkojaaGreat.Ju
open Go.RowKit Go.Maps Go.WideMaps Go.WideElems Go.ChangeMaps
theorem one_alloc (w : World) (o : Obj) : Below w.heap.size w (w.alloc o) := (Below.refl w.heap.size w).alloc (Nat.le_refl _) o
def ClP (l : List PtM) (w : World) (e : Ending) (w' : World) : Prop :=
  ∃ A cp, e = .returned (.slice A l.length cp) ∧ w'.ownsRow w.heap.size 112 7 (.slice A l.length cp) l.length (l.flatMap PtM.cells) ∧ Below w.heap.size w w'
set_option maxRecDepth 100000 in
set_option maxHeartbeats 1000000 in
theorem clone_any (l : List PtM) (n : Nat) (A : Option Addr) (cp : Nat) (w : World) (hl : l.length = n) (hr : Rd w 7 n A (l.flatMap PtM.cells)) (hn : n ≤ 65536) (hA : A = none → n = 0) :
    Calls Tryz.prog 59 #[.slice A n cp] w (ClP l w) := by
  cases A with
  | none =>
    have h0 := hA rfl
    have hnil := fun (w : World) (n c : Nat) => Lib.run_eql_slice_nil (P := Tryz.prog) w 47 112 none n c 0 0 Tryz.underlying47
    obtain rfl : l = [] := List.length_eq_zero_iff.1 (by omega)
    clear hr hl hA hn
    go_enter Tryz.func59, Tryz.ntmps59
    go_wp2_with fail
    go_ret
    exact ⟨none, 0, rfl, World.ownsRow_nil _ _ _ _, Below.refl _ _⟩
  | some a =>
    obtain ⟨i0, hi, hz0, hz1, hz2⟩ := info_parts infoPart
    have Hl := Lib.hid hl
    have hlen := flatz_len PtM.cells 7 (fun _ => rfl) l
    rw [hl] at hlen
    have Hlen := Lib.hid hlen
    have Hcell := Lib.hid (show ∀ j u, (l.flatMap PtM.cells)[j]? = some u → w.cell? (a.add j) = some u from fun j u hu => by
      rcases Nat.eq_zero_or_pos n with h0 | h0
      · have := (List.getElem?_eq_some_iff.1 hu).1
        rw [hlen, h0] at this; omega
      · obtain ⟨b, o, he, _, hc⟩ := hr.pos h0
        cases he
        rw [show (⟨b, o, none⟩ : Addr).add j = ⟨b, o + j, none⟩ by unfold Addr.add; split <;> simp_all]
        exact hc j u hu)
    have Hblk := Lib.hid (show 0 < n → a.block < w.heap.size from fun h0 => by
      obtain ⟨b, o, he, h1, hc⟩ := hr.pos h0
      cases he
      exact h1)
    clear hl hr hA
    have hnil := fun (w : World) (a : Addr) (n c : Nat) => Lib.run_eql_slice_nil (P := Tryz.prog) w 47 112 (some a) n c 0 0 Tryz.underlying47
    go_enter Tryz.func59, Tryz.ntmps59
    have Hown := Lib.hid (World.ownsRow_lit (base := w.heap.size) (e := 112) (size := 7) w #[] 0 (Nat.le_refl _) (by unfold maxLen; omega) rfl)
    have Hc2 := Lib.hid (show ∀ j u, (l.flatMap PtM.cells)[j]? = some u → (w.alloc (.cells #[] 112)).cell? (a.add j) = some u from fun j u hu => by
      have h1 := Hcell.out j u hu
      have h2 := Hblk.out (by
        rcases Nat.eq_zero_or_pos n with h0 | h0
        · have := (List.getElem?_eq_some_iff.1 hu).1
          rw [Hlen.out, h0] at this; omega
        · exact h0)
      rw [← h1]
      exact (one_alloc w _).cell (p := a.add j) (by unfold Addr.add; split <;> exact h2))
    have HB1 := Lib.hid (one_alloc w (.cells #[] 112))
    clear hlen
    go_wp2_with (at_builtin; refine wpList_append_own _ rfl (.tmp 5) (.tmp 6) 47 rfl w.heap.size 112 i0 _ 7 32 Tryz.underlying47 hi hz0 hz1 hz2 rfl (by decide) _ 0 [] rfl Hown.out a n cp (l.flatMap PtM.cells) rfl Hlen.out Hc2.out (fun u hu => by obtain ⟨x, _, hx⟩ := List.mem_flatMap.1 hu; exact pt_one x u hx) (by unfold maxLen; omega) (by omega) HB1.out.size ?_; intro v' w4 hown' hgrow _; obtain ⟨A', c', rfl, hnc', -, -, -⟩ := own_typed hown'; have Hw := Lib.hid hown'; clear hown')
    go_ret
    rw [Nat.zero_add] at *
    have hw := Hw.out
    simp only [List.nil_append] at hw
    exact ⟨A', c', (by rw [Hl.out]; rfl), (by rw [Hl.out]; exact hw), HB1.out.grown hgrow HB1.out.size (fun k hk => by cases hk; exact Nat.le_refl _)⟩
/-! Lists alone. -/
def InR (n : Int) : Prop := -9223372036854775808 ≤ n ∧ n ≤ 9223372036854775807
def InO (o : List (Int × Int)) : Prop := ∀ e ∈ o, InR e.1 ∧ InR e.2
/-- How many go to a name. -/
def gW (n : Int) (W : List (Int × Int)) : Int := (lk n W).getD 0
def cntW (p : PtM) (k : Int) (W : List (Int × Int)) : List (Int × Int) :=
  if p.kd = 3 then (p.el, gW p.el ((p.tQ, gW p.tQ W + k) :: W) + k) :: (p.tQ, gW p.tQ W + k) :: W
  else if p.kd = 4 then (p.tQ, gW p.tQ W + k) :: W else W
def endsB (p : PtM) : Bool := decide (p.kd = 4 ∨ p.kd = 2 ∧ p.i.c % 8 = 6)
structure AlM where
  left : List PtM
  ended : Bool
  W : List (Int × Int)
def usesW (l : List PtM) : List (Int × Int) := l.foldl (fun W p => cntW p 1 W) []
/-- Is a name among those with which parts begin? -/
def cnB (n : Int) : List PtM → Bool
  | [] => false
  | p :: t => if p.kd ≠ 1 then false else if p.tQ = n then true else cnB n t
structure LdM where
  l : List PtM
  o : List (Int × Int)
  nx : PtM
/-! What may be. -/
structure LdOk (s : LdM) : Prop where
  l : ∀ p ∈ s.l, p.ok
  o : InO s.o
  nx : s.nx.ok
end Go.Proofs.YtcageojoafkojaaGreat.Ju
namespace Go.Proofs.YtcageojoafkojaaGreat.Ju
open Go.RowKit Go.Maps Go.WideMaps Go.WideElems Go.ChangeMaps
end Go.Proofs.YtcageojoafkojaaGreat.Ju
namespace Go.Proofs.YtcageojoafkojaaGreat.Ju
open Go.RowKit Go.Maps Go.WideMaps Go.WideElems Go.ChangeMaps
theorem or_set {w : World} {B : Nat} {e : TypeId} {z n g cap j : Nat} {xs : List Value} (h : w.ownsRow B e z (.slice (some ⟨g, 0, none⟩) n cap) n xs) (u : Value) : (w.setCell ⟨g, j, none⟩ u).ownsRow B e z (.slice (some ⟨g, 0, none⟩) n cap) n (xs.set j u) := by
  obtain ⟨h1, ⟨h2, h3⟩ | ⟨g', cap', cur, h2, h3, h4, h5, h6, h7, h8⟩⟩ := h
  · cases h2
  · cases h2
    refine ⟨by rw [List.length_set]; exact h1, Or.inr ⟨g, cap, cur.setIfInBounds j u, rfl, h3, ?_, h5, h6, by rw [Array.size_setIfInBounds]; exact h7, ?_⟩⟩
    · simp [World.setCell, Array.getElem?_modify, h4]
    · rw [Array.toList_setIfInBounds, List.take_set, h8]
theorem or_cell {w : World} {B : Nat} {e : TypeId} {z n g cap : Nat} {xs : List Value} (h : w.ownsRow B e z (.slice (some ⟨g, 0, none⟩) n cap) n xs) {j : Nat} {u : Value} (hu : xs[j]? = some u) : w.cell? ⟨g, j, none⟩ = some u ∧ w.frozen? ⟨g, j, none⟩ = false ∧ g < w.heap.size := by
  obtain ⟨h1, ⟨h2, h3⟩ | ⟨g', cap', cur, h2, h3, h4, h5, h6, h7, h8⟩⟩ := h
  · cases h2
  · cases h2
    refine ⟨?_, by simp [World.frozen?, h4], (Array.getElem?_eq_some_iff.1 h4).1⟩
    have hj : j < n * z := by rw [← h1]; exact (List.getElem?_eq_some_iff.1 hu).1
    rw [← h8, List.getElem?_take_of_lt hj] at hu
    simp [World.cell?, h4]
    rw [← Array.getElem?_toList]; exact hu
theorem set_four (l : List Ins) : ∀ (k : Nat) (x : Ins), k < l.length → ((((l.flatMap Ins.cells).set (k * 4) (.int .u16 x.c)).set (k * 4 + 1) (.int .u8 x.t)).set (k * 4 + 2) (.int .u8 x.f)).set (k * 4 + 3) (.int .u32 x.k) = (l.set k x).flatMap Ins.cells := by
  induction l with
  | nil => intro k x h; simp at h
  | cons y t ih =>
    intro k x h
    cases k with
    | zero => rfl
    | succ k =>
      have := ih k x (by simpa using h)
      rw [List.set_cons_succ, List.flatMap_cons, List.flatMap_cons, ← this]
      have e : ∀ j v (xs : List Value), (Ins.cells y ++ xs).set (j + 4) v = Ins.cells y ++ xs.set j v := fun j v xs => by
        rw [List.set_append_right _ _ (by simp [Ins.cells])]; simp [Ins.cells]
      rw [show (k + 1) * 4 = k * 4 + 4 from by omega, e, show k * 4 + 4 + 1 = k * 4 + 1 + 4 from by omega, e, show k * 4 + 4 + 2 = k * 4 + 2 + 4 from by omega, e, show k * 4 + 4 + 3 = k * 4 + 3 + 4 from by omega, e]
/-- So far turned round from both ends. -/
def Half (l cur : List Ins) (i : Nat) : Prop := cur.length = l.length ∧ ∀ k, k < l.length → cur[k]? = if k < i ∨ l.length ≤ k + i then l[l.length - 1 - k]? else l[k]?
theorem half_0 (l : List Ins) : Half l l 0 := ⟨rfl, fun k hk => by rw [if_neg (by omega)]⟩
theorem half_step {l cur : List Ins} {i j : Nat} {x y : Ins} (h : Half l cur i) (hij : i < j) (hj : j + i + 1 = l.length) (hx : cur[i]? = some x) (hy : cur[j]? = some y) : Half l ((cur.set i y).set j x) (i + 1) := by
  refine ⟨by simp [h.1], fun k hk => ?_⟩
  have hxl : l[i]? = some x := by rw [← hx, h.2 i (by omega), if_neg (by omega)]
  have hyl : l[j]? = some y := by rw [← hy, h.2 j (by omega), if_neg (by omega)]
  by_cases h1 : k = j
  · subst h1
    rw [List.getElem?_set_self (by simp [h.1]; omega), if_pos (by omega), show l.length - 1 - k = i from by omega, hxl]
  · rw [List.getElem?_set_ne (fun e => h1 e.symm)]
    by_cases h2 : k = i
    · subst h2
      rw [List.getElem?_set_self (by rw [h.1]; omega), if_pos (by omega), show l.length - 1 - k = j from by omega, hyl]
    · rw [List.getElem?_set_ne (fun e => h2 e.symm), h.2 k hk]
      by_cases h3 : k < i ∨ l.length ≤ k + i
      · rw [if_pos h3, if_pos (by omega)]
      · rw [if_neg h3, if_neg (by omega)]
theorem half_end {l cur : List Ins} {i : Nat} (h : Half l cur i) (hi : l.length ≤ 2 * i + 1) : cur = l.reverse := by
  apply List.ext_getElem?
  intro k
  by_cases hk : k < l.length
  · rw [h.2 k hk, List.getElem?_reverse hk]
    by_cases h3 : k < i ∨ l.length ≤ k + i
    · rw [if_pos h3]
    · rw [if_neg h3]
      congr 1; omega
  · rw [List.getElem?_eq_none (by rw [h.1]; omega), List.getElem?_eq_none (by simp; omega)]
/-- Four cells of a row. -/
def W4 (w : World) (g k : Nat) (x : Ins) : World := (((w.setCell ⟨g, k * 4, none⟩ (.int .u16 x.c)).setCell ⟨g, k * 4 + 1, none⟩ (.int .u8 x.t)).setCell ⟨g, k * 4 + 2, none⟩ (.int .u8 x.f)).setCell ⟨g, k * 4 + 3, none⟩ (.int .u32 x.k)
theorem put_four {w : World} {B g n cap k : Nat} {e : TypeId} {cur : List Ins} (x : Ins) (h : w.ownsRow B e 4 (.slice (some ⟨g, 0, none⟩) n cap) n (cur.flatMap Ins.cells)) (hk : k < cur.length) :
    (W4 w g k x).ownsRow B e 4 (.slice (some ⟨g, 0, none⟩) n cap) n ((cur.set k x).flatMap Ins.cells) ∧ w.grownBy (W4 w g k x) (some g) := by
  constructor
  · rw [← set_four cur k x hk]
    exact or_set (or_set (or_set (or_set h _) _) _) _
  · exact only_trans (only_set w g _ _) (only_trans (only_set _ g _ _) (only_trans (only_set _ g _ _) (only_set _ g _ _)))
theorem drew_two {w W : World} {B z n : Nat} {e : TypeId} {v : Value} {xs : List Value} {r : Option Nat} (h : W.ownsRow B e z v n xs) (s : w.grownBy W r) : W.drew.ownsRow B e z v n xs ∧ w.grownBy W.drew r :=
  ⟨own_keepN h (Below.refl _ _).drew, s.os, s.tape, s.output, s.size, s.block⟩
theorem swap_row {w : World} {B g n cap i j : Nat} {e : TypeId} {cur : List Ins} {x y : Ins} (h : w.ownsRow B e 4 (.slice (some ⟨g, 0, none⟩) n cap) n (cur.flatMap Ins.cells)) (hi : i < cur.length) (hj : j < cur.length) :
    (W4 (W4 w g i y) g j x).drew.ownsRow B e 4 (.slice (some ⟨g, 0, none⟩) n cap) n (((cur.set i y).set j x).flatMap Ins.cells) ∧ w.grownBy (W4 (W4 w g i y) g j x).drew (some g) := by
  obtain ⟨h1, g1⟩ := put_four y h hi
  obtain ⟨h2, g2⟩ := put_four (k := j) x h1 (by simpa using hj)
  exact drew_two h2 (only_trans g1 g2)
set_option maxHeartbeats 8000000 in
set_option maxRecDepth 100000 in
theorem reverse_any (l : List Ins) (n B : Nat) (A : Option Addr) (cap : Nat) (w : World) (hl : l.length = n) (hn : n ≤ 5000) (hr : w.ownsRow B 110 4 (.slice A n cap) n (l.flatMap Ins.cells)) :
    Calls Tryz.prog 28 #[.slice A n cap] w fun e w' => e = .returned (.tuple #[]) ∧ w'.ownsRow B 110 4 (.slice A n cap) n (l.reverse.flatMap Ins.cells) ∧ w.grownBy w' (Value.slice A n cap).ownBlock := by
  have HR := Lib.hid hr
  have HL := Lib.hid hl
  clear hr hl
  go_enter Tryz.func28, Tryz.ntmps28
  have e0 : IntKind.i64.wrap ((n : Int) - 1) = (n : Int) - 1 := by rw [IntKind.wrap_i64]; omega
  go_wp2_with fail
  clear e0
  go_loopw [2, 3] (fun iv jv wr => ∃ (i : Nat) (z : Int) (cur : List Ins), iv = .int .i64 i ∧ jv = .int .i64 z ∧ z + i + 1 = n ∧ 2 * i ≤ n ∧ Hid (Half l cur i) ∧ Hid (wr.ownsRow B 110 4 (.slice A n cap) n (cur.flatMap Ins.cells)) ∧ Hid (w.grownBy wr (Value.slice A n cap).ownBlock)) (fun iv _ _ => n - (intOf iv).toNat)
  case atStart => exact ⟨0, _, l, rfl, rfl, by omega, by omega, Lib.hid (half_0 l), HR, Lib.hid (World.grownBy.refl _ _)⟩
  case round =>
    obtain ⟨i, z, cur, rfl, rfl, hz, hi, HH, HO, HG⟩ := hrel
    by_cases hlt : (i : Int) < z
    · obtain ⟨j, rfl⟩ : ∃ j : Nat, z = (j : Int) := ⟨z.toNat, by omega⟩
      have hij : i < j := by omega
      have hj : j + i + 1 = n := by omega
      obtain ⟨x, hx⟩ : ∃ x, cur[i]? = some x := ⟨_, List.getElem?_eq_getElem (by have := HH.out.1; have := HL.out; omega)⟩
      obtain ⟨y, hy⟩ : ∃ y, cur[j]? = some y := ⟨_, List.getElem?_eq_getElem (by have := HH.out.1; have := HL.out; omega)⟩
      obtain ⟨g, rfl⟩ : ∃ g, A = some ⟨g, 0, none⟩ := by
        obtain ⟨_, ⟨h2, h3⟩ | ⟨g', cap', cur', h2, _⟩⟩ := HO.out
        · omega
        · injection h2 with h2; exact ⟨g', h2⟩
      have HX := Lib.hid (And.intro hx hy)
      have ci : ∀ t u, t < 4 → x.cells[t]? = some u → wr.cell? ⟨g, i * 4 + t, none⟩ = some u ∧ wr.frozen? ⟨g, i * 4 + t, none⟩ = false ∧ g < wr.heap.size := fun t u ht hu => or_cell HO.out (by rw [cells_at _ _ _ ht, HX.out.1]; exact hu)
      have cj : ∀ t u, t < 4 → y.cells[t]? = some u → wr.cell? ⟨g, j * 4 + t, none⟩ = some u ∧ wr.frozen? ⟨g, j * 4 + t, none⟩ = false ∧ g < wr.heap.size := fun t u ht hu => or_cell HO.out (by rw [cells_at _ _ _ ht, HX.out.2]; exact hu)
      obtain ⟨a0, b0, gl⟩ := ci 0 _ (by omega) rfl
      obtain ⟨a1, b1, _⟩ := ci 1 _ (by omega) rfl
      obtain ⟨a2, b2, _⟩ := ci 2 _ (by omega) rfl
      obtain ⟨a3, b3, _⟩ := ci 3 _ (by omega) rfl
      obtain ⟨c0, d0, _⟩ := cj 0 _ (by omega) rfl
      obtain ⟨c1, d1, _⟩ := cj 1 _ (by omega) rfl
      obtain ⟨c2, d2, _⟩ := cj 2 _ (by omega) rfl
      obtain ⟨c3, d3, _⟩ := cj 3 _ (by omega) rfl
      rw [Nat.add_zero] at a0 b0 c0 d0
      have i0 : (0 : Int) ≤ (i : Int) := by omega
      have i1 : (i : Int) < (n : Int) := by omega
      have j0 : (0 : Int) ≤ (j : Int) := by omega
      have j1 : (j : Int) < (n : Int) := by omega
      have e1 : IntKind.i64.wrap ((i : Int) + 1) = ((i + 1 : Nat) : Int) := by rw [IntKind.wrap_i64]; omega
      have e2 : IntKind.i64.wrap ((j : Int) - 1) = (j : Int) - 1 := by rw [IntKind.wrap_i64]; omega
      have HW := Lib.hid (swap_row (x := x) (y := y) HO.out (List.getElem?_eq_some_iff.1 hx).1 (List.getElem?_eq_some_iff.1 hy).1)
      have HH2 := Lib.hid (half_step HH.out hij (by have := HL.out; omega) hx hy)
      clear ci cj hx hy
      go_upto_region 3 with fail
      refine wp_region_any (by kernel_rfl) ?_
      try (change wpAny _ _ _ _ _ _ _ (World.drew _))
      refine wpAny_take (i := 0) (v := ?_) rfl (by kernel_rfl) (by kernel_rfl) (by kernel_rfl) (fun _ _ _ h => h) (Or.inl ⟨by rfl, ?_⟩) ?_
      rotate_left 1
      · intro w
        (go_simp) <;> (with_reducible rfl)
      refine wpAny_take (i := 1) (v := ?_) rfl (by kernel_rfl) (by kernel_rfl) (by kernel_rfl) (fun _ _ _ h => h) (Or.inl ⟨by rfl, ?_⟩) ?_
      rotate_left 1
      · intro w
        (go_simp) <;> (with_reducible rfl)
      refine wpAny_take (i := 2) (v := ?_) rfl (by kernel_rfl) (by kernel_rfl) (by kernel_rfl) (fun _ _ _ h => h) (Or.inl ⟨by rfl, ?_⟩) ?_
      rotate_left 1
      · intro w
        (go_simp) <;> (with_reducible rfl)
      refine wpAny_take (i := 3) (v := ?_) rfl (by kernel_rfl) (by kernel_rfl) (by kernel_rfl) (fun _ _ _ h => h) (Or.inl ⟨by rfl, ?_⟩) ?_
      rotate_left 1
      · intro w
        (go_simp) <;> (with_reducible rfl)
      refine wpAny_take (i := 4) (v := ?_) rfl (by kernel_rfl) (by kernel_rfl) (by kernel_rfl) (fun _ _ _ h => h) (Or.inl ⟨by rfl, ?_⟩) ?_
      rotate_left 1
      · intro w
        (go_simp) <;> (with_reducible rfl)
      refine wpAny_take (i := 5) (v := ?_) rfl (by kernel_rfl) (by kernel_rfl) (by kernel_rfl) (fun _ _ _ h => h) (Or.inl ⟨by rfl, ?_⟩) ?_
      rotate_left 1
      · intro w
        (go_simp) <;> (with_reducible rfl)
      refine wpAny_take (i := 6) (v := ?_) rfl (by kernel_rfl) (by kernel_rfl) (by kernel_rfl) (fun _ _ _ h => h) (Or.inl ⟨by rfl, ?_⟩) ?_
      rotate_left 1
      · intro w
        (go_simp) <;> (with_reducible rfl)
      refine wpAny_take (i := 8) (v := ?_) rfl (by kernel_rfl) (by kernel_rfl) (by kernel_rfl) (fun _ _ _ h => h) (Or.inl ⟨by rfl, ?_⟩) ?_
      rotate_left 1
      · intro w
        (go_simp) <;> (with_reducible rfl)
      refine wpAny_take (i := 9) (v := ?_) rfl (by kernel_rfl) (by kernel_rfl) (by kernel_rfl) (fun _ _ _ h => h) (Or.inl ⟨by rfl, ?_⟩) ?_
      rotate_left 1
      · intro w
        (go_simp) <;> (with_reducible rfl)
      refine wpAny_take (i := 10) (v := ?_) rfl (by kernel_rfl) (by kernel_rfl) (by kernel_rfl) (fun _ _ _ h => h) (Or.inl ⟨by rfl, ?_⟩) ?_
      rotate_left 1
      · intro w
        (go_simp) <;> (with_reducible rfl)
      refine wpAny_ready (rs := [7, 11]) (by kernel_rfl) (by simp) ?_
      refine AllReady.cons rfl (fun K hK => ?_) ?_
      · skip
        go_simp
        refine hK _ _ ?_
        clear hK K
        refine wpAny_ready (rs := [11]) (by kernel_rfl) (by simp) ?_
        refine AllReady.cons rfl (fun K hK => ?_) ?_
        · skip
          go_simp
          refine hK _ _ ?_
          clear hK K
          refine wpAny_take (i := 12) (v := ?_) rfl (by kernel_rfl) (by kernel_rfl) (by kernel_rfl) (fun _ _ _ h => h) (Or.inl ⟨by rfl, ?_⟩) ?_
          rotate_left 1
          · intro w
            (go_simp) <;> (with_reducible rfl)
          refine wpAny_ready (rs := [13]) (by kernel_rfl) (by simp) ?_
          refine AllReady.cons rfl (fun K hK => ?_) ?_
          · skip
            go_simp
            refine hK _ _ ?_
            clear hK K
            refine wpAny_take (i := 14) (v := ?_) rfl (by kernel_rfl) (by kernel_rfl) (by kernel_rfl) (fun _ _ _ h => h) (Or.inl ⟨by rfl, ?_⟩) ?_
            rotate_left 1
            · intro w
              (go_simp) <;> (with_reducible rfl)
            refine wpAny_ready (rs := [15]) (by kernel_rfl) (by simp) ?_
            refine AllReady.cons rfl (fun K hK => ?_) ?_
            · skip
              go_simp
              refine hK _ _ ?_
              clear hK K
              refine wpAny_done (by kernel_rfl) ?_ _
              go_wp2_with fail
              go_roundw
              case rel => exact ⟨i + 1, (j : Int) - 1, _, by go_num, rfl, by omega, by omega, HH2, Lib.hid HW.out.1, Lib.hid (only_trans HG.out HW.out.2)⟩
              case measure => simp [intOf]; omega
            exact AllReady.nil
          exact AllReady.nil
        exact AllReady.nil
      refine AllReady.cons rfl (fun K hK => ?_) ?_
      · skip
        go_simp
        refine hK _ _ ?_
        clear hK K
        refine wpAny_ready (rs := [7]) (by kernel_rfl) (by simp) ?_
        refine AllReady.cons rfl (fun K hK => ?_) ?_
        · skip
          go_simp
          refine hK _ _ ?_
          clear hK K
          refine wpAny_take (i := 12) (v := ?_) rfl (by kernel_rfl) (by kernel_rfl) (by kernel_rfl) (fun _ _ _ h => h) (Or.inl ⟨by rfl, ?_⟩) ?_
          rotate_left 1
          · intro w
            (go_simp) <;> (with_reducible rfl)
          refine wpAny_ready (rs := [13]) (by kernel_rfl) (by simp) ?_
          refine AllReady.cons rfl (fun K hK => ?_) ?_
          · skip
            go_simp
            refine hK _ _ ?_
            clear hK K
            refine wpAny_take (i := 14) (v := ?_) rfl (by kernel_rfl) (by kernel_rfl) (by kernel_rfl) (fun _ _ _ h => h) (Or.inl ⟨by rfl, ?_⟩) ?_
            rotate_left 1
            · intro w
              (go_simp) <;> (with_reducible rfl)
            refine wpAny_ready (rs := [15]) (by kernel_rfl) (by simp) ?_
            refine AllReady.cons rfl (fun K hK => ?_) ?_
            · skip
              go_simp
              refine hK _ _ ?_
              clear hK K
              refine wpAny_done (by kernel_rfl) ?_ _
              go_wp2_with fail
              go_roundw
              case rel => exact ⟨i + 1, (j : Int) - 1, _, by go_num, rfl, by omega, by omega, HH2, Lib.hid HW.out.1, Lib.hid (only_trans HG.out HW.out.2)⟩
              case measure => simp [intOf]; omega
            exact AllReady.nil
          exact AllReady.nil
        exact AllReady.nil
      exact AllReady.nil

    · have HE := Lib.hid (half_end HH.out (by have := HL.out; omega))
      go_wp2_with fail
      go_end0
      exact ⟨rfl, by rw [← HE.out]; exact HO.out, HG.out⟩
end Go.Proofs.YtcageojoafkojaaGreat.Ju
