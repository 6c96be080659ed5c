/- Code that is being made, in memory; asking for names. -/
import Derived.Test.YtcageojoafkojaaJuK
namespace Go.Proofs.Ytcageojoafkojaa.Ju
open Go.RowKit Go.Maps Go.WideMaps Go.WideElems Go.ChangeMaps
def bhI (e : Int × Nat) : Int × Int := (e.1, (e.2 : Int))
theorem lk_map (n : Int) : ∀ b : List (Int × Nat), lk n (b.map bhI) = Option.map (fun (v : Nat) => (v : Int)) (lk n b)
  | [] => rfl
  | (m, v) :: b => by
    rw [List.map_cons]
    show lk n ((m, (v : Int)) :: b.map bhI) = _
    rw [lk_cons, lk_cons, lk_map n b]
    by_cases h : m = n <;> simp [h]
/-- Code in block p, its names in block m, its instructions (the last first) in blocks from B on. -/
structure CR (w : World) (p m B : Nat) (v : Value) (c : CdM) : Prop where
  box : Bk w p 133 [v, .map (some m)]
  row : w.ownsRow B 122 4 v c.ins.length (c.ins.reverse.flatMap Ins.cells)
  mp : NMap w 3 m (c.bh.map bhI)
  pB : p < B
  mB : m < B
  pm : p ≠ m
  le : B ≤ w.heap.size
theorem own_ge {w : World} {n : Nat} {e : TypeId} {z : Nat} {v : Value} {xs : List Value} {B : Nat} (h : w.ownsRow B e z v n xs) : ∀ g, v.ownBlock = some g → B ≤ g ∧ g < w.heap.size := by
  intro g hg
  obtain ⟨h1, ⟨h2, h3⟩ | ⟨g', cap, cur, h2, h3, h4, h5⟩⟩ := h
  · subst h2; cases hg
  · subst h2; cases hg; exact ⟨h3, (Array.getElem?_eq_some_iff.1 h4).1⟩
theorem own_base {w : World} {B B' : Nat} {e : TypeId} {z n : Nat} {v : Value} {xs : List Value} (h : w.ownsRow B e z v n xs) (hB : B' ≤ B) : w.ownsRow B' e z v n xs := by
  obtain ⟨h1, h2 | ⟨g, cap, cur, e, h3, h4⟩⟩ := h
  · exact ⟨h1, Or.inl h2⟩
  · exact ⟨h1, Or.inr ⟨g, cap, cur, e, Nat.le_trans hB h3, h4⟩⟩
/-- What a step leaves: all blocks but for the code's, the map's, the row's. -/
structure Fr (p m : Nat) (v v' : Value) (w w' : World) : Prop where
  os : w'.os = w.os
  tape : w'.tape = w.tape
  output : w'.output = w.output
  size : w.heap.size ≤ w'.heap.size
  block : ∀ i, i < w.heap.size → i ≠ p → i ≠ m → some i ≠ v.ownBlock → w'.heap[i]? = w.heap[i]?
  own : v'.ownBlock = v.ownBlock ∨ ∀ g, v'.ownBlock = some g → w.heap.size ≤ g
section
variable {w w' w2 : World} {p m B : Nat} {v v' v2 : Value} {c : CdM}
theorem Fr.refl (p m : Nat) (v : Value) (w : World) : Fr p m v v w w := ⟨rfl, rfl, rfl, Nat.le_refl _, fun _ _ _ _ _ => rfl, Or.inl rfl⟩
theorem Fr.trans (h : Fr p m v v' w w') (k : Fr p m v' v2 w' w2) : Fr p m v v2 w w2 :=
  ⟨k.os.trans h.os, k.tape.trans h.tape, k.output.trans h.output, Nat.le_trans h.size k.size, fun i hi h1 h2 h3 => (k.block i (Nat.lt_of_lt_of_le hi h.size) h1 h2 (fun e => by
    rcases h.own with g | g
    · rw [g] at e; exact h3 e
    · have := g i e.symm; omega)).trans (h.block i hi h1 h2 h3), by
    rcases k.own with g | g
    · rw [g]; exact h.own
    · exact Or.inr fun x hx => Nat.le_trans h.size (g x hx)⟩
theorem Fr.of_below (p m : Nat) (v : Value) (h : Below w.heap.size w w') : Fr p m v v w w' := ⟨h.os, h.tape, h.output, h.size, fun i hi _ _ _ => h.block i hi, Or.inl rfl⟩
theorem Fr.below {N : Nat} (h : Fr p m v v' w w') (hw : N ≤ w.heap.size) (hp : N ≤ p) (hm : N ≤ m) (hv : ∀ g, v.ownBlock = some g → N ≤ g) : Below N w w' :=
  ⟨h.os, h.tape, h.output, h.size, fun i hi => h.block i (by omega) (by omega) (by omega) (fun e => by have := hv i e.symm; omega)⟩
theorem Fr.grown {r : Nat} (v : Value) (h : w.grownBy w' (some r)) (hr : r = p ∨ r = m) : Fr p m v v w w' := ⟨h.os, h.tape, h.output, h.size, fun i hi h1 h2 _ => h.block i hi (fun e => by injection e with e; omega), Or.inl rfl⟩
theorem Bk.fr {g t : Nat} {l : List Value} (h : Bk w g t l) (hF : Fr p m v v' w w') (h1 : g ≠ p) (h2 : g ≠ m) (h3 : some g ≠ v.ownBlock) : Bk w' g t l := (hF.block g h.lt h1 h2 h3).trans h
theorem CR.below (h : CR w p m B v c) (hb : Below w.heap.size w w') : CR w' p m B v c :=
  ⟨h.box.kept hb, own_keepN h.row hb, h.mp.below hb, h.pB, h.mB, h.pm, Nat.le_trans h.le hb.size⟩
theorem CR.drew (h : CR w p m B v c) : CR w.drew p m B v c := h.below (Below.refl _ _).drew
theorem CR.drewN (h : CR w p m B v c) (n : Nat) : CR (w.drewN n) p m B v c := h.below (below_drewN (Below.refl _ _) n)
theorem CR.cells (h : CR w p m B v c) : w.cell? ⟨p, 0, none⟩ = some v ∧ w.cell? ⟨p, 1, none⟩ = some (.map (some m)) ∧ p < w.heap.size ∧ w.frozen? ⟨p, 0, none⟩ = false :=
  ⟨h.box.cell 0 rfl, h.box.cell 1 rfl, h.box.lt, h.box.fz 0⟩
theorem CR.slice (h : CR w p m B v c) : ∃ A cp, v = .slice A c.ins.length cp := by obtain ⟨A, cp, e, _⟩ := own_typed h.row; exact ⟨A, cp, e⟩
end
set_option maxRecDepth 100000 in
/-- 'v, ok := m[k]' at the operation. -/
theorem wpList_lookup_ok {H : Type} {P : Program} (w : World) {ops : Array Oper} {rest : List Oper} {o : Oper} {a : Act} {Q : Exit → Act → World → Prop}
    (hg : o.guard = none) (m x : Operand) (t : TypeId) (hop : o.op = Op.lookup t m x true)
    (k e : TypeId) (K : Keyed P k) (ht : P.underlying t = some (.map k e)) (R : Value → Option (DataW H × List MemPlace)) {z : Value} (hz : (zeroValue e).run P w = .ok z w) {zd : DataW H} {zp : List MemPlace} (hzd : R z = some (zd, zp)) (b n : Nat) (D : DataW H)
    (hm : a.eval m = .map (some b)) (hown : w.ownsMap P k R b n D) (key : Value) (kl : Lit) (hx : a.eval x = key) (hkey : keyOf P k key = some kl) (bb : Bool) (hb : has D kl = bb)
    (hK : ∀ v ps, R v = some (D.atKey kl zd, ps) → wpList P ops Q rest (a.put o.dst (.tuple #[v, .bool bb])) w) :
    wpList P ops Q (o :: rest) a w := by
  refine wpList_plain hg fun K' hK' => ?_
  obtain ⟨v, ps, hrun, hat⟩ := hown.look_ok K ht hz hzd hkey
  rw [hb] at hrun
  unfold Oper.wp
  simp [execOp, hop, hm, hx, hrun, Result.andThen]
  exact hK' _ _ (hK v ps hat)
set_option maxRecDepth 100000 in
/-- What a name's number is, as it stands in a map. -/
theorem NMap.look {w : World} {e : TypeId} {t : TypeId} {m : Nat} {o : List (Int × Int)} (he : Try.prog.underlying e = some (.int .i64)) (ht : Try.prog.underlying t = some (.map 115 e)) (hz : (zeroValue e).run Try.prog w = .ok (.int .i64 0) w) (h : NMap w e m o) {n : Int} (h1 : -9223372036854775808 ≤ n) (h2 : n ≤ 9223372036854775807) :
    (Instr.lookup t (.map (some m)) (.int .i64 n) false).run Try.prog w = .ok (.int .i64 ((lk n o).getD 0)) w := by
  obtain ⟨c, hrun, hat, _⟩ := World.ownsMap.lookup_int h nameKeyed ht he hz (keyOf_int_mk Try.underlying115 (wfI h1 h2))
  rw [mD_at] at hat
  rw [hrun]
  cases hl : lk n o with
  | none => rw [hl] at hat; injection hat with hat; injection hat with _ hat; subst hat; rfl
  | some v => rw [hl] at hat; injection hat with hat; injection hat with _ hat; subst hat; rfl
set_option maxHeartbeats 4000000 in
set_option maxRecDepth 100000 in
theorem there_any (w : World) (p m B : Nat) (v : Value) (c : CdM) (n : Int) (h : CR w p m B v c) (h1 : -9223372036854775808 ≤ n) (h2 : n ≤ 9223372036854775807) :
    Calls Try.prog 99 #[.pointer (some ⟨p, 0, none⟩), .int .i64 n] w fun e w' => e = .returned (.bool (lk n c.bh).isSome) ∧ w' = w := by
  obtain ⟨k0, k1, kl, _⟩ := h.cells
  obtain ⟨bb, hbb⟩ : ∃ bb, bb = (lk n c.bh).isSome := ⟨_, rfl⟩
  have hh : has (mD (c.bh.map bhI)) (.int .i64 n) = bb := by rw [mD_has, lk_map, Option.isSome_map, hbb]
  rw [← hbb]
  have HM := Lib.hid h.mp
  clear h hbb k0
  go_enter Try.func99, Try.ntmps99
  go_wp2_with (at_lookup; go_loud (refine wpList_lookup_ok _ rfl _ _ 131 rfl 115 3 nameKeyed Try.underlying131 (plainElem Try.prog 3) (Try.zeroValue3 _) (zd := .lit (.int .i64 0)) (zp := []) (plainElem_int Try.underlying3 (by decide)) m _ _ rfl HM.out _ (.int .i64 n) rfl (keyOf_int_mk Try.underlying115 (wfI h1 h2)) bb hh ?_); intro v ps hv; clear hv)
  go_ret
  exact ⟨rfl, rfl⟩
set_option maxHeartbeats 4000000 in
set_option maxRecDepth 100000 in
theorem far_any (w : World) (p m B : Nat) (v : Value) (c : CdM) (n : Int) (b : Nat) (h : CR w p m B v c) (h1 : -9223372036854775808 ≤ n) (h2 : n ≤ 9223372036854775807) (hb : lk n c.bh = some b) (hbl : b ≤ c.ins.length) (hl : c.ins.length ≤ 5000) :
    Calls Try.prog 118 #[.pointer (some ⟨p, 0, none⟩), .int .i64 n] w fun e w' => e = .returned (.int .i64 ((c.ins.length - b : Nat) : Int)) ∧ ∃ q, w' = w.drewN q := by
  obtain ⟨A, cp, rfl⟩ := h.slice
  have k0 : ∀ q, (w.drewN q).cell? ⟨p, 0, none⟩ = some (.slice A c.ins.length cp) := fun q => (h.drewN q).cells.1
  have k1 : ∀ q, (w.drewN q).cell? ⟨p, 1, none⟩ = some (.map (some m)) := fun q => (h.drewN q).cells.2.1
  have kl : p < w.heap.size := h.cells.2.2.1
  have hlk : ∀ q, (Instr.lookup 131 (.map (some m)) (.int .i64 n) false).run Try.prog (w.drewN q) = .ok (.int .i64 (b : Int)) (w.drewN q) := fun q => by
    have := NMap.look Try.underlying3 Try.underlying131 (Try.zeroValue3 _) (h.drewN q).mp h1 h2
    rw [lk_map, hb] at this
    exact this
  obtain ⟨z, hz⟩ : ∃ z, z = c.ins.length := ⟨_, rfl⟩
  rw [← hz] at k0 hbl hl ⊢
  have e1 : IntKind.i64.wrap ((z : Int) - (b : Int)) = ((z - b : Nat) : Int) := by rw [IntKind.wrap_i64]; omega
  clear h hb hz
  go_enter Try.func118, Try.ntmps118
  go_upto_region 1 with fail
  go_quiet (fail)
  go_wp2_with fail
  go_ret
  exact ⟨rfl, _, rfl⟩
end Go.Proofs.Ytcageojoafkojaa.Ju

