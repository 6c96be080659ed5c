/- Longest: the walk. -/
import Derived.Test.YtnkffjdoillmaaaLongM
import Derived.Test.YtnkffjdoillmaaaMoved
import Derived.Test.YtnkffjdoillmaaaRound
import Derived.Test.YtnkffjdoillmaaaCount
import Derived.Deep.RegionWith
import Derived.BigRegion
namespace Go.Proofs.Ytnkffjdoillmaaa
open Go.RowKit Go.Shelf
attribute [local go_sem] Oper.semAt_some
theorem infoIntL : (Try.prog.info? 3).map (fun i => (i.zero, i.size, i.bytes)) = some (some (.int .i64 0), 1, 8) := by kernel_rfl
theorem bk_boxed {W : World} {g t : Nat} {v : Value} (h : Boxed W g t v) : Bk W g t [v] := h
theorem bk_ownG {β : Type} (g t : Nat) (f : β → List Value) : Own (fun s W => Bk W g t (f s)) := fun s X Y row hs hg hrow =>
  hs.grown hg (fun e' => by obtain ⟨o, ho, hc⟩ := hrow g e'.symm; rw [show X.heap[g]? = _ from hs] at ho; cases ho; cases hc)
theorem keeps_below {B : Nat} {W W' : World} (h : Below W.heap.size W W') : KeepsFrom B W W' := ⟨h.size, fun k _ _ hk _ => (h.block k (Array.getElem?_eq_some_iff.1 hk).1).trans hk⟩
/-- make([]T, n) inside a fence: n zero elements are owned. -/
theorem make_full_in {F : Fence} {n : Nat} {P : Program} (w : World) {ops : Array Oper} {rest : List Oper} {o : Oper} {a : Act} {Q : Exit → Act → World → Prop}
    (hg : o.guard = none) (l c : Operand) (t : TypeId) (hop : o.op = Op.makeSlice t l c)
    (base : Nat) (e : TypeId) (i : TypeInfo) (z : Value) (size : Nat) (h1 : P.underlying t = some (.slice e)) (h2 : P.info? e = some i) (h3 : i.zero = some z) (h4 : i.size = size)
    (kl kc : IntKind) (L C : Int) (m : Nat) (hl : a.eval l = .int kl L) (hc : a.eval c = .int kc C) (hL : L = (m : Int)) (hC : C = (m : Int)) (b2 : i.bytes * m ≤ 281474976710656) (b3 : m ≤ maxLen) (b4 : base ≤ w.heap.size)
    (hK : ∀ w', w'.ownsRow base e size (.slice (some ⟨w.heap.size, 0, none⟩) m m) m (madeCells z.cells (m * size)).toList → w.grownBy w' none → wpListIn F n P ops Q rest (a.put o.dst (.slice (some ⟨w.heap.size, 0, none⟩) m m)) w') :
    wpListIn F n P ops Q (o :: rest) a w := by
  refine wpListIn_plain hg fun K hK' => ?_
  obtain ⟨w', hrun, r1, r2⟩ := run_make_full (P := P) w base t e i z size h1 h2 h3 h4 kl kc m b2 b3 b4
  subst hL
  subst hC
  unfold Oper.wpIn
  refine ⟨?_, ?_⟩
  · simp [Oper.about, hop]
  · rw [Oper.semAt_plain F _ _ (by rw [hop]; intro c hc'; cases hc')]
    simp [execOp, hop, hl, hc, hrun, Result.andThen]
    exact hK' _ _ (hK w' r1 r2)
theorem ints_getD' (L : List Nat) (j : Nat) (h : j < L.length) : (ints L)[j]? = some (.int .i64 (L.getD j 0 : Nat)) := by
  rw [List.getD_eq_getElem?_getD, ints_at (List.getElem?_eq_getElem h), List.getElem?_eq_getElem h]; rfl
theorem wp_onceIn {F : Fence} {n : Nat} {P : Program} {c : Code} {Q : Exit → Act → World → Prop} {a : Act} {w : World} (fr : Act) (R : World → Prop) (h : c.wpIn F n P (OnlyR fr R) a w) (hK : ∀ w', R w' → Q .normal fr w') : c.wpIn F n P Q a w :=
  Code.wpIn_mono (fun e a w h => by
    cases e with
    | normal =>
      obtain ⟨h1, h2⟩ := h
      subst h1
      exact hK _ h2
    | _ => exact (h : False).elim) h
theorem onlyR_in (fr : Act) (R : World → Prop) : ¬ LetsOut (OnlyR fr R) := by rintro ⟨_, _, h⟩; exact h
def LongPost (l : List Ins) (w : World) (e : Ending) (w' : World) : Prop :=
  ∃ n : Nat, e = .returned (.int .i64 n) ∧ Below w.heap.size w w' ∧ (Good l → n = lg l 0) ∧ (¬ Good l → n = 0)
set_option maxRecDepth 100000 in
theorem longest_not (l : List Ins) (n : Nat) (A : Option Addr) (cp : Nat) (w : World) (hl : l.length = n) (hok : ∀ i ∈ l, i.ok) (hr : Rd w 4 n A (l.flatMap Ins.cells)) (hm : n ≤ maxLen) (hg : ¬ Good l) :
    Calls Try.prog 18 #[.slice A n cp] w (LongPost l w) := by
  have C := Lib.hid (loadable_any l n A cp w hl hok hr hm)
  clear hl hok hr
  go_enter Try.func18, Try.ntmps18
  go_wp2_with fail
  refine C.out.mono ?_
  rintro e w2 ⟨b, rfl, hb, hb2⟩
  obtain rfl : b = false := by
    cases b
    · rfl
    · exact absurd (hb.1 rfl) hg
  have Hb2 := Lib.hid hb2
  clear hb hb2
  go_wp2_with fail
  go_ret
  exact ⟨0, rfl, Hb2.out, fun h => absurd h hg, fun _ => rfl⟩
theorem long_start {w w2 w3 : World} {n : Nat} (hb2 : Below w.heap.size w w2) (hown : w3.ownsRow w.heap.size 3 1 (.slice (some ⟨w2.heap.size, 0, none⟩) n n) n (madeCells (Value.int .i64 0).cells (n * 1)).toList) (hg : w2.grownBy w3 none) :
    Hid (Bk w3 w2.heap.size 3 (ints (List.replicate n 0))) ∧ Hid (w.heap.size ≤ w2.heap.size) ∧ Hid (Below w.heap.size w w3) := by
  rw [show (Value.int .i64 0).cells = #[Value.int .i64 0] from rfl, toList_madeCells_one, Nat.mul_one] at hown
  have hb := bk_full hown
  exact ⟨by unfold ints; rw [List.map_replicate]; exact hb, hb2.size, hb2.grown hg hb2.size (fun k hk => by cases hk)⟩
theorem below_between {n : Nat} {w W W' : World} (h : Below n w W) (k : Below n w W') (hs : W.heap.size ≤ W'.heap.size) : Below n W W' :=
  ⟨k.os.trans h.os.symm, k.tape.trans h.tape.symm, k.output.trans h.output.symm, hs, fun i hi => (k.block i hi).trans (h.block i hi).symm⟩
/-- What a round of the inner loop holds. -/
abbrev Inner (w W wr : World) (g BX Bx b o n cp c t f k Z : Nat) (S : List Nat) (B m : Nat) (A' : Option Addr) (ws : List Nat) : Prop :=
  (Bk wr BX 76 [.slice (some ⟨g, 0, none⟩) n n] ∧ Bk wr (BX + 1) 22 [.slice (some ⟨b, o, none⟩) n cp] ∧ Bk wr Bx 60 [.int .u16 c, .int .u8 t, .int .u8 f, .int .u32 k]) ∧ Bk wr g 3 (ints S) ∧ Seg wr B 1 m A' (ints ws) ∧ Below w.heap.size w wr ∧ KeepsFrom Z W wr
theorem long_set {w W wr : World} {g BX Bx b o n cp c t f k Z : Nat} {S : List Nat} {B m x v : Nat} {A' : Option Addr} {ws : List Nat} (M : Nat) (hs2 : w.heap.size ≤ g) (hBx : BX + 1 < Bx) (hg3 : g < BX) (hgW : g < B)
    (h : Inner w W wr g BX Bx b o n cp c t f k Z (S.set x v) B m A' ws) : Inner w W (wr.setCell ⟨g, x, none⟩ (.int .i64 M)) g BX Bx b o n cp c t f k Z (S.set x M) B m A' ws := by
  obtain ⟨⟨h1, h2, h3⟩, h4, h5, h6, h7⟩ := h
  have hg := only_set wr g x (.int .i64 M)
  refine ⟨⟨h1.grown hg (by simp; omega), h2.grown hg (by simp; omega), h3.grown hg (by simp; omega)⟩, ?_, h5.grown hg hgW, only_below h6 hg h6.size hs2, h7.trans ((KeepsOthers.setCell _ _ _).from _)⟩
  have := h4.set x (.int .i64 M)
  rw [ints_set, List.set_set] at this
  exact this
theorem long_drew {w W wr : World} {g BX Bx b o n cp c t f k Z : Nat} {S : List Nat} {B m : Nat} {A' : Option Addr} {ws : List Nat}
    (h : Inner w W wr g BX Bx b o n cp c t f k Z S B m A' ws) : Inner w W wr.drew g BX Bx b o n cp c t f k Z S B m A' ws := by
  obtain ⟨⟨h1, h2, h3⟩, h4, h5, h6, h7⟩ := h
  exact ⟨⟨h1.drew, h2.drew, h3.drew⟩, h4.drew, h5.below (Below.refl _ _).drew, h6.drew, h7.trans ((KeepsOthers.drew _).from _)⟩
set_option maxRecDepth 100000 in
set_option maxHeartbeats 4000000 in
theorem longest_good (l : List Ins) (n : Nat) (A : Option Addr) (cp : Nat) (w : World) (hl : l.length = n) (hok : ∀ i ∈ l, i.ok) (hr : Rd w 4 n A (l.flatMap Ins.cells)) (hg : Good l) :
    Calls Try.prog 18 #[.slice A n cp] w (LongPost l w) := by
  obtain ⟨i0, hi, hz0, hz1, hz2⟩ := info_parts infoIntL
  have hn : n ≤ 4096 := hl ▸ hg.many
  have hn0 : 0 < n := hl ▸ hg.pos
  have C := Lib.hid (loadable_any l n A cp w hl hok hr (by unfold maxLen; omega))
  obtain ⟨b, o, rfl, hbl, hcells⟩ := hr.pos hn0
  have Hl := Lib.hid hl
  have Hok := Lib.hid hok
  have Hcells := Lib.hid hcells
  have Hg := Lib.hid hg
  clear hl hok hr hcells hg
  refine (callsIn_wide (n := 8)).1 ?_
  refine callsIn_of_wp_marks Try.func18 rfl trivial ?_ rfl
  simp only [Try.ntmps18, List.size_toArray, List.length_cons, List.length_nil, Nat.reduceAdd, Nat.reduceSub, Array.replicate_succ, Array.replicate_zero, List.push_toArray, List.append_toArray, List.nil_append, List.cons_append]
  gi_wp2_with (first | (refine ⟨trivial, ?_⟩; gi_at_call 44; refine (callsIn_wide.2 C.out).mono ?_; rintro e w2 ⟨bb, rfl, hb, hb2⟩; obtain rfl : bb = true := hb.2 Hg.out; have Hb2 := Lib.hid hb2; clear hb hb2) | (gi_at_make; refine make_full_in _ rfl (.tmp 12) (.tmp 12) 76 rfl w.heap.size 3 i0 (.int .i64 0) 1 Try.underlying76 hi hz0 hz1 .i64 .i64 _ _ n rfl rfl (by omega) (by omega) (by rw [hz2]; omega) (by unfold maxLen; omega) Hb2.out.size ?_; intro w3 hown3 hg3; obtain ⟨Hg3, Hs3, Hb3⟩ := long_start Hb2.out hown3 hg3; clear hown3 hg3) | (refine ⟨trivial, ?_⟩; gi_at_call 45; refine (backward_in _ _ _ _ _).mono ?_; rintro e w' ⟨rfl, rfl⟩))
  have hg3 := Hg3.out.lt
  have hs2 := Hs3.out
  have hbx := bk_boxed (Boxed.new w3 76 (.slice (some ⟨w2.heap.size, 0, none⟩) n n))
  have hbs := Boxed.new (w3.alloc (.cells #[.slice (some ⟨w2.heap.size, 0, none⟩) n n] 76)) 22 (.slice (some ⟨b, o, none⟩) n cp)
  rw [World.size_alloc] at hbs
  have HBX := Lib.hid (hbx.alloc (.cells #[.slice (some ⟨b, o, none⟩) n cp] 22))
  have HG := Lib.hid ((Hg3.out.alloc (.cells #[.slice (some ⟨w2.heap.size, 0, none⟩) n n] 76)).alloc (.cells #[.slice (some ⟨b, o, none⟩) n cp] 22))
  have HB := Lib.hid ((Hb3.out.alloc Hb3.out.size (.cells #[.slice (some ⟨w2.heap.size, 0, none⟩) n n] 76)).alloc (Nat.le_trans Hb3.out.size (by simp)) (.cells #[.slice (some ⟨b, o, none⟩) n cp] 22))
  have HBs := Lib.hid hbs
  have hsz : ((w3.alloc (.cells #[.slice (some ⟨w2.heap.size, 0, none⟩) n n] 76)).alloc (.cells #[.slice (some ⟨b, o, none⟩) n cp] 22)).heap.size = w3.heap.size + 2 := by simp
  clear hbx hbs Hg3 Hs3 Hb3 Hb2 C
  revert HBX HG HB HBs hsz hg3 hs2
  generalize ((w3.alloc (.cells #[.slice (some ⟨w2.heap.size, 0, none⟩) n n] 76)).alloc (.cells #[.slice (some ⟨b, o, none⟩) n cp] 22)) = W0
  generalize w2.heap.size = g
  generalize w3.heap.size = BX
  intro hg3 hs2 HBX HG HB HBs hsz
  clear w2 w3
  refine wpIn_rangeFunc_ownH rfl (by omega) (gf := 65) (lb := #[.pointer (some ⟨BX + 1, 0, none⟩)]) rfl trivial (enters_of Try.func65 (by kernel_rfl) rfl)
    (back_stops 7 (by omega) (BX + 1) w.heap.size b o n cp hn0 (by omega) l Hl.out hbl W0 (by omega) (by omega) HBs.out.cell (fun j u hu => (HB.out.cell (p := ⟨b, o + j, none⟩) hbl).trans (Hcells.out j u hu))) KB.trans (kb_put (by omega) (by omega)) (Below.refl _ _) (fun _ => rfl)
    (fun pre W => ((Bk W BX 76 [.slice (some ⟨g, 0, none⟩) n n] ∧ Bk W (BX + 1) 22 [.slice (some ⟨b, o, none⟩) n cp]) ∧ Bk W g 3 (ints (foldSt l pre))) ∧ Below w.heap.size w W)
    (fun _ _ _ => False)
    (OwnFrom.and (OwnFrom.and (OwnFrom.and (Own.from (bk_ownG _ _ (fun _ => _)) _) (Own.from (bk_ownG _ _ (fun _ => _)) _)) (Own.from (bk_ownG _ _ _) _)) (ownFrom_below (Nat.le_refl _) (by omega)))
    (fun _ _ _ _ _ hs _ _ => hs)
    ⟨⟨⟨HBX.out, bk_boxed HBs.out⟩, HG.out⟩, HB.out⟩
    (fun x a' W => ∃ Bx, BX + 1 < Bx ∧ Bk W Bx 60 [.int .u16 (at0 l x.1).c, .int .u8 (at0 l x.1).t, .int .u8 (at0 l x.1).f, .int .u32 (at0 l x.1).k] ∧ a' = { tmps := #[.slice (some ⟨b, o, none⟩) n cp, undef, .int .i64 0, .pointer (some ⟨BX, 0, none⟩), .int .i64 (x.1 : Int), .pointer (some ⟨Bx, 0, none⟩), undef, undef, .slice (some ⟨b, o, none⟩) n cp, .bool true, .bool false, .slice (some ⟨b, o, none⟩) n cp, .int .i64 n, .slice (some ⟨g, 0, none⟩) n n, .slice (some ⟨b, o, none⟩) n cp, .func (.func 65) #[] #[.pointer (some ⟨BX + 1, 0, none⟩)], .int .i64 (x.1 : Int), .agg #[.int .u16 (at0 l x.1).c, .int .u8 (at0 l x.1).t, .int .u8 (at0 l x.1).f, .int .u32 (at0 l x.1).k], undef, undef, undef, undef, undef, undef, undef, undef, undef, undef, undef, undef, undef, undef, undef, undef, undef, undef, undef, undef, undef, undef, undef, undef, undef, undef, undef, undef, undef, undef], defers := [] })
    (fun x a' _ X Y row hs hg hr => by obtain ⟨Bx, h1, h2, h3⟩ := hs; exact ⟨Bx, h1, bk_ownG Bx _ (fun (_ : Unit) => _) () X Y row h2 hg (fun r e => (hr r e).2), h3⟩)
    ?assign ?body ?done ?stop
  case assign =>
    rintro L pre x W K ⟨⟨⟨bX, bS⟩, bG⟩, hB⟩ hK
    unfold handed
    gi_wp2
    exact hK _ _ ((KeepsOthers.alloc _ _).from _) ⟨(Below.refl _ W).alloc hB.size _, Below.heap_alloc _ _ _ bS.lt⟩ ⟨⟨⟨bX.alloc _, bS.alloc _⟩, bG.alloc _⟩, hB.alloc hB.size _⟩ ⟨W.heap.size, bS.lt, Bk.new W _ _ rfl, rfl⟩
  case body =>
    rintro L pre x a' W hl ⟨r, hr⟩ ⟨⟨⟨bX, bS⟩, bG⟩, hB⟩ ⟨Bx, hBx, bI, rfl⟩ hlt
    obtain ⟨x, hx⟩ := x
    dsimp only at bI
    have hi : l[x]? = some (at0 l x) := by
      unfold at0; rw [List.getD_eq_getElem?_getD, List.getElem?_eq_getElem (by rw [Hl.out]; exact hx)]; rfl
    have hxok := Hok.out _ (List.mem_of_getElem? hi)
    have Nx := Lib.hid (fun w => next_any (at0 l x) x w hxok (by omega))
    have Hin := Lib.hid (fun to hto => Hg.out.inr x _ hi to hto)
    have Hst := Lib.hid (foldSt_snoc l pre ⟨x, hx⟩)
    have Hle := Lib.hid (foldSt_le l pre)
    have hlen := foldSt_len l pre
    obtain ⟨S, hS⟩ : ∃ S, S = foldSt l pre := ⟨_, rfl⟩
    rw [← hS] at bG Hst Hle hlen
    unfold stp at Hst
    obtain ⟨ws, hws⟩ : ∃ ws, ws = ways (at0 l x) x := ⟨_, rfl⟩
    have Hws := Lib.hid (show ∀ to ∈ ws, to < n ∧ x < to from fun to hto => ⟨by rw [← Hl.out]; exact Hin.out to (hws ▸ hto), ways_gt (hws ▸ hto)⟩)
    rw [← hws] at Nx
    have Hwd := Lib.hid hws
    obtain ⟨y, hy⟩ : ∃ y, y = at0 l x := ⟨_, rfl⟩
    rw [← hy] at bI Nx
    have hy' := hy
    clear hws hS hi hxok
    simp only [← hy']
    have Hy := Lib.hid hy'
    clear hy hy'
    obtain ⟨c, t, f, k⟩ := y
    dsimp only at *
    have i0 := bI.cell 0 rfl
    have i1 := bI.cell 1 rfl
    have i2 := bI.cell 2 rfl
    have i3 := bI.cell 3 rfl
    gi_wp2_with (refine ⟨trivial, ?_⟩; gi_at_call 46; refine (CallsIn.inRound L (callsIn_wide.2 (Nx.out _))).mono ?_; rintro e wc ⟨A', cp', rfl, hcp', hseg, hbc⟩)
    have Hcp := Lib.hid hcp'
    have bX2 := bX.kept hbc
    have bS2 := bS.kept hbc
    have bG2 := bG.kept hbc
    have bI2 := bI.kept hbc
    have hBc := hB.trans (hbc.mono hB.size)
    have hKF := keeps_below (B := W0.heap.size) hbc
    have hgW : g < W.heap.size := bG.lt
    have hBxW : Bx < W.heap.size := bI.lt
    have hXW : BX < W.heap.size := bX.lt
    obtain ⟨B, hBd⟩ : ∃ B, B = W.heap.size := ⟨_, rfl⟩
    rw [← hBd] at hseg hgW hBxW hXW
    have hm2 : ws.length ≤ 2 := by
      rw [Hwd.out]; unfold ways rel
      rw [List.length_map]
      split
      · simp
      · split
        · simp
        · split <;> simp
    obtain ⟨m, hm⟩ : ∃ m, m = ws.length := ⟨_, rfl⟩
    rw [← hm] at hcp' hseg hm2 ⊢
    have Hm := Lib.hid hm
    have HS := Lib.hid hlen
    have HL := Lib.hid (show (Bk wc BX 76 [.slice (some ⟨g, 0, none⟩) n n] ∧ Bk wc (BX + 1) 22 [.slice (some ⟨b, o, none⟩) n cp] ∧ Bk wc Bx 60 [.int .u16 c, .int .u8 t, .int .u8 f, .int .u32 k]) ∧ Bk wc g 3 (ints (S.set x (fm S x (ws.take 0)))) ∧ Seg wc B 1 m A' (ints ws) ∧ Below w.heap.size w wc ∧ KeepsFrom W0.heap.size W wc from ⟨⟨bX2, bS2, bI2⟩, by
      rw [List.take_zero]
      have : S.set x (fm S x []) = S := by
        unfold fm
        rw [List.foldl_nil, List.getD_eq_getElem?_getD, List.getElem?_eq_getElem (by omega)]
        simp
      rw [this]; exact bG2, hseg, hBc, hKF⟩)
    have hpre : pre.length < 4096 := by omega
    clear bX2 bS2 bG2 bI2 hBc hKF hseg hm hbc i0 i1 i2 i3 hlen hBd
    gi_loopw [22] (fun i wr => ∃ q : Nat, q ≤ m ∧ i = .int .i64 q ∧ Hid ((Bk wr BX 76 [.slice (some ⟨g, 0, none⟩) n n] ∧ Bk wr (BX + 1) 22 [.slice (some ⟨b, o, none⟩) n cp] ∧ Bk wr Bx 60 [.int .u16 c, .int .u8 t, .int .u8 f, .int .u32 k]) ∧ Bk wr g 3 (ints (S.set x (fm S x (ws.take q)))) ∧ Seg wr B 1 m A' (ints ws) ∧ Below w.heap.size w wr ∧ KeepsFrom W0.heap.size W wr)) (fun i _ => m - (intOf i).toNat)
    case atStart => exact ⟨0, by omega, rfl, HL⟩
    case round =>
      obtain ⟨q, hq, rfl, HQ⟩ := hrel
      clear HL
      by_cases hqm : q < m
      · obtain ⟨to, hto⟩ : ∃ to, ws[q]? = some to := ⟨_, List.getElem?_eq_getElem (by have := Hm.out; omega)⟩
        obtain ⟨hton, hxto⟩ := Hws.out to (List.mem_of_getElem? hto)
        obtain ⟨b', o', rfl, hBb, hbl', hcw⟩ := HQ.out.2.2.1.pos (by omega)
        have r0 := hcw q _ (ints_at hto)
        have cX := HQ.out.1.1.cell 0 rfl
        obtain ⟨V, hV⟩ : ∃ V, V = fm S x (ws.take q) := ⟨_, rfl⟩
        obtain ⟨U, hU⟩ : ∃ U, U = S.getD to 0 := ⟨_, rfl⟩
        have hVl : V ≤ 4096 := by rw [hV]; exact Nat.le_trans (fm_le Hle.out x _) (by omega)
        have hUl : U ≤ 4096 := by rw [hU]; exact Nat.le_trans (Hle.out to) (by omega)
        have c1 : wr.cell? ⟨g, x, none⟩ = some (.int .i64 V) := HQ.out.2.1.cell x (by
          rw [ints_getD' _ x (by rw [List.length_set, HS.out]; exact hx), getD_set, if_pos ⟨rfl, by rw [HS.out]; exact hx⟩, hV])
        have c2 : wr.cell? ⟨g, to, none⟩ = some (.int .i64 U) := HQ.out.2.1.cell to (by
          rw [ints_getD' _ to (by rw [List.length_set, HS.out]; exact hton), getD_set, if_neg (by omega), hU])
        have fz := HQ.out.2.1.fz x
        have HV := Lib.hid hV
        have HU := Lib.hid hU
        have Hto := Lib.hid hto
        have Hmax := Lib.hid (show fm S x (ws.take (q + 1)) = max V U from by rw [take_snoc' ws q to hto, fm_snoc, ← hV, ← hU])
        clear hcw hV hU hto
        gi_wp2
        by_cases hvu : V < U
        · have Hm2 := Lib.hid (show max V U = U by omega)
          refine wp_onceIn ?fr (fun w' => w' = (wr.setCell ⟨g, x, none⟩ (.int .i64 U)).drew) ?reg ?imp
          case reg =>
            refine region_round 11 (by kernel_rfl) (by kernel_rfl) (by kernel_rfl) (onlyR_in _ _) ?_
            simp only [List.take_succ_cons, List.take_zero, List.drop_succ_cons, List.drop_zero]
            repeat still_step
            refine wpStill_nil ?_
            go_wp2
            exact OnlyR.here rfl
          case imp =>
            rintro w' rfl
            have HE := Lib.hid (long_drew (long_set U hs2 hBx hg3 hgW HQ.out))
            rw [show S.set x U = S.set x (fm S x (ws.take (q + 1))) by rw [Hmax.out, Hm2.out]] at HE
            clear c1 c2 cX r0 fz
            gi_wp2
            go_roundw
            case rel => exact ⟨q + 1, by omega, by go_num, HE⟩
            case measure => simp [intOf]; omega
        · have Hm2 := Lib.hid (show max V U = V by omega)
          refine wp_onceIn ?fr2 (fun w' => w' = (wr.setCell ⟨g, x, none⟩ (.int .i64 V)).drew) ?reg2 ?imp2
          case reg2 =>
            refine region_round 11 (by kernel_rfl) (by kernel_rfl) (by kernel_rfl) (onlyR_in _ _) ?_
            simp only [List.take_succ_cons, List.take_zero, List.drop_succ_cons, List.drop_zero]
            repeat still_step
            refine wpStill_nil ?_
            go_wp2
            exact OnlyR.here rfl
          case imp2 =>
            rintro w' rfl
            have HE := Lib.hid (long_drew (long_set V hs2 hBx hg3 hgW HQ.out))
            rw [show S.set x V = S.set x (fm S x (ws.take (q + 1))) by rw [Hmax.out, Hm2.out]] at HE
            clear c1 c2 cX r0 fz
            gi_wp2
            go_roundw
            case rel => exact ⟨q + 1, by omega, by go_num, HE⟩
            case measure => simp [intOf]; omega
      · obtain rfl : q = m := by omega
        have cX := HQ.out.1.1.cell 0 rfl
        obtain ⟨V, hV⟩ : ∃ V, V = fm S x ws := ⟨_, rfl⟩
        have hVl : V ≤ 4096 := by rw [hV]; exact Nat.le_trans (fm_le Hle.out x _) (by omega)
        have htk : ws.take q = ws := List.take_of_length_le (by have := Hm.out; omega)
        have c1 : wr.cell? ⟨g, x, none⟩ = some (.int .i64 V) := HQ.out.2.1.cell x (by
          rw [htk, ints_getD' _ x (by rw [List.length_set, HS.out]; exact hx), getD_set, if_pos ⟨rfl, by rw [HS.out]; exact hx⟩, hV])
        have fz := HQ.out.2.1.fz x
        have HE := Lib.hid (long_set (V + 1) hs2 hBx hg3 hgW HQ.out)
        have Hfin := Lib.hid (show S.set x (V + 1) = foldSt l (pre ++ [⟨x, hx⟩]) from by rw [Hst.out, ← Hwd.out, hV])
        clear hV
        gi_wp2
        obtain ⟨⟨e1, e2, e3⟩, e4, e5, e6, e7⟩ := HE.out
        rw [Hfin.out] at e4
        exact ⟨e7, ⟨below_between hB e6 e7.size, (show _ = _ from e2).trans (show _ = _ from bS).symm⟩, ⟨⟨e1, e2⟩, e4⟩, e6⟩
  case done =>
    rintro D ys W hD rfl ⟨⟨⟨bX, bS⟩, bG⟩, hB⟩ hK
    rw [down_all Hl.out hn0] at bG
    have cX := bX.cell 0 rfl
    have c0 : W.cell? ⟨g, 0, none⟩ = some (.int .i64 (lg l 0 : Nat)) := bG.cell 0 (ints_getD' _ 0 (by rw [lgl_len, Hl.out]; exact hn0))
    gi_wp2
    refine ⟨by simp, .inl ⟨_, _, rfl, run_takeDeferred hK, ?_⟩⟩
    exact ⟨_, results_tmp rfl _ _ _, lg l 0, rfl, hB.trans (belowK_b (w := w) (Nat.le_refl _) W D _ _ (by omega) hK rfl rfl), fun _ => rfl, fun h => absurd Hg.out h⟩
  case stop =>
    rintro D c pre W _ _ h _
    exact h.elim
theorem longest_any (l : List Ins) (n : Nat) (A : Option Addr) (cp : Nat) (w : World) (hl : l.length = n) (hok : ∀ i ∈ l, i.ok) (hr : Rd w 4 n A (l.flatMap Ins.cells)) (hm : n ≤ maxLen) :
    Calls Try.prog 18 #[.slice A n cp] w (LongPost l w) := by
  by_cases hg : Good l
  · exact longest_good l n A cp w hl hok hr hg
  · exact longest_not l n A cp w hl hok hr hm hg
end Go.Proofs.Ytnkffjdoillmaaa

