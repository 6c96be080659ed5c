/- A text as a policy: the walk. -/
import Derived.Test.YtinofjbnfmalkaaGreatDoorParQ
import Derived.Test.YtinofjbnfmalkaaGreatDoorParW
namespace Go.Proofs.YtinofjbnfmalkaaGreatDoor.Pa
open Go.RowKit Go.WideElems Go.Maps
structure G (w : World) : Prop where
  sg : ∀ i, i < 8 → w.cell? ⟨1, i, none⟩ = some (.string ⟨(sgT.getD i []).toArray⟩)
  nm : Rt.NamesAt w
  lx : LEnv w
theorem G.kept {w w' : World} (h : G w) (hb : Below w.heap.size w w') : G w' := ⟨fun i hi => cell_below (h.sg i hi) hb, h.nm.below hb, h.lx.below hb⟩
theorem G.ev {w : World} (h : G w) {b : Nat} (hb : w.heap.size ≤ b) : Ev w b := by
  obtain ⟨m, hm⟩ := h.lx.ml
  exact ⟨h.sg, h.nm, ⟨m, hm⟩, ⟨Nat.lt_of_lt_of_le (cell_lt (h.sg 0 (by omega))) hb, Nat.lt_of_lt_of_le (cell_lt (h.nm 0 (by omega))) hb⟩, Nat.lt_of_lt_of_le (cell_lt hm) hb⟩
theorem ne_tab {w : World} {tb m g : Nat} {v : Value} (h : TS w tb m) (hc : w.cell? ⟨g, 0, none⟩ = some v) (hv : ∀ u : Int, v ≠ .int .u32 u) : g ≠ tb := by
  rintro rfl
  obtain ⟨a, _, _, hT⟩ := h
  obtain ⟨u, h0, _⟩ := hT.c0
  rw [hc] at h0
  cases h0
  exact hv u rfl
theorem G.asked {w w' : World} {tb m : Nat} (h : G w) (hT : TS w tb m) (hg : w.grownBy w' (some tb)) : G w' := by
  have e1 := ne_tab hT (h.sg 0 (by omega)) (by intro u e; cases e)
  have e2 := ne_tab hT (h.nm 0 (by omega)) (by intro u e; cases e)
  obtain ⟨m, hm⟩ := h.lx.ml
  have e3 := ne_tab hT hm (by intro u e; cases e)
  obtain ⟨t1, p1, h1⟩ := h.lx.syn
  have e4 := ne_tab hT h1 (by intro u e; cases e)
  obtain ⟨t2, p2, h2⟩ := h.lx.rng
  have e5 := ne_tab hT h2 (by intro u e; cases e)
  exact ⟨fun i hi => cell_grow (h.sg i hi) hg e1, fun i hi => cell_grow (h.nm i hi) hg e2, ⟨t1, p1, cell_grow h1 hg e4⟩, ⟨t2, p2, cell_grow h2 hg e5⟩, m, cell_grow hm hg e3⟩
structure PrA (w : World) (pb tb m : Nat) (qa : Addr) : Prop where
  blk : Bk w pb 76 [.pointer (some ⟨tb, 0, none⟩), .pointer (some qa)]
  ts : TS w tb m
theorem PrA.kept {w w' : World} {pb tb m : Nat} {qa : Addr} (h : PrA w pb tb m qa) (hb : Below w.heap.size w w') : PrA w' pb tb m qa := ⟨h.blk.kept hb, h.ts.kept hb⟩
theorem PrA.asked {w w' : World} {pb tb m m' : Nat} {qa : Addr} (h : PrA w pb tb m qa) (hg : w.grownBy w' (some tb)) (ht : TS w' tb m') : PrA w' pb tb m' qa := ⟨h.blk.grown hg (by intro e; exact (h.blk.tyb.ne (TS.tyb h.ts) (by decide)) (Option.some.inj e)), ht⟩
structure PT (w : World) (B : Nat) (T : TV) : Prop where
  r : w.ownsRow B 70 3 T.rv T.rs.length (T.rs.flatMap RuleV.cells)
  cc : ∀ x ∈ T.rs, TRd w 90 4 x.m.conds.length x.A (x.m.conds.flatMap CondM.cells)
  p : w.ownsRow B 72 2 T.bv T.pt.length (T.pt.flatMap pathC)
  q : w.ownsRow B 97 2 T.qv T.po.length (T.po.flatMap portC)
theorem own_baseP {w : World} {B C : Nat} {e : TypeId} {z n : Nat} {v : Value} {xs : List Value} (h : w.ownsRow B e z v n xs) (hb : C ≤ B) : w.ownsRow C e z v n xs :=
  ⟨h.1, h.2.imp id fun ⟨g, cap, cur, e, h1, h2⟩ => ⟨g, cap, cur, e, Nat.le_trans hb h1, h2⟩⟩
theorem PT.other {w w' : World} {B g : Nat} {T : TV} {U : TypeId} (h : PT w B T) (hg : w.grownBy w' (some g)) (ht : TyB w g U) (n2 : U ≠ 70) (n3 : U ≠ 90) (n4 : U ≠ 72) (n5 : U ≠ 97) : PT w' B T := by
  have hk : ∀ {e : TypeId} {z n : Nat} {v : Value} {xs : List Value}, w.ownsRow B e z v n xs → U ≠ e → w'.ownsRow B e z v n xs := fun h hn => own_keep h hg (fun q hq => ((own_tyP h) q hq).ne ht (Ne.symm hn))
  exact ⟨hk h.r n2, fun x hx => (h.cc x hx).grown hg ((h.cc x hx).off ht (Ne.symm n3)), hk h.p n4, hk h.q n5⟩
theorem PT.zero (w : World) (B : Nat) : PT w B T0 := ⟨World.ownsRow_nil _ _ _ _, fun x hx => by simp [T0] at hx, World.ownsRow_nil _ _ _ _, World.ownsRow_nil _ _ _ _⟩
theorem own_addr {w : World} {B : Nat} {e : TypeId} {z n n' c : Nat} {A : Option Addr} {xs : List Value} (h : w.ownsRow B e z (.slice A n' c) n xs) : ∀ a, A = some a → TyB w a.block e := by
  intro a ha
  subst ha
  have hty := own_tyP h
  rcases h.2 with ⟨h1, _⟩ | ⟨g, cap, cur, h1, _, hh, _⟩
  · cases h1
  · cases h1
    exact ⟨_, _, hh⟩
def TV.l (T : TV) : List Value := [.string ⟨T.nm.toArray⟩, .int .u32 T.d, T.rv, .int .u16 T.hd, T.bv, T.qv]
def wrl (x : Wr) : List Value := [.int .i64 x.l, .int .i64 x.c, .int .i64 x.e]
def ParseR (R : PolM × Wr) (tb m : Nat) (w : World) (e : Ending) (w' : World) : Prop :=
  ∃ T, e = .returned (.tuple #[.agg (TV.l T).toArray, .agg (wrl R.2).toArray]) ∧ TV.m T = R.1 ∧ PT w' w.heap.size T ∧ TS w' tb m ∧ w.grownBy w' (some tb) ∧ Sz T.m
theorem sz_zero : Sz T0.m := ⟨by decide, by decide, fun r hr => by simp [T0, TV.m] at hr, by decide, fun r hr => by simp [T0, TV.m] at hr, fun r hr => by simp [T0, TV.m] at hr⟩
theorem parse_of {R R' : PolM × Wr} {tb m : Nat} {w w' : World} {e : Ending} {T : TV} (h : R = R') (he : e = .returned (.tuple #[.agg (TV.l T).toArray, .agg (wrl R'.2).toArray])) (hT : TV.m T = R'.1) (hp : PT w' w.heap.size T) (ht : TS w' tb m) (hg : w.grownBy w' (some tb)) (hz : Sz T.m) : ParseR R tb m w e w' := by
  subst h; exact ⟨T, he, hT, hp, ht, hg, hz⟩
theorem set6_grown (w : World) (g : Nat) (v0 v1 v2 v3 v4 v5 : Value) : w.grownBy ((((((w.setCell ⟨g, 0, none⟩ v0).setCell ⟨g, 1, none⟩ v1).setCell ⟨g, 2, none⟩ v2).setCell ⟨g, 3, none⟩ v3).setCell ⟨g, 4, none⟩ v4).setCell ⟨g, 5, none⟩ v5) (some g) :=
  only_trans (only_trans (only_trans (only_trans (only_trans (only_set _ g 0 v0) (only_set _ g 1 v1)) (only_set _ g 2 v2)) (only_set _ g 3 v3)) (only_set _ g 4 v4)) (only_set _ g 5 v5)
theorem both_a {w : World} {g k t t2 : Nat} {a0 a1 a2 a3 a4 a5 b0 b1 b2 : Value} (h : Bk w g t [a0, a1, a2, a3, a4, a5]) (h2 : Bk w k t2 [b0, b1, b2]) (hne : g ≠ k) (v0 v1 v2 v3 v4 v5 u0 u1 u2 : Value) : Bk (((((((((w.setCell ⟨g, 0, none⟩ v0).setCell ⟨g, 1, none⟩ v1).setCell ⟨g, 2, none⟩ v2).setCell ⟨g, 3, none⟩ v3).setCell ⟨g, 4, none⟩ v4).setCell ⟨g, 5, none⟩ v5).setCell ⟨k, 0, none⟩ u0).setCell ⟨k, 1, none⟩ u1).setCell ⟨k, 2, none⟩ u2) g t [v0, v1, v2, v3, v4, v5] ∧ Bk (((((((((w.setCell ⟨g, 0, none⟩ v0).setCell ⟨g, 1, none⟩ v1).setCell ⟨g, 2, none⟩ v2).setCell ⟨g, 3, none⟩ v3).setCell ⟨g, 4, none⟩ v4).setCell ⟨g, 5, none⟩ v5).setCell ⟨k, 0, none⟩ u0).setCell ⟨k, 1, none⟩ u1).setCell ⟨k, 2, none⟩ u2) k t2 [u0, u1, u2] :=
  ⟨Bk.grown ((((((h.set 0 v0).set 1 v1).set 2 v2).set 3 v3).set 4 v4).set 5 v5) (set3_grown _ k u0 u1 u2) (by intro e; exact hne (Option.some.inj e)), ((((h2.grown (set6_grown w g v0 v1 v2 v3 v4 v5) (by intro e; exact hne (Option.some.inj e).symm)).set 0 u0).set 1 u1).set 2 u2)⟩
theorem both_b {w : World} {g k t t2 : Nat} {a0 a1 a2 a3 a4 a5 b0 b1 b2 : Value} (h : Bk w g t [a0, a1, a2, a3, a4, a5]) (h2 : Bk w k t2 [b0, b1, b2]) (hne : g ≠ k) (v0 v1 v2 v3 v4 v5 u0 u1 u2 : Value) : Bk (((((((((w.setCell ⟨k, 0, none⟩ u0).setCell ⟨k, 1, none⟩ u1).setCell ⟨k, 2, none⟩ u2).setCell ⟨g, 0, none⟩ v0).setCell ⟨g, 1, none⟩ v1).setCell ⟨g, 2, none⟩ v2).setCell ⟨g, 3, none⟩ v3).setCell ⟨g, 4, none⟩ v4).setCell ⟨g, 5, none⟩ v5) g t [v0, v1, v2, v3, v4, v5] ∧ Bk (((((((((w.setCell ⟨k, 0, none⟩ u0).setCell ⟨k, 1, none⟩ u1).setCell ⟨k, 2, none⟩ u2).setCell ⟨g, 0, none⟩ v0).setCell ⟨g, 1, none⟩ v1).setCell ⟨g, 2, none⟩ v2).setCell ⟨g, 3, none⟩ v3).setCell ⟨g, 4, none⟩ v4).setCell ⟨g, 5, none⟩ v5) k t2 [u0, u1, u2] :=
  ⟨(((((((h.grown (set3_grown w k u0 u1 u2) (by intro e; exact hne (Option.some.inj e))).set 0 v0).set 1 v1).set 2 v2).set 3 v3).set 4 v4).set 5 v5), Bk.grown (((h2.set 0 u0).set 1 u1).set 2 u2) (set6_grown _ g v0 v1 v2 v3 v4 v5) (by intro e; exact hne (Option.some.inj e).symm)⟩
theorem res_parse {W : World} {g k n1 n2 n3 c1 c2 c3 : Nat} {A1 A2 A3 : Option Addr} {x : ByteArray} {d h l c e : Int} {tm : Array Value} (h4 : tm[4]? = some (.pointer (some ⟨g, 0, none⟩))) (h5 : tm[5]? = some (.pointer (some ⟨k, 0, none⟩)))
    (hg : Bk W g 35 [.string x, .int .u32 d, .slice A1 n1 c1, .int .u16 h, .slice A2 n2 c2, .slice A3 n3 c3]) (hk : Bk W k 48 [.int .i64 l, .int .i64 c, .int .i64 e]) :
    Sem.run Tryz.prog (results Tryz.f14 tm) W = .ok (.tuple #[.agg #[.string x, .int .u32 d, .slice A1 n1 c1, .int .u16 h, .slice A2 n2 c2, .slice A3 n3 c3], .agg #[.int .i64 l, .int .i64 c, .int .i64 e]]) W := by
  have q0 := hg.cell 0 rfl
  have q1 := hg.cell 1 rfl
  have q2 := hg.cell 2 rfl
  have q3 := hg.cell 3 rfl
  have q4 := hg.cell 4 rfl
  have q5 := hg.cell 5 rfl
  have g0 := hk.cell 0 rfl
  have g1 := hk.cell 1 rfl
  have g2 := hk.cell 2 rfl
  simp [results, Tryz.results14, go_sem, h4, h5, q0, q1, q2, q3, q4, q5, g0, g1, g2]
theorem laid_end {w w' : World} {g1 g2 B tb m : Nat} {T : TV} {l1 l2 : List Value} (h1 : Bk w' g1 35 l1) (h2 : Bk w' g2 48 l2) (hw1 : w.heap.size ≤ g1) (hw2 : w.heap.size ≤ g2) (hp : PT w' B T) (ht : TS w' tb m) (hg : w.grownBy w' (some tb)) {W : World}
    (hs : (∃ wm, w'.grownBy wm (some g1) ∧ wm.grownBy W (some g2)) ∨ (∃ wm, w'.grownBy wm (some g2) ∧ wm.grownBy W (some g1))) : PT W B T ∧ TS W tb m ∧ w.grownBy W (some tb) := by
  have key : ∀ {x y : World} {g : Nat} {U : TypeId}, PT x B T → TS x tb m → w.grownBy x (some tb) → x.grownBy y (some g) → TyB x g U → w.heap.size ≤ g → U ≠ 148 → U ≠ 70 → U ≠ 90 → U ≠ 72 → U ≠ 97 → PT y B T ∧ TS y tb m ∧ w.grownBy y (some tb) :=
    fun hp ht hg hs hty hl n1 n2 n3 n4 n5 => ⟨hp.other hs hty n2 n3 n4 n5, TS.off ht hs hty n1, grown_trans hg hs (fun k hk => by cases hk; exact .inr hl)⟩
  rcases hs with ⟨wm, a, b⟩ | ⟨wm, a, b⟩
  · obtain ⟨k1, k2, k3⟩ := key hp ht hg a h1.tyb hw1 (by decide) (by decide) (by decide) (by decide) (by decide)
    have h2' : TyB wm g2 48 := TyB.grown h2.tyb a (h2.tyb.ne h1.tyb (by decide))
    exact key k1 k2 k3 b h2' hw2 (by decide) (by decide) (by decide) (by decide) (by decide)
  · obtain ⟨k1, k2, k3⟩ := key hp ht hg a h2.tyb hw2 (by decide) (by decide) (by decide) (by decide) (by decide)
    have h1' : TyB wm g1 35 := TyB.grown h1.tyb a (h1.tyb.ne h2.tyb (by decide))
    exact key k1 k2 k3 b h1' hw1 (by decide) (by decide) (by decide) (by decide) (by decide)
set_option maxHeartbeats 16000000 in
set_option maxRecDepth 100000 in
theorem parse_any (s : ByteArray) (pb tb m : Nat) (qa : Addr) (w : World) (hP : PrA w pb tb m qa) (hG : G w) (hm : m ≤ 800000000) :
    Calls Tryz.prog 14 #[.pointer (some ⟨pb, 0, none⟩), .string s] w (ParseR (parsB s.data.toList) tb (m + 2000001) w) := by
  obtain ⟨hin, hlen⟩ := lex_in s.data.toList
  have hb1 := oneb w (.cells #[.string ByteArray.empty, .int .u32 0, .slice none 0 0, .int .u16 0, .slice none 0 0, .slice none 0 0] 35)
  have hk4 := Bk.new w 35 #[.string ByteArray.empty, .int .u32 0, .slice none 0 0, .int .u16 0, .slice none 0 0, .slice none 0 0] (l := [.string ByteArray.empty, .int .u32 0, .slice none 0 0, .int .u16 0, .slice none 0 0, .slice none 0 0]) rfl
  have hz1 : (w.alloc (.cells #[.string ByteArray.empty, .int .u32 0, .slice none 0 0, .int .u16 0, .slice none 0 0, .slice none 0 0] 35)).heap.size = w.heap.size + 1 := by simp
  have hk5 := Bk.new (w.alloc (.cells #[.string ByteArray.empty, .int .u32 0, .slice none 0 0, .int .u16 0, .slice none 0 0, .slice none 0 0] 35)) 48 #[.int .i64 0, .int .i64 0, .int .i64 0] (l := [.int .i64 0, .int .i64 0, .int .i64 0]) rfl
  have hb2 := hb1.trans ((oneb (w.alloc (.cells #[.string ByteArray.empty, .int .u32 0, .slice none 0 0, .int .u16 0, .slice none 0 0, .slice none 0 0] 35)) (.cells #[.int .i64 0, .int .i64 0, .int .i64 0] 48)).mono hb1.size)
  have hk4' := hk4.kept (oneb (w.alloc (.cells #[.string ByteArray.empty, .int .u32 0, .slice none 0 0, .int .u16 0, .slice none 0 0, .slice none 0 0] 35)) (.cells #[.int .i64 0, .int .i64 0, .int .i64 0] 48))
  rw [hz1] at hk5
  have Hx := Lib.hid (lex_any s _ (hG.kept hb2).lx)
  have HP := Lib.hid hP
  have HG := Lib.hid hG
  have HIn := Lib.hid hin
  clear hP hG hk4 hz1 hin
  obtain ⟨L, x, hLx⟩ : ∃ L x, lexB s.data.toList = (L, x) := ⟨_, _, rfl⟩
  have HL := Lib.hid hLx
  rw [hLx] at Hx hlen
  have HIn := Lib.hid (show ∀ x ∈ L, TokIn x by have := HIn.out; rw [hLx] at this; exact this)
  clear hLx
  go_enter Tryz.func14, Tryz.ntmps14
  go_wp2_with fail
  refine Hx.out.mono ?_
  clear Hx
  rintro e w1 ⟨v, rfl, hown, hbl⟩
  obtain ⟨xl, xc, xe⟩ := x
  simp only [Wr.val]
  have HB1 := Lib.hid (hb2.trans (hbl.mono hb2.size))
  have HB4 := Lib.hid (hk4'.kept hbl)
  have HB5 := Lib.hid (hk5.kept hbl)
  have hsz2 : w.heap.size + 2 ≤ w1.heap.size := by have := hbl.size; simp at this; omega
  obtain ⟨A, cv, rfl, hcv, htr, _⟩ := own_typed hown
  have HA := Lib.hid (own_addr hown)
  have HTr := Lib.hid htr
  clear hown hbl hb1 hb2 hk4' hk5 htr
  obtain ⟨n, hn⟩ : ∃ n, n = L.length := ⟨_, rfl⟩
  have HN := Lib.hid hn
  simp only at hcv hlen ⊢
  rw [← hn] at hcv hlen ⊢
  clear hn
  have hbw := oneb w1 (.cells #[.int .i64 xl, .int .i64 xc, .int .i64 xe] 48)
  have HB4b := Lib.hid (HB4.out.kept hbw)
  have HB5b := Lib.hid (HB5.out.kept hbw)
  have HB1b := Lib.hid (HB1.out.trans (hbw.mono HB1.out.size))
  have HTrb := Lib.hid (HTr.out.below hbw)
  have hsz2b : w.heap.size + 2 ≤ (w1.alloc (.cells #[.int .i64 xl, .int .i64 xc, .int .i64 xe] 48)).heap.size := by simp; omega
  clear HB4 HB5 HB1 HTr hbw
  have hk7 := Bk.new w1 48 #[.int .i64 xl, .int .i64 xc, .int .i64 xe] (l := [.int .i64 xl, .int .i64 xc, .int .i64 xe]) rfl
  have hA2 : ∀ a, A = some a → TyB (w1.alloc (.cells #[.int .i64 xl, .int .i64 xc, .int .i64 xe] 48)) a.block 182 := fun a ha => (HA.out a ha).below (oneb w1 _)
  go_upto_region 4 with fail
  generalize w1.alloc _ = w2 at HB4b HB5b HB1b HTrb hsz2b hk7 hA2 ⊢
  have x0 := hk7.cell 0 rfl
  have x1 := hk7.cell 1 rfl
  have x2 := hk7.cell 2 rfl
  have x7l := hk7.lt
  clear hk7
  have HTSl := Lib.hid HP.out.ts.lt
  by_cases hx : (⟨xl, xc, xe⟩ : Wr) = noW
  · have hQ : ∀ W : World, (binOp .neq 48 (.agg #[.int .i64 xl, .int .i64 xc, .int .i64 xe]) (.agg #[.int .i64 0, .int .i64 0, .int .i64 0])).run Tryz.prog W = .ok (.bool false) W := fun W => by have h := neq_wr ⟨xl, xc, xe⟩ noW W; rw [decide_eq_true hx] at h; exact h
    have HX := Lib.hid hx
    clear hx
    have hR0 : Rr w2 w2.heap.size tb pb qa (w2.alloc (.cells #[.pointer (some ⟨pb, 0, none⟩), .slice A n cv, .string ⟨#[]⟩, .int .u32 0, .slice none 0 0, .int .u16 0, .slice none 0 0, .slice none 0 0, .int .i64 0, .int .i64 0, .int .i64 0] 109)) m T0 ⟨L, noW⟩ := by
      have hP2 := HP.out.kept HB1b.out
      have hG2 := HG.out.kept HB1b.out
      have hon := oneb w2 (.cells #[.pointer (some ⟨pb, 0, none⟩), .slice A n cv, .string ⟨#[]⟩, .int .u32 0, .slice none 0 0, .int .u16 0, .slice none 0 0, .slice none 0 0, .int .i64 0, .int .i64 0, .int .i64 0] 109)
      refine ⟨⟨A, cv, ?_, ?_, ?_, fun a ha => ⟨(hA2 a ha).lt, (hA2 a ha).below hon⟩⟩, World.ownsRow_nil _ _ _ _, fun x hx => by simp [T0] at hx, World.ownsRow_nil _ _ _ _, World.ownsRow_nil _ _ _ _, (hG2.ev (Nat.le_refl _)).kept hon, ⟨hP2.blk.kept hon, hP2.blk.lt⟩, hP2.ts.kept hon, hP2.ts.lt, World.grownBy_alloc _ _ _, Nat.le_refl _, ⟨HIn.out, by show L.length ≤ _; rw [← HN.out]; exact hlen, fun h => absurd rfl h⟩, sz_zero⟩
      · show Bk _ _ _ (rdrL _ (.slice A L.length cv) noW)
        rw [← HN.out]
        exact Bk.new w2 109 _ rfl
      · show L.length ≤ cv; rw [← HN.out]; exact hcv
      · exact HTrb.out.rd.below hon
    have Hl := Lib.hid (lines_any w2 w2.heap.size tb pb m qa _ L hR0 (by omega))
    clear hR0
    go_wp2_with fail
    refine Hl.out.mono ?_
    clear Hl x0 x1 x2 x7l
    rintro e w3 ⟨T, rfl, hTm, hr3, _⟩
    have HR3 := Lib.hid hr3
    have HTm := Lib.hid hTm
    have HB4 := Lib.hid (HB4b.out.grown hr3.gr (by intro e; have := Option.some.inj e; have := HTSl.out; omega))
    have HB5 := Lib.hid (HB5b.out.grown hr3.gr (by intro e; have := Option.some.inj e; have := HTSl.out; omega))
    have HPT := Lib.hid (show PT w3 w.heap.size T from ⟨own_baseP hr3.r (by omega), hr3.cc, own_baseP hr3.p (by omega), own_baseP hr3.q (by omega)⟩)
    have HTS := Lib.hid (show TS w3 tb (m + 2000001) from hr3.ts.mono (by rw [← HN.out]; omega))
    have HGR := Lib.hid (show w.grownBy w3 (some tb) from grown_trans (gb tb HB1b.out) hr3.gr (fun k hk => .inl hk))
    obtain ⟨A3, c3, hb3, _⟩ := hr3.rb.blk
    obtain ⟨yl, yc, ye, hy⟩ : ∃ yl yc ye, (readP L).2.wr = ⟨yl, yc, ye⟩ := ⟨_, _, _, rfl⟩
    rw [hy] at hb3
    have HY := Lib.hid hy
    have c8 := hb3.cell 8 rfl
    have c9 := hb3.cell 9 rfl
    have ca := hb3.cell 10 rfl
    have c2 := hb3.cell 2 rfl
    have c3 := hb3.cell 3 rfl
    have c4 := hb3.cell 4 rfl
    have c5 := hb3.cell 5 rfl
    have c6 := hb3.cell 6 rfl
    have c7 := hb3.cell 7 rfl
    have cl := hb3.lt
    have HSz := Lib.hid hr3.sz
    obtain ⟨A4, v4, hrv, -, -, -⟩ := own_typed hr3.r
    obtain ⟨A5, v5, hbv, -, -, -⟩ := own_typed hr3.p
    obtain ⟨A6, v6, hqv, -, -, -⟩ := own_typed hr3.q
    have Hrv := Lib.hid hrv
    have Hbv := Lib.hid hbv
    have Hqv := Lib.hid hqv
    clear hr3 hTm hb3 hy
    simp only [TV.c] at c2 c3 c4 c5 c6 c7
    rw [hrv] at c4
    rw [hbv] at c6
    rw [hqv] at c7
    clear hrv hbv hqv
    have q0 := HB4.out.cell 0 rfl
    have q1 := HB4.out.cell 1 rfl
    have q2 := HB4.out.cell 2 rfl
    have q3 := HB4.out.cell 3 rfl
    have q4 := HB4.out.cell 4 rfl
    have q5 := HB4.out.cell 5 rfl
    have qz0 := HB4.out.fz 0
    have qz1 := HB4.out.fz 1
    have qz2 := HB4.out.fz 2
    have qz3 := HB4.out.fz 3
    have qz4 := HB4.out.fz 4
    have qz5 := HB4.out.fz 5
    have ql := HB4.out.lt
    have g0 := HB5.out.cell 0 rfl
    have g1 := HB5.out.cell 1 rfl
    have g2 := HB5.out.cell 2 rfl
    have gz0 := HB5.out.fz 0
    have gz1 := HB5.out.fz 1
    have gz2 := HB5.out.fz 2
    have gl := HB5.out.lt
    by_cases hz : (⟨yl, yc, ye⟩ : Wr) = noW
    · have hQ2 : ∀ W : World, (binOp .neq 48 (.agg #[.int .i64 yl, .int .i64 yc, .int .i64 ye]) (.agg #[.int .i64 0, .int .i64 0, .int .i64 0])).run Tryz.prog W = .ok (.bool false) W := fun W => by have h := neq_wr ⟨yl, yc, ye⟩ noW W; rw [decide_eq_true hz] at h; exact h
      have HPB := Lib.hid (show parsB s.data.toList = (T.m, noW) by unfold parsB; rw [HL.out, if_neg (by rw [HX.out]; simp), if_neg (by rw [HY.out, hz]; simp), HTm.out])
      clear hz
      go_wp2_with fail
      all_goals first
        | (have hle := laid_end (w := w) (B := w.heap.size) HB4.out HB5.out (Nat.le_refl _) (Nat.le_succ _) (HPT.out) (HTS.out) (HGR.out) (.inl ⟨_, set6_grown (_) w.heap.size (.string ⟨T.nm.toArray⟩) (.int .u32 T.d) (.slice A4 T.rs.length v4) (.int .u16 T.hd) (.slice A5 T.pt.length v5) (.slice A6 T.po.length v6), set3_grown (_) (w.heap.size + 1) (.int .i64 0) (.int .i64 0) (.int .i64 0)⟩)
           have hb := both_a HB4.out HB5.out (Nat.ne_of_lt (Nat.lt_succ_self _)) (.string ⟨T.nm.toArray⟩) (.int .u32 T.d) (.slice A4 T.rs.length v4) (.int .u16 T.hd) (.slice A5 T.pt.length v5) (.slice A6 T.po.length v6) (.int .i64 0) (.int .i64 0) (.int .i64 0)
           refine bodyPost_ret (v := .tuple #[.agg #[.string ⟨T.nm.toArray⟩, .int .u32 T.d, .slice A4 T.rs.length v4, .int .u16 T.hd, .slice A5 T.pt.length v5, .slice A6 T.po.length v6], .agg #[.int .i64 0, .int .i64 0, .int .i64 0]]) ?_ rfl ?_
           · exact res_parse rfl rfl hb.1 hb.2
           · exact parse_of (HPB.out) (by simp [TV.l, wrl, noW, Hrv.out, Hbv.out, Hqv.out]) rfl hle.1 hle.2.1 hle.2.2 HSz.out)
        | (have hle := laid_end (w := w) (B := w.heap.size) HB4.out HB5.out (Nat.le_refl _) (Nat.le_succ _) (HPT.out) (HTS.out) (HGR.out) (.inr ⟨_, set3_grown (_) (w.heap.size + 1) (.int .i64 0) (.int .i64 0) (.int .i64 0), set6_grown (_) w.heap.size (.string ⟨T.nm.toArray⟩) (.int .u32 T.d) (.slice A4 T.rs.length v4) (.int .u16 T.hd) (.slice A5 T.pt.length v5) (.slice A6 T.po.length v6)⟩)
           have hb := both_b HB4.out HB5.out (Nat.ne_of_lt (Nat.lt_succ_self _)) (.string ⟨T.nm.toArray⟩) (.int .u32 T.d) (.slice A4 T.rs.length v4) (.int .u16 T.hd) (.slice A5 T.pt.length v5) (.slice A6 T.po.length v6) (.int .i64 0) (.int .i64 0) (.int .i64 0)
           refine bodyPost_ret (v := .tuple #[.agg #[.string ⟨T.nm.toArray⟩, .int .u32 T.d, .slice A4 T.rs.length v4, .int .u16 T.hd, .slice A5 T.pt.length v5, .slice A6 T.po.length v6], .agg #[.int .i64 0, .int .i64 0, .int .i64 0]]) ?_ rfl ?_
           · exact res_parse rfl rfl hb.1 hb.2
           · exact parse_of (HPB.out) (by simp [TV.l, wrl, noW, Hrv.out, Hbv.out, Hqv.out]) rfl hle.1 hle.2.1 hle.2.2 HSz.out)
    · have hQ2 : ∀ W : World, (binOp .neq 48 (.agg #[.int .i64 yl, .int .i64 yc, .int .i64 ye]) (.agg #[.int .i64 0, .int .i64 0, .int .i64 0])).run Tryz.prog W = .ok (.bool true) W := fun W => by have h := neq_wr ⟨yl, yc, ye⟩ noW W; rw [decide_eq_false hz] at h; exact h
      have HPB := Lib.hid (show parsB s.data.toList = (zP, ⟨yl, yc, ye⟩) by unfold parsB; rw [HL.out, if_neg (by rw [HX.out]; simp), if_pos (by rw [HY.out]; exact hz), HY.out])
      clear hz
      go_wp2_with fail
      refine wp_region_any (by kernel_rfl) ?_
      change wpAny _ _ _ _ _ _ _ (World.drew _)
      have HB4 := Lib.hid HB4.out.drew
      have HB5 := Lib.hid HB5.out.drew
      have HTS := Lib.hid (TS.kept (show TS _ tb (m + 2000001) from HTS.out) (Below.refl _ _).drew)
      have HGR := Lib.hid (show World.grownBy w w3.drew (some tb) from grown_trans (HGR.out) (gb tb (Below.refl _ _).drew) (fun k hk => .inl hk))
      have c8v : w3.drew.cell? ⟨w2.heap.size, 8, none⟩ = some (.int .i64 yl) := c8
      have c9v : w3.drew.cell? ⟨w2.heap.size, 9, none⟩ = some (.int .i64 yc) := c9
      have cav : w3.drew.cell? ⟨w2.heap.size, 10, none⟩ = some (.int .i64 ye) := ca
      generalize World.drew _ = v0 at HB4 HB5 HTS HGR c8v c9v cav ⊢
      clear c8 c9 ca
      have q0 := HB4.out.cell 0 rfl
      have q1 := HB4.out.cell 1 rfl
      have q2 := HB4.out.cell 2 rfl
      have q3 := HB4.out.cell 3 rfl
      have q4 := HB4.out.cell 4 rfl
      have q5 := HB4.out.cell 5 rfl
      have qz0 := HB4.out.fz 0
      have qz1 := HB4.out.fz 1
      have qz2 := HB4.out.fz 2
      have qz3 := HB4.out.fz 3
      have qz4 := HB4.out.fz 4
      have qz5 := HB4.out.fz 5
      have ql := HB4.out.lt
      have g0 := HB5.out.cell 0 rfl
      have g1 := HB5.out.cell 1 rfl
      have g2 := HB5.out.cell 2 rfl
      have gz0 := HB5.out.fz 0
      have gz1 := HB5.out.fz 1
      have gz2 := HB5.out.fz 2
      have gl := HB5.out.lt
      refine wpAny_take (i := 0) (v := ?_) rfl (by kernel_rfl) (by kernel_rfl) (by kernel_rfl) (fun _ _ _ h => h) (Or.inl ⟨by rfl, ?_⟩) ?_
      rotate_left 1
      · intro w
        (go_simp) <;> (with_reducible rfl)
      refine wpAny_take (i := 1) (v := ?_) rfl (by kernel_rfl) (by kernel_rfl) (by kernel_rfl) (fun _ _ _ h => h) (Or.inl ⟨by rfl, ?_⟩) ?_
      rotate_left 1
      · intro w
        (go_simp) <;> (with_reducible rfl)
      refine wpAny_ready (rs := [2, 3]) (by kernel_rfl) (by simp) ?_
      refine AllReady.cons rfl (fun K hK => ?_) ?_
      · skip
        go_simp
        refine hK _ _ ?_
        clear hK K
        refine wpAny_ready (rs := [3]) (by kernel_rfl) (by simp) ?_
        refine AllReady.cons rfl (fun K hK => ?_) ?_
        · skip
          go_simp
          refine hK _ _ ?_
          clear hK K
          refine wpAny_ready (rs := [4]) (by kernel_rfl) (by simp) ?_
          refine AllReady.cons rfl (fun K hK => ?_) ?_
          · skip
            go_simp
            refine hK _ _ ?_
            clear hK K
            refine wpAny_done (by kernel_rfl) ?_ _
            go_wp2_with fail
            all_goals first
              | (have hle := laid_end (w := w) (B := w.heap.size) HB4.out HB5.out (Nat.le_refl _) (Nat.le_succ _) (PT.zero _ _) (HTS.out) (HGR.out) (.inl ⟨_, set6_grown (_) w.heap.size (.string ⟨#[]⟩) (.int .u32 0) (.slice none 0 0) (.int .u16 0) (.slice none 0 0) (.slice none 0 0), set3_grown (_) (w.heap.size + 1) (.int .i64 yl) (.int .i64 yc) (.int .i64 ye)⟩)
                 have hb := both_a HB4.out HB5.out (Nat.ne_of_lt (Nat.lt_succ_self _)) (.string ⟨#[]⟩) (.int .u32 0) (.slice none 0 0) (.int .u16 0) (.slice none 0 0) (.slice none 0 0) (.int .i64 yl) (.int .i64 yc) (.int .i64 ye)
                 refine bodyPost_ret (v := .tuple #[.agg #[.string ⟨#[]⟩, .int .u32 0, .slice none 0 0, .int .u16 0, .slice none 0 0, .slice none 0 0], .agg #[.int .i64 yl, .int .i64 yc, .int .i64 ye]]) ?_ rfl ?_
                 · exact res_parse rfl rfl hb.1 hb.2
                 · exact parse_of (HPB.out) (by simp [TV.l, T0, wrl]) rfl hle.1 hle.2.1 hle.2.2 sz_zero)
              | (have hle := laid_end (w := w) (B := w.heap.size) HB4.out HB5.out (Nat.le_refl _) (Nat.le_succ _) (PT.zero _ _) (HTS.out) (HGR.out) (.inr ⟨_, set3_grown (_) (w.heap.size + 1) (.int .i64 yl) (.int .i64 yc) (.int .i64 ye), set6_grown (_) w.heap.size (.string ⟨#[]⟩) (.int .u32 0) (.slice none 0 0) (.int .u16 0) (.slice none 0 0) (.slice none 0 0)⟩)
                 have hb := both_b HB4.out HB5.out (Nat.ne_of_lt (Nat.lt_succ_self _)) (.string ⟨#[]⟩) (.int .u32 0) (.slice none 0 0) (.int .u16 0) (.slice none 0 0) (.slice none 0 0) (.int .i64 yl) (.int .i64 yc) (.int .i64 ye)
                 refine bodyPost_ret (v := .tuple #[.agg #[.string ⟨#[]⟩, .int .u32 0, .slice none 0 0, .int .u16 0, .slice none 0 0, .slice none 0 0], .agg #[.int .i64 yl, .int .i64 yc, .int .i64 ye]]) ?_ rfl ?_
                 · exact res_parse rfl rfl hb.1 hb.2
                 · exact parse_of (HPB.out) (by simp [TV.l, T0, wrl]) rfl hle.1 hle.2.1 hle.2.2 sz_zero)
          exact AllReady.nil
        exact AllReady.nil
      refine AllReady.cons rfl (fun K hK => ?_) ?_
      · skip
        go_simp
        refine hK _ _ ?_
        clear hK K
        refine wpAny_ready (rs := [2]) (by kernel_rfl) (by simp) ?_
        refine AllReady.cons rfl (fun K hK => ?_) ?_
        · skip
          go_simp
          refine hK _ _ ?_
          clear hK K
          refine wpAny_ready (rs := [4]) (by kernel_rfl) (by simp) ?_
          refine AllReady.cons rfl (fun K hK => ?_) ?_
          · skip
            go_simp
            refine hK _ _ ?_
            clear hK K
            refine wpAny_done (by kernel_rfl) ?_ _
            go_wp2_with fail
            all_goals first
              | (have hle := laid_end (w := w) (B := w.heap.size) HB4.out HB5.out (Nat.le_refl _) (Nat.le_succ _) (PT.zero _ _) (HTS.out) (HGR.out) (.inl ⟨_, set6_grown (_) w.heap.size (.string ⟨#[]⟩) (.int .u32 0) (.slice none 0 0) (.int .u16 0) (.slice none 0 0) (.slice none 0 0), set3_grown (_) (w.heap.size + 1) (.int .i64 yl) (.int .i64 yc) (.int .i64 ye)⟩)
                 have hb := both_a HB4.out HB5.out (Nat.ne_of_lt (Nat.lt_succ_self _)) (.string ⟨#[]⟩) (.int .u32 0) (.slice none 0 0) (.int .u16 0) (.slice none 0 0) (.slice none 0 0) (.int .i64 yl) (.int .i64 yc) (.int .i64 ye)
                 refine bodyPost_ret (v := .tuple #[.agg #[.string ⟨#[]⟩, .int .u32 0, .slice none 0 0, .int .u16 0, .slice none 0 0, .slice none 0 0], .agg #[.int .i64 yl, .int .i64 yc, .int .i64 ye]]) ?_ rfl ?_
                 · exact res_parse rfl rfl hb.1 hb.2
                 · exact parse_of (HPB.out) (by simp [TV.l, T0, wrl]) rfl hle.1 hle.2.1 hle.2.2 sz_zero)
              | (have hle := laid_end (w := w) (B := w.heap.size) HB4.out HB5.out (Nat.le_refl _) (Nat.le_succ _) (PT.zero _ _) (HTS.out) (HGR.out) (.inr ⟨_, set3_grown (_) (w.heap.size + 1) (.int .i64 yl) (.int .i64 yc) (.int .i64 ye), set6_grown (_) w.heap.size (.string ⟨#[]⟩) (.int .u32 0) (.slice none 0 0) (.int .u16 0) (.slice none 0 0) (.slice none 0 0)⟩)
                 have hb := both_b HB4.out HB5.out (Nat.ne_of_lt (Nat.lt_succ_self _)) (.string ⟨#[]⟩) (.int .u32 0) (.slice none 0 0) (.int .u16 0) (.slice none 0 0) (.slice none 0 0) (.int .i64 yl) (.int .i64 yc) (.int .i64 ye)
                 refine bodyPost_ret (v := .tuple #[.agg #[.string ⟨#[]⟩, .int .u32 0, .slice none 0 0, .int .u16 0, .slice none 0 0, .slice none 0 0], .agg #[.int .i64 yl, .int .i64 yc, .int .i64 ye]]) ?_ rfl ?_
                 · exact res_parse rfl rfl hb.1 hb.2
                 · exact parse_of (HPB.out) (by simp [TV.l, T0, wrl]) rfl hle.1 hle.2.1 hle.2.2 sz_zero)
          exact AllReady.nil
        exact AllReady.nil
      exact AllReady.nil
  · have hQ : ∀ W : World, (binOp .neq 48 (.agg #[.int .i64 xl, .int .i64 xc, .int .i64 xe]) (.agg #[.int .i64 0, .int .i64 0, .int .i64 0])).run Tryz.prog W = .ok (.bool true) W := fun W => by have h := neq_wr ⟨xl, xc, xe⟩ noW W; rw [decide_eq_false hx] at h; exact h
    have HPB := Lib.hid (show parsB s.data.toList = (zP, ⟨xl, xc, xe⟩) by unfold parsB; rw [HL.out, if_pos hx])
    clear hx
    have HB4 := HB4b
    have HB5 := HB5b
    go_wp2_with fail
    refine wp_region_any (by kernel_rfl) ?_
    change wpAny _ _ _ _ _ _ _ (World.drew _)
    have HB4 := Lib.hid HB4.out.drew
    have HB5 := Lib.hid HB5.out.drew
    have HTS := Lib.hid (TS.kept (show TS _ tb (m + 2000001) from (HP.out.ts.kept HB1b.out).mono (by omega)) (Below.refl _ _).drew)
    have HGR := Lib.hid (show World.grownBy w w2.drew (some tb) from grown_trans (gb tb HB1b.out) (gb tb (Below.refl _ _).drew) (fun k hk => .inl hk))
    have x0v : w2.drew.cell? ⟨w1.heap.size, 0, none⟩ = some (.int .i64 xl) := x0
    have x1v : w2.drew.cell? ⟨w1.heap.size, 1, none⟩ = some (.int .i64 xc) := x1
    have x2v : w2.drew.cell? ⟨w1.heap.size, 2, none⟩ = some (.int .i64 xe) := x2
    generalize World.drew _ = v0 at HB4 HB5 HTS HGR x0v x1v x2v ⊢
    clear x0 x1 x2
    have q0 := HB4.out.cell 0 rfl
    have q1 := HB4.out.cell 1 rfl
    have q2 := HB4.out.cell 2 rfl
    have q3 := HB4.out.cell 3 rfl
    have q4 := HB4.out.cell 4 rfl
    have q5 := HB4.out.cell 5 rfl
    have qz0 := HB4.out.fz 0
    have qz1 := HB4.out.fz 1
    have qz2 := HB4.out.fz 2
    have qz3 := HB4.out.fz 3
    have qz4 := HB4.out.fz 4
    have qz5 := HB4.out.fz 5
    have ql := HB4.out.lt
    have g0 := HB5.out.cell 0 rfl
    have g1 := HB5.out.cell 1 rfl
    have g2 := HB5.out.cell 2 rfl
    have gz0 := HB5.out.fz 0
    have gz1 := HB5.out.fz 1
    have gz2 := HB5.out.fz 2
    have gl := HB5.out.lt
    refine wpAny_take (i := 0) (v := ?_) rfl (by kernel_rfl) (by kernel_rfl) (by kernel_rfl) (fun _ _ _ h => h) (Or.inl ⟨by rfl, ?_⟩) ?_
    rotate_left 1
    · intro w
      (go_simp) <;> (with_reducible rfl)
    refine wpAny_ready (rs := [1, 2]) (by kernel_rfl) (by simp) ?_
    refine AllReady.cons rfl (fun K hK => ?_) ?_
    · skip
      go_simp
      refine hK _ _ ?_
      clear hK K
      refine wpAny_ready (rs := [2]) (by kernel_rfl) (by simp) ?_
      refine AllReady.cons rfl (fun K hK => ?_) ?_
      · skip
        go_simp
        refine hK _ _ ?_
        clear hK K
        refine wpAny_ready (rs := [3]) (by kernel_rfl) (by simp) ?_
        refine AllReady.cons rfl (fun K hK => ?_) ?_
        · skip
          go_simp
          refine hK _ _ ?_
          clear hK K
          refine wpAny_done (by kernel_rfl) ?_ _
          go_wp2_with fail
          all_goals first
            | (have hle := laid_end (w := w) (B := w.heap.size) HB4.out HB5.out (Nat.le_refl _) (Nat.le_succ _) (PT.zero _ _) (HTS.out) (HGR.out) (.inl ⟨_, set6_grown (_) w.heap.size (.string ⟨#[]⟩) (.int .u32 0) (.slice none 0 0) (.int .u16 0) (.slice none 0 0) (.slice none 0 0), set3_grown (_) (w.heap.size + 1) (.int .i64 xl) (.int .i64 xc) (.int .i64 xe)⟩)
               have hb := both_a HB4.out HB5.out (Nat.ne_of_lt (Nat.lt_succ_self _)) (.string ⟨#[]⟩) (.int .u32 0) (.slice none 0 0) (.int .u16 0) (.slice none 0 0) (.slice none 0 0) (.int .i64 xl) (.int .i64 xc) (.int .i64 xe)
               refine bodyPost_ret (v := .tuple #[.agg #[.string ⟨#[]⟩, .int .u32 0, .slice none 0 0, .int .u16 0, .slice none 0 0, .slice none 0 0], .agg #[.int .i64 xl, .int .i64 xc, .int .i64 xe]]) ?_ rfl ?_
               · exact res_parse rfl rfl hb.1 hb.2
               · exact parse_of (HPB.out) (by simp [TV.l, T0, wrl]) rfl hle.1 hle.2.1 hle.2.2 sz_zero)
            | (have hle := laid_end (w := w) (B := w.heap.size) HB4.out HB5.out (Nat.le_refl _) (Nat.le_succ _) (PT.zero _ _) (HTS.out) (HGR.out) (.inr ⟨_, set3_grown (_) (w.heap.size + 1) (.int .i64 xl) (.int .i64 xc) (.int .i64 xe), set6_grown (_) w.heap.size (.string ⟨#[]⟩) (.int .u32 0) (.slice none 0 0) (.int .u16 0) (.slice none 0 0) (.slice none 0 0)⟩)
               have hb := both_b HB4.out HB5.out (Nat.ne_of_lt (Nat.lt_succ_self _)) (.string ⟨#[]⟩) (.int .u32 0) (.slice none 0 0) (.int .u16 0) (.slice none 0 0) (.slice none 0 0) (.int .i64 xl) (.int .i64 xc) (.int .i64 xe)
               refine bodyPost_ret (v := .tuple #[.agg #[.string ⟨#[]⟩, .int .u32 0, .slice none 0 0, .int .u16 0, .slice none 0 0, .slice none 0 0], .agg #[.int .i64 xl, .int .i64 xc, .int .i64 xe]]) ?_ rfl ?_
               · exact res_parse rfl rfl hb.1 hb.2
               · exact parse_of (HPB.out) (by simp [TV.l, T0, wrl]) rfl hle.1 hle.2.1 hle.2.2 sz_zero)
        exact AllReady.nil
      exact AllReady.nil
    refine AllReady.cons rfl (fun K hK => ?_) ?_
    · skip
      go_simp
      refine hK _ _ ?_
      clear hK K
      refine wpAny_ready (rs := [1]) (by kernel_rfl) (by simp) ?_
      refine AllReady.cons rfl (fun K hK => ?_) ?_
      · skip
        go_simp
        refine hK _ _ ?_
        clear hK K
        refine wpAny_ready (rs := [3]) (by kernel_rfl) (by simp) ?_
        refine AllReady.cons rfl (fun K hK => ?_) ?_
        · skip
          go_simp
          refine hK _ _ ?_
          clear hK K
          refine wpAny_done (by kernel_rfl) ?_ _
          go_wp2_with fail
          all_goals first
            | (have hle := laid_end (w := w) (B := w.heap.size) HB4.out HB5.out (Nat.le_refl _) (Nat.le_succ _) (PT.zero _ _) (HTS.out) (HGR.out) (.inl ⟨_, set6_grown (_) w.heap.size (.string ⟨#[]⟩) (.int .u32 0) (.slice none 0 0) (.int .u16 0) (.slice none 0 0) (.slice none 0 0), set3_grown (_) (w.heap.size + 1) (.int .i64 xl) (.int .i64 xc) (.int .i64 xe)⟩)
               have hb := both_a HB4.out HB5.out (Nat.ne_of_lt (Nat.lt_succ_self _)) (.string ⟨#[]⟩) (.int .u32 0) (.slice none 0 0) (.int .u16 0) (.slice none 0 0) (.slice none 0 0) (.int .i64 xl) (.int .i64 xc) (.int .i64 xe)
               refine bodyPost_ret (v := .tuple #[.agg #[.string ⟨#[]⟩, .int .u32 0, .slice none 0 0, .int .u16 0, .slice none 0 0, .slice none 0 0], .agg #[.int .i64 xl, .int .i64 xc, .int .i64 xe]]) ?_ rfl ?_
               · exact res_parse rfl rfl hb.1 hb.2
               · exact parse_of (HPB.out) (by simp [TV.l, T0, wrl]) rfl hle.1 hle.2.1 hle.2.2 sz_zero)
            | (have hle := laid_end (w := w) (B := w.heap.size) HB4.out HB5.out (Nat.le_refl _) (Nat.le_succ _) (PT.zero _ _) (HTS.out) (HGR.out) (.inr ⟨_, set3_grown (_) (w.heap.size + 1) (.int .i64 xl) (.int .i64 xc) (.int .i64 xe), set6_grown (_) w.heap.size (.string ⟨#[]⟩) (.int .u32 0) (.slice none 0 0) (.int .u16 0) (.slice none 0 0) (.slice none 0 0)⟩)
               have hb := both_b HB4.out HB5.out (Nat.ne_of_lt (Nat.lt_succ_self _)) (.string ⟨#[]⟩) (.int .u32 0) (.slice none 0 0) (.int .u16 0) (.slice none 0 0) (.slice none 0 0) (.int .i64 xl) (.int .i64 xc) (.int .i64 xe)
               refine bodyPost_ret (v := .tuple #[.agg #[.string ⟨#[]⟩, .int .u32 0, .slice none 0 0, .int .u16 0, .slice none 0 0, .slice none 0 0], .agg #[.int .i64 xl, .int .i64 xc, .int .i64 xe]]) ?_ rfl ?_
               · exact res_parse rfl rfl hb.1 hb.2
               · exact parse_of (HPB.out) (by simp [TV.l, T0, wrl]) rfl hle.1 hle.2.1 hle.2.2 sz_zero)
        exact AllReady.nil
      exact AllReady.nil
    exact AllReady.nil
end Go.Proofs.YtinofjbnfmalkaaGreatDoor.Pa
