/- MeanNarrows: the walk. -/
import Derived.Test.YtagbamengcnfeaaMeO
import Derived.Deep.RegionHeld3
namespace Go.Proofs.Ytagbamengcnfeaa.Me
open Go.RowKit Go.WideElems
theorem run_none_c {w : World} (base : Nat) (t ty e : TypeId) (i : TypeInfo) (size : Nat) (ht : Try.prog.underlying t = some (.slice e)) (hi : Try.prog.info? e = some i) (c : Nat)
    (v : Value) (n : Nat) (xs : List Value) (hown : w.ownsRow base e size v n xs) : (Builtin.append_ #[t, t] ty #[v, .slice none 0 c]).run Try.prog w = .ok v w := by
  rcases hown.2 with ⟨rfl, rfl⟩ | ⟨g, cap, cur, rfl, _, _, hnc, _⟩
  · simp [Builtin.append_, run_underlying ht, sizeOf, typeInfo, hi, Builtin.lenOf, Builtin.firstCells]
  · simp [Builtin.append_, run_underlying ht, sizeOf, typeInfo, hi, Builtin.lenOf, Builtin.firstCells, hnc, storeCells]
/-- A list behind a row that the call owns: the run. -/
theorem run_list {w : World} (t ty e : TypeId) (zero : Value) (size bytes : Nat) (hinfo : (Try.prog.info? e).map (fun i => (i.zero, i.size, i.bytes)) = some (some zero, size, bytes)) (ht : Try.prog.underlying t = some (.slice e)) (hzs : zero.cells.size = size) (hsz : 0 < size) (hby : bytes ≤ 128)
    (base : Nat) (v : Value) (n : Nat) (xs : List Value) (hown : w.ownsRow base e size v n xs) (A : Option Addr) (m c : Nat) (news : List Value) (hR : Rd w size m A news) (h1 : ∀ u ∈ news, u.oneCell' = true) (hn : n + m ≤ 100000) (hbase : base ≤ w.heap.size) :
    ∃ v' w', (Builtin.append_ #[t, t] ty #[v, .slice A m c]).run Try.prog w = .ok v' w' ∧ w'.ownsRow base e size v' (n + m) (xs ++ news) ∧ w.grownBy w' v.ownBlock ∧ (v'.ownBlock = v.ownBlock ∨ v'.ownBlock = some w.heap.size) := by
  obtain ⟨i0, hi, hz0, hz1, hz2⟩ := info_parts hinfo
  cases A with
  | none =>
    obtain rfl : m = 0 := by
      rcases Nat.eq_zero_or_pos m with h | h
      · exact h
      · obtain ⟨b, o, e, _⟩ := hR.pos h
        cases e
    have hnil : news = [] := by have := hR.len; simp at this; exact this
    subst hnil
    exact ⟨v, w, run_none_c base t ty e i0 size ht hi c v n xs hown, by simpa using hown, ⟨rfl, rfl, rfl, Nat.le_refl _, fun _ _ _ => rfl⟩, .inl rfl⟩
  | some ad =>
    obtain ⟨v', w', h2, h3, h4, _, h5⟩ := run_append_own_at (P := Try.prog) w base t ty e i0 zero size bytes ht hi hz0 hz1 hz2 hzs hsz v n xs hown ad m c news hR.len (fun j u hu => by
      have hlt := (List.getElem?_eq_some_iff.1 hu).1
      rw [hR.len] at hlt
      obtain ⟨b, o, e, hb, hc⟩ := hR.pos (by cases m with | zero => simp at hlt | succ m => omega)
      cases e
      rw [addr_at]; exact hc j u hu) h1 (by unfold maxLen; omega) (by have : (n + m) * bytes ≤ 100000 * 128 := Nat.mul_le_mul hn hby; omega) hbase
    exact ⟨v', w', h2, h3, h4, h5⟩
theorem conds_one (l : List CondM) : ∀ u ∈ l.flatMap CondM.cells, u.oneCell' = true := by
  intro u hu
  obtain ⟨x, _, hx⟩ := List.mem_flatMap.1 hu
  simp only [CondM.cells, List.mem_cons, List.not_mem_nil, or_false] at hx
  rcases hx with rfl | rfl | rfl | rfl <;> rfl
theorem rule_one (r : RuleV) : ∀ u ∈ r.cells, u.oneCell' = true := by
  intro u hu
  simp only [RuleV.cells, List.mem_cons, List.not_mem_nil, or_false] at hu
  rcases hu with rfl | rfl | rfl <;> rfl
theorem bk_rd {w : World} {g t z : Nat} {l : List Value} (h : Bk w g t l) (hl : l.length = z) : Rd w z 1 (some ⟨g, 0, none⟩) l :=
  ⟨by omega, .inr ⟨g, 0, rfl, h.lt, fun j u hu => by rw [Nat.zero_add]; exact h.cell j hu⟩⟩
/-- Rules of one number; a list backwards, as far as it is gone through. -/
def ownL (k : Nat) (l : List RuleV) : List RuleV := l.filter fun r => decide (r.m.num = k)
theorem ownL_yes {k i : Nat} {l : List RuleV} {r : RuleV} (h : l[i]? = some r) (he : r.m.num = k) : ownL k (l.take (i + 1)) = ownL k (l.take i) ++ [r] := by
  obtain ⟨h1, h2⟩ := List.getElem?_eq_some_iff.1 h
  unfold ownL
  rw [List.take_succ_eq_append_getElem h1, h2, List.filter_append, List.filter_cons_of_pos (by simpa using he), List.filter_nil]
theorem ownL_no {k i : Nat} {l : List RuleV} {r : RuleV} (h : l[i]? = some r) (he : r.m.num ≠ k) : ownL k (l.take (i + 1)) = ownL k (l.take i) := by
  obtain ⟨h1, h2⟩ := List.getElem?_eq_some_iff.1 h
  unfold ownL
  rw [List.take_succ_eq_append_getElem h1, h2, List.filter_append, List.filter_cons_of_neg (by simpa using he), List.filter_nil, List.append_nil]
theorem back_next {i : Nat} {l : List RuleV} {r : RuleV} (h : l[l.length - 1 - i]? = some r) (hi : i < l.length) : l.reverse.take (i + 1) = l.reverse.take i ++ [r] := by
  have hl : i < l.reverse.length := by simpa using hi
  rw [List.take_succ_eq_append_getElem hl, List.getElem_reverse]
  obtain ⟨h1, h2⟩ := List.getElem?_eq_some_iff.1 h
  rw [h2]
/-- Of rules of other calls nothing is said; backwards as strong a thing is said. -/
theorem acts_own (x : RcM) (l : List RuleV) : actsB x ((ownL x.num l).map RuleV.m) = actsB x (l.map RuleV.m) := by
  unfold actsB ownL
  induction l with
  | nil => rfl
  | cons r l ih =>
    by_cases h : r.m.num = x.num
    · rw [List.filter_cons_of_pos (by simpa using h), List.map_cons, List.map_cons]
      cases hm : matB r.m x with
      | true => rw [List.filter_cons_of_pos (by simpa using hm), List.filter_cons_of_pos (by simpa using hm), List.map_cons, List.map_cons, ih]
      | false => rw [List.filter_cons_of_neg (by simpa using hm), List.filter_cons_of_neg (by simpa using hm), ih]
    · have hm : matB r.m x = false := by unfold matB; rw [decide_eq_false h]; rfl
      rw [List.filter_cons_of_neg (by simpa using h), List.map_cons, List.filter_cons_of_neg (by simpa using hm), ih]
theorem acts_back (x : RcM) (l : List RuleV) : actsB x ((l.reverse).map RuleV.m) = (actsB x (l.map RuleV.m)).reverse := by
  unfold actsB
  rw [← List.map_reverse, ← List.filter_reverse, ← List.map_reverse]
theorem says_acts (d : Nat) (ms : List RuleM) (x : RcM) : saysR d ms x = if x.arch = 3221225534 then (if actsB x ms = [] then d else Rec.foldS (actsB x ms)) else 2147483648 := by
  unfold saysR
  have := best_fold ⟨[], d, ms, 0, [], []⟩ x
  unfold best at this
  simp only at this
  rw [this]
theorem says_own (d : Nat) (x : RcM) (l : List RuleV) : saysR d ((ownL x.num l).map RuleV.m) x = saysR d (l.map RuleV.m) x := by rw [says_acts, says_acts, acts_own]
theorem fold_rev (l : List Nat) : Rec.strN (Rec.foldS l.reverse) = Rec.strN (Rec.foldS l) := by
  cases hl : l with
  | nil => rfl
  | cons a t =>
    rw [← hl]
    have hn : l ≠ [] := by rw [hl]; simp
    have hr : l.reverse ≠ [] := by simpa using hn
    obtain ⟨j, h1, _, h3⟩ := Rec.foldS_first l hn
    obtain ⟨k, g1, _, g3⟩ := Rec.foldS_first l.reverse hr
    have e1 := h3 _ (List.mem_reverse.1 (List.mem_of_getElem? g1))
    have e2 := g3 _ (List.mem_reverse.2 (List.mem_of_getElem? h1))
    omega
theorem says_back (d : Nat) (x : RcM) (l : List RuleV) : Rec.strN (saysR d (l.reverse.map RuleV.m) x) = Rec.strN (saysR d (l.map RuleV.m) x) := by
  rw [says_acts, says_acts, acts_back]
  by_cases h : x.arch = 3221225534
  · rw [if_pos h, if_pos h]
    by_cases h2 : actsB x (l.map RuleV.m) = []
    · rw [if_pos h2, if_pos (by rw [h2]; rfl)]
    · rw [if_neg h2, if_neg (by simpa using h2)]
      exact fold_rev _
  · rw [if_neg h, if_neg h]
theorem says_lt {d : Nat} {l : List RuleV} {x : RcM} (hd : d < 4294967296) (h : ∀ r ∈ l, r.m.ok) : saysR d (l.map RuleV.m) x < 4294967296 := by
  rw [says_acts]
  split
  · split
    · exact hd
    · rename_i h1 h2
      refine Rec.foldS_lt (fun a ha => ?_) h2
      unfold actsB at ha
      obtain ⟨r, hr, rfl⟩ := List.mem_map.1 ha
      obtain ⟨v, hv, rfl⟩ := List.mem_map.1 (List.mem_filter.1 hr).1
      exact (h v hv).2.1
  · omega
theorem mat_more {num act : Nat} {cs : List CondM} {c : CondM} {x : RcM} (h : matB ⟨num, act, cs ++ [c]⟩ x = true) : matB ⟨num, act, cs⟩ x = true := by
  unfold matB at h ⊢
  simp only [List.all_append, Bool.and_eq_true] at h ⊢
  exact ⟨h.1, h.2.1⟩
/-- What the rounds over the rules build: the rules of the call's number, the rules backwards. -/
structure NS (w8 wr : World) (g11 g12 g13 pd : Nat) (x : RcM) (vo vb : Value) (ro rb : List RuleV) : Prop where
  k11 : Bk wr g11 33 x.cells
  k12 : Bk wr g12 43 [.string ⟨#[]⟩, .int .u32 pd, vo, .int .u16 0, .slice none 0 0, .slice none 0 0]
  k13 : Bk wr g13 43 [.string ⟨#[]⟩, .int .u32 pd, vb, .int .u16 0, .slice none 0 0, .slice none 0 0]
  ne : g12 ≠ g13
  oo : wr.ownsRow w8.heap.size 64 3 vo ro.length (ro.flatMap RuleV.cells)
  ob : wr.ownsRow w8.heap.size 64 3 vb rb.length (rb.flatMap RuleV.cells)
  sep : ∀ g, vo.ownBlock = some g → vb.ownBlock ≠ some g
  bel : Below w8.heap.size w8 wr
  ge12 : w8.heap.size ≤ g12
  ge13 : w8.heap.size ≤ g13
section
variable {w8 wr w' w1 : World} {g11 g12 g13 pd : Nat} {x : RcM} {vo vb v' : Value} {ro rb : List RuleV}
theorem NS.kept (h : NS w8 wr g11 g12 g13 pd x vo vb ro rb) (hb : Below wr.heap.size wr w') : NS w8 w' g11 g12 g13 pd x vo vb ro rb :=
  ⟨h.k11.kept hb, h.k12.kept hb, h.k13.kept hb, h.ne, own_keepN h.oo hb, own_keepN h.ob hb, h.sep, h.bel.trans (hb.mono h.bel.size), h.ge12, h.ge13⟩
theorem NS.addOwn (h : NS w8 wr g11 g12 g13 pd x vo vb ro rb) (r : RuleV) (hown : w1.ownsRow w8.heap.size 64 3 v' (ro.length + 1) (ro.flatMap RuleV.cells ++ r.cells)) (hg : wr.grownBy w1 vo.ownBlock) (hat : v'.ownBlock = vo.ownBlock ∨ v'.ownBlock = some wr.heap.size) :
    NS w8 (w1.setCell ⟨g12, 2, none⟩ v') g11 g12 g13 pd x v' vb (ro ++ [r]) rb := by
  obtain ⟨_, _, _, _, _, hty, _⟩ := own_typed h.oo
  obtain ⟨_, _, _, _, _, htb, _⟩ := own_typed h.ob
  obtain ⟨_, _, _, _, _, hty', _⟩ := own_typed hown
  have o11 := h.k11.appended hg hty (by decide)
  have o12 := h.k12.appended hg hty (by decide)
  have o13 := h.k13.appended hg hty (by decide)
  have hob : w1.ownsRow w8.heap.size 64 3 vb rb.length (rb.flatMap RuleV.cells) := by
    cases e : vo.ownBlock with
    | none => rw [e] at hg; exact own_below h.ob ⟨hg.os, hg.tape, hg.output, hg.size, fun i hi => hg.block i hi (by simp)⟩
    | some g => rw [e] at hg; exact own_keep h.ob hg (fun b hb e2 => h.sep g e (e2 ▸ hb))
  have hs := only_set w1 g12 2 v'
  have htb1 := (own_typed hob)
  obtain ⟨_, _, _, _, _, htb', _⟩ := htb1
  have hb1 : Below w8.heap.size w8 w1 := h.bel.grown hg h.bel.size (fun g e => (h.oo.lt g e).1)
  refine ⟨o11.grown hs (fun e => (o11.tyb.ne o12.tyb (by decide)) (Option.some.inj e)), o12.set 2 v', o13.grown hs (fun e => h.ne (Option.some.inj e).symm), h.ne, ?_, own_keep hob hs (fun b hb => (htb' b hb).ne o12.tyb (by decide)), ?_, hb1.grown hs hb1.size (fun g e => by cases e; exact h.ge12), h.ge12, h.ge13⟩
  · rw [List.length_append, List.flatMap_append]
    simp only [List.length_singleton, List.flatMap_cons, List.flatMap_nil, List.append_nil]
    exact own_keep hown hs (fun b hb => (hty' b hb).ne o12.tyb (by decide))
  · intro g hg1 hg2
    rcases hat with e | e
    · exact h.sep g (e ▸ hg1) hg2
    · rw [e] at hg1; cases hg1
      exact Nat.lt_irrefl _ (h.ob.lt _ hg2).2
theorem NS.addBack (h : NS w8 wr g11 g12 g13 pd x vo vb ro rb) (r : RuleV) (hown : w1.ownsRow w8.heap.size 64 3 v' (rb.length + 1) (rb.flatMap RuleV.cells ++ r.cells)) (hg : wr.grownBy w1 vb.ownBlock) (hat : v'.ownBlock = vb.ownBlock ∨ v'.ownBlock = some wr.heap.size) :
    NS w8 (w1.setCell ⟨g13, 2, none⟩ v') g11 g12 g13 pd x vo v' ro (rb ++ [r]) := by
  obtain ⟨_, _, _, _, _, hty, _⟩ := own_typed h.ob
  obtain ⟨_, _, _, _, _, hty', _⟩ := own_typed hown
  have o11 := h.k11.appended hg hty (by decide)
  have o12 := h.k12.appended hg hty (by decide)
  have o13 := h.k13.appended hg hty (by decide)
  have hob : w1.ownsRow w8.heap.size 64 3 vo ro.length (ro.flatMap RuleV.cells) := by
    cases e : vb.ownBlock with
    | none => rw [e] at hg; exact own_below h.oo ⟨hg.os, hg.tape, hg.output, hg.size, fun i hi => hg.block i hi (by simp)⟩
    | some g => rw [e] at hg; exact own_keep h.oo hg (fun b hb e2 => h.sep b hb (e2 ▸ e))
  have hs := only_set w1 g13 2 v'
  obtain ⟨_, _, _, _, _, htb', _⟩ := own_typed hob
  have hb1 : Below w8.heap.size w8 w1 := h.bel.grown hg h.bel.size (fun g e => (h.ob.lt g e).1)
  refine ⟨o11.grown hs (fun e => (o11.tyb.ne o13.tyb (by decide)) (Option.some.inj e)), o12.grown hs (fun e => h.ne (Option.some.inj e)), o13.set 2 v', h.ne, own_keep hob hs (fun b hb => (htb' b hb).ne o13.tyb (by decide)), ?_, ?_, hb1.grown hs hb1.size (fun g e => by cases e; exact h.ge13), h.ge12, h.ge13⟩
  · rw [List.length_append, List.flatMap_append]
    simp only [List.length_singleton, List.flatMap_cons, List.flatMap_nil, List.append_nil]
    exact own_keep hown hs (fun b hb => (hty' b hb).ne o13.tyb (by decide))
  · intro g hg1 hg2
    rcases hat with e | e
    · exact h.sep g hg1 (e ▸ hg2)
    · rw [e] at hg2; cases hg2
      exact Nat.lt_irrefl _ (h.oo.lt _ hg1).2
end
theorem nine_rec {w : World} {b o k : Nat} {l : List RcM} {x : RcM} (hc : ∀ k x, l[k]? = some x → ∀ j v, (RcM.cells x)[j]? = some v → w.cell? ⟨b, o + (k * 9 + j), none⟩ = some v) (h : l[k]? = some x) :
    w.cell? ⟨b, o + k * 9, none⟩ = some (.int .u32 x.num) ∧ w.cell? ⟨b, o + k * 9 + 1, none⟩ = some (.int .u32 x.arch) ∧ w.cell? ⟨b, o + k * 9 + 2, none⟩ = some (.int .u64 x.at_) ∧ w.cell? ⟨b, o + k * 9 + 3, none⟩ = some (.int .u64 x.a0) ∧ w.cell? ⟨b, o + k * 9 + 4, none⟩ = some (.int .u64 x.a1) ∧ w.cell? ⟨b, o + k * 9 + 5, none⟩ = some (.int .u64 x.a2) ∧ w.cell? ⟨b, o + k * 9 + 6, none⟩ = some (.int .u64 x.a3) ∧ w.cell? ⟨b, o + k * 9 + 7, none⟩ = some (.int .u64 x.a4) ∧ w.cell? ⟨b, o + k * 9 + 8, none⟩ = some (.int .u64 x.a5) := by
  have hj := fun j v hv => hc k x h j v hv
  simp only [← Nat.add_assoc] at hj
  exact ⟨hj 0 _ rfl, hj 1 _ rfl, hj 2 _ rfl, hj 3 _ rfl, hj 4 _ rfl, hj 5 _ rfl, hj 6 _ rfl, hj 7 _ rfl, hj 8 _ rfl⟩
theorem cond_one (c : CondM) : ∀ u ∈ c.cells, u.oneCell' = true := by
  intro u hx
  simp only [CondM.cells, List.mem_cons, List.not_mem_nil, or_false] at hx
  rcases hx with rfl | rfl | rfl | rfl <;> rfl
theorem rule3_one (a b : Nat) (A : Option Addr) (n c : Nat) : ∀ u ∈ [Value.int .u32 a, .int .u32 b, .slice A n c], u.oneCell' = true := by
  intro u hu
  simp only [List.mem_cons, List.not_mem_nil, or_false] at hu
  rcases hu with rfl | rfl | rfl <;> rfl
theorem own0_ne {W : World} {gN t n c : Nat} {l : List Value} (h : Bk W gN t l) : ∀ g, (Value.slice (some ⟨W.heap.size, 0, none⟩) n c).ownBlock = some g → g ≠ gN := fun g hg => by
  cases hg
  exact Nat.ne_of_gt h.lt
theorem own_next {v v' : Value} {W : World} {gN t : Nat} {l : List Value} (hat : v'.ownBlock = v.ownBlock ∨ v'.ownBlock = some W.heap.size) (hd : ∀ g, v.ownBlock = some g → g ≠ gN) (h : Bk W gN t l) : ∀ g, v'.ownBlock = some g → g ≠ gN := fun g hg => by
  rcases hat with e | e
  · exact hd g (e ▸ hg)
  · rw [e] at hg; cases hg
    exact Nat.ne_of_gt h.lt
structure ScIn (ca cb cm cv : Nat) : Prop where
  a : ca < 256
  b : cb < 256
  m : cm < 256
  v : cv < 256
set_option maxHeartbeats 64000000 in
set_option maxRecDepth 100000 in
theorem walk_meanNarrows (s : SmV) (ca cb cm cv : Nat) (A : Option Addr) (n c : Nat) (PB : Option Addr) (pn pc : Nat) (zs : List Int) (w : World) (hs : SmIn w s) (hsc : ScIn ca cb cm cv) (hl : RecsIn w A n c) (hk : IsRow .u8 w PB pn pc zs) :
    Calls Try.prog 4 #[.agg s.cells.toArray, .agg #[.int .u8 ca, .int .u8 cb, .int .u8 cm, .int .u8 cv], .slice A n c, .slice PB pn pc] w (RetB true w) := by
  obtain ⟨ni, df, er, hh, srs, SA, sc, dl, DA, dc, gl, GA, gc, kl, KA, kc⟩ := s
  obtain ⟨lr, hlr, hlok, hlR, hlm, hlA⟩ := hl
  obtain ⟨pl, hpl, hp8, hpR, hpm⟩ := row_u8 hk
  show Calls Try.prog _ #[.agg #[.int .u8 ni, .int .u8 df, .int .u8 er, .slice SA srs.length sc, .int .u16 hh, .slice DA dl.length dc, .slice GA gl.length gc, .slice KA kl.length kc], .agg #[.int .u8 ca, .int .u8 cb, .int .u8 cm, .int .u8 cv], .slice A n c, .slice PB pn pc] w _
  obtain ⟨hk1, hk2, hb⟩ := two_new w #[.int .u8 ni, .int .u8 df, .int .u8 er, .slice SA srs.length sc, .int .u16 hh, .slice DA dl.length dc, .slice GA gl.length gc, .slice KA kl.length kc] #[.int .u8 ca, .int .u8 cb, .int .u8 cm, .int .u8 cv] 28 61 (la := [.int .u8 ni, .int .u8 df, .int .u8 er, .slice SA srs.length sc, .int .u16 hh, .slice DA dl.length dc, .slice GA gl.length gc, .slice KA kl.length kc]) (lb := [.int .u8 ca, .int .u8 cb, .int .u8 cm, .int .u8 cv]) rfl rfl
  have HSm := Lib.hid (fun W (hb : Below w.heap.size w W) => smallPolicy_any ni df er hh srs SA _ sc dl DA _ dc gl GA _ gc kl KA _ kc W hs.g1 hs.g2 hs.g3 hs.g4 rfl rfl rfl rfl hs.g5 hs.g6 hs.g7 hs.g8 hs.g9 hs.g10 hs.g11 hs.g12 (hs.g13.below hb) (fun r hr => (hs.g14 r hr).below hb) (hs.g15.below hb) (hs.g16.below hb) (hs.g17.below hb))
  have HRec := Lib.hid (fun (hn20 : n ≤ 20) nm d rules RA nR Rc hd PA nP Pc QA nQ Qc W (h : Below w.heap.size w W) h1 h2 h3 => records_any nm d rules RA nR Rc hd PA nP Pc QA nQ Qc lr A n c pl PB pn pc W h1 h2 h3 hlr hn20 hlok hlA (hlR.below h) hpl hpm hp8 (hpR.below h))
  have HC4 := Lib.hid (show ca < 256 ∧ cb < 256 ∧ cm < 256 ∧ cv < 256 from ⟨hsc.a, hsc.b, hsc.m, hsc.v⟩)
  have hn63 : n ≤ 9223372036854775807 := hlm
  clear hlok hlR hlA hp8 hpR hk hs hlr hpl hlm hsc
  go_enter Try.func4, Try.ntmps4
  go_upto_region 1 with fail
  generalize (w.alloc _).alloc _ = w2 at hk1 hk2 hb ⊢
  have HB2 := Lib.hid hb
  have HK1 := Lib.hid hk1
  have HK2 := Lib.hid hk2
  clear hk1 hk2 hb
  go_wp2_with fail
  refine (awake_any _).mono ?_
  rintro e w3 ⟨rfl, hb3⟩
  have HB3 := Lib.hid (HB2.out.trans (hb3.mono HB2.out.size))
  have HK1 := Lib.hid (HK1.out.kept hb3)
  have HK2 := Lib.hid (HK2.out.kept hb3)
  clear hb3 HB2
  by_cases h20 : 20 < n
  · have g20 : (20 : Int) < (n : Int) := by omega
    have d20 : decide ((20 : Int) < (n : Int)) = true := decide_eq_true g20
    clear h20
    go_wp2_with fail
    go_ret
    exact ⟨rfl, HB3.out⟩
  · have g20 : ¬ (20 : Int) < (n : Int) := by omega
    have d20 : decide ((20 : Int) < (n : Int)) = false := decide_eq_false g20
    have HRec := Lib.hid (HRec.out (by omega))
    clear h20
    have t0 := HK1.out.cell 0 rfl
    have t1 := HK1.out.cell 1 rfl
    have t2 := HK1.out.cell 2 rfl
    have t3 := HK1.out.cell 3 rfl
    have t4 := HK1.out.cell 4 rfl
    have t5 := HK1.out.cell 5 rfl
    have t6 := HK1.out.cell 6 rfl
    have t7 := HK1.out.cell 7 rfl
    have tl := HK1.out.lt
    go_wp2_with fail
    refine (HSm.out _ HB3.out).mono ?_
    clear t0 t1 t2 t3 t4 t5 t6 t7 tl HSm
    rintro e w4 ⟨pn9, pd, rules, RA, Rc, ph, pt9, PA9, Pc, po9, QA9, Qc, rfl, hR4, hOk, hb4⟩
    obtain ⟨nP, hnP⟩ : ∃ n, n = pt9.length := ⟨_, rfl⟩
    obtain ⟨nQ, hnQ⟩ : ∃ n, n = po9.length := ⟨_, rfl⟩
    obtain ⟨nR, hnR⟩ : ∃ n, n = rules.length := ⟨_, rfl⟩
    have hn12 : nR ≤ 12 := by rw [hnR]; exact hOk.many
    have HSr := Lib.hid (small_reads (nm := pn9) (act := pd) (hd := ph) hR4)
    have HSq := Lib.hid (q_small (RA := RA) (Rc := Rc) (PA := PA9) (Pc := Pc) (QA := QA9) (Qc := Qc) hOk)
    have HPd := Lib.hid hOk.act32
    have HRok := Lib.hid (fun r hr => (hOk.rule r hr).2.2)
    have HR4 := Lib.hid (fun r hr => (hOk.rule r hr).2.1)
    rw [← hnP, ← hnQ, ← hnR]
    have HnR := Lib.hid hnR.symm
    have HB4 := Lib.hid (HB3.out.trans (hb4.mono HB3.out.size))
    have HK2 := Lib.hid (HK2.out.kept hb4)
    clear hR4 hOk hb4 hnP hnQ hnR HB3 HK1
    have hbx := oneb w4 (.cells #[.string ⟨pn9.toArray⟩, .int .u32 pd, .slice RA nR Rc, .int .u16 ph, .slice PA9 nP Pc, .slice QA9 nQ Qc] 43)
    have hkx := Bk.new w4 43 #[.string ⟨pn9.toArray⟩, .int .u32 pd, .slice RA nR Rc, .int .u16 ph, .slice PA9 nP Pc, .slice QA9 nQ Qc] (l := [.string ⟨pn9.toArray⟩, .int .u32 pd, .slice RA nR Rc, .int .u16 ph, .slice PA9 nP Pc, .slice QA9 nQ Qc]) rfl
    go_upto_region 6 with fail
    generalize World.alloc w4 _ = w5 at hbx hkx ⊢
    generalize w4.heap.size = g9 at hkx ⊢
    have HB5 := Lib.hid (HB4.out.trans (hbx.mono HB4.out.size))
    have HRR := Lib.hid (show RRd w5 rules RA from ⟨(HSr.out.below hbx).rules, (HSr.out.below hbx).conds, HRok.out⟩)
    have HK2 := Lib.hid (HK2.out.kept hbx)
    have HK9 := Lib.hid hkx
    have p0 := hkx.cell 0 rfl
    have p1 := hkx.cell 1 rfl
    have p2 := hkx.cell 2 rfl
    have p3 := hkx.cell 3 rfl
    have p4 := hkx.cell 4 rfl
    have p5 := hkx.cell 5 rfl
    have pl9 := hkx.lt
    clear hkx hbx HSr HSq HB4
    go_wp2_with fail
    refine (HRec.out ⟨pn9.toArray⟩ pd rules RA nR Rc ph PA9 nP Pc QA9 nQ Qc w5 HB5.out HnR.out (by omega) HRR.out).mono ?_
    clear p0 p1 p2 p3 p4 p5 pl9 HRec
    rintro e w6 ⟨⟨rs, As, cs9, rfl, hrs, hrok, hrt⟩, hb6⟩
    have HB6 := Lib.hid (HB5.out.trans (hb6.mono HB5.out.size))
    have HRR := Lib.hid (HRR.out.below hb6)
    have HK2 := Lib.hid (HK2.out.kept hb6)
    have HK9 := Lib.hid (HK9.out.kept hb6)
    have HRt := Lib.hid hrt
    have HRo := Lib.hid hrok
    obtain ⟨ns, hns⟩ : ∃ n, n = rs.length := ⟨_, rfl⟩
    rw [← hns] at hrs ⊢
    have HNs := Lib.hid hns.symm
    clear hrok hrt hb6 hns HB5
    go_wp2_with fail
    go_loopw [29] (fun iv wr => ∃ q : Nat, iv = .int .i64 q ∧ q ≤ ns ∧ Hid (Below w6.heap.size w6 wr)) (fun iv _ => ns - (intOf iv).toNat)
    case atStart => exact ⟨0, rfl, Nat.zero_le _, Below.refl _ _⟩
    case round =>
      rename World => w8
      obtain ⟨q, rfl, hq, HBr⟩ := hrel
      have hs8 := HBr.out.size
      by_cases hqn : q < ns
      · obtain ⟨x, hx⟩ : ∃ x, rs[q]? = some x := ⟨_, List.getElem?_eq_getElem (by have := HNs.out; omega)⟩
        have HXo := Lib.hid (HRo.out x (List.mem_of_getElem? hx))
        have hrd := (HRt.out.below HBr.out).rd
        rw [HNs.out] at hrd
        obtain ⟨bs, os, hA, hbl, hcell⟩ := hrd.one (fun _ => rfl) (by omega) (by omega)
        subst hA
        obtain ⟨c0, c1, c2, c3, c4, c5, c6, c7, c8⟩ := nine_rec hcell hx
        have hq0 : (0 : Int) ≤ (q : Int) := by omega
        have HRR8 := Lib.hid (HRR.out.below HBr.out)
        have HK29 := Lib.hid (HK2.out.kept HBr.out)
        have HK98 := Lib.hid (HK9.out.kept HBr.out)
        have h9lt := HK98.out.lt
        clear hcell hrd hx
        go_upto_region 10 with fail
        have hkr := Bk.new w8 33 #[.int .u32 x.num, .int .u32 x.arch, .int .u64 x.at_, .int .u64 x.a0, .int .u64 x.a1, .int .u64 x.a2, .int .u64 x.a3, .int .u64 x.a4, .int .u64 x.a5] (l := x.cells) rfl
        have hbr := oneb w8 (.cells #[.int .u32 x.num, .int .u32 x.arch, .int .u64 x.at_, .int .u64 x.a0, .int .u64 x.a1, .int .u64 x.a2, .int .u64 x.a3, .int .u64 x.a4, .int .u64 x.a5] 33)
        have hsr : (w8.alloc (.cells #[.int .u32 x.num, .int .u32 x.arch, .int .u64 x.at_, .int .u64 x.a0, .int .u64 x.a1, .int .u64 x.a2, .int .u64 x.a3, .int .u64 x.a4, .int .u64 x.a5] 33)).heap.size = w8.heap.size + 1 := by simp
        clear c0 c1 c2 c3 c4 c5 c6 c7 c8
        generalize hw9 : w8.alloc (.cells #[.int .u32 x.num, .int .u32 x.arch, .int .u64 x.at_, .int .u64 x.a0, .int .u64 x.a1, .int .u64 x.a2, .int .u64 x.a3, .int .u64 x.a4, .int .u64 x.a5] 33) = w9 at hkr hbr hsr ⊢
        clear hw9
        obtain ⟨hka, hkb, hbz⟩ := two_new w9 #[.string ⟨#[]⟩, .int .u32 0, .slice none 0 0, .int .u16 0, .slice none 0 0, .slice none 0 0] #[.string ⟨#[]⟩, .int .u32 0, .slice none 0 0, .int .u16 0, .slice none 0 0, .slice none 0 0] 43 43 (la := [.string ⟨#[]⟩, .int .u32 0, .slice none 0 0, .int .u16 0, .slice none 0 0, .slice none 0 0]) (lb := [.string ⟨#[]⟩, .int .u32 0, .slice none 0 0, .int .u16 0, .slice none 0 0, .slice none 0 0]) rfl rfl
        generalize (w9.alloc _).alloc _ = wa at hka hkb hbz ⊢
        rw [hsr] at hka hkb
        have HBa := Lib.hid (hbr.trans (hbz.mono hbr.size))
        have HK11 := Lib.hid (hkr.kept hbz)
        have HK12 := Lib.hid hka
        have HK13 := Lib.hid hkb
        have HNe := Lib.hid (show w8.heap.size + 1 ≠ w8.heap.size + 1 + 1 by omega)
        have HG12 := Lib.hid (show w8.heap.size ≤ w8.heap.size + 1 by omega)
        have HG13 := Lib.hid (show w8.heap.size ≤ w8.heap.size + 1 + 1 by omega)
        have h11 : w8.heap.size < wa.heap.size := HK11.out.lt
        clear hka hkb hbz hkr hbr hsr
        generalize w8.heap.size + 1 + 1 = g13 at HK13 HNe HG13 ⊢
        generalize w8.heap.size + 1 = g12 at HK12 HNe HG12 ⊢
        obtain ⟨g11, hg11⟩ : ∃ g, g = w8.heap.size := ⟨_, rfl⟩
        rw [← hg11] at HK11 ⊢
        clear hg11 h11
        have p1 := (HK98.out.kept HBa.out).cell 1 rfl
        have HmkS := Lib.hid (fun W (h : Below w8.heap.size w8 W) => (show (fun w' => w'.cell? ⟨g9, 1, none⟩ = some (.int .u32 pd) ∧ Hid (Below w8.heap.size w8 w')) W from ⟨cell_below (HK98.out.cell 1 rfl) h, Lib.hid h⟩))
        go_cut [] from 33 to 38 (fun wc => Hid (Bk wc g11 33 x.cells) ∧ Hid (Bk wc g12 43 [.string ⟨#[]⟩, .int .u32 pd, .slice none 0 0, .int .u16 0, .slice none 0 0, .slice none 0 0]) ∧ Hid (Bk wc g13 43 [.string ⟨#[]⟩, .int .u32 pd, .slice none 0 0, .int .u16 0, .slice none 0 0, .slice none 0 0]) ∧ Hid (Below w8.heap.size w8 wc))
        case first =>
          refine wp_region_held_drew (S := (fun w' => w'.cell? ⟨g9, 1, none⟩ = some (.int .u32 pd) ∧ Hid (Below w8.heap.size w8 w'))) (by kernel_rfl) ?_ (fun hHeld0 => ?_)
          · exact ⟨p1, Lib.hid HBa.out.drew⟩
          have HBv := Lib.hid HBa.out.drew
          clear p1
          have q11 := HK11.out.drewN 1
          have q12 := HK12.out.drewN 1
          have q13 := HK13.out.drewN 1
          change Bk wa.drew _ _ _ at q11 q12 q13
          generalize wa.drew = vh0 at hHeld0 HBv q11 q12 q13 ⊢
          have HK11 := Lib.hid (show Bk vh0 g11 33 x.cells from q11)
          have HK12 := Lib.hid (show Bk vh0 g12 43 [.string ⟨#[]⟩, .int .u32 0, .slice none 0 0, .int .u16 0, .slice none 0 0, .slice none 0 0] from q12)
          have HK13 := Lib.hid (show Bk vh0 g13 43 [.string ⟨#[]⟩, .int .u32 0, .slice none 0 0, .int .u16 0, .slice none 0 0, .slice none 0 0] from q13)
          refine wpAnyH_take (i := 0) (v := ?_) (by first | (simp only [List.getElem?_toArray, List.getElem?_cons_zero] <;> rfl) | rfl) (by kernel_rfl) (by kernel_rfl) (by kernel_rfl) (by exact fun _ _ _ h => h) (Or.inl ⟨by rfl, ?_⟩) hHeld0 ?_
          rotate_left 1
          · intro w hSw
            try dsimp only at hSw
            (go_simp) <;> (with_reducible rfl)
          try simp only [Act.put, List.setIfInBounds_toArray, List.set_cons_zero, List.set_cons_succ]
          refine wpAnyH_take (i := 1) (v := ?_) (by first | (simp only [List.getElem?_toArray, List.getElem?_cons_succ, List.getElem?_cons_zero] <;> rfl) | rfl) (by kernel_rfl) (by kernel_rfl) (by kernel_rfl) (by exact fun _ _ _ h => h) (Or.inl ⟨by rfl, ?_⟩) hHeld0 ?_
          rotate_left 1
          · intro w hSw
            try dsimp only at hSw
            (go_simp) <;> (with_reducible rfl)
          try simp only [Act.put, List.setIfInBounds_toArray, List.set_cons_zero, List.set_cons_succ]
          refine wpAnyH_take (i := 2) (v := ?_) (by first | (simp only [List.getElem?_toArray, List.getElem?_cons_succ, List.getElem?_cons_zero] <;> rfl) | rfl) (by kernel_rfl) (by kernel_rfl) (by kernel_rfl) (by exact fun _ _ _ h => h) (Or.inl ⟨by rfl, ?_⟩) hHeld0 ?_
          rotate_left 1
          · intro w hSw
            try dsimp only at hSw
            (go_simp) <;> (with_reducible rfl)
          try simp only [Act.put, List.setIfInBounds_toArray, List.set_cons_zero, List.set_cons_succ]
          refine wpAnyH_take (i := 3) (v := ?_) (by first | (simp only [List.getElem?_toArray, List.getElem?_cons_succ, List.getElem?_cons_zero] <;> rfl) | rfl) (by kernel_rfl) (by kernel_rfl) (by kernel_rfl) (by exact fun _ _ _ h => h) (Or.inl ⟨by rfl, ?_⟩) hHeld0 ?_
          rotate_left 1
          · intro w hSw
            try dsimp only at hSw
            (go_simp) <;> (with_reducible rfl)
          try simp only [Act.put, List.setIfInBounds_toArray, List.set_cons_zero, List.set_cons_succ]
          refine wpAnyH_take (i := 4) (v := ?_) (by first | (simp only [List.getElem?_toArray, List.getElem?_cons_succ, List.getElem?_cons_zero] <;> rfl) | rfl) (by kernel_rfl) (by kernel_rfl) (by kernel_rfl) (by exact fun _ _ _ h => h) (Or.inl ⟨by rfl, ?_⟩) hHeld0 ?_
          rotate_left 1
          · intro w hSw
            try dsimp only at hSw
            (go_simp) <;> (with_reducible rfl)
          try simp only [Act.put, List.setIfInBounds_toArray, List.set_cons_zero, List.set_cons_succ]
          refine wpAnyH_ready (rs := [5]) (by kernel_rfl) (by simp) ?_
          refine AllReadyH.cons (by first | (simp only [List.getElem?_toArray, List.getElem?_cons_succ, List.getElem?_cons_zero] <;> rfl) | rfl) (fun K hK => ?_) ?_
          · skip
            have y1 := HK12.out.cell 1 rfl
            have z1 := HK12.out.fz 1
            have yl := HK12.out.lt
            go_simp
            have HBn := Lib.hid (HBv.out.setCell (p := ⟨g12, 1, none⟩) HG12.out (.int .u32 pd))
            have hN := HK12.out.set 1 (.int .u32 pd)
            have hM := HK13.out.grown (only_set vh0 g12 1 (.int .u32 pd)) (fun e => HNe.out (Option.some.inj e).symm)
            have hX := HK11.out.grown (only_set vh0 g12 1 (.int .u32 pd)) (fun e => (HK11.out.tyb.ne HK12.out.tyb (by decide)) (Option.some.inj e))
            refine hK.out _ _ (HmkS.out _ HBn.out) (fun hHeld1 => ?_)
            clear hK K y1 z1 yl
            generalize World.setCell vh0 _ _ = vh1 at hN hM hX HBn hHeld1 ⊢
            have HK12 := Lib.hid hN
            have HK13 := Lib.hid hM
            have HK11 := Lib.hid hX
            have HBv := HBn
            clear HBn hN hM hX hHeld0
            try simp only [Act.put, List.setIfInBounds_toArray, List.set_cons_zero, List.set_cons_succ]
            refine wpAnyH_take (i := 6) (v := ?_) (by first | (simp only [List.getElem?_toArray, List.getElem?_cons_succ, List.getElem?_cons_zero] <;> rfl) | rfl) (by kernel_rfl) (by kernel_rfl) (by kernel_rfl) (by exact fun _ _ _ h => h) (Or.inl ⟨by rfl, ?_⟩) hHeld1 ?_
            rotate_left 1
            · intro w hSw
              try dsimp only at hSw
              (go_simp) <;> (with_reducible rfl)
            try simp only [Act.put, List.setIfInBounds_toArray, List.set_cons_zero, List.set_cons_succ]
            refine wpAnyH_ready (rs := [7]) (by kernel_rfl) (by simp) ?_
            refine AllReadyH.cons (by first | (simp only [List.getElem?_toArray, List.getElem?_cons_succ, List.getElem?_cons_zero] <;> rfl) | rfl) (fun K hK => ?_) ?_
            · skip
              have y1 := HK13.out.cell 1 rfl
              have z1 := HK13.out.fz 1
              have yl := HK13.out.lt
              go_simp
              have HBn := Lib.hid (HBv.out.setCell (p := ⟨g13, 1, none⟩) HG13.out (.int .u32 pd))
              have hN := HK13.out.set 1 (.int .u32 pd)
              have hM := HK12.out.grown (only_set vh1 g13 1 (.int .u32 pd)) (fun e => HNe.out (Option.some.inj e))
              have hX := HK11.out.grown (only_set vh1 g13 1 (.int .u32 pd)) (fun e => (HK11.out.tyb.ne HK13.out.tyb (by decide)) (Option.some.inj e))
              refine hK.out _ _ (HmkS.out _ HBn.out) (fun hHeld2 => ?_)
              clear hK K y1 z1 yl
              generalize World.setCell vh1 _ _ = vh2 at hN hM hX HBn hHeld2 ⊢
              have HK13 := Lib.hid hN
              have HK12 := Lib.hid hM
              have HK11 := Lib.hid hX
              have HBv := HBn
              clear HBn hN hM hX hHeld1
              try simp only [Act.put, List.setIfInBounds_toArray, List.set_cons_zero, List.set_cons_succ]
              refine wpAnyH_done (by kernel_rfl) ?_ _
              rename World => wq
              clear hHeld2
              go_wp2_with fail
              go_meet
              case rel => exact ⟨HK11, HK12, HK13, HBv⟩
            exact AllReadyH.nil
          exact AllReadyH.nil
        case rest =>
          clear HmkS p1 HK11 HK12 HK13
          obtain ⟨HK11, HK12, HK13, HBc⟩ := hcut
          rename World => wb
          have p2 := (HK98.out.kept HBc.out).cell 2 rfl
          have hbl9 := (HK98.out.kept HBc.out).lt
          have HNs0 := Lib.hid (show NS w8 wb g11 g12 g13 pd x (.slice none 0 0) (.slice none 0 0) (ownL x.num (rules.take 0)) (rules.reverse.take 0) from ⟨HK11.out, HK12.out, HK13.out, HNe.out, World.ownsRow_nil _ _ _ _, World.ownsRow_nil _ _ _ _, (fun g hg => by cases hg), HBc.out, HG12.out, HG13.out⟩)
          clear HK11 HK12 HK13 HBc HBa
          go_wp2_with fail
          clear p2 hbl9
          go_loopw [42] (fun iv wx => ∃ (i : Nat) (vo vb : Value), iv = .int .i64 i ∧ i ≤ nR ∧ Hid (NS w8 wx g11 g12 g13 pd x vo vb (ownL x.num (rules.take i)) (rules.reverse.take i))) (fun iv _ => nR - (intOf iv).toNat)
          case atStart => exact ⟨0, _, _, rfl, Nat.zero_le _, HNs0⟩
          case round =>
            clear HNs0
            rename World => wx
            obtain ⟨i, vo, vb, rfl, hi, HNs⟩ := hrel
            by_cases hin : i < nR
            · obtain ⟨r, hr⟩ : ∃ r, rules[i]? = some r := ⟨_, List.getElem?_eq_getElem (by have := HnR.out; omega)⟩
              have hmem := List.mem_of_getElem? hr
              have HRx := Lib.hid (HRR8.out.below HNs.out.bel)
              have hrd := HRx.out.r
              rw [HnR.out] at hrd
              obtain ⟨bb, ob, hA, hbl, hcell⟩ := hrd.one (fun _ => rfl) (by omega) (by omega)
              subst hA
              obtain ⟨c0, c1, c2⟩ := rule_cells hcell hr
              have HRi := Lib.hid hr
              have HOr := Lib.hid (HRok.out r hmem)
              have h4 := HR4.out r hmem
              have HCr := Lib.hid (HRx.out.c r hmem)
              clear hcell hrd hmem hr
              obtain ⟨⟨num, act, cs⟩, A9, c9⟩ := r
              simp only at c0 c1 c2 h4
              obtain ⟨nc, hnc⟩ : ∃ nc, nc = cs.length := ⟨_, rfl⟩
              rw [← hnc] at c2 h4
              have HNc := Lib.hid hnc
              have HCr := Lib.hid (show Rd wx 4 nc A9 (cs.flatMap CondM.cells) by rw [hnc]; exact HCr.out)
              clear hnc
              have hi0 : (0 : Int) ≤ (i : Int) := by omega
              obtain ⟨hk15, hk16, hb15⟩ := two_new wx #[.int .u32 num, .int .u32 act, .slice A9 nc c9] #[.int .u32 num, .int .u32 act, .slice A9 nc c9] 64 64 (la := [.int .u32 num, .int .u32 act, .slice A9 nc c9]) (lb := [.int .u32 num, .int .u32 act, .slice A9 nc c9]) rfl rfl
              go_upto_region 15 with fail
              clear c0 c1 c2
              generalize (wx.alloc _).alloc _ = wy at hk15 hk16 hb15 ⊢
              have HBy := Lib.hid hb15
              have HK15 := Lib.hid hk15
              have HK16 := Lib.hid hk16
              have HG16 := Lib.hid (show wx.heap.size ≤ wx.heap.size + 1 by omega)
              have HN15 := Lib.hid (show wx.heap.size ≠ wx.heap.size + 1 by omega)
              clear hb15 hk15 hk16
              generalize wx.heap.size + 1 = g16 at HK16 HG16 HN15 ⊢
              obtain ⟨g15, hg15⟩ : ∃ g, g = wx.heap.size := ⟨_, rfl⟩
              rw [← hg15] at HK15 HN15 ⊢
              clear hg15
              have HK5x := Lib.hid (HK29.out.kept HNs.out.bel)
              have HRc := Lib.hid (fun W (h : Below wx.heap.size wx W) => HCr.out.below h)
              have x2 := HK15.out.cell 2 rfl
              have e0 := (HK5x.out.kept HBy.out).cell 0 rfl
              have e1 := (HK5x.out.kept HBy.out).cell 1 rfl
              have e2 := (HK5x.out.kept HBy.out).cell 2 rfl
              have e3 := (HK5x.out.kept HBy.out).cell 3 rfl
              have HmkS := Lib.hid (fun W (h : Below wx.heap.size wx W) (h15 : Bk W g15 64 [.int .u32 num, .int .u32 act, .slice A9 nc c9]) => (show (fun w' => w'.cell? ⟨g15, 2, none⟩ = some (.slice A9 nc c9) ∧ w'.cell? ⟨(w.heap.size + 1), 0, none⟩ = some (.int .u8 ca) ∧ w'.cell? ⟨(w.heap.size + 1), 1, none⟩ = some (.int .u8 cb) ∧ w'.cell? ⟨(w.heap.size + 1), 2, none⟩ = some (.int .u8 cm) ∧ w'.cell? ⟨(w.heap.size + 1), 3, none⟩ = some (.int .u8 cv) ∧ Hid (Below wx.heap.size wx w')) W from ⟨h15.cell 2 rfl, cell_below (HK5x.out.cell 0 rfl) h, cell_below (HK5x.out.cell 1 rfl) h, cell_below (HK5x.out.cell 2 rfl) h, cell_below (HK5x.out.cell 3 rfl) h, Lib.hid h⟩))
              go_cut [] from 48 to 56 (fun wc => ∃ (A7 : Option Addr) (c7 : Nat) (cd : CondM), Hid cd.ok ∧ Hid (Bk wc g15 64 [.int .u32 num, .int .u32 act, .slice A9 nc c9]) ∧ Hid (Bk wc g16 64 [.int .u32 num, .int .u32 act, .slice A7 (nc + 1) c7]) ∧ Hid (Rd wc 4 (nc + 1) A7 ((cs ++ [cd]).flatMap CondM.cells)) ∧ Hid (Below wx.heap.size wx wc))
              case first =>
                refine wp_region_held_drew (S := (fun w' => w'.cell? ⟨g15, 2, none⟩ = some (.slice A9 nc c9) ∧ w'.cell? ⟨(w.heap.size + 1), 0, none⟩ = some (.int .u8 ca) ∧ w'.cell? ⟨(w.heap.size + 1), 1, none⟩ = some (.int .u8 cb) ∧ w'.cell? ⟨(w.heap.size + 1), 2, none⟩ = some (.int .u8 cm) ∧ w'.cell? ⟨(w.heap.size + 1), 3, none⟩ = some (.int .u8 cv) ∧ Hid (Below wx.heap.size wx w'))) (by kernel_rfl) ?_ (fun hHeld0 => ?_)
                · exact ⟨x2, e0, e1, e2, e3, Lib.hid HBy.out.drew⟩
                have HBv := Lib.hid HBy.out.drew
                clear x2 e0 e1 e2 e3
                have q15 := HK15.out.drewN 1
                have q16 := HK16.out.drewN 1
                change Bk wy.drew _ _ _ at q15 q16
                generalize wy.drew = vh0 at hHeld0 HBv q15 q16 ⊢
                have HK15 := Lib.hid (show Bk vh0 g15 64 [.int .u32 num, .int .u32 act, .slice A9 nc c9] from q15)
                have HK16 := Lib.hid (show Bk vh0 g16 64 [.int .u32 num, .int .u32 act, .slice A9 nc c9] from q16)
                refine wpAnyH_take (i := 1) (v := ?_) (by first | (simp only [List.getElem?_toArray, List.getElem?_cons_succ, List.getElem?_cons_zero] <;> rfl) | rfl) (by kernel_rfl) (by kernel_rfl) (by kernel_rfl) (by exact fun _ _ _ h => h) (Or.inl ⟨by rfl, ?_⟩) hHeld0 ?_
                rotate_left 1
                · intro w hSw
                  try dsimp only at hSw
                  (go_simp) <;> (with_reducible rfl)
                try simp only [Act.put, List.setIfInBounds_toArray, List.set_cons_zero, List.set_cons_succ]
                refine wpAnyH_take (i := 2) (v := ?_) (by first | (simp only [List.getElem?_toArray, List.getElem?_cons_succ, List.getElem?_cons_zero] <;> rfl) | rfl) (by kernel_rfl) (by kernel_rfl) (by kernel_rfl) (by exact fun _ _ _ h => h) (Or.inl ⟨by rfl, ?_⟩) hHeld0 ?_
                rotate_left 1
                · intro w hSw
                  try dsimp only at hSw
                  (go_simp) <;> (with_reducible rfl)
                try simp only [Act.put, List.setIfInBounds_toArray, List.set_cons_zero, List.set_cons_succ]
                refine wpAnyH_take (i := 4) (v := ?_) (by first | (simp only [List.getElem?_toArray, List.getElem?_cons_succ, List.getElem?_cons_zero] <;> rfl) | rfl) (by kernel_rfl) (by kernel_rfl) (by kernel_rfl) (by exact fun _ _ _ h => h) (Or.inl ⟨by rfl, ?_⟩) hHeld0 ?_
                rotate_left 1
                · intro w hSw
                  try dsimp only at hSw
                  (go_simp) <;> (with_reducible rfl)
                try simp only [Act.put, List.setIfInBounds_toArray, List.set_cons_zero, List.set_cons_succ]
                refine wpAnyH_ready (rs := [0]) (by kernel_rfl) (by simp) ?_
                refine AllReadyH.cons (by first | (simp only [List.getElem?_toArray, List.getElem?_cons_zero] <;> rfl) | rfl) (fun K hK => ?_) ?_
                · skip
                  go_simp
                  have hbb := oneb vh0 (.cells #[] 67)
                  have hown := own_base (own_empty vh0 67 4) HBv.out.size
                  have HBn := Lib.hid (HBv.out.trans (hbb.mono HBv.out.size))
                  have HKn := Lib.hid (HK15.out.kept hbb)
                  first | (have HD := Lib.hid (own0_ne (n := 0) (c := 0) HN.out)) | skip
                  refine hK.out _ _ (HmkS.out _ HBn.out HKn.out) (fun hHeld1 => ?_)
                  clear hK K
                  generalize World.alloc vh0 _ = vh1 at hbb hown HBn HKn hHeld1 ⊢
                  have HK16 := Lib.hid (HK16.out.kept hbb)
                  first | (have HN := Lib.hid (HN.out.kept hbb)) | skip
                  have HO := Lib.hid hown
                  clear hown hbb
                  have HBv := HBn
                  have HK15 := HKn
                  clear HBn HKn hHeld0
                  try simp only [Act.put, List.setIfInBounds_toArray, List.set_cons_zero, List.set_cons_succ]
                  refine wpAnyH_ready (rs := [3]) (by kernel_rfl) (by simp) ?_
                  refine AllReadyH.cons (by first | (simp only [List.getElem?_toArray, List.getElem?_cons_succ, List.getElem?_cons_zero] <;> rfl) | rfl) (fun K hK => ?_) ?_
                  · skip
                    obtain ⟨v3, vh2, hr, ho, hg, hat⟩ := run_list 62 62 67 _ 4 32 infoPC Try.underlying62 rfl (by decide) (by decide) wx.heap.size _ 0 [] HO.out A9 nc c9 (cs.flatMap CondM.cells) (HRc.out _ HBv.out) (conds_one cs) (by omega) HBv.out.size
                    rw [Nat.zero_add, List.nil_append] at ho
                    obtain ⟨_, _, _, _, _, hty, _⟩ := own_typed HO.out
                    obtain ⟨A3, c3, hve, _⟩ := own_typed ho
                    subst hve
                    have HBn := Lib.hid (HBv.out.grown hg HBv.out.size (fun g e => (HO.out.lt g e).1))
                    have HKn := Lib.hid (HK15.out.appended hg hty (by decide))
                    have HK16 := Lib.hid (HK16.out.appended hg hty (by decide))
                    first | (have HDn := Lib.hid (own_next hat HD.out HN.out); have HN := Lib.hid (HN.out.grown hg (fun e => HD.out _ e.symm rfl)); have HD := HDn; clear HDn) | skip
                    refine op_append (.tmp 48) (.tmp 50) 62 rfl _ _ _ vh2 rfl rfl hr ?_
                    refine hK.out _ _ (HmkS.out _ HBn.out HKn.out) (fun hHeld2 => ?_)
                    clear hK K
                    have HO := Lib.hid ho
                    clear ho hg hat hty hr
                    have HBv := HBn
                    have HK15 := HKn
                    clear HBn HKn hHeld1
                    try simp only [Act.put, List.setIfInBounds_toArray, List.set_cons_zero, List.set_cons_succ]
                    refine wpAnyH_ready (rs := [5]) (by kernel_rfl) (by simp) ?_
                    refine AllReadyH.cons (by first | (simp only [List.getElem?_toArray, List.getElem?_cons_succ, List.getElem?_cons_zero] <;> rfl) | rfl) (fun K hK => ?_) ?_
                    · skip
                      go_simp
                      refine (condCond_any ca cb cm cv _ HC4.out.1 HC4.out.2.1 HC4.out.2.2.1 HC4.out.2.2.2).mono ?_
                      rintro e vh3 ⟨⟨cd, rfl, hce, hcok, hcF⟩, hbb⟩
                      have HBn := Lib.hid (HBv.out.trans (hbb.mono HBv.out.size))
                      have HKn := Lib.hid (HK15.out.kept hbb)
                      refine hK.out _ _ (HmkS.out _ HBn.out HKn.out) (fun hHeld3 => ?_)
                      clear hK K
                      have HK16 := Lib.hid (HK16.out.kept hbb)
                      first | (have HO := Lib.hid (own_keepN HO.out hbb)) | skip
                      have HCd := Lib.hid hcok
                      clear hcok hce hcF hbb
                      have HBv := HBn
                      have HK15 := HKn
                      clear HBn HKn hHeld2
                      try simp only [Act.put, List.setIfInBounds_toArray, List.set_cons_zero, List.set_cons_succ]
                      refine wpAnyH_ready (rs := [6]) (by kernel_rfl) (by simp) ?_
                      refine AllReadyH.cons (by first | (simp only [List.getElem?_toArray, List.getElem?_cons_succ, List.getElem?_cons_zero] <;> rfl) | rfl) (fun K hK => ?_) ?_
                      · skip
                        go_simp
                        have hbb := oneb vh3 (.cells #[.int .i64 cd.arg, .int .u8 cd.op, .int .u64 cd.mask, .int .u64 cd.val] 67)
                        have hN := Bk.new vh3 67 #[.int .i64 cd.arg, .int .u8 cd.op, .int .u64 cd.mask, .int .u64 cd.val] (l := cd.cells) rfl
                        have HBn := Lib.hid (HBv.out.trans (hbb.mono HBv.out.size))
                        have HKn := Lib.hid (HK15.out.kept hbb)
                        first | (have HD := Lib.hid (fun g hg => Nat.ne_of_lt (HO.out.lt g hg).2)) | skip
                        refine hK.out _ _ (HmkS.out _ HBn.out HKn.out) (fun hHeld4 => ?_)
                        clear hK K
                        generalize World.alloc vh3 _ = vh4 at hbb hN HBn HKn hHeld4 ⊢
                        have HK16 := Lib.hid (HK16.out.kept hbb)
                        first | (have HO := Lib.hid (own_keepN HO.out hbb)) | skip
                        have HN := Lib.hid hN
                        clear hN hbb
                        have HBv := HBn
                        have HK15 := HKn
                        clear HBn HKn hHeld3
                        try simp only [Act.put, List.setIfInBounds_toArray, List.set_cons_zero, List.set_cons_succ]
                        refine wpAnyH_ready (rs := [7]) (by kernel_rfl) (by simp) ?_
                        refine AllReadyH.cons (by first | (simp only [List.getElem?_toArray, List.getElem?_cons_succ, List.getElem?_cons_zero] <;> rfl) | rfl) (fun K hK => ?_) ?_
                        · skip
                          obtain ⟨v7, vh5, hr, ho, hg, hat⟩ := run_list 62 62 67 _ 4 32 infoPC Try.underlying62 rfl (by decide) (by decide) wx.heap.size _ nc (cs.flatMap CondM.cells) HO.out (some ⟨_, 0, none⟩) 1 1 cd.cells (bk_rd HN.out rfl) (cond_one cd) (by omega) HBv.out.size
                          obtain ⟨_, _, _, _, _, hty, _⟩ := own_typed HO.out
                          obtain ⟨A7, c7, hve, _, htr, _, _⟩ := own_typed ho
                          subst hve
                          have HBn := Lib.hid (HBv.out.grown hg HBv.out.size (fun g e => (HO.out.lt g e).1))
                          have HKn := Lib.hid (HK15.out.appended hg hty (by decide))
                          have HK16 := Lib.hid (HK16.out.appended hg hty (by decide))
                          refine op_append (.tmp 51) (.tmp 54) 62 rfl _ _ _ vh5 rfl rfl hr ?_
                          refine hK.out _ _ (HmkS.out _ HBn.out HKn.out) (fun hHeld5 => ?_)
                          clear hK K
                          have HT := Lib.hid htr
                          clear ho hg hat hty hr htr HO HN HD
                          have HBv := HBn
                          have HK15 := HKn
                          clear HBn HKn hHeld4
                          try simp only [Act.put, List.setIfInBounds_toArray, List.set_cons_zero, List.set_cons_succ]
                          refine wpAnyH_take (i := 8) (v := ?_) (by first | (simp only [List.getElem?_toArray, List.getElem?_cons_succ, List.getElem?_cons_zero] <;> rfl) | rfl) (by kernel_rfl) (by kernel_rfl) (by kernel_rfl) (by exact fun _ _ _ h => h) (Or.inl ⟨by rfl, ?_⟩) hHeld5 ?_
                          rotate_left 1
                          · intro w hSw
                            try dsimp only at hSw
                            (go_simp) <;> (with_reducible rfl)
                          try simp only [Act.put, List.setIfInBounds_toArray, List.set_cons_zero, List.set_cons_succ]
                          refine wpAnyH_ready (rs := [9]) (by kernel_rfl) (by simp) ?_
                          refine AllReadyH.cons (by first | (simp only [List.getElem?_toArray, List.getElem?_cons_succ, List.getElem?_cons_zero] <;> rfl) | rfl) (fun K hK => ?_) ?_
                          · skip
                            have y2 := HK16.out.cell 2 rfl
                            have z2 := HK16.out.fz 2
                            have yl := HK16.out.lt
                            go_simp
                            have hs := only_set vh5 g16 2 (.slice A7 (nc + 1) c7)
                            have HBn := Lib.hid (HBv.out.setCell (p := ⟨g16, 2, none⟩) HG16.out (.slice A7 (nc + 1) c7))
                            have HKn := Lib.hid (HK15.out.grown hs (fun e => HN15.out (Option.some.inj e)))
                            have hN := HK16.out.set 2 (.slice A7 (nc + 1) c7)
                            have hT := HT.out.grown hs (HT.out.off HK16.out.tyb (by decide))
                            refine hK.out _ _ (HmkS.out _ HBn.out HKn.out) (fun hHeld6 => ?_)
                            clear hK K y2 z2 yl hs
                            generalize World.setCell vh5 _ _ = vh6 at hN hT HBn HKn hHeld6 ⊢
                            have HK16 := Lib.hid hN
                            have HT := Lib.hid hT
                            clear hN hT
                            have HBv := HBn
                            have HK15 := HKn
                            clear HBn HKn hHeld5
                            try simp only [Act.put, List.setIfInBounds_toArray, List.set_cons_zero, List.set_cons_succ]
                            refine wpAnyH_done (by kernel_rfl) ?_ _
                            rename World => wq
                            clear hHeld6
                            go_wp2_with fail
                            go_meet
                            case rel => exact ⟨A7, c7, cd, HCd, HK15, HK16, Lib.hid (by have := HT.out.rd; rw [List.flatMap_append]; simpa using this), HBv⟩
                          exact AllReadyH.nil
                        exact AllReadyH.nil
                      exact AllReadyH.nil
                    exact AllReadyH.nil
                  exact AllReadyH.nil
                exact AllReadyH.nil
              case rest =>
                clear HmkS x2 e0 e1 e2 e3 HK15 HK16 HBy
                obtain ⟨A7, c7, cd, HCd, HK15, HK16, HT, HBc⟩ := hcut
                rename World => wc
                have HNs := Lib.hid (HNs.out.kept HBc.out)
                have HMy := Lib.hid (fun W (h : Below wc.heap.size wc W) => matches_any num act (cs ++ [cd]) A7 (nc + 1) c7 x W (fun k hk => by rcases List.mem_append.1 hk with hk | hk; exact HOr.out.2.2.2 k hk; simp only [List.mem_singleton] at hk; subst hk; exact HCd.out) (by rw [List.length_append, ← HNc.out]; rfl) (by unfold maxLen; omega) (HT.out.below h) HXo.out)
                have HMx := Lib.hid (fun W (h : Below wc.heap.size wc W) => matches_any num act cs A9 nc c9 x W HOr.out.2.2.2 HNc.out.symm (by unfold maxLen; omega) (((HCr.out.below HBc.out)).below h) HXo.out)
                have y0 := HK16.out.cell 0 rfl
                have y1 := HK16.out.cell 1 rfl
                have y2 := HK16.out.cell 2 rfl
                have r0 := HNs.out.k11.cell 0 rfl
                have r1 := HNs.out.k11.cell 1 rfl
                have r2 := HNs.out.k11.cell 2 rfl
                have r3 := HNs.out.k11.cell 3 rfl
                have r4 := HNs.out.k11.cell 4 rfl
                have r5 := HNs.out.k11.cell 5 rfl
                have r6 := HNs.out.k11.cell 6 rfl
                have r7 := HNs.out.k11.cell 7 rfl
                have r8 := HNs.out.k11.cell 8 rfl
                have kl16 := HK16.out.lt
                have kl11 := HNs.out.k11.lt
                go_upto_region 16 with fail
                go_cut [65] from 57 to 65 (fun s65 wd => s65 = .bool false ∧ Hid (Below wc.heap.size wc wd))
                case first =>
                  cases hmy : matB ⟨num, act, cs ++ [cd]⟩ x with
                  | true =>
                    have hmx := mat_more hmy
                    rw [hmy] at HMy
                    rw [hmx] at HMx
                    clear hmy hmx
                    go_wp2_with fail
                    refine (HMy.out _ (Below.refl _ _)).mono ?_
                    clear y0 y1 y2 r0 r1 r2 r3 r4 r5 r6 r7 r8 kl16 kl11
                    rintro e wd ⟨rfl, hbd⟩
                    have y0 := (HK15.out.kept hbd).cell 0 rfl
                    have y1 := (HK15.out.kept hbd).cell 1 rfl
                    have y2 := (HK15.out.kept hbd).cell 2 rfl
                    have r0 := (HNs.out.k11.kept hbd).cell 0 rfl
                    have r1 := (HNs.out.k11.kept hbd).cell 1 rfl
                    have r2 := (HNs.out.k11.kept hbd).cell 2 rfl
                    have r3 := (HNs.out.k11.kept hbd).cell 3 rfl
                    have r4 := (HNs.out.k11.kept hbd).cell 4 rfl
                    have r5 := (HNs.out.k11.kept hbd).cell 5 rfl
                    have r6 := (HNs.out.k11.kept hbd).cell 6 rfl
                    have r7 := (HNs.out.k11.kept hbd).cell 7 rfl
                    have r8 := (HNs.out.k11.kept hbd).cell 8 rfl
                    have kl15 := (HK15.out.kept hbd).lt
                    have kl11 := (HNs.out.k11.kept hbd).lt
                    have HBd := Lib.hid hbd
                    clear hbd
                    go_wp2_with fail
                    refine (HMx.out _ HBd.out).mono ?_
                    clear y0 y1 y2 r0 r1 r2 r3 r4 r5 r6 r7 r8 kl15 kl11
                    rintro e we ⟨rfl, hbe⟩
                    have HBe := Lib.hid (HBd.out.trans (hbe.mono HBd.out.size))
                    clear hbe
                    go_wp2_with fail
                    go_meet
                    case rel => exact ⟨rfl, HBe⟩
                  | false =>
                    rw [hmy] at HMy
                    clear hmy
                    go_wp2_with fail
                    refine (HMy.out _ (Below.refl _ _)).mono ?_
                    clear y0 y1 y2 r0 r1 r2 r3 r4 r5 r6 r7 r8 kl16 kl11
                    rintro e wd ⟨rfl, hbd⟩
                    have HBd := Lib.hid hbd
                    clear hbd
                    go_wp2_with fail
                    go_meet
                    case rel => exact ⟨rfl, HBd⟩
                case rest =>
                  clear y0 y1 y2 r0 r1 r2 r3 r4 r5 r6 r7 r8 kl16 kl11 HMy HMx HT HK16
                  obtain ⟨rfl, HBd⟩ := hcut
                  rename World => wd
                  have HNs := Lib.hid (HNs.out.kept HBd.out)
                  have HK15 := Lib.hid (HK15.out.kept HBd.out)
                  have y0 := HK15.out.cell 0 rfl
                  have y1 := HK15.out.cell 1 rfl
                  have y2 := HK15.out.cell 2 rfl
                  have r0 := HNs.out.k11.cell 0 rfl
                  have kl15 := HK15.out.lt
                  have kl11 := HNs.out.k11.lt
                  have o2 := HNs.out.k12.cell 2 rfl
                  have ol := HNs.out.k12.lt
                  have hlo : (ownL x.num (rules.take i)).length ≤ 12 := by
                    have h1 := List.length_filter_le (fun r : RuleV => decide (r.m.num = x.num)) (rules.take i)
                    have h2 := List.length_take_le i rules
                    unfold ownL; omega
                  have HRD := Lib.hid (show Rd w8 3 nR (some ⟨bb, ob, none⟩) (rules.flatMap RuleV.cells) from by have := HRR8.out.r; rw [HnR.out] at this; exact this)
                  go_upto_if 70 with fail
                  go_cut [] from 70 to 76 (fun we => ∃ vo' : Value, Hid (NS w8 we g11 g12 g13 pd x vo' vb (ownL x.num (rules.take (i + 1))) (rules.reverse.take i)))
                  case first =>
                    by_cases hnx : num = x.num
                    · have g1 : ((num : Int) == (x.num : Int)) = true := by simp [hnx]
                      have HYes := Lib.hid (ownL_yes HRi.out hnx)
                      clear hnx
                      go_wp2_with (at_builtin; go_loud (refine append_one rfl (.tmp 72) (.tmp 74) 38 64 rfl _ 3 32 infoPR Try.underlying38 rfl (by decide) (by decide) w8.heap.size _ (ownL x.num (rules.take i)).length ((ownL x.num (rules.take i)).flatMap RuleV.cells) rfl (HNs.out.oo.alloc _) wd.heap.size [.int .u32 num, .int .u32 act, .slice A9 nc c9] rfl rfl (Bk.new wd _ _ rfl) (rule3_one _ _ _ _ _) (by omega) (by have := HNs.out.bel.size; simp; omega) ?_); intro v7 wf hown hgrow hat; have HNa := HNs.out.kept (oneb wd (.cells #[.int .u32 num, .int .u32 act, .slice A9 nc c9] 64)); obtain ⟨_, _, _, _, _, hty, _⟩ := own_typed HNa.oo; have hka := HNa.k12.appended hgrow hty (by decide); have z2 := hka.cell 2 rfl; have zf := hka.fz 2; have zl := hka.lt; obtain ⟨A8, c8, hve, _⟩ := own_typed hown; obtain ⟨n8, hn8⟩ : ∃ n, n = (ownL x.num (rules.take i)).length + 1 := ⟨_, rfl⟩; have HNb := Lib.hid (HNa.addOwn ⟨⟨num, act, cs⟩, A9, c9⟩ (by rw [show RuleV.cells ⟨⟨num, act, cs⟩, A9, c9⟩ = [.int .u32 num, .int .u32 act, .slice A9 nc c9] from by rw [HNc.out]; rfl]; exact hown) hgrow hat); rw [← hn8] at hve; clear hn8; subst hve; clear hown hgrow hat HNa hty hka y0 y1 y2 r0 o2)
                      go_meet
                      case rel => exact ⟨_, Lib.hid (by rw [HYes.out]; exact HNb.out)⟩
                    · have g1 : ((num : Int) == (x.num : Int)) = false := by rw [beq_eq_false_iff_ne]; omega
                      have HNo := Lib.hid (ownL_no HRi.out hnx)
                      clear hnx
                      go_wp2_with fail
                      go_meet
                      case rel => exact ⟨vo, Lib.hid (by rw [HNo.out]; exact HNs.out)⟩
                  case rest =>
                    clear y0 y1 y2 r0 o2 ol kl15 kl11 HNs HK15
                    obtain ⟨vo', HNs⟩ := hcut
                    rename World => we
                    obtain ⟨jj, hjj⟩ : ∃ j, j = nR - 1 - i := ⟨_, rfl⟩
                    have zj1 : IntKind.i64.wrap ((nR : Int) - 1) = (nR : Int) - 1 := IntWalk.i64_in _ (by omega)
                    have zj2 : IntKind.i64.wrap ((nR : Int) - 1 - (i : Int)) = (jj : Int) := by rw [IntWalk.i64_in _ (by omega)]; omega
                    have zj3 : (nR : Int) - 1 - (i : Int) = (jj : Int) := by omega
                    have hjn : jj < nR := by omega
                    have zj4 : IntKind.i64.wrap (jj : Int) = (jj : Int) := IntWalk.i64_in _ (by omega)
                    have zj5 : ((jj : Int)).toNat = jj := by omega
                    have hjz : (jj : Int) < (nR : Int) := by omega
                    have hj0 : (0 : Int) ≤ (jj : Int) := by omega
                    obtain ⟨rj, hrj⟩ : ∃ r, rules[jj]? = some r := ⟨_, List.getElem?_eq_getElem (by have := HnR.out; omega)⟩
                    have HJr := Lib.hid (show rules[rules.length - 1 - i]? = some rj by rw [HnR.out, ← hjj]; exact hrj)
                    have HiL := Lib.hid (show i < rules.length by rw [HnR.out]; exact hin)
                    obtain ⟨bj, oj, hAj, hbj, hcj⟩ := HRD.out.one (fun _ => rfl) (by omega) (by omega)
                    obtain ⟨rfl, rfl, _⟩ : bb = bj ∧ ob = oj ∧ True := by cases hAj; exact ⟨rfl, rfl, trivial⟩
                    obtain ⟨q0, q1, q2⟩ := rule_cells hcj hrj
                    obtain ⟨⟨jnum, jact, jcs⟩, jA, jc⟩ := rj
                    obtain ⟨jn, hjn'⟩ : ∃ n, n = jcs.length := ⟨_, rfl⟩
                    simp only at q0 q1 q2
                    rw [← hjn'] at q2
                    have HJn := Lib.hid (show [Value.int .u32 jnum, .int .u32 jact, .slice jA jn jc] = RuleV.cells ⟨⟨jnum, jact, jcs⟩, jA, jc⟩ by rw [hjn']; rfl)
                    have HmkS := Lib.hid (fun W (h : Below w8.heap.size w8 W) => (show (fun w' => w'.cell? ⟨g9, 2, none⟩ = some (.slice (some ⟨bb, ob, none⟩) nR Rc) ∧ w'.cell? ⟨bb, ob + jj * 3, none⟩ = some (.int .u32 jnum) ∧ w'.cell? ⟨bb, ob + jj * 3 + 1, none⟩ = some (.int .u32 jact) ∧ w'.cell? ⟨bb, ob + jj * 3 + 2, none⟩ = some (.slice jA jn jc) ∧ Hid (Below w8.heap.size w8 w')) W from ⟨cell_below (HK98.out.cell 2 rfl) h, cell_below q0 h, cell_below q1 h, cell_below q2 h, Lib.hid h⟩))
                    clear hjj hrj hcj hAj hjn' q0 q1 q2
                    go_upto_region 20 with fail
                    refine wp_region_held_drew (S := (fun w' => w'.cell? ⟨g9, 2, none⟩ = some (.slice (some ⟨bb, ob, none⟩) nR Rc) ∧ w'.cell? ⟨bb, ob + jj * 3, none⟩ = some (.int .u32 jnum) ∧ w'.cell? ⟨bb, ob + jj * 3 + 1, none⟩ = some (.int .u32 jact) ∧ w'.cell? ⟨bb, ob + jj * 3 + 2, none⟩ = some (.slice jA jn jc) ∧ Hid (Below w8.heap.size w8 w'))) (by kernel_rfl) ?_ (fun hHeld0 => ?_)
                    · exact HmkS.out _ HNs.out.bel.drew
                    have HBv := Lib.hid HNs.out.bel.drew
                    have HNs := Lib.hid (HNs.out.kept (Below.refl we.heap.size we).drew)
                    generalize we.drew = vh0 at hHeld0 HBv HNs ⊢
                    refine wpAnyH_take (i := 0) (v := ?_) (by first | (simp only [List.getElem?_toArray, List.getElem?_cons_zero] <;> rfl) | rfl) (by kernel_rfl) (by kernel_rfl) (by kernel_rfl) (by exact fun _ _ _ h => h) (Or.inl ⟨by rfl, ?_⟩) hHeld0 ?_
                    rotate_left 1
                    · intro w hSw
                      try dsimp only at hSw
                      (go_simp) <;> (with_reducible rfl)
                    try simp only [Act.put, List.setIfInBounds_toArray, List.set_cons_zero, List.set_cons_succ]
                    refine wpAnyH_take (i := 2) (v := ?_) (by first | (simp only [List.getElem?_toArray, List.getElem?_cons_succ, List.getElem?_cons_zero] <;> rfl) | rfl) (by kernel_rfl) (by kernel_rfl) (by kernel_rfl) (by exact fun _ _ _ h => h) (Or.inl ⟨by rfl, ?_⟩) hHeld0 ?_
                    rotate_left 1
                    · intro w hSw
                      try dsimp only at hSw
                      (go_simp) <;> (with_reducible rfl)
                    try simp only [Act.put, List.setIfInBounds_toArray, List.set_cons_zero, List.set_cons_succ]
                    refine wpAnyH_take (i := 3) (v := ?_) (by first | (simp only [List.getElem?_toArray, List.getElem?_cons_succ, List.getElem?_cons_zero] <;> rfl) | rfl) (by kernel_rfl) (by kernel_rfl) (by kernel_rfl) (by exact fun _ _ _ h => h) (Or.inl ⟨by rfl, ?_⟩) hHeld0 ?_
                    rotate_left 1
                    · intro w hSw
                      try dsimp only at hSw
                      (go_simp) <;> (with_reducible rfl)
                    try simp only [Act.put, List.setIfInBounds_toArray, List.set_cons_zero, List.set_cons_succ]
                    refine wpAnyH_take (i := 4) (v := ?_) (by first | (simp only [List.getElem?_toArray, List.getElem?_cons_succ, List.getElem?_cons_zero] <;> rfl) | rfl) (by kernel_rfl) (by kernel_rfl) (by kernel_rfl) (by exact fun _ _ _ h => h) (Or.inl ⟨by rfl, ?_⟩) hHeld0 ?_
                    rotate_left 1
                    · intro w hSw
                      try dsimp only at hSw
                      (go_simp) <;> (with_reducible rfl)
                    try simp only [Act.put, List.setIfInBounds_toArray, List.set_cons_zero, List.set_cons_succ]
                    refine wpAnyH_take (i := 5) (v := ?_) (by first | (simp only [List.getElem?_toArray, List.getElem?_cons_succ, List.getElem?_cons_zero] <;> rfl) | rfl) (by kernel_rfl) (by kernel_rfl) (by kernel_rfl) (by exact fun _ _ _ h => h) (Or.inl ⟨by rfl, ?_⟩) hHeld0 ?_
                    rotate_left 1
                    · intro w hSw
                      try dsimp only at hSw
                      (go_simp) <;> (with_reducible rfl)
                    try simp only [Act.put, List.setIfInBounds_toArray, List.set_cons_zero, List.set_cons_succ]
                    refine wpAnyH_take (i := 6) (v := ?_) (by first | (simp only [List.getElem?_toArray, List.getElem?_cons_succ, List.getElem?_cons_zero] <;> rfl) | rfl) (by kernel_rfl) (by kernel_rfl) (by kernel_rfl) (by exact fun _ _ _ h => h) (Or.inl ⟨by rfl, ?_⟩) hHeld0 ?_
                    rotate_left 1
                    · intro w hSw
                      try dsimp only at hSw
                      (go_simp) <;> (with_reducible rfl)
                    try simp only [Act.put, List.setIfInBounds_toArray, List.set_cons_zero, List.set_cons_succ]
                    refine wpAnyH_take (i := 7) (v := ?_) (by first | (simp only [List.getElem?_toArray, List.getElem?_cons_succ, List.getElem?_cons_zero] <;> rfl) | rfl) (by kernel_rfl) (by kernel_rfl) (by kernel_rfl) (by exact fun _ _ _ h => h) (Or.inl ⟨by rfl, ?_⟩) hHeld0 ?_
                    rotate_left 1
                    · intro w hSw
                      try dsimp only at hSw
                      (go_simp) <;> (with_reducible rfl)
                    try simp only [Act.put, List.setIfInBounds_toArray, List.set_cons_zero, List.set_cons_succ]
                    refine wpAnyH_take (i := 8) (v := ?_) (by first | (simp only [List.getElem?_toArray, List.getElem?_cons_succ, List.getElem?_cons_zero] <;> rfl) | rfl) (by kernel_rfl) (by kernel_rfl) (by kernel_rfl) (by exact fun _ _ _ h => h) (Or.inl ⟨by rfl, ?_⟩) hHeld0 ?_
                    rotate_left 1
                    · intro w hSw
                      try dsimp only at hSw
                      (go_simp) <;> (with_reducible rfl)
                    try simp only [Act.put, List.setIfInBounds_toArray, List.set_cons_zero, List.set_cons_succ]
                    refine wpAnyH_take (i := 9) (v := ?_) (by first | (simp only [List.getElem?_toArray, List.getElem?_cons_succ, List.getElem?_cons_zero] <;> rfl) | rfl) (by kernel_rfl) (by kernel_rfl) (by kernel_rfl) (by exact fun _ _ _ h => h) (Or.inl ⟨by rfl, ?_⟩) hHeld0 ?_
                    rotate_left 1
                    · intro w hSw
                      try dsimp only at hSw
                      (go_simp) <;> (with_reducible rfl)
                    try simp only [Act.put, List.setIfInBounds_toArray, List.set_cons_zero, List.set_cons_succ]
                    refine wpAnyH_take (i := 10) (v := ?_) (by first | (simp only [List.getElem?_toArray, List.getElem?_cons_succ, List.getElem?_cons_zero] <;> rfl) | rfl) (by kernel_rfl) (by kernel_rfl) (by kernel_rfl) (by exact fun _ _ _ h => h) (Or.inl ⟨by rfl, ?_⟩) hHeld0 ?_
                    rotate_left 1
                    · intro w hSw
                      try dsimp only at hSw
                      (go_simp) <;> (with_reducible rfl)
                    try simp only [Act.put, List.setIfInBounds_toArray, List.set_cons_zero, List.set_cons_succ]
                    refine wpAnyH_take (i := 11) (v := ?_) (by first | (simp only [List.getElem?_toArray, List.getElem?_cons_succ, List.getElem?_cons_zero] <;> rfl) | rfl) (by kernel_rfl) (by kernel_rfl) (by kernel_rfl) (by exact fun _ _ _ h => h) (Or.inl ⟨by rfl, ?_⟩) hHeld0 ?_
                    rotate_left 1
                    · intro w hSw
                      try dsimp only at hSw
                      (go_simp) <;> (with_reducible rfl)
                    try simp only [Act.put, List.setIfInBounds_toArray, List.set_cons_zero, List.set_cons_succ]
                    refine wpAnyH_ready (rs := [1, 12]) (by kernel_rfl) (by simp) ?_
                    refine AllReadyH.cons (by first | (simp only [List.getElem?_toArray, List.getElem?_cons_succ, List.getElem?_cons_zero] <;> rfl) | rfl) (fun K hK => ?_) ?_
                    · skip
                      have y2 := HNs.out.k13.cell 2 rfl
                      have yl := HNs.out.k13.lt
                      go_simp
                      refine hK.out _ _ hHeld0 (fun hHeld1 => ?_)
                      clear hK K y2 yl hHeld0
                      first | (generalize vh0 = vh1 at hHeld1 HBv HNs HN ⊢) | (generalize vh0 = vh1 at hHeld1 HBv HNs ⊢)
                      try simp only [Act.put, List.setIfInBounds_toArray, List.set_cons_zero, List.set_cons_succ]
                      refine wpAnyH_ready (rs := [12]) (by kernel_rfl) (by simp) ?_
                      refine AllReadyH.cons (by first | (simp only [List.getElem?_toArray, List.getElem?_cons_succ, List.getElem?_cons_zero] <;> rfl) | rfl) (fun K hK => ?_) ?_
                      · skip
                        go_simp
                        have hbb := oneb vh1 (.cells #[.int .u32 jnum, .int .u32 jact, .slice jA jn jc] 64)
                        have hN := Bk.new vh1 64 #[.int .u32 jnum, .int .u32 jact, .slice jA jn jc] (l := [.int .u32 jnum, .int .u32 jact, .slice jA jn jc]) rfl
                        have HBn := Lib.hid (HBv.out.trans (hbb.mono HBv.out.size))
                        refine hK.out _ _ (HmkS.out _ HBn.out) (fun hHeld2 => ?_)
                        clear hK K
                        generalize World.alloc vh1 _ = vh2 at hbb hN HBn hHeld2 ⊢
                        have HNs := Lib.hid (HNs.out.kept hbb)
                        have HN := Lib.hid hN
                        have HBv := HBn
                        clear hN hbb HBn hHeld1
                        try simp only [Act.put, List.setIfInBounds_toArray, List.set_cons_zero, List.set_cons_succ]
                        refine wpAnyH_ready (rs := [13]) (by kernel_rfl) (by simp) ?_
                        refine AllReadyH.cons (by first | (simp only [List.getElem?_toArray, List.getElem?_cons_succ, List.getElem?_cons_zero] <;> rfl) | rfl) (fun K hK => ?_) ?_
                        · skip
                          obtain ⟨v7, vh3, hr, ho, hg, hat⟩ := run_list 38 38 64 _ 3 32 infoPR Try.underlying38 rfl (by decide) (by decide) w8.heap.size vb (rules.reverse.take i).length ((rules.reverse.take i).flatMap RuleV.cells) HNs.out.ob (some ⟨_, 0, none⟩) 1 1 _ (bk_rd HN.out rfl) (rule3_one _ _ _ _ _) (by have := List.length_take_le i rules.reverse; omega) HBv.out.size
                          obtain ⟨A7, c7, hve, _⟩ := own_typed ho
                          obtain ⟨n7, hn7⟩ : ∃ n, n = (rules.reverse.take i).length + 1 := ⟨_, rfl⟩
                          rw [← hn7] at hve
                          have HV7 := Lib.hid hve
                          subst hve
                          obtain ⟨_, _, _, _, _, hty, _⟩ := own_typed HNs.out.ob
                          have HBn := Lib.hid (HBv.out.grown hg HBv.out.size (fun g e => (HNs.out.ob.lt g e).1))
                          have HNn := Lib.hid (HNs.out.addBack ⟨⟨jnum, jact, jcs⟩, jA, jc⟩ (by rw [HJn.out] at ho; exact ho) hg hat)
                          have h13 := HNs.out.k13.appended hg hty (by decide)
                          have HY := Lib.hid h13
                          refine op_append (.tmp 78) (.tmp 89) 38 rfl _ _ _ vh3 rfl rfl hr ?_
                          refine hK.out _ _ (HmkS.out _ HBn.out) (fun hHeld3 => ?_)
                          clear hK K
                          have HBv := HBn
                          clear ho hg hat hty hr h13 hn7 HBn hHeld2 HN HNs
                          try simp only [Act.put, List.setIfInBounds_toArray, List.set_cons_zero, List.set_cons_succ]
                          refine wpAnyH_take (i := 14) (v := ?_) (by first | (simp only [List.getElem?_toArray, List.getElem?_cons_succ, List.getElem?_cons_zero] <;> rfl) | rfl) (by kernel_rfl) (by kernel_rfl) (by kernel_rfl) (by exact fun _ _ _ h => h) (Or.inl ⟨by rfl, ?_⟩) hHeld3 ?_
                          rotate_left 1
                          · intro w hSw
                            try dsimp only at hSw
                            (go_simp) <;> (with_reducible rfl)
                          try simp only [Act.put, List.setIfInBounds_toArray, List.set_cons_zero, List.set_cons_succ]
                          refine wpAnyH_ready (rs := [15]) (by kernel_rfl) (by simp) ?_
                          refine AllReadyH.cons (by first | (simp only [List.getElem?_toArray, List.getElem?_cons_succ, List.getElem?_cons_zero] <;> rfl) | rfl) (fun K hK => ?_) ?_
                          · skip
                            have y2 := HY.out.cell 2 rfl
                            have z2 := HY.out.fz 2
                            have yl := HY.out.lt
                            go_simp
                            have HBn := Lib.hid (HNn.out.bel)
                            refine hK.out _ _ (HmkS.out _ HBn.out) (fun hHeld4 => ?_)
                            clear hK K y2 z2 yl hHeld3 HY
                            try simp only [Act.put, List.setIfInBounds_toArray, List.set_cons_zero, List.set_cons_succ]
                            refine wpAnyH_done (by kernel_rfl) ?_ _
                            clear hHeld4
                            go_wp2_with fail
                            go_roundw
                            case rel => exact ⟨i + 1, vo', .slice A7 n7 c7, by go_num, by omega, Lib.hid (by rw [back_next HJr.out HiL.out]; exact HNn.out)⟩
                            case measure => simp [intOf]; omega
                          exact AllReadyH.nil
                        exact AllReadyH.nil
                      exact AllReadyH.nil
                    refine AllReadyH.cons (by first | (simp only [List.getElem?_toArray, List.getElem?_cons_succ, List.getElem?_cons_zero] <;> rfl) | rfl) (fun K hK => ?_) ?_
                    · skip
                      go_simp
                      have hbb := oneb vh0 (.cells #[.int .u32 jnum, .int .u32 jact, .slice jA jn jc] 64)
                      have hN := Bk.new vh0 64 #[.int .u32 jnum, .int .u32 jact, .slice jA jn jc] (l := [.int .u32 jnum, .int .u32 jact, .slice jA jn jc]) rfl
                      have HBn := Lib.hid (HBv.out.trans (hbb.mono HBv.out.size))
                      refine hK.out _ _ (HmkS.out _ HBn.out) (fun hHeld1 => ?_)
                      clear hK K
                      generalize World.alloc vh0 _ = vh1 at hbb hN HBn hHeld1 ⊢
                      have HNs := Lib.hid (HNs.out.kept hbb)
                      have HN := Lib.hid hN
                      have HBv := HBn
                      clear hN hbb HBn hHeld0
                      try simp only [Act.put, List.setIfInBounds_toArray, List.set_cons_zero, List.set_cons_succ]
                      refine wpAnyH_ready (rs := [1]) (by kernel_rfl) (by simp) ?_
                      refine AllReadyH.cons (by first | (simp only [List.getElem?_toArray, List.getElem?_cons_succ, List.getElem?_cons_zero] <;> rfl) | rfl) (fun K hK => ?_) ?_
                      · skip
                        have y2 := HNs.out.k13.cell 2 rfl
                        have yl := HNs.out.k13.lt
                        go_simp
                        refine hK.out _ _ hHeld1 (fun hHeld2 => ?_)
                        clear hK K y2 yl hHeld1
                        first | (generalize vh1 = vh2 at hHeld2 HBv HNs HN ⊢) | (generalize vh1 = vh2 at hHeld2 HBv HNs ⊢)
                        try simp only [Act.put, List.setIfInBounds_toArray, List.set_cons_zero, List.set_cons_succ]
                        refine wpAnyH_ready (rs := [13]) (by kernel_rfl) (by simp) ?_
                        refine AllReadyH.cons (by first | (simp only [List.getElem?_toArray, List.getElem?_cons_succ, List.getElem?_cons_zero] <;> rfl) | rfl) (fun K hK => ?_) ?_
                        · skip
                          obtain ⟨v7, vh3, hr, ho, hg, hat⟩ := run_list 38 38 64 _ 3 32 infoPR Try.underlying38 rfl (by decide) (by decide) w8.heap.size vb (rules.reverse.take i).length ((rules.reverse.take i).flatMap RuleV.cells) HNs.out.ob (some ⟨_, 0, none⟩) 1 1 _ (bk_rd HN.out rfl) (rule3_one _ _ _ _ _) (by have := List.length_take_le i rules.reverse; omega) HBv.out.size
                          obtain ⟨A7, c7, hve, _⟩ := own_typed ho
                          obtain ⟨n7, hn7⟩ : ∃ n, n = (rules.reverse.take i).length + 1 := ⟨_, rfl⟩
                          rw [← hn7] at hve
                          have HV7 := Lib.hid hve
                          subst hve
                          obtain ⟨_, _, _, _, _, hty, _⟩ := own_typed HNs.out.ob
                          have HBn := Lib.hid (HBv.out.grown hg HBv.out.size (fun g e => (HNs.out.ob.lt g e).1))
                          have HNn := Lib.hid (HNs.out.addBack ⟨⟨jnum, jact, jcs⟩, jA, jc⟩ (by rw [HJn.out] at ho; exact ho) hg hat)
                          have h13 := HNs.out.k13.appended hg hty (by decide)
                          have HY := Lib.hid h13
                          refine op_append (.tmp 78) (.tmp 89) 38 rfl _ _ _ vh3 rfl rfl hr ?_
                          refine hK.out _ _ (HmkS.out _ HBn.out) (fun hHeld3 => ?_)
                          clear hK K
                          have HBv := HBn
                          clear ho hg hat hty hr h13 hn7 HBn hHeld2 HN HNs
                          try simp only [Act.put, List.setIfInBounds_toArray, List.set_cons_zero, List.set_cons_succ]
                          refine wpAnyH_take (i := 14) (v := ?_) (by first | (simp only [List.getElem?_toArray, List.getElem?_cons_succ, List.getElem?_cons_zero] <;> rfl) | rfl) (by kernel_rfl) (by kernel_rfl) (by kernel_rfl) (by exact fun _ _ _ h => h) (Or.inl ⟨by rfl, ?_⟩) hHeld3 ?_
                          rotate_left 1
                          · intro w hSw
                            try dsimp only at hSw
                            (go_simp) <;> (with_reducible rfl)
                          try simp only [Act.put, List.setIfInBounds_toArray, List.set_cons_zero, List.set_cons_succ]
                          refine wpAnyH_ready (rs := [15]) (by kernel_rfl) (by simp) ?_
                          refine AllReadyH.cons (by first | (simp only [List.getElem?_toArray, List.getElem?_cons_succ, List.getElem?_cons_zero] <;> rfl) | rfl) (fun K hK => ?_) ?_
                          · skip
                            have y2 := HY.out.cell 2 rfl
                            have z2 := HY.out.fz 2
                            have yl := HY.out.lt
                            go_simp
                            have HBn := Lib.hid (HNn.out.bel)
                            refine hK.out _ _ (HmkS.out _ HBn.out) (fun hHeld4 => ?_)
                            clear hK K y2 z2 yl hHeld3 HY
                            try simp only [Act.put, List.setIfInBounds_toArray, List.set_cons_zero, List.set_cons_succ]
                            refine wpAnyH_done (by kernel_rfl) ?_ _
                            clear hHeld4
                            go_wp2_with fail
                            go_roundw
                            case rel => exact ⟨i + 1, vo', .slice A7 n7 c7, by go_num, by omega, Lib.hid (by rw [back_next HJr.out HiL.out]; exact HNn.out)⟩
                            case measure => simp [intOf]; omega
                          exact AllReadyH.nil
                        exact AllReadyH.nil
                      exact AllReadyH.nil
                    exact AllReadyH.nil
            · obtain rfl : i = nR := by omega
              have hown := HNs.out.oo
              have hbck := HNs.out.ob
              rw [List.take_of_length_le (show rules.length ≤ i by rw [HnR.out]; exact Nat.le_refl _)] at hown
              rw [List.take_of_length_le (show rules.reverse.length ≤ i by rw [List.length_reverse, HnR.out]; exact Nat.le_refl _)] at hbck
              obtain ⟨Ao, co, hvo, _⟩ := own_typed hown
              obtain ⟨Ab, cb2, hvb, _⟩ := own_typed hbck
              obtain ⟨no, hno⟩ : ∃ n, n = (ownL x.num rules).length := ⟨_, rfl⟩
              obtain ⟨nb, hnb⟩ : ∃ n, n = rules.reverse.length := ⟨_, rfl⟩
              rw [← hno] at hvo hown
              rw [← hnb] at hvb hbck
              subst hvo hvb
              have hno12 : no ≤ 12 := by
                have h1 := List.length_filter_le (fun r : RuleV => decide (r.m.num = x.num)) rules
                rw [HnR.out] at h1
                rw [hno]; unfold ownL; omega
              have hnb12 : nb ≤ 12 := by rw [hnb, List.length_reverse, HnR.out]; exact hn12
              have HRw := Lib.hid (HRR8.out.below HNs.out.bel)
              have HRo := Lib.hid (show RRd wx (ownL x.num rules) Ao from ⟨by have := own_rd hown; rw [hno] at this; exact this, fun r hr => HRw.out.c r (List.mem_filter.1 hr).1, fun r hr => HRw.out.ok r (List.mem_filter.1 hr).1⟩)
              have HRb := Lib.hid (show RRd wx rules.reverse Ab from ⟨by have := own_rd hbck; rw [hnb] at this; exact this, fun r hr => HRw.out.c r (List.mem_reverse.1 hr), fun r hr => HRw.out.ok r (List.mem_reverse.1 hr)⟩)
              have HSo := Lib.hid (fun W (h : Below wx.heap.size wx W) => says_any ⟨#[]⟩ pd (ownL x.num rules) Ao no co 0 none 0 0 none 0 0 x W hno.symm (by omega) (HRo.out.below h) HXo.out)
              have HSb := Lib.hid (fun W (h : Below wx.heap.size wx W) => says_any ⟨#[]⟩ pd rules.reverse Ab nb cb2 0 none 0 0 none 0 0 x W hnb.symm (by omega) (HRb.out.below h) HXo.out)
              have HSp := Lib.hid (fun W (h : Below wx.heap.size wx W) => says_any ⟨pn9.toArray⟩ pd rules RA i Rc ph PA9 nP Pc QA9 nQ Qc x W HnR.out (by omega) (HRw.out.below h) HXo.out)
              rw [says_own] at HSo
              obtain ⟨s1, hs1⟩ : ∃ s, s = saysR pd (rules.map RuleV.m) x := ⟨_, rfl⟩
              obtain ⟨s2, hs2⟩ : ∃ s, s = saysR pd (rules.reverse.map RuleV.m) x := ⟨_, rfl⟩
              have HL1 := Lib.hid (show s1 < 4294967296 by rw [hs1]; exact says_lt HPd.out HRw.out.ok)
              have HL2 := Lib.hid (show s2 < 4294967296 by rw [hs2]; exact says_lt HPd.out HRb.out.ok)
              have hkk : Rec.strN s2 = Rec.strN s1 := by rw [hs1, hs2]; exact says_back pd x rules
              have g1 : ((s1 : Int) != (s1 : Int)) = false := by simp
              obtain ⟨kk, hk1⟩ : ∃ k, k = Rec.kdOf (Rec.strN s1) := ⟨_, rfl⟩
              have HK1 := Lib.hid (show ∀ W, Calls Try.prog 20 #[.int .u32 s1] W fun e w' => e = .returned (.int .u32 (kk : Nat)) ∧ W = w' from fun W => by rw [hk1]; exact Rec.kind_any s1 W HL1.out)
              have HK2 := Lib.hid (show ∀ W, Calls Try.prog 20 #[.int .u32 s2] W fun e w' => e = .returned (.int .u32 (kk : Nat)) ∧ W = w' from fun W => by rw [hk1, ← hkk]; exact Rec.kind_any s2 W HL2.out)
              have g2 : ((kk : Int) != (kk : Int)) = false := by simp
              rw [← hs1] at HSo HSp
              rw [← hs2] at HSb
              clear hs1 hs2 hkk hk1 hno hnb hown hbck HRo HRb HRw
              have o0 := HNs.out.k12.cell 0 rfl
              have o1 := HNs.out.k12.cell 1 rfl
              have o2 := HNs.out.k12.cell 2 rfl
              have o3 := HNs.out.k12.cell 3 rfl
              have o4 := HNs.out.k12.cell 4 rfl
              have o5 := HNs.out.k12.cell 5 rfl
              have b0 := HNs.out.k13.cell 0 rfl
              have b1 := HNs.out.k13.cell 1 rfl
              have b2 := HNs.out.k13.cell 2 rfl
              have b3 := HNs.out.k13.cell 3 rfl
              have b4 := HNs.out.k13.cell 4 rfl
              have b5 := HNs.out.k13.cell 5 rfl
              have p0 := (HK98.out.kept HNs.out.bel).cell 0 rfl
              have p1 := (HK98.out.kept HNs.out.bel).cell 1 rfl
              have p2 := (HK98.out.kept HNs.out.bel).cell 2 rfl
              have p3 := (HK98.out.kept HNs.out.bel).cell 3 rfl
              have p4 := (HK98.out.kept HNs.out.bel).cell 4 rfl
              have p5 := (HK98.out.kept HNs.out.bel).cell 5 rfl
              have r0 := HNs.out.k11.cell 0 rfl
              have r1 := HNs.out.k11.cell 1 rfl
              have r2 := HNs.out.k11.cell 2 rfl
              have r3 := HNs.out.k11.cell 3 rfl
              have r4 := HNs.out.k11.cell 4 rfl
              have r5 := HNs.out.k11.cell 5 rfl
              have r6 := HNs.out.k11.cell 6 rfl
              have r7 := HNs.out.k11.cell 7 rfl
              have r8 := HNs.out.k11.cell 8 rfl
              have HmkS := Lib.hid (fun W (h : Below wx.heap.size wx W) => (show (fun w' => w'.cell? ⟨g12, 0, none⟩ = some (.string ⟨#[]⟩) ∧ w'.cell? ⟨g12, 1, none⟩ = some (.int .u32 pd) ∧ w'.cell? ⟨g12, 2, none⟩ = some (.slice Ao no co) ∧ w'.cell? ⟨g12, 3, none⟩ = some (.int .u16 0) ∧ w'.cell? ⟨g12, 4, none⟩ = some (.slice none 0 0) ∧ w'.cell? ⟨g12, 5, none⟩ = some (.slice none 0 0) ∧ w'.cell? ⟨g13, 0, none⟩ = some (.string ⟨#[]⟩) ∧ w'.cell? ⟨g13, 1, none⟩ = some (.int .u32 pd) ∧ w'.cell? ⟨g13, 2, none⟩ = some (.slice Ab nb cb2) ∧ w'.cell? ⟨g13, 3, none⟩ = some (.int .u16 0) ∧ w'.cell? ⟨g13, 4, none⟩ = some (.slice none 0 0) ∧ w'.cell? ⟨g13, 5, none⟩ = some (.slice none 0 0) ∧ w'.cell? ⟨g9, 0, none⟩ = some (.string ⟨pn9.toArray⟩) ∧ w'.cell? ⟨g9, 1, none⟩ = some (.int .u32 pd) ∧ w'.cell? ⟨g9, 2, none⟩ = some (.slice RA i Rc) ∧ w'.cell? ⟨g9, 3, none⟩ = some (.int .u16 ph) ∧ w'.cell? ⟨g9, 4, none⟩ = some (.slice PA9 nP Pc) ∧ w'.cell? ⟨g9, 5, none⟩ = some (.slice QA9 nQ Qc) ∧ w'.cell? ⟨g11, 0, none⟩ = some (.int .u32 x.num) ∧ w'.cell? ⟨g11, 1, none⟩ = some (.int .u32 x.arch) ∧ w'.cell? ⟨g11, 2, none⟩ = some (.int .u64 x.at_) ∧ w'.cell? ⟨g11, 3, none⟩ = some (.int .u64 x.a0) ∧ w'.cell? ⟨g11, 4, none⟩ = some (.int .u64 x.a1) ∧ w'.cell? ⟨g11, 5, none⟩ = some (.int .u64 x.a2) ∧ w'.cell? ⟨g11, 6, none⟩ = some (.int .u64 x.a3) ∧ w'.cell? ⟨g11, 7, none⟩ = some (.int .u64 x.a4) ∧ w'.cell? ⟨g11, 8, none⟩ = some (.int .u64 x.a5) ∧ Hid (Below wx.heap.size wx w')) W from ⟨cell_below (HNs.out.k12.cell 0 rfl) h, cell_below (HNs.out.k12.cell 1 rfl) h, cell_below (HNs.out.k12.cell 2 rfl) h, cell_below (HNs.out.k12.cell 3 rfl) h, cell_below (HNs.out.k12.cell 4 rfl) h, cell_below (HNs.out.k12.cell 5 rfl) h, cell_below (HNs.out.k13.cell 0 rfl) h, cell_below (HNs.out.k13.cell 1 rfl) h, cell_below (HNs.out.k13.cell 2 rfl) h, cell_below (HNs.out.k13.cell 3 rfl) h, cell_below (HNs.out.k13.cell 4 rfl) h, cell_below (HNs.out.k13.cell 5 rfl) h, cell_below ((HK98.out.kept HNs.out.bel).cell 0 rfl) h, cell_below ((HK98.out.kept HNs.out.bel).cell 1 rfl) h, cell_below ((HK98.out.kept HNs.out.bel).cell 2 rfl) h, cell_below ((HK98.out.kept HNs.out.bel).cell 3 rfl) h, cell_below ((HK98.out.kept HNs.out.bel).cell 4 rfl) h, cell_below ((HK98.out.kept HNs.out.bel).cell 5 rfl) h, cell_below (HNs.out.k11.cell 0 rfl) h, cell_below (HNs.out.k11.cell 1 rfl) h, cell_below (HNs.out.k11.cell 2 rfl) h, cell_below (HNs.out.k11.cell 3 rfl) h, cell_below (HNs.out.k11.cell 4 rfl) h, cell_below (HNs.out.k11.cell 5 rfl) h, cell_below (HNs.out.k11.cell 6 rfl) h, cell_below (HNs.out.k11.cell 7 rfl) h, cell_below (HNs.out.k11.cell 8 rfl) h, Lib.hid h⟩))
              go_upto_region 22 with fail
              go_cut [110] from 93 to 110 (fun s110 wd => s110 = .bool false ∧ Hid (Below wx.heap.size wx wd))
              case first =>
                refine wp_region_held_drew (S := (fun w' => w'.cell? ⟨g12, 0, none⟩ = some (.string ⟨#[]⟩) ∧ w'.cell? ⟨g12, 1, none⟩ = some (.int .u32 pd) ∧ w'.cell? ⟨g12, 2, none⟩ = some (.slice Ao no co) ∧ w'.cell? ⟨g12, 3, none⟩ = some (.int .u16 0) ∧ w'.cell? ⟨g12, 4, none⟩ = some (.slice none 0 0) ∧ w'.cell? ⟨g12, 5, none⟩ = some (.slice none 0 0) ∧ w'.cell? ⟨g13, 0, none⟩ = some (.string ⟨#[]⟩) ∧ w'.cell? ⟨g13, 1, none⟩ = some (.int .u32 pd) ∧ w'.cell? ⟨g13, 2, none⟩ = some (.slice Ab nb cb2) ∧ w'.cell? ⟨g13, 3, none⟩ = some (.int .u16 0) ∧ w'.cell? ⟨g13, 4, none⟩ = some (.slice none 0 0) ∧ w'.cell? ⟨g13, 5, none⟩ = some (.slice none 0 0) ∧ w'.cell? ⟨g9, 0, none⟩ = some (.string ⟨pn9.toArray⟩) ∧ w'.cell? ⟨g9, 1, none⟩ = some (.int .u32 pd) ∧ w'.cell? ⟨g9, 2, none⟩ = some (.slice RA i Rc) ∧ w'.cell? ⟨g9, 3, none⟩ = some (.int .u16 ph) ∧ w'.cell? ⟨g9, 4, none⟩ = some (.slice PA9 nP Pc) ∧ w'.cell? ⟨g9, 5, none⟩ = some (.slice QA9 nQ Qc) ∧ w'.cell? ⟨g11, 0, none⟩ = some (.int .u32 x.num) ∧ w'.cell? ⟨g11, 1, none⟩ = some (.int .u32 x.arch) ∧ w'.cell? ⟨g11, 2, none⟩ = some (.int .u64 x.at_) ∧ w'.cell? ⟨g11, 3, none⟩ = some (.int .u64 x.a0) ∧ w'.cell? ⟨g11, 4, none⟩ = some (.int .u64 x.a1) ∧ w'.cell? ⟨g11, 5, none⟩ = some (.int .u64 x.a2) ∧ w'.cell? ⟨g11, 6, none⟩ = some (.int .u64 x.a3) ∧ w'.cell? ⟨g11, 7, none⟩ = some (.int .u64 x.a4) ∧ w'.cell? ⟨g11, 8, none⟩ = some (.int .u64 x.a5) ∧ Hid (Below wx.heap.size wx w'))) (by kernel_rfl) ?_ (fun hHeld0 => ?_)
                · exact HmkS.out _ (Below.refl wx.heap.size wx).drew
                have HBv := Lib.hid (Below.refl wx.heap.size wx).drew
                clear o0 o1 o2 o3 o4 o5 b0 b1 b2 b3 b4 b5 p0 p1 p2 p3 p4 p5 r0 r1 r2 r3 r4 r5 r6 r7 r8
                generalize wx.drew = vh0 at hHeld0 HBv ⊢
                refine wpAnyH_take (i := 0) (v := ?_) (by first | (simp only [List.getElem?_toArray, List.getElem?_cons_zero] <;> rfl) | rfl) (by kernel_rfl) (by kernel_rfl) (by kernel_rfl) (by exact fun _ _ _ h => h) (Or.inl ⟨by rfl, ?_⟩) hHeld0 ?_
                rotate_left 1
                · intro w hSw
                  try dsimp only at hSw
                  (go_simp) <;> (with_reducible rfl)
                try simp only [Act.put, List.setIfInBounds_toArray, List.set_cons_zero, List.set_cons_succ]
                refine wpAnyH_take (i := 1) (v := ?_) (by first | (simp only [List.getElem?_toArray, List.getElem?_cons_succ, List.getElem?_cons_zero] <;> rfl) | rfl) (by kernel_rfl) (by kernel_rfl) (by kernel_rfl) (by exact fun _ _ _ h => h) (Or.inl ⟨by rfl, ?_⟩) hHeld0 ?_
                rotate_left 1
                · intro w hSw
                  try dsimp only at hSw
                  (go_simp) <;> (with_reducible rfl)
                try simp only [Act.put, List.setIfInBounds_toArray, List.set_cons_zero, List.set_cons_succ]
                refine wpAnyH_take (i := 3) (v := ?_) (by first | (simp only [List.getElem?_toArray, List.getElem?_cons_succ, List.getElem?_cons_zero] <;> rfl) | rfl) (by kernel_rfl) (by kernel_rfl) (by kernel_rfl) (by exact fun _ _ _ h => h) (Or.inl ⟨by rfl, ?_⟩) hHeld0 ?_
                rotate_left 1
                · intro w hSw
                  try dsimp only at hSw
                  (go_simp) <;> (with_reducible rfl)
                try simp only [Act.put, List.setIfInBounds_toArray, List.set_cons_zero, List.set_cons_succ]
                refine wpAnyH_take (i := 4) (v := ?_) (by first | (simp only [List.getElem?_toArray, List.getElem?_cons_succ, List.getElem?_cons_zero] <;> rfl) | rfl) (by kernel_rfl) (by kernel_rfl) (by kernel_rfl) (by exact fun _ _ _ h => h) (Or.inl ⟨by rfl, ?_⟩) hHeld0 ?_
                rotate_left 1
                · intro w hSw
                  try dsimp only at hSw
                  (go_simp) <;> (with_reducible rfl)
                try simp only [Act.put, List.setIfInBounds_toArray, List.set_cons_zero, List.set_cons_succ]
                refine wpAnyH_ready (rs := [2]) (by kernel_rfl) (by simp) ?_
                refine AllReadyH.cons (by first | (simp only [List.getElem?_toArray, List.getElem?_cons_succ, List.getElem?_cons_zero] <;> rfl) | rfl) (fun K hK => ?_) ?_
                · skip
                  go_simp
                  refine (HSo.out _ HBv.out).mono ?_
                  rintro e vh1 ⟨rfl, hbb⟩
                  have HBn := Lib.hid (HBv.out.trans (hbb.mono HBv.out.size))
                  refine hK.out _ _ (HmkS.out _ HBn.out) (fun hHeld1 => ?_)
                  clear hK K
                  have HBv := HBn
                  clear hbb HBn hHeld0
                  try simp only [Act.put, List.setIfInBounds_toArray, List.set_cons_zero, List.set_cons_succ]
                  refine wpAnyH_ready (rs := [5]) (by kernel_rfl) (by simp) ?_
                  refine AllReadyH.cons (by first | (simp only [List.getElem?_toArray, List.getElem?_cons_succ, List.getElem?_cons_zero] <;> rfl) | rfl) (fun K hK => ?_) ?_
                  · skip
                    go_simp
                    refine (HSp.out _ HBv.out).mono ?_
                    rintro e vh2 ⟨rfl, hbb⟩
                    have HBn := Lib.hid (HBv.out.trans (hbb.mono HBv.out.size))
                    refine hK.out _ _ (HmkS.out _ HBn.out) (fun hHeld2 => ?_)
                    clear hK K
                    have HBv := HBn
                    clear hbb HBn hHeld1
                    try simp only [Act.put, List.setIfInBounds_toArray, List.set_cons_zero, List.set_cons_succ]
                    refine wpAnyH_take (i := 6) (v := ?_) (by first | (simp only [List.getElem?_toArray, List.getElem?_cons_succ, List.getElem?_cons_zero] <;> rfl) | rfl) (by kernel_rfl) (by kernel_rfl) (by kernel_rfl) (by exact fun _ _ _ h => h) (Or.inl ⟨by rfl, ?_⟩) hHeld2 ?_
                    rotate_left 1
                    · intro w hSw
                      try dsimp only at hSw
                      (go_simp) <;> (with_reducible rfl)
                    try simp only [Act.put, List.setIfInBounds_toArray, List.set_cons_zero, List.set_cons_succ]
                    refine wpAnyH_take (i := 7) (v := ?_) (by first | (simp only [List.getElem?_toArray, List.getElem?_cons_succ, List.getElem?_cons_zero] <;> rfl) | rfl) (by kernel_rfl) (by kernel_rfl) (by kernel_rfl) (by exact fun _ _ _ h => h) (Or.inl ⟨by rfl, ?_⟩) hHeld2 ?_
                    rotate_left 1
                    · intro w hSw
                      try dsimp only at hSw
                      (go_simp) <;> (with_reducible rfl)
                    try simp only [Act.put, List.setIfInBounds_toArray, List.set_cons_zero, List.set_cons_succ]
                    refine wpAnyH_take (i := 8) (v := ?_) (by first | (simp only [List.getElem?_toArray, List.getElem?_cons_succ, List.getElem?_cons_zero] <;> rfl) | rfl) (by kernel_rfl) (by kernel_rfl) (by kernel_rfl) (by exact fun _ _ _ h => h) (Or.inl ⟨by rfl, ?_⟩) hHeld2 ?_
                    rotate_left 1
                    · intro w hSw
                      try dsimp only at hSw
                      (go_simp) <;> (with_reducible rfl)
                    try simp only [Act.put, List.setIfInBounds_toArray, List.set_cons_zero, List.set_cons_succ]
                    refine wpAnyH_take (i := 9) (v := ?_) (by first | (simp only [List.getElem?_toArray, List.getElem?_cons_succ, List.getElem?_cons_zero] <;> rfl) | rfl) (by kernel_rfl) (by kernel_rfl) (by kernel_rfl) (by exact fun _ _ _ h => h) (Or.inl ⟨by rfl, ?_⟩) hHeld2 ?_
                    rotate_left 1
                    · intro w hSw
                      try dsimp only at hSw
                      (go_simp) <;> (with_reducible rfl)
                    try simp only [Act.put, List.setIfInBounds_toArray, List.set_cons_zero, List.set_cons_succ]
                    refine wpAnyH_take (i := 12) (v := ?_) (by first | (simp only [List.getElem?_toArray, List.getElem?_cons_succ, List.getElem?_cons_zero] <;> rfl) | rfl) (by kernel_rfl) (by kernel_rfl) (by kernel_rfl) (by exact fun _ _ _ h => h) (Or.inl ⟨by rfl, ?_⟩) hHeld2 ?_
                    rotate_left 1
                    · intro w hSw
                      try dsimp only at hSw
                      (go_simp) <;> (with_reducible rfl)
                    try simp only [Act.put, List.setIfInBounds_toArray, List.set_cons_zero, List.set_cons_succ]
                    refine wpAnyH_take (i := 13) (v := ?_) (by first | (simp only [List.getElem?_toArray, List.getElem?_cons_succ, List.getElem?_cons_zero] <;> rfl) | rfl) (by kernel_rfl) (by kernel_rfl) (by kernel_rfl) (by exact fun _ _ _ h => h) (Or.inl ⟨by rfl, ?_⟩) hHeld2 ?_
                    rotate_left 1
                    · intro w hSw
                      try dsimp only at hSw
                      (go_simp) <;> (with_reducible rfl)
                    try simp only [Act.put, List.setIfInBounds_toArray, List.set_cons_zero, List.set_cons_succ]
                    refine wpAnyH_ready (rs := [10]) (by kernel_rfl) (by simp) ?_
                    refine AllReadyH.cons (by first | (simp only [List.getElem?_toArray, List.getElem?_cons_succ, List.getElem?_cons_zero] <;> rfl) | rfl) (fun K hK => ?_) ?_
                    · skip
                      go_simp
                      refine (HSb.out _ HBv.out).mono ?_
                      rintro e vh3 ⟨rfl, hbb⟩
                      have HBn := Lib.hid (HBv.out.trans (hbb.mono HBv.out.size))
                      refine hK.out _ _ (HmkS.out _ HBn.out) (fun hHeld3 => ?_)
                      clear hK K
                      have HBv := HBn
                      clear hbb HBn hHeld2
                      try simp only [Act.put, List.setIfInBounds_toArray, List.set_cons_zero, List.set_cons_succ]
                      refine wpAnyH_ready (rs := [11]) (by kernel_rfl) (by simp) ?_
                      refine AllReadyH.cons (by first | (simp only [List.getElem?_toArray, List.getElem?_cons_succ, List.getElem?_cons_zero] <;> rfl) | rfl) (fun K hK => ?_) ?_
                      · skip
                        go_simp
                        refine (HK2.out _).mono ?_
                        rintro e vh4 ⟨rfl, rfl⟩
                        refine hK.out _ _ hHeld3 (fun hHeld4 => ?_)
                        clear hK K hHeld3
                        try simp only [Act.put, List.setIfInBounds_toArray, List.set_cons_zero, List.set_cons_succ]
                        refine wpAnyH_ready (rs := [14]) (by kernel_rfl) (by simp) ?_
                        refine AllReadyH.cons (by first | (simp only [List.getElem?_toArray, List.getElem?_cons_succ, List.getElem?_cons_zero] <;> rfl) | rfl) (fun K hK => ?_) ?_
                        · skip
                          go_simp
                          refine (HSp.out _ HBv.out).mono ?_
                          rintro e vh5 ⟨rfl, hbb⟩
                          have HBn := Lib.hid (HBv.out.trans (hbb.mono HBv.out.size))
                          refine hK.out _ _ (HmkS.out _ HBn.out) (fun hHeld5 => ?_)
                          clear hK K
                          have HBv := HBn
                          clear hbb HBn hHeld4
                          try simp only [Act.put, List.setIfInBounds_toArray, List.set_cons_zero, List.set_cons_succ]
                          refine wpAnyH_ready (rs := [15]) (by kernel_rfl) (by simp) ?_
                          refine AllReadyH.cons (by first | (simp only [List.getElem?_toArray, List.getElem?_cons_succ, List.getElem?_cons_zero] <;> rfl) | rfl) (fun K hK => ?_) ?_
                          · skip
                            go_simp
                            refine (HK1.out _).mono ?_
                            rintro e vh6 ⟨rfl, rfl⟩
                            refine hK.out _ _ hHeld5 (fun hHeld6 => ?_)
                            clear hK K hHeld5
                            try simp only [Act.put, List.setIfInBounds_toArray, List.set_cons_zero, List.set_cons_succ]
                            refine wpAnyH_take (i := 16) (v := ?_) (by first | (simp only [List.getElem?_toArray, List.getElem?_cons_succ, List.getElem?_cons_zero] <;> rfl) | rfl) (by kernel_rfl) (by kernel_rfl) (by kernel_rfl) (by exact fun _ _ _ h => h) (Or.inl ⟨by rfl, ?_⟩) hHeld6 ?_
                            rotate_left 1
                            · intro w hSw
                              try dsimp only at hSw
                              (go_simp) <;> (with_reducible rfl)
                            try simp only [Act.put, List.setIfInBounds_toArray, List.set_cons_zero, List.set_cons_succ]
                            refine wpAnyH_take (i := 17) (v := ?_) (by first | (simp only [List.getElem?_toArray, List.getElem?_cons_succ, List.getElem?_cons_zero] <;> rfl) | rfl) (by kernel_rfl) (by kernel_rfl) (by kernel_rfl) (by exact fun _ _ _ h => h) (Or.inl ⟨by rfl, ?_⟩) hHeld6 ?_
                            rotate_left 1
                            · intro w hSw
                              try dsimp only at hSw
                              (go_simp) <;> (with_reducible rfl)
                            try simp only [Act.put, List.setIfInBounds_toArray, List.set_cons_zero, List.set_cons_succ]
                            refine wpAnyH_done (by kernel_rfl) ?_ _
                            rename World => wq
                            clear hHeld6
                            go_wp2_with fail
                            go_meet
                            case rel => exact ⟨rfl, HBv⟩
                          exact AllReadyH.nil
                        exact AllReadyH.nil
                      exact AllReadyH.nil
                    exact AllReadyH.nil
                  exact AllReadyH.nil
                exact AllReadyH.nil
              case rest =>
                clear o0 o1 o2 o3 o4 o5 b0 b1 b2 b3 b4 b5 p0 p1 p2 p3 p4 p5 r0 r1 r2 r3 r4 r5 r6 r7 r8 HmkS HSo HSb HSp
                obtain ⟨rfl, HBd⟩ := hcut
                have HBe := Lib.hid (HBr.out.trans ((HNs.out.bel.trans (HBd.out.mono HNs.out.bel.size)).mono HBr.out.size))
                go_wp2_with fail
                go_roundw
                case rel => exact ⟨q + 1, by go_num, by omega, HBe⟩
                case measure => simp [intOf]; omega
      · have HBz := Lib.hid (HB6.out.trans (HBr.out.mono HB6.out.size))
        go_wp2_with fail
        go_ret
        exact ⟨rfl, HBz.out⟩
end Go.Proofs.Ytagbamengcnfeaa.Me
