/- MeanAll: the walk. -/
import Derived.Test.YtagbamengcnfeaaMeC
import Derived.Test.YtagbamengcnfeaaMeE
import Derived.Test.YtagbamengcnfeaaMeX
namespace Go.Proofs.Ytagbamengcnfeaa.Me
open Go.RowKit Go.WideElems
theorem infoPol : (Try.prog.info? 43).map (fun i => (i.zero, i.size, i.bytes)) = some (some (.agg #[.string ⟨#[]⟩, .int .u32 0, .slice none 0 0, .int .u16 0, .slice none 0 0, .slice none 0 0]), 6, 104) := by kernel_rfl
theorem infoRef : (Try.prog.info? 49).map (fun i => (i.zero, i.size, i.bytes)) = some (some (.agg #[.string ⟨#[]⟩, .int .u32 0, .slice none 0 0, .int .i64 0, .slice none 0 0, .slice none 0 0]), 6, 104) := by kernel_rfl
theorem append_oneB {w : World} {ops : Array Oper} {rest : List Oper} {o : Oper} {a : Act} {Q : Exit → Act → World → Prop} (hgd : o.guard = none) (s x : Operand) (t e : TypeId)
    (ho : o.op = .call { callee := .builtin .append, args := #[s, x], argTypes := #[t, t] }) (zero : Value) (size bytes : Nat)
    (hinfo : (Try.prog.info? e).map (fun i => (i.zero, i.size, i.bytes)) = some (some zero, size, bytes)) (ht : Try.prog.underlying t = some (.slice e)) (hzs : zero.cells.size = size) (hsz : 0 < size) (hby : bytes ≤ 128)
    (base : Nat) (v : Value) (n : Nat) (xs : List Value) (hs : a.eval s = v) (hown : w.ownsRow base e size v n xs) (g : Nat) (news : List Value) (hx : a.eval x = .slice (some ⟨g, 0, none⟩) 1 1) (hl : news.length = size) (hB : Bk w g e news) (h1 : ∀ u ∈ news, u.oneCell' = true) (hn : n ≤ 100000) (hbase : base ≤ w.heap.size)
    (h : ∀ v' w', w'.ownsRow base e size v' (n + 1) (xs ++ news) → w.grownBy w' v.ownBlock → (v'.ownBlock = v.ownBlock ∨ v'.ownBlock = some w.heap.size) → wpList Try.prog ops Q rest (a.put o.dst v') w') : wpList Try.prog ops Q (o :: rest) a w := by
  obtain ⟨i0, hi, hz0, hz1, hz2⟩ := info_parts hinfo
  refine wpList_append_own_at w hgd s x t ho base e i0 zero size bytes ht hi hz0 hz1 hz2 hzs hsz v n xs hs hown ⟨g, 0, none⟩ 1 1 news hx (by omega) (fun j u hu => by rw [addr_at, Nat.zero_add]; exact hB.cell j hu) h1 (by unfold maxLen; omega) ?_ hbase (fun v' w' h1 h2 _ h3 => h v' w' h1 h2 h3)
  have : (n + 1) * bytes ≤ 100001 * 128 := Nat.mul_le_mul (by omega) hby
  omega
theorem own_trd {w : World} {B : Nat} {e : TypeId} {z n c : Nat} {A : Option Addr} {xs : List Value} (h : w.ownsRow B e z (.slice A n c) n xs) : TRd w e z n A xs := by
  obtain ⟨A', c', he, _, ht, _⟩ := own_typed h
  cases he
  exact ht
/-- A policy in memory, and in blocks of which types. -/
structure TPol (w : World) (p : PolV) : Prop where
  r : TRd w 64 3 p.rules.length p.RA (p.rules.flatMap RuleV.cells)
  c : ∀ x ∈ p.rules, TRd w 67 4 x.m.conds.length x.A (x.m.conds.flatMap CondM.cells)
  pt : TRd w 107 2 p.paths.length p.PA (p.paths.flatMap pathC)
  po : TRd w 110 2 p.ports.length p.QA (p.ports.flatMap portC)
theorem TPol.reads {w : World} {p : PolV} (h : TPol w p) : Reads w p := ⟨h.r.rd, fun x hx => (h.c x hx).rd, h.pt.rd, h.po.rd⟩
theorem TPol.below {w w' : World} {p : PolV} (h : TPol w p) (hb : Below w.heap.size w w') : TPol w' p := ⟨h.r.below hb, fun x hx => (h.c x hx).below hb, h.pt.below hb, h.po.below hb⟩
theorem trr_below {w w' : World} {p : PolV} (h : TRR w p) (hb : Below w.heap.size w w') : TRR w' p := ⟨h.r.below hb, fun x hx => (h.c x hx).below hb, h.pt.below hb, h.po.below hb⟩
theorem TPol.appended {w w' : World} {p : PolV} {U : TypeId} {v : Value} (h : TPol w p) (hg : w.grownBy w' v.ownBlock) (hv : ∀ g, v.ownBlock = some g → TyB w g U) (hU : U = 43 ∨ U = 49) : TPol w' p := by
  rcases hU with rfl | rfl
  · exact ⟨h.r.appended hg hv (by decide), fun x hx => (h.c x hx).appended hg hv (by decide), h.pt.appended hg hv (by decide), h.po.appended hg hv (by decide)⟩
  · exact ⟨h.r.appended hg hv (by decide), fun x hx => (h.c x hx).appended hg hv (by decide), h.pt.appended hg hv (by decide), h.po.appended hg hv (by decide)⟩
theorem trr_appended {w w' : World} {p : PolV} {U : TypeId} {v : Value} (h : TRR w p) (hg : w.grownBy w' v.ownBlock) (hv : ∀ g, v.ownBlock = some g → TyB w g U) (hU : U = 43 ∨ U = 49) : TRR w' p := by
  rcases hU with rfl | rfl
  · exact ⟨h.r.appended hg hv (by decide), fun x hx => (h.c x hx).appended hg hv (by decide), h.pt.appended hg hv (by decide), h.po.appended hg hv (by decide)⟩
  · exact ⟨h.r.appended hg hv (by decide), fun x hx => (h.c x hx).appended hg hv (by decide), h.pt.appended hg hv (by decide), h.po.appended hg hv (by decide)⟩
theorem tpol_of {w : World} {B : Nat} {nm : Bs} {act : Nat} {rs : List RuleV} {RA : Option Addr} {Rc hd : Nat} {pt : List (Bs × Nat)} {PA : Option Addr} {Pc : Nat} {po : List (Nat × Nat)} {QA : Option Addr} {Qc : Nat} (h : Rows4 w B rs RA Rc pt PA Pc po QA Qc) : TPol w ⟨nm, act, rs, RA, Rc, hd, pt, PA, Pc, po, QA, Qc⟩ :=
  ⟨own_trd h.r, h.c, own_trd h.p, own_trd h.q⟩
/-- What the rounds over the small policies build: the policies, and as the document's answer has them. -/
structure AS (w3 wr : World) (vo vr : Value) (ps rs : List PolV) : Prop where
  oo : wr.ownsRow w3.heap.size 43 6 vo ps.length (ps.flatMap PolV.cells)
  od : wr.ownsRow w3.heap.size 49 6 vr rs.length (rs.flatMap PolV.rcells)
  tp : ∀ p ∈ ps, TPol wr p
  tr : ∀ p ∈ rs, TRR wr p
  bel : Below w3.heap.size w3 wr
section
variable {w3 wr w' w1 : World} {vo vr v' : Value} {ps rs : List PolV}
theorem AS.kept (h : AS w3 wr vo vr ps rs) (hb : Below wr.heap.size wr w') : AS w3 w' vo vr ps rs :=
  ⟨own_keepN h.oo hb, own_keepN h.od hb, fun p hp => (h.tp p hp).below hb, fun p hp => trr_below (h.tr p hp) hb, h.bel.trans (hb.mono h.bel.size)⟩
theorem AS.addP (h : AS w3 wr vo vr ps rs) (p : PolV) (hp : TPol wr p) (hown : w1.ownsRow w3.heap.size 43 6 v' (ps.length + 1) (ps.flatMap PolV.cells ++ p.cells)) (hg : wr.grownBy w1 vo.ownBlock) : AS w3 w1 v' vr (ps ++ [p]) rs := by
  obtain ⟨_, _, _, _, _, hty, _⟩ := own_typed h.oo
  refine ⟨?_, own_appended h.od hg hty (by decide), fun q hq => ?_, fun q hq => trr_appended (h.tr q hq) hg hty (.inl rfl), h.bel.grown hg h.bel.size (fun g e => (h.oo.lt g e).1)⟩
  · rw [List.length_append, List.flatMap_append]
    simpa using hown
  · rcases List.mem_append.1 hq with hq | hq
    · exact (h.tp q hq).appended hg hty (.inl rfl)
    · rw [List.mem_singleton.1 hq]; exact hp.appended hg hty (.inl rfl)
theorem AS.addR (h : AS w3 wr vo vr ps rs) (p : PolV) (hp : TRR wr p) (hown : w1.ownsRow w3.heap.size 49 6 v' (rs.length + 1) (rs.flatMap PolV.rcells ++ p.rcells)) (hg : wr.grownBy w1 vr.ownBlock) : AS w3 w1 vo v' ps (rs ++ [p]) := by
  obtain ⟨_, _, _, _, _, hty, _⟩ := own_typed h.od
  refine ⟨own_appended h.oo hg hty (by decide), ?_, fun q hq => (h.tp q hq).appended hg hty (.inr rfl), fun q hq => ?_, h.bel.grown hg h.bel.size (fun g e => (h.od.lt g e).1)⟩
  · rw [List.length_append, List.flatMap_append]
    simpa using hown
  · rcases List.mem_append.1 hq with hq | hq
    · exact trr_appended (h.tr q hq) hg hty (.inr rfl)
    · rw [List.mem_singleton.1 hq]; exact trr_appended hp hg hty (.inr rfl)
end
/-- What is known of them. -/
structure AQ (i : Nat) (vo : Value) (ps rs : List PolV) : Prop where
  np : ps.length = i
  nr : rs.length = i
  q : ∀ p ∈ ps, QOk p ∧ p.dflt < 4294967296
  r : ∀ p ∈ rs, p.rules.length ≤ 1000 ∧ p.dflt < 4294967296 ∧ ∀ x ∈ p.rules, x.m.ok
  eq : ps.map pm = rs.map pm
  nil : i = 0 → vo = .slice none 0 0
theorem allR_more (l : List (Nat × List RuleM)) (d : Nat) (ms : List RuleM) (x : RcM) : Rec.strN (allR l x) ≤ Rec.strN (allR (l ++ [(d, ms)]) x) := by
  unfold allR
  rw [List.foldr_append]
  have : ∀ (l : List (Nat × List RuleM)) (a b : Nat), Rec.strN a ≤ Rec.strN b → Rec.strN (l.foldr (fun p a => Rec.stg a (saysR p.1 p.2 x)) a) ≤ Rec.strN (l.foldr (fun p a => Rec.stg a (saysR p.1 p.2 x)) b) := by
    intro l
    induction l with
    | nil => intro a b h; exact h
    | cons p l ih =>
      intro a b h
      have := ih a b h
      simp only [List.foldr_cons, Rec.stg_str]
      omega
  refine this l _ _ ?_
  simp only [List.foldr_cons, List.foldr_nil, Rec.stg_str]
  omega
theorem allR_lt (x : RcM) : ∀ (l : List PolV), (∀ p ∈ l, p.dflt < 4294967296 ∧ ∀ r ∈ p.rules, r.m.ok) → allR (l.map pm) x < 4294967296
  | [], _ => by show (2147418112 : Nat) < 4294967296; omega
  | p :: l, h => Rec.stg_lt (allR_lt x l (fun q hq => h q (List.mem_cons_of_mem _ hq))) (says_ltM (h p List.mem_cons_self).1 (h p List.mem_cons_self).2)
/-- What a list of policies says, nil or not. -/
theorem mall_own (x : RcM) (w3 w : World) (A : Option Addr) (n cap : Nat) (ps : List PolV) (hx : x.ok) (hn : ps.length = n) (hn8 : n ≤ 1000) (ho : w.ownsRow w3.heap.size 43 6 (.slice A n cap) n (ps.flatMap PolV.cells)) (hr : ∀ p ∈ ps, Reads w p ∧ QOk p) (hd : ∀ p ∈ ps, p.dflt < 4294967296) (h0 : n = 0 → A = none) :
    Calls Try.prog 13 #[.slice A n cap, .agg #[.int .u32 x.num, .int .u32 x.arch, .int .u64 x.at_, .int .u64 x.a0, .int .u64 x.a1, .int .u64 x.a2, .int .u64 x.a3, .int .u64 x.a4, .int .u64 x.a5]] w (RetU (allR (ps.map pm) x) w) := by
  rcases Nat.eq_zero_or_pos n with h | h
  · subst h
    rw [h0 rfl]
    obtain rfl : ps = [] := List.length_eq_zero_iff.1 hn
    exact mall_nil x.cells w cap
  · obtain ⟨b, off, rfl, hb, hc⟩ := (own_rd ho).pos h
    exact mall_any x ps n b off cap w hn h hn8 hx hr hd hb hc
theorem pol6_one (a : Bs) (b c d : Nat) (A B C : Option Addr) (e f g h i : Nat) : ∀ u ∈ [Value.string ⟨a.toArray⟩, .int .u32 b, .slice A e f, .int .u16 c, .slice B g h, .slice C i d], u.oneCell' = true := by
  intro u hu
  simp only [List.mem_cons, List.not_mem_nil, or_false] at hu
  rcases hu with rfl | rfl | rfl | rfl | rfl | rfl <;> rfl
theorem ref6_one (a : Bs) (b : Nat) (c : Nat) (d : Nat) (A B C : Option Addr) (e f g h i : Nat) : ∀ u ∈ [Value.string ⟨a.toArray⟩, .int .u32 b, .slice A e f, .int .i64 c, .slice B g h, .slice C i d], u.oneCell' = true := by
  intro u hu
  simp only [List.mem_cons, List.not_mem_nil, or_false] at hu
  rcases hu with rfl | rfl | rfl | rfl | rfl | rfl <;> rfl
theorem pols_one (l : List PolV) : ∀ u ∈ l.flatMap PolV.cells, u.oneCell' = true := by
  intro u hu
  obtain ⟨x, _, hx⟩ := List.mem_flatMap.1 hu
  exact pol6_one _ _ _ _ _ _ _ _ _ _ _ _ u hx
theorem sm_cells {w : World} {b o k : Nat} {l : List SmV} {x : SmV} (hc : ∀ k x, l[k]? = some x → ∀ j v, (SmV.cells x)[j]? = some v → w.cell? ⟨b, o + (k * 8 + j), none⟩ = some v) (h : l[k]? = some x) :
    w.cell? ⟨b, o + k * 8, none⟩ = some (.int .u8 x.ni) ∧ w.cell? ⟨b, o + k * 8 + 1, none⟩ = some (.int .u8 x.df) ∧ w.cell? ⟨b, o + k * 8 + 2, none⟩ = some (.int .u8 x.er) ∧ w.cell? ⟨b, o + k * 8 + 3, none⟩ = some (.slice x.SA x.srs.length x.sc) ∧ w.cell? ⟨b, o + k * 8 + 4, none⟩ = some (.int .u16 x.hh) ∧ w.cell? ⟨b, o + k * 8 + 5, none⟩ = some (.slice x.DA x.dl.length x.dc) ∧ w.cell? ⟨b, o + k * 8 + 6, none⟩ = some (.slice x.GA x.gl.length x.gc) ∧ w.cell? ⟨b, o + k * 8 + 7, none⟩ = some (.slice x.KA x.pl.length x.kc) := by
  have hj := fun j v hv => hc k x h j v hv
  simp only [← Nat.add_assoc] at hj
  exact ⟨hj 0 _ rfl, hj 1 _ rfl, hj 2 _ rfl, hj 3 _ rfl, hj 4 _ rfl, hj 5 _ rfl, hj 6 _ rfl, hj 7 _ rfl⟩
set_option maxHeartbeats 64000000 in
set_option maxRecDepth 100000 in
theorem walk_meanAll (A : Option Addr) (n c : Nat) (s : SmV) (r0 : RcM) (k : Int) (w : World) (hl : SmsIn w A n c) (hs : SmIn w s) (hr0 : r0.ok) (hkw : (Lit.int .u8 k).wf = true) :
    Calls Try.prog 3 #[.slice A n c, .agg s.cells.toArray, .agg r0.cells.toArray, .int .u8 k] w (RetB true w) := by
  obtain ⟨ni, df, er, hh, srs, SA, sc, dl, DA, dc, gl, GA, gc, kl, KA, kc⟩ := s
  obtain ⟨sl, hsl, hsin, hslR, hslm⟩ := hl
  have hkb := bounds_u8 hkw
  obtain ⟨kn, rfl⟩ := Int.eq_ofNat_of_zero_le hkb.1
  have hk256 : kn < 256 := by omega
  obtain ⟨kn2, hkn2, hk2w⟩ : ∃ m : Nat, m < 256 ∧ IntKind.u8.wrap ((kn : Int) + 1) = (m : Int) := ⟨(((kn : Int) + 1) % 256).toNat, by omega, by rw [IntKind.wrap_u8]; omega⟩
  show Calls Try.prog _ #[.slice A n c, .agg #[.int .u8 ni, .int .u8 df, .int .u8 er, .slice SA srs.length sc, .int .u16 hh, .slice DA dl.length dc, .slice GA gl.length gc, .slice KA kl.length kc], .agg #[.int .u32 r0.num, .int .u32 r0.arch, .int .u64 r0.at_, .int .u64 r0.a0, .int .u64 r0.a1, .int .u64 r0.a2, .int .u64 r0.a3, .int .u64 r0.a4, .int .u64 r0.a5], .int .u8 kn] w _
  obtain ⟨hk1, hk2, hb⟩ := two_new w #[.int .u8 ni, .int .u8 df, .int .u8 er, .slice SA srs.length sc, .int .u16 hh, .slice DA dl.length dc, .slice GA gl.length gc, .slice KA kl.length kc] #[.int .u32 r0.num, .int .u32 r0.arch, .int .u64 r0.at_, .int .u64 r0.a0, .int .u64 r0.a1, .int .u64 r0.a2, .int .u64 r0.a3, .int .u64 r0.a4, .int .u64 r0.a5] 28 33 (la := [.int .u8 ni, .int .u8 df, .int .u8 er, .slice SA srs.length sc, .int .u16 hh, .slice DA dl.length dc, .slice GA gl.length gc, .slice KA kl.length kc]) (lb := r0.cells) rfl rfl
  have HSm := Lib.hid (fun W (hb : Below w.heap.size w W) => smallPolicyF_any ni df er hh srs SA _ sc dl DA _ dc gl GA _ gc kl KA _ kc W hs.g1 hs.g2 hs.g3 hs.g4 rfl rfl rfl rfl hs.g5 hs.g6 hs.g7 hs.g8 hs.g9 hs.g10 hs.g11 hs.g12 (hs.g13.below hb) (fun r hr => (hs.g14 r hr).below hb) (hs.g15.below hb) (hs.g16.below hb) (hs.g17.below hb))
  have HSi := Lib.hid hsin
  have HSl := Lib.hid hsl
  have HSR := Lib.hid hslR
  have HR0 := Lib.hid hr0
  have hn63 : n ≤ 9223372036854775807 := hslm
  clear hs hsin hsl hslR hslm hr0 hkw hkb
  go_enter Try.func3, Try.ntmps3
  go_upto_region 1 with fail
  generalize (w.alloc _).alloc _ = w2 at hk1 hk2 hb ⊢
  have HB2 := Lib.hid hb
  have HK1 := Lib.hid hk1
  have HK2 := Lib.hid hk2
  clear hk1 hk2 hb
  go_wp2_with fail
  refine (awake_any _).mono ?_
  rintro e w3 ⟨rfl, hb3⟩
  have HB3 := Lib.hid (HB2.out.trans (hb3.mono HB2.out.size))
  have HK1 := Lib.hid (HK1.out.kept hb3)
  have HK2 := Lib.hid (HK2.out.kept hb3)
  clear hb3 HB2
  by_cases h6 : 6 < n
  · have g6 : (6 : Int) < (n : Int) := by omega
    have d6 : decide ((6 : Int) < (n : Int)) = true := decide_eq_true g6
    clear h6
    go_wp2_with fail
    go_ret
    exact ⟨rfl, HB3.out⟩
  · have g6 : ¬ (6 : Int) < (n : Int) := by omega
    have d6 : decide ((6 : Int) < (n : Int)) = false := decide_eq_false g6
    have hn6 : n ≤ 6 := by omega
    clear h6
    go_wp2_with fail
    go_loopw [9, 10, 25] (fun vo vr iv wr => ∃ (i : Nat) (ps rs : List PolV), iv = .int .i64 i ∧ i ≤ n ∧ Hid (AQ i vo ps rs) ∧ Hid (AS w3 wr vo vr ps rs)) (fun _ _ iv _ => n - (intOf iv).toNat)
    case atStart => exact ⟨0, [], [], rfl, Nat.zero_le _, Lib.hid ⟨rfl, rfl, (fun p hp => by cases hp), (fun p hp => by cases hp), rfl, fun _ => rfl⟩, Lib.hid ⟨World.ownsRow_nil _ _ _ _, World.ownsRow_nil _ _ _ _, (fun p hp => by cases hp), (fun p hp => by cases hp), Below.refl _ _⟩⟩
    case round =>
      rename Value => vr
      rename Value => vo
      obtain ⟨i, ps, rs, rfl, hi, HAQ, HAS⟩ := hrel
      by_cases hin : i < n
      · obtain ⟨t, ht⟩ : ∃ t, sl[i]? = some t := ⟨_, List.getElem?_eq_getElem (by have := HSl.out; omega)⟩
        have hti := HSi.out t (List.mem_of_getElem? ht)
        have HBw := Lib.hid (HB3.out.trans (HAS.out.bel.mono HB3.out.size))
        obtain ⟨bb, ob, hA, hbl, hcell⟩ := (HSR.out.below HBw.out).one (fun _ => rfl) (by omega) (by omega)
        subst hA
        obtain ⟨c0, c1, c2, c3, c4, c5, c6, c7⟩ := sm_cells hcell ht
        obtain ⟨tni, tdf, ter, thh, tsrs, tSA, tsc, tdl, tDA, tdc, tgl, tGA, tgc, tkl, tKA, tkc⟩ := t
        simp only at c0 c1 c2 c3 c4 c5 c6 c7
        have HSt := Lib.hid (fun W (hb : Below w.heap.size w W) => smallPolicyF_any tni tdf ter thh tsrs tSA _ tsc tdl tDA _ tdc tgl tGA _ tgc tkl tKA _ tkc W hti.g1 hti.g2 hti.g3 hti.g4 rfl rfl rfl rfl hti.g5 hti.g6 hti.g7 hti.g8 hti.g9 hti.g10 hti.g11 hti.g12 (hti.g13.below hb) (fun r hr => (hti.g14 r hr).below hb) (hti.g15.below hb) (hti.g16.below hb) (hti.g17.below hb))
        have hi0 : (0 : Int) ≤ (i : Int) := by omega
        clear hcell ht hti
        go_upto_region 10 with fail
        have hkt := Bk.new wr 28 #[.int .u8 tni, .int .u8 tdf, .int .u8 ter, .slice tSA tsrs.length tsc, .int .u16 thh, .slice tDA tdl.length tdc, .slice tGA tgl.length tgc, .slice tKA tkl.length tkc] (l := [.int .u8 tni, .int .u8 tdf, .int .u8 ter, .slice tSA tsrs.length tsc, .int .u16 thh, .slice tDA tdl.length tdc, .slice tGA tgl.length tgc, .slice tKA tkl.length tkc]) rfl
        have hbt := oneb wr (.cells #[.int .u8 tni, .int .u8 tdf, .int .u8 ter, .slice tSA tsrs.length tsc, .int .u16 thh, .slice tDA tdl.length tdc, .slice tGA tgl.length tgc, .slice tKA tkl.length tkc] 28)
        clear c0 c1 c2 c3 c4 c5 c6 c7
        generalize World.alloc wr _ = wa at hkt hbt ⊢
        have HAS := Lib.hid (HAS.out.kept hbt)
        have HBa := Lib.hid (HBw.out.trans (hbt.mono HBw.out.size))
        have HKt := Lib.hid hkt
        have t0 := hkt.cell 0 rfl
        have t1 := hkt.cell 1 rfl
        have t2 := hkt.cell 2 rfl
        have t3 := hkt.cell 3 rfl
        have t4 := hkt.cell 4 rfl
        have t5 := hkt.cell 5 rfl
        have t6 := hkt.cell 6 rfl
        have t7 := hkt.cell 7 rfl
        have tl := hkt.lt
        clear hkt hbt
        generalize wr.heap.size = g12 at HKt t0 t1 t2 t3 t4 t5 t6 t7 tl ⊢
        go_wp2_with fail
        refine (HSt.out _ HBa.out).mono ?_
        clear t0 t1 t2 t3 t4 t5 t6 t7 tl
        rintro e wb ⟨pnm, pact, prs, pRA, pRc, phd, ppt, pPA, pPc, ppo, pQA, pQc, rfl, hR4, hOk, hF, hRF, hbb⟩
        have HAS := Lib.hid (HAS.out.kept hbb)
        have HBb := Lib.hid (HBa.out.trans (hbb.mono HBa.out.size))
        have HKt := Lib.hid (HKt.out.kept hbb)
        clear hbb HBa
        obtain ⟨pnR, hpnR⟩ : ∃ n, n = prs.length := ⟨_, rfl⟩
        obtain ⟨pnP, hpnP⟩ : ∃ n, n = ppt.length := ⟨_, rfl⟩
        obtain ⟨pnQ, hpnQ⟩ : ∃ n, n = ppo.length := ⟨_, rfl⟩
        have HpT := Lib.hid (tpol_of (nm := pnm) (act := pact) (hd := phd) hR4)
        have HpQ := Lib.hid (q_small (RA := pRA) (Rc := pRc) (PA := pPA) (Pc := pPc) (QA := pQA) (Qc := pQc) hOk)
        have Hp32 := Lib.hid hOk.act32
        have Hphd := Lib.hid hOk.hd16
        have HpF := Lib.hid (And.intro hF hRF)
        rw [← hpnR, ← hpnP, ← hpnQ]
        have Hpn := Lib.hid (And.intro hpnR.symm (And.intro hpnP.symm hpnQ.symm))
        clear hR4 hOk hF hRF hpnR hpnP hpnQ
        have hpi : ps.length ≤ 6 := by rw [HAQ.out.np]; omega
        go_wp2_with (at_builtin; go_loud (refine append_oneB rfl (.tmp 29) (.tmp 32) 35 43 rfl _ 6 104 infoPol Try.underlying35 rfl (by decide) (by decide) w3.heap.size _ ps.length (ps.flatMap PolV.cells) rfl (HAS.out.oo.alloc _) wb.heap.size [.string ⟨pnm.toArray⟩, .int .u32 pact, .slice pRA pnR pRc, .int .u16 phd, .slice pPA pnP pPc, .slice pQA pnQ pQc] rfl rfl (Bk.new wb _ _ rfl) (pol6_one _ _ _ _ _ _ _ _ _ _ _ _) (by omega) (by have := HAS.out.bel.size; simp; omega) ?_); intro v7 wc hown hgrow hat; have HASa := HAS.out.kept (oneb wb (.cells #[.string ⟨pnm.toArray⟩, .int .u32 pact, .slice pRA pnR pRc, .int .u16 phd, .slice pPA pnP pPc, .slice pQA pnQ pQc] 43)); obtain ⟨A8, c8, hve, _⟩ := own_typed hown; obtain ⟨_, _, _, _, _, hty, _⟩ := own_typed HASa.oo; have HKc := Lib.hid ((HKt.out.kept (oneb wb (.cells #[.string ⟨pnm.toArray⟩, .int .u32 pact, .slice pRA pnR pRc, .int .u16 phd, .slice pPA pnP pPc, .slice pQA pnQ pQc] 43))).appended hgrow hty (by decide)); have HBc := Lib.hid ((HBb.out.trans ((oneb wb (.cells #[.string ⟨pnm.toArray⟩, .int .u32 pact, .slice pRA pnR pRc, .int .u16 phd, .slice pPA pnP pPc, .slice pQA pnQ pQc] 43)).mono HBb.out.size)).grown hgrow (Nat.le_trans HBb.out.size (by simp)) (fun g e => Nat.le_trans HB3.out.size (HASa.oo.lt g e).1)); have HASb := Lib.hid (HASa.addP ⟨pnm, pact, prs, pRA, pRc, phd, ppt, pPA, pPc, ppo, pQA, pQc⟩ (HpT.out.below (oneb wb _)) (by rw [show PolV.cells ⟨pnm, pact, prs, pRA, pRc, phd, ppt, pPA, pPc, ppo, pQA, pQc⟩ = [.string ⟨pnm.toArray⟩, .int .u32 pact, .slice pRA pnR pRc, .int .u16 phd, .slice pPA pnP pPc, .slice pQA pnQ pQc] from by rw [← Hpn.out.1, ← Hpn.out.2.1, ← Hpn.out.2.2]; rfl]; exact hown) hgrow); obtain ⟨n8, hn8⟩ : ∃ n, n = ps.length + 1 := ⟨_, rfl⟩; rw [← hn8] at hve; have HN8 := Lib.hid hn8; clear hn8; subst hve; have t0 := HKc.out.cell 0 rfl; have t1 := HKc.out.cell 1 rfl; have t2 := HKc.out.cell 2 rfl; have t3 := HKc.out.cell 3 rfl; have t4 := HKc.out.cell 4 rfl; have t5 := HKc.out.cell 5 rfl; have t6 := HKc.out.cell 6 rfl; have t7 := HKc.out.cell 7 rfl; have tl := HKc.out.lt; clear hown hgrow hat HASa hty)
        refine (HSt.out _ HBc.out).mono ?_
        clear t0 t1 t2 t3 t4 t5 t6 t7 tl
        rintro e wd ⟨qnm, qact, qrs, qRA, qRc, qhd, qpt, qPA, qPc, qpo, qQA, qQc, rfl, hR4, hOk, hF, hRF, hbd⟩
        have HASd := Lib.hid (HASb.out.kept hbd)
        have HBd := Lib.hid (HBc.out.trans (hbd.mono HBc.out.size))
        clear hbd HBc HASb HKc HSt
        obtain ⟨qnR, hqnR⟩ : ∃ n, n = qrs.length := ⟨_, rfl⟩
        obtain ⟨qnP, hqnP⟩ : ∃ n, n = qpt.length := ⟨_, rfl⟩
        obtain ⟨qnQ, hqnQ⟩ : ∃ n, n = qpo.length := ⟨_, rfl⟩
        have HqT := Lib.hid (tpol_of (nm := qnm) (act := qact) (hd := qhd) hR4)
        have HqQ := Lib.hid (q_small (RA := qRA) (Rc := qRc) (PA := qPA) (Pc := qPc) (QA := qQA) (Qc := qQc) hOk)
        have Hq32 := Lib.hid hOk.act32
        have Hqhd := Lib.hid hOk.hd16
        have HqF := Lib.hid (And.intro hF hRF)
        rw [← hqnR, ← hqnP, ← hqnQ]
        have Hqn := Lib.hid (And.intro hqnR.symm (And.intro hqnP.symm hqnQ.symm))
        clear hR4 hOk hF hRF hqnR hqnP hqnQ
        have hq80 : qnR ≤ 80 := by rw [← Hqn.out.1]; exact HqQ.out.r
        have hq50 : qnP ≤ 50 := by rw [← Hqn.out.2.1]; exact HqQ.out.pt
        have hq51 : qnQ ≤ 50 := by rw [← Hqn.out.2.2]; exact HqQ.out.po
        go_wp2_with fail
        refine (refT_any qnm qact qrs qRA qnR qRc qhd qpt qPA qnP qPc qpo qQA qnQ qQc wd Hqn.out.1 Hqn.out.2.1 Hqn.out.2.2 hq80 hq50 hq51 (fun r hr => ⟨HqQ.out.cs r hr, (HqQ.out.ok r hr).2.2.2⟩) HqQ.out.hd HqQ.out.pa HqQ.out.qa HqT.out.reads).mono ?_
        rintro e we ⟨⟨rs2, RB, Rd2, PB, Pd, QB, Qd, hmm, rfl, hTR⟩, hbe⟩
        have HASe := Lib.hid (HASd.out.kept hbe)
        have HBe := Lib.hid (HBd.out.trans (hbe.mono HBd.out.size))
        have HTR := Lib.hid hTR
        have HMM := Lib.hid hmm
        clear hbe hTR hmm HBd HASd
        have HrL := Lib.hid (show rs2.length = qnR by have := congrArg List.length HMM.out; simp only [List.length_map] at this; rw [this]; exact Hqn.out.1)
        have hri : rs.length ≤ 6 := by rw [HAQ.out.nr]; omega
        go_wp2_with (at_builtin; go_loud (refine append_oneB rfl (.tmp 34) (.tmp 38) 36 49 rfl _ 6 104 infoRef Try.underlying36 rfl (by decide) (by decide) w3.heap.size _ rs.length (rs.flatMap PolV.rcells) rfl (HASe.out.od.alloc _) we.heap.size [.string ⟨qnm.toArray⟩, .int .u32 qact, .slice RB qnR Rd2, .int .i64 qhd, .slice PB qnP Pd, .slice QB qnQ Qd] rfl rfl (Bk.new we _ _ rfl) (ref6_one _ _ _ _ _ _ _ _ _ _ _ _) (by omega) (by have := HASe.out.bel.size; simp; omega) ?_); intro v9 wf hown hgrow hat; have HASa := HASe.out.kept (oneb we (.cells #[.string ⟨qnm.toArray⟩, .int .u32 qact, .slice RB qnR Rd2, .int .i64 qhd, .slice PB qnP Pd, .slice QB qnQ Qd] 49)); obtain ⟨A9, c9, hve, _⟩ := own_typed hown; have HASf := Lib.hid (HASa.addR ⟨qnm, qact, rs2, RB, Rd2, qhd, qpt, PB, Pd, qpo, QB, Qd⟩ (trr_below HTR.out (oneb we _)) (by rw [show PolV.rcells ⟨qnm, qact, rs2, RB, Rd2, qhd, qpt, PB, Pd, qpo, QB, Qd⟩ = [.string ⟨qnm.toArray⟩, .int .u32 qact, .slice RB qnR Rd2, .int .i64 qhd, .slice PB qnP Pd, .slice QB qnQ Qd] from by rw [← HrL.out, ← Hqn.out.2.1, ← Hqn.out.2.2]; rfl]; exact hown) hgrow); obtain ⟨n9, hn9⟩ : ∃ n, n = rs.length + 1 := ⟨_, rfl⟩; rw [← hn9] at hve; clear hn9; subst hve; clear hown hgrow hat HASa)
        go_roundw
        case rel => exact ⟨i + 1, ps ++ [⟨pnm, pact, prs, pRA, pRc, phd, ppt, pPA, pPc, ppo, pQA, pQc⟩], rs ++ [⟨qnm, qact, rs2, RB, Rd2, qhd, qpt, PB, Pd, qpo, QB, Qd⟩], by go_num, by omega, Lib.hid ⟨by rw [List.length_append, HAQ.out.np]; rfl, by rw [List.length_append, HAQ.out.nr]; rfl, (fun p hp => by
            rcases List.mem_append.1 hp with hp | hp
            · exact HAQ.out.q p hp
            · rw [List.mem_singleton.1 hp]; exact ⟨HpQ.out, Hp32.out⟩), (fun p hp => by
            rcases List.mem_append.1 hp with hp | hp
            · exact HAQ.out.r p hp
            · rw [List.mem_singleton.1 hp]
              refine ⟨by show rs2.length ≤ 1000; rw [HrL.out]; omega, Hq32.out, fun r hr => ?_⟩
              have hm : r.m ∈ qrs.map RuleV.m := by rw [← HMM.out]; exact List.mem_map_of_mem hr
              obtain ⟨v, hv, e⟩ := List.mem_map.1 hm
              rw [← e]; exact HqQ.out.ok v hv), by
            rw [List.map_append, List.map_append, HAQ.out.eq]
            congr 1
            show [(pact, prs.map RuleV.m)] = [(qact, rs2.map RuleV.m)]
            rw [HpF.out.1, HpF.out.2, HqF.out.1, HMM.out, HqF.out.2], fun h => by omega⟩, HASf⟩
        case measure => simp [intOf]; omega
      · obtain rfl : i = n := by omega
        have HBw := Lib.hid (HB3.out.trans (HAS.out.bel.mono HB3.out.size))
        have HK1w := Lib.hid (HK1.out.kept HAS.out.bel)
        have HK2w := Lib.hid (HK2.out.kept HAS.out.bel)
        have t0 := HK1w.out.cell 0 rfl
        have t1 := HK1w.out.cell 1 rfl
        have t2 := HK1w.out.cell 2 rfl
        have t3 := HK1w.out.cell 3 rfl
        have t4 := HK1w.out.cell 4 rfl
        have t5 := HK1w.out.cell 5 rfl
        have t6 := HK1w.out.cell 6 rfl
        have t7 := HK1w.out.cell 7 rfl
        have tl := HK1w.out.lt
        go_wp2_with fail
        refine (HSm.out _ HBw.out).mono ?_
        clear t0 t1 t2 t3 t4 t5 t6 t7 tl HSm HSi HSR HSl
        rintro e wb ⟨qnm, qact, qrs, qRA, qRc, qhd, qpt, qPA, qPc, qpo, qQA, qQc, rfl, hR4, hOk, hF, hRF, hbb⟩
        have HAS := Lib.hid (HAS.out.kept hbb)
        have HBb := Lib.hid (HBw.out.trans (hbb.mono HBw.out.size))
        have HK2w := Lib.hid (HK2w.out.kept hbb)
        clear hbb HBw HK1w
        obtain ⟨qnR, hqnR⟩ : ∃ n, n = qrs.length := ⟨_, rfl⟩
        obtain ⟨qnP, hqnP⟩ : ∃ n, n = qpt.length := ⟨_, rfl⟩
        obtain ⟨qnQ, hqnQ⟩ : ∃ n, n = qpo.length := ⟨_, rfl⟩
        have HqT := Lib.hid (tpol_of (nm := qnm) (act := qact) (hd := qhd) hR4)
        have HqQ := Lib.hid (q_small (RA := qRA) (Rc := qRc) (PA := qPA) (Pc := qPc) (QA := qQA) (Qc := qQc) hOk)
        have Hq32 := Lib.hid hOk.act32
        have Hqhd := Lib.hid hOk.hd16
        have HqF := Lib.hid (And.intro hF hRF)
        rw [← hqnR, ← hqnP, ← hqnQ]
        have Hqn := Lib.hid (And.intro hqnR.symm (And.intro hqnP.symm hqnQ.symm))
        clear hR4 hOk hF hRF hqnR hqnP hqnQ
        have hq80 : qnR ≤ 80 := by rw [← Hqn.out.1]; exact HqQ.out.r
        have hkq := Bk.new wb 43 #[.string ⟨qnm.toArray⟩, .int .u32 qact, .slice qRA qnR qRc, .int .u16 qhd, .slice qPA qnP qPc, .slice qQA qnQ qQc] (l := [.string ⟨qnm.toArray⟩, .int .u32 qact, .slice qRA qnR qRc, .int .u16 qhd, .slice qPA qnP qPc, .slice qQA qnQ qQc]) rfl
        have hbq := oneb wb (.cells #[.string ⟨qnm.toArray⟩, .int .u32 qact, .slice qRA qnR qRc, .int .u16 qhd, .slice qPA qnP qPc, .slice qQA qnQ qQc] 43)
        go_upto_region 14 with fail
        generalize World.alloc wb _ = wc at hkq hbq ⊢
        have HAS := Lib.hid (HAS.out.kept hbq)
        have HBc := Lib.hid (HBb.out.trans (hbq.mono HBb.out.size))
        have HK2c := Lib.hid (HK2w.out.kept hbq)
        have HqT := Lib.hid (HqT.out.below hbq)
        have HKq := Lib.hid hkq
        clear hkq hbq HK2w HBb
        generalize wb.heap.size = g13 at HKq ⊢
        have q0 := HKq.out.cell 0 rfl
        have q1 := HKq.out.cell 1 rfl
        have q2 := HKq.out.cell 2 rfl
        have q3 := HKq.out.cell 3 rfl
        have q4 := HKq.out.cell 4 rfl
        have q5 := HKq.out.cell 5 rfl
        have z0 := HK2c.out.cell 0 rfl
        have z1 := HK2c.out.cell 1 rfl
        have z2 := HK2c.out.cell 2 rfl
        have z3 := HK2c.out.cell 3 rfl
        have z4 := HK2c.out.cell 4 rfl
        have z5 := HK2c.out.cell 5 rfl
        have z6 := HK2c.out.cell 6 rfl
        have z7 := HK2c.out.cell 7 rfl
        have z8 := HK2c.out.cell 8 rfl
        have ql := HKq.out.lt
        have rl := HK2c.out.lt
        have hrn := rd_new wc #[.int .u32 r0.num, .int .u32 r0.arch, .int .u64 r0.at_, .int .u64 r0.a0, .int .u64 r0.a1, .int .u64 r0.a2, .int .u64 r0.a3, .int .u64 r0.a4, .int .u64 r0.a5] (T := 33) (l := [r0].flatMap RcM.cells) (n := 1) (z := 9) rfl rfl
        have hrb := oneb wc (.cells #[.int .u32 r0.num, .int .u32 r0.arch, .int .u64 r0.at_, .int .u64 r0.a0, .int .u64 r0.a1, .int .u64 r0.a2, .int .u64 r0.a3, .int .u64 r0.a4, .int .u64 r0.a5] 33)
        have hun := rd_new (wc.alloc (.cells #[.int .u32 r0.num, .int .u32 r0.arch, .int .u64 r0.at_, .int .u64 r0.a0, .int .u64 r0.a1, .int .u64 r0.a2, .int .u64 r0.a3, .int .u64 r0.a4, .int .u64 r0.a5] 33)) #[.int .u8 kn, .int .u8 kn2] (T := 5) (l := u8s [kn, kn2]) (n := 2) (z := 1) rfl rfl
        have hub := oneb (wc.alloc (.cells #[.int .u32 r0.num, .int .u32 r0.arch, .int .u64 r0.at_, .int .u64 r0.a0, .int .u64 r0.a1, .int .u64 r0.a2, .int .u64 r0.a3, .int .u64 r0.a4, .int .u64 r0.a5] 33)) (.cells #[.int .u8 kn, .int .u8 kn2] 5)
        have HRcA := Lib.hid (records_any ⟨qnm.toArray⟩ qact qrs qRA qnR qRc qhd qPA qnP qPc qQA qnQ qQc [r0] (some ⟨wc.heap.size, 0, none⟩) 1 1 [kn, kn2] (some ⟨(wc.alloc (.cells #[.int .u32 r0.num, .int .u32 r0.arch, .int .u64 r0.at_, .int .u64 r0.a0, .int .u64 r0.a1, .int .u64 r0.a2, .int .u64 r0.a3, .int .u64 r0.a4, .int .u64 r0.a5] 33)).heap.size, 0, none⟩) 2 2 ((wc.alloc (.cells #[.int .u32 r0.num, .int .u32 r0.arch, .int .u64 r0.at_, .int .u64 r0.a0, .int .u64 r0.a1, .int .u64 r0.a2, .int .u64 r0.a3, .int .u64 r0.a4, .int .u64 r0.a5] 33)).alloc (.cells #[.int .u8 kn, .int .u8 kn2] 5)) Hqn.out.1 (by omega) (rrd_of (((HqT.out.below hrb).below hub).reads) HqQ.out) rfl (by omega) (fun y hy => by rw [List.mem_singleton.1 hy]; exact HR0.out) (fun e => by cases e) (hrn.below hub) rfl (by unfold maxLen; omega) (fun y hy => by simp only [List.mem_cons, List.not_mem_nil, or_false] at hy; rcases hy with rfl | rfl <;> assumption) hun)
        have HBu := Lib.hid (hrb.trans (hub.mono hrb.size))
        have esz : (wc.alloc (.cells #[.int .u32 r0.num, .int .u32 r0.arch, .int .u64 r0.at_, .int .u64 r0.a0, .int .u64 r0.a1, .int .u64 r0.a2, .int .u64 r0.a3, .int .u64 r0.a4, .int .u64 r0.a5] 33)).heap.size = wc.heap.size + 1 := by simp
        rw [esz] at HRcA
        clear hrn hrb hun hub esz
        go_wp2_with fail
        refine HRcA.out.mono ?_
        clear HRcA q0 q1 q2 q3 q4 q5 z0 z1 z2 z3 z4 z5 z6 z7 z8 ql rl
        rintro e wd ⟨⟨xs, As, cs9, rfl, hxs, hxok, hxt⟩, hbd⟩
        have HBD := Lib.hid (HBu.out.trans (hbd.mono HBu.out.size))
        have HAS := Lib.hid (HAS.out.kept HBD.out)
        have HK2d := Lib.hid (HK2c.out.kept HBD.out)
        have HKq := Lib.hid (HKq.out.kept HBD.out)
        have HqT := Lib.hid (HqT.out.below HBD.out)
        have HXt := Lib.hid hxt
        have HXo := Lib.hid hxok
        obtain ⟨nx, hnx⟩ : ∃ n, n = xs.length := ⟨_, rfl⟩
        rw [← hnx] at hxs ⊢
        have HNx := Lib.hid hnx.symm
        clear hxt hxok hbd hnx HBu HK2c
        obtain ⟨Ao, co, hvo, _, hto, _, hno⟩ := own_typed HAS.out.oo
        obtain ⟨Ar, cr, hvr, _, htr, _, _⟩ := own_typed HAS.out.od
        have hnp := HAQ.out.np
        have hnr := HAQ.out.nr
        rw [hnp] at hvo hto
        rw [hnr] at hvr htr
        subst hvo hvr
        have HoN := Lib.hid (show i = 0 → Ao = none from fun h => by have := HAQ.out.nil h; cases this; rfl)
        have HOo := Lib.hid (by have := HAS.out.oo; rw [hnp] at this; exact this)
        have HRd := Lib.hid htr.rd
        have HQc := Lib.hid (show PolV.cells ⟨qnm, qact, qrs, qRA, qRc, qhd, qpt, qPA, qPc, qpo, qQA, qQc⟩ = [.string ⟨qnm.toArray⟩, .int .u32 qact, .slice qRA qnR qRc, .int .u16 qhd, .slice qPA qnP qPc, .slice qQA qnQ qQc] by rw [← Hqn.out.1, ← Hqn.out.2.1, ← Hqn.out.2.2]; rfl)
        clear hto htr hno hnp hnr
        go_wp2_with fail
        go_loopw [52] (fun iv wr => ∃ j : Nat, iv = .int .i64 j ∧ j ≤ nx ∧ Hid (Below wd.heap.size wd wr)) (fun iv _ => nx - (intOf iv).toNat)
        case atStart => exact ⟨0, rfl, Nat.zero_le _, Below.refl _ _⟩
        case round =>
          rename World => wy
          obtain ⟨j, rfl, hj, HBr⟩ := hrel
          by_cases hjn : j < nx
          · obtain ⟨x, hx⟩ : ∃ x, xs[j]? = some x := ⟨_, List.getElem?_eq_getElem (by have := HNx.out; omega)⟩
            have HX1 := Lib.hid (HXo.out x (List.mem_of_getElem? hx))
            have hrd := (HXt.out.below HBr.out).rd
            rw [HNx.out] at hrd
            obtain ⟨bs, os, hA, hbl, hcell⟩ := hrd.one (fun _ => rfl) (by omega) (by omega)
            subst hA
            obtain ⟨c0, c1, c2, c3, c4, c5, c6, c7, c8⟩ := nine_rec hcell hx
            have hj0 : (0 : Int) ≤ (j : Int) := by omega
            clear hcell hrd hx
            go_upto_region 17 with fail
            have hkx := Bk.new wy 33 #[.int .u32 x.num, .int .u32 x.arch, .int .u64 x.at_, .int .u64 x.a0, .int .u64 x.a1, .int .u64 x.a2, .int .u64 x.a3, .int .u64 x.a4, .int .u64 x.a5] (l := x.cells) rfl
            have hbx := oneb wy (.cells #[.int .u32 x.num, .int .u32 x.arch, .int .u64 x.at_, .int .u64 x.a0, .int .u64 x.a1, .int .u64 x.a2, .int .u64 x.a3, .int .u64 x.a4, .int .u64 x.a5] 33)
            clear c0 c1 c2 c3 c4 c5 c6 c7 c8
            generalize World.alloc wy _ = wx at hkx hbx ⊢
            have HBx := Lib.hid (HBr.out.trans (hbx.mono HBr.out.size))
            have HKx := Lib.hid hkx
            clear hkx hbx
            generalize wy.heap.size = g15 at HKx ⊢
            have r0 := HKx.out.cell 0 rfl
            have r1 := HKx.out.cell 1 rfl
            have r2 := HKx.out.cell 2 rfl
            have r3 := HKx.out.cell 3 rfl
            have r4 := HKx.out.cell 4 rfl
            have r5 := HKx.out.cell 5 rfl
            have r6 := HKx.out.cell 6 rfl
            have r7 := HKx.out.cell 7 rfl
            have r8 := HKx.out.cell 8 rfl
            have q0 := (HKq.out.kept HBx.out).cell 0 rfl
            have q1 := (HKq.out.kept HBx.out).cell 1 rfl
            have q2 := (HKq.out.kept HBx.out).cell 2 rfl
            have q3 := (HKq.out.kept HBx.out).cell 3 rfl
            have q4 := (HKq.out.kept HBx.out).cell 4 rfl
            have q5 := (HKq.out.kept HBx.out).cell 5 rfl
            have HASx := Lib.hid (HAS.out.kept HBx.out)
            have HRp := Lib.hid (fun W (h : Below wx.heap.size wx W) => (own_rd (own_keepN HOo.out HBx.out)).below h)
            have HA1 := Lib.hid (fun W (h : Below wx.heap.size wx W) => mall_own x w3 W Ao i co ps HX1.out HAQ.out.np (by omega) (own_keepN (own_keepN HOo.out HBx.out) h) (fun p hp => ⟨((HASx.out.tp p hp).below h).reads, (HAQ.out.q p hp).1⟩) (fun p hp => (HAQ.out.q p hp).2) HoN.out)
            have HA2 := Lib.hid (fun W A7 c7 (h : Below wx.heap.size wx W) (ho : W.ownsRow wx.heap.size 43 6 (.slice A7 (i + 1) c7) (i + 1) ((ps ++ [(⟨qnm, qact, qrs, qRA, qRc, qhd, qpt, qPA, qPc, qpo, qQA, qQc⟩ : PolV)]).flatMap PolV.cells)) => mall_own x wx W A7 (i + 1) c7 (ps ++ [(⟨qnm, qact, qrs, qRA, qRc, qhd, qpt, qPA, qPc, qpo, qQA, qQc⟩ : PolV)]) HX1.out (by rw [List.length_append, HAQ.out.np]; rfl) (by omega) ho (fun p hp => by
              rcases List.mem_append.1 hp with hp | hp
              · exact ⟨((HASx.out.tp p hp).below h).reads, (HAQ.out.q p hp).1⟩
              · rw [List.mem_singleton.1 hp]; exact ⟨((HqT.out.below HBx.out).below h).reads, HqQ.out⟩) (fun p hp => by
              rcases List.mem_append.1 hp with hp | hp
              · exact (HAQ.out.q p hp).2
              · rw [List.mem_singleton.1 hp]; exact Hq32.out) (fun h => by omega))
            have HRA := Lib.hid (fun W (h : Below wx.heap.size wx W) => refAll_any x rs i cr Ar W HAQ.out.nr (by omega) HX1.out (fun p hp => ⟨⟨((trr_below (HASx.out.tr p hp) h).r.rd), fun y hy => ((trr_below (HASx.out.tr p hp) h).c y hy).rd, (HAQ.out.r p hp).2.2⟩, (HAQ.out.r p hp).1⟩) (fun p hp => (HAQ.out.r p hp).2.1) ((HRd.out.below HBx.out).below h))
            rw [← HAQ.out.eq] at HRA
            have hab := allR_more (ps.map pm) qact (qrs.map RuleV.m) x
            have HLa := Lib.hid (allR_lt x ps (fun p hp => ⟨(HAQ.out.q p hp).2, (HAQ.out.q p hp).1.ok⟩))
            have HLb := Lib.hid (allR_lt x (ps ++ [(⟨qnm, qact, qrs, qRA, qRc, qhd, qpt, qPA, qPc, qpo, qQA, qQc⟩ : PolV)]) (fun p hp => by
              rcases List.mem_append.1 hp with hp | hp
              · exact ⟨(HAQ.out.q p hp).2, (HAQ.out.q p hp).1.ok⟩
              · rw [List.mem_singleton.1 hp]; exact ⟨Hq32.out, HqQ.out.ok⟩))
            rw [List.map_append] at HA2 HLb
            change Hid (allR (ps.map pm ++ [(qact, qrs.map RuleV.m)]) x < _) at HLb
            have HA2 := Lib.hid (fun W A7 c7 (h : Below wx.heap.size wx W) (ho : W.ownsRow wx.heap.size 43 6 (.slice A7 (i + 1) c7) (i + 1) ((ps ++ [(⟨qnm, qact, qrs, qRA, qRc, qhd, qpt, qPA, qPc, qpo, qQA, qQc⟩ : PolV)]).flatMap PolV.cells)) => (show Calls Try.prog 13 #[.slice A7 (i + 1) c7, .agg #[.int .u32 x.num, .int .u32 x.arch, .int .u64 x.at_, .int .u64 x.a0, .int .u64 x.a1, .int .u64 x.a2, .int .u64 x.a3, .int .u64 x.a4, .int .u64 x.a5]] W (RetU (allR (ps.map pm ++ [(qact, qrs.map RuleV.m)]) x) W) from HA2.out W A7 c7 h ho))
            obtain ⟨a, ha⟩ : ∃ a, a = allR (ps.map pm) x := ⟨_, rfl⟩
            obtain ⟨b, hb⟩ : ∃ b, b = allR (ps.map pm ++ [(qact, qrs.map RuleV.m)]) x := ⟨_, rfl⟩
            rw [← ha] at HA1 HRA hab HLa
            rw [← hb] at HA2 hab HLb
            obtain ⟨sa, hsa⟩ : ∃ s, s = Rec.strN a := ⟨_, rfl⟩
            obtain ⟨sb, hsb⟩ : ∃ s, s = Rec.strN b := ⟨_, rfl⟩
            rw [← hsa, ← hsb] at hab
            have HKa := Lib.hid (fun W => Rec.strength_any a W HLa.out)
            have HKb := Lib.hid (fun W => Rec.strength_any b W HLb.out)
            rw [← hsa] at HKa
            rw [← hsb] at HKb
            have g1 : ((a : Int) != (a : Int)) = false := by simp
            have g2 : ¬ (sb : Int) < (sa : Int) := by omega
            have g3 : decide ((sb : Int) < (sa : Int)) = false := decide_eq_false g2
            have HmkS := Lib.hid (fun W (h : Below wx.heap.size wx W) => (show (fun w' => w'.cell? ⟨g15, 0, none⟩ = some (.int .u32 x.num) ∧ w'.cell? ⟨g15, 1, none⟩ = some (.int .u32 x.arch) ∧ w'.cell? ⟨g15, 2, none⟩ = some (.int .u64 x.at_) ∧ w'.cell? ⟨g15, 3, none⟩ = some (.int .u64 x.a0) ∧ w'.cell? ⟨g15, 4, none⟩ = some (.int .u64 x.a1) ∧ w'.cell? ⟨g15, 5, none⟩ = some (.int .u64 x.a2) ∧ w'.cell? ⟨g15, 6, none⟩ = some (.int .u64 x.a3) ∧ w'.cell? ⟨g15, 7, none⟩ = some (.int .u64 x.a4) ∧ w'.cell? ⟨g15, 8, none⟩ = some (.int .u64 x.a5) ∧ w'.cell? ⟨g13, 0, none⟩ = some (.string ⟨qnm.toArray⟩) ∧ w'.cell? ⟨g13, 1, none⟩ = some (.int .u32 qact) ∧ w'.cell? ⟨g13, 2, none⟩ = some (.slice qRA qnR qRc) ∧ w'.cell? ⟨g13, 3, none⟩ = some (.int .u16 qhd) ∧ w'.cell? ⟨g13, 4, none⟩ = some (.slice qPA qnP qPc) ∧ w'.cell? ⟨g13, 5, none⟩ = some (.slice qQA qnQ qQc) ∧ Hid (Below wx.heap.size wx w')) W from ⟨cell_below r0 h, cell_below r1 h, cell_below r2 h, cell_below r3 h, cell_below r4 h, cell_below r5 h, cell_below r6 h, cell_below r7 h, cell_below r8 h, cell_below q0 h, cell_below q1 h, cell_below q2 h, cell_below q3 h, cell_below q4 h, cell_below q5 h, Lib.hid h⟩))
            clear ha hb hsa hsb hab
            go_cut [16, 17] from 56 to 66 (fun s16 s17 wv => s16 = .int .u32 a ∧ s17 = .int .u32 b ∧ Hid (Below wx.heap.size wx wv))
            case first =>
              refine wp_region_held_drew (S := (fun w' => w'.cell? ⟨g15, 0, none⟩ = some (.int .u32 x.num) ∧ w'.cell? ⟨g15, 1, none⟩ = some (.int .u32 x.arch) ∧ w'.cell? ⟨g15, 2, none⟩ = some (.int .u64 x.at_) ∧ w'.cell? ⟨g15, 3, none⟩ = some (.int .u64 x.a0) ∧ w'.cell? ⟨g15, 4, none⟩ = some (.int .u64 x.a1) ∧ w'.cell? ⟨g15, 5, none⟩ = some (.int .u64 x.a2) ∧ w'.cell? ⟨g15, 6, none⟩ = some (.int .u64 x.a3) ∧ w'.cell? ⟨g15, 7, none⟩ = some (.int .u64 x.a4) ∧ w'.cell? ⟨g15, 8, none⟩ = some (.int .u64 x.a5) ∧ w'.cell? ⟨g13, 0, none⟩ = some (.string ⟨qnm.toArray⟩) ∧ w'.cell? ⟨g13, 1, none⟩ = some (.int .u32 qact) ∧ w'.cell? ⟨g13, 2, none⟩ = some (.slice qRA qnR qRc) ∧ w'.cell? ⟨g13, 3, none⟩ = some (.int .u16 qhd) ∧ w'.cell? ⟨g13, 4, none⟩ = some (.slice qPA qnP qPc) ∧ w'.cell? ⟨g13, 5, none⟩ = some (.slice qQA qnQ qQc) ∧ Hid (Below wx.heap.size wx w'))) (by kernel_rfl) ?_ (fun hHeld0 => ?_)
              · exact HmkS.out _ (Below.refl wx.heap.size wx).drew
              have HBv := Lib.hid (Below.refl wx.heap.size wx).drew
              clear r0 r1 r2 r3 r4 r5 r6 r7 r8 q0 q1 q2 q3 q4 q5
              generalize wx.drew = vh0 at hHeld0 HBv ⊢
              refine wpAnyH_take (i := 0) (v := ?_) (by first | (simp only [List.getElem?_toArray, List.getElem?_cons_zero] <;> rfl) | rfl) (by kernel_rfl) (by kernel_rfl) (by kernel_rfl) (by exact fun _ _ _ h => h) (Or.inl ⟨by rfl, ?_⟩) hHeld0 ?_
              rotate_left 1
              · intro w hSw
                try dsimp only at hSw
                (go_simp) <;> (with_reducible rfl)
              try simp only [Act.put, List.setIfInBounds_toArray, List.set_cons_zero, List.set_cons_succ]
              refine wpAnyH_take (i := 1) (v := ?_) (by first | (simp only [List.getElem?_toArray, List.getElem?_cons_succ, List.getElem?_cons_zero] <;> rfl) | rfl) (by kernel_rfl) (by kernel_rfl) (by kernel_rfl) (by exact fun _ _ _ h => h) (Or.inl ⟨by rfl, ?_⟩) hHeld0 ?_
              rotate_left 1
              · intro w hSw
                try dsimp only at hSw
                (go_simp) <;> (with_reducible rfl)
              try simp only [Act.put, List.setIfInBounds_toArray, List.set_cons_zero, List.set_cons_succ]
              refine wpAnyH_take (i := 4) (v := ?_) (by first | (simp only [List.getElem?_toArray, List.getElem?_cons_succ, List.getElem?_cons_zero] <;> rfl) | rfl) (by kernel_rfl) (by kernel_rfl) (by kernel_rfl) (by exact fun _ _ _ h => h) (Or.inl ⟨by rfl, ?_⟩) hHeld0 ?_
              rotate_left 1
              · intro w hSw
                try dsimp only at hSw
                (go_simp) <;> (with_reducible rfl)
              try simp only [Act.put, List.setIfInBounds_toArray, List.set_cons_zero, List.set_cons_succ]
              refine wpAnyH_take (i := 6) (v := ?_) (by first | (simp only [List.getElem?_toArray, List.getElem?_cons_succ, List.getElem?_cons_zero] <;> rfl) | rfl) (by kernel_rfl) (by kernel_rfl) (by kernel_rfl) (by exact fun _ _ _ h => h) (Or.inl ⟨by rfl, ?_⟩) hHeld0 ?_
              rotate_left 1
              · intro w hSw
                try dsimp only at hSw
                (go_simp) <;> (with_reducible rfl)
              try simp only [Act.put, List.setIfInBounds_toArray, List.set_cons_zero, List.set_cons_succ]
              refine wpAnyH_take (i := 9) (v := ?_) (by first | (simp only [List.getElem?_toArray, List.getElem?_cons_succ, List.getElem?_cons_zero] <;> rfl) | rfl) (by kernel_rfl) (by kernel_rfl) (by kernel_rfl) (by exact fun _ _ _ h => h) (Or.inl ⟨by rfl, ?_⟩) hHeld0 ?_
              rotate_left 1
              · intro w hSw
                try dsimp only at hSw
                (go_simp) <;> (with_reducible rfl)
              try simp only [Act.put, List.setIfInBounds_toArray, List.set_cons_zero, List.set_cons_succ]
              refine wpAnyH_ready (rs := [2, 3, 7]) (by kernel_rfl) (by simp) ?_
              refine AllReadyH.cons (by first | (simp only [List.getElem?_toArray, List.getElem?_cons_succ, List.getElem?_cons_zero] <;> rfl) | rfl) (fun K hK => ?_) ?_
              · skip
                go_simp
                refine (HA1.out _ HBv.out).mono ?_
                rintro e vh1 ⟨rfl, hbb⟩
                have HBn := Lib.hid (HBv.out.trans (hbb.mono HBv.out.size))
                refine hK.out _ _ (HmkS.out _ HBn.out) (fun hHeld1 => ?_)
                clear hK K
                first | (have HO := Lib.hid (own_keepN HO.out hbb)) | skip
                first | (have HN := Lib.hid (HN.out.kept hbb)) | skip
                clear hbb
                have HBv := HBn
                clear HBn hHeld0
                try simp only [Act.put, List.setIfInBounds_toArray, List.set_cons_zero, List.set_cons_succ]
                refine wpAnyH_ready (rs := [3, 7]) (by kernel_rfl) (by simp) ?_
                refine AllReadyH.cons (by first | (simp only [List.getElem?_toArray, List.getElem?_cons_succ, List.getElem?_cons_zero] <;> rfl) | rfl) (fun K hK => ?_) ?_
                · skip
                  go_simp
                  have hbb := oneb vh1 (.cells #[] 43)
                  have hown := own_base (own_empty vh1 43 6) HBv.out.size
                  have HBn := Lib.hid (HBv.out.trans (hbb.mono HBv.out.size))
                  first | (have HD := Lib.hid (own0_ne (n := 0) (c := 0) HN.out)) | skip
                  refine hK.out _ _ (HmkS.out _ HBn.out) (fun hHeld2 => ?_)
                  clear hK K
                  generalize World.alloc vh1 _ = vh2 at hbb hown HBn hHeld2 ⊢
                  first | (have HN := Lib.hid (HN.out.kept hbb)) | skip
                  have HO := Lib.hid hown
                  clear hown hbb
                  have HBv := HBn
                  clear HBn hHeld1
                  try simp only [Act.put, List.setIfInBounds_toArray, List.set_cons_zero, List.set_cons_succ]
                  refine wpAnyH_ready (rs := [5, 7]) (by kernel_rfl) (by simp) ?_
                  refine AllReadyH.cons (by first | (simp only [List.getElem?_toArray, List.getElem?_cons_succ, List.getElem?_cons_zero] <;> rfl) | rfl) (fun K hK => ?_) ?_
                  · skip
                    obtain ⟨v5, vh3, hr, ho, hg, hat⟩ := run_list 35 35 43 _ 6 104 infoPol Try.underlying35 rfl (by decide) (by decide) wx.heap.size _ 0 [] HO.out Ao i co (ps.flatMap PolV.cells) (HRp.out _ HBv.out) (pols_one ps) (by omega) HBv.out.size
                    rw [Nat.zero_add, List.nil_append] at ho
                    obtain ⟨_, _, _, _, _, hty, _⟩ := own_typed HO.out
                    obtain ⟨A3, c3, hve, _⟩ := own_typed ho
                    subst hve
                    have HBn := Lib.hid (HBv.out.grown hg HBv.out.size (fun g e => (HO.out.lt g e).1))
                    first | (have HDn := Lib.hid (own_next hat HD.out HN.out); have HN := Lib.hid (HN.out.grown hg (fun e => HD.out _ e.symm rfl)); have HD := HDn; clear HDn) | skip
                    refine op_append (.tmp 59) (.tmp 60) 35 rfl _ _ _ vh3 rfl rfl hr ?_
                    refine hK.out _ _ (HmkS.out _ HBn.out) (fun hHeld3 => ?_)
                    clear hK K
                    have HO := Lib.hid ho
                    clear ho hg hat hty hr
                    have HBv := HBn
                    clear HBn hHeld2
                    try simp only [Act.put, List.setIfInBounds_toArray, List.set_cons_zero, List.set_cons_succ]
                    refine wpAnyH_ready (rs := [7]) (by kernel_rfl) (by simp) ?_
                    refine AllReadyH.cons (by first | (simp only [List.getElem?_toArray, List.getElem?_cons_succ, List.getElem?_cons_zero] <;> rfl) | rfl) (fun K hK => ?_) ?_
                    · skip
                      go_simp
                      have hbb := oneb vh3 (.cells #[.string ⟨qnm.toArray⟩, .int .u32 qact, .slice qRA qnR qRc, .int .u16 qhd, .slice qPA qnP qPc, .slice qQA qnQ qQc] 43)
                      have hN := Bk.new vh3 43 #[.string ⟨qnm.toArray⟩, .int .u32 qact, .slice qRA qnR qRc, .int .u16 qhd, .slice qPA qnP qPc, .slice qQA qnQ qQc] (l := [.string ⟨qnm.toArray⟩, .int .u32 qact, .slice qRA qnR qRc, .int .u16 qhd, .slice qPA qnP qPc, .slice qQA qnQ qQc]) rfl
                      have HBn := Lib.hid (HBv.out.trans (hbb.mono HBv.out.size))
                      first | (have HD := Lib.hid (fun g hg => Nat.ne_of_lt (HO.out.lt g hg).2)) | skip
                      refine hK.out _ _ (HmkS.out _ HBn.out) (fun hHeld4 => ?_)
                      clear hK K
                      generalize World.alloc vh3 _ = vh4 at hbb hN HBn hHeld4 ⊢
                      first | (have HO := Lib.hid (own_keepN HO.out hbb)) | skip
                      have HN := Lib.hid hN
                      clear hN hbb
                      have HBv := HBn
                      clear HBn hHeld3
                      try simp only [Act.put, List.setIfInBounds_toArray, List.set_cons_zero, List.set_cons_succ]
                      refine wpAnyH_ready (rs := [8]) (by kernel_rfl) (by simp) ?_
                      refine AllReadyH.cons (by first | (simp only [List.getElem?_toArray, List.getElem?_cons_succ, List.getElem?_cons_zero] <;> rfl) | rfl) (fun K hK => ?_) ?_
                      · skip
                        obtain ⟨v8, vh5, hr, ho, hg, hat⟩ := run_list 35 35 43 _ 6 104 infoPol Try.underlying35 rfl (by decide) (by decide) wx.heap.size _ i (ps.flatMap PolV.cells) HO.out (some ⟨_, 0, none⟩) 1 1 [.string ⟨qnm.toArray⟩, .int .u32 qact, .slice qRA qnR qRc, .int .u16 qhd, .slice qPA qnP qPc, .slice qQA qnQ qQc] (bk_rd HN.out rfl) (pol6_one _ _ _ _ _ _ _ _ _ _ _ _) (by omega) HBv.out.size
                        obtain ⟨A7, c7, hve, _⟩ := own_typed ho
                        subst hve
                        have HBn := Lib.hid (HBv.out.grown hg HBv.out.size (fun g e => (HO.out.lt g e).1))
                        have HAb := Lib.hid (HA2.out _ A7 c7 HBn.out (by rw [List.flatMap_append]; simpa [HQc.out] using ho))
                        refine op_append (.tmp 61) (.tmp 63) 35 rfl _ _ _ vh5 rfl rfl hr ?_
                        refine hK.out _ _ (HmkS.out _ HBn.out) (fun hHeld5 => ?_)
                        clear hK K
                        clear ho hg hat hr HO HN HD
                        have HBv := HBn
                        clear HBn hHeld4
                        try simp only [Act.put, List.setIfInBounds_toArray, List.set_cons_zero, List.set_cons_succ]
                        refine wpAnyH_ready (rs := [10]) (by kernel_rfl) (by simp) ?_
                        refine AllReadyH.cons (by first | (simp only [List.getElem?_toArray, List.getElem?_cons_succ, List.getElem?_cons_zero] <;> rfl) | rfl) (fun K hK => ?_) ?_
                        · skip
                          go_simp
                          refine HAb.out.mono ?_
                          rintro e vh6 ⟨rfl, hbb⟩
                          have HBn := Lib.hid (HBv.out.trans (hbb.mono HBv.out.size))
                          refine hK.out _ _ (HmkS.out _ HBn.out) (fun hHeld6 => ?_)
                          clear hK K hbb HAb
                          have HBv := HBn
                          clear HBn hHeld5
                          try simp only [Act.put, List.setIfInBounds_toArray, List.set_cons_zero, List.set_cons_succ]
                          refine wpAnyH_take (i := 11) (v := ?_) (by first | (simp only [List.getElem?_toArray, List.getElem?_cons_succ, List.getElem?_cons_zero] <;> rfl) | rfl) (by kernel_rfl) (by kernel_rfl) (by kernel_rfl) (by exact fun _ _ _ h => h) (Or.inl ⟨by rfl, ?_⟩) hHeld6 ?_
                          rotate_left 1
                          · intro w hSw
                            try dsimp only at hSw
                            (go_simp) <;> (with_reducible rfl)
                          try simp only [Act.put, List.setIfInBounds_toArray, List.set_cons_zero, List.set_cons_succ]
                          refine wpAnyH_take (i := 12) (v := ?_) (by first | (simp only [List.getElem?_toArray, List.getElem?_cons_succ, List.getElem?_cons_zero] <;> rfl) | rfl) (by kernel_rfl) (by kernel_rfl) (by kernel_rfl) (by exact fun _ _ _ h => h) (Or.inl ⟨by rfl, ?_⟩) hHeld6 ?_
                          rotate_left 1
                          · intro w hSw
                            try dsimp only at hSw
                            (go_simp) <;> (with_reducible rfl)
                          try simp only [Act.put, List.setIfInBounds_toArray, List.set_cons_zero, List.set_cons_succ]
                          refine wpAnyH_done (by kernel_rfl) ?_ _
                          rename World => wq
                          clear hHeld6
                          go_wp2_with fail
                          go_meet
                          case rel => exact ⟨rfl, rfl, HBv⟩
                        exact AllReadyH.nil
                      exact AllReadyH.nil
                    exact AllReadyH.nil
                  refine AllReadyH.cons (by first | (simp only [List.getElem?_toArray, List.getElem?_cons_succ, List.getElem?_cons_zero] <;> rfl) | rfl) (fun K hK => ?_) ?_
                  · skip
                    go_simp
                    have hbb := oneb vh2 (.cells #[.string ⟨qnm.toArray⟩, .int .u32 qact, .slice qRA qnR qRc, .int .u16 qhd, .slice qPA qnP qPc, .slice qQA qnQ qQc] 43)
                    have hN := Bk.new vh2 43 #[.string ⟨qnm.toArray⟩, .int .u32 qact, .slice qRA qnR qRc, .int .u16 qhd, .slice qPA qnP qPc, .slice qQA qnQ qQc] (l := [.string ⟨qnm.toArray⟩, .int .u32 qact, .slice qRA qnR qRc, .int .u16 qhd, .slice qPA qnP qPc, .slice qQA qnQ qQc]) rfl
                    have HBn := Lib.hid (HBv.out.trans (hbb.mono HBv.out.size))
                    first | (have HD := Lib.hid (fun g hg => Nat.ne_of_lt (HO.out.lt g hg).2)) | skip
                    refine hK.out _ _ (HmkS.out _ HBn.out) (fun hHeld3 => ?_)
                    clear hK K
                    generalize World.alloc vh2 _ = vh3 at hbb hN HBn hHeld3 ⊢
                    first | (have HO := Lib.hid (own_keepN HO.out hbb)) | skip
                    have HN := Lib.hid hN
                    clear hN hbb
                    have HBv := HBn
                    clear HBn hHeld2
                    try simp only [Act.put, List.setIfInBounds_toArray, List.set_cons_zero, List.set_cons_succ]
                    refine wpAnyH_ready (rs := [5]) (by kernel_rfl) (by simp) ?_
                    refine AllReadyH.cons (by first | (simp only [List.getElem?_toArray, List.getElem?_cons_succ, List.getElem?_cons_zero] <;> rfl) | rfl) (fun K hK => ?_) ?_
                    · skip
                      obtain ⟨v5, vh4, hr, ho, hg, hat⟩ := run_list 35 35 43 _ 6 104 infoPol Try.underlying35 rfl (by decide) (by decide) wx.heap.size _ 0 [] HO.out Ao i co (ps.flatMap PolV.cells) (HRp.out _ HBv.out) (pols_one ps) (by omega) HBv.out.size
                      rw [Nat.zero_add, List.nil_append] at ho
                      obtain ⟨_, _, _, _, _, hty, _⟩ := own_typed HO.out
                      obtain ⟨A3, c3, hve, _⟩ := own_typed ho
                      subst hve
                      have HBn := Lib.hid (HBv.out.grown hg HBv.out.size (fun g e => (HO.out.lt g e).1))
                      first | (have HDn := Lib.hid (own_next hat HD.out HN.out); have HN := Lib.hid (HN.out.grown hg (fun e => HD.out _ e.symm rfl)); have HD := HDn; clear HDn) | skip
                      refine op_append (.tmp 59) (.tmp 60) 35 rfl _ _ _ vh4 rfl rfl hr ?_
                      refine hK.out _ _ (HmkS.out _ HBn.out) (fun hHeld4 => ?_)
                      clear hK K
                      have HO := Lib.hid ho
                      clear ho hg hat hty hr
                      have HBv := HBn
                      clear HBn hHeld3
                      try simp only [Act.put, List.setIfInBounds_toArray, List.set_cons_zero, List.set_cons_succ]
                      refine wpAnyH_ready (rs := [8]) (by kernel_rfl) (by simp) ?_
                      refine AllReadyH.cons (by first | (simp only [List.getElem?_toArray, List.getElem?_cons_succ, List.getElem?_cons_zero] <;> rfl) | rfl) (fun K hK => ?_) ?_
                      · skip
                        obtain ⟨v8, vh5, hr, ho, hg, hat⟩ := run_list 35 35 43 _ 6 104 infoPol Try.underlying35 rfl (by decide) (by decide) wx.heap.size _ i (ps.flatMap PolV.cells) HO.out (some ⟨_, 0, none⟩) 1 1 [.string ⟨qnm.toArray⟩, .int .u32 qact, .slice qRA qnR qRc, .int .u16 qhd, .slice qPA qnP qPc, .slice qQA qnQ qQc] (bk_rd HN.out rfl) (pol6_one _ _ _ _ _ _ _ _ _ _ _ _) (by omega) HBv.out.size
                        obtain ⟨A7, c7, hve, _⟩ := own_typed ho
                        subst hve
                        have HBn := Lib.hid (HBv.out.grown hg HBv.out.size (fun g e => (HO.out.lt g e).1))
                        have HAb := Lib.hid (HA2.out _ A7 c7 HBn.out (by rw [List.flatMap_append]; simpa [HQc.out] using ho))
                        refine op_append (.tmp 61) (.tmp 63) 35 rfl _ _ _ vh5 rfl rfl hr ?_
                        refine hK.out _ _ (HmkS.out _ HBn.out) (fun hHeld5 => ?_)
                        clear hK K
                        clear ho hg hat hr HO HN HD
                        have HBv := HBn
                        clear HBn hHeld4
                        try simp only [Act.put, List.setIfInBounds_toArray, List.set_cons_zero, List.set_cons_succ]
                        refine wpAnyH_ready (rs := [10]) (by kernel_rfl) (by simp) ?_
                        refine AllReadyH.cons (by first | (simp only [List.getElem?_toArray, List.getElem?_cons_succ, List.getElem?_cons_zero] <;> rfl) | rfl) (fun K hK => ?_) ?_
                        · skip
                          go_simp
                          refine HAb.out.mono ?_
                          rintro e vh6 ⟨rfl, hbb⟩
                          have HBn := Lib.hid (HBv.out.trans (hbb.mono HBv.out.size))
                          refine hK.out _ _ (HmkS.out _ HBn.out) (fun hHeld6 => ?_)
                          clear hK K hbb HAb
                          have HBv := HBn
                          clear HBn hHeld5
                          try simp only [Act.put, List.setIfInBounds_toArray, List.set_cons_zero, List.set_cons_succ]
                          refine wpAnyH_take (i := 11) (v := ?_) (by first | (simp only [List.getElem?_toArray, List.getElem?_cons_succ, List.getElem?_cons_zero] <;> rfl) | rfl) (by kernel_rfl) (by kernel_rfl) (by kernel_rfl) (by exact fun _ _ _ h => h) (Or.inl ⟨by rfl, ?_⟩) hHeld6 ?_
                          rotate_left 1
                          · intro w hSw
                            try dsimp only at hSw
                            (go_simp) <;> (with_reducible rfl)
                          try simp only [Act.put, List.setIfInBounds_toArray, List.set_cons_zero, List.set_cons_succ]
                          refine wpAnyH_take (i := 12) (v := ?_) (by first | (simp only [List.getElem?_toArray, List.getElem?_cons_succ, List.getElem?_cons_zero] <;> rfl) | rfl) (by kernel_rfl) (by kernel_rfl) (by kernel_rfl) (by exact fun _ _ _ h => h) (Or.inl ⟨by rfl, ?_⟩) hHeld6 ?_
                          rotate_left 1
                          · intro w hSw
                            try dsimp only at hSw
                            (go_simp) <;> (with_reducible rfl)
                          try simp only [Act.put, List.setIfInBounds_toArray, List.set_cons_zero, List.set_cons_succ]
                          refine wpAnyH_done (by kernel_rfl) ?_ _
                          rename World => wq
                          clear hHeld6
                          go_wp2_with fail
                          go_meet
                          case rel => exact ⟨rfl, rfl, HBv⟩
                        exact AllReadyH.nil
                      exact AllReadyH.nil
                    exact AllReadyH.nil
                  exact AllReadyH.nil
                refine AllReadyH.cons (by first | (simp only [List.getElem?_toArray, List.getElem?_cons_succ, List.getElem?_cons_zero] <;> rfl) | rfl) (fun K hK => ?_) ?_
                · skip
                  go_simp
                  have hbb := oneb vh1 (.cells #[.string ⟨qnm.toArray⟩, .int .u32 qact, .slice qRA qnR qRc, .int .u16 qhd, .slice qPA qnP qPc, .slice qQA qnQ qQc] 43)
                  have hN := Bk.new vh1 43 #[.string ⟨qnm.toArray⟩, .int .u32 qact, .slice qRA qnR qRc, .int .u16 qhd, .slice qPA qnP qPc, .slice qQA qnQ qQc] (l := [.string ⟨qnm.toArray⟩, .int .u32 qact, .slice qRA qnR qRc, .int .u16 qhd, .slice qPA qnP qPc, .slice qQA qnQ qQc]) rfl
                  have HBn := Lib.hid (HBv.out.trans (hbb.mono HBv.out.size))
                  first | (have HD := Lib.hid (fun g hg => Nat.ne_of_lt (HO.out.lt g hg).2)) | skip
                  refine hK.out _ _ (HmkS.out _ HBn.out) (fun hHeld2 => ?_)
                  clear hK K
                  generalize World.alloc vh1 _ = vh2 at hbb hN HBn hHeld2 ⊢
                  first | (have HO := Lib.hid (own_keepN HO.out hbb)) | skip
                  have HN := Lib.hid hN
                  clear hN hbb
                  have HBv := HBn
                  clear HBn hHeld1
                  try simp only [Act.put, List.setIfInBounds_toArray, List.set_cons_zero, List.set_cons_succ]
                  refine wpAnyH_ready (rs := [3]) (by kernel_rfl) (by simp) ?_
                  refine AllReadyH.cons (by first | (simp only [List.getElem?_toArray, List.getElem?_cons_succ, List.getElem?_cons_zero] <;> rfl) | rfl) (fun K hK => ?_) ?_
                  · skip
                    go_simp
                    have hbb := oneb vh2 (.cells #[] 43)
                    have hown := own_base (own_empty vh2 43 6) HBv.out.size
                    have HBn := Lib.hid (HBv.out.trans (hbb.mono HBv.out.size))
                    first | (have HD := Lib.hid (own0_ne (n := 0) (c := 0) HN.out)) | skip
                    refine hK.out _ _ (HmkS.out _ HBn.out) (fun hHeld3 => ?_)
                    clear hK K
                    generalize World.alloc vh2 _ = vh3 at hbb hown HBn hHeld3 ⊢
                    first | (have HN := Lib.hid (HN.out.kept hbb)) | skip
                    have HO := Lib.hid hown
                    clear hown hbb
                    have HBv := HBn
                    clear HBn hHeld2
                    try simp only [Act.put, List.setIfInBounds_toArray, List.set_cons_zero, List.set_cons_succ]
                    refine wpAnyH_ready (rs := [5]) (by kernel_rfl) (by simp) ?_
                    refine AllReadyH.cons (by first | (simp only [List.getElem?_toArray, List.getElem?_cons_succ, List.getElem?_cons_zero] <;> rfl) | rfl) (fun K hK => ?_) ?_
                    · skip
                      obtain ⟨v5, vh4, hr, ho, hg, hat⟩ := run_list 35 35 43 _ 6 104 infoPol Try.underlying35 rfl (by decide) (by decide) wx.heap.size _ 0 [] HO.out Ao i co (ps.flatMap PolV.cells) (HRp.out _ HBv.out) (pols_one ps) (by omega) HBv.out.size
                      rw [Nat.zero_add, List.nil_append] at ho
                      obtain ⟨_, _, _, _, _, hty, _⟩ := own_typed HO.out
                      obtain ⟨A3, c3, hve, _⟩ := own_typed ho
                      subst hve
                      have HBn := Lib.hid (HBv.out.grown hg HBv.out.size (fun g e => (HO.out.lt g e).1))
                      first | (have HDn := Lib.hid (own_next hat HD.out HN.out); have HN := Lib.hid (HN.out.grown hg (fun e => HD.out _ e.symm rfl)); have HD := HDn; clear HDn) | skip
                      refine op_append (.tmp 59) (.tmp 60) 35 rfl _ _ _ vh4 rfl rfl hr ?_
                      refine hK.out _ _ (HmkS.out _ HBn.out) (fun hHeld4 => ?_)
                      clear hK K
                      have HO := Lib.hid ho
                      clear ho hg hat hty hr
                      have HBv := HBn
                      clear HBn hHeld3
                      try simp only [Act.put, List.setIfInBounds_toArray, List.set_cons_zero, List.set_cons_succ]
                      refine wpAnyH_ready (rs := [8]) (by kernel_rfl) (by simp) ?_
                      refine AllReadyH.cons (by first | (simp only [List.getElem?_toArray, List.getElem?_cons_succ, List.getElem?_cons_zero] <;> rfl) | rfl) (fun K hK => ?_) ?_
                      · skip
                        obtain ⟨v8, vh5, hr, ho, hg, hat⟩ := run_list 35 35 43 _ 6 104 infoPol Try.underlying35 rfl (by decide) (by decide) wx.heap.size _ i (ps.flatMap PolV.cells) HO.out (some ⟨_, 0, none⟩) 1 1 [.string ⟨qnm.toArray⟩, .int .u32 qact, .slice qRA qnR qRc, .int .u16 qhd, .slice qPA qnP qPc, .slice qQA qnQ qQc] (bk_rd HN.out rfl) (pol6_one _ _ _ _ _ _ _ _ _ _ _ _) (by omega) HBv.out.size
                        obtain ⟨A7, c7, hve, _⟩ := own_typed ho
                        subst hve
                        have HBn := Lib.hid (HBv.out.grown hg HBv.out.size (fun g e => (HO.out.lt g e).1))
                        have HAb := Lib.hid (HA2.out _ A7 c7 HBn.out (by rw [List.flatMap_append]; simpa [HQc.out] using ho))
                        refine op_append (.tmp 61) (.tmp 63) 35 rfl _ _ _ vh5 rfl rfl hr ?_
                        refine hK.out _ _ (HmkS.out _ HBn.out) (fun hHeld5 => ?_)
                        clear hK K
                        clear ho hg hat hr HO HN HD
                        have HBv := HBn
                        clear HBn hHeld4
                        try simp only [Act.put, List.setIfInBounds_toArray, List.set_cons_zero, List.set_cons_succ]
                        refine wpAnyH_ready (rs := [10]) (by kernel_rfl) (by simp) ?_
                        refine AllReadyH.cons (by first | (simp only [List.getElem?_toArray, List.getElem?_cons_succ, List.getElem?_cons_zero] <;> rfl) | rfl) (fun K hK => ?_) ?_
                        · skip
                          go_simp
                          refine HAb.out.mono ?_
                          rintro e vh6 ⟨rfl, hbb⟩
                          have HBn := Lib.hid (HBv.out.trans (hbb.mono HBv.out.size))
                          refine hK.out _ _ (HmkS.out _ HBn.out) (fun hHeld6 => ?_)
                          clear hK K hbb HAb
                          have HBv := HBn
                          clear HBn hHeld5
                          try simp only [Act.put, List.setIfInBounds_toArray, List.set_cons_zero, List.set_cons_succ]
                          refine wpAnyH_take (i := 11) (v := ?_) (by first | (simp only [List.getElem?_toArray, List.getElem?_cons_succ, List.getElem?_cons_zero] <;> rfl) | rfl) (by kernel_rfl) (by kernel_rfl) (by kernel_rfl) (by exact fun _ _ _ h => h) (Or.inl ⟨by rfl, ?_⟩) hHeld6 ?_
                          rotate_left 1
                          · intro w hSw
                            try dsimp only at hSw
                            (go_simp) <;> (with_reducible rfl)
                          try simp only [Act.put, List.setIfInBounds_toArray, List.set_cons_zero, List.set_cons_succ]
                          refine wpAnyH_take (i := 12) (v := ?_) (by first | (simp only [List.getElem?_toArray, List.getElem?_cons_succ, List.getElem?_cons_zero] <;> rfl) | rfl) (by kernel_rfl) (by kernel_rfl) (by kernel_rfl) (by exact fun _ _ _ h => h) (Or.inl ⟨by rfl, ?_⟩) hHeld6 ?_
                          rotate_left 1
                          · intro w hSw
                            try dsimp only at hSw
                            (go_simp) <;> (with_reducible rfl)
                          try simp only [Act.put, List.setIfInBounds_toArray, List.set_cons_zero, List.set_cons_succ]
                          refine wpAnyH_done (by kernel_rfl) ?_ _
                          rename World => wq
                          clear hHeld6
                          go_wp2_with fail
                          go_meet
                          case rel => exact ⟨rfl, rfl, HBv⟩
                        exact AllReadyH.nil
                      exact AllReadyH.nil
                    exact AllReadyH.nil
                  exact AllReadyH.nil
                exact AllReadyH.nil
              refine AllReadyH.cons (by first | (simp only [List.getElem?_toArray, List.getElem?_cons_succ, List.getElem?_cons_zero] <;> rfl) | rfl) (fun K hK => ?_) ?_
              · skip
                go_simp
                have hbb := oneb vh0 (.cells #[] 43)
                have hown := own_base (own_empty vh0 43 6) HBv.out.size
                have HBn := Lib.hid (HBv.out.trans (hbb.mono HBv.out.size))
                first | (have HD := Lib.hid (own0_ne (n := 0) (c := 0) HN.out)) | skip
                refine hK.out _ _ (HmkS.out _ HBn.out) (fun hHeld1 => ?_)
                clear hK K
                generalize World.alloc vh0 _ = vh1 at hbb hown HBn hHeld1 ⊢
                first | (have HN := Lib.hid (HN.out.kept hbb)) | skip
                have HO := Lib.hid hown
                clear hown hbb
                have HBv := HBn
                clear HBn hHeld0
                try simp only [Act.put, List.setIfInBounds_toArray, List.set_cons_zero, List.set_cons_succ]
                refine wpAnyH_ready (rs := [2, 7]) (by kernel_rfl) (by simp) ?_
                refine AllReadyH.cons (by first | (simp only [List.getElem?_toArray, List.getElem?_cons_succ, List.getElem?_cons_zero] <;> rfl) | rfl) (fun K hK => ?_) ?_
                · skip
                  go_simp
                  refine (HA1.out _ HBv.out).mono ?_
                  rintro e vh2 ⟨rfl, hbb⟩
                  have HBn := Lib.hid (HBv.out.trans (hbb.mono HBv.out.size))
                  refine hK.out _ _ (HmkS.out _ HBn.out) (fun hHeld2 => ?_)
                  clear hK K
                  first | (have HO := Lib.hid (own_keepN HO.out hbb)) | skip
                  first | (have HN := Lib.hid (HN.out.kept hbb)) | skip
                  clear hbb
                  have HBv := HBn
                  clear HBn hHeld1
                  try simp only [Act.put, List.setIfInBounds_toArray, List.set_cons_zero, List.set_cons_succ]
                  refine wpAnyH_ready (rs := [5, 7]) (by kernel_rfl) (by simp) ?_
                  refine AllReadyH.cons (by first | (simp only [List.getElem?_toArray, List.getElem?_cons_succ, List.getElem?_cons_zero] <;> rfl) | rfl) (fun K hK => ?_) ?_
                  · skip
                    obtain ⟨v5, vh3, hr, ho, hg, hat⟩ := run_list 35 35 43 _ 6 104 infoPol Try.underlying35 rfl (by decide) (by decide) wx.heap.size _ 0 [] HO.out Ao i co (ps.flatMap PolV.cells) (HRp.out _ HBv.out) (pols_one ps) (by omega) HBv.out.size
                    rw [Nat.zero_add, List.nil_append] at ho
                    obtain ⟨_, _, _, _, _, hty, _⟩ := own_typed HO.out
                    obtain ⟨A3, c3, hve, _⟩ := own_typed ho
                    subst hve
                    have HBn := Lib.hid (HBv.out.grown hg HBv.out.size (fun g e => (HO.out.lt g e).1))
                    first | (have HDn := Lib.hid (own_next hat HD.out HN.out); have HN := Lib.hid (HN.out.grown hg (fun e => HD.out _ e.symm rfl)); have HD := HDn; clear HDn) | skip
                    refine op_append (.tmp 59) (.tmp 60) 35 rfl _ _ _ vh3 rfl rfl hr ?_
                    refine hK.out _ _ (HmkS.out _ HBn.out) (fun hHeld3 => ?_)
                    clear hK K
                    have HO := Lib.hid ho
                    clear ho hg hat hty hr
                    have HBv := HBn
                    clear HBn hHeld2
                    try simp only [Act.put, List.setIfInBounds_toArray, List.set_cons_zero, List.set_cons_succ]
                    refine wpAnyH_ready (rs := [7]) (by kernel_rfl) (by simp) ?_
                    refine AllReadyH.cons (by first | (simp only [List.getElem?_toArray, List.getElem?_cons_succ, List.getElem?_cons_zero] <;> rfl) | rfl) (fun K hK => ?_) ?_
                    · skip
                      go_simp
                      have hbb := oneb vh3 (.cells #[.string ⟨qnm.toArray⟩, .int .u32 qact, .slice qRA qnR qRc, .int .u16 qhd, .slice qPA qnP qPc, .slice qQA qnQ qQc] 43)
                      have hN := Bk.new vh3 43 #[.string ⟨qnm.toArray⟩, .int .u32 qact, .slice qRA qnR qRc, .int .u16 qhd, .slice qPA qnP qPc, .slice qQA qnQ qQc] (l := [.string ⟨qnm.toArray⟩, .int .u32 qact, .slice qRA qnR qRc, .int .u16 qhd, .slice qPA qnP qPc, .slice qQA qnQ qQc]) rfl
                      have HBn := Lib.hid (HBv.out.trans (hbb.mono HBv.out.size))
                      first | (have HD := Lib.hid (fun g hg => Nat.ne_of_lt (HO.out.lt g hg).2)) | skip
                      refine hK.out _ _ (HmkS.out _ HBn.out) (fun hHeld4 => ?_)
                      clear hK K
                      generalize World.alloc vh3 _ = vh4 at hbb hN HBn hHeld4 ⊢
                      first | (have HO := Lib.hid (own_keepN HO.out hbb)) | skip
                      have HN := Lib.hid hN
                      clear hN hbb
                      have HBv := HBn
                      clear HBn hHeld3
                      try simp only [Act.put, List.setIfInBounds_toArray, List.set_cons_zero, List.set_cons_succ]
                      refine wpAnyH_ready (rs := [8]) (by kernel_rfl) (by simp) ?_
                      refine AllReadyH.cons (by first | (simp only [List.getElem?_toArray, List.getElem?_cons_succ, List.getElem?_cons_zero] <;> rfl) | rfl) (fun K hK => ?_) ?_
                      · skip
                        obtain ⟨v8, vh5, hr, ho, hg, hat⟩ := run_list 35 35 43 _ 6 104 infoPol Try.underlying35 rfl (by decide) (by decide) wx.heap.size _ i (ps.flatMap PolV.cells) HO.out (some ⟨_, 0, none⟩) 1 1 [.string ⟨qnm.toArray⟩, .int .u32 qact, .slice qRA qnR qRc, .int .u16 qhd, .slice qPA qnP qPc, .slice qQA qnQ qQc] (bk_rd HN.out rfl) (pol6_one _ _ _ _ _ _ _ _ _ _ _ _) (by omega) HBv.out.size
                        obtain ⟨A7, c7, hve, _⟩ := own_typed ho
                        subst hve
                        have HBn := Lib.hid (HBv.out.grown hg HBv.out.size (fun g e => (HO.out.lt g e).1))
                        have HAb := Lib.hid (HA2.out _ A7 c7 HBn.out (by rw [List.flatMap_append]; simpa [HQc.out] using ho))
                        refine op_append (.tmp 61) (.tmp 63) 35 rfl _ _ _ vh5 rfl rfl hr ?_
                        refine hK.out _ _ (HmkS.out _ HBn.out) (fun hHeld5 => ?_)
                        clear hK K
                        clear ho hg hat hr HO HN HD
                        have HBv := HBn
                        clear HBn hHeld4
                        try simp only [Act.put, List.setIfInBounds_toArray, List.set_cons_zero, List.set_cons_succ]
                        refine wpAnyH_ready (rs := [10]) (by kernel_rfl) (by simp) ?_
                        refine AllReadyH.cons (by first | (simp only [List.getElem?_toArray, List.getElem?_cons_succ, List.getElem?_cons_zero] <;> rfl) | rfl) (fun K hK => ?_) ?_
                        · skip
                          go_simp
                          refine HAb.out.mono ?_
                          rintro e vh6 ⟨rfl, hbb⟩
                          have HBn := Lib.hid (HBv.out.trans (hbb.mono HBv.out.size))
                          refine hK.out _ _ (HmkS.out _ HBn.out) (fun hHeld6 => ?_)
                          clear hK K hbb HAb
                          have HBv := HBn
                          clear HBn hHeld5
                          try simp only [Act.put, List.setIfInBounds_toArray, List.set_cons_zero, List.set_cons_succ]
                          refine wpAnyH_take (i := 11) (v := ?_) (by first | (simp only [List.getElem?_toArray, List.getElem?_cons_succ, List.getElem?_cons_zero] <;> rfl) | rfl) (by kernel_rfl) (by kernel_rfl) (by kernel_rfl) (by exact fun _ _ _ h => h) (Or.inl ⟨by rfl, ?_⟩) hHeld6 ?_
                          rotate_left 1
                          · intro w hSw
                            try dsimp only at hSw
                            (go_simp) <;> (with_reducible rfl)
                          try simp only [Act.put, List.setIfInBounds_toArray, List.set_cons_zero, List.set_cons_succ]
                          refine wpAnyH_take (i := 12) (v := ?_) (by first | (simp only [List.getElem?_toArray, List.getElem?_cons_succ, List.getElem?_cons_zero] <;> rfl) | rfl) (by kernel_rfl) (by kernel_rfl) (by kernel_rfl) (by exact fun _ _ _ h => h) (Or.inl ⟨by rfl, ?_⟩) hHeld6 ?_
                          rotate_left 1
                          · intro w hSw
                            try dsimp only at hSw
                            (go_simp) <;> (with_reducible rfl)
                          try simp only [Act.put, List.setIfInBounds_toArray, List.set_cons_zero, List.set_cons_succ]
                          refine wpAnyH_done (by kernel_rfl) ?_ _
                          rename World => wq
                          clear hHeld6
                          go_wp2_with fail
                          go_meet
                          case rel => exact ⟨rfl, rfl, HBv⟩
                        exact AllReadyH.nil
                      exact AllReadyH.nil
                    exact AllReadyH.nil
                  refine AllReadyH.cons (by first | (simp only [List.getElem?_toArray, List.getElem?_cons_succ, List.getElem?_cons_zero] <;> rfl) | rfl) (fun K hK => ?_) ?_
                  · skip
                    go_simp
                    have hbb := oneb vh2 (.cells #[.string ⟨qnm.toArray⟩, .int .u32 qact, .slice qRA qnR qRc, .int .u16 qhd, .slice qPA qnP qPc, .slice qQA qnQ qQc] 43)
                    have hN := Bk.new vh2 43 #[.string ⟨qnm.toArray⟩, .int .u32 qact, .slice qRA qnR qRc, .int .u16 qhd, .slice qPA qnP qPc, .slice qQA qnQ qQc] (l := [.string ⟨qnm.toArray⟩, .int .u32 qact, .slice qRA qnR qRc, .int .u16 qhd, .slice qPA qnP qPc, .slice qQA qnQ qQc]) rfl
                    have HBn := Lib.hid (HBv.out.trans (hbb.mono HBv.out.size))
                    first | (have HD := Lib.hid (fun g hg => Nat.ne_of_lt (HO.out.lt g hg).2)) | skip
                    refine hK.out _ _ (HmkS.out _ HBn.out) (fun hHeld3 => ?_)
                    clear hK K
                    generalize World.alloc vh2 _ = vh3 at hbb hN HBn hHeld3 ⊢
                    first | (have HO := Lib.hid (own_keepN HO.out hbb)) | skip
                    have HN := Lib.hid hN
                    clear hN hbb
                    have HBv := HBn
                    clear HBn hHeld2
                    try simp only [Act.put, List.setIfInBounds_toArray, List.set_cons_zero, List.set_cons_succ]
                    refine wpAnyH_ready (rs := [5]) (by kernel_rfl) (by simp) ?_
                    refine AllReadyH.cons (by first | (simp only [List.getElem?_toArray, List.getElem?_cons_succ, List.getElem?_cons_zero] <;> rfl) | rfl) (fun K hK => ?_) ?_
                    · skip
                      obtain ⟨v5, vh4, hr, ho, hg, hat⟩ := run_list 35 35 43 _ 6 104 infoPol Try.underlying35 rfl (by decide) (by decide) wx.heap.size _ 0 [] HO.out Ao i co (ps.flatMap PolV.cells) (HRp.out _ HBv.out) (pols_one ps) (by omega) HBv.out.size
                      rw [Nat.zero_add, List.nil_append] at ho
                      obtain ⟨_, _, _, _, _, hty, _⟩ := own_typed HO.out
                      obtain ⟨A3, c3, hve, _⟩ := own_typed ho
                      subst hve
                      have HBn := Lib.hid (HBv.out.grown hg HBv.out.size (fun g e => (HO.out.lt g e).1))
                      first | (have HDn := Lib.hid (own_next hat HD.out HN.out); have HN := Lib.hid (HN.out.grown hg (fun e => HD.out _ e.symm rfl)); have HD := HDn; clear HDn) | skip
                      refine op_append (.tmp 59) (.tmp 60) 35 rfl _ _ _ vh4 rfl rfl hr ?_
                      refine hK.out _ _ (HmkS.out _ HBn.out) (fun hHeld4 => ?_)
                      clear hK K
                      have HO := Lib.hid ho
                      clear ho hg hat hty hr
                      have HBv := HBn
                      clear HBn hHeld3
                      try simp only [Act.put, List.setIfInBounds_toArray, List.set_cons_zero, List.set_cons_succ]
                      refine wpAnyH_ready (rs := [8]) (by kernel_rfl) (by simp) ?_
                      refine AllReadyH.cons (by first | (simp only [List.getElem?_toArray, List.getElem?_cons_succ, List.getElem?_cons_zero] <;> rfl) | rfl) (fun K hK => ?_) ?_
                      · skip
                        obtain ⟨v8, vh5, hr, ho, hg, hat⟩ := run_list 35 35 43 _ 6 104 infoPol Try.underlying35 rfl (by decide) (by decide) wx.heap.size _ i (ps.flatMap PolV.cells) HO.out (some ⟨_, 0, none⟩) 1 1 [.string ⟨qnm.toArray⟩, .int .u32 qact, .slice qRA qnR qRc, .int .u16 qhd, .slice qPA qnP qPc, .slice qQA qnQ qQc] (bk_rd HN.out rfl) (pol6_one _ _ _ _ _ _ _ _ _ _ _ _) (by omega) HBv.out.size
                        obtain ⟨A7, c7, hve, _⟩ := own_typed ho
                        subst hve
                        have HBn := Lib.hid (HBv.out.grown hg HBv.out.size (fun g e => (HO.out.lt g e).1))
                        have HAb := Lib.hid (HA2.out _ A7 c7 HBn.out (by rw [List.flatMap_append]; simpa [HQc.out] using ho))
                        refine op_append (.tmp 61) (.tmp 63) 35 rfl _ _ _ vh5 rfl rfl hr ?_
                        refine hK.out _ _ (HmkS.out _ HBn.out) (fun hHeld5 => ?_)
                        clear hK K
                        clear ho hg hat hr HO HN HD
                        have HBv := HBn
                        clear HBn hHeld4
                        try simp only [Act.put, List.setIfInBounds_toArray, List.set_cons_zero, List.set_cons_succ]
                        refine wpAnyH_ready (rs := [10]) (by kernel_rfl) (by simp) ?_
                        refine AllReadyH.cons (by first | (simp only [List.getElem?_toArray, List.getElem?_cons_succ, List.getElem?_cons_zero] <;> rfl) | rfl) (fun K hK => ?_) ?_
                        · skip
                          go_simp
                          refine HAb.out.mono ?_
                          rintro e vh6 ⟨rfl, hbb⟩
                          have HBn := Lib.hid (HBv.out.trans (hbb.mono HBv.out.size))
                          refine hK.out _ _ (HmkS.out _ HBn.out) (fun hHeld6 => ?_)
                          clear hK K hbb HAb
                          have HBv := HBn
                          clear HBn hHeld5
                          try simp only [Act.put, List.setIfInBounds_toArray, List.set_cons_zero, List.set_cons_succ]
                          refine wpAnyH_take (i := 11) (v := ?_) (by first | (simp only [List.getElem?_toArray, List.getElem?_cons_succ, List.getElem?_cons_zero] <;> rfl) | rfl) (by kernel_rfl) (by kernel_rfl) (by kernel_rfl) (by exact fun _ _ _ h => h) (Or.inl ⟨by rfl, ?_⟩) hHeld6 ?_
                          rotate_left 1
                          · intro w hSw
                            try dsimp only at hSw
                            (go_simp) <;> (with_reducible rfl)
                          try simp only [Act.put, List.setIfInBounds_toArray, List.set_cons_zero, List.set_cons_succ]
                          refine wpAnyH_take (i := 12) (v := ?_) (by first | (simp only [List.getElem?_toArray, List.getElem?_cons_succ, List.getElem?_cons_zero] <;> rfl) | rfl) (by kernel_rfl) (by kernel_rfl) (by kernel_rfl) (by exact fun _ _ _ h => h) (Or.inl ⟨by rfl, ?_⟩) hHeld6 ?_
                          rotate_left 1
                          · intro w hSw
                            try dsimp only at hSw
                            (go_simp) <;> (with_reducible rfl)
                          try simp only [Act.put, List.setIfInBounds_toArray, List.set_cons_zero, List.set_cons_succ]
                          refine wpAnyH_done (by kernel_rfl) ?_ _
                          rename World => wq
                          clear hHeld6
                          go_wp2_with fail
                          go_meet
                          case rel => exact ⟨rfl, rfl, HBv⟩
                        exact AllReadyH.nil
                      exact AllReadyH.nil
                    exact AllReadyH.nil
                  exact AllReadyH.nil
                refine AllReadyH.cons (by first | (simp only [List.getElem?_toArray, List.getElem?_cons_succ, List.getElem?_cons_zero] <;> rfl) | rfl) (fun K hK => ?_) ?_
                · skip
                  go_simp
                  have hbb := oneb vh1 (.cells #[.string ⟨qnm.toArray⟩, .int .u32 qact, .slice qRA qnR qRc, .int .u16 qhd, .slice qPA qnP qPc, .slice qQA qnQ qQc] 43)
                  have hN := Bk.new vh1 43 #[.string ⟨qnm.toArray⟩, .int .u32 qact, .slice qRA qnR qRc, .int .u16 qhd, .slice qPA qnP qPc, .slice qQA qnQ qQc] (l := [.string ⟨qnm.toArray⟩, .int .u32 qact, .slice qRA qnR qRc, .int .u16 qhd, .slice qPA qnP qPc, .slice qQA qnQ qQc]) rfl
                  have HBn := Lib.hid (HBv.out.trans (hbb.mono HBv.out.size))
                  first | (have HD := Lib.hid (fun g hg => Nat.ne_of_lt (HO.out.lt g hg).2)) | skip
                  refine hK.out _ _ (HmkS.out _ HBn.out) (fun hHeld2 => ?_)
                  clear hK K
                  generalize World.alloc vh1 _ = vh2 at hbb hN HBn hHeld2 ⊢
                  first | (have HO := Lib.hid (own_keepN HO.out hbb)) | skip
                  have HN := Lib.hid hN
                  clear hN hbb
                  have HBv := HBn
                  clear HBn hHeld1
                  try simp only [Act.put, List.setIfInBounds_toArray, List.set_cons_zero, List.set_cons_succ]
                  refine wpAnyH_ready (rs := [2]) (by kernel_rfl) (by simp) ?_
                  refine AllReadyH.cons (by first | (simp only [List.getElem?_toArray, List.getElem?_cons_succ, List.getElem?_cons_zero] <;> rfl) | rfl) (fun K hK => ?_) ?_
                  · skip
                    go_simp
                    refine (HA1.out _ HBv.out).mono ?_
                    rintro e vh3 ⟨rfl, hbb⟩
                    have HBn := Lib.hid (HBv.out.trans (hbb.mono HBv.out.size))
                    refine hK.out _ _ (HmkS.out _ HBn.out) (fun hHeld3 => ?_)
                    clear hK K
                    first | (have HO := Lib.hid (own_keepN HO.out hbb)) | skip
                    first | (have HN := Lib.hid (HN.out.kept hbb)) | skip
                    clear hbb
                    have HBv := HBn
                    clear HBn hHeld2
                    try simp only [Act.put, List.setIfInBounds_toArray, List.set_cons_zero, List.set_cons_succ]
                    refine wpAnyH_ready (rs := [5]) (by kernel_rfl) (by simp) ?_
                    refine AllReadyH.cons (by first | (simp only [List.getElem?_toArray, List.getElem?_cons_succ, List.getElem?_cons_zero] <;> rfl) | rfl) (fun K hK => ?_) ?_
                    · skip
                      obtain ⟨v5, vh4, hr, ho, hg, hat⟩ := run_list 35 35 43 _ 6 104 infoPol Try.underlying35 rfl (by decide) (by decide) wx.heap.size _ 0 [] HO.out Ao i co (ps.flatMap PolV.cells) (HRp.out _ HBv.out) (pols_one ps) (by omega) HBv.out.size
                      rw [Nat.zero_add, List.nil_append] at ho
                      obtain ⟨_, _, _, _, _, hty, _⟩ := own_typed HO.out
                      obtain ⟨A3, c3, hve, _⟩ := own_typed ho
                      subst hve
                      have HBn := Lib.hid (HBv.out.grown hg HBv.out.size (fun g e => (HO.out.lt g e).1))
                      first | (have HDn := Lib.hid (own_next hat HD.out HN.out); have HN := Lib.hid (HN.out.grown hg (fun e => HD.out _ e.symm rfl)); have HD := HDn; clear HDn) | skip
                      refine op_append (.tmp 59) (.tmp 60) 35 rfl _ _ _ vh4 rfl rfl hr ?_
                      refine hK.out _ _ (HmkS.out _ HBn.out) (fun hHeld4 => ?_)
                      clear hK K
                      have HO := Lib.hid ho
                      clear ho hg hat hty hr
                      have HBv := HBn
                      clear HBn hHeld3
                      try simp only [Act.put, List.setIfInBounds_toArray, List.set_cons_zero, List.set_cons_succ]
                      refine wpAnyH_ready (rs := [8]) (by kernel_rfl) (by simp) ?_
                      refine AllReadyH.cons (by first | (simp only [List.getElem?_toArray, List.getElem?_cons_succ, List.getElem?_cons_zero] <;> rfl) | rfl) (fun K hK => ?_) ?_
                      · skip
                        obtain ⟨v8, vh5, hr, ho, hg, hat⟩ := run_list 35 35 43 _ 6 104 infoPol Try.underlying35 rfl (by decide) (by decide) wx.heap.size _ i (ps.flatMap PolV.cells) HO.out (some ⟨_, 0, none⟩) 1 1 [.string ⟨qnm.toArray⟩, .int .u32 qact, .slice qRA qnR qRc, .int .u16 qhd, .slice qPA qnP qPc, .slice qQA qnQ qQc] (bk_rd HN.out rfl) (pol6_one _ _ _ _ _ _ _ _ _ _ _ _) (by omega) HBv.out.size
                        obtain ⟨A7, c7, hve, _⟩ := own_typed ho
                        subst hve
                        have HBn := Lib.hid (HBv.out.grown hg HBv.out.size (fun g e => (HO.out.lt g e).1))
                        have HAb := Lib.hid (HA2.out _ A7 c7 HBn.out (by rw [List.flatMap_append]; simpa [HQc.out] using ho))
                        refine op_append (.tmp 61) (.tmp 63) 35 rfl _ _ _ vh5 rfl rfl hr ?_
                        refine hK.out _ _ (HmkS.out _ HBn.out) (fun hHeld5 => ?_)
                        clear hK K
                        clear ho hg hat hr HO HN HD
                        have HBv := HBn
                        clear HBn hHeld4
                        try simp only [Act.put, List.setIfInBounds_toArray, List.set_cons_zero, List.set_cons_succ]
                        refine wpAnyH_ready (rs := [10]) (by kernel_rfl) (by simp) ?_
                        refine AllReadyH.cons (by first | (simp only [List.getElem?_toArray, List.getElem?_cons_succ, List.getElem?_cons_zero] <;> rfl) | rfl) (fun K hK => ?_) ?_
                        · skip
                          go_simp
                          refine HAb.out.mono ?_
                          rintro e vh6 ⟨rfl, hbb⟩
                          have HBn := Lib.hid (HBv.out.trans (hbb.mono HBv.out.size))
                          refine hK.out _ _ (HmkS.out _ HBn.out) (fun hHeld6 => ?_)
                          clear hK K hbb HAb
                          have HBv := HBn
                          clear HBn hHeld5
                          try simp only [Act.put, List.setIfInBounds_toArray, List.set_cons_zero, List.set_cons_succ]
                          refine wpAnyH_take (i := 11) (v := ?_) (by first | (simp only [List.getElem?_toArray, List.getElem?_cons_succ, List.getElem?_cons_zero] <;> rfl) | rfl) (by kernel_rfl) (by kernel_rfl) (by kernel_rfl) (by exact fun _ _ _ h => h) (Or.inl ⟨by rfl, ?_⟩) hHeld6 ?_
                          rotate_left 1
                          · intro w hSw
                            try dsimp only at hSw
                            (go_simp) <;> (with_reducible rfl)
                          try simp only [Act.put, List.setIfInBounds_toArray, List.set_cons_zero, List.set_cons_succ]
                          refine wpAnyH_take (i := 12) (v := ?_) (by first | (simp only [List.getElem?_toArray, List.getElem?_cons_succ, List.getElem?_cons_zero] <;> rfl) | rfl) (by kernel_rfl) (by kernel_rfl) (by kernel_rfl) (by exact fun _ _ _ h => h) (Or.inl ⟨by rfl, ?_⟩) hHeld6 ?_
                          rotate_left 1
                          · intro w hSw
                            try dsimp only at hSw
                            (go_simp) <;> (with_reducible rfl)
                          try simp only [Act.put, List.setIfInBounds_toArray, List.set_cons_zero, List.set_cons_succ]
                          refine wpAnyH_done (by kernel_rfl) ?_ _
                          rename World => wq
                          clear hHeld6
                          go_wp2_with fail
                          go_meet
                          case rel => exact ⟨rfl, rfl, HBv⟩
                        exact AllReadyH.nil
                      exact AllReadyH.nil
                    exact AllReadyH.nil
                  exact AllReadyH.nil
                exact AllReadyH.nil
              refine AllReadyH.cons (by first | (simp only [List.getElem?_toArray, List.getElem?_cons_succ, List.getElem?_cons_zero] <;> rfl) | rfl) (fun K hK => ?_) ?_
              · skip
                go_simp
                have hbb := oneb vh0 (.cells #[.string ⟨qnm.toArray⟩, .int .u32 qact, .slice qRA qnR qRc, .int .u16 qhd, .slice qPA qnP qPc, .slice qQA qnQ qQc] 43)
                have hN := Bk.new vh0 43 #[.string ⟨qnm.toArray⟩, .int .u32 qact, .slice qRA qnR qRc, .int .u16 qhd, .slice qPA qnP qPc, .slice qQA qnQ qQc] (l := [.string ⟨qnm.toArray⟩, .int .u32 qact, .slice qRA qnR qRc, .int .u16 qhd, .slice qPA qnP qPc, .slice qQA qnQ qQc]) rfl
                have HBn := Lib.hid (HBv.out.trans (hbb.mono HBv.out.size))
                first | (have HD := Lib.hid (fun g hg => Nat.ne_of_lt (HO.out.lt g hg).2)) | skip
                refine hK.out _ _ (HmkS.out _ HBn.out) (fun hHeld1 => ?_)
                clear hK K
                generalize World.alloc vh0 _ = vh1 at hbb hN HBn hHeld1 ⊢
                first | (have HO := Lib.hid (own_keepN HO.out hbb)) | skip
                have HN := Lib.hid hN
                clear hN hbb
                have HBv := HBn
                clear HBn hHeld0
                try simp only [Act.put, List.setIfInBounds_toArray, List.set_cons_zero, List.set_cons_succ]
                refine wpAnyH_ready (rs := [2, 3]) (by kernel_rfl) (by simp) ?_
                refine AllReadyH.cons (by first | (simp only [List.getElem?_toArray, List.getElem?_cons_succ, List.getElem?_cons_zero] <;> rfl) | rfl) (fun K hK => ?_) ?_
                · skip
                  go_simp
                  refine (HA1.out _ HBv.out).mono ?_
                  rintro e vh2 ⟨rfl, hbb⟩
                  have HBn := Lib.hid (HBv.out.trans (hbb.mono HBv.out.size))
                  refine hK.out _ _ (HmkS.out _ HBn.out) (fun hHeld2 => ?_)
                  clear hK K
                  first | (have HO := Lib.hid (own_keepN HO.out hbb)) | skip
                  first | (have HN := Lib.hid (HN.out.kept hbb)) | skip
                  clear hbb
                  have HBv := HBn
                  clear HBn hHeld1
                  try simp only [Act.put, List.setIfInBounds_toArray, List.set_cons_zero, List.set_cons_succ]
                  refine wpAnyH_ready (rs := [3]) (by kernel_rfl) (by simp) ?_
                  refine AllReadyH.cons (by first | (simp only [List.getElem?_toArray, List.getElem?_cons_succ, List.getElem?_cons_zero] <;> rfl) | rfl) (fun K hK => ?_) ?_
                  · skip
                    go_simp
                    have hbb := oneb vh2 (.cells #[] 43)
                    have hown := own_base (own_empty vh2 43 6) HBv.out.size
                    have HBn := Lib.hid (HBv.out.trans (hbb.mono HBv.out.size))
                    first | (have HD := Lib.hid (own0_ne (n := 0) (c := 0) HN.out)) | skip
                    refine hK.out _ _ (HmkS.out _ HBn.out) (fun hHeld3 => ?_)
                    clear hK K
                    generalize World.alloc vh2 _ = vh3 at hbb hown HBn hHeld3 ⊢
                    first | (have HN := Lib.hid (HN.out.kept hbb)) | skip
                    have HO := Lib.hid hown
                    clear hown hbb
                    have HBv := HBn
                    clear HBn hHeld2
                    try simp only [Act.put, List.setIfInBounds_toArray, List.set_cons_zero, List.set_cons_succ]
                    refine wpAnyH_ready (rs := [5]) (by kernel_rfl) (by simp) ?_
                    refine AllReadyH.cons (by first | (simp only [List.getElem?_toArray, List.getElem?_cons_succ, List.getElem?_cons_zero] <;> rfl) | rfl) (fun K hK => ?_) ?_
                    · skip
                      obtain ⟨v5, vh4, hr, ho, hg, hat⟩ := run_list 35 35 43 _ 6 104 infoPol Try.underlying35 rfl (by decide) (by decide) wx.heap.size _ 0 [] HO.out Ao i co (ps.flatMap PolV.cells) (HRp.out _ HBv.out) (pols_one ps) (by omega) HBv.out.size
                      rw [Nat.zero_add, List.nil_append] at ho
                      obtain ⟨_, _, _, _, _, hty, _⟩ := own_typed HO.out
                      obtain ⟨A3, c3, hve, _⟩ := own_typed ho
                      subst hve
                      have HBn := Lib.hid (HBv.out.grown hg HBv.out.size (fun g e => (HO.out.lt g e).1))
                      first | (have HDn := Lib.hid (own_next hat HD.out HN.out); have HN := Lib.hid (HN.out.grown hg (fun e => HD.out _ e.symm rfl)); have HD := HDn; clear HDn) | skip
                      refine op_append (.tmp 59) (.tmp 60) 35 rfl _ _ _ vh4 rfl rfl hr ?_
                      refine hK.out _ _ (HmkS.out _ HBn.out) (fun hHeld4 => ?_)
                      clear hK K
                      have HO := Lib.hid ho
                      clear ho hg hat hty hr
                      have HBv := HBn
                      clear HBn hHeld3
                      try simp only [Act.put, List.setIfInBounds_toArray, List.set_cons_zero, List.set_cons_succ]
                      refine wpAnyH_ready (rs := [8]) (by kernel_rfl) (by simp) ?_
                      refine AllReadyH.cons (by first | (simp only [List.getElem?_toArray, List.getElem?_cons_succ, List.getElem?_cons_zero] <;> rfl) | rfl) (fun K hK => ?_) ?_
                      · skip
                        obtain ⟨v8, vh5, hr, ho, hg, hat⟩ := run_list 35 35 43 _ 6 104 infoPol Try.underlying35 rfl (by decide) (by decide) wx.heap.size _ i (ps.flatMap PolV.cells) HO.out (some ⟨_, 0, none⟩) 1 1 [.string ⟨qnm.toArray⟩, .int .u32 qact, .slice qRA qnR qRc, .int .u16 qhd, .slice qPA qnP qPc, .slice qQA qnQ qQc] (bk_rd HN.out rfl) (pol6_one _ _ _ _ _ _ _ _ _ _ _ _) (by omega) HBv.out.size
                        obtain ⟨A7, c7, hve, _⟩ := own_typed ho
                        subst hve
                        have HBn := Lib.hid (HBv.out.grown hg HBv.out.size (fun g e => (HO.out.lt g e).1))
                        have HAb := Lib.hid (HA2.out _ A7 c7 HBn.out (by rw [List.flatMap_append]; simpa [HQc.out] using ho))
                        refine op_append (.tmp 61) (.tmp 63) 35 rfl _ _ _ vh5 rfl rfl hr ?_
                        refine hK.out _ _ (HmkS.out _ HBn.out) (fun hHeld5 => ?_)
                        clear hK K
                        clear ho hg hat hr HO HN HD
                        have HBv := HBn
                        clear HBn hHeld4
                        try simp only [Act.put, List.setIfInBounds_toArray, List.set_cons_zero, List.set_cons_succ]
                        refine wpAnyH_ready (rs := [10]) (by kernel_rfl) (by simp) ?_
                        refine AllReadyH.cons (by first | (simp only [List.getElem?_toArray, List.getElem?_cons_succ, List.getElem?_cons_zero] <;> rfl) | rfl) (fun K hK => ?_) ?_
                        · skip
                          go_simp
                          refine HAb.out.mono ?_
                          rintro e vh6 ⟨rfl, hbb⟩
                          have HBn := Lib.hid (HBv.out.trans (hbb.mono HBv.out.size))
                          refine hK.out _ _ (HmkS.out _ HBn.out) (fun hHeld6 => ?_)
                          clear hK K hbb HAb
                          have HBv := HBn
                          clear HBn hHeld5
                          try simp only [Act.put, List.setIfInBounds_toArray, List.set_cons_zero, List.set_cons_succ]
                          refine wpAnyH_take (i := 11) (v := ?_) (by first | (simp only [List.getElem?_toArray, List.getElem?_cons_succ, List.getElem?_cons_zero] <;> rfl) | rfl) (by kernel_rfl) (by kernel_rfl) (by kernel_rfl) (by exact fun _ _ _ h => h) (Or.inl ⟨by rfl, ?_⟩) hHeld6 ?_
                          rotate_left 1
                          · intro w hSw
                            try dsimp only at hSw
                            (go_simp) <;> (with_reducible rfl)
                          try simp only [Act.put, List.setIfInBounds_toArray, List.set_cons_zero, List.set_cons_succ]
                          refine wpAnyH_take (i := 12) (v := ?_) (by first | (simp only [List.getElem?_toArray, List.getElem?_cons_succ, List.getElem?_cons_zero] <;> rfl) | rfl) (by kernel_rfl) (by kernel_rfl) (by kernel_rfl) (by exact fun _ _ _ h => h) (Or.inl ⟨by rfl, ?_⟩) hHeld6 ?_
                          rotate_left 1
                          · intro w hSw
                            try dsimp only at hSw
                            (go_simp) <;> (with_reducible rfl)
                          try simp only [Act.put, List.setIfInBounds_toArray, List.set_cons_zero, List.set_cons_succ]
                          refine wpAnyH_done (by kernel_rfl) ?_ _
                          rename World => wq
                          clear hHeld6
                          go_wp2_with fail
                          go_meet
                          case rel => exact ⟨rfl, rfl, HBv⟩
                        exact AllReadyH.nil
                      exact AllReadyH.nil
                    exact AllReadyH.nil
                  exact AllReadyH.nil
                refine AllReadyH.cons (by first | (simp only [List.getElem?_toArray, List.getElem?_cons_succ, List.getElem?_cons_zero] <;> rfl) | rfl) (fun K hK => ?_) ?_
                · skip
                  go_simp
                  have hbb := oneb vh1 (.cells #[] 43)
                  have hown := own_base (own_empty vh1 43 6) HBv.out.size
                  have HBn := Lib.hid (HBv.out.trans (hbb.mono HBv.out.size))
                  first | (have HD := Lib.hid (own0_ne (n := 0) (c := 0) HN.out)) | skip
                  refine hK.out _ _ (HmkS.out _ HBn.out) (fun hHeld2 => ?_)
                  clear hK K
                  generalize World.alloc vh1 _ = vh2 at hbb hown HBn hHeld2 ⊢
                  first | (have HN := Lib.hid (HN.out.kept hbb)) | skip
                  have HO := Lib.hid hown
                  clear hown hbb
                  have HBv := HBn
                  clear HBn hHeld1
                  try simp only [Act.put, List.setIfInBounds_toArray, List.set_cons_zero, List.set_cons_succ]
                  refine wpAnyH_ready (rs := [2]) (by kernel_rfl) (by simp) ?_
                  refine AllReadyH.cons (by first | (simp only [List.getElem?_toArray, List.getElem?_cons_succ, List.getElem?_cons_zero] <;> rfl) | rfl) (fun K hK => ?_) ?_
                  · skip
                    go_simp
                    refine (HA1.out _ HBv.out).mono ?_
                    rintro e vh3 ⟨rfl, hbb⟩
                    have HBn := Lib.hid (HBv.out.trans (hbb.mono HBv.out.size))
                    refine hK.out _ _ (HmkS.out _ HBn.out) (fun hHeld3 => ?_)
                    clear hK K
                    first | (have HO := Lib.hid (own_keepN HO.out hbb)) | skip
                    first | (have HN := Lib.hid (HN.out.kept hbb)) | skip
                    clear hbb
                    have HBv := HBn
                    clear HBn hHeld2
                    try simp only [Act.put, List.setIfInBounds_toArray, List.set_cons_zero, List.set_cons_succ]
                    refine wpAnyH_ready (rs := [5]) (by kernel_rfl) (by simp) ?_
                    refine AllReadyH.cons (by first | (simp only [List.getElem?_toArray, List.getElem?_cons_succ, List.getElem?_cons_zero] <;> rfl) | rfl) (fun K hK => ?_) ?_
                    · skip
                      obtain ⟨v5, vh4, hr, ho, hg, hat⟩ := run_list 35 35 43 _ 6 104 infoPol Try.underlying35 rfl (by decide) (by decide) wx.heap.size _ 0 [] HO.out Ao i co (ps.flatMap PolV.cells) (HRp.out _ HBv.out) (pols_one ps) (by omega) HBv.out.size
                      rw [Nat.zero_add, List.nil_append] at ho
                      obtain ⟨_, _, _, _, _, hty, _⟩ := own_typed HO.out
                      obtain ⟨A3, c3, hve, _⟩ := own_typed ho
                      subst hve
                      have HBn := Lib.hid (HBv.out.grown hg HBv.out.size (fun g e => (HO.out.lt g e).1))
                      first | (have HDn := Lib.hid (own_next hat HD.out HN.out); have HN := Lib.hid (HN.out.grown hg (fun e => HD.out _ e.symm rfl)); have HD := HDn; clear HDn) | skip
                      refine op_append (.tmp 59) (.tmp 60) 35 rfl _ _ _ vh4 rfl rfl hr ?_
                      refine hK.out _ _ (HmkS.out _ HBn.out) (fun hHeld4 => ?_)
                      clear hK K
                      have HO := Lib.hid ho
                      clear ho hg hat hty hr
                      have HBv := HBn
                      clear HBn hHeld3
                      try simp only [Act.put, List.setIfInBounds_toArray, List.set_cons_zero, List.set_cons_succ]
                      refine wpAnyH_ready (rs := [8]) (by kernel_rfl) (by simp) ?_
                      refine AllReadyH.cons (by first | (simp only [List.getElem?_toArray, List.getElem?_cons_succ, List.getElem?_cons_zero] <;> rfl) | rfl) (fun K hK => ?_) ?_
                      · skip
                        obtain ⟨v8, vh5, hr, ho, hg, hat⟩ := run_list 35 35 43 _ 6 104 infoPol Try.underlying35 rfl (by decide) (by decide) wx.heap.size _ i (ps.flatMap PolV.cells) HO.out (some ⟨_, 0, none⟩) 1 1 [.string ⟨qnm.toArray⟩, .int .u32 qact, .slice qRA qnR qRc, .int .u16 qhd, .slice qPA qnP qPc, .slice qQA qnQ qQc] (bk_rd HN.out rfl) (pol6_one _ _ _ _ _ _ _ _ _ _ _ _) (by omega) HBv.out.size
                        obtain ⟨A7, c7, hve, _⟩ := own_typed ho
                        subst hve
                        have HBn := Lib.hid (HBv.out.grown hg HBv.out.size (fun g e => (HO.out.lt g e).1))
                        have HAb := Lib.hid (HA2.out _ A7 c7 HBn.out (by rw [List.flatMap_append]; simpa [HQc.out] using ho))
                        refine op_append (.tmp 61) (.tmp 63) 35 rfl _ _ _ vh5 rfl rfl hr ?_
                        refine hK.out _ _ (HmkS.out _ HBn.out) (fun hHeld5 => ?_)
                        clear hK K
                        clear ho hg hat hr HO HN HD
                        have HBv := HBn
                        clear HBn hHeld4
                        try simp only [Act.put, List.setIfInBounds_toArray, List.set_cons_zero, List.set_cons_succ]
                        refine wpAnyH_ready (rs := [10]) (by kernel_rfl) (by simp) ?_
                        refine AllReadyH.cons (by first | (simp only [List.getElem?_toArray, List.getElem?_cons_succ, List.getElem?_cons_zero] <;> rfl) | rfl) (fun K hK => ?_) ?_
                        · skip
                          go_simp
                          refine HAb.out.mono ?_
                          rintro e vh6 ⟨rfl, hbb⟩
                          have HBn := Lib.hid (HBv.out.trans (hbb.mono HBv.out.size))
                          refine hK.out _ _ (HmkS.out _ HBn.out) (fun hHeld6 => ?_)
                          clear hK K hbb HAb
                          have HBv := HBn
                          clear HBn hHeld5
                          try simp only [Act.put, List.setIfInBounds_toArray, List.set_cons_zero, List.set_cons_succ]
                          refine wpAnyH_take (i := 11) (v := ?_) (by first | (simp only [List.getElem?_toArray, List.getElem?_cons_succ, List.getElem?_cons_zero] <;> rfl) | rfl) (by kernel_rfl) (by kernel_rfl) (by kernel_rfl) (by exact fun _ _ _ h => h) (Or.inl ⟨by rfl, ?_⟩) hHeld6 ?_
                          rotate_left 1
                          · intro w hSw
                            try dsimp only at hSw
                            (go_simp) <;> (with_reducible rfl)
                          try simp only [Act.put, List.setIfInBounds_toArray, List.set_cons_zero, List.set_cons_succ]
                          refine wpAnyH_take (i := 12) (v := ?_) (by first | (simp only [List.getElem?_toArray, List.getElem?_cons_succ, List.getElem?_cons_zero] <;> rfl) | rfl) (by kernel_rfl) (by kernel_rfl) (by kernel_rfl) (by exact fun _ _ _ h => h) (Or.inl ⟨by rfl, ?_⟩) hHeld6 ?_
                          rotate_left 1
                          · intro w hSw
                            try dsimp only at hSw
                            (go_simp) <;> (with_reducible rfl)
                          try simp only [Act.put, List.setIfInBounds_toArray, List.set_cons_zero, List.set_cons_succ]
                          refine wpAnyH_done (by kernel_rfl) ?_ _
                          rename World => wq
                          clear hHeld6
                          go_wp2_with fail
                          go_meet
                          case rel => exact ⟨rfl, rfl, HBv⟩
                        exact AllReadyH.nil
                      exact AllReadyH.nil
                    exact AllReadyH.nil
                  exact AllReadyH.nil
                exact AllReadyH.nil
              exact AllReadyH.nil
            case rest =>
              clear r0 r1 r2 r3 r4 r5 r6 r7 r8 q0 q1 q2 q3 q4 q5 HmkS HA1 HA2
              obtain ⟨rfl, rfl, HBv⟩ := hcut
              rename World => wv
              have r0 := (HKx.out.kept HBv.out).cell 0 rfl
              have r1 := (HKx.out.kept HBv.out).cell 1 rfl
              have r2 := (HKx.out.kept HBv.out).cell 2 rfl
              have r3 := (HKx.out.kept HBv.out).cell 3 rfl
              have r4 := (HKx.out.kept HBv.out).cell 4 rfl
              have r5 := (HKx.out.kept HBv.out).cell 5 rfl
              have r6 := (HKx.out.kept HBv.out).cell 6 rfl
              have r7 := (HKx.out.kept HBv.out).cell 7 rfl
              have r8 := (HKx.out.kept HBv.out).cell 8 rfl
              have rl := (HKx.out.kept HBv.out).lt
              go_wp2_with fail
              refine (seen_any x wv).mono ?_
              clear r0 r1 r2 r3 r4 r5 r6 r7 r8 rl
              rintro e wu ⟨rfl, hbu⟩
              have HBu := Lib.hid (HBv.out.trans (hbu.mono HBv.out.size))
              clear hbu
              go_wp2_with fail
              refine (HRA.out _ HBu.out).mono ?_
              rintro e wt ⟨rfl, hbt⟩
              have HBt := Lib.hid (HBx.out.trans ((HBu.out.trans (hbt.mono HBu.out.size)).mono HBx.out.size))
              clear hbt
              go_wp2_with fail
              refine (HKb.out _).mono ?_
              rintro e ws ⟨rfl, rfl⟩
              go_wp2_with fail
              refine (HKa.out _).mono ?_
              rintro e ws ⟨rfl, rfl⟩
              go_wp2_with fail
              go_roundw
              case rel => exact ⟨j + 1, by go_num, by omega, HBt⟩
              case measure => simp [intOf]; omega
          · have HBz := Lib.hid (HBc.out.trans (HBD.out.mono HBc.out.size))
            have HBz := Lib.hid (HBz.out.trans (HBr.out.mono HBz.out.size))
            have z0 := (HK2d.out.kept HBr.out).cell 0 rfl
            have z1 := (HK2d.out.kept HBr.out).cell 1 rfl
            have z2 := (HK2d.out.kept HBr.out).cell 2 rfl
            have z3 := (HK2d.out.kept HBr.out).cell 3 rfl
            have z4 := (HK2d.out.kept HBr.out).cell 4 rfl
            have z5 := (HK2d.out.kept HBr.out).cell 5 rfl
            have z6 := (HK2d.out.kept HBr.out).cell 6 rfl
            have z7 := (HK2d.out.kept HBr.out).cell 7 rfl
            have z8 := (HK2d.out.kept HBr.out).cell 8 rfl
            have zl := (HK2d.out.kept HBr.out).lt
            go_wp2_with fail
            refine (mall_nil r0.cells wy 0).mono ?_
            clear z0 z1 z2 z3 z4 z5 z6 z7 z8 zl
            rintro e wz ⟨rfl, hbz⟩
            have HBz := Lib.hid (HBz.out.trans (hbz.mono HBz.out.size))
            clear hbz
            go_wp2_with fail
            go_ret
            exact ⟨rfl, HBz.out⟩
end Go.Proofs.Ytagbamengcnfeaa.Me
