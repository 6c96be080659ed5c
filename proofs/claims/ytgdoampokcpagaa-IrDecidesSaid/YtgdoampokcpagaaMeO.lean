/- What the laws are handed: policies, policies of small numbers, records; what the walks lean on. -/
import Derived.Test.YtgdoampokcpagaaMeA
import Derived.Test.YtgdoampokcpagaaGo
import Derived.Test.YtgdoampokcpagaaGf
namespace Go.Proofs.Ytgdoampokcpagaa.Me
open Go.RowKit Go.ChangeShapes Go.WideShapes Go.WideElems Go.ChangeAt Go.Deep
set_option maxRecDepth 100000
/-- A policy that came in. -/
structure PolIn (w : World) (p : PolV) : Prop where
  g1 : p.name.length ≤ maxLen
  g2 : p.dflt < 4294967296
  g3 : p.rules.length ≤ maxLen
  g4 : p.paths.length ≤ maxLen
  g5 : p.ports.length ≤ maxLen
  g6 : p.handled < 65536
  g7 : p.paths.length ≤ p.Pc
  g8 : p.ports.length ≤ p.Qc
  g9 : ∀ r ∈ p.rules, r.m.ok
  g10 : ∀ x ∈ p.paths, x.1.length ≤ maxLen ∧ x.2 < 65536
  g11 : ∀ x ∈ p.ports, x.1 < 65536 ∧ x.2 < 65536
  g12 : Reads w p
theorem open_pol {H : Type} {enc : TypeId × Value → H} {w : World} {base : Nat} {spare : Nat → Bool} {held : Bool} {r : Reach} {b0 : Nat} {v : Value} {d : DataW H} {pp : List MemPlace} (hv : Value.okWide Try.prog w r b0 30 v) (h : DataW.Trod enc Try.prog w base spare held 30 v d pp) : ∃ p : PolV, PolIn w p ∧ v = .agg p.cells.toArray := by
  obtain ⟨nm, dflt, rules, RA, Rc, hd, paths, PA, Pc, ports, QA, Qc, e, h1, h2, h3, h4, h5, h6, h7, h8, h9, h10, h11, h12⟩ := open_policy hv h
  exact ⟨⟨nm, dflt, rules, RA, Rc, hd, paths, PA, Pc, ports, QA, Qc⟩, ⟨h1, h2, h3, h4, h5, h6, h7, h8, h9, h10, h11, h12⟩, e⟩
/-- A policy of small numbers that came in. -/
structure SmV where
  ni : Nat
  df : Nat
  er : Nat
  hh : Nat
  srs : List SRV
  SA : Option Addr
  sc : Nat
  dl : List Nat
  DA : Option Addr
  dc : Nat
  gl : List Nat
  GA : Option Addr
  gc : Nat
  pl : List Nat
  KA : Option Addr
  kc : Nat
def SmV.cells (s : SmV) : List Value := [.int .u8 s.ni, .int .u8 s.df, .int .u8 s.er, .slice s.SA s.srs.length s.sc, .int .u16 s.hh, .slice s.DA s.dl.length s.dc, .slice s.GA s.gl.length s.gc, .slice s.KA s.pl.length s.kc]
structure SmIn (w : World) (s : SmV) : Prop where
  g1 : s.ni < 256
  g2 : s.df < 256
  g3 : s.er < 256
  g4 : s.hh < 65536
  g5 : s.srs.length ≤ maxLen
  g6 : s.dl.length ≤ maxLen
  g7 : s.gl.length ≤ maxLen
  g8 : s.pl.length ≤ maxLen
  g9 : ∀ r ∈ s.srs, r.ok
  g10 : ∀ x ∈ s.dl, x < 256
  g11 : ∀ x ∈ s.gl, x < 65536
  g12 : ∀ x ∈ s.pl, x < 256
  g13 : Rd w 4 s.srs.length s.SA (s.srs.flatMap SRV.cells)
  g14 : ∀ r ∈ s.srs, Rd w 4 r.conds.length r.A (r.conds.flatMap SC.cells)
  g15 : Rd w 1 s.dl.length s.DA (u8s s.dl)
  g16 : Rd w 1 s.gl.length s.GA (u16s s.gl)
  g17 : Rd w 1 s.pl.length s.KA (u8s s.pl)
theorem open_sm {H : Type} {enc : TypeId × Value → H} {w : World} {base : Nat} {spare : Nat → Bool} {held : Bool} {r : Reach} {b0 : Nat} {v : Value} {d : DataW H} {pp : List MemPlace} (hv : Value.okWide Try.prog w r b0 35 v) (h : DataW.Trod enc Try.prog w base spare held 35 v d pp) : ∃ s : SmV, SmIn w s ∧ v = .agg s.cells.toArray := by
  obtain ⟨ni, df, er, hh, srs, SA, sc, dl, DA, dc, gl, GA, gc, pl, KA, kc, e, h1, h2, h3, h4, h5, h6, h7, h8, h9, h10, h11, h12, h13, h14, h15, h16, h17⟩ := open_small hv h
  exact ⟨⟨ni, df, er, hh, srs, SA, sc, dl, DA, dc, gl, GA, gc, pl, KA, kc⟩, ⟨h1, h2, h3, h4, h5, h6, h7, h8, h9, h10, h11, h12, h13, h14, h15, h16, h17⟩, e⟩
def zeroPol : Value := .agg #[.string ByteArray.empty, .int .u32 0, .slice none 0 0, .int .u16 0, .slice none 0 0, .slice none 0 0]
def zeroSm : Value := .agg #[.int .u8 0, .int .u8 0, .int .u8 0, .slice none 0 0, .int .u16 0, .slice none 0 0, .slice none 0 0, .slice none 0 0]
theorem rec_at : ∀ (l : List RcM) (k j : Nat), j < 9 → (l.flatMap RcM.cells)[k * 9 + j]? = (l[k]?).bind (fun x => (RcM.cells x)[j]?) := flatz RcM.cells 9 (fun _ => rfl) (by omega)
section
variable {H : Type} {enc : TypeId × Value → H} {w : World} {base : Nat} {spare : Nat → Bool} {held : Bool} {fuel : Nat} {x : DataW H × List MemPlace} {A : Option Addr} {len cap : Nat}
theorem rec_cells {cs : List Value} (hl : cs.length = 9) (hf : DataW.trod enc Try.prog w base spare held fuel 49 cs = some x) : ∃ r : RcM, r.ok ∧ cs = r.cells := by
  have h32 : Try.prog.cellsOf 22 = 1 := by kernel_rfl
  have h64 : Try.prog.cellsOf 46 = 1 := by kernel_rfl
  match cs, hl with
  | [c0, c1, c2, c3, c4, c5, c6, c7, c8], _ =>
    obtain ⟨xs, n, _, _, _, hlen, hg⟩ := DataW.trod_struct Try.underlying49 hf
    match xs, hlen with
    | [y0, y1, y2, y3], _ =>
      have f0 : DataW.trod enc Try.prog w base spare held n 22 [c0] = some y0 := one_field (hg 0 _ rfl) rfl rfl h32 rfl
      have f1 : DataW.trod enc Try.prog w base spare held n 22 [c1] = some y1 := one_field (hg 1 _ rfl) rfl rfl h32 rfl
      have f2 : DataW.trod enc Try.prog w base spare held n 46 [c2] = some y2 := one_field (hg 2 _ rfl) rfl rfl h64 rfl
      have h3 : DataW.trod enc Try.prog w base spare held n 47 [c3, c4, c5, c6, c7, c8] = some y3 := by
        have := hg 3 _ rfl
        exact this
      obtain ⟨zs, m, _, _, _, hzl, hz⟩ := DataW.trod_array Try.underlying47 h3
      rw [h64] at hz
      have ft : ∀ i v, i < 6 → [c3, c4, c5, c6, c7, c8][i]? = some v → ∃ y, DataW.trod enc Try.prog w base spare held m 46 [v] = some y := fun i v hi hv => by
        have h1 := hz i hi
        have e : ([c3, c4, c5, c6, c7, c8].drop (i * 1)).take 1 = [v] := by
          rw [Nat.mul_one]
          rcases six hi with rfl | rfl | rfl | rfl | rfl | rfl <;> (simp at hv; subst hv; rfl)
        rw [e] at h1
        have hzn : i < zs.length := by rw [hzl]; exact hi
        exact ⟨zs[i], by rw [h1, List.getElem?_eq_getElem hzn]⟩
      obtain ⟨y3', f3⟩ := ft 0 c3 (by omega) rfl
      obtain ⟨y4', f4⟩ := ft 1 c4 (by omega) rfl
      obtain ⟨y5', f5⟩ := ft 2 c5 (by omega) rfl
      obtain ⟨y6', f6⟩ := ft 3 c6 (by omega) rfl
      obtain ⟨y7', f7⟩ := ft 4 c7 (by omega) rfl
      obtain ⟨y8', f8⟩ := ft 5 c8 (by omega) rfl
      obtain ⟨n0, e0, _, g0⟩ := DataW.trod_int Try.underlying22 f0
      simp only [List.cons.injEq, and_true] at e0
      subst e0
      have b0 := bounds_u32 g0
      obtain ⟨m0, rfl⟩ := Int.eq_ofNat_of_zero_le b0.1
      have d0 : m0 < 4294967296 := by omega
      obtain ⟨n1, e1, _, g1⟩ := DataW.trod_int Try.underlying22 f1
      simp only [List.cons.injEq, and_true] at e1
      subst e1
      have b1 := bounds_u32 g1
      obtain ⟨m1, rfl⟩ := Int.eq_ofNat_of_zero_le b1.1
      have d1 : m1 < 4294967296 := by omega
      obtain ⟨n2, e2, _, g2⟩ := DataW.trod_int Try.underlying46 f2
      simp only [List.cons.injEq, and_true] at e2
      subst e2
      have b2 := bounds_u64 g2
      obtain ⟨m2, rfl⟩ := Int.eq_ofNat_of_zero_le b2.1
      have d2 : m2 < 18446744073709551616 := by omega
      obtain ⟨n3, e3, _, g3⟩ := DataW.trod_int Try.underlying46 f3
      simp only [List.cons.injEq, and_true] at e3
      subst e3
      have b3 := bounds_u64 g3
      obtain ⟨m3, rfl⟩ := Int.eq_ofNat_of_zero_le b3.1
      have d3 : m3 < 18446744073709551616 := by omega
      obtain ⟨n4, e4, _, g4⟩ := DataW.trod_int Try.underlying46 f4
      simp only [List.cons.injEq, and_true] at e4
      subst e4
      have b4 := bounds_u64 g4
      obtain ⟨m4, rfl⟩ := Int.eq_ofNat_of_zero_le b4.1
      have d4 : m4 < 18446744073709551616 := by omega
      obtain ⟨n5, e5, _, g5⟩ := DataW.trod_int Try.underlying46 f5
      simp only [List.cons.injEq, and_true] at e5
      subst e5
      have b5 := bounds_u64 g5
      obtain ⟨m5, rfl⟩ := Int.eq_ofNat_of_zero_le b5.1
      have d5 : m5 < 18446744073709551616 := by omega
      obtain ⟨n6, e6, _, g6⟩ := DataW.trod_int Try.underlying46 f6
      simp only [List.cons.injEq, and_true] at e6
      subst e6
      have b6 := bounds_u64 g6
      obtain ⟨m6, rfl⟩ := Int.eq_ofNat_of_zero_le b6.1
      have d6 : m6 < 18446744073709551616 := by omega
      obtain ⟨n7, e7, _, g7⟩ := DataW.trod_int Try.underlying46 f7
      simp only [List.cons.injEq, and_true] at e7
      subst e7
      have b7 := bounds_u64 g7
      obtain ⟨m7, rfl⟩ := Int.eq_ofNat_of_zero_le b7.1
      have d7 : m7 < 18446744073709551616 := by omega
      obtain ⟨n8, e8, _, g8⟩ := DataW.trod_int Try.underlying46 f8
      simp only [List.cons.injEq, and_true] at e8
      subst e8
      have b8 := bounds_u64 g8
      obtain ⟨m8, rfl⟩ := Int.eq_ofNat_of_zero_le b8.1
      have d8 : m8 < 18446744073709551616 := by omega
      exact ⟨⟨m0, m1, m2, m3, m4, m5, m6, m7, m8⟩, ⟨d0, d1, d2, d3, d4, d5, d6, d7, d8⟩, rfl⟩
/-- Records that came in. -/
def RecsIn (w : World) (A : Option Addr) (len cap : Nat) : Prop := ∃ l : List RcM, l.length = len ∧ (∀ b ∈ l, b.ok) ∧ Rd w 9 len A (l.flatMap RcM.cells) ∧ len ≤ maxLen ∧ (A = none → len = 0 ∧ cap = 0)
theorem open_recs (h : DataW.trod enc Try.prog w base spare held fuel 36 [.slice A len cap] = some x) : RecsIn w A len cap := by
  rcases Go.Deep.open_slice Try.underlying36 h with ⟨hcs, _⟩ | ⟨a, len', cap', m, n, D, Pl, hcs, hb, hl, hm, hmm, hx, hi⟩
  · simp only [List.cons.injEq, Value.slice.injEq, and_true] at hcs
    obtain ⟨rfl, rfl, rfl⟩ := hcs
    exact ⟨[], rfl, by simp, Rd.nil _ _ _, by unfold maxLen; omega, fun _ => ⟨rfl, rfl⟩⟩
  · simp only [List.cons.injEq, Value.slice.injEq, and_true] at hcs
    obtain ⟨rfl, rfl, rfl⟩ := hcs
    have hle : len ≤ m := by rw [hmm]; split <;> omega
    have hC : Try.prog.cellsOf 49 = 9 := by kernel_rfl
    rw [hC] at hi
    have each : ∀ i, i < len → ∃ y : RcM, y.ok ∧ ∀ j u, (RcM.cells y)[j]? = some u → w.cell? (a.add (i * 9 + j)) = some u := by
      intro i hil
      obtain ⟨cs', hc, ht⟩ := hi i (by omega)
      obtain ⟨_, hcl, hat⟩ := World.cells?_some hc
      obtain ⟨r, hr, rfl⟩ := rec_cells hcl ht
      refine ⟨r, hr, fun j u hu => ?_⟩
      have hj : j < 9 := (List.getElem?_eq_some_iff.1 hu).1
      have h1 := hat j hj
      rw [Go.Deep.add_add] at h1
      rw [h1]; exact hu
    obtain ⟨l, hl1, hl2⟩ := list_of len each
    refine ⟨l, hl1, fun i hi => ?_, rd_of (by rw [flatz_len RcM.cells 9 (fun _ => rfl), hl1]) (by omega) (fun q u hu => ?_), Nat.le_trans hl hm, fun e => by cases e⟩
    · obtain ⟨j, hj⟩ := List.getElem?_of_mem hi
      exact (hl2 j i hj).1
    · have hq : q = q / 9 * 9 + q % 9 := by omega
      rw [hq, rec_at l _ _ (by omega)] at hu
      obtain ⟨y, hy, hu⟩ := Option.bind_eq_some_iff.1 hu
      rw [hq]
      exact (hl2 _ y hy).2 _ _ hu
end
/-- A policy that is soon gone through. -/
structure QOk (p : PolV) : Prop where
  r : p.rules.length ≤ 80
  pt : p.paths.length ≤ 50
  po : p.ports.length ≤ 50
  cs : ∀ r ∈ p.rules, r.m.conds.length ≤ 20
  ok : ∀ r ∈ p.rules, r.m.ok
  d : p.dflt < 4294967296
  hd : p.handled < 65536
  pa : ∀ x ∈ p.paths, x.2 < 65536
  qa : ∀ x ∈ p.ports, x.1 < 65536 ∧ x.2 < 65536
theorem q_few {w : World} {p : PolV} (h : PolIn w p) (f : FewP p.name p.rules p.paths p.ports) : QOk p :=
  ⟨f.fRules, f.fPaths, f.fPorts, f.fConds, h.g9, h.g2, h.g6, fun x hx => (h.g10 x hx).2, h.g11⟩
theorem q_small {nm : Bs} {act : Nat} {rs : List RuleV} {RA : Option Addr} {Rc hd : Nat} {pt : List (Bs × Nat)} {PA : Option Addr} {Pc : Nat} {po : List (Nat × Nat)} {QA : Option Addr} {Qc : Nat} (h : SmOk nm act rs hd pt po) : QOk ⟨nm, act, rs, RA, Rc, hd, pt, PA, Pc, po, QA, Qc⟩ :=
  ⟨Nat.le_trans h.many (by omega), Nat.le_trans h.path.len (by omega), Nat.le_trans h.port.len (by omega), fun r hr => Nat.le_trans (h.rule r hr).2.1 (by omega), fun r hr => (h.rule r hr).2.2, h.act32, h.hd16, fun x hx => (h.path.each x hx).2.2, fun x hx => by have := h.port.each x hx; exact ⟨by omega, this.2.2⟩⟩
theorem own_rd {w : World} {B : Nat} {e : TypeId} {z n c : Nat} {A : Option Addr} {xs : List Value} (h : w.ownsRow B e z (.slice A n c) n xs) : Rd w z n A xs := by
  obtain ⟨A', c', e', _, ht, _, _⟩ := own_typed h
  cases e'
  exact ht.rd
theorem small_reads {w : World} {B : Nat} {nm : Bs} {act : Nat} {rs : List RuleV} {RA : Option Addr} {Rc hd : Nat} {pt : List (Bs × Nat)} {PA : Option Addr} {Pc : Nat} {po : List (Nat × Nat)} {QA : Option Addr} {Qc : Nat} (h : Rows4 w B rs RA Rc pt PA Pc po QA Qc) : Reads w ⟨nm, act, rs, RA, Rc, hd, pt, PA, Pc, po, QA, Qc⟩ :=
  ⟨own_rd h.r, fun r hr => (h.c r hr).rd, own_rd h.p, own_rd h.q⟩
theorem rrd_of {w : World} {p : PolV} (h : Reads w p) (q : QOk p) : RRd w p.rules p.RA := ⟨h.rules, h.conds, q.ok⟩
end Go.Proofs.Ytgdoampokcpagaa.Me

