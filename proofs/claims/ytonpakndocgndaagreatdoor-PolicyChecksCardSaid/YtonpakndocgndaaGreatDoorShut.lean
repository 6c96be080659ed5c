/- PolicyChecks: the walk, of parameters as the law's frame hands them in. -/
import Derived.Test.YtonpakndocgndaaGreatDoorChecks
namespace Go.Proofs.YtonpakndocgndaaGreatDoor
open Go.RowKit Go.ChangeShapes Go.WideShapes Go.WideElems Go.ChangeAt
set_option maxRecDepth 100000
/-- A policy that came in. -/
structure PolIn (w : World) (p : PolV) : Prop where
  g1 : p.name.length ≤ maxLen
  g2 : p.dflt < 4294967296
  g3 : p.rules.length ≤ maxLen
  g4 : p.paths.length ≤ maxLen
  g5 : p.ports.length ≤ maxLen
  g6 : p.handled < 65536
  g7 : p.paths.length ≤ p.Pc
  g8 : p.ports.length ≤ p.Qc
  g9 : ∀ r ∈ p.rules, r.m.ok
  g10 : ∀ x ∈ p.paths, x.1.length ≤ maxLen ∧ x.2 < 65536
  g11 : ∀ x ∈ p.ports, x.1 < 65536 ∧ x.2 < 65536
  g12 : Reads w p
theorem open_pol {H : Type} {enc : TypeId × Value → H} {w : World} {base : Nat} {spare : Nat → Bool} {held : Bool} {r : Reach} {b0 : Nat} {v : Value} {d : DataW H} {pp : List MemPlace} (hv : Value.okWide Tryz.prog w r b0 30 v) (h : DataW.Trod enc Tryz.prog w base spare held 30 v d pp) : ∃ p : PolV, PolIn w p ∧ v = .agg (polL p).toArray := by
  obtain ⟨nm, dflt, rules, RA, Rc, hd, paths, PA, Pc, ports, QA, Qc, e, h1, h2, h3, h4, h5, h6, h7, h8, h9, h10, h11, h12⟩ := open_policy hv h
  exact ⟨⟨nm, dflt, rules, RA, Rc, hd, paths, PA, Pc, ports, QA, Qc⟩, ⟨h1, h2, h3, h4, h5, h6, h7, h8, h9, h10, h11, h12⟩, e⟩
/-- A policy of small numbers that came in. -/
structure SmV where
  ni : Nat
  df : Nat
  er : Nat
  hh : Nat
  srs : List SRV
  SA : Option Addr
  sc : Nat
  dl : List Nat
  DA : Option Addr
  dc : Nat
  gl : List Nat
  GA : Option Addr
  gc : Nat
  pl : List Nat
  KA : Option Addr
  kc : Nat
def SmV.cells (s : SmV) : List Value := [.int .u8 s.ni, .int .u8 s.df, .int .u8 s.er, .slice s.SA s.srs.length s.sc, .int .u16 s.hh, .slice s.DA s.dl.length s.dc, .slice s.GA s.gl.length s.gc, .slice s.KA s.pl.length s.kc]
structure SmIn (w : World) (s : SmV) : Prop where
  g1 : s.ni < 256
  g2 : s.df < 256
  g3 : s.er < 256
  g4 : s.hh < 65536
  g5 : s.srs.length ≤ maxLen
  g6 : s.dl.length ≤ maxLen
  g7 : s.gl.length ≤ maxLen
  g8 : s.pl.length ≤ maxLen
  g9 : ∀ r ∈ s.srs, r.ok
  g10 : ∀ x ∈ s.dl, x < 256
  g11 : ∀ x ∈ s.gl, x < 65536
  g12 : ∀ x ∈ s.pl, x < 256
  g13 : Rd w 4 s.srs.length s.SA (s.srs.flatMap SRV.cells)
  g14 : ∀ r ∈ s.srs, Rd w 4 r.conds.length r.A (r.conds.flatMap SC.cells)
  g15 : Rd w 1 s.dl.length s.DA (u8s s.dl)
  g16 : Rd w 1 s.gl.length s.GA (u16s s.gl)
  g17 : Rd w 1 s.pl.length s.KA (u8s s.pl)
theorem open_sm {H : Type} {enc : TypeId × Value → H} {w : World} {base : Nat} {spare : Nat → Bool} {held : Bool} {r : Reach} {b0 : Nat} {v : Value} {d : DataW H} {pp : List MemPlace} (hv : Value.okWide Tryz.prog w r b0 35 v) (h : DataW.Trod enc Tryz.prog w base spare held 35 v d pp) : ∃ s : SmV, SmIn w s ∧ v = .agg s.cells.toArray := by
  obtain ⟨ni, df, er, hh, srs, SA, sc, dl, DA, dc, gl, GA, gc, pl, KA, kc, e, h1, h2, h3, h4, h5, h6, h7, h8, h9, h10, h11, h12, h13, h14, h15, h16, h17⟩ := open_small hv h
  exact ⟨⟨ni, df, er, hh, srs, SA, sc, dl, DA, dc, gl, GA, gc, pl, KA, kc⟩, ⟨h1, h2, h3, h4, h5, h6, h7, h8, h9, h10, h11, h12, h13, h14, h15, h16, h17⟩, e⟩
theorem open_cnd {H : Type} {enc : TypeId × Value → H} {w : World} {base : Nat} {spare : Nat → Bool} {held : Bool} {r : Reach} {b0 : Nat} {v : Value} {d : DataW H} {pp : List MemPlace} (hv : Value.okWide Tryz.prog w r b0 39 v) (h : DataW.Trod enc Tryz.prog w base spare held 39 v d pp) : ∃ c : CondM, c.ok ∧ v = .agg c.cells.toArray := by
  obtain ⟨c, e, hc⟩ := open_cond hv h
  exact ⟨c, hc, e⟩
def zeroPol : Value := .agg #[.string ByteArray.empty, .int .u32 0, .slice none 0 0, .int .u16 0, .slice none 0 0, .slice none 0 0]
def zeroSm : Value := .agg #[.int .u8 0, .int .u8 0, .int .u8 0, .slice none 0 0, .int .u16 0, .slice none 0 0, .slice none 0 0, .slice none 0 0]
def zeroCnd : Value := .agg #[.int .i64 0, .int .u8 0, .int .u64 0, .int .u64 0]
theorem walk_policyChecks (p : PolV) (s : SmV) (c : CondM) (what n : Int) (w : World) (hp : PolIn w p) (hs : SmIn w s) (hc : c.ok) (h1 : (Lit.int .u8 what).wf = true) (h2 : (Lit.int .u16 n).wf = true) (hE : Env w) :
    Calls Tryz.prog 3 #[.agg (polL p).toArray, .agg s.cells.toArray, .agg c.cells.toArray, .int .u8 what, .int .u16 n] w (BoolPost true w) := by
  obtain ⟨l1, u1⟩ := bounds_u8 h1
  obtain ⟨what, rfl⟩ := Int.eq_ofNat_of_zero_le l1
  obtain ⟨l2, u2⟩ := bounds_u16 h2
  obtain ⟨n, rfl⟩ := Int.eq_ofNat_of_zero_le l2
  exact checks_any p.name p.dflt p.rules p.RA _ p.Rc p.handled p.paths p.PA _ p.Pc p.ports p.QA _ p.Qc s.ni s.df s.er s.hh s.SA _ s.sc s.DA _ s.dc s.GA _ s.gc s.KA _ s.kc c what n w
    rfl rfl rfl hp.g1 hp.g2 hp.g3 hp.g4 hp.g5 hp.g6 hp.g7 hp.g8 hp.g9 hp.g10 hp.g11 hp.g12
    (fun W hb => smallPolicy_any s.ni s.df s.er s.hh s.srs s.SA _ s.sc s.dl s.DA _ s.dc s.gl s.GA _ s.gc s.pl s.KA _ s.kc W hs.g1 hs.g2 hs.g3 hs.g4 rfl rfl rfl rfl hs.g5 hs.g6 hs.g7 hs.g8 hs.g9 hs.g10 hs.g11 hs.g12
      (hs.g13.below hb) (fun r hr => (hs.g14 r hr).below hb) (hs.g15.below hb) (hs.g16.below hb) (hs.g17.below hb))
    hc (by omega) (by omega) hE
end Go.Proofs.YtonpakndocgndaaGreatDoor
