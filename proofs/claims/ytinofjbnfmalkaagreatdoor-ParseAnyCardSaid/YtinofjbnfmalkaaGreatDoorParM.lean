/- Texts as policies, by lists alone: how a text's words are read, one by one. Nothing of the program. -/
import Derived.Test.YtinofjbnfmalkaaGreatDoorGa
import Derived.Test.YtinofjbnfmalkaaGreatDoorGx
import Derived.Test.YtinofjbnfmalkaaGreatDoorGm
import Derived.Test.YtinofjbnfmalkaaGreatDoorGc
import Derived.IntWalk
namespace Go.Proofs.YtinofjbnfmalkaaGreatDoor
structure RS where
  left : List Tok
  wr : Wr
def nx (s : RS) : Tok := s.left.headD zTok
def dp (s : RS) : RS := ⟨s.left.tail, s.wr⟩
def fl (s : RS) (t : Tok) (e : Nat) : RS := if s.wr = noW then ⟨[], ⟨t.line, t.col, e⟩⟩ else s
def tkS (k : Nat) (s : RS) : RS := if (nx s).k = k then dp s else fl (dp s) (nx s) 203
def nmS (s : RS) : RS := if (44 : UInt8) ∈ (nx s).t then fl (tkS 1 s) (nx s) 203 else tkS 1 s
def wnS (x : Bs) (s : RS) : RS := if (nx s).t = x then dp s else fl (dp s) (nx s) 203
noncomputable def owS (s : RS) : RS := if wordB (nx s).t then nmS s else fl (nmS s) (nx s) 202
def killW : Bs := [107, 105, 108, 108]
def errnoW : Bs := [101, 114, 114, 110, 111]
def logW : Bs := [108, 111, 103]
def allowW : Bs := [97, 108, 108, 111, 119]
def policyW : Bs := [112, 111, 108, 105, 99, 121]
def defaultW : Bs := [100, 101, 102, 97, 117, 108, 116]
def callW : Bs := [99, 97, 108, 108]
def handleW : Bs := [104, 97, 110, 100, 108, 101]
def beneathW : Bs := [98, 101, 110, 101, 97, 116, 104]
def portW : Bs := [112, 111, 114, 116]
def ifW : Bs := [105, 102]
def andW : Bs := [97, 110, 100]
def eqW : Bs := [61, 61]
def errV (n : Nat) : Nat := 327680 + Rec.clampN (IntKind.i64.wrap n)
def erS (s : RS) : RS := if (nx s).n < 1 ∨ 4095 < (nx s).n then fl (tkS 2 s) (nx s) 204 else tkS 2 s
def actV (s : RS) : Nat :=
  if (nx s).t = killW then 2147483648 else if (nx s).t = errnoW then errV (nx (nmS s)).n
  else if (nx s).t = logW then 2147221504 else if (nx s).t = allowW then 2147418112 else 2147483648
def actS (s : RS) : RS :=
  if (nx s).t = killW then nmS s else if (nx s).t = errnoW then erS (nmS s)
  else if (nx s).t = logW then nmS s else if (nx s).t = allowW then nmS s else fl (nmS s) (nx s) 202
def callV (s : RS) : Nat := ((byName (nx s).t).getD zeroRow).1
def callS (s : RS) : RS := if (byName (nx s).t).isSome then nmS s else fl (nmS s) (nx s) 38
def argT (i : Nat) : Bs := [97, 114, 103, UInt8.ofNat (48 + i)]
def argB (t : Bs) : Option Nat := [0, 1, 2, 3, 4, 5].find? fun i => decide (t = argT i)
def agV (s : RS) : Nat := (argB (nx s).t).getD 0
def agS (s : RS) : RS := if (argB (nx s).t).isSome then nmS s else fl (nmS s) (nx s) 202
def sgT : List Bs := [[], [61, 61], [33, 61], [60], [60, 61], [62], [62, 61], [38]]
def opB (t : Bs) : Nat := ([1, 2, 3, 4, 5, 6, 7].find? fun o => decide (sgT.getD o [] = t)).getD 0
def opV (s : RS) : Nat := opB (nx s).t
def mkV (o : Nat) (s : RS) : Nat := if o = 7 then (nx s).n else 0
def mkS (o : Nat) (s : RS) : RS := if o = 7 then wnS eqW (tkS 2 s) else s
def vlS (c : CondM) (s : RS) : RS := if condE c = 0 then tkS 2 s else fl (tkS 2 s) (nx s) (condE c)
def cndV (s : RS) : CondM :=
  ⟨(agV s : Nat), opV (agS s), mkV (opV (agS s)) (tkS 4 (agS s)), (nx (mkS (opV (agS s)) (tkS 4 (agS s)))).n⟩
def cndS (s : RS) : RS := vlS (cndV s) (mkS (opV (agS s)) (tkS 4 (agS s)))
def roundS (l : List CondM) (s : RS) : RS := if 6 < l.length + 1 then fl (cndS (wnS (if l = [] then ifW else andW) s)) (nx s) 205 else cndS (wnS (if l = [] then ifW else andW) s)
def roundV (l : List CondM) (s : RS) : CondM := cndV (wnS (if l = [] then ifW else andW) s)
def cndsF : Nat → List CondM → RS → List CondM × RS
  | 0, l, s => (l, s)
  | f + 1, l, s => if (nx s).k = 0 then (l, s) else cndsF f (l ++ [roundV l s]) (roundS l s)
def cnds (s : RS) : List CondM × RS := cndsF (s.left.length + 1) [] s
def rulV (s : RS) : RuleM := ⟨callV s, actV (callS s), (cnds (actS (callS s))).1⟩
def rulS (s : RS) : RS := (cnds (actS (callS s))).2
def rtV (s : RS) : Nat := (Rt.pars 0 (Rt.words (nx s).t)).1
def rtE (s : RS) : Nat := (Rt.pars 0 (Rt.words (nx s).t)).2
def rt1 (s : RS) : RS := if rtE s = 0 then tkS 1 s else fl (tkS 1 s) (nx s) (rtE s)
def rtS (may : Nat) (s : RS) : RS := if hasS may (rtV s) then rt1 s else fl (rt1 s) (nx s) 204
def hdS (h : Nat) (first : Tok) (s : RS) : RS := if h = 0 then s else fl s first 206
def pt1 (s : RS) : RS := if pathB (nx s).t then tkS 3 s else fl (tkS 3 s) (nx s) 203
def ptS (h : Nat) (l : List (Bs × Nat)) (s : RS) : RS :=
  if (l.any fun y => decide (y.1 = (nx s).t)) then fl (rtS (h &&& 2047) (pt1 s)) (nx s) 206 else rtS (h &&& 2047) (pt1 s)
def qt1 (s : RS) : RS := if 65535 < (nx s).n then fl (tkS 2 s) (nx s) 204 else tkS 2 s
def qtS (h : Nat) (l : List (Nat × Nat)) (s : RS) : RS :=
  if (l.any fun y => decide (y.1 = (nx s).n % 65536)) then fl (rtS (h &&& 49152) (qt1 s)) (nx s) 206 else rtS (h &&& 49152) (qt1 s)
def bodyP (p : PolM) (first : Tok) (s : RS) : PolM :=
  if first.t = callW then { p with rules := p.rules ++ [rulV s] } else if first.t = handleW then { p with handled := rtV (hdS p.handled first s) }
  else if first.t = beneathW then { p with paths := p.paths ++ [((nx s).t, rtV (pt1 s))] } else if first.t = portW then { p with ports := p.ports ++ [((nx s).n % 65536, rtV (qt1 s))] } else p
def bodyS (p : PolM) (first : Tok) (s : RS) : RS :=
  if first.t = callW then rulS s else if first.t = handleW then rtS 51199 (hdS p.handled first s)
  else if first.t = beneathW then ptS p.handled p.paths s else if first.t = portW then qtS p.handled p.ports s else fl s first 202
def many (p : PolM) : Bool := decide (64 < p.rules.length) || (decide (32 < p.paths.length) || decide (32 < p.ports.length))
def lineV (p : PolM) (s : RS) : PolM := bodyP p (nx s) (nmS s)
def lineS (p : PolM) (s : RS) : RS := if many (lineV p s) then fl (tkS 0 (bodyS p (nx s) (nmS s))) (nx s) 205 else tkS 0 (bodyS p (nx s) (nmS s))
def linesF : Nat → PolM → RS → PolM × RS
  | 0, p, s => (p, s)
  | f + 1, p, s => if s.left = [] then (p, s) else linesF f (lineV p s) (lineS p s)
noncomputable def hd2 (s : RS) : RS := tkS 0 (owS (wnS policyW s))
noncomputable def hdV (s : RS) : PolM := ⟨(nx (wnS policyW s)).t, actV (wnS defaultW (hd2 s)), [], 0, [], []⟩
noncomputable def hdE (s : RS) : RS := tkS 0 (actS (wnS defaultW (hd2 s)))
noncomputable def readP (L : List Tok) : PolM × RS := linesF (L.length + 1) (hdV ⟨L, noW⟩) (hdE ⟨L, noW⟩)
def zP : PolM := ⟨[], 0, [], 0, [], []⟩
noncomputable def parsB (s : Bs) : PolM × Wr :=
  if (lexB s).2 ≠ noW then (zP, (lexB s).2) else if (readP (lexB s).1).2.wr ≠ noW then (zP, (readP (lexB s).1).2.wr) else ((readP (lexB s).1).1, noW)
end Go.Proofs.YtinofjbnfmalkaaGreatDoor
