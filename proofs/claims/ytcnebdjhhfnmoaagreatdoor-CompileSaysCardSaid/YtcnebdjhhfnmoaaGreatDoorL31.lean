/- What lays code: the search; the whole. -/
import Derived.Test.YtcnebdjhhfnmoaaGreatDoorL30
import Derived.WalkArith
import Derived.Test.YtcnebdjhhfnmoaaGreatDoorL01
set_option maxHeartbeats 32000000
set_option maxRecDepth 100000
namespace Go.Proofs.YtcnebdjhhfnmoaaGreatDoor.Lo
open Go.RowKit Go.Maps Go.WideMaps Go.WideElems Go.ChangeMaps Go.Proofs.YtcnebdjhhfnmoaaGreatDoor.Ju Go.Proofs.YtcnebdjhhfnmoaaGreatDoor.Me Go.Proofs.YtcnebdjhhfnmoaaGreatDoor.Ir
structure CsIn (w0:World)(cs:List CaV)(A:Option Addr):Prop where
 row:Rd w0 2 cs.length A (cs.flatMap CaV.cells)
 brs:∀c∈cs,BrIn w0 c.brs c.A
theorem case_cellsL {w:World}{b o k:Nat}{l:List CaV}{x:CaV}(hc:∀k x,l[k]?=some x→∀j v,(CaV.cells x)[j]?=some v→w.cell? ⟨b,o+(k*2+j),none⟩=some v)(h:l[k]?=some x) :
  w.cell? ⟨b,o+k*2,none⟩=some (.int .u32 x.num)∧w.cell? ⟨b,o+k*2+1,none⟩=some (.slice x.A x.brs.length x.cap):=
 ⟨by have:=hc k x h 0 _ rfl;simpa using this,by have:=hc k x h 1 _ rfl;simpa [Nat.add_assoc] using this⟩
theorem CsIn.drop {w:World}{b o m:Nat}{cs:List CaV}(h:CsIn w cs (some ⟨b,o,none⟩))(hm:m<cs.length):CsIn w (cs.drop m) (some ⟨b,o+m*2,none⟩):=by
 refine ⟨?_,fun c hc=>h.brs c (List.mem_of_mem_drop hc)⟩
 refine ⟨by rw [flatz_len CaV.cells 2 (fun _=>rfl)],?_⟩
 obtain ⟨b',o',e,hb,hc⟩:=h.row.pos (by omega)
 cases e
 refine Or.inr ⟨b,o+m*2,rfl,hb,fun j u hu=>?_⟩
 rw [Nat.add_assoc]
 refine hc _ _ ?_
 have e:cs.flatMap CaV.cells=(cs.take m).flatMap CaV.cells++(cs.drop m).flatMap CaV.cells:=by rw [←List.flatMap_append,List.take_append_drop]
 rw [e,List.getElem?_append_right (by rw [flatz_len CaV.cells 2 (fun _=>rfl),List.length_take];omega),flatz_len CaV.cells 2 (fun _=>rfl),List.length_take]
 rw [show m*2+j-min m cs.length*2=j from by rw [Nat.min_eq_left (by omega)];omega]
 exact hu
theorem CsIn.take {w:World}{b o m:Nat}{cs:List CaV}(h:CsIn w cs (some ⟨b,o,none⟩))(hm:m<cs.length):CsIn w (cs.take m) (some ⟨b,o,none⟩):=by
 refine ⟨?_,fun c hc=>h.brs c (List.mem_of_mem_take hc)⟩
 refine ⟨by rw [flatz_len CaV.cells 2 (fun _=>rfl)],?_⟩
 obtain ⟨b',o',e,hb,hc⟩:=h.row.pos (by omega)
 cases e
 refine Or.inr ⟨b,o,rfl,hb,fun j u hu=>hc _ _ ?_⟩
 have e:cs.flatMap CaV.cells=(cs.take m).flatMap CaV.cells++(cs.drop m).flatMap CaV.cells:=by rw [←List.flatMap_append,List.take_append_drop]
 rw [e,List.getElem?_append_left (List.getElem?_eq_some_iff.1 hu).1]
 exact hu
theorem search_one {d f k:Nat}{l:List CaM}{c:CaM}(h:l=[c]):searchL d (f+1) k l=callL d k c:=by
 subst h;rfl
theorem search_two {d f k m:Nat}{l:List CaM}(hm:m=l.length / 2)(h:2≤l.length) :
  searchL d (f+1) k l=(ifC 53 (midN l) (k+1) (k+2)::hereP (k+2)::((searchL d f (k+2) (l.take m)).1++hereP (k+1)::(searchL d f (searchL d f (k+2) (l.take m)).2 (l.drop m)).1),(searchL d f (searchL d f (k+2) (l.take m)).2 (l.drop m)).2):=by
 subst hm
 conv=>lhs;unfold searchL
 rw [if_neg (by omega)]
section
variable {w0:World} {p B d:Nat}
theorem search_any (f:Nat):∀(cs:List CaV) (A:Option Addr) (n cap:Nat) (w:World) (v:Value) (k:Nat) (s:List PtM),LR w0 w p B v k d s→CsIn w0 cs A→cs.length=n→n≤cap→1≤n→n≤f→n≤100000 →
  (s++(searchL d f k (cs.map CaV.m)).1).length≤150000→(searchL d f k (cs.map CaV.m)).2≤150000 →
  Calls Tryz.prog 98 #[.pointer (some ⟨p,0,none⟩),.slice A n cap] w (LQ w0 w p B (searchL d f k (cs.map CaV.m)).2 d (s++(searchL d f k (cs.map CaV.m)).1)):=by
 induction f with
 | zero=>intro cs A n cap w v k s _ _ _ _ h1 h2;omega
 | succ f ih=>
  intro cs A n cap w v k s h hcs hn hcap h1 hf h100 hl hk
  have HIh:=qd ih
  clear ih
  obtain ⟨b,o,hA,hbl0,-⟩:=hcs.row.pos (by omega)
  subst hA
  have HL:=qd h
  have HO:=qd (Oth.refl p w)
  have HCs:=qd hcs
  have HN:=qd hn
  clear h hcs hbl0
  by_cases hn1:n=1
  ·obtain ⟨c,hc⟩:∃c,cs[0]?=some c:=⟨_,List.getElem?_eq_getElem (by omega)⟩
   have hcl:cs=[c]:=by
    obtain ⟨c',e⟩:=List.length_eq_one_iff.1 (hn.trans hn1)
    rw [e] at hc ⊢
    cases hc;rfl
   have HQ:=qd (show searchL d (f+1) k (cs.map CaV.m)=callL d k ⟨c.num,c.brs.map BrV.m⟩ from search_one (by rw [hcl];rfl))
   rw [HQ.out] at hl hk ⊢
   obtain ⟨b',o',e,hbl,hcell⟩:=(HCs.out.row.below HL.out.bel).one (f:=CaV.cells) (fun _=>rfl) (by omega) (by omega)
   cases e
   obtain ⟨c0,c1⟩:=case_cellsL hcell hc
   rw [Nat.zero_mul,Nat.add_zero] at c0 c1
   have HCl:=qd (call_any c.num c.brs c.A c.brs.length c.cap HL.out (HCs.out.brs c (List.mem_of_getElem? hc)) rfl hl hk)
   clear hc hcl hcell hl hk hn HQ
   obtain rfl:n=1:=hn1
   go_enter Tryz.func98,Tryz.ntmps98
   go_wp2_with fail
   refine HCl.out.mono ?_
   rintro e w2 ⟨rfl,v2,hr2,ho2⟩
   have HL:=qd hr2
   have HO:=qd ho2
   clear hr2 ho2 c0 c1
   go_wp2_with fail
   go_end0
   exact ⟨rfl,v2,HL.out,HO.out⟩
  ·obtain ⟨m,hm⟩:∃m,m=n / 2:=⟨_,rfl⟩
   have em:(n:Int) / 2=m:=by omega
   have hm1:1≤m:=by omega
   have hmn:m<n:=by omega
   obtain ⟨c,hc⟩:∃c,cs[m]?=some c:=⟨_,List.getElem?_eq_getElem (by omega)⟩
   obtain ⟨k1,hk1⟩:∃z,z=k+1:=⟨_,rfl⟩
   obtain ⟨k2,hk2⟩:∃z,z=k1+1:=⟨_,rfl⟩
   have hmid:midN (cs.map CaV.m)=c.num:=by
    unfold midN
    rw [List.length_map,hn,←hm,List.getElem?_map,hc];rfl
   have hq:searchL d (f+1) k (cs.map CaV.m)=(ifC 53 c.num k1 k2::hereP k2::((searchL d f k2 ((cs.take m).map CaV.m)).1++hereP k1::(searchL d f (searchL d f k2 ((cs.take m).map CaV.m)).2 ((cs.drop m).map CaV.m)).1),(searchL d f (searchL d f k2 ((cs.take m).map CaV.m)).2 ((cs.drop m).map CaV.m)).2):=by
    rw [search_two (m:=m) (by rw [List.length_map,hn,hm]) (by rw [List.length_map];omega),hmid,hk2,hk1,List.map_take,List.map_drop]
   rw [hq] at hl hk ⊢
   have l1:=(search_lay d f k2 ((cs.take m).map CaV.m)).le
   have l2:=(search_lay d f (searchL d f k2 ((cs.take m).map CaV.m)).2 ((cs.drop m).map CaV.m)).le
   simp only at hl hk l1 l2 ⊢
   have HLn:=qd (show s.length+(searchL d f k2 ((cs.take m).map CaV.m)).1.length+(searchL d f (searchL d f k2 ((cs.take m).map CaV.m)).2 ((cs.drop m).map CaV.m)).1.length+3≤150000 by simp only [List.length_append,List.length_cons] at hl;omega)
   have I1:=qd (fun W vv s' (hh:LR w0 W p B vv k2 d s') (hs':s'.length≤s.length+2)=>HIh.out (cs.take m) (some ⟨b,o,none⟩) m cap W vv k2 s' hh (HCs.out.take (by omega)) (by rw [List.length_take];omega) (by omega) hm1 (by omega) (by omega) (by rw [List.length_append];have:=HLn.out;omega) (by omega))
   have I2:=qd (fun W vv s' (hh:LR w0 W p B vv (searchL d f k2 ((cs.take m).map CaV.m)).2 d s') (hs':s'.length≤s.length+3+(searchL d f k2 ((cs.take m).map CaV.m)).1.length)=>HIh.out (cs.drop m) (some ⟨b,o+m*2,none⟩) (n-m) (cap-m) W vv _ s' hh (HCs.out.drop (by omega)) (by rw [List.length_drop];omega) (by omega) (by omega) (by omega) (by omega) (by rw [List.length_append];have:=HLn.out;omega) (by omega))
   obtain ⟨E1,hE1⟩:∃z,z=searchL d f k2 ((cs.take m).map CaV.m):=⟨_,rfl⟩
   rw [←hE1] at I1 I2 HLn l1 l2 hk hl ⊢
   obtain ⟨E2,hE2⟩:∃z,z=searchL d f E1.2 ((cs.drop m).map CaV.m):=⟨_,rfl⟩
   rw [←hE2] at I2 HLn l2 hk hl ⊢
   have hkb:k≤149998:=by omega
   have hsl:s.length≤149990∨True:=Or.inr trivial
   have hsl:s.length≤149997:=by have:=HLn.out;omega
   have HK1:=qd hk1
   have HK2:=qd hk2
   have hk1b:k1≤149999:=by omega
   have hk2b:k2≤150000:=by omega
   have HC:=qd hc
   have en1:((n:Int)==1)=false:=by rw [beq_eq_false_iff_ne];omega
   have hcm:¬cap=m:=by omega
   clear hE1 hE2 hq hl hk l1 l2 hk1 hk2 hmid hc hn HIh hm
   go_enter Tryz.func98,Tryz.ntmps98
   go_wp2_with fail
   go_region_with (go_at_call 49;first|(refine (lnew_to HLn.out (by omega) HK2.out).mono ?_;rintro e w3 ⟨rfl,hr3,ho3⟩;have HL:=qd hr3;have HO:=qd (HOn.out.trans ho3);clear hr3 ho3 HLn HOn)|(refine (lnew_to (HL.out.below (Below.refl _ _).drew) (by omega) HK1.out).mono ?_;rintro e w2 ⟨rfl,hr2,ho2⟩;have HLn:=qd hr2;have HOn:=qd ((HO.out.trans (Oth.of (Below.refl _ _).drew)).trans ho2);clear hr2 ho2))
   obtain ⟨b',o',e,hbl,hcell⟩:=(HCs.out.row.below HL.out.bel).one (f:=CaV.cells) (fun _=>rfl) (by omega) (by have:=HN.out;omega)
   cases e
   obtain ⟨c0,-⟩:=case_cellsL hcell HC.out
   clear hcell
   have HZ:=qd (And.intro c0 hbl)
   clear c0 hbl
   have z0:=HZ.out.1
   have zl:=HZ.out.2
   go_wp2_with fail
   go_region_with (go_at_call 96;refine (lif_any 48 c.num k1 k2 (Or.inr (Or.inr rfl)) (HL.out.below (Below.refl _ _).drew) (by first|omega|(simp only [List.length_append,List.length_cons,List.length_nil];omega))).mono ?_;rintro e w2 ⟨rfl,v2,hr2,ho2⟩;have HL9:=qd hr2;have HO9:=qd ((HO.out.trans (Oth.of (Below.refl _ _).drew)).trans ho2);have HD:=qd ((Oth.of (Below.refl _ _).drew).trans ho2);clear hr2 ho2 HL HO;have HL:=HL9;have HO:=HO9;clear HL9 HO9)
   clear HD z0 zl HZ
   go_wp2_with fail
   refine (lhere_any k2 HL.out (by first|omega|(simp only [List.length_append,List.length_cons,List.length_nil];omega))).mono ?_
   rintro e w4 ⟨rfl,v4,hr4,ho4⟩
   have HL:=qd hr4
   have HO:=qd (HO.out.trans ho4)
   clear hr4 ho4
   go_wp2_with fail
   refine (I1.out _ _ _ HL.out (by simp only [List.length_append,List.length_cons,List.length_nil];omega)).mono ?_
   rintro e w5 ⟨rfl,v5,hr5,ho5⟩
   have HL:=qd hr5
   have HO:=qd (HO.out.trans ho5)
   clear hr5 ho5 I1
   go_wp2_with fail
   refine (lhere_any k1 HL.out (by simp only [List.length_append,List.length_cons,List.length_nil];have:=HLn.out;omega)).mono ?_
   rintro e w6 ⟨rfl,v6,hr6,ho6⟩
   have HL:=qd hr6
   have HO:=qd (HO.out.trans ho6)
   clear hr6 ho6
   go_wp2_with fail
   refine (I2.out _ _ _ HL.out (by simp only [List.length_append,List.length_cons,List.length_nil];omega)).mono ?_
   rintro e w7 ⟨rfl,v7,hr7,ho7⟩
   have HL:=qd hr7
   have HO:=qd (HO.out.trans ho7)
   clear hr7 ho7 I2
   go_wp2_with fail
   go_end0
   exact ⟨rfl,_,by have:=HL.out;simpa using this,HO.out⟩
end
end Go.Proofs.YtcnebdjhhfnmoaaGreatDoor.Lo
namespace Go.Proofs.YtcnebdjhhfnmoaaGreatDoor.Lo
open Go.RowKit Go.Maps Go.WideMaps Go.WideElems Go.ChangeMaps Go.Proofs.YtcnebdjhhfnmoaaGreatDoor.Ju Go.Proofs.YtcnebdjhhfnmoaaGreatDoor.Me Go.Proofs.YtcnebdjhhfnmoaaGreatDoor.Ir
/-! As many names as places, at most. -/
theorem equal_cnt (k a m v y n:Nat):(equalL k a m v y n).2≤k+(equalL k a m v y n).1.length:=by
 unfold equalL
 split
 ·exact Nat.le_add_right _ _
 ·simp only [List.length_append,List.length_cons];omega
theorem above_cnt (k a how v y n:Nat):(aboveL k a how v y n).2≤k+(aboveL k a how v y n).1.length:=by
 unfold aboveL
 split
 ·exact Nat.le_add_right _ _
 ·simp only [List.length_cons];omega
theorem ask_cnt (k:Nat)(c:CondM)(y n:Nat):(ask k c y n).2≤k+(ask k c y n).1.length:=by
 unfold ask
 repeat' split
 all_goals first|exact equal_cnt ..|exact above_cnt ..|exact Nat.le_add_right _ _
theorem conds_cnt (b:Nat):∀(l:List CondM) (k:Nat),(condsL b k l).2≤k+(condsL b k l).1.length
 | [],k=>Nat.le_add_right _ _
 | c::l,k=>by
  have h1:=ask_cnt (k+1) c (k+1) b
  have h2:=conds_cnt b l (ask (k+1) c (k+1) b).2
  unfold condsL
  simp only [List.length_append,List.length_cons]
  omega
theorem br_cnt (k:Nat)(b:BrM):(brL k b).2≤k+(brL k b).1.length:=by
 unfold brL
 split
 ·exact Nat.le_add_right _ _
 ·have:=conds_cnt (k+1) b.conds (k+1)
  simp only [List.length_append,List.length_cons]
  omega
theorem brs_cnt:∀(l:List BrM)(k:Nat),(brsL k l).2≤k+(brsL k l).1.length
 | [],k=>Nat.le_add_right _ _
 | b::l,k=>by
  have h1:=br_cnt k b
  have h2:=brs_cnt l (brL k b).2
  unfold brsL
  simp only [List.length_append]
  omega
theorem call_cnt (d k:Nat)(c:CaM):(callL d k c).2≤k+(callL d k c).1.length:=by
 have h:=brs_cnt c.brs (k+2)
 unfold callL
 simp only [List.length_cons,List.length_append,List.length_nil]
 omega
theorem search_cnt (d:Nat):∀(f k:Nat) (l:List CaM),(searchL d f k l).2≤k+(searchL d f k l).1.length
 | 0,k,l=>Nat.le_add_right _ _
 | f+1,k,l=>by
  unfold searchL
  split
  ·cases l[0]? with
   | none=>exact Nat.le_add_right _ _
   | some c=>exact call_cnt d k c
  ·have h1:=search_cnt d f (k+2) (l.take (l.length / 2))
   have h2:=search_cnt d f (searchL d f (k+2) (l.take (l.length / 2))).2 (l.drop (l.length / 2))
   simp only [List.length_cons,List.length_append]
   omega
def LQx (w0 w:World)(p B d:Nat)(s:List PtM)(e:Ending)(w':World):Prop:=e=.returned (.tuple #[])∧∃v2 k2,LR w0 w' p B v2 k2 d s∧Oth p w w'
section
variable {w0 w:World} {p B:Nat} {v:Value} {d:Nat} {s:List PtM}
theorem calls_any (cs:List CaV)(A:Option Addr)(n cap:Nat)(h:LR w0 w p B v 2 d s)(hcs:CsIn w0 cs A)(hn:cs.length=n)(hcap:n≤cap)(h100:n≤100000)(hl:(s++callsL d (cs.map CaV.m)).length≤65000) :
  Calls Tryz.prog 53 #[.pointer (some ⟨p,0,none⟩),.slice A n cap] w (LQx w0 w p B d (s++callsL d (cs.map CaV.m))):=by
 have HL:=qd h
 have HO:=qd (Oth.refl p w)
 have hsl:s.length≤65000:=by rw [List.length_append] at hl;omega
 by_cases h0:n=0
 ·have HQ:=qd (show callsL d (cs.map CaV.m)=[retP d] by
   have:cs=[]:=List.eq_nil_of_length_eq_zero (by omega)
   rw [this];rfl)
  have y2:=h.box.cell 2 rfl
  have yl:=h.box.lt
  have e0:((n:Int)==0)=true:=by rw [h0];rfl
  clear h hcs hn hl h0
  go_enter Tryz.func53,Tryz.ntmps53
  go_wp2_with fail
  refine (says_any d HL.out (by omega)).mono ?_
  rintro e w2 ⟨rfl,v2,hr2,ho2⟩
  have HL:=qd hr2
  have HO:=qd ho2
  clear hr2 ho2 y2 yl
  go_wp2_with fail
  go_end0
  rw [HQ.out]
  exact ⟨rfl,_,_,HL.out,HO.out⟩
 ·have HQ:=qd (show callsL d (cs.map CaV.m)=loadP 0::(searchL d n 2 (cs.map CaV.m)).1 by
   unfold callsL
   rw [if_neg (fun e=>h0 (by have:=congrArg List.length e;rw [List.length_map] at this;simpa [hn] using this)),List.length_map,hn])
  have e0:((n:Int)==0)=false:=by rw [beq_eq_false_iff_ne];omega
  have hcnt:=search_cnt d n 2 (cs.map CaV.m)
  have hle:s.length+1+(searchL d n 2 (cs.map CaV.m)).1.length≤65000:=by rw [HQ.out] at hl;simp only [List.length_append,List.length_cons] at hl;omega
  have HSe:=qd (fun W vv (hh:LR w0 W p B vv 2 d (s++[loadP 0]))=>search_any n cs A n cap W vv 2 (s++[loadP 0]) hh hcs hn hcap (by omega) (Nat.le_refl _) h100 (by simp only [List.length_append,List.length_cons,List.length_nil];omega) (by omega))
  clear h hcs hn hl h0 hcnt hle
  go_enter Tryz.func53,Tryz.ntmps53
  go_wp2_with fail
  go_region_with (first|(go_at_call 94;refine (load_of _ _).mono ?_;rintro e w1 ⟨rfl,hb1⟩;have HL1:=qd (HL.out.below ((Below.refl _ _).drew.trans hb1));have HO1:=qd (HO.out.trans (Oth.of ((Below.refl _ _).drew.trans hb1)));clear hb1)|(go_at_call 93;refine (lplain_any ⟨32,0,0,0⟩ HL1.out (by omega)).mono ?_;rintro e w2 ⟨rfl,v2,hr2,ho2⟩;have HL:=qd hr2;have HO:=qd (HO1.out.trans ho2);clear hr2 ho2 HL1 HO1))
  go_wp2_with fail
  refine (HSe.out _ _ HL.out).mono ?_
  rintro e w3 ⟨rfl,v3,hr3,ho3⟩
  have HL:=qd hr3
  have HO:=qd (HO.out.trans ho3)
  clear hr3 ho3
  go_wp2_with fail
  go_end0
  rw [HQ.out]
  exact ⟨rfl,_,_,by have:=HL.out;rw [List.append_assoc] at this;exact this,HO.out⟩
end
def PtPost (l:List PtM)(w:World)(e:Ending)(w':World):Prop:=∃A c,e=.returned (.slice A l.length c)∧Rd w' 7 l.length A (l.flatMap PtM.cells)∧Below w.heap.size w w'
theorem CsIn.below {w w':World}{cs:List CaV}{A:Option Addr}(h:CsIn w cs A)(hb:Below w.heap.size w w'):CsIn w' cs A:=
 ⟨h.row.below hb,fun c hc=>⟨(h.brs c hc).row.below hb,(h.brs c hc).len,fun b hbm=>⟨((h.brs c hc).con b hbm).1.below hb,((h.brs c hc).con b hbm).2⟩⟩⟩
theorem plan_any (cs:List CaV)(A:Option Addr)(n cap d:Nat)(w:World)(hcs:CsIn w cs A)(hn:cs.length=n)(hcap:n≤cap)(h100:n≤100000)(hl:(planL d (cs.map CaV.m)).length≤65000) :
  Calls Tryz.prog 22 #[.agg #[.slice A n cap,.int .u32 d]] w (PtPost (planL d (cs.map CaV.m)) w):=by
 have hx:=Bk.new w 71 #[.slice A n cap,.int .u32 d] (l:=[.slice A n cap,.int .u32 d]) rfl
 have hb0:=oneb w (.cells #[.slice A n cap,.int .u32 d] 71)
 have HCs:=qd hcs
 have HLn:=qd (show (((bitsL 4 4294967295 3221225534 1 2++[hereP 2])++[retP 2147483648])++[hereP 1]).length+(callsL d (cs.map CaV.m)).length≤65000 by
  unfold planL at hl
  simp only [List.length_append,List.length_cons,List.length_nil] at hl ⊢;omega)
 have HPl:=qd (show planL d (cs.map CaV.m)=(((bitsL 4 4294967295 3221225534 1 2++[hereP 2])++[retP 2147483648])++[hereP 1])++callsL d (cs.map CaV.m) by unfold planL;simp)
 have HPn:=qd hl
 obtain ⟨PP,hPP⟩:∃z,z=planL d (cs.map CaV.m):=⟨_,rfl⟩
 rw [←hPP] at HPl HPn ⊢
 have HN:=qd hn
 clear hcs hn hl hPP
 go_enter Tryz.func22,Tryz.ntmps22
 go_upto_region 1 with fail
 generalize World.alloc w _=w1 at hx hb0 ⊢
 have hxl:=hx.lt
 generalize w.heap.size=xb at hx hxl ⊢
 have HX:=qd hx
 have HB0:=qd hb0
 have y1:=hx.cell 1 rfl
 clear hx hb0
 go_upto_region 2 with fail
 have hk:=Bk.new w1 154 #[.int .i64 0,.slice none 0 0,.int .u32 d] (l:=[.int .i64 0,.slice none 0 0,.int .u32 d]) rfl
 have hb1:=oneb w1 (.cells #[.int .i64 0,.slice none 0 0,.int .u32 d] 154)
 have hsz:(w1.alloc (.cells #[.int .i64 0,.slice none 0 0,.int .u32 d] 154)).heap.size=w1.heap.size+1:=by simp
 generalize World.alloc w1 _=w2 at hk hb1 hsz ⊢
 have hp0:w.heap.size≤w1.heap.size:=HB0.out.size
 have HB2:=qd (HB0.out.trans (hb1.mono HB0.out.size))
 have hL:LR w w2 w1.heap.size (w1.heap.size+1) (.slice none 0 0) 0 d []:=⟨hk,World.ownsRow_nil _ _ _ _,by omega,by omega,HB2.out,hp0⟩
 have hne:xb≠w1.heap.size:=by omega
 have HX:=qd (HX.out.kept hb1)
 generalize w1.heap.size=p at hL hne ⊢
 have HL:=qd hL
 have HNe:=qd hne
 have HO:=qd (Oth.refl p w2)
 clear hk hb1 hsz hp0 hL hne hxl y1 HB0 HB2
 go_wp2_with fail
 refine (lnew_to (k1:=1) HL.out (by omega) rfl).mono ?_
 rintro e w3 ⟨rfl,hr3,ho3⟩
 have HL:=qd hr3
 have HO:=qd (HO.out.trans ho3)
 clear hr3 ho3
 go_wp2_with fail
 refine (lnew_to (k1:=2) HL.out (by omega) rfl).mono ?_
 rintro e w4 ⟨rfl,hr3,ho3⟩
 have HL:=qd hr3
 have HO:=qd (HO.out.trans ho3)
 clear hr3 ho3
 go_wp2_with fail
 refine (bits_any 4 4294967295 3221225534 1 2 HL.out (by simp)).mono ?_
 rintro e w5 ⟨rfl,v5,hr5,ho5⟩
 have HL:=qd hr5
 have HO:=qd (HO.out.trans ho5)
 clear hr5 ho5
 go_wp2_with fail
 refine (lhere_any 2 HL.out (by unfold bitsL;simp)).mono ?_
 rintro e w6 ⟨rfl,v6,hr6,ho6⟩
 have HL:=qd hr6
 have HO:=qd (HO.out.trans ho6)
 clear hr6 ho6
 go_wp2_with fail
 refine (says_any 2147483648 HL.out (by unfold bitsL;simp)).mono ?_
 rintro e w7 ⟨rfl,v7,hr7,ho7⟩
 have HL:=qd hr7
 have HO:=qd (HO.out.trans ho7)
 clear hr7 ho7
 go_wp2_with fail
 refine (lhere_any 1 HL.out (by unfold bitsL;simp)).mono ?_
 rintro e w8 ⟨rfl,v8,hr8,ho8⟩
 have HL:=qd hr8
 have HO:=qd (HO.out.trans ho8)
 clear hr8 ho8
 have hx:=HO.out.2 _ _ _ (by decide) HNe.out HX.out
 have y0:=hx.cell 0 rfl
 have yl:=hx.lt
 clear hx
 go_wp2_with fail
 refine (calls_any cs A n cap HL.out HCs.out HN.out hcap h100 (by have:=HLn.out;rw [List.length_append];simpa using this)).mono ?_
 rintro e w9 ⟨rfl,v9,k9,hr9,ho9⟩
 have HL:=qd (show LR w w9 p (p+1) v9 k9 d PP by rw [HPl.out];simpa using hr9)
 clear hr9 ho9 y0 yl
 go_wp2_with fail
 refine (lparts_any HL.out HPn.out).mono ?_
 rintro e w10 ⟨A9,c9,rfl,hrow,hb9⟩
 obtain ⟨A8,c8,e8,_,h8,_⟩:=own_typed hrow
 cases e8
 have HRd:=qd h8.rd
 have HB9:=qd (HL.out.bel.trans (hb9.mono HL.out.bel.size))
 clear hrow h8 hb9
 go_wp2_with fail
 go_ret
 exact ⟨A9,c9,rfl,HRd.out,HB9.out⟩
end Go.Proofs.YtcnebdjhhfnmoaaGreatDoor.Lo
