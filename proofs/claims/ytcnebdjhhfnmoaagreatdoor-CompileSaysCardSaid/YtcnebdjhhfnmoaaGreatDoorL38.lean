/- Is a policy soon gone through: the walk. -/
import Derived.Test.YtcnebdjhhfnmoaaGreatDoorL20
import Derived.Test.YtcnebdjhhfnmoaaGreatDoorL36
import Derived.Test.YtcnebdjhhfnmoaaGreatDoorL37
import Derived.Test.YtcnebdjhhfnmoaaGreatDoorL01
set_option maxHeartbeats 32000000
set_option maxRecDepth 100000
namespace Go.Proofs.YtcnebdjhhfnmoaaGreatDoor
open Go.RowKit
structure FewP (nm:Bs)(rules:List RuleV)(paths:List (Bs×Nat))(ports:List (Nat×Nat)):Prop where
 fName:nm.length≤100
 fRules:rules.length≤80
 fConds:∀r∈rules,r.m.conds.length≤20
 fPaths:paths.length≤50
 fPath:∀x∈paths,x.1.length≤200
 fPorts:ports.length≤50
def FewPost (nm:Bs)(rules:List RuleV)(paths:List (Bs×Nat))(ports:List (Nat×Nat))(w:World)(e:Ending)(w':World):Prop:=(∃b:Bool,e=.returned (.bool b)∧(b=true→FewP nm rules paths ports))∧Below w.heap.size w w'
theorem few_no {nm:Bs}{rules:List RuleV}{paths:List (Bs×Nat)}{ports:List (Nat×Nat)}{w w':World}{e:Ending}(he:e=.returned (.bool false))(hb:Below w.heap.size w w'):FewPost nm rules paths ports w e w':=⟨⟨false,he,fun h=>by cases h⟩,hb⟩
theorem few_any (nm:Bs)(dflt:Nat)(rules:List RuleV)(RA:Option Addr)(nR Rc hd:Nat)(paths:List (Bs×Nat))(PA:Option Addr)(nP Pc:Nat)(ports:List (Nat×Nat))(QA:Option Addr)(nQ Qc:Nat)(w:World)
  (hnR:rules.length=nR) (hnP:paths.length=nP) (hnQ:ports.length=nQ) (hlR:nR≤maxLen) (hlP:nP≤maxLen) (hlQ:nQ≤maxLen)
  (hru:∀r∈rules,r.m.conds.length≤maxLen) (hpa:∀x∈paths,x.1.length≤maxLen)
  (hR:Reads w ⟨nm,dflt,rules,RA,Rc,hd,paths,PA,Pc,ports,QA,Qc⟩) :
  Calls Tryz.prog 8 #[.agg #[.string ⟨nm.toArray⟩,.int .u32 dflt,.slice RA nR Rc,.int .u16 hd,.slice PA nP Pc,.slice QA nQ Qc]] w (FewPost nm rules paths ports w):=by
 have hbk:=Bk.new w 30 #[.string ⟨nm.toArray⟩,.int .u32 dflt,.slice RA nR Rc,.int .u16 hd,.slice PA nP Pc,.slice QA nQ Qc] (l:=[.string ⟨nm.toArray⟩,.int .u32 dflt,.slice RA nR Rc,.int .u16 hd,.slice PA nP Pc,.slice QA nQ Qc]) rfl
 have hb0:=one_alloc w (.cells #[.string ⟨nm.toArray⟩,.int .u32 dflt,.slice RA nR Rc,.int .u16 hd,.slice PA nP Pc,.slice QA nQ Qc] 30)
 have HR:=qd (hR.below hb0)
 have Hru:=qd hru
 have Hpa:=qd hpa
 have HnR:=qd hnR
 have HnP:=qd hnP
 have HnQ:=qd hnQ
 have hlR':nR≤9223372036854775807:=hlR
 have hlP':nP≤9223372036854775807:=hlP
 have hlQ':nQ≤9223372036854775807:=hlQ
 have hsz:(⟨nm.toArray⟩:ByteArray).size=nm.length:=by rw [Lib.size_eq]
 clear hR hru hpa hnR hnP hnQ hlR hlP hlQ
 go_enter Tryz.func8,Tryz.ntmps8
 go_wp2_with fail
 have hlt0:=hbk.lt
 generalize w.alloc _=w1 at hbk hb0 hlt0 HR ⊢
 have HK:=qd hbk
 have HB0:=qd hb0
 clear hbk hb0
 go_loopw [10] (fun iv wr=>∃k:Nat,iv=.int .i64 k∧k≤nR∧Hid (∀r∈rules.take k,r.m.conds.length≤20)∧Hid (Below w1.heap.size w1 wr)) (fun iv _=>nR-(intOf iv).toNat)
 case atStart=>exact ⟨0,rfl,Nat.zero_le _,qd (by simp),Below.refl _ _⟩
 case round=>
  obtain ⟨k,rfl,hk,HF,HB⟩:=hrel
  have hlw:=Nat.lt_of_lt_of_le hlt0 HB.out.size
  by_cases hlt:k<nR
  ·obtain ⟨r,hr⟩:∃r,rules[k]?=some r:=⟨_,List.getElem?_eq_getElem (by have:=HnR.out;omega)⟩
   have hrd:=(HR.out.below HB.out).rules
   simp only [HnR.out] at hrd
   obtain ⟨bb,o,hAe,hbl,hcell⟩:=hrd.one (fun _=>rfl) (by omega) (by omega)
   subst hAe
   obtain ⟨c0,c1,c2⟩:=rule_cells hcell hr
   have hlc:=Hru.out r (List.mem_of_getElem? hr)
   have HX:=qd hr
   obtain ⟨nc,hnc⟩:∃nc,nc=r.m.conds.length:=⟨_,rfl⟩
   rw [←hnc] at c2 hlc
   have hlc':nc≤9223372036854775807:=hlc
   have HNc:=qd hnc
   clear hcell hr hrd hlc hnc
   by_cases h20:20<nc
   ·have g20:(20:Int)<(nc:Int):=by omega
    go_wp2_with fail
    go_ret
    exact few_no rfl (HB0.out.trans ((HB.out.alloc HB.out.size _).mono HB0.out.size))
   ·have g20:¬(20:Int)<(nc:Int):=by omega
    have HF2:=qd (show ∀r∈rules.take (k+1),r.m.conds.length≤20 from fun y hy=>by
     rw [List.take_add_one,HX.out] at hy
     rcases List.mem_append.1 hy with h|h
     ·exact HF.out y h
     ·simp at h;subst h;rw [←HNc.out];omega)
    clear h20
    go_wp2_with fail
    go_roundw
    case rel=>exact ⟨k+1,by go_num,by omega,HF2,HB.out.alloc HB.out.size _⟩
    case measure=>simp [intOf];omega
  ·have HF2:=qd (show ∀r∈rules,r.m.conds.length≤20 from fun y hy=>HF.out y (by rw [List.take_of_length_le (by have:=HnR.out;omega)];exact hy))
   have q4:=(HK.out.kept HB.out).cell 4 rfl
   have HB1:=qd (HB0.out.trans (HB.out.mono HB0.out.size))
   have HR1:=qd (HR.out.below HB.out)
   have HK1:=qd (HK.out.kept HB.out)
   go_wp2_with fail
   clear q4 HF HB hlt hlt0 HB0 HR HK
   go_loopw [22] (fun iv wy=>∃k:Nat,iv=.int .i64 k∧k≤nP∧Hid (∀x∈paths.take k,x.1.length≤200)∧Hid (Below wr.heap.size wr wy)) (fun iv _=>nP-(intOf iv).toNat)
   case atStart=>exact ⟨0,rfl,Nat.zero_le _,qd (by simp),Below.refl _ _⟩
   case round=>
    rename World=>wy
    obtain ⟨i,rfl,hi,HP,HBy⟩:=hrel
    have hlwy:=Nat.lt_of_lt_of_le hlw HBy.out.size
    have HB2:=qd (HB1.out.trans (HBy.out.mono HB1.out.size))
    by_cases hil:i<nP
    ·obtain ⟨x,hx⟩:∃x,paths[i]?=some x:=⟨_,List.getElem?_eq_getElem (by have:=HnP.out;omega)⟩
     have hxl:=Hpa.out x (List.mem_of_getElem? hx)
     obtain ⟨x1,x2⟩:=x
     simp only at hxl
     have hxl':x1.length≤9223372036854775807:=hxl
     have hrd:=(HR1.out.below HBy.out).paths
     simp only [HnP.out] at hrd
     obtain ⟨bp,op,hAp,hbp,hcell⟩:=hrd.one (fun _=>rfl) (by omega) (by omega)
     subst hAp
     obtain ⟨c0,c1⟩:=two_cells (f:=pathC) hcell hx rfl
     have HX:=qd hx
     have hsx:(⟨x1.toArray⟩:ByteArray).size=x1.length:=by rw [Lib.size_eq]
     clear hcell hx hrd hxl
     by_cases h200:200<x1.length
     ·have g200:(200:Int)<(x1.length:Int):=by omega
      go_wp2_with fail
      go_ret
      exact few_no rfl (HB2.out.alloc HB2.out.size _)
     ·have g200:¬(200:Int)<(x1.length:Int):=by omega
      have HP2:=qd (show ∀x∈paths.take (i+1),x.1.length≤200 from fun y hy=>by
       rw [List.take_add_one,HX.out] at hy
       rcases List.mem_append.1 hy with h|h
       ·exact HP.out y h
       ·simp at h;subst h;show x1.length≤200;omega)
      clear h200
      go_wp2_with fail
      go_roundw
      case rel=>exact ⟨i+1,by go_num,by omega,HP2,HBy.out.alloc HBy.out.size _⟩
      case measure=>simp [intOf];omega
    ·have HP2:=qd (show ∀x∈paths,x.1.length≤200 from fun y hy=>HP.out y (by rw [List.take_of_length_le (by have:=HnP.out;omega)];exact hy))
     have q0:=(HK1.out.kept HBy.out).cell 0 rfl
     have q2:=(HK1.out.kept HBy.out).cell 2 rfl
     have q4:=(HK1.out.kept HBy.out).cell 4 rfl
     have q5:=(HK1.out.kept HBy.out).cell 5 rfl
     by_cases h1:nR≤80
     ·have g1:(nR:Int)≤80:=by omega
      have d1:decide ((nR:Int)≤80)=true:=decide_eq_true g1
      by_cases h2:nP≤50
      ·have g2:(nP:Int)≤50:=by omega
       have d2:decide ((nP:Int)≤50)=true:=decide_eq_true g2
       by_cases h3:nQ≤50
       ·have g3:(nQ:Int)≤50:=by omega
        have d3:decide ((nQ:Int)≤50)=true:=decide_eq_true g3
        by_cases h4:nm.length≤100
        ·have g4:(nm.length:Int)≤100:=by omega
         have d4:decide ((nm.length:Int)≤100)=true:=decide_eq_true g4
         have HV:=qd (show FewP nm rules paths ports from ⟨h4,by rw [HnR.out];exact h1,HF2.out,by rw [HnP.out];exact h2,HP2.out,by rw [HnQ.out];exact h3⟩)
         clear h1 h2 h3 h4
         go_wp2_with fail
         go_ret
         exact ⟨⟨true,rfl,fun _=>HV.out⟩,HB2.out⟩
        ·have g4:¬(nm.length:Int)≤100:=by omega
         have d4:decide ((nm.length:Int)≤100)=false:=decide_eq_false g4
         clear h1 h2 h3 h4
         go_wp2_with fail
         go_ret
         exact few_no rfl HB2.out
       ·have g3:¬(nQ:Int)≤50:=by omega
        have d3:decide ((nQ:Int)≤50)=false:=decide_eq_false g3
        clear h1 h2 h3
        go_wp2_with fail
        go_ret
        exact few_no rfl HB2.out
      ·have g2:¬(nP:Int)≤50:=by omega
       have d2:decide ((nP:Int)≤50)=false:=decide_eq_false g2
       clear h1 h2
       go_wp2_with fail
       go_ret
       exact few_no rfl HB2.out
     ·have g1:¬(nR:Int)≤80:=by omega
      have d1:decide ((nR:Int)≤80)=false:=decide_eq_false g1
      clear h1
      go_wp2_with fail
      go_ret
      exact few_no rfl HB2.out
end Go.Proofs.YtcnebdjhhfnmoaaGreatDoor
namespace Go.Proofs.YtcnebdjhhfnmoaaGreatDoor.Me
open Go.RowKit Go.ChangeShapes Go.WideShapes Go.WideElems Go.ChangeAt Go.Deep
structure PolIn (w:World)(p:PolV):Prop where
 g1:p.name.length≤maxLen
 g2:p.dflt<4294967296
 g3:p.rules.length≤maxLen
 g4:p.paths.length≤maxLen
 g5:p.ports.length≤maxLen
 g6:p.handled<65536
 g7:p.paths.length≤p.Pc
 g8:p.ports.length≤p.Qc
 g9:∀r∈p.rules,r.m.ok
 g10:∀x∈p.paths,x.1.length≤maxLen∧x.2<65536
 g11:∀x∈p.ports,x.1<65536∧x.2<65536
 g12:Reads w p
theorem open_pol {H:Type}{enc:TypeId×Value→H}{w:World}{base:Nat}{spare:Nat→Bool}{held:Bool}{r:Go.Reach}{b0:Nat}{v:Value}{d:DataW H}{pp:List MemPlace}(hv:Value.okWide Tryz.prog w r b0 30 v)(h:DataW.Trod enc Tryz.prog w base spare held 30 v d pp):∃p:PolV,PolIn w p∧v=.agg p.cells.toArray:=by
 obtain ⟨nm,dflt,rules,RA,Rc,hd,paths,PA,Pc,ports,QA,Qc,e,h1,h2,h3,h4,h5,h6,h7,h8,h9,h10,h11,h12⟩:=open_policy hv h
 exact ⟨⟨nm,dflt,rules,RA,Rc,hd,paths,PA,Pc,ports,QA,Qc⟩,⟨h1,h2,h3,h4,h5,h6,h7,h8,h9,h10,h11,h12⟩,e⟩
structure SmV where
 ni:Nat
 df:Nat
 er:Nat
 hh:Nat
 srs:List SRV
 SA:Option Addr
 sc:Nat
 dl:List Nat
 DA:Option Addr
 dc:Nat
 gl:List Nat
 GA:Option Addr
 gc:Nat
 pl:List Nat
 KA:Option Addr
 kc:Nat
def SmV.cells (s:SmV):List Value:=[.int .u8 s.ni,.int .u8 s.df,.int .u8 s.er,.slice s.SA s.srs.length s.sc,.int .u16 s.hh,.slice s.DA s.dl.length s.dc,.slice s.GA s.gl.length s.gc,.slice s.KA s.pl.length s.kc]
structure SmIn (w:World)(s:SmV):Prop where
 g1:s.ni<256
 g2:s.df<256
 g3:s.er<256
 g4:s.hh<65536
 g5:s.srs.length≤maxLen
 g6:s.dl.length≤maxLen
 g7:s.gl.length≤maxLen
 g8:s.pl.length≤maxLen
 g9:∀r∈s.srs,r.ok
 g10:∀x∈s.dl,x<256
 g11:∀x∈s.gl,x<65536
 g12:∀x∈s.pl,x<256
 g13:Rd w 4 s.srs.length s.SA (s.srs.flatMap SRV.cells)
 g14:∀r∈s.srs,Rd w 4 r.conds.length r.A (r.conds.flatMap SC.cells)
 g15:Rd w 1 s.dl.length s.DA (u8s s.dl)
 g16:Rd w 1 s.gl.length s.GA (u16s s.gl)
 g17:Rd w 1 s.pl.length s.KA (u8s s.pl)
theorem open_sm {H:Type}{enc:TypeId×Value→H}{w:World}{base:Nat}{spare:Nat→Bool}{held:Bool}{r:Go.Reach}{b0:Nat}{v:Value}{d:DataW H}{pp:List MemPlace}(hv:Value.okWide Tryz.prog w r b0 35 v)(h:DataW.Trod enc Tryz.prog w base spare held 35 v d pp):∃s:SmV,SmIn w s∧v=.agg s.cells.toArray:=by
 obtain ⟨ni,df,er,hh,srs,SA,sc,dl,DA,dc,gl,GA,gc,pl,KA,kc,e,h1,h2,h3,h4,h5,h6,h7,h8,h9,h10,h11,h12,h13,h14,h15,h16,h17⟩:=open_small hv h
 exact ⟨⟨ni,df,er,hh,srs,SA,sc,dl,DA,dc,gl,GA,gc,pl,KA,kc⟩,⟨h1,h2,h3,h4,h5,h6,h7,h8,h9,h10,h11,h12,h13,h14,h15,h16,h17⟩,e⟩
def zeroPol:Value:=.agg #[.string ByteArray.empty,.int .u32 0,.slice none 0 0,.int .u16 0,.slice none 0 0,.slice none 0 0]
def zeroSm:Value:=.agg #[.int .u8 0,.int .u8 0,.int .u8 0,.slice none 0 0,.int .u16 0,.slice none 0 0,.slice none 0 0,.slice none 0 0]
theorem rec_at:∀(l:List RcM)(k j:Nat),j<9→(l.flatMap RcM.cells)[k*9+j]?=(l[k]?).bind (fun x=>(RcM.cells x)[j]?):=flatz RcM.cells 9 (fun _=>rfl) (by omega)
section
variable {H:Type} {enc:TypeId×Value→H} {w:World} {base:Nat} {spare:Nat→Bool} {held:Bool} {fuel:Nat} {x:DataW H×List MemPlace} {A:Option Addr} {len cap:Nat}
theorem rec_cells {cs:List Value}(hl:cs.length=9)(hf:DataW.trod enc Tryz.prog w base spare held fuel 60 cs=some x):∃r:RcM,r.ok∧cs=r.cells:=by
 have h32:Tryz.prog.cellsOf 22=1:=by kernel_rfl
 have h64:Tryz.prog.cellsOf 57=1:=by kernel_rfl
 match cs,hl with
 | [c0,c1,c2,c3,c4,c5,c6,c7,c8],_=>
  obtain ⟨xs,n,_,_,_,hlen,hg⟩:=DataW.trod_struct Tryz.underlying60 hf
  match xs,hlen with
  | [y0,y1,y2,y3],_=>
   have f0:DataW.trod enc Tryz.prog w base spare held n 22 [c0]=some y0:=one_field (hg 0 _ rfl) rfl rfl h32 rfl
   have f1:DataW.trod enc Tryz.prog w base spare held n 22 [c1]=some y1:=one_field (hg 1 _ rfl) rfl rfl h32 rfl
   have f2:DataW.trod enc Tryz.prog w base spare held n 57 [c2]=some y2:=one_field (hg 2 _ rfl) rfl rfl h64 rfl
   have h3:DataW.trod enc Tryz.prog w base spare held n 58 [c3,c4,c5,c6,c7,c8]=some y3:=by
    have:=hg 3 _ rfl
    exact this
   obtain ⟨zs,m,_,_,_,hzl,hz⟩:=DataW.trod_array Tryz.underlying58 h3
   rw [h64] at hz
   have ft:∀i v,i<6→[c3,c4,c5,c6,c7,c8][i]?=some v→∃y,DataW.trod enc Tryz.prog w base spare held m 57 [v]=some y:=fun i v hi hv=>by
    have h1:=hz i hi
    have e:([c3,c4,c5,c6,c7,c8].drop (i*1)).take 1=[v]:=by
     rw [Nat.mul_one]
     rcases six hi with rfl|rfl|rfl|rfl|rfl|rfl<;>(simp at hv;subst hv;rfl)
    rw [e] at h1
    have hzn:i<zs.length:=by rw [hzl];exact hi
    exact ⟨zs[i],by rw [h1,List.getElem?_eq_getElem hzn]⟩
   obtain ⟨y3',f3⟩:=ft 0 c3 (by omega) rfl
   obtain ⟨y4',f4⟩:=ft 1 c4 (by omega) rfl
   obtain ⟨y5',f5⟩:=ft 2 c5 (by omega) rfl
   obtain ⟨y6',f6⟩:=ft 3 c6 (by omega) rfl
   obtain ⟨y7',f7⟩:=ft 4 c7 (by omega) rfl
   obtain ⟨y8',f8⟩:=ft 5 c8 (by omega) rfl
   obtain ⟨n0,e0,_,g0⟩:=DataW.trod_int Tryz.underlying22 f0
   simp only [List.cons.injEq,and_true] at e0
   subst e0
   have b0:=bounds_u32 g0
   obtain ⟨m0,rfl⟩:=Int.eq_ofNat_of_zero_le b0.1
   have d0:m0<4294967296:=by omega
   obtain ⟨n1,e1,_,g1⟩:=DataW.trod_int Tryz.underlying22 f1
   simp only [List.cons.injEq,and_true] at e1
   subst e1
   have b1:=bounds_u32 g1
   obtain ⟨m1,rfl⟩:=Int.eq_ofNat_of_zero_le b1.1
   have d1:m1<4294967296:=by omega
   obtain ⟨n2,e2,_,g2⟩:=DataW.trod_int Tryz.underlying57 f2
   simp only [List.cons.injEq,and_true] at e2
   subst e2
   have b2:=bounds_u64 g2
   obtain ⟨m2,rfl⟩:=Int.eq_ofNat_of_zero_le b2.1
   have d2:m2<18446744073709551616:=by omega
   obtain ⟨n3,e3,_,g3⟩:=DataW.trod_int Tryz.underlying57 f3
   simp only [List.cons.injEq,and_true] at e3
   subst e3
   have b3:=bounds_u64 g3
   obtain ⟨m3,rfl⟩:=Int.eq_ofNat_of_zero_le b3.1
   have d3:m3<18446744073709551616:=by omega
   obtain ⟨n4,e4,_,g4⟩:=DataW.trod_int Tryz.underlying57 f4
   simp only [List.cons.injEq,and_true] at e4
   subst e4
   have b4:=bounds_u64 g4
   obtain ⟨m4,rfl⟩:=Int.eq_ofNat_of_zero_le b4.1
   have d4:m4<18446744073709551616:=by omega
   obtain ⟨n5,e5,_,g5⟩:=DataW.trod_int Tryz.underlying57 f5
   simp only [List.cons.injEq,and_true] at e5
   subst e5
   have b5:=bounds_u64 g5
   obtain ⟨m5,rfl⟩:=Int.eq_ofNat_of_zero_le b5.1
   have d5:m5<18446744073709551616:=by omega
   obtain ⟨n6,e6,_,g6⟩:=DataW.trod_int Tryz.underlying57 f6
   simp only [List.cons.injEq,and_true] at e6
   subst e6
   have b6:=bounds_u64 g6
   obtain ⟨m6,rfl⟩:=Int.eq_ofNat_of_zero_le b6.1
   have d6:m6<18446744073709551616:=by omega
   obtain ⟨n7,e7,_,g7⟩:=DataW.trod_int Tryz.underlying57 f7
   simp only [List.cons.injEq,and_true] at e7
   subst e7
   have b7:=bounds_u64 g7
   obtain ⟨m7,rfl⟩:=Int.eq_ofNat_of_zero_le b7.1
   have d7:m7<18446744073709551616:=by omega
   obtain ⟨n8,e8,_,g8⟩:=DataW.trod_int Tryz.underlying57 f8
   simp only [List.cons.injEq,and_true] at e8
   subst e8
   have b8:=bounds_u64 g8
   obtain ⟨m8,rfl⟩:=Int.eq_ofNat_of_zero_le b8.1
   have d8:m8<18446744073709551616:=by omega
   exact ⟨⟨m0,m1,m2,m3,m4,m5,m6,m7,m8⟩,⟨d0,d1,d2,d3,d4,d5,d6,d7,d8⟩,rfl⟩
def RecsIn (w:World)(A:Option Addr)(len cap:Nat):Prop:=∃l:List RcM,l.length=len∧(∀b∈l,b.ok)∧Rd w 9 len A (l.flatMap RcM.cells)∧len≤maxLen∧(A=none→len=0∧cap=0)
theorem open_recs (h:DataW.trod enc Tryz.prog w base spare held fuel 36 [.slice A len cap]=some x):RecsIn w A len cap:=by
 rcases Go.Deep.open_slice Tryz.underlying36 h with ⟨hcs,_⟩|⟨a,len',cap',m,n,D,Pl,hcs,hb,hl,hm,hmm,hx,hi⟩
 ·simp only [List.cons.injEq,Value.slice.injEq,and_true] at hcs
  obtain ⟨rfl,rfl,rfl⟩:=hcs
  exact ⟨[],rfl,by simp,Rd.nil _ _ _,by unfold maxLen;omega,fun _=>⟨rfl,rfl⟩⟩
 ·simp only [List.cons.injEq,Value.slice.injEq,and_true] at hcs
  obtain ⟨rfl,rfl,rfl⟩:=hcs
  have hle:len≤m:=by rw [hmm];split<;>omega
  have hC:Tryz.prog.cellsOf 60=9:=by kernel_rfl
  rw [hC] at hi
  have each:∀i,i<len→∃y:RcM,y.ok∧∀j u,(RcM.cells y)[j]?=some u→w.cell? (a.add (i*9+j))=some u:=by
   intro i hil
   obtain ⟨cs',hc,ht⟩:=hi i (by omega)
   obtain ⟨_,hcl,hat⟩:=World.cells?_some hc
   obtain ⟨r,hr,rfl⟩:=rec_cells hcl ht
   refine ⟨r,hr,fun j u hu=>?_⟩
   have hj:j<9:=(List.getElem?_eq_some_iff.1 hu).1
   have h1:=hat j hj
   rw [Go.Deep.add_add] at h1
   rw [h1];exact hu
  obtain ⟨l,hl1,hl2⟩:=list_of len each
  refine ⟨l,hl1,fun i hi=>?_,rd_of (by rw [flatz_len RcM.cells 9 (fun _=>rfl),hl1]) (by omega) (fun q u hu=>?_),Nat.le_trans hl hm,fun e=>by cases e⟩
  ·obtain ⟨j,hj⟩:=List.getElem?_of_mem hi
   exact (hl2 j i hj).1
  ·have hq:q=q / 9*9+q%9:=by omega
   rw [hq,rec_at l _ _ (by omega)] at hu
   obtain ⟨y,hy,hu⟩:=Option.bind_eq_some_iff.1 hu
   rw [hq]
   exact (hl2 _ y hy).2 _ _ hu
end
structure QOk (p:PolV):Prop where
 r:p.rules.length≤80
 pt:p.paths.length≤50
 po:p.ports.length≤50
 cs:∀r∈p.rules,r.m.conds.length≤20
 ok:∀r∈p.rules,r.m.ok
 d:p.dflt<4294967296
 hd:p.handled<65536
 pa:∀x∈p.paths,x.2<65536
 qa:∀x∈p.ports,x.1<65536∧x.2<65536
theorem q_few {w:World}{p:PolV}(h:PolIn w p)(f:FewP p.name p.rules p.paths p.ports):QOk p:=
 ⟨f.fRules,f.fPaths,f.fPorts,f.fConds,h.g9,h.g2,h.g6,fun x hx=>(h.g10 x hx).2,h.g11⟩
theorem q_small {nm:Bs}{act:Nat}{rs:List RuleV}{RA:Option Addr}{Rc hd:Nat}{pt:List (Bs×Nat)}{PA:Option Addr}{Pc:Nat}{po:List (Nat×Nat)}{QA:Option Addr}{Qc:Nat}(h:SmOk nm act rs hd pt po):QOk ⟨nm,act,rs,RA,Rc,hd,pt,PA,Pc,po,QA,Qc⟩:=
 ⟨Nat.le_trans h.many (by omega),Nat.le_trans h.path.len (by omega),Nat.le_trans h.port.len (by omega),fun r hr=>Nat.le_trans (h.rule r hr).2.1 (by omega),fun r hr=>(h.rule r hr).2.2,h.act32,h.hd16,fun x hx=>(h.path.each x hx).2.2,fun x hx=>by have:=h.port.each x hx;exact ⟨by omega,this.2.2⟩⟩
theorem own_rd {w:World}{B:Nat}{e:TypeId}{z n c:Nat}{A:Option Addr}{xs:List Value}(h:w.ownsRow B e z (.slice A n c) n xs):Rd w z n A xs:=by
 obtain ⟨A',c',e',_,ht,_,_⟩:=own_typed h
 cases e'
 exact ht.rd
theorem small_reads {w:World}{B:Nat}{nm:Bs}{act:Nat}{rs:List RuleV}{RA:Option Addr}{Rc hd:Nat}{pt:List (Bs×Nat)}{PA:Option Addr}{Pc:Nat}{po:List (Nat×Nat)}{QA:Option Addr}{Qc:Nat}(h:Rows4 w B rs RA Rc pt PA Pc po QA Qc):Reads w ⟨nm,act,rs,RA,Rc,hd,pt,PA,Pc,po,QA,Qc⟩:=
 ⟨own_rd h.r,fun r hr=>(h.c r hr).rd,own_rd h.p,own_rd h.q⟩
theorem rrd_of {w:World}{p:PolV}(h:Reads w p)(q:QOk p):RRd w p.rules p.RA:=⟨h.rules,h.conds,q.ok⟩
end Go.Proofs.YtcnebdjhhfnmoaaGreatDoor.Me
