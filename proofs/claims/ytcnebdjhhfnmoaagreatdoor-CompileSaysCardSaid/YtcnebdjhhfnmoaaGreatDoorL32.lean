/- The library's stable sort at rules: exchanges, rotations, merges in place, blocks. -/
import Derived.Test.YtcnebdjhhfnmoaaGreatDoorL17
import Derived.Test.YtcnebdjhhfnmoaaGreatDoorProg
import Derived.Shelf.SlSortCmp.KitK
import Derived.Sort.WalkB2
import Derived.Sort.WalkB12
import Derived.Deep.LoopGhost
import Derived.Lib.Hide
import Derived.Deep.CutRange
import Derived.Deep.CutBlock
import Derived.Outline
import Derived.Test.YtcnebdjhhfnmoaaGreatDoorL01
set_option maxHeartbeats 32000000
set_option maxRecDepth 100000
namespace Go.Proofs.YtcnebdjhhfnmoaaGreatDoor.Ir
open Go.Shelf Go.RowKit Go.Lib Go.Sort
variable {α:Type} [Inhabited α]
structure PF (P:Program)(k:Nat):Prop where
 mixed:P.follows .mixedOrders=true
 t3:P.underlying 3=some (TypeDesc.int IntKind.i64)
 a3:∀w,(isAgg 3).run P w=.ok false w
 z3:∀w,(Go.sizeOf 3).run P w=.ok 1 w
 v3:∀w,(zeroValue 3).run P w=.ok (Value.int IntKind.i64 0) w
 t4:P.underlying 4=some (TypeDesc.bool)
 a4:∀w,(isAgg 4).run P w=.ok false w
 z4:∀w,(Go.sizeOf 4).run P w=.ok 1 w
 v4:∀w,(zeroValue 4).run P w=.ok (Value.bool false) w
 t22:P.underlying 24=some (TypeDesc.slice 86)
 a22:∀w,(isAgg 24).run P w=.ok false w
 z22:∀w,(Go.sizeOf 24).run P w=.ok 1 w
 v22:∀w,(zeroValue 24).run P w=.ok (Value.slice none 0 0) w
 t25:P.underlying 163=some (TypeDesc.func #[86,86] #[3] false)
 a25:∀w,(isAgg 163).run P w=.ok false w
 z25:∀w,(Go.sizeOf 163).run P w=.ok 1 w
 v25:∀w,(zeroValue 163).run P w=.ok (Value.nilFunc) w
 tu:P.underlying 235=some (TypeDesc.int IntKind.u64)
 au:∀w,(isAgg 235).run P w=.ok false w
 zu:∀w,(Go.sizeOf 235).run P w=.ok 1 w
 vu:∀w,(zeroValue 235).run P w=.ok (Value.int IntKind.u64 0) w
 aE:∀w,(isAgg 86).run P w=.ok true w
 zE:∀w,(Go.sizeOf 86).run P w=.ok k w
 fSW:P.funcs[179]?=some Tryz.f179
 fRO:P.funcs[164]?=some Tryz.f164
 fSY:P.funcs[137]?=some Tryz.f137
 fST:P.funcs[100]?=some Tryz.f100
theorem pf_prog:PF Tryz.prog 3:=
 ⟨by kernel_rfl,Tryz.underlying3,Tryz.isAgg3,Tryz.sizeOf3,Tryz.zeroValue3,Tryz.underlying4,Tryz.isAgg4,Tryz.sizeOf4,Tryz.zeroValue4,Tryz.underlying24,Tryz.isAgg24,Tryz.sizeOf24,Tryz.zeroValue24,
  Tryz.underlying163,Tryz.isAgg163,Tryz.sizeOf163,Tryz.zeroValue163,Tryz.underlying235,Tryz.isAgg235,Tryz.sizeOf235,Tryz.zeroValue235,Tryz.isAgg86,Tryz.sizeOf86,Tryz.func179,Tryz.func164,Tryz.func137,Tryz.func100⟩
theorem swapRange_any (P:Program)(k:Nat)(L:PF P k)(enc:α→List Value)(blk off cap:Nat)(gv:Value)(d0 d:Array α)(w0 w:World)(R:RowK enc k w0 blk off d0)(hs:d0.size=d.size)(S:SWK enc k w0 blk off d w)(hsz:d.size<4611686018427387904)(a b n:Nat)(hab:a+n≤b)(hb:b+n≤d.size) :
  Calls P 179 #[.slice (some ⟨blk,off,none⟩) d.size cap,.int .i64 a,.int .i64 b,.int .i64 n,gv] w fun e w'=>e=.returned (.tuple #[])∧∃d':Array α,d'.toList=swF d.toList a b n d.size∧SWK enc k w0 blk off d' w':=by
 have mixed:=L.mixed;have t3:=L.t3;have a3:=L.a3;have z3:=L.z3;have v3:=L.v3;have t4:=L.t4;have a4:=L.a4;have z4:=L.z4;have v4:=L.v4;have t22:=L.t22;have a22:=L.a22;have z22:=L.z22;have v22:=L.v22;have t25:=L.t25;have a25:=L.a25;have z25:=L.z25;have v25:=L.v25;have aE:=L.aE;have zE:=L.zE
 have S0:Aside (SWK enc k w0 blk off d w):=S
 clear S
 go_enter L.fSW,Tryz.ntmps179
 go_wp2
 go_loopg [10] n (fun kx s8 wr=>∃(i:Nat) (dk:Array α),s8=.int .i64 i∧i+kx=n∧dk.size=d.size∧Aside (SWK enc k w0 blk off dk wr)∧Hid (dk.toList=swF d.toList a b i d.size))
 case atStart=>exact ⟨0,d,rfl,by omega,rfl,S0,qd (swF_zero d (by omega) (by omega)).symm⟩
 case round=>
  clear S0
  obtain ⟨i,dk,rfl,hi,hds,S1,HE⟩:=hrel
  by_cases hlt:i<n
  ·have hltz:(i:Int)<(n:Int):=by omega
   go_wp2_with fail
   have ea3:((a:Int)+(i:Int)).toNat=a+i:=by omega
   have pa3:(0:Int)≤(a:Int)+(i:Int):=by omega
   have ba3:(a:Int)+(i:Int)<(d.size:Int):=by omega
   have ra3:IntKind.i64.wrap ((a:Int)+(i:Int))=(a:Int)+(i:Int):=by rw [IntKind.wrap_i64];omega
   have ec3:((b:Int)+(i:Int)).toNat=b+i:=by omega
   have pc3:(0:Int)≤(b:Int)+(i:Int):=by omega
   have bc3:(b:Int)+(i:Int)<(d.size:Int):=by omega
   have rc3:IntKind.i64.wrap ((b:Int)+(i:Int))=(b:Int)+(i:Int):=by rw [IntKind.wrap_i64];omega
   have S2:Aside (SWK enc k w0 blk off (swp dk (a+i) (b+i)) ((wr.drew.setCells blk (off+(a+i)*k) (enc dk[b+i]!)).setCells blk (off+(b+i)*k) (enc dk[a+i]!))):=S1.out.swapped R (a+i) (b+i) (by omega) (by omega)
   have l3a:=S1.out.ld1 R (by omega) P (a+i) (by omega)
   have l3b:=S1.out.ld1 R (by omega) P (b+i) (by omega)
   have s3a:=S1.out.st1 R (by omega) P (a+i) (by omega) dk[b+i]!
   have s3b:=S1.out.st2 R (by omega) P (a+i) (b+i) (by omega) (by omega) dk[b+i]! dk[a+i]!
   have n3a:(enc dk[a+i]!).length=k:=R.hk _
   have n3b:(enc dk[b+i]!).length=k:=R.hk _
   generalize enc dk[a+i]! = cI3 at S2 l3a s3b n3a
   generalize enc dk[b+i]! = cJ3 at S2 l3b s3a s3b n3b
   clear S1
   go_wp2_with fail
   go_big_region_o
   clear l3a l3b s3a s3b
   generalize (wr.drew.setCells blk (off+(a+i)*k) cJ3).setCells blk (off+(b+i)*k) cI3=w2 at S2 ⊢
   go_wp2
   go_roundg (n-(i+1))
   case measure=>omega
   case rel=>exact ⟨i+1,swp dk (a+i) (b+i),by go_num,by omega,by rw [size_swp];exact hds,S2,qd (swF_step HE.out (by omega) (by omega))⟩
  ·have hltz:¬(i:Int)<(n:Int):=by omega
   go_wp2
   go_end0
   obtain rfl:i=n:=by omega
   exact ⟨rfl,dk,HE.out,S1.out⟩
theorem rotate_any (P:Program)(k:Nat)(L:PF P k)(enc:α→List Value)(blk off cap:Nat)(gv:Value)(d0 d:Array α)(w0 w:World)(R:RowK enc k w0 blk off d0)(hs:d0.size=d.size)(S:SWK enc k w0 blk off d w)(hsz:d.size<4611686018427387904)(a m b:Nat)(ham:a<m)(hmb:m<b)(hb:b≤d.size) :
  Calls P 164 #[.slice (some ⟨blk,off,none⟩) d.size cap,.int .i64 a,.int .i64 m,.int .i64 b,gv] w fun e w'=>e=.returned (.tuple #[])∧∃d':Array α,d'.toList=rotF d.toList a m b d.size∧SWK enc k w0 blk off d' w':=by
 have mixed:=L.mixed;have t3:=L.t3;have a3:=L.a3;have z3:=L.z3;have v3:=L.v3;have t4:=L.t4;have a4:=L.a4;have z4:=L.z4;have v4:=L.v4;have t22:=L.t22;have a22:=L.a22;have z22:=L.z22;have v22:=L.v22;have t25:=L.t25;have a25:=L.a25;have z25:=L.z25;have v25:=L.v25;have aE:=L.aE;have zE:=L.zE
 have S0:Aside (SWK enc k w0 blk off d w):=S
 have HR:=qd R
 clear S
 have e63:∀args w,(callFunc 179 args).run P w=.ok (.enter 179 args) w:=enters_of L.fSW (by kernel_rfl) rfl
 go_enter L.fRO,Tryz.ntmps164
 go_wp2
 go_loopg [10,11] (b-a) (fun kx s10 s11 wr=>∃(i j:Nat) (dk:Array α),s10=.int .i64 i∧s11=.int .i64 j∧1≤i∧1≤j∧i≤m∧m+j≤d.size∧i+j≤kx∧dk.size=d.size∧Aside (SWK enc k w0 blk off dk wr)∧Hid (rotF dk.toList (m-i) m (m+j) d.size=rotF d.toList a m b d.size))
 case atStart=>exact ⟨m-a,b-m,d,by congr 1;omega,by congr 1;omega,by omega,by omega,by omega,by omega,by omega,rfl,S0,qd (by rw [show m-(m-a)=a from by omega,show m+(b-m)=b from by omega])⟩
 case round=>
  clear S0
  obtain ⟨i,j,dk,rfl,rfl,hi,hj,him,hmj,hkx,hds,S1,HE⟩:=hrel
  have HD:=qd hds
  clear hds
  by_cases hij:i=j
  ·have hcall:=swapRange_any P k L enc blk off cap gv d0 dk w0 wr HR.out (by rw [HD.out];exact hs) S1.out (by rw [HD.out];exact hsz) (m-i) m i (by omega) (by rw [HD.out];omega)
   rw [HD.out,show ((m-i:Nat):Int)=(m:Int)-(i:Int) by omega] at hcall
   have g1:((i:Int) != (j:Int))=false:=by simp [hij]
   have HIJ:=qd hij
   clear hij S1
   go_wp2_with (go_at_fn 179;refine hcall.mono ?_;rintro e w1 ⟨rfl,d',hd',S2⟩)
   go_end0
   have hd2:d'.toList=swF dk.toList (m-i) m i dk.size:=by rw [HD.out];exact hd'
   obtain ⟨_,q2⟩:=rot_end him (by rw [HD.out];have:=HIJ.out;omega) hd2
   exact ⟨rfl,d',by rw [q2,HD.out,←HE.out,HIJ.out],S2⟩
  ·have g1:((i:Int) != (j:Int))=true:=by simp;omega
   by_cases hlt:j<i
   ·have hltz:(j:Int)<(i:Int):=by omega
    have hcall:=swapRange_any P k L enc blk off cap gv d0 dk w0 wr HR.out (by rw [HD.out];exact hs) S1.out (by rw [HD.out];exact hsz) (m-i) m j (by omega) (by rw [HD.out];omega)
    rw [HD.out,show ((m-i:Nat):Int)=(m:Int)-(i:Int) by omega] at hcall
    clear S1
    go_wp2_with (go_at_fn 179;refine hcall.mono ?_;rintro e w1 ⟨rfl,d',hd',S2⟩;have HD2:=qd hd';have S2:Aside _:=S2;clear hd')
    go_roundg (i-j+j)
    case measure=>omega
    case rel=>
     have hd2:d'.toList=swF dk.toList (m-i) m j dk.size:=by rw [HD.out];exact HD2.out
     obtain ⟨q1,q2⟩:=rot_more hlt him (by rw [HD.out];omega) hd2
     rw [HD.out] at q1 q2
     exact ⟨i-j,j,d',by congr 1;omega,rfl,by omega,hj,by omega,hmj,by omega,q1,S2,qd (q2.trans HE.out)⟩
   ·have hltz:¬(j:Int)<(i:Int):=by omega
    have hcall:=swapRange_any P k L enc blk off cap gv d0 dk w0 wr HR.out (by rw [HD.out];exact hs) S1.out (by rw [HD.out];exact hsz) (m-i) (m+j-i) i (by omega) (by rw [HD.out];omega)
    rw [HD.out,show ((m-i:Nat):Int)=(m:Int)-(i:Int) by omega,show ((m+j-i:Nat):Int)=(m:Int)+(j:Int)-(i:Int) by omega] at hcall
    clear S1
    go_wp2_with (go_at_fn 179;refine hcall.mono ?_;rintro e w1 ⟨rfl,d',hd',S2⟩;have HD2:=qd hd';have S2:Aside _:=S2;clear hd')
    go_roundg (i+(j-i))
    case measure=>omega
    case rel=>
     have hd2:d'.toList=swF dk.toList (m-i) (m+j-i) i dk.size:=by rw [HD.out];exact HD2.out
     obtain ⟨q1,q2⟩:=rot_less (show i<j by omega) him (by rw [HD.out];omega) hd2
     rw [HD.out] at q1 q2
     exact ⟨i,j-i,d',rfl,by congr 1;omega,hi,by omega,him,by omega,by omega,q1,S2,qd (q2.trans HE.out)⟩
theorem symMerge_any (P:Program)(k:Nat)(L:PF P k)(enc:α→List Value)(cf:α→α→Int)(hO:SWO (ltOf cf))(g:Nat)(cb:Array Value)(blk off cap:Nat)(d0:Array α)(w0:World)(eg:∀args w,(callFunc g args).run P w=.ok (.enter g args) w)(hcmp:CmpLays P g cb enc k cf blk off d0.size w0)(R:RowK enc k w0 blk off d0) :
  ∀(N a m b:Nat) (d:Array α) (w:World),b-a<N→d0.size=d.size→SWK enc k w0 blk off d w→a<m→m<b→b≤d.size→d.size<4611686018427387904→SortedIn (ltOf cf) a m d→SortedIn (ltOf cf) m b d →
  Calls P 137 #[.slice (some ⟨blk,off,none⟩) d.size cap,.int .i64 a,.int .i64 m,.int .i64 b,.func (.func g) #[] cb] w fun e w'=>e=.returned (.tuple #[])∧∃d':Array α,Moved (ltOf cf) a b d d'∧SortedIn (ltOf cf) a b d'∧SWK enc k w0 blk off d' w':=by
 have mixed:=L.mixed;have t3:=L.t3;have a3:=L.a3;have z3:=L.z3;have v3:=L.v3;have t4:=L.t4;have a4:=L.a4;have z4:=L.z4;have v4:=L.v4;have t22:=L.t22;have a22:=L.a22;have z22:=L.z22;have v22:=L.v22;have t25:=L.t25;have a25:=L.a25;have z25:=L.z25;have v25:=L.v25;have aE:=L.aE;have zE:=L.zE
 have tu:=L.tu;have au:=L.au;have zu:=L.zu;have vu:=L.vu
 have HC:Aside _:=hcmp
 clear hcmp
 have e62:∀args w,(callFunc 164 args).run P w=.ok (.enter 164 args) w:=enters_of L.fRO (by kernel_rfl) rfl
 have e58:∀args w,(callFunc 137 args).run P w=.ok (.enter 137 args) w:=enters_of L.fSY (by kernel_rfl) rfl
 intro N
 induction N with
 | zero=>intro _ _ _ _ _ h;exact absurd h (Nat.not_lt_zero _)
 | succ N ih=>
  intro a m b d w hN hs S ham hmb hb hsz hu hv
  have S0:Aside (SWK enc k w0 blk off d w):=S
  have HU:=qd hu
  have HV:=qd hv
  clear S hu hv
  by_cases h1:m=a+1
  ·have HM:=qd h1
   have g1:((m:Int)-(a:Int)==1)=true:=by rw [beq_iff_eq];omega
   have hma:a<m∧m≤a+1:=by omega
   clear h1 ih
   go_enter L.fSY,Tryz.ntmps137
   go_wp2_with fail
   go_loopg [10,11] (b-m) (fun kx s1 s2 wr=>∃(ii jj:Nat),s1=.int .i64 ii∧s2=.int .i64 jj∧m≤ii∧ii≤jj∧jj≤b∧jj-ii≤kx∧Aside (SWK enc k w0 blk off d wr)∧Hid ((∀q,m≤q→q<ii→ltOf cf d[q]! d[a]! = true)∧(∀q,jj≤q→q<b→ltOf cf d[q]! d[a]! = false)))
   case atStart=>exact ⟨m,b,rfl,rfl,Nat.le_refl _,by omega,Nat.le_refl _,Nat.le_refl _,S0,qd ⟨fun q h1 h2=>by omega,fun q h1 h2=>by omega⟩⟩
   case round=>
    clear S0
    obtain ⟨ii,jj,rfl,rfl,hii,hij,hjj,hkx,S1,HI⟩:=hrel
    by_cases hlt:ii<jj
    ·have hltz:(ii:Int)<(jj:Int):=by omega
     obtain ⟨hh,hhe⟩:∃q,q=(ii+jj) / 2:=⟨_,rfl⟩
     have zh:((ii:Int)+(jj:Int)) / 2=(hh:Int):=by omega
     have hh1:ii≤hh∧hh<jj:=by omega
     clear hhe
     go_upto_region 5 with fail
     cases hL:ltOf cf d[hh]! d[a]! with
      | true=>
       have ea5:((hh:Int)).toNat=hh:=by omega
       have pa5:(0:Int)≤(hh:Int):=by omega
       have ba5:(hh:Int)<(d.size:Int):=by omega
       have ra5:IntKind.i64.wrap ((hh:Int))=(hh:Int):=by rw [IntKind.wrap_i64];omega
       have ec5:((a:Int)).toNat=a:=by omega
       have pc5:(0:Int)≤(a:Int):=by omega
       have bc5:(a:Int)<(d.size:Int):=by omega
       have rc5:IntKind.i64.wrap ((a:Int))=(a:Int):=by rw [IntKind.wrap_i64];omega
       obtain ⟨x5,hx5⟩:∃x,x=d[hh]!:=⟨_,rfl⟩
       obtain ⟨y5,hy5⟩:∃x,x=d[a]!:=⟨_,rfl⟩
       have l5a:=S1.out.ld R (by omega) P (hh) (by omega)
       have l5b:=S1.out.ld R (by omega) P (a) (by omega)
       rw [←hx5] at l5a
       rw [←hy5] at l5b
       have hc5:=S1.out.cmp HC.out (by omega) x5 y5
       have hv5:cf x5 y5<0:=by rw [hx5,hy5];exact of_decide_eq_true hL
       have hd5:decide (cf x5 y5<0)=true:=decide_eq_true hv5
       have HL:=qd hL
       clear hx5 hy5 hL
       go_wp2_with fail
       go_quiet_grown (first|(go_at_fn g;refine Calls.grown_of (hc5 _ _)))
       have S2:Aside (SWK enc k w0 blk off d (grow (wr.drewN nq) osq)):=S1.out.grown nq osq
       clear l5a l5b hc5 S1
       generalize grow (wr.drewN nq) osq=w2 at S2 ⊢
       clear nq osq
       go_wp2
       go_roundg (jj-(hh+1))
       case measure=>omega
       case rel=>exact ⟨hh+1,jj,by go_num,rfl,by omega,by omega,by omega,Nat.le_refl _,S2,qd ⟨s1_up hO HV.out (by omega) HL.out,HI.out.2⟩⟩
      | false=>
       have ea5:((hh:Int)).toNat=hh:=by omega
       have pa5:(0:Int)≤(hh:Int):=by omega
       have ba5:(hh:Int)<(d.size:Int):=by omega
       have ra5:IntKind.i64.wrap ((hh:Int))=(hh:Int):=by rw [IntKind.wrap_i64];omega
       have ec5:((a:Int)).toNat=a:=by omega
       have pc5:(0:Int)≤(a:Int):=by omega
       have bc5:(a:Int)<(d.size:Int):=by omega
       have rc5:IntKind.i64.wrap ((a:Int))=(a:Int):=by rw [IntKind.wrap_i64];omega
       obtain ⟨x5,hx5⟩:∃x,x=d[hh]!:=⟨_,rfl⟩
       obtain ⟨y5,hy5⟩:∃x,x=d[a]!:=⟨_,rfl⟩
       have l5a:=S1.out.ld R (by omega) P (hh) (by omega)
       have l5b:=S1.out.ld R (by omega) P (a) (by omega)
       rw [←hx5] at l5a
       rw [←hy5] at l5b
       have hc5:=S1.out.cmp HC.out (by omega) x5 y5
       have hv5:¬cf x5 y5<0:=by rw [hx5,hy5];exact of_decide_eq_false hL
       have hd5:decide (cf x5 y5<0)=false:=decide_eq_false hv5
       have HL:=qd hL
       clear hx5 hy5 hL
       go_wp2_with fail
       go_quiet_grown (first|(go_at_fn g;refine Calls.grown_of (hc5 _ _)))
       have S2:Aside (SWK enc k w0 blk off d (grow (wr.drewN nq) osq)):=S1.out.grown nq osq
       clear l5a l5b hc5 S1
       generalize grow (wr.drewN nq) osq=w2 at S2 ⊢
       clear nq osq
       go_wp2
       go_roundg (hh-ii)
       case measure=>omega
       case rel=>exact ⟨ii,hh,rfl,rfl,by omega,by omega,by omega,Nat.le_refl _,S2,qd ⟨HI.out.1,s1_dn hO HV.out (by omega) HL.out⟩⟩
    ·have hltz:¬(ii:Int)<(jj:Int):=by omega
     obtain rfl:ii=jj:=by omega
     clear hkx hij hlt
     go_wp2
     go_loopg [13] (ii-1-a) (fun kx s wr=>∃(q:Nat) (dk:Array α),s=.int .i64 q∧a≤q∧q≤ii-1∧ii-1-q≤kx∧dk.size=d.size∧Aside (SWK enc k w0 blk off dk wr)∧Hid (dk.toList=seg d.toList 0 a++(seg d.toList (a+1) (q+1)++d[a]!::seg d.toList (q+1) d.size)))
     case atStart=>exact ⟨a,d,rfl,Nat.le_refl _,by omega,by omega,rfl,S1,qd (by rw [seg_nil _ (Nat.le_refl (a+1)),List.nil_append,←cons_seg (by omega) (Nat.le_refl _),←seg_split _ (Nat.zero_le _) (by omega),arr_all])⟩
     case round=>
      clear S1
      obtain ⟨q,dk,rfl,hq1,hq2,hkx,hds,S1,HE⟩:=hrel
      by_cases hlt:q<ii-1
      ·have hltz:(q:Int)<(ii:Int)-1:=by omega
       go_wp2_with fail
       have ea11:((q:Int)).toNat=q:=by omega
       have pa11:(0:Int)≤(q:Int):=by omega
       have ba11:(q:Int)<(d.size:Int):=by omega
       have ra11:IntKind.i64.wrap ((q:Int))=(q:Int):=by rw [IntKind.wrap_i64];omega
       have ec11:((q:Int)+1).toNat=q+1:=by omega
       have pc11:(0:Int)≤(q:Int)+1:=by omega
       have bc11:(q:Int)+1<(d.size:Int):=by omega
       have rc11:IntKind.i64.wrap ((q:Int)+1)=(q:Int)+1:=by rw [IntKind.wrap_i64];omega
       have S2:Aside (SWK enc k w0 blk off (swp dk (q) (q+1)) ((wr.drew.setCells blk (off+(q)*k) (enc dk[q+1]!)).setCells blk (off+(q+1)*k) (enc dk[q]!))):=S1.out.swapped R (q) (q+1) (by omega) (by omega)
       have l11a:=S1.out.ld1 R (by omega) P (q) (by omega)
       have l11b:=S1.out.ld1 R (by omega) P (q+1) (by omega)
       have s11a:=S1.out.st1 R (by omega) P (q) (by omega) dk[q+1]!
       have s11b:=S1.out.st2 R (by omega) P (q) (q+1) (by omega) (by omega) dk[q+1]! dk[q]!
       have n11a:(enc dk[q]!).length=k:=R.hk _
       have n11b:(enc dk[q+1]!).length=k:=R.hk _
       generalize enc dk[q]! = cI11 at S2 l11a s11b n11a
       generalize enc dk[q+1]! = cJ11 at S2 l11b s11a s11b n11b
       clear S1
       go_wp2_with fail
       go_big_region_o
       clear l11a l11b s11a s11b
       generalize (wr.drew.setCells blk (off+(q)*k) cJ11).setCells blk (off+(q+1)*k) cI11=w2 at S2 ⊢
       go_wp2
       go_roundg (ii-1-(q+1))
       case measure=>omega
       case rel=>exact ⟨q+1,swp dk q (q+1),by go_num,by omega,by omega,Nat.le_refl _,by rw [size_swp];exact hds,S2,qd (right_step HE.out hq1 (by omega))⟩
      ·have hltz:¬(q:Int)<(ii:Int)-1:=by omega
       go_wp2
       (try simp only [Exit.inBlock,Exit.then]);refine bodyPost_ret (results_none rfl _ _ _) rfl ?_
       obtain ⟨q1,q2⟩:=merge_left (lt:=ltOf cf) (d:=d) (d':=dk) (a:=a) (b:=b) (i:=ii) hO (by rw [←HM.out];exact HV.out) (by have:=HM.out;omega) hjj hb (by have:=HM.out;rw [this] at HI;exact HI.out.1) HI.out.2 (by have:=HE.out;rw [show q+1=ii from by have:=HM.out;omega] at this;exact this)
       exact ⟨rfl,dk,q1,q2,S1⟩
  ·have g1:((m:Int)-(a:Int)==1)=false:=by rw [beq_eq_false_iff_ne];omega
   have hma:a+1<m:=by omega
   clear h1
   by_cases h2:b=m+1
   ·have HM:=qd h2
    have g2:((b:Int)-(m:Int)==1)=true:=by rw [beq_iff_eq];omega
    have hmb2:m+1≤b∧b≤m+1:=by omega
    clear h2 ih
    go_enter L.fSY,Tryz.ntmps137
    go_wp2_with fail
    go_loopg [14,15] (m-a) (fun kx s1 s2 wr=>∃(ii jj:Nat),s1=.int .i64 ii∧s2=.int .i64 jj∧a≤ii∧ii≤jj∧jj≤m∧jj-ii≤kx∧Aside (SWK enc k w0 blk off d wr)∧Hid ((∀q,a≤q→q<ii→ltOf cf d[m]! d[q]! = false)∧(∀q,jj≤q→q<m→ltOf cf d[m]! d[q]! = true)))
    case atStart=>exact ⟨a,m,rfl,rfl,Nat.le_refl _,by omega,Nat.le_refl _,Nat.le_refl _,S0,qd ⟨fun q h1 h2=>by omega,fun q h1 h2=>by omega⟩⟩
    case round=>
     clear S0
     obtain ⟨ii,jj,rfl,rfl,hii,hij,hjj,hkx,S1,HI⟩:=hrel
     by_cases hlt:ii<jj
     ·have hltz:(ii:Int)<(jj:Int):=by omega
      obtain ⟨hh,hhe⟩:∃q,q=(ii+jj) / 2:=⟨_,rfl⟩
      have zh:((ii:Int)+(jj:Int)) / 2=(hh:Int):=by omega
      have hh1:ii≤hh∧hh<jj:=by omega
      clear hhe
      go_upto_region 17 with fail
      cases hL:ltOf cf d[m]! d[hh]! with
       | true=>
        have ea17:((m:Int)).toNat=m:=by omega
        have pa17:(0:Int)≤(m:Int):=by omega
        have ba17:(m:Int)<(d.size:Int):=by omega
        have ra17:IntKind.i64.wrap ((m:Int))=(m:Int):=by rw [IntKind.wrap_i64];omega
        have ec17:((hh:Int)).toNat=hh:=by omega
        have pc17:(0:Int)≤(hh:Int):=by omega
        have bc17:(hh:Int)<(d.size:Int):=by omega
        have rc17:IntKind.i64.wrap ((hh:Int))=(hh:Int):=by rw [IntKind.wrap_i64];omega
        obtain ⟨x17,hx17⟩:∃x,x=d[m]!:=⟨_,rfl⟩
        obtain ⟨y17,hy17⟩:∃x,x=d[hh]!:=⟨_,rfl⟩
        have l17a:=S1.out.ld R (by omega) P (m) (by omega)
        have l17b:=S1.out.ld R (by omega) P (hh) (by omega)
        rw [←hx17] at l17a
        rw [←hy17] at l17b
        have hc17:=S1.out.cmp HC.out (by omega) x17 y17
        have hv17:cf x17 y17<0:=by rw [hx17,hy17];exact of_decide_eq_true hL
        have hd17:decide (cf x17 y17<0)=true:=decide_eq_true hv17
        have HL:=qd hL
        clear hx17 hy17 hL
        go_wp2_with fail
        go_quiet_grown (first|(go_at_fn g;refine Calls.grown_of (hc17 _ _)))
        have S2:Aside (SWK enc k w0 blk off d (grow (wr.drewN nq) osq)):=S1.out.grown nq osq
        clear l17a l17b hc17 S1
        generalize grow (wr.drewN nq) osq=w2 at S2 ⊢
        clear nq osq
        go_wp2
        go_roundg (hh-ii)
        case measure=>omega
        case rel=>exact ⟨ii,hh,rfl,rfl,by omega,by omega,by omega,Nat.le_refl _,S2,qd ⟨HI.out.1,s2_dn hO HU.out (by omega) HL.out⟩⟩
       | false=>
        have ea17:((m:Int)).toNat=m:=by omega
        have pa17:(0:Int)≤(m:Int):=by omega
        have ba17:(m:Int)<(d.size:Int):=by omega
        have ra17:IntKind.i64.wrap ((m:Int))=(m:Int):=by rw [IntKind.wrap_i64];omega
        have ec17:((hh:Int)).toNat=hh:=by omega
        have pc17:(0:Int)≤(hh:Int):=by omega
        have bc17:(hh:Int)<(d.size:Int):=by omega
        have rc17:IntKind.i64.wrap ((hh:Int))=(hh:Int):=by rw [IntKind.wrap_i64];omega
        obtain ⟨x17,hx17⟩:∃x,x=d[m]!:=⟨_,rfl⟩
        obtain ⟨y17,hy17⟩:∃x,x=d[hh]!:=⟨_,rfl⟩
        have l17a:=S1.out.ld R (by omega) P (m) (by omega)
        have l17b:=S1.out.ld R (by omega) P (hh) (by omega)
        rw [←hx17] at l17a
        rw [←hy17] at l17b
        have hc17:=S1.out.cmp HC.out (by omega) x17 y17
        have hv17:¬cf x17 y17<0:=by rw [hx17,hy17];exact of_decide_eq_false hL
        have hd17:decide (cf x17 y17<0)=false:=decide_eq_false hv17
        have HL:=qd hL
        clear hx17 hy17 hL
        go_wp2_with fail
        go_quiet_grown (first|(go_at_fn g;refine Calls.grown_of (hc17 _ _)))
        have S2:Aside (SWK enc k w0 blk off d (grow (wr.drewN nq) osq)):=S1.out.grown nq osq
        clear l17a l17b hc17 S1
        generalize grow (wr.drewN nq) osq=w2 at S2 ⊢
        clear nq osq
        go_wp2
        go_roundg (jj-(hh+1))
        case measure=>omega
        case rel=>exact ⟨hh+1,jj,by go_num,rfl,by omega,by omega,by omega,Nat.le_refl _,S2,qd ⟨s2_up hO HU.out (by omega) HL.out,HI.out.2⟩⟩
     ·have hltz:¬(ii:Int)<(jj:Int):=by omega
      obtain rfl:ii=jj:=by omega
      clear hkx hij hlt
      go_wp2
      go_loopg [17] (m-ii) (fun kx s wr=>∃(q:Nat) (dk:Array α),s=.int .i64 q∧ii≤q∧q≤m∧q-ii≤kx∧dk.size=d.size∧Aside (SWK enc k w0 blk off dk wr)∧Hid (dk.toList=seg d.toList 0 q++d[m]!::(seg d.toList q m++seg d.toList (m+1) d.size)))
      case atStart=>exact ⟨m,d,rfl,by omega,Nat.le_refl _,Nat.le_refl _,rfl,S1,qd (by rw [seg_nil _ (Nat.le_refl m),List.nil_append,←cons_seg (by omega) (Nat.le_refl _),←seg_split _ (Nat.zero_le _) (by omega),arr_all])⟩
      case round=>
       clear S1
       obtain ⟨q,dk,rfl,hq1,hq2,hkx,hds,S1,HE⟩:=hrel
       by_cases hlt:ii<q
       ·have hltz:(ii:Int)<(q:Int):=by omega
        obtain ⟨qp,rfl⟩:∃qp,q=qp+1:=⟨q-1,by omega⟩
        have eqp:(((qp+1:Nat):Int))=(qp:Int)+1:=by omega
        have hltz:(ii:Int)<(qp:Int)+1:=by omega
        go_wp2_with fail
        have ea23:((qp:Int)+1).toNat=qp+1:=by omega
        have pa23:(0:Int)≤(qp:Int)+1:=by omega
        have ba23:(qp:Int)+1<(d.size:Int):=by omega
        have ra23:IntKind.i64.wrap ((qp:Int)+1)=(qp:Int)+1:=by rw [IntKind.wrap_i64];omega
        have ec23:((qp:Int)).toNat=qp:=by omega
        have pc23:(0:Int)≤(qp:Int):=by omega
        have bc23:(qp:Int)<(d.size:Int):=by omega
        have rc23:IntKind.i64.wrap ((qp:Int))=(qp:Int):=by rw [IntKind.wrap_i64];omega
        have S2:Aside (SWK enc k w0 blk off (swp dk (qp+1) (qp)) ((wr.drew.setCells blk (off+(qp+1)*k) (enc dk[qp]!)).setCells blk (off+(qp)*k) (enc dk[qp+1]!))):=S1.out.swapped R (qp+1) (qp) (by omega) (by omega)
        have l23a:=S1.out.ld1 R (by omega) P (qp+1) (by omega)
        have l23b:=S1.out.ld1 R (by omega) P (qp) (by omega)
        have s23a:=S1.out.st1 R (by omega) P (qp+1) (by omega) dk[qp]!
        have s23b:=S1.out.st2 R (by omega) P (qp+1) (qp) (by omega) (by omega) dk[qp]! dk[qp+1]!
        have n23a:(enc dk[qp+1]!).length=k:=R.hk _
        have n23b:(enc dk[qp]!).length=k:=R.hk _
        generalize enc dk[qp+1]! = cI23 at S2 l23a s23b n23a
        generalize enc dk[qp]! = cJ23 at S2 l23b s23a s23b n23b
        clear S1
        go_wp2_with fail
        go_big_region_o
        clear l23a l23b s23a s23b
        generalize (wr.drew.setCells blk (off+(qp+1)*k) cJ23).setCells blk (off+(qp)*k) cI23=w2 at S2 ⊢
        go_wp2
        go_roundg (qp-ii)
        case measure=>omega
        case rel=>exact ⟨qp,swp dk (qp+1) qp,by go_num,by omega,by omega,Nat.le_refl _,by rw [size_swp];exact hds,S2,qd (left_step HE.out hq2 (by omega))⟩
       ·have hltz:¬(ii:Int)<(q:Int):=by omega
        go_wp2
        (try simp only [Exit.inBlock,Exit.then]);refine bodyPost_ret (results_none rfl _ _ _) rfl ?_
        obtain ⟨q1,q2⟩:=merge_right (lt:=ltOf cf) (d:=d) (d':=dk) (a:=a) (m:=m) (i:=ii) hO HU.out hii hjj (by omega) HI.out.1 HI.out.2 (by have:=HE.out;rw [show q=ii from by omega] at this;exact this)
        rw [←HM.out] at q1 q2
        exact ⟨rfl,dk,q1,q2,S1⟩
   ·have g2:((b:Int)-(m:Int)==1)=false:=by rw [beq_eq_false_iff_ne];omega
    have hmb2:m+1<b:=by omega
    clear h2
    obtain ⟨mid,hmid⟩:∃q,q=(a+b) / 2:=⟨_,rfl⟩
    have zmid:((a:Int)+(b:Int)) / 2=(mid:Int):=by omega
    have mb1:a+b≤2*mid+1:=by omega
    have mb2:2*mid≤a+b:=by omega
    have HMid:=qd hmid
    clear hmid
    go_enter L.fSY,Tryz.ntmps137
    go_upto_if 140 with fail
    go_cut [20,21] from 138 to 146 (fun s20 s21 wc=>∃(s0 r0:Nat),s20=.int .i64 s0∧s21=.int .i64 r0∧a≤s0∧s0≤r0∧r0≤m∧r0≤mid∧m+r0≤mid+m∧mid+m≤s0+b∧Hid (mid<m∧s0=mid+m-b∧r0=mid∨m≤mid∧s0=a∧r0=m)∧Aside (SWK enc k w0 blk off d wc))
    case first=>
     by_cases h3:mid<m
     ·have h3z:(mid:Int)<(m:Int):=by omega
      go_wp2_with fail
      go_meet
      case rel=>exact ⟨mid+m-b,mid,by congr 1;omega,rfl,by omega,by omega,by omega,by omega,by omega,by omega,qd (Or.inl ⟨h3,rfl,rfl⟩),S0⟩
     ·have h3z:¬(mid:Int)<(m:Int):=by omega
      go_wp2_with fail
      go_meet
      case rel=>exact ⟨a,m,rfl,rfl,by omega,by omega,by omega,by omega,by omega,by omega,qd (Or.inr ⟨by omega,rfl,rfl⟩),S0⟩
    case rest=>
     clear S0
     obtain ⟨s0,r0,rfl,rfl,t1,t2,t3',t4',t5,t6,HR0,S0⟩:=hcut
     rename World=>wb
     go_wp2_with fail
     go_loopg [20,21] (r0-s0) (fun kx s1 s2 wr=>∃(ii jj:Nat),s1=.int .i64 ii∧s2=.int .i64 jj∧s0≤ii∧ii≤jj∧jj≤r0∧jj-ii≤kx∧Aside (SWK enc k w0 blk off d wr)∧Hid ((∀q,s0≤q→q<ii→ltOf cf d[mid+m-1-q]! d[q]! = false)∧(∀q,jj≤q→q<r0→ltOf cf d[mid+m-1-q]! d[q]! = true)))
     case atStart=>exact ⟨s0,r0,rfl,rfl,Nat.le_refl _,by omega,Nat.le_refl _,Nat.le_refl _,S0,qd ⟨fun q h1 h2=>by omega,fun q h1 h2=>by omega⟩⟩
     case round=>
      clear S0
      obtain ⟨ii,jj,rfl,rfl,hii,hij,hjj,hkx,S1,HI⟩:=hrel
      by_cases hlt:ii<jj
      ·have hltz:(ii:Int)<(jj:Int):=by omega
       obtain ⟨hh,hhe⟩:∃q,q=(ii+jj) / 2:=⟨_,rfl⟩
       have zh:((ii:Int)+(jj:Int)) / 2=(hh:Int):=by omega
       have hh1:ii≤hh∧hh<jj:=by omega
       clear hhe
       go_upto_region 35 with fail
       obtain ⟨pp,hpp⟩:∃q,q=mid+m-1-hh:=⟨_,rfl⟩
       have zp:IntKind.i64.wrap ((mid:Int)+(m:Int)-1-(hh:Int))=(pp:Int):=by rw [IntKind.wrap_i64];omega
       have zp2:(mid:Int)+(m:Int)-1-(hh:Int)=(pp:Int):=by omega
       have pp1:m≤pp∧pp<b:=by omega
       have HPp:=qd hpp
       clear hpp
       cases hL:ltOf cf d[pp]! d[hh]! with
        | true=>
         have ea35:((pp:Int)).toNat=pp:=by omega
         have pa35:(0:Int)≤(pp:Int):=by omega
         have ba35:(pp:Int)<(d.size:Int):=by omega
         have ra35:IntKind.i64.wrap ((pp:Int))=(pp:Int):=by rw [IntKind.wrap_i64];omega
         have ec35:((hh:Int)).toNat=hh:=by omega
         have pc35:(0:Int)≤(hh:Int):=by omega
         have bc35:(hh:Int)<(d.size:Int):=by omega
         have rc35:IntKind.i64.wrap ((hh:Int))=(hh:Int):=by rw [IntKind.wrap_i64];omega
         obtain ⟨x35,hx35⟩:∃x,x=d[pp]!:=⟨_,rfl⟩
         obtain ⟨y35,hy35⟩:∃x,x=d[hh]!:=⟨_,rfl⟩
         have l35a:=S1.out.ld R (by omega) P (pp) (by omega)
         have l35b:=S1.out.ld R (by omega) P (hh) (by omega)
         rw [←hx35] at l35a
         rw [←hy35] at l35b
         have hc35:=S1.out.cmp HC.out (by omega) x35 y35
         have hv35:cf x35 y35<0:=by rw [hx35,hy35];exact of_decide_eq_true hL
         have hd35:decide (cf x35 y35<0)=true:=decide_eq_true hv35
         have HL:=qd hL
         clear hx35 hy35 hL
         go_wp2_with fail
         go_quiet_grown (first|(go_at_fn g;refine Calls.grown_of (hc35 _ _)))
         have S2:Aside (SWK enc k w0 blk off d (grow (wr.drewN nq) osq)):=S1.out.grown nq osq
         clear l35a l35b hc35 S1
         generalize grow (wr.drewN nq) osq=w2 at S2 ⊢
         clear nq osq
         go_wp2
         go_roundg (hh-ii)
         case measure=>omega
         case rel=>exact ⟨ii,hh,rfl,rfl,by omega,by omega,by omega,Nat.le_refl _,S2,qd ⟨HI.out.1,s3_dn hO HU.out HV.out (by omega) (by omega) (by omega) (by omega) (by rw [←HPp.out];exact HL.out)⟩⟩
        | false=>
         have ea35:((pp:Int)).toNat=pp:=by omega
         have pa35:(0:Int)≤(pp:Int):=by omega
         have ba35:(pp:Int)<(d.size:Int):=by omega
         have ra35:IntKind.i64.wrap ((pp:Int))=(pp:Int):=by rw [IntKind.wrap_i64];omega
         have ec35:((hh:Int)).toNat=hh:=by omega
         have pc35:(0:Int)≤(hh:Int):=by omega
         have bc35:(hh:Int)<(d.size:Int):=by omega
         have rc35:IntKind.i64.wrap ((hh:Int))=(hh:Int):=by rw [IntKind.wrap_i64];omega
         obtain ⟨x35,hx35⟩:∃x,x=d[pp]!:=⟨_,rfl⟩
         obtain ⟨y35,hy35⟩:∃x,x=d[hh]!:=⟨_,rfl⟩
         have l35a:=S1.out.ld R (by omega) P (pp) (by omega)
         have l35b:=S1.out.ld R (by omega) P (hh) (by omega)
         rw [←hx35] at l35a
         rw [←hy35] at l35b
         have hc35:=S1.out.cmp HC.out (by omega) x35 y35
         have hv35:¬cf x35 y35<0:=by rw [hx35,hy35];exact of_decide_eq_false hL
         have hd35:decide (cf x35 y35<0)=false:=decide_eq_false hv35
         have HL:=qd hL
         clear hx35 hy35 hL
         go_wp2_with fail
         go_quiet_grown (first|(go_at_fn g;refine Calls.grown_of (hc35 _ _)))
         have S2:Aside (SWK enc k w0 blk off d (grow (wr.drewN nq) osq)):=S1.out.grown nq osq
         clear l35a l35b hc35 S1
         generalize grow (wr.drewN nq) osq=w2 at S2 ⊢
         clear nq osq
         go_wp2
         go_roundg (jj-(hh+1))
         case measure=>omega
         case rel=>exact ⟨hh+1,jj,by go_num,rfl,by omega,by omega,by omega,Nat.le_refl _,S2,qd ⟨s3_up hO HU.out HV.out (by omega) (by omega) (by omega) (by omega) (by rw [←HPp.out];exact HL.out),HI.out.2⟩⟩
      ·have hltz:¬(ii:Int)<(jj:Int):=by omega
       obtain rfl:ii=jj:=by omega
       clear hkx hij hlt
       have hX:=cross (lt:=ltOf cf) hO HU.out HV.out (mid:=mid) HMid.out HR0.out hii hjj HI.out.1 HI.out.2
       have HX:=qd hX
       obtain ⟨ee,hee⟩:∃e,e=mid+m-ii:=⟨_,rfl⟩
       rw [←hee] at HX
       have hee1:ii+ee=mid+m:=by omega
       have b1:a≤ii:=by omega
       have b2:ii≤m:=by omega
       have b3:m≤ee:=by omega
       have b4:ee≤b:=by omega
       have b5:ii≤mid:=by omega
       have b6:mid≤ee:=by omega
       have zee:(mid:Int)+(m:Int)-(ii:Int)=(ee:Int):=by omega
       have Hee:=qd (show mid=ii+(ee-m) by omega)
       clear hX hee
       have hd:d.size=d.size:=rfl
       go_upto_region 39 with fail
       go_cut [185] from 178 to 184 (fun sb wc=>∃bb:Bool,sb=.bool bb∧Hid (bb=true↔ii<m∧m<ee)∧Aside (SWK enc k w0 blk off d wc))
       case first=>
        by_cases f1:ii<m
        ·have f1z:(ii:Int)<(m:Int):=by omega
         have f3:decide ((ii:Int)<(m:Int))=true:=decide_eq_true f1z
         by_cases f2:m<ee
         ·have f2z:(m:Int)<(ee:Int):=by omega
          have f4:decide ((m:Int)<(ee:Int))=true:=decide_eq_true f2z
          have HF:=qd (And.intro f1 f2)
          clear f1 f2
          go_wp2_with fail
          go_meet
          case rel=>exact ⟨true,rfl,qd ⟨fun _=>HF.out,fun _=>rfl⟩,S1⟩
         ·have f2z:¬(m:Int)<(ee:Int):=by omega
          have f4:decide ((m:Int)<(ee:Int))=false:=decide_eq_false f2z
          have HF:=qd f2
          clear f1 f2
          go_wp2_with fail
          go_meet
          case rel=>exact ⟨false,rfl,qd ⟨(fun h=>by cases h),fun h=>absurd h.2 HF.out⟩,S1⟩
        ·have f1z:¬(ii:Int)<(m:Int):=by omega
         have f3:decide ((ii:Int)<(m:Int))=false:=decide_eq_false f1z
         have HF:=qd f1
         clear f1
         go_wp2_with fail
         go_meet
         case rel=>exact ⟨false,rfl,qd ⟨(fun h=>by cases h),fun h=>absurd h.1 HF.out⟩,S1⟩
       case rest=>
        clear S1
        obtain ⟨bb,rfl,HBB,S1⟩:=hcut
        rename World=>we
        go_upto_if 185 with fail
        go_cut [] from 186 to 191 (fun wc=>∃d1:Array α,Hid (d1.toList=rotF d.toList ii m ee d.size)∧Aside (SWK enc k w0 blk off d1 wc))
        case first=>
         cases bb with
         | true=>
          have hr1:=HBB.out.1 rfl
          have hcall:=rotate_any P k L enc blk off cap (.func (.func g) #[] cb) d0 d w0 we R hs S1.out hsz ii m ee hr1.1 hr1.2 (by omega)
          clear S1 hr1
          go_wp2_with (go_at_fn 164;refine hcall.mono ?_;rintro e w1 ⟨rfl,d',hd',S2⟩;have HD2:=qd hd';have S2:Aside _:=S2;clear hd')
          go_meet
          case rel=>exact ⟨d',HD2,S2⟩
         | false=>
          have HN:=qd (rot_none d b2 b3 (by omega) (fun h=>by have:=HBB.out.2 h;cases this))
          go_wp2_with fail
          go_meet
          case rel=>exact ⟨d,HN,S1⟩
        case rest=>
         clear S1 HBB
         obtain ⟨d1,HR1,S1⟩:=hcut
         rename World=>wf
         have q0:d1.size=d.size:=(rot_parts HR1.out b2 b3 (by omega)).1
         have Q0:=qd q0
         clear q0
         go_upto_region 41 with fail
         go_cut [199] from 192 to 198 (fun sb wc=>∃bb:Bool,sb=.bool bb∧Hid (bb=true↔a<ii∧ii<mid)∧Aside (SWK enc k w0 blk off d1 wc))
         case first=>
          by_cases f1:a<ii
          ·have f1z:(a:Int)<(ii:Int):=by omega
           have f3:decide ((a:Int)<(ii:Int))=true:=decide_eq_true f1z
           by_cases f2:ii<mid
           ·have f2z:(ii:Int)<(mid:Int):=by omega
            have f4:decide ((ii:Int)<(mid:Int))=true:=decide_eq_true f2z
            have HF:=qd (And.intro f1 f2)
            clear f1 f2
            go_wp2_with fail
            go_meet
            case rel=>exact ⟨true,rfl,qd ⟨fun _=>HF.out,fun _=>rfl⟩,S1⟩
           ·have f2z:¬(ii:Int)<(mid:Int):=by omega
            have f4:decide ((ii:Int)<(mid:Int))=false:=decide_eq_false f2z
            have HF:=qd f2
            clear f1 f2
            go_wp2_with fail
            go_meet
            case rel=>exact ⟨false,rfl,qd ⟨(fun h=>by cases h),fun h=>absurd h.2 HF.out⟩,S1⟩
          ·have f1z:¬(a:Int)<(ii:Int):=by omega
           have f3:decide ((a:Int)<(ii:Int))=false:=decide_eq_false f1z
           have HF:=qd f1
           clear f1
           go_wp2_with fail
           go_meet
           case rel=>exact ⟨false,rfl,qd ⟨(fun h=>by cases h),fun h=>absurd h.1 HF.out⟩,S1⟩
         case rest=>
          clear S1
          obtain ⟨bb,rfl,HBB,S1⟩:=hcut
          rename World=>wg
          go_upto_if 199 with fail
          go_cut [] from 200 to 205 (fun wc=>∃d2:Array α,Hid (Moved (ltOf cf) a mid d1 d2)∧Hid (SortedIn (ltOf cf) a mid d2)∧Aside (SWK enc k w0 blk off d2 wc))
          case first=>
           cases bb with
           | true=>
            have hr1:=HBB.out.1 rfl
            have hv1:SortedIn (ltOf cf) a ii d1∧SortedIn (ltOf cf) ii mid d1:=rot_low HU.out HV.out HR1.out b1 b2 b3 b4 hb Hee.out
            have hcall:=ih a ii mid d1 wg (by omega) (by rw [Q0.out];exact hs) S1.out hr1.1 hr1.2 (by rw [Q0.out];omega) (by rw [Q0.out];exact hsz) hv1.1 hv1.2
            rw [Q0.out] at hcall
            clear S1 hv1 hr1
            go_wp2_with (go_at_fn 137;refine hcall.mono ?_;rintro e w1 ⟨rfl,d',hd',hd'',S2⟩;have HD2:=qd hd';have HD3:=qd hd'';have S2:Aside _:=S2;clear hd' hd'')
            go_meet
            case rel=>exact ⟨d',HD2,HD3,S2⟩
           | false=>
            have HN:=qd (half_low HU.out HV.out HR1.out b1 b2 b3 b4 hb Hee.out (fun h=>by have:=HBB.out.2 h;cases this))
            go_wp2_with fail
            go_meet
            case rel=>exact ⟨d1,qd (Moved.refl _ _ _),HN,S1⟩
          case rest=>
           clear S1 HBB
           obtain ⟨d2,HM1,HS1,S1⟩:=hcut
           rename World=>wd
           have q0:d2.size=d.size:=HM1.out.size.trans Q0.out
           have Q2:=qd q0
           clear q0
           go_upto_region 43 with fail
           go_cut [213] from 206 to 212 (fun sb wc=>∃bb:Bool,sb=.bool bb∧Hid (bb=true↔mid<ee∧ee<b)∧Aside (SWK enc k w0 blk off d2 wc))
           case first=>
            by_cases f1:mid<ee
            ·have f1z:(mid:Int)<(ee:Int):=by omega
             have f3:decide ((mid:Int)<(ee:Int))=true:=decide_eq_true f1z
             by_cases f2:ee<b
             ·have f2z:(ee:Int)<(b:Int):=by omega
              have f4:decide ((ee:Int)<(b:Int))=true:=decide_eq_true f2z
              have HF:=qd (And.intro f1 f2)
              clear f1 f2
              go_wp2_with fail
              go_meet
              case rel=>exact ⟨true,rfl,qd ⟨fun _=>HF.out,fun _=>rfl⟩,S1⟩
             ·have f2z:¬(ee:Int)<(b:Int):=by omega
              have f4:decide ((ee:Int)<(b:Int))=false:=decide_eq_false f2z
              have HF:=qd f2
              clear f1 f2
              go_wp2_with fail
              go_meet
              case rel=>exact ⟨false,rfl,qd ⟨(fun h=>by cases h),fun h=>absurd h.2 HF.out⟩,S1⟩
            ·have f1z:¬(mid:Int)<(ee:Int):=by omega
             have f3:decide ((mid:Int)<(ee:Int))=false:=decide_eq_false f1z
             have HF:=qd f1
             clear f1
             go_wp2_with fail
             go_meet
             case rel=>exact ⟨false,rfl,qd ⟨(fun h=>by cases h),fun h=>absurd h.1 HF.out⟩,S1⟩
           case rest=>
            clear S1
            obtain ⟨bb,rfl,HBB,S1⟩:=hcut
            rename World=>wi
            cases bb with
            | true=>
             have hr1:=HBB.out.1 rfl
             have hv1:SortedIn (ltOf cf) mid ee d1∧SortedIn (ltOf cf) ee b d1:=rot_high HU.out HV.out HR1.out b1 b2 b3 b4 hb Hee.out
             have hv2:=HM1.out.sorted (i:=mid) (j:=ee) (Or.inr (Nat.le_refl _)) hv1.1
             have hv3:=HM1.out.sorted (i:=ee) (j:=b) (Or.inr (by omega)) hv1.2
             have hcall:=ih mid ee b d2 wi (by omega) (by rw [Q2.out];exact hs) S1.out hr1.1 hr1.2 (by rw [Q2.out];omega) (by rw [Q2.out];exact hsz) hv2 hv3
             rw [Q2.out] at hcall
             clear S1 hv1 hv2 hv3 hr1
             go_wp2_with (go_at_fn 137;refine hcall.mono ?_;rintro e w1 ⟨rfl,d',hd',hd'',S2⟩;have HD2:=qd hd';have HD3:=qd hd'';have S2:Aside _:=S2;clear hd' hd'')
             go_end0
             obtain ⟨r1,r2⟩:=merge_two hO b1 b2 b3 b4 hb Hee.out HU.out HV.out HX.out.1 HX.out.2 HR1.out HM1.out HS1.out HD2.out HD3.out
             exact ⟨rfl,d',r1,r2,S2⟩
            | false=>
             have HN:=qd (half_high HU.out HV.out HR1.out b1 b2 b3 b4 hb Hee.out (fun h=>by have:=HBB.out.2 h;cases this))
             have HN2:=qd (HM1.out.sorted (i:=mid) (j:=b) (Or.inr (Nat.le_refl _)) HN.out)
             have HE:=qd (merge_two hO b1 b2 b3 b4 hb Hee.out HU.out HV.out HX.out.1 HX.out.2 HR1.out HM1.out HS1.out (Moved.refl _ _ _) HN2.out)
             go_wp2_with fail
             go_end0
             exact ⟨rfl,d2,HE.out.1,HE.out.2,S1⟩
theorem stable_any (P:Program)(k:Nat)(L:PF P k)(enc:α→List Value)(cf:α→α→Int)(hO:SWO (ltOf cf))(g:Nat)(cb:Array Value)(blk off cap:Nat)(d0:Array α)(w0:World)(eg:∀args w,(callFunc g args).run P w=.ok (.enter g args) w)(hcmp:CmpLays P g cb enc k cf blk off d0.size w0)(R:RowK enc k w0 blk off d0)(d:Array α)(w:World)(hs:d0.size=d.size)(S:SWK enc k w0 blk off d w)(hsz:d.size<2305843009213693952)
  (hins:∀(dk:Array α) (a b:Nat) (wk:World),dk.size=d.size→SWK enc k w0 blk off dk wk→a≤b→b≤d.size→Calls P 136 #[.slice (some ⟨blk,off,none⟩) d.size cap,.int .i64 a,.int .i64 b,.func (.func g) #[] cb] wk fun e w'=>e=.returned (.tuple #[])∧SWK enc k w0 blk off (insertionSort (ltOf cf) dk a b) w')
  (e57:∀args w,(callFunc 136 args).run P w=.ok (.enter 136 args) w) :
  Calls P 100 #[.slice (some ⟨blk,off,none⟩) d.size cap,.int .i64 d.size,.func (.func g) #[] cb] w fun e w'=>e=.returned (.tuple #[])∧∃d':Array α,Moved (ltOf cf) 0 d.size d d'∧SortedIn (ltOf cf) 0 d.size d'∧SWK enc k w0 blk off d' w':=by
 have mixed:=L.mixed;have t3:=L.t3;have a3:=L.a3;have z3:=L.z3;have v3:=L.v3;have t4:=L.t4;have a4:=L.a4;have z4:=L.z4;have v4:=L.v4;have t22:=L.t22;have a22:=L.a22;have z22:=L.z22;have v22:=L.v22;have t25:=L.t25;have a25:=L.a25;have z25:=L.z25;have v25:=L.v25;have aE:=L.aE;have zE:=L.zE
 have hsm:=symMerge_any P k L enc cf hO g cb blk off cap d0 w0 eg hcmp R
 have e58:∀args w,(callFunc 137 args).run P w=.ok (.enter 137 args) w:=enters_of L.fSY (by kernel_rfl) rfl
 obtain ⟨n,hn⟩:∃n,n=d.size:=⟨_,rfl⟩
 rw [←hn] at hsz hins ⊢
 have HN:=qd hn
 have HS:=qd hs
 have S0:Aside (SWK enc k w0 blk off d w):=S
 have HI:=qd hins
 have HSM:=qd hsm
 clear S hn hs hins hsm hcmp
 go_enter L.fST,Tryz.ntmps100
 go_wp2
 go_loopg [7,8] n (fun kx s7 s8 wr=>∃(a:Nat) (dk:Array α),s7=.int .i64 a∧s8=.int .i64 ((a:Int)+20)∧a≤n∧n-a≤kx∧Hid (dk.size=n)∧Aside (SWK enc k w0 blk off dk wr)∧Hid (Moved (ltOf cf) 0 n d dk)∧Hid (BlkT (ltOf cf) 20 a dk)∧Hid (∃q,a=q*20))
 case atStart=>exact ⟨0,d,rfl,rfl,by omega,by omega,qd HN.out.symm,S0,qd (Moved.refl _ _ _),qd (blk_zero 20 (by omega) d),qd ⟨0,by omega⟩⟩
 case round=>
  clear S0
  obtain ⟨a,dk,rfl,rfl,han,hkx,HD,S1,HM,HB,HQ⟩:=hrel
  have hins1:∀b:Nat,IntKind.i64.wrap (b:Int)=(b:Int)→a≤b→b≤n→_:=fun b _ h1 h2=>HI.out dk a b wr (by rw [HD.out,HN.out]) S1.out h1 h2
  by_cases hlt:a+20≤n
  ·have hltz:(a:Int)+20≤(n:Int):=by omega
   have hcall:=HI.out dk a (a+20) wr (by rw [HD.out,HN.out]) S1.out (by omega) hlt
   rw [show ((a+20:Nat):Int)=(a:Int)+20 by omega] at hcall
   clear S1 hins1
   go_wp2_with (go_at_fn 136;refine hcall.mono ?_;rintro e w1 ⟨rfl,S2⟩;have S2:Aside _:=S2)
   go_roundg (n-(a+20))
   case measure=>omega
   case rel=>
    have hm:=insertion_moved (lt:=ltOf cf) hO dk (a:=a) (b:=a+20) (by rw [HD.out];exact hlt)
    have hsd:=(insertionSort_holds hO dk a (a+20) (by omega) (by rw [HD.out];exact hlt)).2
    obtain ⟨q,hq⟩:=HQ.out
    exact ⟨a+20,insertionSort (ltOf cf) dk a (a+20),by congr 1,by congr 1,hlt,Nat.le_refl _,qd (hm.size.trans HD.out),S2,qd (HM.out.trans (hm.wide (Nat.zero_le _) hlt (by omega) (by rw [HD.out];exact Nat.le_refl _))),qd (blk_step hq (by omega) HB.out hm hsd),qd ⟨q+1,by omega⟩⟩
  ·have hltz:¬(a:Int)+20≤(n:Int):=by omega
   have hcall:=HI.out dk a n wr (by rw [HD.out,HN.out]) S1.out han (Nat.le_refl _)
   clear S1 hins1
   go_wp2_with (go_at_fn 136;refine hcall.mono ?_;rintro e w1 ⟨rfl,S2⟩;have S2:Aside _:=S2)
   have HB1:Hid (∃d1:Array α,d1=insertionSort (ltOf cf) dk a n∧d1.size=n∧Moved (ltOf cf) 0 n d d1∧BlkF (ltOf cf) 20 n 0 d1):=by
    have hm:=insertion_moved (lt:=ltOf cf) hO dk (a:=a) (b:=n) (by rw [HD.out];exact Nat.le_refl _)
    have hsd:=(insertionSort_holds hO dk a n han (by rw [HD.out];exact Nat.le_refl _)).2
    obtain ⟨q,hq⟩:=HQ.out
    exact qd ⟨_,rfl,hm.size.trans HD.out,HM.out.trans (hm.wide (Nat.zero_le _) (Nat.le_refl _) han (by rw [HD.out];exact Nat.le_refl _)),blk_end hq HB.out han (by omega) hm hsd⟩
   clear hcall HM HB HQ HD hltz hlt hkx han
   obtain ⟨d1,hd1,hz1,hm1,hb1⟩:=HB1.out
   have S1:Aside (SWK enc k w0 blk off d1 w1):=by rw [hd1];exact S2
   have HZ1:=qd hz1
   have HM1:=qd hm1
   have HB1:=qd hb1
   clear hd1 hz1 hm1 hb1 S2
   go_loopg [6,7,8] n (fun kx s6 s7 s8 wr=>∃(bs:Nat) (dk:Array α),s6=.int .i64 bs∧20≤bs∧bs<4611686018427387904∧n-bs≤kx∧Hid (dk.size=n)∧Aside (SWK enc k w0 blk off dk wr)∧Hid (Moved (ltOf cf) 0 n d dk)∧Hid (BlkF (ltOf cf) bs n 0 dk))
   case atStart=>exact ⟨20,d1,rfl,Nat.le_refl _,by omega,by omega,HZ1,S1,HM1,HB1⟩
   case round=>
    clear S1 HZ1 HM1 HB1
    rename World=>wk
    obtain ⟨bs,dk,rfl,hbs,hbs2,hkx,HD,S1,HM,HB⟩:=hrel
    by_cases hlt:bs<n
    ·have hltz:(bs:Int)<(n:Int):=by omega
     go_wp2_with fail
     go_loopg [7,8] n (fun ky s7 s8 wr=>∃(a:Nat) (dj:Array α),s7=.int .i64 a∧s8=.int .i64 ((a:Int)+2*(bs:Int))∧a≤n∧n-a≤ky∧Hid (dj.size=n)∧Aside (SWK enc k w0 blk off dj wr)∧Hid (Moved (ltOf cf) 0 n d dj)∧Hid (BlkT (ltOf cf) (2*bs) a dj)∧Hid (BlkF (ltOf cf) bs n a dj)∧Hid (∃q,a=q*(2*bs)))
     case atStart=>exact ⟨0,dk,rfl,by simp,by omega,by omega,HD,S1,HM,qd (blk_zero _ (by omega) _),HB,qd ⟨0,by omega⟩⟩
     case round=>
      clear S1 HD HM HB
      rename World=>wj
      obtain ⟨a,dj,rfl,rfl,han,hky,HD,S1,HM,HB,HF,HQ⟩:=hrel
      by_cases hl2:a+2*bs≤n
      ·have hl2z:(a:Int)+2*(bs:Int)≤(n:Int):=by omega
       obtain ⟨q,hq⟩:=HQ.out
       have hv:=blk_two hq HF.out (by omega) (by omega)
       rw [Nat.min_eq_left hl2] at hv
       have HQ2:=qd hq
       clear hq
       have hcall:=HSM.out (2*bs+1) a (a+bs) (a+2*bs) dj wj (by omega) (by rw [HS.out,HD.out,HN.out]) S1.out (by omega) (by omega) (by rw [HD.out];exact hl2) (by rw [HD.out];omega) hv.1 hv.2
       rw [HD.out,show ((a+bs:Nat):Int)=(a:Int)+(bs:Int) by omega,show ((a+2*bs:Nat):Int)=(a:Int)+2*(bs:Int) by omega] at hcall
       clear S1 hv
       go_wp2_with (go_at_fn 137;refine hcall.mono ?_;rintro e w1 ⟨rfl,d',hd',hd'',S2⟩;have HD2:=qd hd';have HD3:=qd hd'';have S2:Aside _:=S2;clear hd' hd'')
       go_roundg (n-(a+2*bs))
       case measure=>omega
       case rel=>exact ⟨a+2*bs,d',by congr 1,by congr 1,hl2,Nat.le_refl _,qd (HD2.out.size.trans HD.out),S2,qd (HM.out.trans (HD2.out.wide (Nat.zero_le _) hl2 (by omega) (by rw [HD.out];exact Nat.le_refl _))),qd (blk_step HQ2.out (by omega) HB.out HD2.out HD3.out),qd (blkF_keep HF.out HD2.out (by omega)),qd ⟨q+1,by rw [Nat.add_mul,←HQ2.out];omega⟩⟩
      ·have hl2z:¬(a:Int)+2*(bs:Int)≤(n:Int):=by omega
       obtain ⟨q,hq⟩:=HQ.out
       by_cases hl3:a+bs<n
       ·have hl3z:(a:Int)+(bs:Int)<(n:Int):=by omega
        have hv:=blk_two hq HF.out hl3 (by omega)
        rw [Nat.min_eq_right (by omega)] at hv
        have HQ2:=qd hq
        clear hq
        have hcall:=HSM.out (2*bs+1) a (a+bs) n dj wj (by omega) (by rw [HS.out,HD.out,HN.out]) S1.out (by omega) hl3 (by rw [HD.out];exact Nat.le_refl _) (by rw [HD.out];omega) hv.1 hv.2
        rw [HD.out,show ((a+bs:Nat):Int)=(a:Int)+(bs:Int) by omega] at hcall
        clear S1 hv
        go_wp2_with (go_at_fn 137;refine hcall.mono ?_;rintro e w1 ⟨rfl,d',hd',hd'',S2⟩;have HD2:=qd hd';have HD3:=qd hd'';have S2:Aside _:=S2;clear hd' hd'')
        go_roundg (n-bs*2)
        case measure=>omega
        case rel=>exact ⟨bs*2,d',by congr 1,by omega,by omega,Nat.le_refl _,qd (HD2.out.size.trans HD.out),S2,qd (HM.out.trans (HD2.out.wide (Nat.zero_le _) (Nat.le_refl _) han (by rw [HD.out];exact Nat.le_refl _))),qd (by rw [Nat.mul_comm bs 2];exact blk_end HQ2.out HB.out han (by omega) HD2.out HD3.out)⟩
       ·have hl3z:¬(a:Int)+(bs:Int)<(n:Int):=by omega
        have HL:=qd (blk_last hq HF.out han (by omega))
        have HQ2:=qd hq
        clear hq
        go_wp2_with fail
        go_roundg (n-bs*2)
        case measure=>omega
        case rel=>exact ⟨bs*2,dj,by congr 1,by omega,by omega,Nat.le_refl _,HD,S1,HM,qd (by rw [Nat.mul_comm bs 2];exact blk_end HQ2.out HB.out han (by omega) (Moved.refl _ _ _) HL.out)⟩
    ·have hltz:¬(bs:Int)<(n:Int):=by omega
     go_wp2
     go_end0
     exact ⟨rfl,dk,HM.out,blk_all HB.out (by omega),S1⟩
end Go.Proofs.YtcnebdjhhfnmoaaGreatDoor.Ir
